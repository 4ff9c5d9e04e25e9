import PyProof.Rows.All
import Wide.All
import OpenK.AllK
import Wide.FinOn
import Lean
import PyProof.EqAt
import PyProof.EqKinds
import PyProof.TupleCall
import PySem.Challenge.RW_mustmeet_k44_whole_told_otherwise
set_option Elab.async false
set_option linter.all false
set_option maxRecDepth 100000
open List renaming getElem?_eq_getElem→IM,getElem?_eq_some_iff→IQ,length_append→KW,length_map→Pd,mem_cons_of_mem→SX,length_pos_iff→S3,idxOf_lt_length_of_mem→Vh,mem_cons→Vi,mem_cons_self→Vj,mem_singleton→Vk,size_toArray→Vl,getD_eq_getElem?_getD→Xv,length_take→Xw,map_append→X9,mem_of_getElem?→Ya,getElem?_map→Yb,length_drop→Yc,mem_append→Yi,not_mem_nil→Yl,map_cons→Ym,take_of_length_le→Yn,length_reverse→Yo,mem_map→Yp,mem_append_right→Yq,length_cons→Ys,filter_cons_of_neg→Yt,nodup_cons→Yw,getElem_mem→YA,flatMap_cons→YB,filter_cons_of_pos→YC,getElem?_append_left→YD,mem_flatMap→YF,lookup_cons→YG,mem_filter→YI,take_append_drop→YM,flatMap_append→YN,drop_eq_getElem_cons→YR,map_map→YT,getElem_idxOf→YU,append_nil→YW,pairwise_map→YY,nodup_append→YZ,length_eq_zero_iff→Y0,getElem?_append_right→Y1,append_assoc→Y5,getElem?_eq_none→Y6,mem_range→Y9,range_succ→Y_,take_length→Za,getElem?_drop→Zb,mem_append_left→Zc,drop_of_length_le→Zd,any_cons→Ze,mem_reverse→Zg,pairwise_cons→Zh,pairwise_iff_getElem→Zi,find?_cons→Zj,pairwise_append→Zl,mem_of_mem_take→Zm,dropLast_concat→Zn,sum_cons→Zr,map_reverse→Zt,filter_append→Zx,foldl_cons→ZC,getElem?_reverse→ZG,flatten_cons→ZI,getLast?_eq_getElem?→ZL,getElem?_take→ZP,eraseIdx_cons_succ→ZR,lt_irrefl→ZT,flatMap_singleton→ZU,drop_eq_nil_of_le→ZV,mem_of_mem_drop→ZZ,eq_nil_of_length_eq_zero→Z0,forIn_cons→Z4,map_congr_left→Z6,getElem_of_mem→Z7,nodup_nil→Z_,reverse_perm→Qaa,map_id→Qab,length_range→Qac,idxOf_append→Qad,foldl_append→Qae,ext_getElem?→Qaf,getElem_map→Qak,all_eq_true→Qal,sum_replicate_nat→Qaw,head?_eq_getElem?→Qax,idxOf_cons→Qa3,perm_append_comm→Qa6,length_filter_le→Qa7,cons_lt_cons_iff→Qa8,replicate_succ→Qbb,filterMap_cons→Qbc,take_sublist→Qbp,take_add_one→Qbq,filter_congr→Qbr,any_eq_false→Qbs,perm_middle→Qby,flatMap_nil→Qbz,of_mem_zip→Qb2
open Nat renaming le_refl→SY,zero_le→Xy,ne_of_lt→Yk,lt_of_lt_of_le→Yr,le_trans→Yv,lt_of_le_of_lt→Yx,le_of_lt→YE,lt_irrefl→YK,min_eq_left→Y2,min_eq_right→Y4,succ_le_succ→Y7,mod_eq_of_lt→Zf,mul_comm→Zk,lt_succ_self→Zs,le_succ→Zu,lt_or_gt_of_ne→Zv,dvd_of_mod_eq_zero→Zw,max_eq_left→ZA,le_of_ble_eq_true→ZF,lt_succ_of_lt→ZH,max_eq_right→ZJ,lt_trans→ZK,mod_lt→ZO,succ_mul→ZS,succ_ne_zero→ZY,div_add_mod→Z3,lt_asymm→Z8,succ_ne_self→Qaj,zero_add→Qau,ne_of_gt→Qav,not_lt_zero→Qa0,mod_add_div→Qa1,le_antisymm→Qa2,div_lt_iff_lt_mul→Qa5,le_of_dvd→Qbg,mod_eq_sub_mod→Qbl,add_zero→Qbn,add_comm→Qbo,le_of_not_lt→Qbx,mul_pos→Qb1
open PySem.Heap renaming get?_push_of_some→S0,get?_push_size→Yf,lt_size→Yh,get?_update_other→Yy,get?_update_self→YQ,size_push→Z2
open Int renaming toNat_natCast→Xx,emod_eq_of_lt→Yu,natCast_add→YO,emod_lt_of_pos→YV,emod_nonneg→Y3,zero_add→Zo,add_emod_right→Zy,sub_zero→ZW,emod_emod_of_dvd→Z1,add_mul_emod_self_left→kb,add_assoc→Qai,natCast_emod→Qam,natCast_ediv→Qan,add_zero→Qay,natCast_mul→Qa4,emod_add_mul_ediv→Qa9,natCast_nonneg→Qbm,sub_emod→Qbu,emod_add_emod→Qbv,add_comm→Qbw
open PySem renaming boot_len→X_,mem_of_lookup→ZM
open PySem.F renaming plainAttrs_str→Ye,plainAttrs_list→Yz,slot_str_join→YJ,type_str_join→YX,plain_max_loop→Y8,type_list_append→Zp,slot_list_append→Zq,type_list_pop→ZD,slot_list_pop→ZE,plain_list_iadd→ZQ,type_str_islower→Qag,slot_str_islower→Qah,type_str_lower→Qap,type_str_index→Qaq,slot_str_lower→Qar,slot_str_index→Qas,entry_max_loop→Qat
open Option.some renaming inj→Yg
open Bool renaming false_ne_true→Yj,and_eq_true→YH,false_eq_true→Zz,eq_iff_iff→Z5,or_false→Qbi,not_true→Qbj,false_or→Qbk,decide_and→Qb3
open PyProof.Rows renaming callWith_type1→YL,slot_tuple_getitem→ZX
open PySem.W renaming mg_none_of→YS,callWith_K→Z9,mg_of→Qbf
open List.Pairwise renaming imp_of_mem→ZN,imp→Qbt
open Array renaming toList_inj→Qao,length_toList→Qbe
open Option renaming map_some→Qaz
open List.Perm renaming refl→Qba
open PySem.Calls renaming callWith_builtin→Qbd
open Int.ofNat renaming inj→Qbh
open PySem.Heap.SameBut renaming update→Qb0
namespace L2
open PySem PySem.Spec PyProof.Rows
abbrev Key:=Sum Int Str
noncomputable def ql:Key->Value->Bool
 | .inl k,v=>Value.isInt k v
 | .inr x,v=>Value.isStrOf x v
noncomputable def Qo (w:World):Key->Int
 | .inl k=>hashInt k
 | .inr x=>hashStr w x
theorem cj: ∀{k:Key} {v:Value},ql k v=true->(∃i t,k=Sum.inl i/\v=Value.int i t)\/(∃x t,k=Sum.inr x/\v=Value.str x t)
 | .inl i,v,h=>by
  obtain ⟨t,e⟩:=Value.isInt_shape (k:=i) (v:=v) h
  exact .inl ⟨i,t,rfl,e⟩
 | .inr x,v,h=>by
  obtain ⟨t,e⟩:=Value.isStrOf_shape (x:=x) (v:=v) h
  exact .inr ⟨x,t,rfl,e⟩
theorem zJ (i:Int) (t:Tok):ql (.inl i) (.int i t)=true:=by simp[ql,Value.isInt]
theorem zK (x:Str) (t:Tok):ql (.inr x) (.str x t)=true:=by simp[ql,Value.isStrOf]
theorem HR (a b:Int):decide ((Sum.inl a:Key)=Sum.inl b)=(a==b):=by
 by_cases e:a=b
 ·subst e;simp
 ·have h: ¬(Sum.inl a:Key)=Sum.inl b:=fun q=>e (Sum.inl.inj q)
  rw[decide_eq_false h]
  exact (beq_eq_false_iff_ne.mpr e).symm
theorem HS (a b:Str):decide ((Sum.inr a:Key)=Sum.inr b)=decide (a=b):=by
 by_cases e:a=b
 ·subst e;simp
 ·have h: ¬(Sum.inr a:Key)=Sum.inr b:=fun q=>e (Sum.inr.inj q)
  rw[decide_eq_false h,decide_eq_false e]
theorem HU (a:Int) (b:Str):decide ((Sum.inl a:Key)=Sum.inr b)=false:=decide_eq_false (fun q=>nomatch q)
theorem HV (a:Str) (b:Int):decide ((Sum.inr a:Key)=Sum.inl b)=false:=decide_eq_false (fun q=>nomatch q)
noncomputable def cF (prog:Program) (w:World):PySem.KeyKind prog w Key where
 is:=ql
 hash:=Qo w
 inj:=fun v a b ha hb=>by
  rcases cj ha with ⟨i,t,rfl,rfl⟩ | ⟨x,t,rfl,rfl⟩
  ·rcases cj hb with ⟨j,u,rfl,e⟩ | ⟨y,u,rfl,e⟩
   ·injection e with e1 _;rw[e1]
   ·exact nomatch e
  ·rcases cj hb with ⟨j,u,rfl,e⟩ | ⟨y,u,rfl,e⟩
   ·exact nomatch e
   ·injection e with e1 _;rw[e1]
 byValue:=fun k v h=>by
  rcases cj h with ⟨i,t,rfl,rfl⟩ | ⟨x,t,rfl,rfl⟩<;>rfl
 pyHash:=fun hv h=>by
  rcases cj hv with ⟨i,t,rfl,rfl⟩ | ⟨x,t,rfl,rfl⟩
  ·exact wpAny_pyHash_int h
  ·exact wpAny_pyHash_str h
 eqBool:=fun hu hv h=>by
  rcases cj hu with ⟨i,t,rfl,rfl⟩ | ⟨x,t,rfl,rfl⟩
  ·rcases cj hv with ⟨j,u,rfl,rfl⟩ | ⟨y,u,rfl,rfl⟩
   ·rw[HR]at h;exact wpAny_eqBool_int h
   ·rw[HU]at h;exact SeqAt.EqAt.int_str i t y u _ _ _ _ h
  ·rcases cj hv with ⟨j,u,rfl,rfl⟩ | ⟨y,u,rfl,rfl⟩
   ·rw[HV]at h;exact SeqAt.EqAt.str_int x t j u _ _ _ _ h
   ·rw[HS]at h;exact wpAny_eqBool_str h
 «strs» :=fun k x t v h=>by
  rcases cj h with ⟨i,u,rfl,e⟩ | ⟨y,u,rfl,e⟩
  ·exact nomatch e
  ·injection e with e1 _
   subst e1
   cases v<;>rfl
theorem ui (prog:Program) (w:World) (i:Int) (t:Tok):(cF prog w).is (.inl i) (.int i t)=true:=zJ i t
theorem uj (prog:Program) (w:World) (x:Str) (t:Tok):(cF prog w).is (.inr x) (.str x t)=true:=zK x t
inductive V where
 | fH | bl (b:Bool) | int (i:Int) | str (x:Str) | yj (b:Array UInt8) | OX (b:UInt64) | ref (a:Addr) | ty (n:String)
 deriving DecidableEq
def RelV:V->Value->Prop
 | .fH,u=>u=Value.none
 | .bl b,u=>u=Value.bool b
 | .int i,u=> ∃t,u=Value.int i t
 | .str x,u=> ∃t,u=Value.str x t
 | .yj b,u=> ∃t,u=Value.bytes b t
 | .OX b,u=> ∃t,u=Value.float b t
 | .ref a,u=>u=Value.ref a
 | .ty n,u=>u=Value.type n
abbrev Vals:List V->List Value->Prop:=Paired RelV
theorem Vals.length {xs:List V} {us:List Value} (r:Vals xs us):xs.length=us.length:=Paired.length r
theorem Vals.get: ∀{xs:List V} {us:List Value} {i:Nat} {x:V},Vals xs us->xs[i]? =some x-> ∃u,us[i]? =some u/\RelV x u
 | _,_,_,_, .nil,e=>by simp at e
 | _,_,0,_, .cons r _,e=>by simp at e;subst e;exact ⟨_,rfl,r⟩
 | _,_,i+1,x, .cons _ t,e=>by
  obtain ⟨u,h1,h2⟩:=Vals.get (i:=i) (x:=x) t (by simpa using e)
  exact ⟨u,by simpa using h1,h2⟩
theorem Vals.set {x:V} {u:Value} (r:RelV x u): ∀{xs:List V} {us:List Value} (i:Nat),Vals xs us->Vals (xs.set i x) (us.set i u)
 | _,_,_, .nil=> .nil
 | _,_,0, .cons _ t=> .cons r t
 | _,_,i+1, .cons q t=> .cons q (Vals.set r i t)
theorem Vals.append: ∀{xs ys:List V} {us ws:List Value},Vals xs us->Vals ys ws->Vals (xs++ys) (us++ws)
 | _,_,_,_, .nil,s=>s
 | _,_,_,_, .cons r t,s=> .cons r (Vals.append t s)
theorem Vals.take: ∀{xs:List V} {us:List Value} (n:Nat),Vals xs us->Vals (xs.take n) (us.take n)
 | _,_,0,_=> .nil
 | _,_,_+1, .nil=> .nil
 | _,_,n+1, .cons r t=> .cons r (Vals.take n t)
theorem Vals.drop: ∀{xs:List V} {us:List Value} (n:Nat),Vals xs us->Vals (xs.drop n) (us.drop n)
 | _,_,0,r=>r
 | _,_,_+1, .nil=> .nil
 | _,_,n+1, .cons _ t=>Vals.drop n t
def lD:Option V->Option Value->Prop
 | some v,some u=>RelV v u
 | none,none=>True
 | _,_=>False
def KV {κ:Type}:List (κ×V)->List (κ×Value)->Prop:=Paired fun (p:κ×V) (q:κ×Value)=>p.1=q.1/\RelV p.2 q.2
noncomputable def kV:Key->V
 | .inl i=> .int i
 | .inr x=> .str x
inductive HO where
  | lst (xs:List V)
  | tup (xs:List V)
  | dK (aQ:List (Key×V)) | dT (aQ:List (List Key×V))
  | set (S:Int->Bool) (n:Nat)
  | ins (C dx:Addr) (fs:List (Str×V))
  | own (x:Addr)
  | xd (fs:List (Str×V))
  | met (f x:Addr)
  | Qp (lo hi:Int)
  | Ed (o:Obj) (u:HO)
  | HW (ps:Array Value)
  | ext (φ:Heap->Prop)
abbrev Hp:=Addr->Option HO
noncomputable def upd (H:Hp) (a:Addr) (o:HO):Hp:=fun b=>if b=a then some o else H b
theorem ah {H:Hp} {a:Addr} {o:HO}:upd H a o a=some o:=by unfold upd;rw[if_pos rfl]
theorem aC {H:Hp} {a b:Addr} {o:HO} (h:b≠a):upd H a o b=H b:=by unfold upd;rw[if_neg h]
theorem Mp {H:Hp} {a b:Addr} {o u:HO} (h:H a=some o) (h':H b=some u) (d:o≠u):a≠b:=by
 intro e;subst e;rw[h]at h';exact d (Yg h')
theorem aA {H:Hp} {a b:Addr} {o:HO} (h:H a=some o) (h':H b=none):a≠b:=by
 intro e;subst e;rw[h]at h';cases h'
section
variable (P:Program) (w:World)
def cX (H:Hp) (h:Heap) (a:Addr):HO->Prop
 | .lst xs=>xs.length<=sizeLine/\ ∃(aJ:List Value) (n:Nat),Vals xs aJ/\h.get? a=some { cls:= .type "list",data:= .seq aJ.toArray n }
 | .tup xs=>xs.length<=sizeLine/\ ∃aJ:List Value,Vals xs aJ/\IsTup h a aJ.toArray
 | .dK aQ=>aQ.length<=sizeLine/\(a==sysModules)=false/\ ∃vs,KV aQ vs/\h.DictOf (cF P w) a vs
 | .dT aQ=>aQ.length<=sizeLine/\(a==sysModules)=false/\ ∃xs:List (List Key×Addr×Value),
   Paired (fun (p:List Key×V) (q:List Key×Addr×Value)=>p.1=q.1/\H q.2.1=some (.tup (p.1.map kV))/\RelV p.2 q.2.2) aQ xs/\
   ∃o es ep,h.get? a=some o/\o.ExactDict/\o.data= .dict es ep/\es.toList=xs.map (entryOfKey (tupleKind (cF P w)))/\(xs.map (·.1)).Nodup
 | .set S n=>h.SetOf (intKind P w) a S n
 | .ins C dx fs=>H dx=some (.own a)/\fs.length<=1000/\dx≠a/\h.get? a=some (PySem.W.instObj C dx)/\
   ∃mA,h.Ns1 dx mA/\(∀f,lD (fs.lookup f) (mA f))/\PySem.Within mA (fs.map (·.1))
 | .own _=> ∃o,h.get? a=some o
 | .xd fs=> ∃mA,h.Ns1 a mA/\ ∀f,lD (fs.lookup f) (mA f)
 | .Qp lo hi=> ∃t u v,h.get? a=some { cls:= .type "range",data:= .fields #[.int lo t, .int hi u, .int 1 v] }
 | .Ed o u=>h.get? a=some o/\cX H h a u
 | .HW ps=>h.get? a=some { cls:= .none,data:= .fields ps }
 | .met f x=>h.get? a=some (PySem.W.methodObj (.ref f) (.ref x))
 | .ext φ=>φ h/\(∃o,h.get? a=some o)/\ ∀h1 h2:Heap,φ h1->(∀o,h1.get? a=some o->h2.get? a=some o)->φ h2
def jM (H:Hp) (h:Heap):Prop:= ∀a o,H a=some o->cX P w H h a o
end
section
variable {P:Program} {w:World} {H H':Hp} {h h':Heap} {a:Addr} {o:HO}
theorem cX.lt (x:cX P w H h a o):a<h.objs.size:=by
 cases o with
 | lst xs=>obtain ⟨_,_,_,_,e⟩:=x;exact Yh e
 | tup xs=>obtain ⟨_,_,_,p⟩:=x;exact p.lt
 | dK aQ=>obtain ⟨_,_,_,_,o,_,_,e,_⟩:=x;exact Yh e
 | dT aQ=>obtain ⟨_,_,_,_,o,_,_,e,_⟩:=x;exact Yh e
 | set S n=>obtain ⟨o,_,_,_,e,_⟩:=x;exact Yh e
 | ins C dx fs=>obtain ⟨_,_,_,e,_⟩:=x;exact Yh e
 | own y=>obtain ⟨_,e⟩:=x;exact Yh e
 | xd fs=>obtain ⟨_,⟨_,_,_,e,_⟩,_⟩:=x;exact Yh e
 | Qp lo hi=>obtain ⟨_,_,_,e⟩:=x;exact Yh e
 | Ed ob u=>obtain ⟨e,_⟩:=x;exact Yh e
 | HW ps=>exact Yh (show h.get? a=some _ from x)
 | met f y=>exact Yh (show h.get? a=some _ from x)
 | ext φ=>obtain ⟨_,⟨_,e⟩,_⟩:=x;exact Yh e
theorem Paired.HX {α β:Type} {F G:α->β->Prop}: ∀{l₁:List α} {l₂:List β},Paired F l₁ l₂->(∀a b,F a b->G a b)->Paired G l₁ l₂
 | _,_, .nil,_=> .nil
 | _,_, .cons r t,f=> .cons (f _ _ r) (Paired.HX t f)
theorem cX.uk (x:cX P w H h a o) (k: ∀b u,(b=a\/H b=some (.own a))->h.get? b=some u->h'.get? b=some u)
  (ho: ∀b,H b=some (.own a)->H' b=some (.own a)) (ht: ∀b xs,H b=some (.tup xs)->H' b=some (.tup xs)):cX P w H' h' a o:=by
 induction o with
 | lst xs=>obtain ⟨z,aJ,n,r,e⟩:=x;exact ⟨z,aJ,n,r,k _ _ (.inl rfl) e⟩
 | tup xs=>obtain ⟨z,aJ,r,ob,e,c⟩:=x;exact ⟨z,aJ,r,ob,k _ _ (.inl rfl) e,c⟩
 | dK aQ=>obtain ⟨z,y,vs,r,ob,es,ep,e,c⟩:=x;exact ⟨z,y,vs,r,ob,es,ep,k _ _ (.inl rfl) e,c⟩
 | dT aQ=>
  obtain ⟨z,y,xs,r,ob,es,ep,e,c⟩:=x
  exact ⟨z,y,xs,Paired.HX r fun p q z=>⟨z.1,ht _ _ z.2.1,z.2.2⟩,ob,es,ep,k _ _ (.inl rfl) e,c⟩
 | set S n=>obtain ⟨ob,es,ep,t,e,c⟩:=x;exact ⟨ob,es,ep,t,k _ _ (.inl rfl) e,c⟩
 | ins C dx fs=>
  obtain ⟨d,z,ne,e,mA,⟨od,es,ep,e2,c⟩,r⟩:=x
  exact ⟨ho _ d,z,ne,k _ _ (.inl rfl) e,mA,⟨od,es,ep,k _ _ (.inr d) e2,c⟩,r⟩
 | own y=>obtain ⟨ob,e⟩:=x;exact ⟨ob,k _ _ (.inl rfl) e⟩
 | xd fs=>obtain ⟨mA,⟨od,es,ep,e,c⟩,r⟩:=x;exact ⟨mA,⟨od,es,ep,k _ _ (.inl rfl) e,c⟩,r⟩
 | Qp lo hi=>obtain ⟨t,u,v,e⟩:=x;exact ⟨t,u,v,k _ _ (.inl rfl) e⟩
 | Ed ob u ih=>obtain ⟨e,q⟩:=x;exact ⟨k _ _ (.inl rfl) e,ih q⟩
 | HW ps=>
  have e:h.get? a=some { cls:= .none,data:= .fields ps }:=x
  show h'.get? a=some { cls:= .none,data:= .fields ps }
  exact k a _ (.inl rfl) e
 | met f y=>
  have e:h.get? a=some (PySem.W.methodObj (.ref f) (.ref y)):=x
  show h'.get? a=some (PySem.W.methodObj (.ref f) (.ref y))
  exact k a _ (.inl rfl) e
 | ext φ=>obtain ⟨p,⟨o,e⟩,st⟩:=x;exact ⟨st _ _ p fun o q=>k _ _ (.inl rfl) q,⟨o,k _ _ (.inl rfl) e⟩,st⟩
theorem jM.lt (x:jM P w H h) (e:H a=some o):a<h.objs.size:=(x a o e).lt
theorem jM.fresh (x:jM P w H h) (e:h.objs.size<=a):H a=none:=by
 cases q:H a with
 | none=>rfl
 | some u=>exact absurd (Yr (x.lt q) e) (YK _)
theorem jM.kept (x:jM P w H h) (k: ∀b u,h.get? b=some u->h'.get? b=some u):jM P w H h':=fun a o e=>
 (x a o e).uk (fun b u _ q=>k b u q) (fun _ q=>q) fun _ _ q=>q
theorem jM.laid (x:jM P w H h) (k: ∀b u,h.get? b=some u->h'.get? b=some u) (hp:h.objs.size<=a) (new:cX P w (upd H a o) h' a o):jM P w (upd H a o) h':=fun b u e=>by
 have hn:=x.fresh hp
 by_cases hb:b=a
 ·subst hb;rw[ah]at e;cases e;exact new
 ·rw[aC hb]at e
  exact (x b u e).uk (fun c v _ q=>k c v q) (fun c q=>by rw[aC (aA q hn)];exact q) fun c xs q=>by rw[aC (aA q hn)];exact q
end
def Rd (H:Hp) (a:Addr) (u:HO):Prop:=H a=some u\/ ∃o,H a=some (.Ed o u)
theorem Rd.ok {P:Program} {w:World} {H:Hp} {h:Heap} {a:Addr} {u:HO} (r:Rd H a u) (x:jM P w H h):cX P w H h a u:=by
 rcases r with r | ⟨o,r⟩
 ·exact x a u r
 ·obtain ⟨_,q⟩:=x a _ r
  exact q
def Mq:Option HO->Prop
 | some (.lst _)=>True
 | some (.dK _)=>True
 | some (.dT _)=>True
 | some (.set _ _)=>True
 | some (.ins _ _ _)=>True
 | some (.ext _)=>True
 | _=>False
section
variable {P:Program} {w:World} {H:Hp} {h h':Heap} {x e:Addr} {o':HO}
theorem jM.write (ok:jM P w H h) (mu:Mq (H x)) (he:e=x\/H e=some (.own x)) (k: ∀b u,b≠e->h.get? b=some u->h'.get? b=some u) (KN: ∃u,h'.get? e=some u)
  (new:cX P w (upd H x o') h' x o'):jM P w (upd H x o') h':=fun b u q=>by
 have Mr: ∀c y,H c=some (.own y)->c≠x:=fun c y r z=>by subst z;rw[r]at mu;exact mu
 have Qq: ∀c xs,H c=some (.tup xs)->c≠x:=fun c xs r z=>by subst z;rw[r]at mu;exact mu
 by_cases hb:b=x
 ·subst hb;rw[ah]at q;cases q;exact new
 ·rw[aC hb]at q
  by_cases Ee:b=e
  ·have q':H b=some (.own x):=by
    rcases he with z | z
    ·exact absurd (Ee.trans z) hb
    ·rw[Ee];exact z
   rw[q]at q';cases q'
   obtain ⟨v,hv⟩:=KN
   exact ⟨v,by rw[Ee];exact hv⟩
  ·refine (ok b u q).uk (fun c v hc r=>k c v ?_ r) (fun c r=>by rw[aC (Mr c b r)];exact r) fun c xs r=>by rw[aC (Qq c xs r)];exact r
   rcases hc with rfl | hc
   ·exact Ee
   ·rintro rfl
    rcases he with z | z
    ·exact Mr c b hc z
    ·rw[hc]at z;cases z;exact hb rfl
end
structure Un (fs ex:List Addr) (H H':Hp) (h h':Heap):Prop where
 keep: ∀b o,h.get? b=some o->H b=none->b∉fs->b∉ex->h'.get? b=some o
 slot: ∀b o,h.get? b=some o->H b=none->b∈fs->b∉ex-> ∃sl,h'.get? b=some { o with slots:=sl }
 free: ∀b o,h.get? b=some o->H b=none->b∉ex->H' b=none
 there: ∀b o,h.get? b=some o->b∉ex-> ∃o',h'.get? b=some o'
 pJ: ∀b xs,H b=some (.tup xs)->H' b=some (.tup xs)
 nI: ∀b o u,H b=some (.Ed o u)->H' b=some (.Ed o u)
 rF: ∀b ps,H b=some (.HW ps)-> ∃more,H' b=some (.HW (ps++more))
section
variable {fs UX ex Xp:List Addr} {H H1 H2:Hp} {h h1 h2 h':Heap} {a x e:Addr} {o:HO}
theorem Un.any (u:Un fs ex H H1 h h1) {b:Addr} {ob:Obj} (q:h.get? b=some ob) (n:H b=none) (hx:b∉ex): ∃sl,h1.get? b=some { ob with slots:=sl }:=by
 by_cases hb:b∈fs
 ·exact u.slot b ob q n hb hx
 ·exact ⟨ob.slots,u.keep b ob q n hb hx⟩
theorem Un.kept (k: ∀b u,h.get? b=some u->h'.get? b=some u):Un fs ex H H h h':=
 ⟨fun b ob q _ _ _=>k b ob q,fun b ob q _ _ _=>⟨ob.slots,k b ob q⟩,fun _ _ _ n _=>n,fun b ob q _=>⟨ob,k b ob q⟩,fun _ _ q=>q,fun _ _ _ q=>q,fun _ ps q=>⟨#[],by rw[q];simp⟩⟩
theorem Un.refl:Un fs ex H H h h:=Un.kept fun _ _ q=>q
theorem Un.laid (k: ∀b u,h.get? b=some u->h'.get? b=some u) (hp:h.objs.size<=a) (hn:H a=none):Un fs ex H (upd H a o) h h' where
 keep:=fun b u q _ _ _=>k b u q
 slot:=fun b u q _ _ _=>⟨u.slots,k b u q⟩
 free:=fun b u q n _=>by rw[aC (Yk (Yr (Yh q) hp))];exact n
 there:=fun b u q _=>⟨u,k b u q⟩
 pJ:=fun b xs q=>by rw[aC (aA q hn)];exact q
 nI:=fun b u xs q=>by rw[aC (aA q hn)];exact q
 rF:=fun b ps q=>⟨#[],by rw[aC (aA q hn),q];simp⟩
theorem Un.write (mu:Mq (H x)) (he:e=x\/H e=some (.own x)) (k: ∀b u,b≠e->h.get? b=some u->h'.get? b=some u) (KN: ∃u,h'.get? e=some u):Un fs ex H (upd H x o) h h':=by
 have hx: ∀b,H b=none->b≠x:=fun b n z=>by subst z;rw[n]at mu;exact mu
 have hb: ∀b,H b=none->b≠e:=fun b n z=>by
  subst z
  rcases he with r | r
  ·exact hx b n r
  ·rw[n]at r;cases r
 have hm: ∀b u,H b=some u-> ¬Mq (some u)->b≠x:=fun b u q nm z=>by subst z;rw[q]at mu;exact nm mu
 refine ⟨fun b u q n _ _=>k b u (hb b n) q,fun b u q n _ _=>⟨u.slots,k b u (hb b n) q⟩,fun b u q n _=>by rw[aC (hx b n)];exact n,fun b u q _=>?_,
  fun b xs q=>by rw[aC (hm b _ q fun z=>z)];exact q,fun b u xs q=>by rw[aC (hm b _ q fun z=>z)];exact q,fun b ps q=>⟨#[],by rw[aC (hm b _ q fun z=>z),q];simp⟩⟩
 by_cases Ee:b=e
 ·subst Ee;exact KN
 ·exact ⟨u,k b u Ee q⟩
end
noncomputable def OY (h:Heap) (H:Hp):List Addr:=(List.range h.objs.size).filter fun a=>(H a).isSome
noncomputable def rG (h:Heap) (H:Hp):Heap:=PySem.W.hideAll h (OY h H)
theorem zL (h:Heap) (H:Hp):(rG h H).objs.size=h.objs.size:=PySem.W.hideAll_size _ _
theorem Bi {h:Heap} {H:Hp} {b:Addr} {o:Obj} (e:h.get? b=some o) (n:H b=none):(rG h H).get? b=some o:=
 PySem.W.hideAll_get _ e fun hm=>by
  have q:(H b).isSome=true:=(YI.mp hm).2
  rw[n]at q;simp at q
theorem EA {h:Heap} {H:Hp} {b:Addr} {o:Obj} (e:(rG h H).get? b=some o):h.get? b=some o/\H b=none:=by
 have e':h.get? b=some o:=PySem.W.of_hideAll (OY h H) e
 refine ⟨e',?_⟩
 cases q:H b with
 | none=>rfl
 | some x=>
  have hm:b∈OY h H:=YI.mpr ⟨Y9.mpr (Yh e'),by simp[q]⟩
  have z:(rG h H).get? b=none:=PySem.W.hideAll_none (OY h H) hm
  rw[z]at e;cases e
structure Mod (K:PySem.W.Frag) (mg:Str->Option Value) (base:Heap):Prop where
 KO:K.In base
 glob:base.Ns mainGlobals mg
 blt: ∃mb,base.Ns builtinsNs mb/\ ∀x:Str,x≠"__name__"->mb x=bootBuiltins x
 nolimit:base.NoLimit
structure Cx where
 prog:Program
 w:World
 K:PySem.W.Frag
 mg:Str->Option Value
 base:Heap
 A:Around
 N:List Str
 s₀:Shared
 H₀:Hp
 env:Env
 outer:List Env
 stack:List Env
 ex:List Addr
 fn:Str->Bool
 calm:Bool
 pn:List (Addr×Obj)
 xe:Value->Shared->Prop
noncomputable def yk (l:List Env):List Addr:=l.filterMap (·.frame)
noncomputable abbrev Cx.fs (X:Cx):List Addr:=yk X.outer
def Ms (sc:Scope) (x:Str):Prop:=sc.names.lookup x=some .local\/sc.names.lookup x=some .cell\/sc.names.lookup x=some .free
def Loc (sc:Scope) (x:Str):Prop:=sc.names.lookup x=some .local\/sc.names.lookup x=some .cell
def Look (env:Env) (h:Heap) (m:Str->Option Value) (x:Str) (u:Value):Prop:=
 (env.kindOf x=some .local/\m x=some u)\/((env.kindOf x=some .cell\/env.kindOf x=some .free)/\ ∃c,env.cells.lookup x=some c/\h.IsCell c (some u))
structure Cx.Ok (X:Cx):Prop where
 mod:Mod X.K X.mg X.base
 kind:X.env.scope.kind= .function
 glob:X.env.globals=mainGlobals
 blt:X.env.builtins=builtinsNs
 above:X.s₀.heap.objs.size<=X.env.locals
 inj: ∀x y c,X.env.cells.lookup x=some c->X.env.cells.lookup y=some c->x=y
 has: ∀x,(X.env.kindOf x=some .cell\/X.env.kindOf x=some .free)-> ∃c,X.env.cells.lookup x=some c
 Mt: ∀x c,X.fn x=true->X.env.cells.lookup x=some c->X.s₀.heap.objs.size<=c
 hd:X.calm=true->X.A.handled=none
 frames:X.A.frames=some X.stack
 OZ:X.stack=X.outer\/(X.stack=X.env::X.outer/\X.env.frame=some X.env.locals)
 SD: ∀b∈X.ex,b≠X.env.locals/\ ∀x c,X.env.cells.lookup x=some c->c≠b
 bs: ∀b o,X.base.get? b=some o->X.s₀.heap.get? b=some o/\X.H₀ b=none
 EB:X.base.objs.size<=X.s₀.heap.objs.size
 Bj: ∀b o,X.base.get? b=some o->b∉X.ex
 EC: ∀b∈X.ex,b∉X.fs
 mN:X.s₀.heap.FunFrames X.base X.outer
 HY: ∀b∈X.fs,X.H₀ b=none
structure Inv (X:Cx) (pins:List (Addr×Obj)) (σ:List (Option V)) (H:Hp) (s:Shared):Prop where
 ok:X.Ok
 os:s.os=X.s₀.os
 bare:AllBare s.gens
 base:Un X.fs X.ex X.H₀ H X.s₀.heap s.heap
 loc: ∃m,s.heap.Ns X.env.locals m/\ ∀(i:Nat) (x:Str) (v:V),X.N[i]? =some x->σ[i]? =some (some v)->Ms X.env.scope x-> ∃u,RelV v u/\Look X.env s.heap m x u
 cell: ∀x c,X.env.cells.lookup x=some c-> ∃v,s.heap.IsCell c v
 free:H X.env.locals=none
 iJ: ∀x c,X.env.cells.lookup x=some c->H c=none
 pin: ∀p∈X.pn++pins,s.heap.get? p.1=some p.2/\H p.1=none/\p.1≠X.env.locals/\p.1∉X.fs/\ ∀v,p.2.data≠ .cell v
 b5:jM X.prog X.w H s.heap
 len:σ.length=X.N.length
section
variable {X:Cx} {pins:List (Addr×Obj)} {σ:List (Option V)} {H H':Hp} {s:Shared} {h':Heap}
theorem Cx.Ok.Qr (ok:X.Ok) {b:Addr} {o:Obj} (e:X.base.get? b=some o):b∉X.fs:=fun hb=>by
 have:=(ok.mN.mem hb).1
 rw[e]at this;cases this
theorem Inv.bs (I:Inv X pins σ H s): ∀b o,X.base.get? b=some o->s.heap.get? b=some o/\H b=none:=fun b o e=>
 ⟨I.base.keep b o (I.ok.bs b o e).1 (I.ok.bs b o e).2 (I.ok.Qr e) (I.ok.Bj b o e),I.base.free b o (I.ok.bs b o e).1 (I.ok.bs b o e).2 (I.ok.Bj b o e)⟩
theorem Inv.bk (I:Inv X pins σ H s): ∀b o,X.base.get? b=some o->s.heap.get? b=some o:=fun b o e=>(I.bs b o e).1
theorem Inv.mod (I:Inv X pins σ H s):Mod X.K X.mg X.base:=I.ok.mod
theorem Inv.zM (I:Inv X pins σ H s):X.K.In s.heap:=I.ok.mod.KO.keeps I.bk
theorem Inv.lt (I:Inv X pins σ H s):X.env.locals<s.heap.objs.size:=let ⟨_,hn,_⟩:=I.loc;hn.lt
theorem Inv.sz (I:Inv X pins σ H s):X.s₀.heap.objs.size<=s.heap.objs.size:=Yv I.ok.above (YE I.lt)
theorem Inv.HZ (I:Inv X pins σ H s) {a:Addr} (h:s.heap.objs.size<=a):a∉X.fs:=fun hb=>by
 obtain ⟨_,o,ho,_⟩:=I.ok.mN.mem hb
 exact absurd (Yr (Yh ho) (Yv I.sz h)) (YK _)
theorem Inv.H_ (I:Inv X pins σ H s): ∀x c,X.env.cells.lookup x=some c->c≠X.env.locals:=fun x c e z=>by
 obtain ⟨v,o,ho,hd⟩:=I.cell x c e
 obtain ⟨m,⟨o',es,ep,ED,Qs,_⟩,_⟩:=I.loc
 rw[z,ED]at ho;cases ho;rw[Qs]at hd;cases hd
theorem Inv.mN (I:Inv X pins σ H s):s.heap.FunFrames X.base X.outer:=by
 have all: ∀(l:List Env),(∀b∈yk l,b∈X.fs)->X.s₀.heap.FunFrames X.base l->s.heap.FunFrames X.base l:=by
  intro l
  induction l with
  | nil=>intro _ _;trivial
  | cons env r ih=>
   intro hs hl
   obtain ⟨hk,⟨L,o,hf,hn,ho,hd⟩,hr⟩:=hl
   have hL:L∈X.fs:=hs L (by unfold yk;rw[Qbc,hf];exact Vj)
   obtain ⟨sl,e⟩:=I.base.slot L o ho (I.ok.HY L hL) hL fun z=>I.ok.EC L z hL
   exact ⟨hk,⟨L,_,hf,hn,e,hd⟩,ih (fun b hb=>hs b (by unfold yk;rw[Qbc,hf];exact SX _ hb)) hr⟩
 exact all X.outer (fun _ hb=>hb) I.ok.mN
theorem Inv.stack (I:Inv X pins σ H s):s.heap.FunFrames X.base X.stack:=by
 rcases I.ok.OZ with e | ⟨e,hf⟩
 ·rw[e];exact I.mN
 ·rw[e]
  obtain ⟨m,hn,_⟩:=I.loc
  refine .cons (by rw[I.ok.kind];decide) hf hn ?_ I.mN
  exact Heap.get?_none_of_le (Yv I.ok.EB I.ok.above)
theorem Inv.nJ (I:Inv X pins σ H s): ∀b∈yk X.stack,b∈X.env.locals::X.fs:=fun b hb=>by
 rcases I.ok.OZ with e | ⟨e,hf⟩
 ·rw[e]at hb;exact SX _ hb
 ·rw[e]at hb
  unfold yk at hb
  rw[Qbc,hf]at hb
  exact hb
theorem Inv.yl (I:Inv X pins σ H s): ∀b∈yk X.stack,H b=none:=fun b hb=>by
 rcases Vi.mp (I.nJ b hb) with e | hb
 ·rw[e];exact I.free
 ·obtain ⟨_,o,ho,_⟩:=I.ok.mN.mem hb
  exact I.base.free b o ho (I.ok.HY b hb) fun z=>I.ok.EC b z hb
theorem Inv.step {g':Array GenState} {t':Nat} {d':Drawn} {ch:List Addr} (I:Inv X pins σ H s)
  (Ef: ∀b∈ch,(b∈X.ex\/X.s₀.heap.objs.size<=b)/\b≠X.env.locals/\(∀x c,X.env.cells.lookup x=some c->c≠b)/\ ∀p∈X.pn++pins,p.1≠b)
  (keep: ∀b o,b≠X.env.locals->b∉X.fs->b∉ch->s.heap.get? b=some o->H b=none->h'.get? b=some o)
  (slot: ∀b o,b≠X.env.locals->b∈X.fs->b∉ch->s.heap.get? b=some o->H b=none-> ∃sl,h'.get? b=some { o with slots:=sl }) (free: ∀b o,b∉ch->s.heap.get? b=some o->H b=none->H' b=none)
  (there: ∀b o,b∉ch->s.heap.get? b=some o-> ∃o',h'.get? b=some o')
  (pJ: ∀b xs,H b=some (.tup xs)->H' b=some (.tup xs)) (nI: ∀b o u,H b=some (.Ed o u)->H' b=some (.Ed o u)) (rF: ∀b ps,H b=some (.HW ps)-> ∃more,H' b=some (.HW (ps++more)))
  (ns: ∀m,s.heap.Ns X.env.locals m->h'.Ns X.env.locals m) (b5:jM X.prog X.w H' h') (hg:AllBare g'):
  Inv X pins σ H' { s with heap:=h',gens:=g',drawn:=d',toks:=t' }:=by
 have SE: ∀b o,X.s₀.heap.get? b=some o->b≠X.env.locals:=fun b o e=>Yk (Yr (Yh e) I.ok.above)
 have Ia: ∀b o,X.s₀.heap.get? b=some o->b∉X.ex->b∉ch:=fun b o e hx hb=>by
  rcases (Ef b hb).1 with z | z
  ·exact hx z
  ·exact absurd (Yr (Yh e) z) (YK _)
 have cellK: ∀x c,X.env.cells.lookup x=some c-> ∀v,s.heap.IsCell c v->h'.IsCell c v:=fun x c e v ⟨o,ho,hd⟩=>by
  have Mu:c∉ch:=fun z=>(Ef c z).2.2.1 x c e rfl
  by_cases hc:c∈X.fs
  ·obtain ⟨sl,q⟩:=slot c o (I.H_ x c e) hc Mu ho (I.iJ x c e)
   exact ⟨_,q,hd⟩
  ·exact ⟨o,keep c o (I.H_ x c e) hc Mu ho (I.iJ x c e),hd⟩
 refine ⟨I.ok,I.os,hg,⟨fun b o e n hb hx=>?_,fun b o e n hb hx=>?_,fun b o e n hx=>?_,fun b o e hx=>?_,fun b xs e=>pJ b xs (I.base.pJ b xs e),fun b o xs e=>nI b o xs (I.base.nI b o xs e),fun b ps e=>?_⟩,?_,fun x c e=>?_,?_,fun x c e=>?_,fun p hp=>?_,b5,I.len⟩
 ·exact keep b o (SE b o e) hb (Ia b o e hx) (I.base.keep b o e n hb hx) (I.base.free b o e n hx)
 ·obtain ⟨sl,e1⟩:=I.base.slot b o e n hb hx
  obtain ⟨UY,e2⟩:=slot b _ (SE b o e) hb (Ia b o e hx) e1 (I.base.free b o e n hx)
  exact ⟨UY,e2⟩
 ·obtain ⟨o',e1⟩:=I.base.there b o e hx
  exact free b o' (Ia b o e hx) e1 (I.base.free b o e n hx)
 ·obtain ⟨o',e1⟩:=I.base.there b o e hx
  exact there b o' (Ia b o e hx) e1
 ·obtain ⟨m1,e1⟩:=I.base.rF b ps e
  obtain ⟨m2,e2⟩:=rF b _ e1
  exact ⟨m1++m2,by rw[e2,Array.append_assoc]⟩
 ·obtain ⟨m,hn,hl⟩:=I.loc
  refine ⟨m,ns m hn,fun i x v e1 e2 e3=>?_⟩
  obtain ⟨u,r,l⟩:=hl i x v e1 e2 e3
  refine ⟨u,r,?_⟩
  rcases l with l | ⟨k,c,e,z⟩
  ·exact .inl l
  ·exact .inr ⟨k,c,e,cellK x c e _ z⟩
 ·obtain ⟨v,z⟩:=I.cell x c e
  exact ⟨v,cellK x c e v z⟩
 ·obtain ⟨m,⟨o,_,_,ho,_⟩,_⟩:=I.loc
  exact free _ o (fun z=>(Ef _ z).2.1 rfl) ho I.free
 ·obtain ⟨v,o,ho,hd⟩:=I.cell x c e
  exact free c o (fun z=>(Ef c z).2.2.1 x c e rfl) ho (I.iJ x c e)
 ·obtain ⟨e,n,ne,nf,d⟩:=I.pin p hp
  have Mu:p.1∉ch:=fun z=>(Ef p.1 z).2.2.2 p hp rfl
  exact ⟨keep p.1 p.2 ne nf Mu e n,free p.1 p.2 Mu e n,ne,nf,d⟩
theorem Inv.un {t':Nat} (I:Inv X pins σ H s) (u:Un X.fs [] H H' s.heap h') (b5:jM X.prog X.w H' h'):Inv X pins σ H' { s with heap:=h',toks:=t' }:=by
 obtain ⟨m,⟨o,es,ep,ho,r⟩,_⟩:=id I.loc
 obtain ⟨sl,hL⟩:=u.any ho I.free (by simp)
 exact I.step (g':=s.gens) (d':=s.drawn) (ch:=[]) (fun _ z=>nomatch z) (fun b o _ hb _ e n=>u.keep b o e n hb (by simp)) (fun b o _ hb _ e n=>u.slot b o e n hb (by simp)) (fun b o _ e n=>u.free b o e n (by simp)) (fun b o _ e=>u.there b o e (by simp)) u.pJ u.nI u.rF (fun m' hm=>by
  obtain ⟨o',Qt,Mv,ED,r'⟩:=hm
  rw[ho]at ED;cases ED
  exact ⟨_,Qt,Mv,hL,r'⟩) b5 I.bare
theorem Inv.call {g':Array GenState} {t':Nat} {d':Drawn} {ch:List Addr} (I:Inv X pins σ H s) (u:Un (yk X.stack) ch H H' s.heap h') (b5:jM X.prog X.w H' h') (hg:AllBare g')
  (Ef: ∀b∈ch,(b∈X.ex\/X.s₀.heap.objs.size<=b)/\b≠X.env.locals/\(∀x c,X.env.cells.lookup x=some c->c≠b)/\ ∀p∈X.pn++pins,p.1≠b):
  Inv X pins σ H' { s with heap:=h',gens:=g',drawn:=d',toks:=t' }:=by
 obtain ⟨m,⟨o,es,ep,ho,r⟩,_⟩:=id I.loc
 obtain ⟨sl,hL⟩:=u.any ho I.free fun z=>(Ef _ z).2.1 rfl
 exact I.step (ch:=ch) Ef (fun b o hL hb hc e n=>u.keep b o e n (fun z=>(Vi.mp (I.nJ b z)).elim hL hb) hc) (fun b o _ _ hc e n=>u.any e n hc) (fun b o hc e n=>u.free b o e n hc) (fun b o hc e=>u.there b o e hc) u.pJ u.nI u.rF (fun m' hm=>by
  obtain ⟨o',Qt,Mv,ED,r'⟩:=hm
  rw[ho]at ED;cases ED
  exact ⟨_,Qt,Mv,hL,r'⟩) b5 hg
theorem Inv.turned {t':Nat} {it:Addr} (I:Inv X pins σ H s) (k: ∀b o,b≠it->s.heap.get? b=some o->h'.get? b=some o) (hn:H it=none) (hL:it≠X.env.locals)
  (h1:it∈X.ex\/X.s₀.heap.objs.size<=it) (h2: ∀x c,X.env.cells.lookup x=some c->c≠it) (h3: ∀p∈X.pn++pins,p.1≠it):Inv X pins σ H { s with heap:=h',toks:=t' }:=by
 have GS: ∀b u,H b=some u->b≠it:=fun b u e z=>by rw[z,hn]at e;cases e
 refine I.step (g':=s.gens) (d':=s.drawn) (ch:=[it]) (fun b hb=>?_) (fun b o _ _ hc e _=>k b o (fun z=>hc (by simp[z])) e) (fun b o _ _ hc e _=>⟨o.slots,k b o (fun z=>hc (by simp[z])) e⟩) (fun _ _ _ _ n=>n)
  (fun b o hc e=>⟨o,k b o (fun z=>hc (by simp[z])) e⟩) (fun _ _ e=>e) (fun _ _ _ e=>e) (fun b ps e=>⟨#[],by rw[e];simp⟩) (fun m hm=>?_) (fun b u e=>?_) I.bare
 ·have e:b=it:=by simpa using hb
  subst e
  exact ⟨h1,hL,h2,h3⟩
 ·obtain ⟨o,es,ep,ho,r⟩:=hm
  exact ⟨o,es,ep,k _ o (Ne.symm hL) ho,r⟩
 ·refine (I.b5 b u e).uk (fun c v hc q=>k c v ?_ q) (fun _ q=>q) fun _ _ q=>q
  rcases hc with z | z
  ·rw[z];exact GS b u e
  ·exact GS c _ z
theorem Inv.tok (I:Inv X pins σ H s) (t:Nat):Inv X pins σ H { s with toks:=t }:=I.un (h':=s.heap) (t':=t) Un.refl I.b5
theorem Inv.kept {t':Nat} (I:Inv X pins σ H s) (k: ∀b u,s.heap.get? b=some u->h'.get? b=some u):Inv X pins σ H { s with heap:=h',toks:=t' }:=I.un (Un.kept k) (I.b5.kept k)
theorem Inv.laid {a:Addr} {o:HO} {t':Nat} (I:Inv X pins σ H s) (k: ∀b u,s.heap.get? b=some u->h'.get? b=some u) (hp:s.heap.objs.size<=a) (new:cX X.prog X.w (upd H a o) h' a o):
  Inv X pins σ (upd H a o) { s with heap:=h',toks:=t' }:=I.un (Un.laid k hp (I.b5.fresh hp)) (I.b5.laid k hp new)
theorem Inv.write {x e:Addr} {o:HO} {t':Nat} (I:Inv X pins σ H s) (mu:Mq (H x)) (he:e=x\/H e=some (.own x)) (k: ∀b u,b≠e->s.heap.get? b=some u->h'.get? b=some u) (KN: ∃u,h'.get? e=some u)
  (new:cX X.prog X.w (upd H x o) h' x o):Inv X pins σ (upd H x o) { s with heap:=h',toks:=t' }:=I.un (Un.write mu he k KN) (I.b5.write mu he k KN new)
theorem Inv.weak {σ':List (Option V)} (I:Inv X pins σ H s) (hl:σ'.length=σ.length) (w: ∀(i:Nat) v,σ'[i]? =some (some v)->σ[i]? =some (some v)):Inv X pins σ' H s:=
 ⟨I.ok,I.os,I.bare,I.base,let ⟨m,hn,ym⟩:=I.loc;⟨m,hn,fun i x v e1 e2 e3=>ym i x v e1 (w i v e2) e3⟩,I.cell,I.free,I.iJ,I.pin,I.b5,hl.trans I.len⟩
theorem Inv.j9 {yn:List (Addr×Obj)} (I:Inv X pins σ H s) (h: ∀p∈yn,s.heap.get? p.1=some p.2/\H p.1=none/\p.1≠X.env.locals/\p.1∉X.fs/\ ∀v,p.2.data≠ .cell v):Inv X yn σ H s:=
 ⟨I.ok,I.os,I.bare,I.base,I.loc,I.cell,I.free,I.iJ,fun p hp=>(Yi.mp hp).elim (fun z=>I.pin p (Zc _ z)) (h p),I.b5,I.len⟩
theorem um {N:List Str} (hN:N.Nodup) {i j:Nat} {x:Str} (a:N[i]? =some x) (b:N[j]? =some x):i=j:=by
 obtain ⟨h1,e1⟩:=IQ.mp a
 obtain ⟨h2,e2⟩:=IQ.mp b
 exact (List.getElem_inj hN).mp (e1.trans e2.symm)
theorem zN {M:Model} {A:Around} {E:Value->Shared->Prop} {i:Nat} {x:Str} {v:V} {u:Value} {Q:Unit->Shared->Prop} (I:Inv X pins σ H s) (hN:X.N.Nodup) (hi:X.N[i]? =some x) (hx:Loc X.env.scope x) (r:RelV v u)
  (h: ∀s',Inv X pins (σ.set i (some v)) H s'->(∃a,Heap.SameBut a s.heap s'.heap/\(a=X.env.locals\/X.env.cells.lookup x=some a))->Q () s') (hf:X.fn x=true\/X.env.scope.names.lookup x=some .local:=by first | exact .inl rfl | exact .inr rfl | assumption):wpAny M A (storeName X.env x u) Q E s:=by
 obtain ⟨m,hn,hl⟩:=id I.loc
 have Qu:(X.env.scope.kind== .class||(X.env.scope.kind== .module&&X.env.locals != X.env.globals))=false:=by rw[I.ok.kind];rfl
 have SF:i<σ.length:=by rw[I.len];exact (IQ.mp hi).1
 have H_:=I.H_
 have tracked: ∀{a:Addr} {h':Heap},(∃o,s.heap.get? a=some o/\H a=none)->Heap.SameBut a s.heap h'->jM X.prog X.w H h':=fun {a h'} ha hs b ob e=>by
  obtain ⟨_,_,GU⟩:=ha
  refine (I.b5 b ob e).uk (fun c w' hc q=>(hs.2 c ?_).trans q) (fun _ q=>q) fun _ _ q=>q
  rintro rfl
  rcases hc with rfl | hc
  ·rw[GU]at e;cases e
  ·rw[GU]at hc;cases hc
 rcases hx with hk | hk
 ·refine wpAny_storeName_local hk hn (fun h' O0 hs=>?_) Qu
  obtain ⟨oL,_,_,Mw,_⟩:=id hn
  refine h _ ⟨I.ok,I.os,I.bare,⟨fun b o e n hb hx=>?_,fun b o e n hb hx=>?_,I.base.free,fun b o e hx=>?_,I.base.pJ,I.base.nI,I.base.rF⟩,⟨_,O0,fun j y v' e1 e2 e3=>?_⟩,fun y c e=>?_,I.free,I.iJ,fun p hp=>?_,tracked ⟨oL,Mw,I.free⟩ hs,by simpa using I.len⟩ ⟨_,hs, .inl rfl⟩
  ·exact (hs.2 b (Yk (Yr (Yh e) I.ok.above))).trans (I.base.keep b o e n hb hx)
  ·obtain ⟨sl,e1⟩:=I.base.slot b o e n hb hx
   exact ⟨sl,(hs.2 b (Yk (Yr (Yh e) I.ok.above))).trans e1⟩
  ·obtain ⟨o',e1⟩:=I.base.there b o e hx
   exact ⟨o',(hs.2 b (Yk (Yr (Yh e) I.ok.above))).trans e1⟩
  ·by_cases hj:j=i
   ·subst hj
    rw[hi]at e1;cases e1
    rw[List.getElem?_set_self SF]at e2
    cases e2
    exact ⟨u,r, .inl ⟨hk,by simp⟩⟩
   ·rw[List.getElem?_set_ne (Ne.symm hj)]at e2
    obtain ⟨u',r',q⟩:=hl j y v' e1 e2 e3
    refine ⟨u',r',?_⟩
    rcases q with ⟨k,e⟩ | ⟨k,c,e,z⟩
    ·refine .inl ⟨k,?_⟩
     have:y≠x:=fun e=>hj (um hN e1 (e▸hi))
     simp[this,e]
    ·exact .inr ⟨k,c,e,z.sameBut hs (H_ y c e)⟩
  ·obtain ⟨w',z⟩:=I.cell y c e
   exact ⟨w',z.sameBut hs (H_ y c e)⟩
  ·obtain ⟨e,n,ne,nf,d⟩:=I.pin p hp
   exact ⟨(hs.2 p.1 ne).trans e,n,ne,nf,d⟩
 ·have Qv:X.fn x=true:=by
   rcases hf with z | z
   ·exact z
   ·rw[z]at hk;cases hk
  obtain ⟨c,hc⟩:=I.ok.has x (.inl hk)
  obtain ⟨w',z⟩:=I.cell x c hc
  refine wpAny_storeName_cell I.ok.kind hk hc z (fun h' lE hs=>?_)
  obtain ⟨oc,SG,Qw⟩:=id z
  refine h { s with heap:=h' } ⟨I.ok,I.os,I.bare,⟨fun b o e n hb hx=>?_,fun b o e n hb hx=>?_,I.base.free,fun b o e hx=>?_,I.base.pJ,I.base.nI,I.base.rF⟩,⟨m,hn.sameBut hs (Ne.symm (H_ x c hc)),fun j y v' e1 e2 e3=>?_⟩,fun y c' e=>?_,I.free,I.iJ,fun p hp=>?_,tracked ⟨oc,SG,I.iJ x c hc⟩ hs,by simpa using I.len⟩ ⟨c,hs, .inr hc⟩
  ·exact (hs.2 b (Yk (Yr (Yh e) (I.ok.Mt x c Qv hc)))).trans (I.base.keep b o e n hb hx)
  ·obtain ⟨sl,e1⟩:=I.base.slot b o e n hb hx
   exact ⟨sl,(hs.2 b (Yk (Yr (Yh e) (I.ok.Mt x c Qv hc)))).trans e1⟩
  ·obtain ⟨o',e1⟩:=I.base.there b o e hx
   exact ⟨o',(hs.2 b (Yk (Yr (Yh e) (I.ok.Mt x c Qv hc)))).trans e1⟩
  ·by_cases hj:j=i
   ·subst hj
    rw[hi]at e1;cases e1
    rw[List.getElem?_set_self SF]at e2
    cases e2
    exact ⟨u,r, .inr ⟨.inl hk,c,hc,lE⟩⟩
   ·rw[List.getElem?_set_ne (Ne.symm hj)]at e2
    obtain ⟨u',r',q⟩:=hl j y v' e1 e2 e3
    refine ⟨u',r',?_⟩
    rcases q with q | ⟨k,c',e,z'⟩
    ·exact .inl q
    ·refine .inr ⟨k,c',e,z'.sameBut hs ?_⟩
     rintro rfl
     exact hj (um hN e1 (I.ok.inj _ _ _ e hc▸hi))
  ·by_cases KP:c'=c
   ·subst KP;exact ⟨_,lE⟩
   ·obtain ⟨w2,z2⟩:=I.cell y c' e
    exact ⟨w2,z2.sameBut hs KP⟩
  ·obtain ⟨e,n,ne,nf,d⟩:=I.pin p hp
   refine ⟨(hs.2 p.1 ?_).trans e,n,ne,nf,d⟩
   intro q
   rw[q,SG]at e
   have q':oc=p.2:=Yg e
   exact d w' (by rw[<-q'];exact Qw)
theorem gK {M:Model} {A:Around} {E:Value->Shared->Prop} {i:Nat} {x:Str} {v:V} {u:Value} {Q:Unit->Shared->Prop} (I:Inv X pins σ H s) (hN:X.N.Nodup) (hi:X.N[i]? =some x) (hx:Loc X.env.scope x) (r:RelV v u)
  (h: ∀s',Inv X pins (σ.set i (some v)) H s'->Q () s') (hf:X.fn x=true\/X.env.scope.names.lookup x=some .local:=by first | exact .inl rfl | exact .inr rfl | assumption):wpAny M A (storeName X.env x u) Q E s:=
 zN I hN hi hx r (fun s' I' _=>h s' I') hf
theorem Inv.Mx {s':Shared} {ch:List Addr} (I:Inv X pins σ H s) (ho:s'.os=s.os) (u:Un (yk X.stack) ch H H' s.heap s'.heap) (b5:jM X.prog X.w H' s'.heap) (hg:AllBare s'.gens)
  (Ef: ∀b∈ch,(b∈X.ex\/X.s₀.heap.objs.size<=b)/\b≠X.env.locals/\(∀x c,X.env.cells.lookup x=some c->c≠b)/\ ∀p∈X.pn++pins,p.1≠b):Inv X pins σ H' s':=by
 obtain ⟨h',g',d',t',o'⟩:=s'
 have e:o'=s.os:=ho
 subst e
 exact I.call (g':=g') (t':=t') (d':=d') u b5 hg Ef
end
abbrev XK:=Value->Option Addr->Hp->Prop
abbrev St:=List (Option V)
abbrev VK:=V->Hp->Prop
abbrev TE:=St->Hp->VK->Prop
abbrev TT:=St->Hp->(Bool->Hp->Prop)->Prop
abbrev TA:=St->Hp->(List V->Hp->Prop)->Prop
structure Ends where
 nx:St->Hp->Prop
 rt:VK
 bk:St->Hp->Prop:=fun _ _=>False
 ct:St->Hp->Prop:=fun _ _=>False
abbrev TS:=Ends->St->Hp->Prop
def EP (X:Cx) (pins:List (Addr×Obj)) (σ:St) (Q:VK) (u:Value) (s':Shared):Prop:= ∃v H',Inv X pins σ H' s'/\RelV v u/\Q v H'
def TP (X:Cx) (pins:List (Addr×Obj)) (σ:St) (Q:Bool->Hp->Prop) (b:Bool) (s':Shared):Prop:= ∃H',Inv X pins σ H' s'/\Q b H'
def AP (X:Cx) (pins:List (Addr×Obj)) (σ:St) (Q:List V->Hp->Prop) (us:List Value) (s':Shared):Prop:= ∃vs H',Inv X pins σ H' s'/\Vals vs us/\Q vs H'
def SP (X:Cx) (pins:List (Addr×Obj)) (D:Ends) (f:Flow) (s':Shared):Prop:=
 match f with
 | .next=> ∃σ' H',Inv X pins σ' H' s'/\D.nx σ' H'
 | .brk=> ∃σ' H',Inv X pins σ' H' s'/\D.bk σ' H'
 | .cont=> ∃σ' H',Inv X pins σ' H' s'/\D.ct σ' H'
 | .ret u=> ∃v σ' H',Inv X pins σ' H' s'/\RelV v u/\D.rt v H'
def PE (X:Cx) (e:Expr) (t:TE):Prop:=
 ∀(pins:List (Addr×Obj)) (s:Shared) (σ:St) (H:Hp) (Q:VK),Inv X pins σ H s->t σ H Q->wpAny (model X.prog X.w) X.A (eval e X.env) (EP X pins σ Q) X.xe s
def PT (X:Cx) (e:Expr) (t:TT):Prop:=
 ∀(pins:List (Addr×Obj)) (s:Shared) (σ:St) (H:Hp) (Q:Bool->Hp->Prop),Inv X pins σ H s->t σ H Q->wpAny (model X.prog X.w) X.A (isTrue e X.env (eval e X.env)) (TP X pins σ Q) X.xe s
def PW (X:Cx) (e:Expr) (t:TT):Prop:=
 ∀(whole:Sem Value) (pins:List (Addr×Obj)) (s:Shared) (σ:St) (H:Hp) (Q:Bool->Hp->Prop),Inv X pins σ H s->t σ H Q->wpAny (model X.prog X.w) X.A (isTrue e X.env whole) (TP X pins σ Q) X.xe s
theorem PW.pt {X:Cx} {e:Expr} {t:TT} (h:PW X e t):PT X e t:=h _
def PA (X:Cx) (es:List Expr) (t:TA):Prop:=
 ∀(pos:Pos) (pins:List (Addr×Obj)) (s:Shared) (σ:St) (H:Hp) (Q:List V->Hp->Prop),Inv X pins σ H s->t σ H Q->wpAny (model X.prog X.w) X.A (spliced (backTo pos (starEach es X.env))) (AP X pins σ Q) X.xe s
def PS (X:Cx) (st:Stmt) (t:TS):Prop:=
 ∀(pins:List (Addr×Obj)) (s:Shared) (σ:St) (H:Hp) (D:Ends),Inv X pins σ H s->t D σ H->wpAny (model X.prog X.w) X.A (exec st X.env) (SP X pins D) X.xe s
def we (X:Cx) (st:List Stmt) (t:TS):Prop:=
 ∀(pins:List (Addr×Obj)) (s:Shared) (σ:St) (H:Hp) (D:Ends),Inv X pins σ H s->t D σ H->wpAny (model X.prog X.w) X.A (execs st X.env) (SP X pins D) X.xe s
theorem cx {α:Type} {t:Sem α} {Q Q':α->Shared->Prop} {M:Model} {A:Around} {E:Value->Shared->Prop} {s:Shared} (h:wpAny M A t Q E s) (hQ: ∀a s,Q a s->Q' a s):wpAny M A t Q' E s:=wpAny_mono h hQ fun _ _ x=>x
section
variable {X:Cx}
def Ib (i:Nat):TE:=fun σ H Q=> ∃v,σ[i]? =some (some v)/\Q v H
def tC (v:V):TE:=fun _ H Q=>Q v H
theorem Ic {i:Nat} {x:Str} {pos:Pos} (hN:X.N[i]? =some x) (hv:Ms X.env.scope x) (hd:(x==("__debug__":Str))=false:=by decide) (mO:(x==("__classdict__":Str))=false:=by decide):PE X (.Name x pos) (Ib i):=by
 intro pins s σ H Q I h
 obtain ⟨v,e,h⟩:=h
 obtain ⟨m,hn,hl⟩:=I.loc
 obtain ⟨u,r,l⟩:=hl i x v hN e hv
 have fin:EP X pins σ Q u s:=⟨v,H,I,r,h⟩
 rcases l with ⟨hk,hm⟩ | ⟨hk,c,hc,gL⟩
 ·exact wpAny_Name (wpAny_loadName_local I.ok.kind hk hn hm fin) hd
 ·rcases hk with hk | hk
  ·exact wpAny_Name (wpAny_loadName_cell I.ok.kind hk hc gL fin) hd
  ·exact wpAny_Name (wpAny_loadName_free I.ok.kind hk hc gL fin mO) hd
theorem ai {i j pos}:PE X (.Constant (.int i) j pos) (tC (.int i)):=fun _ _ _ H _ I h=>wpAny_Constant_int ⟨.int i,H,I.tok _,⟨_,rfl⟩,h⟩
theorem qm {b j pos}:PE X (.Constant (.bool b) j pos) (tC (.bl b)):=fun _ _ _ H _ I h=>Constant_bool ⟨.bl b,H,I,rfl,h⟩
theorem Ie {x j pos}:PE X (.Constant (.str x) j pos) (tC (.str x)):=fun _ _ _ H _ I h=>Calls.Constant_str ⟨.str x,H,I.tok _,⟨_,rfl⟩,h⟩
def Gl (X:Cx) (x:Str):Prop:=X.env.kindOf x=some .globalImplicit
theorem rH {E:Value->Shared->Prop} {pins:List (Addr×Obj)} {s:Shared} {σ:St} {H:Hp} {x:Str} {u:Value} {pos:Pos} {Q:Value->Shared->Prop} (I:Inv X pins σ H s) (hg:Gl X x) (hm:X.mg x=some u) (h:Q u s)
  (hd:(x==("__debug__":Str))=false:=by decide):wpAny (model X.prog X.w) X.A (eval (.Name x pos) X.env) Q E s:=
 Calls.Name_function_global I.ok.kind hg (Calls.loadGlobal_global (by rw[I.ok.glob];exact I.mod.glob.keeps I.bk) hm h) hd
theorem gv {E:Value->Shared->Prop} {pins:List (Addr×Obj)} {s:Shared} {σ:St} {H:Hp} {x:Str} {u:Value} {pos:Pos} {Q:Value->Shared->Prop} (I:Inv X pins σ H s) (hg:Gl X x) (hm:X.mg x=none) (hv:bootBuiltins x=some u) (h:Q u s)
  (hn:x≠"__name__":=by decide) (hd:(x==("__debug__":Str))=false:=by decide):wpAny (model X.prog X.w) X.A (eval (.Name x pos) X.env) Q E s:=by
 obtain ⟨mb,h1,h2⟩:=I.mod.blt
 exact Calls.Name_function_global I.ok.kind hg (Calls.loadGlobal_builtin (by rw[I.ok.glob];exact I.mod.glob.keeps I.bk) hm (by rw[I.ok.blt];exact h1.keeps I.bk) ((h2 x hn).trans hv) h) hd
theorem yo {x:Str} {v:V} {u:Value} {pos:Pos} (hg:Gl X x) (hm:X.mg x=some u) (r:RelV v u) (hd:(x==("__debug__":Str))=false:=by decide):PE X (.Name x pos) (tC v):=
 fun _ _ _ H _ I h=>rH I hg hm ⟨v,H,I,r,h⟩ hd
variable {a b:Expr} {ta tb:TE} {pos:Pos}
def tB (t:TE):TT:=fun σ H Q=>t σ H fun x H1=> ∃c,x= .bl c/\Q c H1
theorem jN {e:Expr} {t:TE} (h:PE X e t) (he: ∀whole,isTrue e X.env whole=(do let v <-whole;standAt e.pos;holding [v] (truthy v)):=by intro _;rfl):PT X e (tB t):=by
 intro pins s σ H Q I hw
 refine isTrue_plain (cx (h pins s σ H _ I hw) fun v s1 ⟨x,H1,I1,r1,q1⟩=>?_) (he _)
 obtain ⟨d,rfl,q⟩:=q1
 cases r1
 exact wpAny_truthy_bool ⟨H1,I1,q⟩
variable {tA O1:TT} {rest:List Expr}
def Qx (t u:TT):TT:=fun σ H Q=>t σ H fun c H1=>if c=true then u σ H1 Q else Q false H1
def UZ (t u:TT):TT:=fun σ H Q=>t σ H fun c H1=>if c=true then Q true H1 else u σ H1 Q
theorem gZ (ha:PT X a tA):PW X (.BoolOp .And [a] pos) tA:=by
 intro wh pins s σ H Q I h
 refine isTrue_and (cx (ha pins s σ H Q I h) fun c s1 e=>?_)
 cases c with
 | true=>exact isTrue_and_nil e
 | false=>exact e
theorem Bk (ha:PT X a tA):PW X (.BoolOp .Or [a] pos) tA:=by
 intro wh pins s σ H Q I h
 refine isTrue_or (cx (ha pins s σ H Q I h) fun c s1 e=>?_)
 cases c with
 | false=>exact isTrue_or_nil e
 | true=>exact e
theorem iK (ha:PT X a tA) (hb:PW X (.BoolOp .And (b::rest) pos) O1):PW X (.BoolOp .And (a::b::rest) pos) (Qx tA O1):=by
 intro wh pins s σ H Q I h
 refine isTrue_and (cx (ha pins s σ H _ I h) fun c s1 ⟨H1,I1,q1⟩=>?_)
 cases c with
 | true=>exact hb wh pins s1 σ H1 Q I1 q1
 | false=>exact ⟨H1,I1,q1⟩
theorem GV (ha:PT X a tA) (hb:PW X (.BoolOp .Or (b::rest) pos) O1):PW X (.BoolOp .Or (a::b::rest) pos) (UZ tA O1):=by
 intro wh pins s σ H Q I h
 refine isTrue_or (cx (ha pins s σ H _ I h) fun c s1 ⟨H1,I1,q1⟩=>?_)
 cases c with
 | true=>exact ⟨H1,I1,q1⟩
 | false=>exact hb wh pins s1 σ H1 Q I1 q1
def Mz (ta tb:TE):TE:=fun σ H Q=>ta σ H fun x H1=> ∃c,x= .bl c/\if c=true then tb σ H1 Q else Q (.bl false) H1
theorem wg {op} {t:TE} (h:PE X a t):PE X (.BoolOp op [a] pos) t:=fun pins s σ H Q I hw=>BoolOp_one (h pins s σ H Q I hw)
theorem Bl (ha:PE X a ta) (hb:PE X (.BoolOp .And (b::rest) pos) tb):PE X (.BoolOp .And (a::b::rest) pos) (Mz ta tb):=by
 intro pins s σ H Q I h
 refine BoolOp_and (cx (ha pins s σ H _ I h) fun v s1 ⟨x,H1,I1,r1,q1⟩=>?_)
 obtain ⟨c,rfl,q1⟩:=q1
 cases r1
 refine wpAny_truthy_bool ?_
 cases c with
 | true=>exact hb pins s1 σ H1 Q I1 q1
 | false=>exact ⟨.bl false,H1,I1,rfl,q1⟩
end
def bN (K:PySem.W.Frag) (H:Hp) (a:Addr) (xs:List V):Prop:=
 Rd H a (.lst xs)\/
  ∃(o:Obj) (aJ:Array Value) (n:Nat),K.lookup a=some o/\o.cls= .type "list"/\o.dict=none/\o.data= .seq aJ n/\aJ.size<=sizeLine/\Vals xs aJ.toList
def b_ (K:PySem.W.Frag) (H:Hp) (a:Addr) (xs:List V):Prop:=
 Rd H a (.tup xs)\/
  ∃(o:Obj) (aJ:Array Value) (n:Nat),K.lookup a=some o/\o.cls= .type "tuple"/\o.data= .seq aJ n/\aJ.size<=sizeLine/\Vals xs aJ.toList
noncomputable def Qy:Value->Option V
 | .none=>some .fH
 | .bool b=>some (.bl b)
 | .int i _=>some (.int i)
 | .str x _=>some (.str x)
 | .bytes b _=>some (.yj b)
 | .float b _=>some (.OX b)
 | .ref a=>some (.ref a)
 | .type n=>some (.ty n)
 | _=>none
theorem RelV.abs {x:V} {u:Value} (r:RelV x u):Qy u=some x:=by
 cases x with
 | fH=>cases r;rfl
 | bl _=>cases r;rfl
 | int _=>obtain ⟨t,rfl⟩:=r;rfl
 | str _=>obtain ⟨t,rfl⟩:=r;rfl
 | yj _=>obtain ⟨t,rfl⟩:=r;rfl
 | OX _=>obtain ⟨t,rfl⟩:=r;rfl
 | ref _=>cases r;rfl
 | ty _=>cases r;rfl
theorem RelV.inj {x y:V} {u:Value} (r:RelV x u) (q:RelV y u):x=y:=Yg (r.abs.symm.trans q.abs)
theorem Vals.inj: ∀{xs ys:List V} {us:List Value},Vals xs us->Vals ys us->xs=ys
 | _,_,_, .nil, .nil=>rfl
 | _,_,_, .cons r t, .cons r' t'=>by rw[r.inj r',Vals.inj t t']
section
variable {X:Cx} {pins:List (Addr×Obj)} {σ:St} {H:Hp} {s:Shared} {a:Addr} {xs ys:List V}
theorem bN.of {K:PySem.W.Frag} (h:H a=some (.lst xs)):bN K H a xs:= .inl (.inl h)
theorem b_.of {K:PySem.W.Frag} (h:H a=some (.tup xs)):b_ K H a xs:= .inl (.inl h)
theorem Inv.list (I:Inv X pins σ H s) (h:bN X.K H a xs): ∃aJ:List Value,Vals xs aJ/\PlainL s.heap a aJ.toArray/\xs.length<=sizeLine:=by
 rcases h with h | ⟨o,aJ,n,hk,hc,hd,hs,hz,r⟩
 ·obtain ⟨z,aJ,n,r,e⟩:=h.ok I.b5
  exact ⟨aJ,r,⟨_,n,e,rfl,rfl,rfl⟩,z⟩
 ·refine ⟨aJ.toList,r,⟨o,n,I.zM a o hk,hc,hd,by simpa using hs⟩,?_⟩
  have e:=r.length
  simp only[Qbe]at e
  omega
theorem Inv.tuple (I:Inv X pins σ H s) (h:b_ X.K H a xs): ∃aJ:List Value,Vals xs aJ/\IsTup s.heap a aJ.toArray/\xs.length<=sizeLine:=by
 rcases h with h | ⟨o,aJ,n,hk,hc,hs,hz,r⟩
 ·obtain ⟨z,aJ,r,p⟩:=h.ok I.b5
  exact ⟨aJ,r,p,z⟩
 ·refine ⟨aJ.toList,r,⟨o,I.zM a o hk,hc,n,by simpa using hs⟩,?_⟩
  have e:=r.length
  simp only[Qbe]at e
  omega
theorem Inv.uo (I:Inv X pins σ H s) (h:bN X.K H a xs) (h':bN X.K H a ys):xs=ys:=by
 obtain ⟨aJ,r,⟨o,n,e,_,_,d⟩,_⟩:=I.list h
 obtain ⟨its',r',⟨o',n',e',_,_,d'⟩,_⟩:=I.list h'
 rw[e]at e';cases e'
 rw[d]at d'
 injection d' with d1 _
 have:aJ=its':=by simpa using congrArg Array.toList d1
 subst this
 exact r.inj r'
theorem Inv.qp (I:Inv X pins σ H s) (h:b_ X.K H a xs) (h':b_ X.K H a ys):xs=ys:=by
 obtain ⟨aJ,r,⟨o,e,_,n,d⟩,_⟩:=I.tuple h
 obtain ⟨its',r',⟨o',e',_,n',d'⟩,_⟩:=I.tuple h'
 rw[e]at e';cases e'
 rw[d]at d'
 injection d' with d1 _
 have:aJ=its':=by simpa using congrArg Array.toList d1
 subst this
 exact r.inj r'
end
noncomputable abbrev Cx.pK (X:Cx) (E:Value->Shared->Prop):Cx:={ X with xe:=E }
noncomputable abbrev Cx.O2 (X:Cx):Cx:=X.pK fun _ _=>False
theorem Cx.Ok.pK {X:Cx} (ok:X.Ok) (E:Value->Shared->Prop):(X.pK E).Ok:=
 ⟨ok.mod,ok.kind,ok.glob,ok.blt,ok.above,ok.inj,ok.has,ok.Mt,ok.hd,ok.frames,ok.OZ,ok.SD,ok.bs,ok.EB,ok.Bj,ok.EC,ok.mN,ok.HY⟩
theorem Cx.Ok.iL {X:Cx} {E:Value->Shared->Prop} (ok:(X.pK E).Ok):X.Ok:=
 ⟨ok.mod,ok.kind,ok.glob,ok.blt,ok.above,ok.inj,ok.has,ok.Mt,ok.hd,ok.frames,ok.OZ,ok.SD,ok.bs,ok.EB,ok.Bj,ok.EC,ok.mN,ok.HY⟩
section
variable {X:Cx} {pins:List (Addr×Obj)} {σ:St} {H:Hp} {s:Shared} {E:Value->Shared->Prop}
theorem Inv.pK (I:Inv X pins σ H s) (E:Value->Shared->Prop):Inv (X.pK E) pins σ H s:=⟨I.ok.pK E,I.os,I.bare,I.base,I.loc,I.cell,I.free,I.iJ,I.pin,I.b5,I.len⟩
theorem Inv.iL (I:Inv (X.pK E) pins σ H s):Inv X pins σ H s:=⟨I.ok.iL,I.os,I.bare,I.base,I.loc,I.cell,I.free,I.iJ,I.pin,I.b5,I.len⟩
theorem SP.iL {D:Ends} {f:Flow} {s':Shared} (h:SP (X.pK E) pins D f s'):SP X pins D f s':=by
 cases f with
 | next=>obtain ⟨σ',H',I,q⟩:=h;exact ⟨σ',H',I.iL,q⟩
 | brk=>obtain ⟨σ',H',I,q⟩:=h;exact ⟨σ',H',I.iL,q⟩
 | cont=>obtain ⟨σ',H',I,q⟩:=h;exact ⟨σ',H',I.iL,q⟩
 | ret u=>obtain ⟨v,σ',H',I,r,q⟩:=h;exact ⟨v,σ',H',I.iL,r,q⟩
theorem we.O2 {st:List Stmt} {t:TS} (h:we X.O2 st t):we X st t:=fun pins s σ H D I hw=>
 wpAny_mono (h pins s σ H D (I.pK _) hw) (fun _ _ q=>q.iL) fun _ _ z=>False.elim z
end
section
variable {X:Cx} {st:Stmt} {rest:List Stmt} {t u:TS} {e:Expr} {te:TE} {pos:Pos}
def MA:TS:=fun D σ H=>D.nx σ H
def MB (t u:TS):TS:=fun D σ H=>t { D with nx:=u D } σ H
theorem bz:we X [] MA:=fun _ _ σ H _ I h=>wpAny_execs_nil ⟨σ,H,I,h⟩
theorem ag (h1:PS X st t) (h2:we X rest u):we X (st::rest) (MB t u):=by
 intro pins s σ H D I h
 refine wpAny_execs_cons (cx (h1 pins s σ H { D with nx:=u D } I h) fun f s1 q=>?_)
 cases f with
 | next=>
  obtain ⟨σ',H',I',q⟩:=q
  exact h2 pins s1 σ' H' D I' q
 | ret v=>exact q
 | brk=>exact q
 | cont=>exact q
theorem aj (h1:PS X st t):we X [st] t:=by
 intro pins s σ H D I h
 refine wpAny_execs_cons (cx (h1 pins s σ H D I h) fun f s1 q=>?_)
 cases f with
 | next=>exact wpAny_execs_nil q
 | ret v=>exact q
 | brk=>exact q
 | cont=>exact q
theorem Inv.quiet {pins:List (Addr×Obj)} {σ:St} {H:Hp} {s:Shared} (I:Inv X pins σ H s):interactive X.env=false:=by simp[interactive,I.ok.kind]
def MC (te:TE):TS:=fun D σ H=>te σ H fun _ H1=>D.nx σ H1
theorem fM (he:PE X e te) (hs:swapsWith e none pos.line X.env=pure false:=by rfl):PS X (.Expr e pos) (MC te):=by
 intro pins s σ H D I h
 exact wpAny_Expr_any (cx (he pins s σ H _ I h) fun v s1 ⟨x,H1,I1,r1,q1⟩=>⟨σ,H1,I1,q1⟩) I.quiet hs
def Qz (te:TE):TS:=fun D σ H=>te σ H D.rt
theorem aH (he:PE X e te):PS X (.Return (some e) pos) (Qz te):=by
 intro pins s σ H D I h
 exact wpAny_Return_some (cx (he pins s σ H _ I h) fun v s1 ⟨x,H1,I1,r1,q1⟩=>⟨x,σ,H1,I1,r1,q1⟩)
def QA (c:TT) (t u:TS):TS:=fun D σ H=>c σ H fun b H1=>if b=true then t D σ H1 else u D σ H1
theorem b6 {c:Expr} {a b:List Stmt} {tc:TT} (hc:PT X c tc) (ha:we X a t) (hb:we X b u):PS X (.If c a b pos) (QA tc t u):=by
 intro pins s σ H D I h
 refine wpAny_If (cx (hc pins s σ H _ I h) fun d s1 ⟨H1,I1,q1⟩=>?_)
 cases d with
 | true=>exact ha pins s1 σ H1 D I1 q1
 | false=>exact hb pins s1 σ H1 D I1 q1
end
abbrev TG:=V->St->Hp->(St->Hp->Prop)->Prop
abbrev GW:=List V->St->Hp->(St->Hp->Prop)->Prop
def PG (X:Cx) (target:Expr) (t:TG):Prop:=
 ∀(pins:List (Addr×Obj)) (s:Shared) (σ:St) (H:Hp) (v:V) (u:Value) (Q:St->Hp->Prop),Inv X pins σ H s->RelV v u->t v σ H Q->
  wpAny (model X.prog X.w) X.A (assign target X.env u) (fun _ s'=> ∃σ' H',Inv X pins σ' H' s'/\Q σ' H') X.xe s
def MD (X:Cx) (ts:List Expr) (t:GW):Prop:=
 ∀(pins:List (Addr×Obj)) (s:Shared) (σ:St) (H:Hp) (vs:List V) (us:List Value) (Q:St->Hp->Prop),Inv X pins σ H s->Vals vs us->t vs σ H Q->
  wpAny (model X.prog X.w) X.A (assignInOrder ((assignEach ts X.env).map (·.2)) us) (fun _ s'=> ∃σ' H',Inv X pins σ' H' s'/\Q σ' H') X.xe s
abbrev Ig:=V->V->V->Hp->(Hp->Prop)->Prop
def ME (X:Cx) (t:Ig):Prop:=
 ∀(pins:List (Addr×Obj)) (s:Shared) (σ:St) (H:Hp) (o i v:V) (ov iv u:Value) (Q:Hp->Prop),Inv X pins σ H s->RelV o ov->RelV i iv->RelV v u->t o i v H Q->
  wpAny (model X.prog X.w) X.A (setItem ov iv u) (fun _ s'=> ∃H',Inv X pins σ H' s'/\Q H') X.xe s
abbrev O3:=V->V->Hp->VK->Prop
def MF (X:Cx) (op:Operator) (t:O3):Prop:=
 ∀(pins:List (Addr×Obj)) (s:Shared) (σ:St) (H:Hp) (x y:V) (v u:Value) (Q:VK),Inv X pins σ H s->RelV x v->RelV y u->t x y H Q->
  wpAny (model X.prog X.w) X.A (inplaceOp op v u) (EP X pins σ Q) X.xe s
section
variable {X:Cx} {pos:Pos}
def uq (i:Nat):TG:=fun v σ H Q=>Q (σ.set i (some v)) H
theorem aR {i:Nat} {x:Str} (hN:X.N.Nodup) (hi:X.N[i]? =some x) (hx:Loc X.env.scope x) (hf:X.fn x=true\/X.env.scope.names.lookup x=some .local:=by first | exact .inl rfl | exact .inr rfl | assumption):PG X (.Name x pos) (uq i):=by
 intro pins s σ H v u Q I r h
 exact wpAny_assign_Name (gK I hN hi hx r (fun s' I'=>⟨_,H,I',h⟩) hf)
def QB:GW:=fun vs σ H Q=>vs=[]/\Q σ H
def MG (t:TG) (u:GW):GW:=fun vs σ H Q=> ∃v r,vs=v::r/\t v σ H fun σ' H'=>u r σ' H' Q
theorem j_:MD X [] QB:=by
 intro pins s σ H vs us Q I r h
 obtain ⟨e,h⟩:=h
 subst e
 cases r
 exact assignInOrder_nil ⟨σ,H,I,h⟩
theorem cZ {e:Expr} {es:List Expr} {t:TG} {u:GW} (h1:PG X e t) (h2:MD X es u)
  (hs:(assignEach (e::es) X.env).map (·.2)=assign e X.env::(assignEach es X.env).map (·.2):=by rfl):MD X (e::es) (MG t u):=by
 intro pins s σ H vs us Q I r h
 obtain ⟨v,vr,e1,h⟩:=h
 subst e1
 cases r with
 | cons r rr=>
  rw[hs]
  refine assignInOrder_cons (cx (h1 pins s σ H _ _ _ I r h) fun _ s1 ⟨σ1,H1,I1,q1⟩=>?_)
  exact h2 pins s1 σ1 H1 _ _ Q I1 rr q1
def MH (K:PySem.W.Frag) (n:Nat) (t:GW):TG:=fun v σ H Q=> ∃a xs,v= .ref a/\b_ K H a xs/\xs.length=n/\t xs σ H Q
theorem Ih {es:List Expr} {k:Nat} {t:GW} {n:Nat} (hc:X.calm=true) (h:MD X es t)
  (hn:(assignEach es X.env).length=n:=by rfl) (mD:(assignEach es X.env).findIdx? (·.1)=none:=by rfl):PG X (.Tuple es k pos) (MH X.K n t):=by
 intro pins s σ H v u Q I r hw
 obtain ⟨a,xs,e1,hq,hl,hw⟩:=hw
 subst e1
 cases r
 obtain ⟨aJ,rv,ht,hz⟩:=I.tuple hq
 refine assign_Tuple_tuple (I.ok.hd hc) ht (by simp[hn, <-hl,rv.length]) mD fun h' hx=>?_
 have I1:Inv X pins σ H { s with heap:=h' }:=I.kept (t':=s.toks) fun b o e=>hx b o (Yk (Yh e)) e
 exact h pins _ σ H xs _ Q I1 (by simpa using rv) hw
def QC (to ti:TE) (t:Ig):TG:=fun v σ H Q=>to σ H fun o H1=>ti σ H1 fun i H2=>t o i v H2 fun H3=>Q σ H3
theorem Bm {o i:Expr} {to ti:TE} {t:Ig} (ho:PE X o to) (hi:PE X i ti) (hs:ME X t)
  (ha: ∀v,assign (.Subscript o i pos) X.env v=(do
   let ov <-holding [v] (eval o X.env)
   let iv <-holding [v,ov] (eval i X.env)
   standAt pos
   holding [v,ov,iv] (setItem ov iv v)
   release [v,ov,iv] []):=by intro _;rfl):PG X (.Subscript o i pos) (QC to ti t):=by
 intro pins s σ H v u Q I r h
 rw[ha]
 refine wpAny_bind (wpAny_holding (cx (ho pins s σ H _ I h) fun ov s1 ⟨x,H1,I1,r1,q1⟩=>?_))
 refine wpAny_bind (wpAny_holding (cx (hi pins s1 σ H1 _ I1 q1) fun iv s2 ⟨y,H2,I2,r2,q2⟩=>?_))
 refine wpAny_bind (wpAny_standAt (wpAny_bind (wpAny_holding (cx (hs pins s2 σ H2 x y v ov iv u _ I2 r1 r2 r q2) fun _ s3 ⟨H3,I3,q3⟩=>?_))))
 exact wpAny_release ⟨σ,H3,I3,q3⟩
def EE (te:TE) (g:TG):TS:=fun D σ H=>te σ H fun x H1=>g x σ H1 D.nx
theorem wj {tg e:Expr} {te:TE} {g:TG} (he:PE X e te) (hg:PG X tg g) (hs:swapsWithSole [tg] e pos.line X.env=pure false:=by rfl) (hw:swappedStores [tg] e X.env=pure none:=by rfl)
  (h1:(assignEach [tg] X.env).map (·.2)=[assign tg X.env]:=by rfl):PS X (.Assign [tg] e pos) (EE te g):=by
 intro pins s σ H D I h
 refine wpAny_Assign_stores (cx (he pins s σ H _ I h) fun v s1 ⟨x,H1,I1,r1,q1⟩=>?_) hs hw
 rw[h1]
 exact cx (hg pins s1 σ H1 x v _ I1 r1 q1) fun _ s2 q=>q
theorem ao {i:Nat} {x:Str} {e:Expr} {te:TE} {pos':Pos} (hN:X.N.Nodup) (hi:X.N[i]? =some x) (hx:Loc X.env.scope x) (he:PE X e te) (hs:swapsWith e (some (.Name x pos')) pos.line X.env=pure false:=by rfl) (hf:X.fn x=true\/X.env.scope.names.lookup x=some .local:=by first | exact .inl rfl | exact .inr rfl | assumption):
  PS X (.Assign [.Name x pos'] e pos) (EE te (uq i)):=by
 intro pins s σ H D I h
 refine wpAny_Assign_Name (cx (he pins s σ H _ I h) fun v s1 ⟨y,H1,I1,r1,q1⟩=>?_) hs
 exact gK I1 hN hi hx r1 (fun s2 I2=>⟨_,H1,I2,q1⟩) hf
def QD (i j:Nat) (ta:TA):TS:=fun D σ H=>ta σ H fun vs H1=> ∃v w,vs=[v,w]/\D.nx ((σ.set i (some v)).set j (some w)) H1
theorem wm {i j:Nat} {x y:Str} {a b:Expr} {ta:TA} {px py pt:Pos} {kt k2 QE} (hc:X.calm=true) (hN:X.N.Nodup) (hi:X.N[i]? =some x) (hj:X.N[j]? =some y) (U0:i≠j)
  (hx:X.env.scope.names.lookup x=some .local) (hy:X.env.scope.names.lookup y=some .local) (ha:PA X [a,b] ta)
  (hw:swappedStores [.Tuple [.Name x px, .Name y py] kt pt] (.Tuple [a,b] k2 QE) X.env=pure (some [x,y]))
  (hs:swapsWithSole [.Tuple [.Name x px, .Name y py] kt pt] (.Tuple [a,b] k2 QE) pos.line X.env=pure false:=by rfl):
  PS X (.Assign [.Tuple [.Name x px, .Name y py] kt pt] (.Tuple [a,b] k2 QE) pos) (QD i j ta):=by
 intro pins s σ H D I h
 rw[exec_Assign_arm]
 refine wpAny_bind (wpAny_standAt ?_)
 rw[hs]
 refine wpAny_bind (wpAny_pure ?_)
 rw[if_neg (by decide)]
 refine wpAny_bind (Tuple_ (cx (ha _ pins s σ H _ I h) fun us s1 ⟨vs,H1,I1,r1,q1⟩=>?_))
 obtain ⟨v,w,e1,q1⟩:=q1
 subst e1
 obtain ⟨u1,u2,rfl,rv,rJ⟩: ∃u1 u2,us=[u1,u2]/\RelV v u1/\RelV w u2:=by
  cases r1 with
  | cons p q=>
   cases q with
   | cons p' q'=>
    cases q'
    exact ⟨_,_,rfl,p,p'⟩
 refine wpAny_newObj_type ?_ (by show 2<=sizeLine;decide)
 have I2:Inv X pins σ H1 { s1 with heap:=s1.heap.push { cls:= .type "tuple",data:= .seq [u1,u2].toArray } }:=I1.kept (t':=s1.toks) fun b o e=>S0 _ e
 rw[hw]
 refine wpAny_bind (wpAny_pure ?_)
 show wpAny (model X.prog X.w) X.A (do rule "assign.swapped-stores";let items <-unpackItems (.ref s1.heap.objs.size) 2 none;assignInOrder [fun v=>bindName X.env y v,fun v=>bindName X.env x v] items.reverse;pure Flow.next) _ _ _
 refine wpAny_bind (wpAny_rule (wpAny_bind (unpackItems_tuple (items:= #[u1,u2]) (I.ok.hd hc) (IsTup.new s1.heap _) fun h' GX=>?_)))
 have I3:=I2.kept (h':=h') (t':=s1.toks) fun b o e=>GX b o (Yk (Yh e)) e
 show wpAny _ _ (assignInOrder [fun v=>bindName X.env y v,fun v=>bindName X.env x v] [u2,u1] >>= fun _=>pure Flow.next) _ _ _
 refine wpAny_bind (assignInOrder_cons (wpAny_bindName (gK I3 hN hj (.inl hy) rJ (fun s2 I4=>?_) (.inr hy))))
 refine assignInOrder_cons (wpAny_bindName (gK I4 hN hi (.inl hx) rv (fun s3 I5=>assignInOrder_nil (wpAny_pure ?_)) (.inr hx)))
 rw[List.set_comm _ _ (Ne.symm U0)]at I5
 exact ⟨_,H1,I5,q1⟩
def QF (i:Nat) (te:TE) (ti:O3):TS:=fun D σ H=> ∃x,σ[i]? =some (some x)/\te σ H fun y H1=>ti x y H1 fun z H2=>D.nx (σ.set i (some z)) H2
theorem jO {i:Nat} {x:Str} {e:Expr} {te:TE} {op:Operator} {ti:O3} {pos':Pos} (hN:X.N.Nodup) (hi:X.N[i]? =some x) (hx:Loc X.env.scope x) (he:PE X e te) (ho:MF X op ti) (hf:X.fn x=true\/X.env.scope.names.lookup x=some .local:=by first | exact .inl rfl | exact .inr rfl | assumption):
  PS X (.AugAssign (.Name x pos') op e pos) (QF i te ti):=by
 intro pins s σ H D I h
 obtain ⟨v,e1,h⟩:=h
 obtain ⟨m,hn,hl⟩:=I.loc
 have U1:Ms X.env.scope x:=by rcases hx with k | k;exact .inl k;exact .inr (.inl k)
 obtain ⟨u,r,l⟩:=hl i x v hi e1 U1
 refine wpAny_AugAssign_Name ?_
 have go:wpAny (model X.prog X.w) X.A (eval e X.env) (fun w s₂=>wpAny (model X.prog X.w) X.A (inplaceOp op u w) (fun r s₃=>wpAny (model X.prog X.w) X.A (storeName X.env x r) (fun _=>SP X pins D .next) X.xe s₃) X.xe s₂) X.xe s:=by
  refine cx (he pins s σ H _ I h) fun w s1 ⟨y,H1,I1,r1,q1⟩=>?_
  refine cx (ho pins s1 σ H1 v y u w _ I1 r r1 q1) fun z s2 ⟨zv,H2,I2,r2,q2⟩=>?_
  exact gK I2 hN hi hx r2 (fun s3 I3=>⟨_,H2,I3,q2⟩) hf
 rcases l with ⟨hk,hm⟩ | ⟨hk,c,hc,gL⟩
 ·exact wpAny_loadName_local I.ok.kind hk hn hm go
 ·rcases hk with hk | hk
  ·exact wpAny_loadName_cell I.ok.kind hk hc gL go
  ·rcases hx with k | k
   ·have:X.env.scope.names.lookup x=some .free:=hk
    rw[k]at this;cases this
   ·have:X.env.scope.names.lookup x=some .free:=hk
    rw[k]at this;cases this
def SH (f:Int->Int->Int):O3:=fun x y H Q=> ∃i j,x= .int i/\y= .int j/\Q (.int (f i j)) H
theorem rK:MF X .Add (SH fun i j=>i+j):=by
 intro pins s σ H x y v u Q I r1 r2 h
 obtain ⟨i,j,e1,e2,q⟩:=h
 subst e1;subst e2
 obtain ⟨t,rfl⟩:=r1
 obtain ⟨t',rfl⟩:=r2
 exact iadd_int ⟨.int _,H,I.tok _,⟨_,rfl⟩,q⟩
theorem Ii:MF X .Sub (SH fun i j=>i - j):=by
 intro pins s σ H x y v u Q I r1 r2 h
 obtain ⟨i,j,e1,e2,q⟩:=h
 subst e1;subst e2
 obtain ⟨t,rfl⟩:=r1
 obtain ⟨t',rfl⟩:=r2
 exact isub_int ⟨.int _,H,I.tok _,⟨_,rfl⟩,q⟩
end
section
variable {X:Cx} {pos:Pos}
end
structure It where
 go:Nat->Hp->Prop
 A8:Nat->Hp->V->Hp->Prop
 stop:Nat->Hp->Prop
def mP (X:Cx) (pins:List (Addr×Obj)) (H:Hp) (b:Addr):Prop:=
 H b=none/\b≠X.env.locals/\b∉X.fs/\(b∈X.ex\/X.s₀.heap.objs.size<=b)/\(∀x c,X.env.cells.lookup x=some c->c≠b)/\ ∀p∈X.pn++pins,p.1≠b
theorem Inv.pL {X:Cx} {pins:List (Addr×Obj)} {σ:St} {H H':Hp} {s:Shared} {b:Addr} (I:Inv X pins σ H s) (hb:s.heap.objs.size<=b) (hn:H' b=none):mP X pins H' b:=by
 refine ⟨hn,Qav (Yr I.lt hb),I.HZ hb, .inr (Yv I.sz hb),fun x c e z=>?_,fun p hp z=>?_⟩
 ·obtain ⟨v,q⟩:=I.cell x c e
  exact absurd (Yr q.lt (by rw[z];exact hb)) (YK _)
 ·exact absurd (Yr (Yh (I.pin p hp).1) (by rw[z];exact hb)) (YK _)
structure Turn (P:Program) (w:World) (K:PySem.W.Frag) (tg:Expr) (J:It) (fp:List Addr) (it:Addr) (tn:Nat->Heap->Prop):Prop where
 mem:it∈fp
 obj: ∀i h,tn i h-> ∀b∈fp, ∃o,h.get? b=some o/\ ∀v,o.data≠ .cell v
 keep: ∀i h h',tn i h->(∀b∈fp, ∀o,h.get? b=some o->h'.get? b=some o)->tn i h'
 item: ∀(X:Cx),X.prog=P->X.w=w->X.K=K->X.calm=true-> ∀(i:Nat) (pins:List (Addr×Obj)) (s:Shared) (σ:St) (H:Hp) (E:Value->Shared->Prop),Inv X pins σ H s->(∀b∈fp,mP X pins H b)->tn i s.heap->J.go i H->
  wpAny (model P w) X.A (pyNext (.ref it)) (fun r s1=> ∃u,r=some u/\
   wpAny (model P w) X.A (letOwnedTupleGo tg (.ref it) u) (fun _ s2=> ∃x H',Inv X pins σ H' s2/\RelV x u/\J.A8 i H x H'/\tn (i+1) s2.heap/\ ∀b∈fp,H' b=none) E s1) E s
 done: ∀(X:Cx),X.prog=P->X.w=w->X.K=K->X.calm=true-> ∀(i:Nat) (pins:List (Addr×Obj)) (s:Shared) (σ:St) (H:Hp) (E:Value->Shared->Prop),Inv X pins σ H s->(∀b∈fp,mP X pins H b)->tn i s.heap->J.stop i H->
  wpAny (model P w) X.A (pyNext (.ref it)) (fun r s1=>r=none/\Inv X pins σ H s1) E s
 self: ∀(A:Around) (i:Nat) (s:Shared) (Q:Value->Shared->Prop) (E:Value->Shared->Prop),tn i s.heap->Q (.ref it) s->wpAny (model P w) A (pyIter (.ref it)) Q E s
abbrev TI:=St->Hp->(It->Hp->Prop)->Prop
def SI (X:Cx) (pins:List (Addr×Obj)) (σ:St) (tg:Expr) (R:It->Hp->Prop) (QG:Value) (s2:Shared):Prop:=
 ∃(it:Addr) (fp:List Addr) (tn:Nat->Heap->Prop) (J:It) (H':Hp),QG= .ref it/\Inv X pins σ H' s2/\Turn X.prog X.w X.K tg J fp it tn/\tn 0 s2.heap/\(∀b∈fp,mP X pins H' b)/\R J H'
def PI (X:Cx) (tg iter:Expr) (wi:TI):Prop:=
 ∀(pins:List (Addr×Obj)) (s:Shared) (σ:St) (H:Hp) (R:It->Hp->Prop),Inv X pins σ H s->wi σ H R->
  wpAny (model X.prog X.w) X.A (eval iter X.env) (fun v s1=>wpAny (model X.prog X.w) X.A (pyIter v) (SI X pins σ tg R) X.xe s1) X.xe s
theorem ur {M:Model} {A:Around} {E:Value->Shared->Prop} {s:Shared} {tg:Expr} {it:Addr} {u:Value} {o:Obj} {n:String} {vs:Array Value} {Q:Unit->Shared->Prop} (ho:s.heap.get? it=some o) (hc:o.cls= .type n) (hd:o.data= .fields vs)
  (hn:["enumerate","zip","dict_itemiterator","dict_reverseitemiterator","odict_iterator","itertools.zip_longest","itertools.pairwise"].contains n=false) (hQ:Q () s):wpAny M A (letOwnedTupleGo tg (.ref it) u) Q E s:=by
 unfold letOwnedTupleGo
 cases tg<;>first
  | exact wpAny_pure hQ
  |(cases u<;>first
    | exact wpAny_pure hQ
    |(refine wpAny_bind (wpAny_load ho ?_)
      rw[hc,hd]
      show wpAny M A (if (["enumerate","zip","dict_itemiterator","dict_reverseitemiterator","odict_iterator","itertools.zip_longest","itertools.pairwise"].contains n&&vs[0]? ==some (rawInt _))=true then _ else _) Q E s
      rw[if_neg (by intro h;rw[hn,Bool.false_and]at h;cases h)]
      exact wpAny_pure hQ))
noncomputable def KQ (K:PySem.W.Frag) (a:Addr):It:=
 ⟨fun i H=> ∃xs x,bN K H a xs/\xs[i]? =some x,fun i H x H'=>H'=H/\ ∀xs,bN K H a xs->xs[i]? =some x,fun i H=> ∃xs,bN K H a xs/\xs.length<=i⟩
noncomputable def KR (K:PySem.W.Frag) (a:Addr):It:=
 ⟨fun i H=> ∃xs x,b_ K H a xs/\xs[i]? =some x,fun i H x H'=>H'=H/\ ∀xs,b_ K H a xs->xs[i]? =some x,fun i H=> ∃xs,b_ K H a xs/\xs.length<=i⟩
noncomputable def GY (lo:Int) (n:Nat):It:=⟨fun i _=>i<n,fun i H x H'=>H'=H/\x= .int (lo+i),fun i _=>n<=i⟩
theorem zO {P:Program} {w:World} {K:PySem.W.Frag} {tg:Expr} (a it:Addr):Turn P w K tg (KQ K a) [it] it (fun i h=>h.IsListIter it a i) where
 mem:=by simp
 obj:=fun i h st b hb=>by
  have e:b=it:=by simpa using hb
  subst e
  obtain ⟨o,e,c,d⟩:=st
  exact ⟨o,e,fun v z=>by rw[d]at z;cases z⟩
 keep:=fun i h h' st k=>st.at fun o e=>k it (by simp) o e
 item:=by
  intro X hP hw hK hc i pins s σ H E I hf st hg
  subst hP hw hK
  obtain ⟨xs,x,hq,hx⟩:=hg
  obtain ⟨aJ,rv,p,hz⟩:=I.list hq
  obtain ⟨u,hu,ru⟩:=rv.get hx
  obtain ⟨f0,f1,f2,f3,f4,f5⟩:=hf it (by simp)
  refine wpAny_pyNext_list_item st p.isList (x:=u) (by simpa using hu) fun h' uc sb=>?_
  have I1:Inv X pins σ H { s with heap:=h' }:=I.turned (t':=s.toks) (fun b o hb e=>(sb.2 b hb).trans e) f0 f1 f3 f4 f5
  obtain ⟨o,e,c,d⟩:=id uc
  exact ⟨u,rfl,ur (s:={ s with heap:=h' }) e c d (by decide) ⟨x,H,I1,ru,⟨rfl,fun ys hy=>by rw[I.uo hy hq];exact hx⟩,uc,fun b hb=>(hf b hb).1⟩⟩
 done:=by
  intro X hP hw hK hc i pins s σ H E I hf st hg
  subst hP hw hK
  obtain ⟨xs,hq,hx⟩:=hg
  obtain ⟨aJ,rv,p,hz⟩:=I.list hq
  obtain ⟨f0,f1,f2,f3,f4,f5⟩:=hf it (by simp)
  have hl:=rv.length
  exact wpAny_pyNext_list_end (I.ok.hd hc) st p.isList (by simp;omega) fun h' eb=>⟨rfl,I.turned (t':=s.toks) (fun b o hb e=>eb b o hb e) f0 f1 f3 f4 f5⟩
 self:=fun _ _ _ _ _ st h=>wpAny_pyIter_listiter st h
theorem wo {P:Program} {w:World} {K:PySem.W.Frag} {tg:Expr} (a it:Addr):Turn P w K tg (KR K a) [it] it (fun i h=>h.IsTupleIter it a i) where
 mem:=by simp
 obj:=fun i h st b hb=>by
  have e:b=it:=by simpa using hb
  subst e
  obtain ⟨o,e,c,d⟩:=st
  exact ⟨o,e,fun v z=>by rw[d]at z;cases z⟩
 keep:=fun i h h' st k=>st.at fun o e=>k it (by simp) o e
 item:=by
  intro X hP hw hK hc i pins s σ H E I hf st hg
  subst hP hw hK
  obtain ⟨xs,x,hq,hx⟩:=hg
  obtain ⟨aJ,rv,p,hz⟩:=I.tuple hq
  obtain ⟨u,hu,ru⟩:=rv.get hx
  obtain ⟨f0,f1,f2,f3,f4,f5⟩:=hf it (by simp)
  refine wpAny_pyNext_tuple_item st (show s.heap.IsTuple a aJ.toArray from p) (x:=u) (by simpa using hu) fun h' uc sb=>?_
  have I1:Inv X pins σ H { s with heap:=h' }:=I.turned (t':=s.toks) (fun b o hb e=>(sb.2 b hb).trans e) f0 f1 f3 f4 f5
  obtain ⟨o,e,c,d⟩:=id uc
  exact ⟨u,rfl,ur (s:={ s with heap:=h' }) e c d (by decide) ⟨x,H,I1,ru,⟨rfl,fun ys hy=>by rw[I.qp hy hq];exact hx⟩,uc,fun b hb=>(hf b hb).1⟩⟩
 done:=by
  intro X hP hw hK hc i pins s σ H E I hf st hg
  subst hP hw hK
  obtain ⟨xs,hq,hx⟩:=hg
  obtain ⟨aJ,rv,p,hz⟩:=I.tuple hq
  obtain ⟨f0,f1,f2,f3,f4,f5⟩:=hf it (by simp)
  have hl:=rv.length
  exact wpAny_pyNext_tuple_end (I.ok.hd hc) st (show s.heap.IsTuple a aJ.toArray from p) (by simp;omega) fun h' eb=>⟨rfl,I.turned (t':=s.toks) (fun b o hb e=>eb b o hb e) f0 f1 f3 f4 f5⟩
 self:=fun _ _ _ _ _ st h=>wpAny_pyIter_tupleiter st h
theorem wq {P:Program} {w:World} {K:PySem.W.Frag} {tg:Expr} (it:Addr) (lo:Int) (n:Nat):Turn P w K tg (GY lo n) [it] it (fun i h=>IsRangeIter h it (lo+(i:Nat)*1) ((n:Int) - (i:Nat)) 1) where
 mem:=by simp
 obj:=fun i h st b hb=>by
  have e:b=it:=by simpa using hb
  subst e
  exact ⟨_,st,fun v z=>by
   have z':Data.fields _=Data.cell v:=z
   cases z'⟩
 keep:=fun i h h' st k=>k it (by simp) _ st
 item:=by
  intro X hP hw hK hc i pins s σ H E I hf st hg
  subst hP hw hK
  obtain ⟨f0,f1,f2,f3,f4,f5⟩:=hf it (by simp)
  have W:=Walks.range (prog:=X.prog) (w:=X.w) (I.ok.hd hc) it lo 1 n
  refine W.item i s _ _ hg st fun v h' tk hv uc kk=>?_
  obtain ⟨t,rfl⟩:=hv
  have I1:Inv X pins σ H { s with heap:=h',toks:=tk }:=I.turned (fun b o hb e=>kk b o (by simpa using hb) e) f0 f1 f3 f4 f5
  refine ⟨_,rfl,ur (s:={ s with heap:=h',toks:=tk }) (n:="range_iterator") uc rfl rfl (by decide) ⟨.int (lo+i),H,I1,⟨t,?_⟩,⟨rfl,rfl⟩,uc,fun b hb=>(hf b hb).1⟩⟩
  rw[Int.mul_one]
 done:=by
  intro X hP hw hK hc i pins s σ H E I hf st hg
  subst hP hw hK
  obtain ⟨f0,f1,f2,f3,f4,f5⟩:=hf it (by simp)
  exact wpAny_pyNext_range_end (I.ok.hd hc) st (by have:n<=i:=hg;omega) fun h' eb=>⟨rfl,I.turned (t':=s.toks) (fun b o hb e=>eb b o hb e) f0 f1 f3 f4 f5⟩
 self:=fun _ _ _ _ _ st h=>wpAny_pyIter_rangeiter st h
section
variable {X:Cx} {tg:Expr}
def GZ (K:PySem.W.Frag) (tl:TE):TI:=fun σ H R=>tl σ H fun x H1=> ∃a,x= .ref a/\(∃xs,bN K H1 a xs)/\R (KQ K a) H1
def MI (K:PySem.W.Frag) (tl:TE):TI:=fun σ H R=>tl σ H fun x H1=> ∃a,x= .ref a/\(∃xs,b_ K H1 a xs)/\R (KR K a) H1
theorem EF {l:Expr} {tl:TE} (hl:PE X l tl):PI X tg l (GZ X.K tl):=by
 intro pins s σ H R I h
 refine cx (hl pins s σ H _ I h) fun v s1 ⟨x,H1,I1,r1,q1⟩=>?_
 obtain ⟨a,e,⟨xs,hq⟩,q⟩:=q1
 subst e
 cases r1
 obtain ⟨aJ,rv,p,hz⟩:=I1.list hq
 refine wpAny_pyIter_list p.isList ?_
 refine ⟨s1.heap.objs.size,[s1.heap.objs.size],_,_,H1,rfl,I1.kept (t':=s1.toks) fun b o e=>S0 _ e,zO a _,⟨_,Yf _ rfl,rfl,rfl⟩,fun b hb=>?_,q⟩
 have e:b=s1.heap.objs.size:=by simpa using hb
 subst e
 exact I1.pL (SY _) (I1.b5.fresh (SY _))
theorem Ij {l:Expr} {tl:TE} (hl:PE X l tl):PI X tg l (MI X.K tl):=by
 intro pins s σ H R I h
 refine cx (hl pins s σ H _ I h) fun v s1 ⟨x,H1,I1,r1,q1⟩=>?_
 obtain ⟨a,e,⟨xs,hq⟩,q⟩:=q1
 subst e
 cases r1
 obtain ⟨aJ,rv,p,hz⟩:=I1.tuple hq
 refine wpAny_pyIter_tuple (show s1.heap.IsTuple a aJ.toArray from p) ?_
 refine ⟨s1.heap.objs.size,[s1.heap.objs.size],_,_,H1,rfl,I1.kept (t':=s1.toks) fun b o e=>S0 _ e,wo a _,⟨_,Yf _ rfl,rfl,rfl⟩,fun b hb=>?_,q⟩
 have e:b=s1.heap.objs.size:=by simpa using hb
 subst e
 exact I1.pL (SY _) (I1.b5.fresh (SY _))
theorem uu {pins:List (Addr×Obj)} {σ:St} {H:Hp} {s:Shared} {R:It->Hp->Prop} {E:Value->Shared->Prop} {lo hi:Int} {t u v:Tok} {tk:Nat} (I:Inv X pins σ H s) (h1: -(2 ^ 62)<=lo) (h2:lo<2 ^ 62) (h3: -(2 ^ 62)<=hi) (h4:hi<2 ^ 62)
  (q:R (GY lo (hi - lo).toNat) H):wpAny (model X.prog X.w) X.A (pyIter (.ref s.heap.objs.size)) (SI X pins σ tg R) E { s with heap:=s.heap.push { cls:= .type "range",data:= .fields #[.int lo t, .int hi u, .int 1 v] },toks:=tk }:=by
 refine wpAny_pyIter_range (IsRange.new ..) (small_one h1 h2 h3 h4) ?_
 have I1:Inv X pins σ H { s with heap:=s.heap.push { cls:= .type "range",data:= .fields #[.int lo t, .int hi u, .int 1 v] },toks:=tk }:=I.kept fun b o e=>S0 _ e
 refine ⟨(s.heap.push { cls:= .type "range",data:= .fields #[.int lo t, .int hi u, .int 1 v] }).objs.size,[(s.heap.push { cls:= .type "range",data:= .fields #[.int lo t, .int hi u, .int 1 v] }).objs.size],_,_,H,rfl,
  I1.kept (t':=tk) fun b o e=>S0 _ e,wq _ lo (hi - lo).toNat,?_,fun b hb=>?_,q⟩
 ·have e1:lo+((0:Nat):Int)*1=lo:=by simp
  have e2:(((hi - lo).toNat:Nat):Int) - ((0:Nat):Int)=Builtin.Range.rangeSize lo hi 1:=by rw[rangeSize_one];split<;>omega
  show IsRangeIter _ _ (lo+((0:Nat):Int)*1) ((((hi - lo).toNat:Nat):Int) - ((0:Nat):Int)) 1
  rw[e1,e2]
  exact Yf _ rfl
 ·have e:b=(s.heap.push { cls:= .type "range",data:= .fields #[.int lo t, .int hi u, .int 1 v] }).objs.size:=by simpa using hb
  subst e
  exact I1.pL (SY _) (I1.b5.fresh (SY _))
def MJ (ta:TA):TI:=fun σ H R=>ta σ H fun vs H1=> ∃j:Int,vs=[.int j]/\ -(2 ^ 62)<=j/\j<2 ^ 62/\R (GY 0 j.toNat) H1
def MK (ta:TA):TI:=fun σ H R=>ta σ H fun vs H1=> ∃i j:Int,vs=[.int i, .int j]/\(-(2 ^ 62)<=i/\i<2 ^ 62/\ -(2 ^ 62)<=j/\j<2 ^ 62)/\R (GY i (j - i).toNat) H1
theorem fS {a:Expr} {ta:TA} {p pos:Pos} (hg:Gl X "range") (hm:X.mg "range"=none) (ha:PA X [a] ta) (hs:starEach [a] X.env=[(false,eval a X.env)]:=by rfl):PI X tg (.Call (.Name "range" p) [a] [] pos) (MJ ta):=by
 intro pins s σ H R I h
 refine Call_ (gv I hg hm boot_range (YL (cx (ha pos pins s σ H _ I h) fun us s1 ⟨vs,H1,I1,r1,q1⟩=>?_) hs rfl))
 obtain ⟨j,e,q1,q2,q⟩:=q1
 subst e
 cases r1 with
 | cons r rr=>
  cases rr
  obtain ⟨t,rfl⟩:=r
  exact call_range_1 (uu I1 (by omega) (by omega) q1 q2 (by simpa using q))
theorem qq {a b:Expr} {ta:TA} {p pos:Pos} (hg:Gl X "range") (hm:X.mg "range"=none) (ha:PA X [a,b] ta) (hs:starEach [a,b] X.env=[(false,eval a X.env),(false,eval b X.env)]:=by rfl) (Ik:starEach [b] X.env=[(false,eval b X.env)]:=by rfl):
  PI X tg (.Call (.Name "range" p) [a,b] [] pos) (MK ta):=by
 intro pins s σ H R I h
 refine Call_ (gv I hg hm boot_range (YL (cx (ha pos pins s σ H _ I h) fun us s1 ⟨vs,H1,I1,r1,q1⟩=>?_) (by rw[hs,Ik]) (by rw[Ik];rfl)))
 obtain ⟨i,j,e,⟨q1,q2,q3,q4⟩,q⟩:=q1
 subst e
 cases r1 with
 | cons r rr=>
  cases rr with
  | cons r' rr=>
   cases rr
   obtain ⟨t,rfl⟩:=r
   obtain ⟨t',rfl⟩:=r'
   exact call_range_2 (uu I1 q1 q2 q3 q4 q)
def QH (wi:TI) (g:TG) (tb:TS):TS:=fun D σ H=>wi σ H fun J H1=> ∃W:Nat->Nat->St->Hp->Prop,(∃m,W 0 m σ H1)/\ ∀i m σ H,W i m σ H->
 (J.stop i H/\D.nx σ H)\/(J.go i H/\ ∃N:St->Hp->Prop,(∀σ' H',N σ' H'-> ∃m',m'<m/\W (i+1) m' σ' H')/\ ∀x H',J.A8 i H x H'->g x σ H' fun σ2 H2=>tb { D with nx:=N,ct:=N,bk:=D.nx } σ2 H2)
noncomputable def nK (fp:List Addr) (h:Heap):List (Addr×Obj):=fp.filterMap fun b=>(h.get? b).map fun o=>(b,o)
theorem g5 {fp:List Addr} {h:Heap} {b:Addr} {o:Obj} (hb:b∈fp) (e:h.get? b=some o):(b,o)∈nK fp h:=List.mem_filterMap.mpr ⟨b,hb,by rw[e];rfl⟩
theorem zP {fp:List Addr} {h:Heap} {p:Addr×Obj} (hp:p∈nK fp h):p.1∈fp/\h.get? p.1=some p.2:=by
 obtain ⟨b,hb,e⟩:=List.mem_filterMap.mp hp
 cases q:h.get? b with
 | none=>rw[q]at e;cases e
 | some o=>
  rw[q]at e
  have e':(b,o)=p:=Yg e
  subst e'
  exact ⟨hb,q⟩
theorem Inv.pinned {pins:List (Addr×Obj)} {σ:St} {H:Hp} {s:Shared} {fp:List Addr} (I:Inv X pins σ H s) (hf: ∀b∈fp,mP X pins H b) (ho: ∀b∈fp, ∃o,s.heap.get? b=some o/\ ∀v,o.data≠ .cell v):Inv X (pins++nK fp s.heap) σ H s:=
 I.j9 fun p hp=>(Yi.mp hp).elim (fun z=>I.pin p (Yq _ z)) fun z=>by
  obtain ⟨hb,e⟩:=zP z
  obtain ⟨f0,f1,f2,_⟩:=hf p.1 hb
  obtain ⟨o,e',d⟩:=ho p.1 hb
  rw[e]at e';cases e'
  exact ⟨e,f0,f1,f2,d⟩
theorem Inv.iM {pins pl:List (Addr×Obj)} {σ:St} {H:Hp} {s:Shared} (I:Inv X (pins++pl) σ H s):Inv X pins σ H s:=I.j9 fun p hp=>I.pin p (Yq _ (Zc _ hp))
theorem cU {iter:Expr} {body:List Stmt} {wi:TI} {g:TG} {tb:TS} {pos:Pos} (hp:PassesOwn (model X.prog X.w) X.A X.env X.xe) (hc:X.calm=true) (hi:PI X tg iter wi) (hg:PG X tg g) (hb:we X body tb)
  (hs: ∀x,foldedSetIterable iter X.env x=pure x:=by intro _;rfl):PS X (.For tg iter body [] pos) (QH wi g tb):=by
 intro pins s σ H D I h
 refine wpAny_For (cx (hi pins s σ H _ I h) fun v s1 h1=>cx h1 fun QG s2 h2=>?_) hs
 obtain ⟨it,fp,tn,J,H2,e,I2,T,vU,f2,W,⟨m0,w0⟩,turn⟩:=h2
 subst e
 -- U2 stays true of Bn Il objects through Bn loop
 have Im: ∀{H':Hp},(∀b∈fp,H' b=none)-> ∀b∈fp,mP X pins H' b:=fun hn b hb=>⟨hn b hb,(f2 b hb).2⟩
 refine codeAny_forLoop_any (fun n s'=> ∃i σ' H',Inv X pins σ' H' s'/\tn i s'.heap/\(∀b∈fp,H' b=none)/\W i n σ' H') ?_ m0 ⟨0,σ,H2,I2,vU,fun b hb=>(f2 b hb).1,w0⟩
 rintro n s3 ⟨i,σ3,H3,I3,ML,MM,w3⟩
 rcases turn i n σ3 H3 w3 with ⟨stop,qn⟩ | ⟨go,N,hN,step⟩
 ·refine wpAny_passesOwn hp (cx (T.done X rfl rfl rfl hc i pins s3 σ3 H3 X.xe I3 (Im MM) ML stop) fun r s4 ⟨hr,I4⟩=>?_)
  subst hr
  exact wpAny_execs_nil ⟨σ3,H3,I4,qn⟩
 ·refine wpAny_passesOwn hp (cx (T.item X rfl rfl rfl hc i pins s3 σ3 H3 X.xe I3 (Im MM) ML go) fun r s4 ⟨u,hr,h4⟩=>?_)
  subst hr
  refine wpAny_passesOwn hp (cx h4 fun _ s5 ⟨x,H5,I5,r5,y5,Io,QI⟩=>?_)
  have QJ:=I5.pinned (Im QI) (T.obj _ _ Io)
  refine wpAny_passesOwn hp (cx (hg _ s5 σ3 H5 x u _ QJ r5 (step x H5 y5)) fun _ s6 ⟨σ6,H6,I6,q6⟩=>?_)
  refine wpAny_passesOwn hp (cx (hb _ s6 σ6 H6 _ I6 q6) fun f s7 q7=>?_)
  have again: ∀{σ7:St} {H7:Hp},Inv X (pins++nK fp s5.heap) σ7 H7 s7->N σ7 H7-> ∃m,m<n/\ ∃i σ' H',Inv X pins σ' H' s7/\tn i s7.heap/\(∀b∈fp,H' b=none)/\W i m σ' H':=fun {σ7 H7} I7 n7=>by
   obtain ⟨m',hm,w7⟩:=hN σ7 H7 n7
   refine ⟨m',hm,i+1,σ7,H7,I7.iM,T.keep _ _ _ Io fun b hb o e=>(I7.pin (b,o) (Yq _ (Yq _ (g5 hb e)))).1,fun b hb=>?_,w7⟩
   obtain ⟨o,e,d⟩:=T.obj _ _ Io b hb
   exact (I7.pin (b,o) (Yq _ (Yq _ (g5 hb e)))).2.1
  cases f with
  | next=>obtain ⟨σ7,H7,I7,n7⟩:=q7;exact again I7 n7
  | cont=>obtain ⟨σ7,H7,I7,n7⟩:=q7;exact again I7 n7
  | brk=>obtain ⟨σ7,H7,I7,q7⟩:=q7;exact ⟨σ7,H7,I7.iM,q7⟩
  | ret v=>obtain ⟨x7,σ7,H7,I7,r7,q7⟩:=q7;exact ⟨x7,σ7,H7,I7.iM,r7,q7⟩
end
theorem iN {K:PySem.W.Frag} {a:Addr} {xs:List V} {g:TG} {tb:TS} {D:Ends} {σ:St} {H:Hp} (Pv:Nat->St->Hp->Prop) (h0:Pv 0 σ H) (hl: ∀i σ H,i<=xs.length->Pv i σ H->bN K H a xs)
  (hs: ∀i x σ H,xs[i]? =some x->Pv i σ H->g x σ H fun σ2 H2=>tb { D with nx:=Pv (i+1),ct:=Pv (i+1),bk:=D.nx } σ2 H2) (hd: ∀σ H,Pv xs.length σ H->D.nx σ H):
  ∃W:Nat->Nat->St->Hp->Prop,(∃m,W 0 m σ H)/\ ∀i m σ H,W i m σ H->
   ((KQ K a).stop i H/\D.nx σ H)\/((KQ K a).go i H/\ ∃N:St->Hp->Prop,(∀σ' H',N σ' H'-> ∃m',m'<m/\W (i+1) m' σ' H')/\ ∀x H',(KQ K a).A8 i H x H'->g x σ H' fun σ2 H2=>tb { D with nx:=N,ct:=N,bk:=D.nx } σ2 H2):=by
 refine ⟨fun i m σ H=>m=xs.length - i/\i<=xs.length/\Pv i σ H,⟨xs.length,by simp,Xy _,h0⟩,?_⟩
 rintro i m σ H ⟨rfl,hi,p⟩
 have q:=hl i σ H hi p
 by_cases dB:i<xs.length
 ·refine .inr ⟨⟨xs,xs[i],q,by simp[dB]⟩,Pv (i+1),fun σ' H' p'=>⟨xs.length - (i+1),by omega,rfl,dB,p'⟩,fun x H' y=>?_⟩
  obtain ⟨e,y⟩:=y
  subst e
  exact hs i x σ _ (y xs q) p
 ·have e:i=xs.length:=by omega
  subst e
  exact .inl ⟨⟨xs,q,SY _⟩,hd σ H p⟩
theorem yp {K:PySem.W.Frag} {a:Addr} {xs:List V} {g:TG} {tb:TS} {D:Ends} {σ:St} {H:Hp} (Pv:Nat->St->Hp->Prop) (h0:Pv 0 σ H) (hl: ∀i σ H,i<=xs.length->Pv i σ H->b_ K H a xs)
  (hs: ∀i x σ H,xs[i]? =some x->Pv i σ H->g x σ H fun σ2 H2=>tb { D with nx:=Pv (i+1),ct:=Pv (i+1),bk:=D.nx } σ2 H2) (hd: ∀σ H,Pv xs.length σ H->D.nx σ H):
  ∃W:Nat->Nat->St->Hp->Prop,(∃m,W 0 m σ H)/\ ∀i m σ H,W i m σ H->
   ((KR K a).stop i H/\D.nx σ H)\/((KR K a).go i H/\ ∃N:St->Hp->Prop,(∀σ' H',N σ' H'-> ∃m',m'<m/\W (i+1) m' σ' H')/\ ∀x H',(KR K a).A8 i H x H'->g x σ H' fun σ2 H2=>tb { D with nx:=N,ct:=N,bk:=D.nx } σ2 H2):=by
 refine ⟨fun i m σ H=>m=xs.length - i/\i<=xs.length/\Pv i σ H,⟨xs.length,by simp,Xy _,h0⟩,?_⟩
 rintro i m σ H ⟨rfl,hi,p⟩
 have q:=hl i σ H hi p
 by_cases dB:i<xs.length
 ·refine .inr ⟨⟨xs,xs[i],q,by simp[dB]⟩,Pv (i+1),fun σ' H' p'=>⟨xs.length - (i+1),by omega,rfl,dB,p'⟩,fun x H' y=>?_⟩
  obtain ⟨e,y⟩:=y
  subst e
  exact hs i x σ _ (y xs q) p
 ·have e:i=xs.length:=by omega
  subst e
  exact .inl ⟨⟨xs,q,SY _⟩,hd σ H p⟩
theorem gM {lo:Int} {n:Nat} {g:TG} {tb:TS} {D:Ends} {σ:St} {H:Hp} (Pv:Nat->St->Hp->Prop) (h0:Pv 0 σ H)
  (hs: ∀i σ H,i<n->Pv i σ H->g (.int (lo+i)) σ H fun σ2 H2=>tb { D with nx:=Pv (i+1),ct:=Pv (i+1),bk:=D.nx } σ2 H2) (hd: ∀σ H,Pv n σ H->D.nx σ H):
  ∃W:Nat->Nat->St->Hp->Prop,(∃m,W 0 m σ H)/\ ∀i m σ H,W i m σ H->
   ((GY lo n).stop i H/\D.nx σ H)\/((GY lo n).go i H/\ ∃N:St->Hp->Prop,(∀σ' H',N σ' H'-> ∃m',m'<m/\W (i+1) m' σ' H')/\ ∀x H',(GY lo n).A8 i H x H'->g x σ H' fun σ2 H2=>tb { D with nx:=N,ct:=N,bk:=D.nx } σ2 H2):=by
 refine ⟨fun i m σ H=>m=n - i/\i<=n/\Pv i σ H,⟨n,by simp,Xy _,h0⟩,?_⟩
 rintro i m σ H ⟨rfl,hi,p⟩
 by_cases dB:i<n
 ·refine .inr ⟨dB,Pv (i+1),fun σ' H' p'=>⟨n - (i+1),by omega,rfl,dB,p'⟩,fun x H' y=>?_⟩
  obtain ⟨e,y⟩:=y
  subst e y
  exact hs i σ _ dB p
 ·have e:i=n:=by omega
  subst e
  exact .inl ⟨SY _,hd σ H p⟩
abbrev R2:=V->V->Hp->VK->Prop
def iH (X:Cx) (f:Value->Value->Sem Value) (r:R2):Prop:=
 ∀(pins:List (Addr×Obj)) (s:Shared) (σ:St) (H:Hp) (x y:V) (v u:Value) (Q:VK),Inv X pins σ H s->RelV x v->RelV y u->r x y H Q->
  wpAny (model X.prog X.w) X.A (f v u) (EP X pins σ Q) X.xe s
def QK (X:Cx) (f:Value->Sem Value) (r:V->Hp->VK->Prop):Prop:=
 ∀(pins:List (Addr×Obj)) (s:Shared) (σ:St) (H:Hp) (x:V) (v:Value) (Q:VK),Inv X pins σ H s->RelV x v->r x H Q->
  wpAny (model X.prog X.w) X.A (f v) (EP X pins σ Q) X.xe s
def eM (X:Cx) (f:Value) (r:List V->Hp->VK->Prop):Prop:=
 ∀(pins:List (Addr×Obj)) (s:Shared) (σ:St) (H:Hp) (xs:List V) (us:List Value) (Q:VK),Inv X pins σ H s->Vals xs us->r xs H Q->
  wpAny (model X.prog X.w) X.A (call f us) (EP X pins σ Q) X.xe s
def QL (X:Cx) (r:V->Hp->(Bool->Hp->Prop)->Prop):Prop:=
 ∀(pins:List (Addr×Obj)) (s:Shared) (σ:St) (H:Hp) (x:V) (v:Value) (Q:Bool->Hp->Prop),Inv X pins σ H s->RelV x v->r x H Q->
  wpAny (model X.prog X.w) X.A (truthy v) (TP X pins σ Q) X.xe s
def O4 (r:R2) (ta tb:TE):TE:=fun σ H Q=>ta σ H fun x H1=>tb σ H1 fun y H2=>r x y H2 Q
def U3 (r:V->Hp->VK->Prop) (ta:TE):TE:=fun σ H Q=>ta σ H fun x H1=>r x H1 Q
def rI (C:Int->Int->Prop) (g:Int->Int->V):R2:=fun x y H Q=> ∃i j,x= .int i/\y= .int j/\C i j/\Q (g i j) H
def EG (g:Int->Int->V):R2:=fun x y H Q=> ∃i j,x= .int i/\y= .int j/\Q (g i j) H
def rU (g:Int->V):V->Hp->VK->Prop:=fun x H Q=> ∃i,x= .int i/\Q (g i) H
section
variable {X:Cx} {a b c:Expr} {ta tb tc:TE} {pos:Pos}
theorem Ip (ha:PE X a ta) (hb:PE X b tb) {pins:List (Addr×Obj)} {s:Shared} {σ:St} {H:Hp} {R:V->V->Hp->Prop} (I:Inv X pins σ H s)
  (h:ta σ H fun x H1=>tb σ H1 fun y H2=>R x y H2) {Q:Value->Shared->Prop} {f:Value->Value->Sem Value}
  (hf: ∀v u s2 x y H2,Inv X pins σ H2 s2->RelV x v->RelV y u->R x y H2->wpAny (model X.prog X.w) X.A (f v u) Q X.xe s2):
  wpAny (model X.prog X.w) X.A (eval a X.env) (fun v s₁=>wpAny (model X.prog X.w) X.A (eval b X.env) (fun u s₂=>wpAny (model X.prog X.w) X.A (f v u) Q X.xe s₂) X.xe s₁) X.xe s:=by
 refine cx (ha pins s σ H _ I h) fun v s1 ⟨x,H1,I1,r1,q1⟩=>?_
 refine cx (hb pins s1 σ H1 _ I1 q1) fun u s2 ⟨y,H2,I2,r2,q2⟩=>?_
 exact hf v u s2 x y H2 I2 r1 r2 q2
theorem az {op:Operator} {r:R2} (ho:iH X (binaryOp op) r) (ha:PE X a ta) (hb:PE X b tb):PE X (.BinOp a op b pos) (O4 r ta tb):=by
 intro pins s σ H Q I h
 exact wpAny_BinOp (Ip ha hb I h fun v u s2 x y H2 I2 rx ry q=>ho pins s2 σ H2 x y v u Q I2 rx ry q)
theorem ka {op:UnaryOp} {r:V->Hp->VK->Prop} (ho:QK X (unaryOp op) r) (ha:PE X a ta):PE X (.UnaryOp op a pos) (U3 r ta):=by
 intro pins s σ H Q I h
 exact UnaryOp_ (cx (ha pins s σ H _ I h) fun v s1 ⟨x,H1,I1,r1,q1⟩=>ho pins s1 σ H1 x v Q I1 r1 q1)
theorem O5 {f:Value->Value->Sem Value} {C:Int->Int->Prop} {g:Int->Int->Int}
  (rule: ∀(i j:Int) (t u:Tok) (s:Shared) (Q:Value->Shared->Prop) (E:Value->Shared->Prop),C i j->Q (.int (g i j) s.toks) { s with toks:=s.toks+1 }->wpAny (model X.prog X.w) X.A (f (.int i t) (.int j u)) Q E s):
  iH X f (rI C fun i j=> .int (g i j)):=by
 intro pins s σ H x y v u Q I rx ry h
 obtain ⟨i,j,rfl,rfl,hc,q⟩:=h
 obtain ⟨t,rfl⟩:=rx
 obtain ⟨t',rfl⟩:=ry
 exact rule i j t t' s _ _ hc ⟨.int (g i j),H,I.tok _,⟨_,rfl⟩,q⟩
theorem MN {f:Value->Value->Sem Value} {g:Int->Int->Int}
  (rule: ∀(i j:Int) (t u:Tok) (s:Shared) (Q:Value->Shared->Prop) (E:Value->Shared->Prop),Q (.int (g i j) s.toks) { s with toks:=s.toks+1 }->wpAny (model X.prog X.w) X.A (f (.int i t) (.int j u)) Q E s):
  iH X f (EG fun i j=> .int (g i j)):=by
 intro pins s σ H x y v u Q I rx ry h
 obtain ⟨i,j,rfl,rfl,q⟩:=h
 obtain ⟨t,rfl⟩:=rx
 obtain ⟨t',rfl⟩:=ry
 exact rule i j t t' s _ _ ⟨.int (g i j),H,I.tok _,⟨_,rfl⟩,q⟩
theorem EH {f:Value->Value->Sem Value} {g:Int->Int->Bool}
  (rule: ∀(i j:Int) (t u:Tok) (s:Shared) (Q:Value->Shared->Prop) (E:Value->Shared->Prop),Q (.bool (g i j)) s->wpAny (model X.prog X.w) X.A (f (.int i t) (.int j u)) Q E s):
  iH X f (EG fun i j=> .bl (g i j)):=by
 intro pins s σ H x y v u Q I rx ry h
 obtain ⟨i,j,rfl,rfl,q⟩:=h
 obtain ⟨t,rfl⟩:=rx
 obtain ⟨t',rfl⟩:=ry
 exact rule i j t t' s _ _ ⟨.bl (g i j),H,I,rfl,q⟩
def QM (i j:Int):Prop:=0<j/\j<1073741824
def QN (i j:Int):Prop:=0<=j/\j<=1000000/\i.natAbs<2 ^ 64
def EI (i j:Int):Prop:=(-(2 ^ 64)<i/\i<2 ^ 64)\/(-(2 ^ 64)<j/\j<2 ^ 64)
theorem EI.ok {i j:Int} (h:EI i j):IntMulOk i j:=by
 rcases h with ⟨h1,h2⟩ | ⟨h1,h2⟩
 ·exact .of_left (intBits_le_64 h1 h2)
 ·exact .of_right (intBits_le_64 h1 h2)
theorem ba:iH X (binaryOp .Add) (EG fun i j=> .int (i+j)):=MN fun _ _ _ _ _ _ _ q=>add_int q
theorem c_:iH X (binaryOp .Sub) (EG fun i j=> .int (i - j)):=MN fun _ _ _ _ _ _ _ q=>sub_int q
theorem gw:iH X (binaryOp .Mult) (rI EI fun i j=> .int (i*j)):=O5 fun _ _ _ _ _ _ _ hc q=>mul_int q hc.ok
theorem fB:iH X (binaryOp .Mod) (rI (fun _ j=>0<j) fun i j=> .int (i%j)):=O5 fun i j _ _ _ _ _ hc q=>by
 have h1:(0:Int)<j:=hc
 exact mod_int' (by omega) (by rw[Int.fmod_eq_emod_of_nonneg i (by omega)];exact q)
theorem Bo:iH X (binaryOp .Pow) (rI QN fun i j=> .int (i ^ j.toNat)):=O5 fun _ _ _ _ _ _ _ hc q=>pow_int_small hc.1 hc.2.1 hc.2.2 q
theorem U4 {f:Value->Sem Value} {g:Int->Int}
  (rule: ∀(i:Int) (t:Tok) (s:Shared) (Q:Value->Shared->Prop) (E:Value->Shared->Prop),Q (.int (g i) s.toks) { s with toks:=s.toks+1 }->wpAny (model X.prog X.w) X.A (f (.int i t)) Q E s):
  QK X f (rU fun i=> .int (g i)):=by
 intro pins s σ H x v Q I rx h
 obtain ⟨i,rfl,q⟩:=h
 obtain ⟨t,rfl⟩:=rx
 exact rule i t s _ _ ⟨.int (g i),H,I.tok _,⟨_,rfl⟩,q⟩
theorem g6:QK X (unaryOp .USub) (rU fun i=> .int (-i)):=U4 fun _ _ _ _ _ q=>neg_int q
end
noncomputable def MO:V->V->Bool
 | .fH, .fH=>true | .fH, .int _=>true | .int _, .fH=>true | .fH, .bl _=>true | .bl _, .fH=>true | .fH, .str _=>true | .str _, .fH=>true
 | .int _, .int _=>true | .bl _, .bl _=>true | .str _, .str _=>true | .yj _, .yj _=>true
 | .int _, .str _=>true | .str _, .int _=>true | .bl _, .str _=>true | .str _, .bl _=>true
 | _,_=>false
def U5:R2:=fun x y H Q=>MO x y=true/\Q (.bl (decide (x=y))) H
def U6:R2:=fun x y H Q=>MO x y=true/\Q (.bl (!decide (x=y))) H
theorem yq {i j:Int}:decide (V.int i=V.int j)=(i==j):=by
 rw[Z5]
 simp
theorem Bp {i j:Bool}:decide (V.bl i=V.bl j)=(i==j):=by
 rw[Z5]
 simp
theorem yr {i j:Str}:decide (V.str i=V.str j)=(i==j):=by
 rw[Z5]
 simp
theorem yt {i j:Array UInt8}:decide (V.yj i=V.yj j)=(i.toList==j.toList):=by
 rw[Z5]
 cases i
 cases j
 simp
section
variable {X:Cx} {a b c:Expr} {ta tb tc:TE} {pos:Pos}
theorem br {pins:List (Addr×Obj)} {σ:St} {H:Hp} {s:Shared} {Q:VK} {k k':Bool} (I:Inv X pins σ H s) (q:Q (.bl k) H) (e:k=k'):EP X pins σ Q (.bool k') s:=by
 subst e
 exact ⟨.bl k,H,I,rfl,q⟩
theorem G0:iH X (compareOp .Eq) U5:=by
 intro pins s σ H x y v u Q I rx ry h
 obtain ⟨hs,q⟩:=h
 cases x with
 | fH=>
  cases rx
  cases y with
  | fH=>cases ry;exact PySem.EqNone.eq_none_none (br I q (by simp))
  | bl j=>cases ry;exact PySem.EqNone.eq_none_bool (br I q (by simp))
  | int j=>obtain ⟨t',rfl⟩:=ry;exact PySem.EqNone.eq_none_int (br I q (by simp))
  | str j=>obtain ⟨t',rfl⟩:=ry;exact PySem.EqNone.eq_none_str (br I q (by simp))
  | _=>exact absurd (show false=true from hs) Yj
 | bl i=>
  cases rx
  cases y with
  | fH=>cases ry;exact PySem.EqNone.eq_bool_none (br I q (by simp))
  | bl j=>cases ry;exact eq_bool (br I q Bp)
  | str j=>obtain ⟨t',rfl⟩:=ry;exact PySem.EqMixed.eq_bool_str (br I q (by simp))
  | _=>exact absurd (show false=true from hs) Yj
 | int i=>
  obtain ⟨t,rfl⟩:=rx
  cases y with
  | fH=>cases ry;exact PySem.EqNone.eq_int_none (br I q (by simp))
  | int j=>obtain ⟨t',rfl⟩:=ry;exact eq_int (br I q yq)
  | str j=>obtain ⟨t',rfl⟩:=ry;exact PySem.EqMixed.eq_int_str (br I q (by simp))
  | _=>exact absurd (show false=true from hs) Yj
 | str i=>
  obtain ⟨t,rfl⟩:=rx
  cases y with
  | fH=>cases ry;exact PySem.EqNone.eq_str_none (br I q (by simp))
  | bl j=>cases ry;exact PySem.EqMixed.eq_str_bool (br I q (by simp))
  | int j=>obtain ⟨t',rfl⟩:=ry;exact PySem.EqMixed.eq_str_int (br I q (by simp))
  | str j=>obtain ⟨t',rfl⟩:=ry;exact eq_str (br I q yr)
  | _=>exact absurd (show false=true from hs) Yj
 | yj i=>
  obtain ⟨t,rfl⟩:=rx
  cases y with
  | yj j=>obtain ⟨t',rfl⟩:=ry;exact PySem.W.eq_bytes (br I q yt)
  | _=>exact absurd (show false=true from hs) Yj
 | _=>cases y<;>exact absurd (show false=true from hs) Yj
theorem G1:iH X (compareOp .NotEq) U6:=by
 intro pins s σ H x y v u Q I rx ry h
 obtain ⟨hs,q⟩:=h
 cases x with
 | fH=>
  cases rx
  cases y with
  | fH=>cases ry;exact PySem.EqNone.ne_none_none (br I q (by simp))
  | bl j=>cases ry;exact PySem.EqNone.ne_none_bool (br I q (by simp))
  | int j=>obtain ⟨t',rfl⟩:=ry;exact PySem.EqNone.ne_none_int (br I q (by simp))
  | str j=>obtain ⟨t',rfl⟩:=ry;exact PySem.EqNone.ne_none_str (br I q (by simp))
  | _=>exact absurd (show false=true from hs) Yj
 | bl i=>
  cases rx
  cases y with
  | fH=>cases ry;exact PySem.EqNone.ne_bool_none (br I q (by simp))
  | bl j=>cases ry;exact ne_bool (br I q (congrArg not Bp))
  | str j=>obtain ⟨t',rfl⟩:=ry;exact PySem.EqMixed.ne_bool_str (br I q (by simp))
  | _=>exact absurd (show false=true from hs) Yj
 | int i=>
  obtain ⟨t,rfl⟩:=rx
  cases y with
  | fH=>cases ry;exact PySem.EqNone.ne_int_none (br I q (by simp))
  | int j=>obtain ⟨t',rfl⟩:=ry;exact ne_int (br I q (congrArg not yq))
  | str j=>obtain ⟨t',rfl⟩:=ry;exact PySem.EqMixed.ne_int_str (br I q (by simp))
  | _=>exact absurd (show false=true from hs) Yj
 | str i=>
  obtain ⟨t,rfl⟩:=rx
  cases y with
  | fH=>cases ry;exact PySem.EqNone.ne_str_none (br I q (by simp))
  | bl j=>cases ry;exact PySem.EqMixed.ne_str_bool (br I q (by simp))
  | int j=>obtain ⟨t',rfl⟩:=ry;exact PySem.EqMixed.ne_str_int (br I q (by simp))
  | str j=>obtain ⟨t',rfl⟩:=ry;exact ne_str (br I q (congrArg not yr))
  | _=>exact absurd (show false=true from hs) Yj
 | yj i=>
  obtain ⟨t,rfl⟩:=rx
  cases y with
  | yj j=>obtain ⟨t',rfl⟩:=ry;exact PySem.W.ne_bytes (br I q (congrArg not yt))
  | _=>exact absurd (show false=true from hs) Yj
 | _=>cases y<;>exact absurd (show false=true from hs) Yj
theorem kc:iH X (compareOp .Lt) (EG fun i j=> .bl (decide (i<j))):=EH fun _ _ _ _ _ _ _ q=>lt_int q
theorem G2:iH X (compareOp .LtE) (EG fun i j=> .bl (decide (i<=j))):=EH fun _ _ _ _ _ _ _ q=>le_int q
theorem nM:iH X (compareOp .Gt) (EG fun i j=> .bl (decide (j<i))):=EH fun _ _ _ _ _ _ _ q=>gt_int q
theorem Bq:iH X (compareOp .GtE) (EG fun i j=> .bl (decide (j<=i))):=EH fun _ _ _ _ _ _ _ q=>ge_int q
theorem zQ:iH X (compareOp .Lt) (fun x y H Q=> ∃i j,x= .str i/\y= .str j/\Q (.bl (decide (i.cps.toList<j.cps.toList))) H):=by
 intro pins s σ H x y v u Q I rx ry h
 obtain ⟨i,j,rfl,rfl,q⟩:=h
 obtain ⟨t,rfl⟩:=rx
 obtain ⟨t',rfl⟩:=ry
 exact lt_str (br I q rfl)
theorem zR:iH X (compareOp .In) (fun x y H Q=> ∃i j,x= .str i/\y= .str j/\Q (.bl (!(Builtin.Str.occurrences j i 0 j.length 1).isEmpty)) H):=by
 intro pins s σ H x y v u Q I rx ry h
 obtain ⟨i,j,rfl,rfl,q⟩:=h
 obtain ⟨t,rfl⟩:=rx
 obtain ⟨t',rfl⟩:=ry
 exact in_str (br I q rfl)
theorem aP (b:Expr) {op:CmpOp} (h:op≠ .In:=by decide) (h2:op≠ .NotIn:=by decide):behindInMarks op b=false:=by
 have e1:(op==CmpOp.In)=false:=by cases op<;>first | rfl | exact absurd rfl h
 have e2:(op==CmpOp.NotIn)=false:=by cases op<;>first | rfl | exact absurd rfl h2
 cases b<;>simp[behindInMarks,e1,e2]
theorem dZ {op:CmpOp} {r:R2} (ho:iH X (compareOp op) r) (ha:PE X a ta) (hb:PE X b tb) (hm:behindInMarks op b=false):PE X (.Compare a [op] [b] pos) (O4 r ta tb):=by
 intro pins s σ H Q I h
 exact wpAny_Compare1 (Ip ha hb I h fun v u s2 x y H2 I2 rx ry q=>ho pins s2 σ H2 x y v u Q I2 rx ry q) hm
def MP (t:TE):TT:=fun σ H Q=>t σ H fun x H'=> ∃k,x= .bl k/\Q k H'
theorem aM {op:CmpOp} {r:R2} (ho:iH X (compareOp op) r) (ha:PE X a ta) (hb:PE X b tb) (hm:behindInMarks op b=false):PT X (.Compare a [op] [b] pos) (MP (O4 r ta tb)):=by
 intro pins s σ H Q I h
 refine wpAny_isTrue_Compare1 (cx (ha pins s σ H _ I h) fun v s1 ⟨x,H1,I1,r1,q1⟩=>cx (hb pins s1 σ H1 _ I1 q1) fun u s2 ⟨y,H2,I2,r2,q2⟩=>
  cx (ho pins s2 σ H2 x y v u _ I2 r1 r2 q2) fun c s3 ⟨z,H3,I3,r3,k,e,q3⟩=>?_) hm
 subst e
 cases r3
 exact wpAny_truthy_bool ⟨H3,I3,q3⟩
def QO (K:PySem.W.Frag) (x:V) (H:Hp) (k:Bool):Prop:=
 match x with
 | .fH=>k=false
 | .bl b=>k=b
 | .int i=>k=(i != 0)
 | .str y=>y.length<=sizeLine/\k=((y.length:Int) != 0)
 | .yj y=>y.size<=sizeLine/\k=((y.size:Int) != 0)
 | .ref p=>(∃xs,bN K H p xs/\k=!xs.isEmpty)\/(∃xs,b_ K H p xs/\k=!xs.isEmpty)\/ ∃aQ,H p=some (.dK aQ)/\k=!aQ.isEmpty
 | _=>False
theorem wu {κ:Type} {aQ:List (κ×V)} {vs:List (κ×Value)} (r:KV aQ vs):(!vs.isEmpty)=!aQ.isEmpty:=by
 cases r<;>rfl
theorem nN {xs:List V} {aJ:List Value} (r:Vals xs aJ):(!aJ.toArray.isEmpty)=!xs.isEmpty:=by
 cases r<;>simp
theorem eO:(sizeLine:Nat)<2 ^ 63:=by rw[sizeLine_eq];decide
theorem Iq:QL X (fun x H Q=> ∃k,QO X.K x H k/\Q k H):=by
 intro pins s σ H x v Q I rx h
 obtain ⟨k,e,q⟩:=h
 have hl:=eO
 have hs:sizeLine=16777216:=sizeLine_eq
 cases x with
 | fH=>
  cases rx
  have e':k=false:=e
  subst e'
  exact truthy_none ⟨H,I,q⟩
 | bl b=>
  cases rx
  have e':k=b:=e
  subst e'
  exact wpAny_truthy_bool ⟨H,I,q⟩
 | int i=>
  obtain ⟨t,rfl⟩:=rx
  have e':k=(i != 0):=e
  subst e'
  exact PySem.P.truthy_int ⟨H,I,q⟩
 | str y=>
  obtain ⟨t,rfl⟩:=rx
  obtain ⟨hy,e'⟩:y.length<=sizeLine/\k=((y.length:Int) != 0):=e
  subst e'
  exact PySem.P.truthy_str (by omega) ⟨H,I.tok _,q⟩
 | yj y=>
  obtain ⟨t,rfl⟩:=rx
  obtain ⟨hy,e'⟩:y.size<=sizeLine/\k=((y.size:Int) != 0):=e
  subst e'
  exact PySem.W.truthy_bytes (by omega) ⟨H,I.tok _,q⟩
 | ref p=>
  cases rx
  have e':(∃xs,bN X.K H p xs/\k=!xs.isEmpty)\/(∃xs,b_ X.K H p xs/\k=!xs.isEmpty)\/ ∃aQ,H p=some (.dK aQ)/\k=!aQ.isEmpty:=e
  rcases e' with ⟨xs,hx,e'⟩ | ⟨xs,hx,e'⟩ | ⟨aQ,hx,e'⟩
  ·subst e'
   obtain ⟨aJ,r,pl,hz⟩:=I.list hx
   have hlen:=r.length
   exact wpAny_truthy_list pl.isList (by simp only[Vl];omega) ⟨H,I.tok _,by rw[nN r];exact q⟩
  ·subst e'
   obtain ⟨aJ,r,pl,hz⟩:=I.tuple hx
   have hlen:=r.length
   exact truthy_tuple pl (by simp only[Vl];omega) ⟨H,I.tok _,by rw[nN r];exact q⟩
  ·subst e'
   obtain ⟨hz,hS,vs,r,m⟩:aQ.length<=sizeLine/\(p==sysModules)=false/\ ∃vs,KV aQ vs/\s.heap.DictOf (cF X.prog X.w) p vs:=I.b5 p _ hx
   have hlen:aQ.length=vs.length:=Paired.length r
   exact wpAny_truthy_dict hS m (by omega) ⟨H,I.tok _,by rw[wu r];exact q⟩
 | _=>exact (show False from e).elim
theorem wx:iH X (binaryOp .Add) (fun x y H Q=> ∃i j,x= .str i/\y= .str j/\i.length+j.length<=sizeLine/\Q (.str (i++j)) H):=by
 intro pins s σ H x y v u Q I rx ry h
 obtain ⟨i,j,rfl,rfl,hz,q⟩:=h
 obtain ⟨t,rfl⟩:=rx
 obtain ⟨t',rfl⟩:=ry
 exact add_str (fun t' tk=>⟨.str (i++j),H,I.tok _,⟨_,rfl⟩,q⟩) hz
theorem vals1 {x:V} {us:List Value} (r:Vals [x] us): ∃u,us=[u]/\RelV x u:=by
 cases r with
 | cons r1 r2=>cases r2;exact ⟨_,rfl,r1⟩
theorem vals2 {x y:V} {us:List Value} (r:Vals [x,y] us): ∃u w',us=[u,w']/\RelV x u/\RelV y w':=by
 cases r with
 | cons r1 r2=>
  cases r2 with
  | cons r3 r4=>cases r4;exact ⟨_,_,rfl,r1,r3⟩
theorem zS (hc:X.calm=true):eM X (.builtin "max") (fun xs H Q=> ∃i j,xs=[.int i, .int j]/\Q (.int (if j>i then j else i)) H):=by
 intro pins s σ H xs us Q I r h
 obtain ⟨i,j,rfl,q⟩:=h
 obtain ⟨u,w',rfl,⟨t,rfl⟩,⟨t',rfl⟩⟩:=vals2 r
 refine max_two_ints (I.ok.hd hc) fun h' tk k=>⟨_,H,I.kept k,?_,q⟩
 by_cases hj:j>i
 ·rw[if_pos hj,if_pos hj];exact ⟨_,rfl⟩
 ·rw[if_neg hj,if_neg hj];exact ⟨_,rfl⟩
theorem qr (hc:X.calm=true):eM X (.builtin "min") (fun xs H Q=> ∃i j,xs=[.int i, .int j]/\Q (.int (if j<i then j else i)) H):=by
 intro pins s σ H xs us Q I r h
 obtain ⟨i,j,rfl,q⟩:=h
 obtain ⟨u,w',rfl,⟨t,rfl⟩,⟨t',rfl⟩⟩:=vals2 r
 refine min_two_ints (I.ok.hd hc) fun h' tk k=>⟨_,H,I.kept k,?_,q⟩
 by_cases hj:j<i
 ·rw[if_pos hj,if_pos hj];exact ⟨_,rfl⟩
 ·rw[if_neg hj,if_neg hj];exact ⟨_,rfl⟩
theorem lF:eM X (.type "int") (fun xs H Q=>(∃i,xs=[.int i]/\Q (.int i) H)\/ ∃k,xs=[.bl k]/\Q (.int (if k then 1 else 0)) H):=by
 intro pins s σ H xs us Q I r h
 rcases h with ⟨i,rfl,q⟩ | ⟨k,rfl,q⟩
 ·obtain ⟨u,rfl,t,rfl⟩:=vals1 r
  exact call_int_int ⟨.int i,H,I,⟨_,rfl⟩,q⟩
 ·obtain ⟨u,rfl,r1⟩:=vals1 r
  cases r1
  exact call_int_bool ⟨.int (if k then 1 else 0),H,I.tok _,⟨_,rfl⟩,q⟩
theorem rL:eM X (.type "str") (fun xs H Q=> ∃i,xs=[.int i]/\i.natAbs.log2<1920/\Q (.str (toString i)) H):=by
 intro pins s σ H xs us Q I r h
 obtain ⟨i,rfl,hz,q⟩:=h
 obtain ⟨u,rfl,t,rfl⟩:=vals1 r
 exact PySem.P.str_of_int hz ⟨.str _,H,I.tok _,⟨_,rfl⟩,q⟩
end
structure zT (h:Heap) (x dx C:Addr) (mA:Str->Option Value):Prop where
 obj:h.get? x=some (PySem.W.instObj C dx)
 ns:h.Ns1 dx mA
 ne:dx≠x
theorem zU {h:Heap} {dx:Addr} {mA:Str->Option Value} (n:h.Ns1 dx mA): ∃od,h.get? dx=some od/\ ∀name,PySem.W.lookIn name od=some (mA name):=by
 obtain ⟨o,es,ep,ho,hd,hk,_,hm⟩:=n
 refine ⟨o,ho,fun name=>?_⟩
 have e:=hm name
 unfold nsFind findBy at e
 rw[<-Array.find?_toList]at e
 unfold PySem.W.lookIn
 rw[hd]
 dsimp only
 split
 ·rename_i y q
  rw[q]at e
  exact congrArg some e
 ·rename_i q
  rw[q]at e
  have a:es.toList.any (·.refKey)=false:=by
   rw[Qbs]
   intro y hy
   obtain ⟨z,t,QP⟩:=hk y (Array.mem_toList_iff.mp hy)
   simp[DictEntry.refKey,QP]
  have a': ¬es.toList.any (·.refKey)=true:=by rw[a];exact Yj
  rw[if_neg a']
  exact congrArg some e
theorem zT.look {h:Heap} {x dx C:Addr} {mA:Str->Option Value} (I:zT h x dx C mA): ∃od,PySem.W.InstAt h x (PySem.W.instObj C dx) C (some od)/\ ∀name,PySem.W.lookIn name od=some (mA name):=
 let ⟨od,ho,hl⟩:=zU I.ns
 ⟨od,⟨I.obj,rfl,rfl,ho⟩,hl⟩
section
variable {prog:Program} {w:World} {A:Around} {E:Value->Shared->Prop} {s:Shared} {K:PySem.W.Frag} {x dx C f:Addr} {mA:Str->Option Value} {name:Str} {v:Value}
theorem get_map {expr:Bool} {Q:Value->Shared->Prop} (X:K.In s.heap) (I:zT s.heap x dx C mA) (hg:PySem.W.plainGet K C name=true) (hh:PySem.W.hasDictIn K C=true)
  (ha:PySem.W.findIn K (.ref C) name=some none) (hv:mA name=some v) (O6:PySem.W.handedIn v=true) (h:Q v { s with toks:=s.toks+1 }):
  wpAny (model prog w) A (getAttr (.ref x) name expr) Q E s:=by
 obtain ⟨od,J,hl⟩:=I.look
 exact PySem.W.get_value X J (PySem.W.plainGet_of hg).1 (PySem.W.findObj_own hh ha rfl (by rw[hl,hv])) O6 h
theorem EJ {ns:List Str} {Q:Unit->Shared->Prop} (X:K.In s.heap) (I:zT s.heap x dx C mA)
  (hs:PySem.W.findIn K (.ref C) "__setattr__"=some (some (.builtin "object.__setattr__"))) (hp:PySem.W.plainOver K C=true) (ht:PySem.W.takerIn K C name=some none) (hh:PySem.W.hasDictIn K C=true)
  (hw:PySem.Within mA ns) (hsz:ns.length<=sizeLine)
  (h: ∀h',zT h' x dx C (fun y=>if y=name then some v else mA y)->Heap.SameBut dx s.heap h'->Q () { s with heap:=h',toks:=s.toks+2 }):
  wpAny (model prog w) A (setAttr (.ref x) name v) Q E s:=by
 obtain ⟨od,J,hl⟩:=I.look
 refine PySem.W.set_plain X J hs (PySem.W.osa_open (s:={ s with toks:=s.toks+1 }) (r:=none) X J hp ht fun b=>?_)
 obtain ⟨cd,hc,Qs⟩:=PySem.W.any_some hh
 have hx:s.heap.get? x=some ⟨.ref C,some dx, .plain, #[]⟩:=I.obj
 refine wpAny_bind (wpAny_pure (wpAny_bind (wpAny_bind (wpAny_loadPart hx (wpAny_bind (PySem.W.Looks.here (s:={ s with toks:=s.toks+1 }) (PySem.W.looks_clsIn X hc) ?_))))))
 rw[Qs]
 refine wpAny_pure (a:=some dx) (wpAny_bind (wpAny_pure (wpAny_bind ?_)))
 refine wpAny_nsSet1 (s:={ s with toks:=s.toks+1 }) I.ns fun h' uv Ik=>?_
 obtain ⟨oD,Xq,Xr,U7,U8,U9⟩:=uv.count (PySem.Within.cons name v hw)
 refine wpAny_bind (wpAny_lookBehind U7 (by rw[U8];exact pastItsLine_dict (Yv U9 (by rw[Ys];omega))) ?_)
 exact wpAny_pure (h _ ⟨(Ik.2 _ (Ne.symm I.ne)).trans I.obj,uv,I.ne⟩ Ik)
theorem Br {R:Result->Shared->Prop} {vs:List Value} {kw:List (Str×Value)} (X:K.In s.heap) (hm:PySem.W.makesIn K C=true)
  (hi:PySem.W.findIn K (.ref C) "__init__"=some (some (.ref f))) (hf:PySem.W.typeIn K (.ref f)=some (.type "function"))
  (h:codeAny (model prog w) (A.under (.builtin "type.__call__" ⟨.ref C::vs,kw⟩)) (.call (.ref f) ⟨.ref (s.heap.objs.size+1)::vs,kw⟩) (PySem.W.InitBack (s.heap.objs.size+1) R)
   { s with heap:=(s.heap.push PySem.W.emptyDict).push (PySem.W.instObj C s.heap.objs.size) }):
  codeAny (model prog w) A (.call (.ref C) ⟨vs,kw⟩) R s:=by
 obtain ⟨hh,g,d,t,os⟩:=s
 exact PySem.W.make_core (PySem.W.makes_of X hm) (PySem.W.looks_findIn X hi) (fun self=>PySem.W.bind_fn X self hf) (.inl rfl) h
end
noncomputable def d_ (f:Str) (v:V):List (Str×V)->List (Str×V)
 | []=>[(f,v)]
 |(g,x)::r=>if g=f then (g,v)::r else (g,x)::d_ f v r
theorem aK (f g:Str) (v:V): ∀fs:List (Str×V),(d_ f v fs).lookup g=if g=f then some v else fs.lookup g
 | []=>by
  show List.lookup g [(f,v)]=_
  by_cases h:g=f
  ·have hb:(g==f)=true:=beq_iff_eq.mpr h
   simp only[List.lookup,hb,if_pos h]
  ·have hb:(g==f)=false:=beq_eq_false_iff_ne.mpr h
   simp only[List.lookup,hb,if_neg h]
 |(k,x)::r=>by
  have ih:=aK f g v r
  rw[show d_ f v ((k,x)::r)=(if k=f then (k,v)::r else (k,x)::d_ f v r) from rfl]
  by_cases hk:k=f
  ·rw[if_pos hk]
   by_cases h:g=k
   ·have hb:(g==k)=true:=beq_iff_eq.mpr h
    simp only[List.lookup,hb,if_pos (h.trans hk)]
   ·have hb:(g==k)=false:=beq_eq_false_iff_ne.mpr h
    simp only[List.lookup,hb,if_neg (fun e:g=f=>h (e.trans hk.symm))]
  ·rw[if_neg hk]
   by_cases h:g=k
   ·have hb:(g==k)=true:=beq_iff_eq.mpr h
    simp only[List.lookup,hb,if_neg (fun e:g=f=>hk (h.symm.trans e))]
   ·have hb:(g==k)=false:=beq_eq_false_iff_ne.mpr h
    simp only[List.lookup,hb]
    exact ih
theorem lG (f:Str) (v:V): ∀fs:List (Str×V),f∈(d_ f v fs).map (·.1)/\ ∀g,g∈fs.map (·.1)->g∈(d_ f v fs).map (·.1)
 | []=>⟨by simp[d_],fun g h=>by simp at h⟩
 |(k,x)::r=>by
  obtain ⟨i1,i2⟩:=lG f v r
  rw[show d_ f v ((k,x)::r)=(if k=f then (k,v)::r else (k,x)::d_ f v r) from rfl]
  by_cases hk:k=f
  ·rw[if_pos hk]
   subst hk
   exact ⟨by simp,fun g h=>by simpa using h⟩
  ·rw[if_neg hk]
   refine ⟨?_,fun g h=>?_⟩
   ·rw[Ym]
    exact SX _ i1
   ·rw[Ym]at h ⊢
    rcases Vi.mp h with e | e
    ·exact Vi.mpr (.inl e)
    ·exact SX _ (i2 g e)
theorem mE (f:Str) (v:V): ∀fs:List (Str×V),(d_ f v fs).length<=fs.length+1
 | []=>by simp[d_]
 |(k,x)::r=>by
  have ih:=mE f v r
  rw[show d_ f v ((k,x)::r)=(if k=f then (k,v)::r else (k,x)::d_ f v r) from rfl]
  by_cases hk:k=f
  ·rw[if_pos hk,Ys,Ys];omega
  ·rw[if_neg hk,Ys,Ys];omega
theorem lD.some_of {v:V} {o:Option Value} (r:lD (some v) o): ∃u,o=some u/\RelV v u:=by
 cases o with
 | none=>exact (show False from r).elim
 | some u=>exact ⟨u,rfl,r⟩
theorem zV {v:V} {u:Value} (r:RelV v u):PySem.W.handedIn u=true:=by
 cases v with
 | fH=>cases (show u=Value.none from r);rfl
 | bl b=>cases (show u=Value.bool b from r);rfl
 | int i=>obtain ⟨t,e⟩:=(show ∃t,u=Value.int i t from r);cases e;rfl
 | str x=>obtain ⟨t,e⟩:=(show ∃t,u=Value.str x t from r);cases e;rfl
 | yj b=>obtain ⟨t,e⟩:=(show ∃t,u=Value.bytes b t from r);cases e;rfl
 | OX b=>obtain ⟨t,e⟩:=(show ∃t,u=Value.float b t from r);cases e;rfl
 | ref a=>cases (show u=Value.ref a from r);rfl
 | ty n=>cases (show u=Value.type n from r);rfl
section
variable {P:Program} {w:World} {H H':Hp} {h h':Heap} {a C dx:Addr} {fs UX:List (Str×V)}
theorem yv (b5:jM P w H h) (e:H a=some (.ins C dx fs)): ∃mA,zT h a dx C mA/\(∀f,lD (fs.lookup f) (mA f))/\PySem.Within mA (fs.map (·.1))/\fs.length<=1000/\H dx=some (.own a):=by
 obtain ⟨d,z,ne,ob,mA,n,r,q⟩:=(show cX P w H h a (.ins C dx fs) from b5 a _ e)
 exact ⟨mA,⟨ob,n,ne⟩,r,q,z,d⟩
end
structure G3 (K:PySem.W.Frag) (C:Addr):Prop where
 pg:PySem.W.plainGet K C Str.empty=true
 hd:PySem.W.hasDictIn K C=true
 po:PySem.W.plainOver K C=true
 sa:PySem.W.findIn K (.ref C) "__setattr__"=some (some (.builtin "object.__setattr__"))
theorem G3.get {K:PySem.W.Frag} {C:Addr} (c:G3 K C) (f:Str):PySem.W.plainGet K C f=true:=c.pg
def eh (K:PySem.W.Frag) (C:Addr) (f:Str):Prop:=PySem.W.findIn K (.ref C) f=some none
theorem eh.MQ {K:PySem.W.Frag} {C:Addr} {f:Str} (n:eh K C f):PySem.W.takerIn K C f=some none:=by
 unfold PySem.W.takerIn
 rw[show PySem.W.findIn K (.ref C) f=some none from n]
 rfl
section
variable {X:Cx} {pins:List (Addr×Obj)} {σ:St} {H:Hp} {s:Shared} {a C dx:Addr} {fs:List (Str×V)} {f:Str} {v:V} {A:Around} {E:Value->Shared->Prop}
theorem wz {b:Bool} {Q:Value->Shared->Prop} (I:Inv X pins σ H s) (e:H a=some (.ins C dx fs)) (c:G3 X.K C) (n:eh X.K C f) (l:fs.lookup f=some v)
  (h: ∀u s',Inv X pins σ H s'->RelV v u->Q u s'):wpAny (model X.prog X.w) A (getAttr (.ref a) f b) Q E s:=by
 obtain ⟨mA,O,r,_,_,_⟩:=yv I.b5 e
 obtain ⟨u,hu,ru⟩:=lD.some_of (v:=v) (o:=mA f) (by rw[<-l];exact r f)
 exact get_map I.zM O (c.get f) c.hd n hu (zV ru) (h u _ (I.tok _) ru)
theorem wA {y:V} {u:Value} {Q:Unit->Shared->Prop} (I:Inv X pins σ H s) (e:H a=some (.ins C dx fs)) (c:G3 X.K C) (n:eh X.K C f) (hl:fs.length<1000) (ry:RelV y u)
  (h: ∀s',Inv X pins σ (upd H a (.ins C dx (d_ f y fs))) s'->Q () s'):wpAny (model X.prog X.w) A (setAttr (.ref a) f u) Q E s:=by
 obtain ⟨mA,O,r,wi,_,ho⟩:=yv I.b5 e
 have hz:(fs.map (·.1)).length<=sizeLine:=by rw[Pd,sizeLine_eq];omega
 refine EJ I.zM O c.sa c.po n.MQ c.hd wi hz fun h' O' sb=>h _ ?_
 have hd: ∃o,h'.get? dx=some o:=let ⟨o,_,_,e',_⟩:=O'.ns;⟨o,e'⟩
 refine I.write (x:=a) (e:=dx) (by rw[e];exact True.intro) (.inr ho) (fun b q hb z=>(sb.2 b hb).trans z) hd ?_
 refine ⟨by rw[aC O.ne];exact ho,?_,O.ne,O'.obj,_,O'.ns,fun g=>?_,fun g hg=>?_⟩
 ·have:=mE f y fs;omega
 ·show lD ((d_ f y fs).lookup g) (if g=f then some u else mA g)
  rw[aK]
  by_cases q:g=f
  ·rw[if_pos q,if_pos q];exact ry
  ·rw[if_neg q,if_neg q];exact r g
 ·by_cases q:g=f
  ·rw[q];exact (lG f y fs).1
  ·refine (lG f y fs).2 g (wi g fun z=>hg ?_)
   show (if g=f then some u else mA g)=none
   rw[if_neg q];exact z
theorem Inv.made (I:Inv X pins σ H s):Inv X pins σ (upd (upd H s.heap.objs.size (.own (s.heap.objs.size+1))) (s.heap.objs.size+1) (.ins C s.heap.objs.size []))
  { s with heap:=(s.heap.push PySem.W.emptyDict).push (PySem.W.instObj C s.heap.objs.size) }:=by
 have e1:(s.heap.push PySem.W.emptyDict).get? s.heap.objs.size=some PySem.W.emptyDict:=Yf s.heap rfl
 have e2:((s.heap.push PySem.W.emptyDict).push (PySem.W.instObj C s.heap.objs.size)).get? (s.heap.objs.size+1)=some (PySem.W.instObj C s.heap.objs.size):=by
  have:=Yf (s.heap.push PySem.W.emptyDict) (o:=PySem.W.instObj C s.heap.objs.size) rfl
  rwa [Z2]at this
 have e3:(s.heap.push PySem.W.emptyDict).Ns s.heap.objs.size (fun _=>none):=⟨PySem.W.emptyDict, #[],_,e1,rfl,(fun e he=>absurd he (by simp)),fun _=>rfl⟩
 have I1:=I.laid (a:=s.heap.objs.size) (o:= .own (s.heap.objs.size+1)) (h':=s.heap.push PySem.W.emptyDict) (t':=s.toks) (fun b u q=>S0 _ q) (SY _) ⟨_,e1⟩
 refine I1.laid (a:=s.heap.objs.size+1) (o:= .ins C s.heap.objs.size []) (t':=s.toks) (fun b u q=>S0 _ q) (Nat.le_of_eq (Z2 _ _)) ?_
 have ne:s.heap.objs.size≠s.heap.objs.size+1:=Yk (Zs _)
 refine ⟨by rw[aC ne,ah],Xy _,ne,e2,fun _=>none,(Heap.Ns1.of_empty e3).at fun o q=>S0 _ q,fun _=>True.intro,fun y hy=>absurd rfl hy⟩
theorem EK {prog:Program} {w:World} {env:Env} {e:Expr} {f:Str} {pos:Pos} {s:Shared} {Q:Value->Shared->Prop} (hb:attributeBase e f env (eval e env)=eval e env)
  (h:wpAny (model prog w) A (eval e env) (fun o s₁=>wpAny (model prog w) A (getAttr o f true) Q E s₁) E s):wpAny (model prog w) A (eval (.Attribute e f pos) env) Q E s:=
 Attribute_any_ h (by rw[arm_eval_Attribute,hb])
end
def MR (K:PySem.W.Frag) (ta:TE) (f:Str):TE:=fun σ H Q=>ta σ H fun x H1=> ∃a C dx fs v,x= .ref a/\H1 a=some (.ins C dx fs)/\G3 K C/\eh K C f/\fs.lookup f=some v/\Q v H1
def QQ (K:PySem.W.Frag) (ta tv:TE) (f:Str):TS:=fun D σ H=>tv σ H fun y H1=>ta σ H1 fun x H2=> ∃a C dx fs,x= .ref a/\H2 a=some (.ins C dx fs)/\G3 K C/\eh K C f/\fs.length<1000/\
 D.nx σ (upd H2 a (.ins C dx (d_ f y fs)))
section
variable {X:Cx} {o e value:Expr} {f:Str} {pos pos' MS:Pos} {ta tv:TE}
theorem Ir (he:PE X e ta) (hb:attributeBase e f X.env (eval e X.env)=eval e X.env):PE X (.Attribute e f pos) (MR X.K ta f):=by
 intro pins s σ H Q I h
 refine EK hb (cx (he pins s σ H _ I h) fun u s1 ⟨x,H1,I1,rx,a,C,dx,fs,v,ex,ea,c,n,l,q⟩=>?_)
 subst ex
 obtain rfl:u=Value.ref a:=rx
 exact wz I1 ea c n l fun u' s2 I2 ru=>⟨v,H1,I2,ru,q⟩
theorem iO (ha:PE X o ta) (hv:PE X value tv) (hs:swapsWith value (some (.Attribute o f pos')) pos.line X.env=pure false):PS X (.Assign [.Attribute o f pos'] value pos) (QQ X.K ta tv f):=by
 intro pins s σ H D I h
 refine plainObj_wpAny_Assign_Attribute (cx (hv pins s σ H _ I h) fun u s1 ⟨y,H1,I1,ry,q⟩=>cx (ha pins s1 σ H1 _ I1 q) fun ov s2 ⟨x,H2,I2,rx,a,C,dx,fs,ex,ea,c,n,l,q2⟩=>?_) hs
 subst ex
 obtain rfl:ov=Value.ref a:=rx
 exact wA I2 ea c n l ry fun s3 I3=>⟨σ,_,I3,q2⟩
end
section
variable {X:Cx} {pins:List (Addr×Obj)} {σ:St} {H:Hp} {s:Shared} {A:Around} {E:Value->Shared->Prop} {Q:Value->Shared->Prop} {c:Value} {b:Bool}
end
structure eQ (k:Nat) (A:Around):Prop where
 hd:A.handled=none
 dp:A.depth+3*k+5<recursionLimit
 un:A.units+16*k+200<cLine
 gd:A.guards=some []
theorem eQ.mono {j k:Nat} {A:Around} (r:eQ k A) (h:j<=k):eQ j A:=⟨r.hd,by have:=r.dp;omega,by have:=r.un;omega,r.gd⟩
theorem eQ.deeper {k:Nat} {A:Around} (r:eQ (k+1) A) (env:Env):eQ k (A.deeper env):=
 ⟨r.hd,by have:=r.dp;show A.depth+1+3*k+5<_;omega,by have:=r.un;show A.units+3+16*k+200<_;omega,r.gd⟩
theorem wB {A:Around} {C:Addr} {us:List Value} {kw:List (Str×Value)}:(A.under (.builtin "type.__call__" ⟨.ref C::us,kw⟩)).depth=A.depth+1:=by
 first | rfl | simp[Around.under,Code.weight,Code.isCreation,Code.isGuard,Code.isCaller,Code.frames,Code.isFrame,guardIds]
theorem wC {A:Around} {C:Addr} {us:List Value} {kw:List (Str×Value)}:(A.under (.builtin "type.__call__" ⟨.ref C::us,kw⟩)).units=A.units+1:=by
 first | rfl | simp[Around.under,Code.cUnits,Code.frames,Code.isFrame]
theorem eQ.make {k:Nat} {A:Around} (r:eQ (k+1) A) (C:Addr) (us:List Value) (kw:List (Str×Value)):eQ k (A.under (.builtin "type.__call__" ⟨.ref C::us,kw⟩)):=
 ⟨r.hd,by have:=r.dp;rw[wB];omega,by have:=r.un;rw[wC];omega,by first | exact r.gd | (simpa [Around.under,Code.guards,Code.isGuard,pushGuards,guardIds]using r.gd)⟩
theorem eQ.depth {k:Nat} {A:Around} (r:eQ k A):A.depth<recursionLimit:=by have:=r.dp;omega
theorem eQ.units {k:Nat} {A:Around} (r:eQ k A):A.units+64<cLine:=by have:=r.un;omega
def QR:TA:=fun _ H Q=>Q [] H
def G4 (ta:TE) (tr:TA):TA:=fun σ H Q=>ta σ H fun x H1=>tr σ H1 fun xs H2=>Q (x::xs) H2
section
variable {X:Cx} {e:Expr} {es:List Expr} {te:TE} {t:TA} {pos:Pos}
theorem ae:PA X [] QR:=fun _ _ _ _ H Q I h=>Calls.spliced_nil ⟨[],H,I, .nil,h⟩
theorem aa (ha:PE X e te) (hr:PA X es t) (hs:starEach (e::es) X.env=(false,eval e X.env)::starEach es X.env:=by rfl):PA X (e::es) (G4 te t):=by
 intro pos pins s σ H Q I h
 rw[hs]
 show wpAny _ _ (spliced ((false,eval e X.env)::backTo pos (starEach es X.env))) _ _ s
 refine Calls.spliced_cons (cx (ha pins s σ H _ I h) fun u s1 ⟨x,H1,I1,r1,q1⟩=>?_)
 exact cx (hr pos pins s1 σ H1 _ I1 q1) fun us s2 ⟨xs,H2,I2,r2,q2⟩=>⟨x::xs,H2,I2, .cons r1 r2,q2⟩
def QS (t:TA):TE:=fun σ H Q=>t σ H fun xs H1=>xs.length<=sizeLine/\ ∀p,H1 p=none->Q (.ref p) (upd H1 p (.tup xs))
def QT (t:TA):TE:=fun σ H Q=>t σ H fun xs H1=>xs.length<=sizeLine/\ ∀p,H1 p=none->Q (.ref p) (upd H1 p (.lst xs))
theorem bO {x1} (h:PA X es t):PE X (.Tuple es x1 pos) (QS t):=by
 intro pins s σ H Q I hq
 refine wpAny_Tuple_spliced (cx (h pos pins s σ H _ I hq) fun us s1 ⟨xs,H1,I1,r,z,q⟩=>⟨by rw[<-r.length];exact z,?_⟩)
 have hf:H1 s1.heap.objs.size=none:=I1.b5.fresh (SY _)
 refine ⟨.ref s1.heap.objs.size,upd H1 s1.heap.objs.size (.tup xs),I1.laid (t':=s1.toks) (fun b u e=>S0 _ e) (SY _) ?_,rfl,q _ hf⟩
 exact ⟨z,us,r,⟨_,Yf _ rfl,rfl,_,rfl⟩⟩
theorem dM (h:PA X es t):PE X (.List es pos) (QT t):=by
 intro pins s σ H Q I hq
 refine wpAny_List_spliced (cx (h pos pins s σ H _ I hq) fun us s1 ⟨xs,H1,I1,r,z,q⟩=>⟨by rw[<-r.length];exact z,?_⟩)
 have hf:H1 s1.heap.objs.size=none:=I1.b5.fresh (SY _)
 refine ⟨.ref s1.heap.objs.size,upd H1 s1.heap.objs.size (.lst xs),I1.laid (t':=s1.toks) (fun b u e=>S0 _ e) (SY _) ?_,rfl,q _ hf⟩
 exact ⟨z,us,0,r,Yf _ rfl⟩
end
abbrev Sp:=List V->Hp->VK->XK->Prop
abbrev zW:=List Env->Hp->Shared->XK->Value->Shared->Prop
structure wD (P:Program) (w:World) (K:PySem.W.Frag) (mg:Str->Option Value) (base:Heap) (A:Around) (outer:List Env) (s:Shared) (H:Hp):Prop where
 frames:A.frames=some outer
 mod:Mod K mg base
 bs: ∀b o,base.get? b=some o->s.heap.get? b=some o/\H b=none
 EB:base.objs.size<=s.heap.objs.size
 mN:s.heap.FunFrames base outer
 HY: ∀b∈yk outer,H b=none
 b5:jM P w H s.heap
 bare:AllBare s.gens
def CE (outer:List Env) (P:Program) (w:World) (H:Hp) (s:Shared) (Q:VK) (u:Value) (s':Shared):Prop:=
 ∃v H',s'.os=s.os/\AllBare s'.gens/\Un (yk outer) [] H H' s.heap s'.heap/\jM P w H' s'.heap/\RelV v u/\Q v H'
def CR (CX:zW) (outer:List Env) (P:Program) (w:World) (H:Hp) (s:Shared) (Q:VK) (E:XK) (r:Result) (s':Shared):Prop:=
 match r with
 | .ok (.ret u)=>CE outer P w H s Q u s'
 | .ok _=>False
 | .error e=>CX outer H s E e s'
structure bM (P:Program) (w:World) (K:PySem.W.Frag) (mg:Str->Option Value) (base:Heap) (CX:zW) (k:Nat) (f:Addr) (fd:FuncData) (ps:List Str) (sp:Sp):Prop where
 len: ∀vs H Q E,sp vs H Q E->vs.length=ps.length
 run: ∀(A:Around) (outer:List Env) (s:Shared) (H:Hp) (args:Args) (us:List Value) (vs:List V) (Q:VK) (E:XK),eQ k A->wD P w K mg base A outer s H->BindsTo s fd args (ps.zip us)->Vals vs us->sp vs H Q E->
  codeAny (model P w) A (.call (.ref f) args) (CR CX outer P w H s Q E) s
theorem wD.make {P:Program} {w:World} {K:PySem.W.Frag} {mg:Str->Option Value} {base:Heap} {A:Around} {outer:List Env} {s:Shared} {H:Hp} (e:wD P w K mg base A outer s H) (C:Addr) (us:List Value) (kw:List (Str×Value)):
  wD P w K mg base (A.under (.builtin "type.__call__" ⟨.ref C::us,kw⟩)) outer s H:=⟨by first | exact e.frames | (simpa [Around.under,Code.envs,Code.isFrame,pushEnvs]using e.frames),e.mod,e.bs,e.EB,e.mN,e.HY,e.b5,e.bare⟩
section
variable {X:Cx} {pins:List (Addr×Obj)} {σ:St} {H:Hp} {s s':Shared}
theorem Inv.MT (I:Inv X pins σ H s):wD X.prog X.w X.K X.mg X.base X.A X.stack s H:=
 ⟨I.ok.frames,I.ok.mod,I.bs,Yv I.ok.EB I.sz,I.stack,I.yl,I.b5,I.bare⟩
theorem Inv.after {Q:VK} {u:Value} (I:Inv X pins σ H s) (h:CE X.stack X.prog X.w H s Q u s'):EP X pins σ Q u s':=by
 obtain ⟨v,H',os,bare,un,b5,r,q⟩:=h
 obtain ⟨hh,g,d,t,U_⟩:=s'
 obtain rfl:U_=s.os:=os
 exact ⟨v,H',I.call (h':=hh) (g':=g) (d':=d) (t':=t) (ch:=[]) un b5 bare (fun b z=>absurd z (by simp)),r,q⟩
end
def MU (sp:Sp) (dvs:List V) (E:XK) (t:TA):TE:=fun σ H Q=>t σ H fun vs H1=>sp (vs++dvs) H1 Q E
def MV (C:Addr) (sp:Sp) (dvs:List V) (E:XK) (t:TA):TE:=fun σ H Q=>t σ H fun vs H1=> ∀x dx,H1 x=none->H1 dx=none->dx≠x->
 sp (.ref x::(vs++dvs)) (upd (upd H1 dx (.own x)) x (.ins C dx [])) (fun v H2=>v= .fH/\Q (.ref x) H2) E
def Binds (K:PySem.W.Frag) (fd:FuncData) (ps:List Str) (ds:List Value):Prop:=
 ∀(s:Shared) (us:List Value),K.In s.heap->(us++ds).length=ps.length->BindsTo s fd ⟨us,[]⟩ (ps.zip (us++ds))
theorem Binds.all {K:PySem.W.Frag} {fd:FuncData} {ps:List Str} (h: ∀us:List Value,us.length=ps.length->bindArgs fd ⟨us,[]⟩=pure (ps.zip us)):Binds K fd ps []:=fun s us _ hl=>by
 rw[YW]at hl ⊢
 exact .of_eq (h us hl)
def Passes (CX:zW) (X:Cx) (E:XK):Prop:= ∀(pins:List (Addr×Obj)) (σ:St) (H:Hp) (s:Shared) (e:Value) (s':Shared),Inv X pins σ H s->CX X.stack H s E e s'->X.xe e s'
section
variable {X:Cx} {CX:zW} {k:Nat} {f C:Addr} {fd:FuncData} {ps:List Str} {sp:Sp} {dvs:List V} {ds:List Value} {E:XK} {x m:Str} {p pos apos:Pos} {e o:Expr} {es:List Expr} {ta:TE} {t:TA}
theorem wF {pins:List (Addr×Obj)} {σ:St} {H:Hp} {s:Shared} {Q:VK} {us:List Value} {vs:List V} (F:bM X.prog X.w X.K X.mg X.base CX k f fd ps sp) (hr:eQ k X.A) (hb:Binds X.K fd ps ds) (hd:Vals dvs ds) (hx:Passes CX X E)
  (I:Inv X pins σ H s) (r:Vals vs us) (h:sp (vs++dvs) H Q E):wpAny (model X.prog X.w) X.A (call (.ref f) us) (EP X pins σ Q) X.xe s:=by
 have r2:Vals (vs++dvs) (us++ds):=r.append hd
 have hl:(us++ds).length=ps.length:=by rw[<-r2.length];exact F.len _ _ _ _ h
 refine wpAny_call (codeAny_mono (F.run X.A X.stack s H ⟨us,[]⟩ (us++ds) (vs++dvs) Q E hr I.MT (hb s us I.zM hl) r2 h) fun r s' hq=>?_)
 cases r with
 | error e=>exact hx pins σ H s e s' I hq
 | ok fl=>
  cases fl with
  | ret u=>exact I.after hq
  | next=>exact False.elim hq
  | brk=>exact False.elim hq
  | cont=>exact False.elim hq
theorem ak (F:bM X.prog X.w X.K X.mg X.base CX k f fd ps sp) (hr:eQ k X.A) (hg:Gl X x) (hm:X.mg x=some (.ref f)) (hk:PySem.W.keepIn X.K (.ref f)=true) (hb:Binds X.K fd ps ds) (hd:Vals dvs ds) (hx:Passes CX X E)
  (ha:PA X (e::es) t) (Iu:(x==("__debug__":Str))=false:=by decide) (he:starEach (e::es) X.env=(false,eval e X.env)::starEach es X.env:=by rfl) (j8:(backTo pos (starEach es X.env)).any (·.1)=false:=by rfl):
  PE X (.Call (.Name x p) (e::es) [] pos) (MU sp dvs E t):=by
 intro pins s σ H Q I h
 refine wpAny_Call_Name_kw (rH I hg hm ?_ Iu)
 refine Z9 (h₀:=X.base) I.ok.mod.KO hk (cx (ha pos pins s σ H _ I h) fun us s1 ⟨vs,H1,I1,r,q⟩=>⟨I1.zM,?_⟩) he j8
 exact wF F hr hb hd hx I1 r q
structure Mk (K:PySem.W.Frag) (C f:Addr):Prop where
 makes:PySem.W.makesIn K C=true
 init:PySem.W.findIn K (.ref C) "__init__"=some (some (.ref f))
 fn:PySem.W.isFn K (.ref f)=true
 kp:PySem.W.keepIn K (.ref C)=true
theorem Bs {pins:List (Addr×Obj)} {σ:St} {H:Hp} {s:Shared} {Q:VK} {us:List Value} {vs:List V} (M:Mk X.K C f) (F:bM X.prog X.w X.K X.mg X.base CX k f fd ps sp) (hr:eQ (k+1) X.A) (hb:Binds X.K fd ps ds) (hd:Vals dvs ds)
  (hx:Passes CX X E) (I:Inv X pins σ H s) (r:Vals vs us)
  (h: ∀x dx,H x=none->H dx=none->dx≠x->sp (.ref x::(vs++dvs)) (upd (upd H dx (.own x)) x (.ins C dx [])) (fun v H2=>v= .fH/\Q (.ref x) H2) E):
  wpAny (model X.prog X.w) X.A (call (.ref C) us) (EP X pins σ Q) X.xe s:=by
 have hq:=h (s.heap.objs.size+1) s.heap.objs.size (I.b5.fresh (Zu _)) (I.b5.fresh (SY _)) (Yk (Zs _))
 have I2:=Inv.made (C:=C) I
 have r2:Vals (V.ref (s.heap.objs.size+1)::(vs++dvs)) (Value.ref (s.heap.objs.size+1)::(us++ds)):= .cons rfl (r.append hd)
 have hl:(Value.ref (s.heap.objs.size+1)::us++ds).length=ps.length:=by
  have e:=r2.length
  rw[F.len _ _ _ _ hq]at e
  exact e.symm
 refine wpAny_call (Br (f:=f) I.zM M.makes M.init (beq_iff_eq.mp M.fn) (codeAny_mono (F.run _ X.stack _ _ ⟨Value.ref (s.heap.objs.size+1)::us,[]⟩ (Value.ref (s.heap.objs.size+1)::(us++ds)) _ _ E (hr.make C us [])
  (I2.MT.make C us []) (hb _ (Value.ref (s.heap.objs.size+1)::us) I2.zM hl) r2 hq) fun r s' MW=>?_))
 cases r with
 | error e=>exact hx pins σ _ _ e s' I2 MW
 | ok fl=>
  cases fl with
  | ret u=>
   obtain ⟨v,H',I3,rv,ev,q3⟩:=I2.after MW
   subst ev
   exact ⟨rv,⟨V.ref (s.heap.objs.size+1),H',I3,rfl,q3⟩⟩
  | next=>exact False.elim MW
  | brk=>exact False.elim MW
  | cont=>exact False.elim MW
theorem m_ (M:Mk X.K C f) (F:bM X.prog X.w X.K X.mg X.base CX k f fd ps sp) (hr:eQ (k+1) X.A) (hg:Gl X x) (hm:X.mg x=some (.ref C)) (hb:Binds X.K fd ps ds) (hd:Vals dvs ds) (hx:Passes CX X E)
  (ha:PA X (e::es) t) (Iu:(x==("__debug__":Str))=false:=by decide) (he:starEach (e::es) X.env=(false,eval e X.env)::starEach es X.env:=by rfl) (j8:(backTo pos (starEach es X.env)).any (·.1)=false:=by rfl):
  PE X (.Call (.Name x p) (e::es) [] pos) (MV C sp dvs E t):=by
 intro pins s σ H Q I h
 refine wpAny_Call_Name_kw (rH I hg hm ?_ Iu)
 refine Z9 (h₀:=X.base) I.ok.mod.KO M.kp (cx (ha pos pins s σ H _ I h) fun us s1 ⟨vs,H1,I1,r,q⟩=>⟨I1.zM,?_⟩) he j8
 exact Bs M F hr hb hd hx I1 r q
end
section
variable {X:Cx} {CX:zW} {k:Nat} {f C:Addr} {fd:FuncData} {ps ks:List Str} {sp:Sp} {E:XK} {x m:Str} {p pos apos Va:Pos} {e o:Expr} {es:List Expr} {Xs:List Keyword} {te ta:TE} {t tk:TA} {nm:Option Str}
variable {g:List Value->List Value->List Value} {gV:List V->List V->List V}
end
structure aG (N P:List Str) (sc:Scope):Prop where
 kind:sc.kind= .function
 co:sc.isCoroutine=false
 gen:sc.isGenerator=false
 nd:N.Nodup
 pre:N.take P.length=P
 par: ∀x∈P,sc.names.lookup x=some .local\/sc.names.lookup x=some .cell
 Iv: ∀y∈sc.names,y.2≠ .free
theorem qt {kindOf:Str->Option NameKind} {x:Str}: ∀{binds:List (Str×Value)} {m:Str->Option Value},(∀v,(x,v)∉binds)->bindL kindOf binds m x=m x
 | [],_,_=>rfl
 |(n,v)::r,m,h=>by
  unfold bindL
  rw[qt fun w hw=>h w (SX _ hw)]
  split
  ·have:x≠n:=by rintro rfl;exact h v Vj
   simp[this]
  ·rfl
theorem qu {kindOf:Str->Option NameKind} {x:Str}: ∀{binds:List (Str×Value)} {m:Str->Option Value},(∀v,(x,v)∉binds)->bindC kindOf binds m x=m x
 | [],_,_=>rfl
 |(n,v)::r,m,h=>by
  unfold bindC
  rw[qu fun w hw=>h w (SX _ hw)]
  split
  ·rfl
  ·have:x≠n:=by rintro rfl;exact h v Vj
   simp[this]
theorem qv {kindOf:Str->Option NameKind} {x:Str} {v:Value}: ∀{P:List Str} {vs:List Value} {i:Nat} {m:Str->Option Value},P.Nodup->P[i]? =some x->vs[i]? =some v->kindOf x=some .local->
  bindL kindOf (P.zip vs) m x=some v
 | [],_,_,_,_,h,_,_=>by simp at h
 | _::_,[],_,_,_,_,h,_=>by simp at h
 | p::P,w::vs,0,m,nd,h1,h2,hk=>by
  simp at h1 h2;subst h1;subst h2
  show bindL kindOf ((p,w)::P.zip vs) m p=_
  unfold bindL
  rw[qt fun v hv=>(Yw.mp nd).1 (Qb2 hv).1,if_pos hk]
  simp
 | p::P,w::vs,i+1,m,nd,h1,h2,hk=>by
  show bindL kindOf ((p,w)::P.zip vs) m x=_
  unfold bindL
  exact qv (i:=i) (Yw.mp nd).2 (by simpa using h1) (by simpa using h2) hk
theorem qw {kindOf:Str->Option NameKind} {x:Str} {v:Value}: ∀{P:List Str} {vs:List Value} {i:Nat} {m:Str->Option Value},P.Nodup->P[i]? =some x->vs[i]? =some v->kindOf x≠some .local->
  bindC kindOf (P.zip vs) m x=some v
 | [],_,_,_,_,h,_,_=>by simp at h
 | _::_,[],_,_,_,_,h,_=>by simp at h
 | p::P,w::vs,0,m,nd,h1,h2,hk=>by
  simp at h1 h2;subst h1;subst h2
  show bindC kindOf ((p,w)::P.zip vs) m p=_
  unfold bindC
  rw[qu fun v hv=>(Yw.mp nd).1 (Qb2 hv).1,if_neg hk]
  simp
 | p::P,w::vs,i+1,m,nd,h1,h2,hk=>by
  show bindC kindOf ((p,w)::P.zip vs) m x=_
  unfold bindC
  exact qw (i:=i) (Yw.mp nd).2 (by simpa using h1) (by simpa using h2) hk
noncomputable def start (N:List Str) (vs:List V):St:=vs.map some++List.replicate (N.length - vs.length) none
noncomputable def zX (CX:zW) (P:Program) (w:World) (K:PySem.W.Frag) (mg:Str->Option Value) (base:Heap) (N:List Str) (qual:Str) (scope:Scope) (f:Addr) (cd:Value) (A:Around) (outer:List Env) (s:Shared) (H:Hp) (E:XK):Cx where
 prog:=P
 w:=w
 K:=K
 mg:=mg
 base:=base
 A:=A.deeper (envOfC qual scope s.heap.objs.size f cd)
 N:=N
 s₀:=s
 H₀:=H
 env:=envOfC qual scope s.heap.objs.size f cd
 outer:=outer
 stack:=envOfC qual scope s.heap.objs.size f cd::outer
 ex:=[]
 calm:=true
 fn:=fun _=>true
 pn:=[]
 xe:=fun e s'=>wpAny (model P w) (A.deeper (envOfC qual scope s.heap.objs.size f cd)) (leaving (envOfC qual scope s.heap.objs.size f cd) e) (fun _ MX=>CX outer H s E e MX) (fun e' MX=>CX outer H s E e' MX) s'
theorem uw {sc:Scope} {n:Nat} {x:Str} (h:sc.names.lookup x=some .cell): ∃c,(cellsFrom n sc.names []).lookup x=some c:=by
 have q:=PySem.W.cellsFrom_some sc.names n [] (.inl h)
 exact Option.isSome_iff_exists.mp q
theorem zY {CX:zW} {P:Program} {w:World} {K:PySem.W.Frag} {mg:Str->Option Value} {base:Heap} {N ps:List Str} {qual:Str} {scope:Scope} {f:Addr} {cd:Value} {A:Around} {outer:List Env} {s s1:Shared} {H:Hp} {E:XK} {us:List Value} {vs:List V}
  (S:aG N ps scope) (hd:A.handled=none) (e0:wD P w K mg base A outer s H) (hl:vs.length=ps.length) (r:Vals vs us)
  (x:InCallC s s.heap.objs.size (bindL (envOfC qual scope s.heap.objs.size f cd).kindOf (ps.zip us) fun _=>none) (cellsFrom (s.heap.objs.size+1) scope.names []) (bindC (envOfC qual scope s.heap.objs.size f cd).kindOf (ps.zip us) fun _=>none) s1):
  Inv (zX CX P w K mg base N qual scope f cd A outer s H E) [] (start N vs) H s1:=by
 have j8:ps.length<=N.length:=by have:=congrArg List.length S.pre;rw[Xw]at this;omega
 obtain ⟨h1,tk,rfl,hk⟩:=x.done
 have MY: ∀b:Addr,b∉(zX CX P w K mg base N qual scope f cd A outer s H E).ex:=fun b z=>absurd (show b∈([]:List Addr) from z) (by simp)
 refine ⟨⟨e0.mod,S.kind,rfl,rfl,SY _,fun y z c h1 h2=>?_,fun y hy=>?_,fun y c _ h=>?_,fun _=>hd,Around.frames_deeper e0.frames, .inr ⟨rfl,rfl⟩,fun b z=>absurd z (MY b),e0.bs,e0.EB,fun b _ _=>MY b,fun b z=>absurd z (MY b),e0.mN,e0.HY⟩,
  rfl,e0.bare,Un.kept hk,⟨_,x.toInCall.ns,fun i y v h1 h2 h3=>?_⟩,fun y c h=>⟨_,x.cell y c h⟩,e0.b5.fresh (SY _),fun y c h=>?_,fun p hp=>absurd (show p∈([]:List (Addr×Obj)) from hp) (by simp),e0.b5.kept hk,?_⟩
 ·exact name_of_addr x.apart (ZM h1) (ZM h2)
 ·have hy:scope.names.lookup y=some .cell\/scope.names.lookup y=some .free:=hy
  rcases hy with hy | hy
  ·exact uw hy
  ·exact absurd rfl (S.Iv _ (ZM hy))
 ·exact YE (x.above y c (ZM h))
 ·have hi:i<vs.length:=by
   unfold start at h2
   by_cases hi:i<vs.length
   ·exact hi
   ·rw[Y1 (by simpa using hi)]at h2
    rw[List.getElem?_replicate]at h2
    split at h2<;>cases h2
  have ha:vs[i]? =some v:=by
   unfold start at h2
   rw[YD (by simpa using hi),Yb]at h2
   cases e:vs[i]? with
   | none=>rw[e]at h2;cases h2
   | some a=>rw[e]at h2;cases h2;rfl
  obtain ⟨u,hu,rv⟩:=r.get ha
  have hp:ps[i]? =some y:=by
   rw[<-S.pre,List.getElem?_take_of_lt (by omega)];exact h1
  have SJ:ps.Nodup:=by rw[<-S.pre];exact S.nd.sublist (Qbp _ _)
  refine ⟨u,rv,?_⟩
  rcases S.par y (Ya hp) with k | k
  ·exact .inl ⟨k,qv SJ hp hu k⟩
  ·obtain ⟨c,e⟩:=uw (n:=s.heap.objs.size+1) k
   refine .inr ⟨.inl k,c,e,?_⟩
   have q:=x.cell y c e
   rw[qw SJ hp hu (by show scope.names.lookup y≠_;rw[k];decide)]at q
   exact q
 ·exact e0.b5.fresh (YE (x.above y c (ZM h)))
 ·unfold start
  show _=N.length
  rw[KW,Pd,List.length_replicate]
  omega
theorem MZ {CX:zW} {P:Program} {w:World} {K:PySem.W.Frag} {mg:Str->Option Value} {base:Heap} {k:Nat} {f:Addr} {name qual:Str} {params:Arguments} {body:List Stmt} {scope:Scope} {dV kV doc pm cR ct oc:Value} {an od:Option Addr}
  {Eg:Array (Option Value)} {N ps:List Str} {sp:Sp} (lk:K.lookup f=some ⟨oc,od, .func (PySem.W.fnOf name qual params body scope dV kV doc pm an cR ct),Eg⟩) (mO:PySem.W.codeIn K cR qual=true) (S:aG N ps scope)
  (len: ∀vs H Q E,sp vs H Q E->vs.length=ps.length)
  (Bt: ∀(A:Around) (outer:List Env) (s:Shared) (H:Hp) (vs:List V) (Q:VK) (E:XK),eQ k (A.deeper (envOfC qual scope s.heap.objs.size f cR))->sp vs H Q E->
   ∃t,we (zX CX P w K mg base N qual scope f cR A outer s H E) body t/\t { nx:=fun _ H'=>Q .fH H',rt:=Q } (start N vs) H):
  bM P w K mg base CX (k+1) f (PySem.W.fnOf name qual params body scope dV kV doc pm an cR ct) ps sp:=by
 refine ⟨len,fun A outer s H args us vs Q E hr e0 hb r EL=>?_⟩
 have hl:=len _ _ _ _ EL
 have KX:K.In s.heap:=e0.mod.KO.keeps fun b o e=>(e0.bs b o e).1
 have lim:s.heap.NoLimit:=e0.mod.nolimit.keeps fun b o e=>(e0.bs b o e).1
 have ir: ∀y∈ps.zip us,scope.names.lookup y.1=some .local\/(scope.names.lookup y.1=some .cell/\((cellsFrom (s.heap.objs.size+1) scope.names []).lookup y.1).isSome=true):=fun ⟨n,v⟩ hy=>by
  rcases S.par n (Qb2 hy).1 with q | q
  ·exact .inl q
  ·exact .inr ⟨q,PySem.W.cellsFrom_some _ _ _ (.inl q)⟩
 refine codeAny_call_function hr.depth (KX _ _ lk) rfl S.co S.gen rfl (PySem.W.codeRec_of KX mO) (hb _ _ _ _ ?_)
 refine wpAny_newFunctionEnv_cells S.kind ir fun env he s1 x=>?_
 subst he
 refine ⟨lim.keeps x.toInCall.keep,codeAny_func ?_⟩
 obtain ⟨t,ht,hq⟩:=Bt A outer s H vs Q E (hr.deeper _) EL
 have I:Inv (zX CX P w K mg base N qual scope f cR A outer s H E) [] (start N vs) H s1:=zY S hr.hd e0 hl r x
 refine wpAny_mono (ht [] s1 (start N vs) H _ I hq) (fun fl s' hs=>?_) fun e s' hs=>hs
 have fin: ∀{σ':St} {H':Hp} {v:V} {u:Value},Inv (zX CX P w K mg base N qual scope f cR A outer s H E) [] σ' H' s'->RelV v u->Q v H'->CE outer P w H s Q u s':=
  fun {σ' H' v u} J rv q=>⟨v,H',J.os,J.bare,J.base,J.b5,rv,q⟩
 cases fl with
 | ret u=>
  obtain ⟨v,σ',H',J,rv,q⟩:=hs
  exact fin J rv q
 | next=>
  obtain ⟨σ',H',J,q⟩:=hs
  exact fin (v:=V.fH) (u:=Value.none) J rfl q
 | brk=>
  obtain ⟨_,_,_,q⟩:=hs
  exact False.elim q
 | cont=>
  obtain ⟨_,_,_,q⟩:=hs
  exact False.elim q
section
variable {X:Cx} {x:Str} {p pos:Pos} {e:Expr} {es:List Expr} {t:TA} {id T:String} {r:List V->Hp->VK->Prop}
def SK (r:List V->Hp->VK->Prop) (t:TA):TE:=fun σ H Q=>t σ H fun vs H1=>r vs H1 Q
theorem aE (hc:eM X (.builtin id) r) (hg:Gl X x) (hm:X.mg x=none) (hv:bootBuiltins x=some (.builtin id)) (ha:PA X (e::es) t) (hn:x≠"__name__":=by decide) (Iu:(x==("__debug__":Str))=false:=by decide)
  (he:starEach (e::es) X.env=(false,eval e X.env)::starEach es X.env:=by rfl) (j8:(backTo pos (starEach es X.env)).any (·.1)=false:=by rfl):PE X (.Call (.Name x p) (e::es) [] pos) (SK r t):=by
 intro pins s σ H Q I h
 refine wpAny_Call_Name_kw (gv I hg hm hv ?_ hn Iu)
 exact PyProof.Rows.callWith_builtin1 (cx (ha pos pins s σ H _ I h) fun us s1 ⟨vs,H1,I1,r1,q1⟩=>hc pins s1 σ H1 vs us Q I1 r1 q1) he j8
theorem cC (hc:eM X (.type T) r) (hg:Gl X x) (hm:X.mg x=none) (hv:bootBuiltins x=some (.type T)) (ha:PA X (e::es) t) (hn:x≠"__name__":=by decide) (Iu:(x==("__debug__":Str))=false:=by decide)
  (he:starEach (e::es) X.env=(false,eval e X.env)::starEach es X.env:=by rfl) (j8:(backTo pos (starEach es X.env)).any (·.1)=false:=by rfl):PE X (.Call (.Name x p) (e::es) [] pos) (SK r t):=by
 intro pins s σ H Q I h
 refine wpAny_Call_Name_kw (gv I hg hm hv ?_ hn Iu)
 exact YL (cx (ha pos pins s σ H _ I h) fun us s1 ⟨vs,H1,I1,r1,q1⟩=>hc pins s1 σ H1 vs us Q I1 r1 q1) he j8
end
end L2
namespace HT
open PySem PyProof.Rows
section
open PySem.SeqAt
open PySem.AutoSeq1 (wpAny_loadPart')
open PySem.MeetsSeq PySem.MeetsSeq2 PySem.MeetsSeq3
end
section
variable {prog:Program} {w:World} {A:Around} {E:Value->Shared->Prop} {s:Shared}
theorem EM {t b:Addr} {vs ws:List Value} {Q:Value->Shared->Prop} (ht:IsTup s.heap t vs.toArray) (hb:IsTup s.heap b ws.toArray) (hv:vs≠[])
  (h1:ws=[]->Q (.ref t) s) (h2:ws≠[]->Q (.ref s.heap.objs.size) { s with heap:=s.heap.push { cls:= .type "tuple",data:= .seq (vs++ws).toArray } })
  (hsz:vs.length+ws.length<=sizeLine):wpAny (model prog w) A (binaryOp .Add (.ref t) (.ref b)) Q E s:=by
 obtain ⟨⟨cls,dd,data,sl⟩,ho,hc,n,hd⟩:=id ht
 obtain ⟨⟨Vb,SM,data2,SN⟩,O7,O8,n2,hd2⟩:=id hb
 simp only at hc hd O8 hd2
 subst hc hd O8 hd2
 have e:vs.toArray++ws.toArray=(vs++ws).toArray:=by simp
 by_cases hw:ws=[]
 ·exact concat_meets ⟨_,ho,rfl⟩ ⟨_,O7,rfl⟩ noFill_tuple_add seq_tuple_add PySem.F.slot_tuple_add PySem.F.entry_tuple_add (PySem.F.args_tuple_add_2 _ _)
   (tuple_addW1 t b vs.toArray ws.toArray n n2 dd SM sl SN (by simpa using hv) (by simp[hw])) ⟨ho,O7,h1 hw⟩
 ·refine concat_meets ⟨_,ho,rfl⟩ ⟨_,O7,rfl⟩ noFill_tuple_add seq_tuple_add PySem.F.slot_tuple_add PySem.F.entry_tuple_add (PySem.F.args_tuple_add_2 _ _)
   (tuple_addW2 t b vs.toArray ws.toArray n n2 dd SM sl SN (by simpa using hv) (by simpa using hw) (by rw[Vl,Vl];exact hsz)) ⟨ho,O7,?_⟩
  rw[e]
  exact h2 hw
noncomputable def da (n d:Nat):Option Int->Nat
 | none=>d
 | some v=>if v<0 then (v+(n:Int)).toNat else min v.toNat n
theorem ke (n d:Nat):da n d none=d:=rfl
theorem gj (n d k:Nat):da n d (some (k:Int))=min k n:=by
 show (if (k:Int)<0 then ((k:Int)+(n:Int)).toNat else min (k:Int).toNat n)=min k n
 rw[if_neg (by omega),Xx]
theorem Bu (n d:Nat) (hd:d<=n) (o:Option Int):da n d o<=n:=by
 cases o with
 | none=>exact hd
 | some v=>
  show (if v<0 then (v+(n:Int)).toNat else min v.toNat n)<=n
  by_cases hv:v<0
  ·rw[if_pos hv];omega
  ·rw[if_neg hv];exact Nat.min_le_right _ _
theorem yx (v:Int) (n d:Nat):(if v<0 then max (v+(n:Int)) 0 else min v (n:Int))=((da n d (some v):Nat):Int):=by
 show (if v<0 then max (v+(n:Int)) 0 else min v (n:Int))=(((if v<0 then (v+(n:Int)).toNat else min v.toNat n):Nat):Int)
 by_cases hv:v<0
 ·simp only[if_pos hv];omega
 ·simp only[if_neg hv];omega
theorem wG (lo hi:Option Int) (n:Nat):Builtin.Slice.sliceAdjust lo hi 1 (n:Int)=(((da n 0 lo:Nat):Int),((da n n hi:Nat):Int)):=by
 have h1: ¬((1:Int)<0):=by omega
 unfold Builtin.Slice.sliceAdjust
 simp only[h1,if_false]
 refine Prod.ext ?_ ?_
 ·cases lo with
  | none=>rfl
  | some v=>exact yx v n 0
 ·cases hi with
  | none=>rfl
  | some v=>exact yx v n n
theorem wH (i j:Nat):Builtin.Slice.slicePlaces (i:Int) (j:Int) 1=j - i:=by
 unfold Builtin.Slice.slicePlaces
 have h1:(1:Int)>0:=by omega
 simp only[h1,if_true,Int.ediv_one]
 split<;>omega
theorem nP {v:Value} {o:Option Int} {Q:Option Int->Shared->Prop} (p:IsPart v o) (h:Q o s):wpAny (model prog w) A (Builtin.Slice.slicePartIndex v) Q E s:=by
 cases p with
 | none=>exact slicePart_none h
 | int i t=>exact slicePart_int h
theorem lH {sl:Addr} {vl vu:Value} {lo hi:Option Int} {n:Nat} {Q:Int×Int×Nat->Shared->Prop} (hs:s.heap.IsSliceOf sl vl vu .none) (pl:IsPart vl lo) (pu:IsPart vu hi)
  (h:Q (((da n 0 lo:Nat):Int),1,da n n hi - da n 0 lo) s):wpAny (model prog w) A (Builtin.Slice.sliceApplied (.ref sl) (pure (n:Int))) Q E s:=by
 obtain ⟨os,Eh,O9,O_⟩:=id hs
 unfold Builtin.Slice.sliceApplied Builtin.Slice.sliceFields
 refine wpAny_bind (wpAny_bind (wpAny_field Eh O_ (x:=vl) rfl (wpAny_bind (wpAny_field Eh O_ (x:=vu) rfl (wpAny_bind (wpAny_field Eh O_ (x:= .none) rfl (wpAny_pure ?_)))))))
 refine wpAny_bind (slicePart_none ?_)
 show wpAny _ _ (if ((1:Int)==0)=true then _ else _) _ _ s
 rw[if_neg (by decide)]
 refine wpAny_bind (nP pl (wpAny_bind (nP pu (wpAny_bind (wpAny_pure ?_)))))
 show wpAny _ _ (match Builtin.Slice.sliceAdjust lo hi 1 (n:Int) with | (lo,hi)=>pure (lo,(1:Int),Builtin.Slice.slicePlaces lo hi 1)) _ _ s
 rw[wG lo hi n]
 show wpAny _ _ (pure (((da n 0 lo:Nat):Int),(1:Int),Builtin.Slice.slicePlaces ((da n 0 lo:Nat):Int) ((da n n hi:Nat):Int) 1)) _ _ s
 rw[wH]
 exact wpAny_pure h
theorem Bv (xs:Array Value) (i k:Nat):((List.range k).filterMap fun (m:Nat)=>xs[((i:Int)+(m:Int)*1).toNat]?).toArray=((xs.toList.drop i).take k).toArray:=by
 have e:(fun (m:Nat)=>xs[((i:Int)+(m:Int)*1).toNat]?)=fun m=>xs[i+m]?:= by
  funext m
  have:((i:Int)+(m:Int)*1).toNat=i+m:=by omega
  rw[this]
 rw[e]
 have:=pick_run xs i k
 rw[List.filterMap_map]at this
 have e2:((fun x=>xs[x]?) ∘ fun x=>i+x)=fun m=>xs[i+m]?:= rfl
 rw[e2]at this
 rw[this]
theorem kf {t sl:Addr} {items:Array Value} {vl vu:Value} {lo hi:Option Int} {Q:Value->Shared->Prop} (ht:IsTup s.heap t items) (hs:s.heap.IsSliceOf sl vl vu .none) (pl:IsPart vl lo) (pu:IsPart vu hi)
  (hw: ¬(da items.size 0 lo=0/\da items.size items.size hi=items.size))
  (h:Q (.ref s.heap.objs.size) { s with heap:=s.heap.push { cls:= .type "tuple",data:= .seq ((items.toList.drop (da items.size 0 lo)).take (da items.size items.size hi - da items.size 0 lo)).toArray } })
  (hsz:items.size<=sizeLine):wpAny (model prog w) A (getItem (.ref t) (.ref sl)) Q E s:=by
 have yy:sizeOk (.seq ((items.toList.drop (da items.size 0 lo)).take (da items.size items.size hi - da items.size 0 lo)).toArray):=by
  show ((items.toList.drop (da items.size 0 lo)).take (da items.size items.size hi - da items.size 0 lo)).toArray.size<=sizeLine
  rw[Vl,Xw,Yc,Qbe]
  omega
 have hj:da items.size items.size hi<=items.size:=Bu _ _ (SY _) hi
 obtain ⟨os,Eh,O9,O_⟩:=id hs
 have Vc:s.TypeIs (.ref sl) "slice":=⟨os,Eh,O9⟩
 unfold getItem
 try with_reducible refine wpAny_holding ?_
 first | refine wpAny_bind (wpAny_pure ?_) | skip
 refine wpAny_bind (wpAny_sequenceKey ht.typeIs (by decide) ?_)
 refine wpAny_bind (wpAny_callSpecial?_slot (name:=Str.ofString "__getitem__") ht.typeIs ZX
  (wpAny_call_entry ZX ht.typeIs entry_tuple_getitem ?_ (args_tuple_getitem _ _)))
 show wpAny _ _ (Builtin.Tuple.tupleItemsOf (.ref t) >>= _) _ _ s
 refine wpAny_bind (tupleItemsOf_ ht ?_)
 refine wpAny_bind (wpAny_typeOf Vc ?_)
 rw[if_pos (by decide)]
 refine wpAny_bind (lH hs pl pu ?_)
 have KS: ¬((((da items.size 0 lo:Nat):Int)==0&&(1:Int)==1&&(da items.size items.size hi - da items.size 0 lo)==items.size)=true):=by
  intro q
  rw[YH,YH]at q
  have q1:((da items.size 0 lo:Nat):Int)=0:=eq_of_beq q.1.1
  have q2:da items.size items.size hi - da items.size 0 lo=items.size:=eq_of_beq q.2
  exact hw ⟨by omega,by omega⟩
 show wpAny _ _ (if (((da items.size 0 lo:Nat):Int)==0&&(1:Int)==1&&(da items.size items.size hi - da items.size 0 lo)==items.size)=true then _ else _) _ _ s
 rw[if_neg KS,Bv]
 first
  | exact wpAny_bind (m:=Builtin.Tuple.tupleExact _) (wpAny_newObj_type (wpAny_pure ⟨_,rfl,wpAny_pure h⟩) yy)
  | exact wpAny_bind (m:=Builtin.Tuple.tupleExact _) (wpAny_newObj_type (wpAny_bind (wpAny_pure (wpAny_pure ⟨_,rfl,wpAny_pure h⟩))) yy)
  | exact wpAny_bind (wpAny_bind (m:=Builtin.Tuple.tupleExact _) (wpAny_newObj_type (wpAny_pure (wpAny_pure ⟨_,rfl,wpAny_pure h⟩)) yy))
  | exact wpAny_bind (wpAny_bind (m:=Builtin.Tuple.tupleExact _) (wpAny_newObj_type (wpAny_pure ⟨_,rfl,wpAny_pure h⟩) yy))
end
end HT
namespace L2
open PySem PySem.Spec PyProof.Rows
abbrev TO:=St->Hp->(Option Int->Hp->Prop)->Prop
def PO (X:Cx) (e:Option Expr) (t:TO):Prop:=
 ∀(pins:List (Addr×Obj)) (s:Shared) (σ:St) (H:Hp) (Q:Option Int->Hp->Prop),Inv X pins σ H s->t σ H Q->
  wpAny (model X.prog X.w) X.A (evalPart e X.env) (fun u s'=> ∃o H',Inv X pins σ H' s'/\IsPart u o/\Q o H') X.xe s
def EN:TO:=fun _ H Q=>Q none H
def M0 (t:TE):TO:=fun σ H Q=>t σ H fun x H1=> ∃i,x= .int i/\Q (some i) H1
section
variable {X:Cx} {e:Expr} {te:TE} {lo hi:Option Expr} {tl th:TO} {pos p2:Pos}
theorem bE:PO X none EN:=by
 intro pins s σ H Q I h
 rw[evalPart_none]
 exact wpAny_pure ⟨none,H,I, .none,h⟩
theorem aZ (h:PE X e te):PO X (some e) (M0 te):=by
 intro pins s σ H Q I hw
 rw[evalPart_some]
 refine cx (h pins s σ H _ I hw) fun u s1 ⟨x,H1,I1,r1,q1⟩=>?_
 obtain ⟨i,rfl,q⟩:=q1
 obtain ⟨t,rfl⟩:=r1
 exact ⟨some i,H1,I1, .int i t,q⟩
def KU (X:Cx) (r:V->Option Int->Option Int->Hp->VK->Prop):Prop:=
 ∀(pins:List (Addr×Obj)) (s:Shared) (σ:St) (H:Hp) (x:V) (v vl vu:Value) (lo hi:Option Int) (sl:Addr) (Q:VK),Inv X pins σ H s->RelV x v->s.heap.IsSliceOf sl vl vu .none->IsPart vl lo->IsPart vu hi->r x lo hi H Q->
  ∃T id,typeLookup (.type T) "__getitem__"=pure (some (.builtin id))/\s.TypeIs v T/\wpAny (model X.prog X.w) X.A (getItem v (.ref sl)) (EP X pins σ Q) X.xe s
def Vd (r:V->Option Int->Option Int->Hp->VK->Prop) (te:TE) (tl th:TO):TE:=fun σ H Q=>te σ H fun x H1=>tl σ H1 fun l H2=>th σ H2 fun u H3=>r x l u H3 Q
theorem aY {r:V->Option Int->Option Int->Hp->VK->Prop} (hr:KU X r) (he:PE X e te) (hl:PO X lo tl) (hu:PO X hi th):PE X (.Subscript e (.Slice lo hi none p2) pos) (Vd r te tl th):=by
 intro pins s σ H Q I h
 refine Subscript_ (cx (he pins s σ H _ I h) fun v s1 ⟨x,H1,I1,r1,q1⟩=>?_)
 refine wpAny_Slice (cx (hl pins s1 σ H1 _ I1 q1) fun vl s2 ⟨l,H2,I2,pl,q2⟩=>cx (hu pins s2 σ H2 _ I2 q2) fun vu s3 ⟨u,H3,I3,pu,q3⟩=>?_)
 rw[evalPart_none]
 refine wpAny_pure ?_
 have I4:Inv X pins σ H3 { s3 with heap:=s3.heap.push { cls:= .type "slice",data:= .fields #[vl,vu, .none] } }:=I3.kept (t':=s3.toks) fun b ob q=>S0 _ q
 obtain ⟨T,id,hT,ht,hg⟩:=hr pins { s3 with heap:=s3.heap.push { cls:= .type "slice",data:= .fields #[vl,vu, .none] } } σ H3 x v vl vu l u s3.heap.objs.size Q I4 r1 (Heap.IsSliceOf.new ..) pl pu q3
 show wpAny (model X.prog X.w) X.A (subscriptTail e (.Slice lo hi none p2) v (.ref s3.heap.objs.size)) (EP X pins σ Q) X.xe { s3 with heap:=s3.heap.push { cls:= .type "slice",data:= .fields #[vl,vu, .none] } }
 exact tail_any (ops:=[.ref s3.heap.objs.size,v]) ht hT hg (by with_unfolding_all rfl)
noncomputable def rM (xs:List V) (lo hi:Option Int):List V:=(xs.drop (HT.da xs.length 0 lo)).take (HT.da xs.length xs.length hi - HT.da xs.length 0 lo)
theorem mF (xs:List V) (lo hi:Option Int):(rM xs lo hi).length<=xs.length:=by
 unfold rM
 rw[Xw,Yc]
 omega
def M1 (K:PySem.W.Frag):V->Option Int->Option Int->Hp->VK->Prop:=fun x lo hi H Q=> ∃a xs,x= .ref a/\b_ K H a xs/\
 ¬(HT.da xs.length 0 lo=0/\HT.da xs.length xs.length hi=xs.length)/\ ∀p,H p=none->Q (.ref p) (upd H p (.tup (rM xs lo hi)))
theorem Iw:KU X (M1 X.K):=by
 intro pins s σ H x v vl vu lo hi sl Q I rx hs pl pu h
 obtain ⟨a,xs,rfl,hx,hw,q⟩:=h
 cases rx
 obtain ⟨aJ,r,ht,hz⟩:=I.tuple hx
 have hlen:aJ.toArray.size=xs.length:=by rw[Vl];exact r.length.symm
 refine ⟨"tuple",_,ZX.lookup,ht.typeIs,?_⟩
 refine HT.kf ht hs pl pu (by rw[hlen];exact hw) ?_ (by rw[hlen];exact hz)
 rw[hlen]
 refine ⟨.ref s.heap.objs.size,_,I.laid (t':=s.toks) (o:= .tup (rM xs lo hi)) (fun b ob q=>S0 _ q) (SY _) ?_,rfl,q _ (I.b5.fresh (SY _))⟩
 exact ⟨Yv (mF xs lo hi) hz,_,(r.drop (HT.da xs.length 0 lo)).take (HT.da xs.length xs.length hi - HT.da xs.length 0 lo),IsTup.new _ _⟩
def G5 (K:PySem.W.Frag):R2:=fun x y H Q=> ∃a b xs ys,x= .ref a/\y= .ref b/\b_ K H a xs/\b_ K H b ys/\xs≠[]/\xs.length+ys.length<=sizeLine/\
 (ys=[]->Q (.ref a) H)/\(ys≠[]-> ∀p,H p=none->Q (.ref p) (upd H p (.tup (xs++ys))))
theorem Vals.rN {xs:List V} {us:List Value} (r:Vals xs us):us=[]↔xs=[]:=by
 cases r with
 | nil=>simp
 | cons _ _=>simp
theorem EO:iH X (binaryOp .Add) (G5 X.K):=by
 intro pins s σ H x y v u Q I rx ry h
 obtain ⟨a,b,xs,ys,rfl,rfl,ha,hb,hx,hz,q1,q2⟩:=h
 cases rx
 cases ry
 obtain ⟨aJ,r1,p1,_⟩:=I.tuple ha
 obtain ⟨Iy,r2,p2,_⟩:=I.tuple hb
 refine HT.EM p1 p2 (fun z=>hx (r1.rN.mp z)) (fun z=>⟨.ref a,H,I,rfl,q1 (r2.rN.mp z)⟩) (fun z=>?_) (by rw[<-r1.length, <-r2.length];exact hz)
 refine ⟨.ref s.heap.objs.size,_,I.laid (t':=s.toks) (o:= .tup (xs++ys)) (fun b ob q=>S0 _ q) (SY _) ?_,rfl,q2 (fun w=>z (r2.rN.mpr w)) _ (I.b5.fresh (SY _))⟩
 exact ⟨by rw[KW];exact hz,_,r1.append r2,IsTup.new _ _⟩
end
noncomputable def Ei (n:Nat) (i:Int):Option Nat:=if 0<=i then (if i<n then some i.toNat else none) else if -(n:Int)<=i then some (i+n).toNat else none
noncomputable def lq {α:Type} (xs:List α) (i:Int):Option α:=(Ei xs.length i).bind fun j=>xs[j]?
theorem yA {n:Nat} {i:Int} {j:Nat} (h:Ei n i=some j):seqIndex? i n=some j/\j<n/\ -(n:Int)<=i/\i<n:=by
 unfold Ei at h
 by_cases h0:0<=i
 ·rw[if_pos h0]at h
  by_cases h1:i<n
  ·rw[if_pos h1]at h
   have e:i.toNat=j:=Yg h
   exact ⟨by rw[seqIndex_of h0 h1,e],by omega,by omega,h1⟩
  ·rw[if_neg h1]at h;cases h
 ·rw[if_neg h0]at h
  by_cases h1: -(n:Int)<=i
  ·rw[if_pos h1]at h
   have e:(i+n).toNat=j:=Yg h
   exact ⟨by rw[seqIndex_neg (by omega) h1,e],by omega,h1,by omega⟩
  ·rw[if_neg h1]at h;cases h
theorem rO {α:Type} {xs:List α} {i:Int} {v:α} (h:lq xs i=some v): ∃j,seqIndex? i xs.length=some j/\xs[j]? =some v/\j<xs.length/\ -(xs.length:Int)<=i/\i<xs.length:=by
 unfold lq at h
 cases e:Ei xs.length i with
 | none=>rw[e]at h;cases h
 | some j=>
  rw[e]at h
  obtain ⟨h1,h2,h3,h4⟩:=yA e
  exact ⟨j,h1,h,h2,h3,h4⟩
theorem ck {α:Type} {xs:List α} {j:Nat} {v:α} (h:xs[j]? =some v):lq xs (j:Int)=some v:=by
 have hj:j<xs.length:=(IQ.mp h).1
 have e:Ei xs.length (j:Int)=some j:=by
  unfold Ei
  rw[if_pos (by omega),if_pos (by omega)];simp
 unfold lq;rw[e];exact h
theorem Bw {α:Type} (xs:List α) (v:α):lq (xs++[v]) (-1)=some v:=by
 have hl:(xs++[v]).length=xs.length+1:=by simp
 have e:Ei (xs++[v]).length (-1)=some xs.length:=by
  unfold Ei
  rw[hl,if_neg (by decide),if_pos (by omega)]
  congr 1
  omega
 unfold lq
 rw[e]
 show (xs++[v])[xs.length]? =some v
 simp
def ER (b:Expr):Prop:= ∀o i,subscripted b false o i=operate [o,i] (getItem o i)
def Iz (X:Cx) (r:R2):Prop:=
 ∀(value slice:Expr) (pins:List (Addr×Obj)) (s:Shared) (σ:St) (H:Hp) (x y:V) (v u:Value) (Q:VK),Inv X pins σ H s->RelV x v->RelV y u->r x y H Q->
  subscripted slice false v u=operate [v,u] (getItem v u)->wpAny (model X.prog X.w) X.A (subscriptTail value slice v u) (EP X pins σ Q) X.xe s
def zZ (X:Cx) (id:String) (r:V->List V->Hp->VK->Prop):Prop:=
 ∀(pins:List (Addr×Obj)) (s:Shared) (σ:St) (H:Hp) (x:V) (xs:List V) (v:Value) (us:List Value) (Q:VK),Inv X pins σ H s->RelV x v->Vals xs us->r x xs H Q->
  wpAny (model X.prog X.w) X.A (call (.builtin id) (v::us)) (EP X pins σ Q) X.xe s
section
variable {X:Cx} {a b:Expr} {ta tb:TE} {pos:Pos}
theorem aV {r:R2} (hr:Iz X r) (ha:PE X a ta) (hb:PE X b tb) (hs:ER b):PE X (.Subscript a b pos) (O4 r ta tb):=by
 intro pins s σ H Q I h
 exact Subscript_ (Ip ha hb I h fun v u s2 x y H2 I2 rx ry q=>hr a b pins s2 σ H2 x y v u Q I2 rx ry q (hs _ _))
def M3 (K:PySem.W.Frag):R2:=fun x y H Q=> ∃p xs i v,x= .ref p/\y= .int i/\bN K H p xs/\lq xs i=some v/\Q v H
def M4 (K:PySem.W.Frag):R2:=fun x y H Q=> ∃p xs i v,x= .ref p/\y= .int i/\b_ K H p xs/\lq xs i=some v/\Q v H
def QU:R2:=fun x y H Q=> ∃z i c,x= .str z/\y= .int i/\z.length<=sizeLine/\lq z.cps.toList i=some c/\Q (.str ⟨#[c]⟩) H
theorem ES:Iz X (M3 X.K):=by
 intro value slice pins s σ H x y v u Q I rx ry h hs
 obtain ⟨p,xs,i,z,rfl,rfl,hq,he,q⟩:=h
 cases rx
 obtain ⟨t,rfl⟩:=ry
 obtain ⟨aJ,r,pl,hz⟩:=I.list hq
 obtain ⟨j,h1,h2,h3,h4,h5⟩:=rO he
 obtain ⟨w,ew,rJ⟩:=r.get h2
 have hl:=r.length
 have hn:=eO
 have fin:EP X pins σ Q w s:=⟨z,H,I,rJ,q⟩
 by_cases h0:0<=i
 ·have hj:i.toNat=j:=by
   rw[seqIndex_of h0 h5]at h1
   exact Yg h1
  exact item_listR pl.isList h0 (by omega) (by rw[hj];simpa using ew) fin hs
 ·have hj:(i+(aJ.toArray.size:Int)).toNat=j:=by
   rw[seqIndex_neg (by omega) h4]at h1
   rw[Vl, <-hl]
   exact Yg h1
  exact subscriptTail_builtinR (x:=w) pl.isList.typeIs slot_list_getitem.lookup
   (wpAny_getItem_list_neg (Q:=fun r s'=>r=w/\EP X pins σ Q r s') pl.isList (by omega) (by rw[Vl]<;>omega) (by omega) (by rw[hj];simpa using ew) ⟨rfl,fin⟩) hs
theorem IA:Iz X (M4 X.K):=by
 intro value slice pins s σ H x y v u Q I rx ry h hs
 obtain ⟨p,xs,i,z,rfl,rfl,hq,he,q⟩:=h
 cases rx
 obtain ⟨t,rfl⟩:=ry
 obtain ⟨aJ,r,pl,hz⟩:=I.tuple hq
 obtain ⟨j,h1,h2,h3,h4,h5⟩:=rO he
 obtain ⟨w,ew,rJ⟩:=r.get h2
 have hl:=r.length
 have hn:=eO
 have fin:EP X pins σ Q w s:=⟨z,H,I,rJ,q⟩
 exact subscriptTail_builtinR (x:=w) pl.typeIs slot_tuple_getitem.lookup
  (getItem_tuple (j:=j) (Q:=fun r s'=>r=w/\EP X pins σ Q r s') pl (by omega) (by omega) (by rw[Vl, <-hl];exact h1) (by simpa using ew) ⟨rfl,fin⟩) hs
theorem IB:Iz X QU:=by
 intro value slice pins s σ H x y v u Q I rx ry h hs
 obtain ⟨z,i,c,rfl,rfl,hz,he,q⟩:=h
 obtain ⟨t,rfl⟩:=rx
 obtain ⟨t',rfl⟩:=ry
 obtain ⟨j,h1,h2,h3,h4,h5⟩:=rO he
 have hl:z.cps.toList.length=z.length:=by simp[Str.length]
 rw[hl]at h1 h4 h5
 have hn:=eO
 exact tail_any (typeIs_str s z t) slot_str_getitem.lookup (getItem_str (c:=c) (by
  have e1:decide (i< -(2 ^ 63:Int))=false:=decide_eq_false (by omega)
  have e2:decide (i ≥ 2 ^ 63)=false:=decide_eq_false (by omega)
  rw[e1,e2,Qbi]) (by rw[h1];simpa using h2) ⟨.str ⟨#[c]⟩,H,I.tok _,⟨_,rfl⟩,q⟩) hs
theorem wI (aJ:List Value) (n j:Nat) (u:Value):Obj.mapSeq (·.setIfInBounds j u) { cls:= .type "list",data:= .seq aJ.toArray n }={ cls:= .type "list",data:= .seq (aJ.set j u).toArray n }:=by
 simp[Obj.mapSeq]
theorem Inv.lst {pins:List (Addr×Obj)} {σ:St} {H:Hp} {s:Shared} {p:Addr} {xs:List V} (I:Inv X pins σ H s) (h:H p=some (.lst xs)):
  ∃(aJ:List Value) (n:Nat),Vals xs aJ/\s.heap.get? p=some { cls:= .type "list",data:= .seq aJ.toArray n }/\xs.length<=sizeLine:=by
 obtain ⟨z,aJ,n,r,e⟩:=I.b5 p _ h
 exact ⟨aJ,n,r,e,z⟩
theorem Inv.IC {pins:List (Addr×Obj)} {σ:St} {H:Hp} {s:Shared} {p:Addr} {xs ys:List V} {aJ its':List Value} {n n':Nat} {f:Obj->Obj} (I:Inv X pins σ H s) (h:H p=some (.lst xs))
  (ho:s.heap.get? p=some { cls:= .type "list",data:= .seq aJ.toArray n }) (hf:f { cls:= .type "list",data:= .seq aJ.toArray n }={ cls:= .type "list",data:= .seq its'.toArray n' }) (r:Vals ys its') (hz:ys.length<=sizeLine) (t:Nat):
  Inv X pins σ (upd H p (.lst ys)) { s with heap:=s.heap.update p f,toks:=t }:=by
 have e:(s.heap.update p f).get? p=some { cls:= .type "list",data:= .seq its'.toArray n' }:=by
  rw[YQ f ho (by rw[hf]<;>rfl),hf]
 refine I.write (x:=p) (e:=p) (by rw[h];trivial) (.inl rfl) (fun b u hb q=>(Yy _ _ (Ne.symm hb)).trans q) ⟨_,e⟩ ?_
 exact ⟨hz,its',n',r,e⟩
def M5:V->V->V->Hp->(Hp->Prop)->Prop:=fun o i v H Q=> ∃p xs k j,o= .ref p/\i= .int k/\H p=some (.lst xs)/\Ei xs.length k=some j/\Q (upd H p (.lst (xs.set j v)))
theorem set_list:ME X M5:=by
 intro pins s σ H o i v ov iv u Q I ro ri rv h
 obtain ⟨p,xs,k,j,rfl,rfl,hp,hj,q⟩:=h
 cases ro
 obtain ⟨t,rfl⟩:=ri
 obtain ⟨aJ,n,r,ho,hz⟩:=I.lst hp
 obtain ⟨h1,h2,h3,h4⟩:=yA hj
 have hl:=r.length
 have hn:=eO
 have I':Inv X pins σ (upd H p (.lst (xs.set j v))) { s with heap:=s.heap.update p (Obj.mapSeq (·.setIfInBounds j u)) }:=
  I.IC hp ho (wI aJ n j u) (r.set rv j) (by rw[List.length_set];exact hz) s.toks
 by_cases h0:0<=k
 ·have hk:k.toNat=j:=by
   rw[seqIndex_of h0 h4]at h1
   exact Yg h1
  exact PySem.W.ki_setAt ho h0 (by omega) (by rw[Vl, <-hl];exact h4) (by rw[hk];exact ⟨_,I',q⟩)
 ·have hk:(k+(aJ.toArray.size:Int)).toNat=j:=by
   rw[seqIndex_neg (by omega) h3]at h1
   rw[Vl, <-hl]
   exact Yg h1
  exact PySem.W.ki_setBack ho (by omega) (by rw[Vl, <-hl];exact h3) (by omega) (by rw[hk];exact ⟨_,I',q⟩)
theorem rP (lo hi:Option Int) (n:Nat):(sliceBounds lo hi none n).1=((HT.da n 0 lo:Nat):Int)/\(sliceBounds lo hi none n).2.1=((HT.da n n hi:Nat):Int)/\(sliceBounds lo hi none n).2.2=1:=by
 refine ⟨?_,?_,rfl⟩
 ·cases lo with
  | none=>simp[sliceBounds,HT.da]
  | some i=>
   simp only[sliceBounds,HT.da,Option.getD_none,show (1:Int)>0 by decide,if_true]
   by_cases h:i<0
   ·simp only[h,if_true]<;>omega
   ·simp only[h,if_false]<;>omega
 ·cases hi with
  | none=>simp[sliceBounds,HT.da]
  | some i=>
   simp only[sliceBounds,HT.da,Option.getD_none,show (1:Int)>0 by decide,if_true]
   by_cases h:i<0
   ·simp only[h,if_true]<;>omega
   ·simp only[h,if_false]<;>omega
theorem pM (aJ:List Value) (lo hi:Option Int):slicePick aJ.toArray lo hi none=((aJ.drop (HT.da aJ.length 0 lo)).take (HT.da aJ.length aJ.length hi - HT.da aJ.length 0 lo)).toArray:=by
 obtain ⟨h1,h2,h3⟩:=rP lo hi aJ.toArray.size
 unfold slicePick
 rw[h1,h2,h3]
 simp only[sliceRange_one,pick_run,Vl]<;>rfl
def M6 (K:PySem.W.Frag):V->Option Int->Option Int->Hp->VK->Prop:=fun x lo hi H Q=> ∃a xs,x= .ref a/\bN K H a xs/\ ∀p,H p=none->Q (.ref p) (upd H p (.lst (rM xs lo hi)))
theorem ET:KU X (M6 X.K):=by
 intro pins s σ H x v vl vu lo hi sl Q I rx hs pl pu h
 obtain ⟨a,xs,rfl,hx,q⟩:=h
 cases rx
 obtain ⟨aJ,r,ht,hz⟩:=I.list hx
 have hlen:=r.length
 refine ⟨"list",_,slot_list_getitem.lookup,ht.isList.typeIs,?_⟩
 refine wpAny_getItem_list_slice ht.isList hs pl pu .none (by simp) ?_ (by rw[Vl]<;>omega)
 rw[pM, <-hlen]
 refine ⟨.ref s.heap.objs.size,_,I.laid (t':=s.toks) (o:= .lst (rM xs lo hi)) (fun b ob q=>S0 _ q) (SY _) ?_,rfl,q _ (I.b5.fresh (SY _))⟩
 exact ⟨Yv (mF xs lo hi) hz,_,0,(r.drop (HT.da xs.length 0 lo)).take (HT.da xs.length xs.length hi - HT.da xs.length 0 lo),Yf _ rfl⟩
noncomputable def kg:V->Bool
 | .fH=>true
 | .bl _=>true
 | .int _=>true
 | .str _=>true
 | _=>false
noncomputable def Bx:V->V->Bool
 | .fH, .fH=>true
 | .bl a, .bl b=>a==b
 | .bl a, .int b=>(if a then 1 else 0)==b
 | .int a, .bl b=>a==(if b then 1 else 0)
 | .int a, .int b=>a==b
 | .str a, .str b=>a==b
 | _,_=>false
theorem ID {A:Around} {s:Shared} {y x:V} {u v:Value} (ry:RelV y u) (rx:RelV x v) (fy:kg y=true) (fx:kg x=true):SeqAt.EqAt A s u v (Bx y x):=by
 cases y with
 | fH=>
  cases ry
  cases x with
  | fH=>cases rx;exact SeqAt.EqAt.same _
  | bl b=>cases rx;exact SeqAt.EqAt.none_bool b
  | int b=>obtain ⟨t,rfl⟩:=rx;exact SeqAt.EqAt.none_int b t
  | str b=>obtain ⟨t,rfl⟩:=rx;exact SeqAt.EqAt.none_str b t
  | _=>exact absurd (show false=true from fx) Yj
 | bl a=>
  cases ry
  cases x with
  | fH=>cases rx;exact SeqAt.EqAt.bool_none a
  | bl b=>cases rx;exact SeqAt.EqAt.bool_bool a b
  | int b=>obtain ⟨t,rfl⟩:=rx;exact SeqAt.EqAt.bool_int a b t
  | str b=>obtain ⟨t,rfl⟩:=rx;exact SeqAt.EqAt.bool_str a b t
  | _=>exact absurd (show false=true from fx) Yj
 | int a=>
  obtain ⟨t',rfl⟩:=ry
  cases x with
  | fH=>cases rx;exact SeqAt.EqAt.int_none a t'
  | bl b=>cases rx;exact SeqAt.EqAt.int_bool a t' b
  | int b=>obtain ⟨t,rfl⟩:=rx;exact SeqAt.EqAt.int_int a t' b t
  | str b=>obtain ⟨t,rfl⟩:=rx;exact SeqAt.EqAt.int_str a t' b t
  | _=>exact absurd (show false=true from fx) Yj
 | str a=>
  obtain ⟨t',rfl⟩:=ry
  cases x with
  | fH=>cases rx;exact SeqAt.EqAt.str_none a t'
  | bl b=>cases rx;exact SeqAt.EqAt.str_bool a t' b
  | int b=>obtain ⟨t,rfl⟩:=rx;exact SeqAt.EqAt.str_int a t' b t
  | str b=>obtain ⟨t,rfl⟩:=rx;exact SeqAt.EqAt.str_str a t' b t
  | _=>exact absurd (show false=true from fx) Yj
 | _=>exact absurd (show false=true from fy) Yj
noncomputable def EU (x:V) (u:Value):Bool:=match u with
 | .none=>Bx .fH x
 | .bool b=>Bx (.bl b) x
 | .int i _=>Bx (.int i) x
 | .str z _=>Bx (.str z) x
 | _=>false
theorem By {x y:V} {u:Value} (r:RelV y u) (f:kg y=true):EU x u=Bx y x:=by
 cases y with
 | fH=>cases r;rfl
 | bl b=>cases r;rfl
 | int i=>obtain ⟨t,rfl⟩:=r;rfl
 | str z=>obtain ⟨t,rfl⟩:=r;rfl
 | _=>exact absurd (show false=true from f) Yj
theorem rQ {x:V}: ∀{xs:List V} {us:List Value},Vals xs us->xs.all kg=true->us.any (EU x)=xs.any fun y=>Bx y x
 | _,_, .nil,_=>rfl
 | y::xs,u::us, .cons r t,f=>by
  rw[List.all_cons,YH]at f
  rw[Ze,Ze,By r f.1,rQ t f.2]
theorem nQ {A:Around} {s:Shared} {x:V} {v:Value} (rx:RelV x v) (fx:kg x=true): ∀{xs:List V} {us:List Value},Vals xs us->xs.all kg=true-> ∀u∈us,SeqAt.EqAt A s u v (EU x u)
 | _,_, .nil,_=>fun u hu=>by cases hu
 | y::xs,u::us, .cons r t,f=>fun u' hu=>by
  rw[List.all_cons,YH]at f
  rcases Vi.mp hu with rfl | hu
  ·rw[By r f.1];exact ID r rx f.1 fx
  ·exact nQ rx fx t f.2 u' hu
noncomputable def Bz (x:V) (xs:List V):Bool:=xs.any fun y=>Bx y x
def SO (K:PySem.W.Frag) (neg:Bool):R2:=fun x y H Q=> ∃p xs,y= .ref p/\(bN K H p xs\/b_ K H p xs)/\kg x=true/\xs.all kg=true/\Q (.bl (if neg then !Bz x xs else Bz x xs)) H
theorem rR:iH X (compareOp .NotIn) (SO X.K true):=by
 intro pins s σ H x y v u Q I rx ry h
 obtain ⟨p,xs,rfl,hq,fx,fs,q⟩:=h
 cases ry
 rcases hq with hq | hq
 ·obtain ⟨aJ,r,pl,hz⟩:=I.list hq
  refine SeqAt.notIn_listAt (EU x) pl.isList (fun w hw=>nQ rx fx r fs w (by simpa using hw)) ⟨.bl _,H,I,rfl,?_⟩
  rw[show aJ.toArray.any (EU x)=aJ.any (EU x) by simp,rQ r fs]
  exact q
 ·obtain ⟨aJ,r,pl,hz⟩:=I.tuple hq
  refine SeqAt.notIn_tupleAt (EU x) pl (fun w hw=>nQ rx fx r fs w (by simpa using hw)) ⟨.bl _,H,I,rfl,?_⟩
  rw[show aJ.toArray.any (EU x)=aJ.any (EU x) by simp,rQ r fs]
  exact q
theorem rS:eM X (.builtin "len") (fun xs H Q=> ∃p ys,xs=[.ref p]/\(bN X.K H p ys\/b_ X.K H p ys)/\Q (.int ys.length) H):=by
 intro pins s σ H xs us Q I r h
 obtain ⟨p,ys,rfl,hq,q⟩:=h
 obtain ⟨u,rfl,rx⟩:=vals1 r
 cases rx
 have hn:=eO
 rcases hq with hq | hq
 ·obtain ⟨aJ,r',pl,hz⟩:=I.list hq
  have hlen:=r'.length
  exact Calls.call_len_list pl.isList (by simp only[Vl]<;>omega) ⟨.int ys.length,H,I.tok _,⟨s.toks+1,by rw[Vl,hlen]⟩,q⟩
 ·obtain ⟨aJ,r',pl,hz⟩:=I.tuple hq
  have hlen:=r'.length
  exact len_tuple pl (by simp only[Vl]<;>omega) ⟨.int ys.length,H,I.tok _,⟨s.toks+1,by rw[Vl,hlen]⟩,q⟩
theorem rT:eM X (.builtin "len") (fun xs H Q=> ∃z,xs=[.str z]/\z.length<=sizeLine/\Q (.int z.length) H):=by
 intro pins s σ H xs us Q I r h
 obtain ⟨z,rfl,hz,q⟩:=h
 obtain ⟨u,rfl,t,rfl⟩:=vals1 r
 have hn:=eO
 exact len_str (by omega) ⟨.int z.length,H,I.tok _,⟨_,rfl⟩,q⟩
theorem rV:eM X (.type "list") (fun xs H Q=> ∃p ys,xs=[.ref p]/\(bN X.K H p ys\/b_ X.K H p ys)/\ ∀l,H l=none->Q (.ref l) (upd H l (.lst ys))):=by
 intro pins s σ H xs us Q I r h
 obtain ⟨p,ys,rfl,hq,q⟩:=h
 obtain ⟨u,rfl,rx⟩:=vals1 r
 cases rx
 have fin: ∀(aJ:List Value),Vals ys aJ->ys.length<=sizeLine-> ∀(h':Heap) (c':Nat),(∀b o',s.heap.get? b=some o'->h'.get? b=some o')->
   h'.get? s.heap.objs.size=some { cls:= .type "list",dict:=none,data:= .seq aJ.toArray c',slots:= #[] }->EP X pins σ Q (.ref s.heap.objs.size) { s with heap:=h' }:=fun aJ r' hz h' c' kp e=>
  ⟨.ref s.heap.objs.size,_,I.laid (t':=s.toks) kp (SY _) (show cX X.prog X.w _ h' _ (.lst ys) from ⟨hz,aJ,c',r',e⟩),rfl,q _ (I.b5.fresh (SY _))⟩
 rcases hq with hq | hq
 ·obtain ⟨aJ,r',pl,hz⟩:=I.list hq
  have hlen:=r'.length
  obtain ⟨o,ho,hc,n,hd⟩:=pl.isList
  exact call_list_seq p (.inl rfl) ho hc hd (fun h' c' kp e=>fin aJ r' hz h' c' kp e) (by simp only[Vl]<;>omega)
 ·obtain ⟨aJ,r',pl,hz⟩:=I.tuple hq
  have hlen:=r'.length
  obtain ⟨o,ho,hc,n,hd⟩:=pl
  exact call_list_seq p (.inr rfl) ho hc hd (fun h' c' kp e=>fin aJ r' hz h' c' kp e) (by simp only[Vl]<;>omega)
theorem pN:eM X (.type "tuple") (fun xs H Q=> ∃p ys,xs=[.ref p]/\((bN X.K H p ys/\ ∀l,H l=none->Q (.ref l) (upd H l (.tup ys)))\/(b_ X.K H p ys/\Q (.ref p) H))):=by
 intro pins s σ H xs us Q I r h
 obtain ⟨p,ys,rfl,h⟩:=h
 obtain ⟨u,rfl,rx⟩:=vals1 r
 cases rx
 rcases h with ⟨hq,q⟩ | ⟨hq,q⟩
 ·obtain ⟨aJ,r',pl,hz⟩:=I.list hq
  have hlen:=r'.length
  refine call_tuple_list pl.isList (fun h' kp=>?_) (by simp only[Vl]<;>omega)
  have I1:Inv X pins σ H { s with heap:=h' }:=I.kept (t':=s.toks) kp
  have I2:Inv X pins σ (upd H h'.objs.size (.tup ys)) { s with heap:=h'.push { cls:= .type "tuple",data:= .seq aJ.toArray } }:=
   I1.laid (t':=s.toks) (fun b o e=>S0 _ e) (SY _) (show cX X.prog X.w _ _ _ (.tup ys) from ⟨hz,aJ,r',IsTup.new _ _⟩)
  exact ⟨.ref h'.objs.size,_,I2,rfl,q _ (I1.b5.fresh (SY _))⟩
 ·obtain ⟨aJ,r',pl,hz⟩:=I.tuple hq
  exact call_tuple_same pl ⟨.ref p,H,I,rfl,q⟩
def Pa (K:PySem.W.Frag) (T:String) (x:V) (H:Hp):Prop:=match x with
 | .str _=>T="str"
 | .int _=>T="int"
 | .ref p=>(T="list"/\ ∃xs,bN K H p xs)\/(T="tuple"/\ ∃o,K.lookup p=some o/\o.cls= .type "tuple"/\o.dict=none)\/
   (T="dict"/\((∃aQ,H p=some (.dK aQ))\/ ∃aQ,H p=some (.dT aQ)))\/(T="set"/\ ∃S n,H p=some (.set S n))
 | _=>False
theorem wJ {pins:List (Addr×Obj)} {σ:St} {H:Hp} {s:Shared} {T:String} {x:V} {v:Value} (I:Inv X pins σ H s) (r:RelV x v) (ty:Pa X.K T x H):
  s.TypeIs v T/\ ∀a,v= .ref a-> ∃ob,s.heap.get? a=some ob/\ob.dict=none:=by
 cases x with
 | str z=>
  obtain ⟨t,rfl⟩:=r
  cases (show T="str" from ty)
  exact ⟨typeIs_str s z t,fun _ e=>nomatch e⟩
 | int i=>
  obtain ⟨t,rfl⟩:=r
  cases (show T="int" from ty)
  exact ⟨typeIs_int s i t,fun _ e=>nomatch e⟩
 | ref p=>
  cases r
  rcases ty with ⟨rfl,xs,hq⟩ | ⟨rfl,o,hk,hc,hd⟩ | ⟨rfl,hk⟩ | ⟨rfl,S,n,hk⟩
  ·obtain ⟨aJ,_,pl,_⟩:=I.list hq
   refine ⟨pl.isList.typeIs,fun a e=>?_⟩
   cases e
   obtain ⟨o,n,e,c,hd,_⟩:=pl
   exact ⟨o,e,hd⟩
  ·refine ⟨⟨o,I.zM p o hk,hc⟩,fun a e=>?_⟩
   cases e
   exact ⟨o,I.zM _ o hk,hd⟩
  ·have z: ∃o,s.heap.get? p=some o/\o.ExactDict:=by
    rcases hk with ⟨aQ,hk⟩ | ⟨aQ,hk⟩
    ·obtain ⟨_,_,_,_,o,_,_,e,ex,_⟩:=I.b5 p _ hk
     exact ⟨o,e,ex⟩
    ·obtain ⟨_,_,_,_,o,_,_,e,ex,_⟩:=I.b5 p _ hk
     exact ⟨o,e,ex⟩
   obtain ⟨o,e,ex⟩:=z
   refine ⟨⟨o,e,ex.1⟩,fun a e2=>?_⟩
   cases e2
   exact ⟨o,e,ex.2.1⟩
  ·obtain ⟨o,_,_,_,e,ex,_⟩:=I.b5 p _ hk
   refine ⟨⟨o,e,ex.1⟩,fun a e2=>?_⟩
   cases e2
   exact ⟨o,e,ex.2.1⟩
 | _=>exact False.elim ty
def M7 (K:PySem.W.Frag) (T:String) (r:V->List V->Hp->VK->Prop) (to:TE):TE:=fun σ H Q=>to σ H fun x H1=>Pa K T x H1/\r x [] H1 Q
def SQ (K:PySem.W.Frag) (T:String) (r:V->List V->Hp->VK->Prop) (to:TE) (t:TA):TE:=fun σ H Q=>to σ H fun x H1=>Pa K T x H1/\t σ H1 fun xs H2=>r x xs H2 Q
variable {o e:Expr} {es:List Expr} {to:TE} {t:TA} {name:Str} {apos fT:Pos} {T id:String} {r:V->List V->Hp->VK->Prop}
theorem IE (pa:PlainAttrs T) (slot:Slot T name id) (IF:typeOf (.builtin id)=pure (.type "method_descriptor")) (hm:zZ X id r) (ho:PE X o to)
  (kh:attributeBase o name X.env (eval o X.env)=eval o X.env:=by rfl) (jy:(apos.endLine==fT.line)=true:=by rfl):PE X (.Call (.Attribute o name apos) [] [] fT) (M7 X.K T r to):=by
 intro pins s σ H Q I h
 refine wpAny_Call_method0_late kh jy (cx (ho pins s σ H _ I h) fun v s1 ⟨x,H1,I1,r1,ty,q1⟩=>?_)
 obtain ⟨h1,h2⟩:=wJ I1 r1 ty
 exact ⟨T,id,pa,slot,IF,h1,h2,Qbd rfl (PySem.evalArgs_none (hm pins s1 σ H1 x [] v [] Q I1 r1 .nil q1))⟩
theorem M8 (pa:PlainAttrs T) (slot:Slot T name id) (IF:typeOf (.builtin id)=pure (.type "method_descriptor")) (hm:zZ X id r) (ho:PE X o to) (ha:PA X (e::es) t)
  (kh:attributeBase o name X.env (eval o X.env)=eval o X.env:=by rfl)
  (BA:((backTo fT (starEach (e::es) X.env)).all (fun x=>!x.1)&&(backToKw fT (keywordEach [] X.env)).all (fun x=>x.1.isSome)
   &&decide ((e::es).length+([]:List Keyword).length+(if ([]:List Keyword).isEmpty then 0 else 1)<30))=true:=by rfl)
  (jy:(apos.endLine==fT.line)=true:=by rfl) (hs:starEach (e::es) X.env=(false,eval e X.env)::starEach es X.env:=by rfl) (wK:(backTo fT (starEach es X.env)).any (·.1)=false:=by rfl):
  PE X (.Call (.Attribute o name apos) (e::es) [] fT) (SQ X.K T r to t):=by
 intro pins s σ H Q I h
 refine wpAny_Call_method_late kh BA jy rfl (cx (ho pins s σ H _ I h) fun v s1 ⟨x,H1,I1,r1,ty,q1⟩=>?_)
 obtain ⟨h1,h2⟩:=wJ I1 r1 ty
 refine ⟨T,id,pa,slot,IF,h1,h2,?_⟩
 have hA:=ha fT pins s1 σ H1 _ I1 q1
 rw[hs]at hA ⊢
 refine Qbd (by show (false||(backTo fT (starEach es X.env)).any (·.1))=false;rw[wK]<;>rfl) (Calls.evalArgs_plain ?_)
 exact cx hA fun us s2 ⟨vs,H2,I2,r2,q2⟩=>hm pins s2 σ H2 x vs v us Q I2 r1 r2 q2
end
def M9 (X:Cx) (id:String) (r:V->List V->Hp->VK->Prop):Prop:=
 ∀(pins:List (Addr×Obj)) (s:Shared) (σ:St) (H:Hp) (x:V) (xs:List V) (v:Value) (us:List Value) (Q:VK),Inv X pins σ H s->RelV x v->Vals xs us->r x xs H Q->
  wpAny (model X.prog X.w) X.A (call (.builtin id) (v::us)) (EP X pins σ Q) X.xe s
theorem Vals.one: ∀{x:V} {us:List Value},Vals [x] us-> ∃u,us=[u]/\RelV x u
 | _,_, .cons r .nil=>⟨_,rfl,r⟩
theorem Vals.zero: ∀{us:List Value},Vals [] us->us=[]
 | _, .nil=>rfl
theorem Vals.dropLast {xs:List V} {us:List Value} (h:Vals xs us):Vals xs.dropLast us.dropLast:=by
 induction h with
 | nil=>exact .nil
 | cons r t ih=>
  cases t with
  | nil=>exact .nil
  | cons q t'=>exact .cons r ih
theorem Vals.eraseIdx: ∀{xs:List V} {us:List Value} (i:Nat),Vals xs us->Vals (xs.eraseIdx i) (us.eraseIdx i)
 | _,_,_, .nil=> .nil
 | _,_,0, .cons _ t=>t
 | _,_,i+1, .cons r t=> .cons r (Vals.eraseIdx i t)
theorem Vals.reverse {xs:List V} {us:List Value} (h:Vals xs us):Vals xs.reverse us.reverse:=by
 induction h with
 | nil=>exact .nil
 | cons r t ih=>rw[List.reverse_cons,List.reverse_cons];exact Vals.append ih (.cons r .nil)
theorem wL {α:Type} (l:List α):l.eraseIdx (l.length - 1)=l.dropLast:=by
 induction l with
 | nil=>rfl
 | cons a r ih=>
  cases r with
  | nil=>rfl
  | cons b r=>
   have e:(a::b::r).length - 1=((b::r).length - 1)+1:=by
    have h1:(a::b::r).length=r.length+2:=rfl
    have h2:(b::r).length=r.length+1:=rfl
    omega
   rw[e,ZR,ih]
   all_goals rfl
theorem qx {α:Type}: ∀(l:List α) (i:Nat),(l.eraseIdx i).length<=l.length
 | [],_=>SY _
 | _::_,0=>Zu _
 | _::r,i+1=>Y7 (qx r i)
section
variable {X:Cx} {pins:List (Addr×Obj)} {σ:St} {H:Hp} {s:Shared} {l b:Addr} {xs ys zs:List V}
theorem Inv.BC {aJ its':List Value} {n:Nat} {f:Array Value->Array Value} {t':Nat} (I:Inv X pins σ H s) (hH:H l=some (.lst xs))
  (e:s.heap.get? l=some { cls:= .type "list",data:= .seq aJ.toArray n }) (hf:f aJ.toArray=its'.toArray) (hv:Vals ys its') (hz:ys.length<=sizeLine):
  Inv X pins σ (upd H l (.lst ys)) { s with heap:=s.heap.update l (Obj.mapSeq f),toks:=t' }:=by
 have q:=PySem.IsL.update e f
 rw[hf]at q
 refine I.write (x:=l) (e:=l) (by rw[hH];exact trivial) (.inl rfl) (fun b' u hb hu=>(Yy s.heap (Obj.mapSeq f) (Ne.symm hb)).trans hu) ⟨_,q⟩ ?_
 exact ⟨hz,its',_,hv,q⟩
theorem Inv.QV {aJ:List Value} {t':Nat} (I:Inv X pins σ H s) (hv:Vals ys aJ) (hz:ys.length<=sizeLine):
  Inv X pins σ (upd H s.heap.objs.size (.lst ys)) { s with heap:=s.heap.push { cls:= .type "list",data:= .seq aJ.toArray },toks:=t' }:=
 I.laid (fun _ _ q=>S0 _ q) (SY _) ⟨hz,aJ,0,hv,Yf _ rfl⟩
theorem Inv.fresh (I:Inv X pins σ H s):H s.heap.objs.size=none:=I.b5.fresh (SY _)
theorem Inv.wM (I:Inv X pins σ H s) (hH:H l=some (.lst xs)):xs.length<=sizeLine/\ ∃(aJ:List Value) (n:Nat),Vals xs aJ/\xs.length=aJ.length/\s.heap.get? l=some { cls:= .type "list",data:= .seq aJ.toArray n }:=by
 obtain ⟨z,aJ,n,r,e⟩:=I.b5 l _ hH
 exact ⟨z,aJ,n,r,r.length,e⟩
end
section
variable {X:Cx}
def EV:V->List V->Hp->VK->Prop:=fun x vs H Q=> ∃l xs y,x= .ref l/\vs=[y]/\H l=some (.lst xs)/\xs.length<sizeLine/\Q .fH (upd H l (.lst (xs++[y])))
theorem gN:M9 X "list.append" EV:=by
 intro pins s σ H x vs v us Q I rx rv h
 obtain ⟨l,xs,y,rfl,rfl,hH,hz,q⟩:=h
 cases rx
 obtain ⟨u,rfl,ru⟩:=rv.one
 obtain ⟨z,aJ,n,r,hl,e⟩:=I.wM hH
 refine call_meets F.slot_list_append ⟨_,e,rfl⟩ F.entry_list_append (F.args_list_append_2 _ _) (PySem.list_append l aJ.toArray n u (by rw[Vl];omega)) ⟨e,?_⟩
 refine ⟨.fH,_,I.BC (its':=aJ++[u]) hH e (by simp) (r.append (.cons ru .nil)) ?_,rfl,q⟩
 rw[KW,List.length_singleton]
 omega
def QW:V->List V->Hp->VK->Prop:=fun x vs H Q=> ∃l xs y,x= .ref l/\vs=[]/\H l=some (.lst xs)/\xs[xs.length - 1]? =some y/\Q y (upd H l (.lst xs.dropLast))
theorem IG:M9 X "list.pop" QW:=by
 intro pins s σ H x vs v us Q I rx rv h
 obtain ⟨l,xs,y,rfl,rfl,hH,hy,q⟩:=h
 cases rx
 have A9:=rv.zero
 subst A9
 obtain ⟨z,aJ,n,r,hl,e⟩:=I.wM hH
 obtain ⟨u,hu,ru⟩:=r.get hy
 have Ve:aJ.toArray[aJ.toArray.size - 1]? =some u:=by
  show aJ.toArray[aJ.length - 1]? =some u
  rw[<-Array.getElem?_toList, <-hl]
  exact hu
 refine call_meets F.slot_list_pop ⟨_,e,rfl⟩ F.entry_list_pop (F.args_list_pop_1 _) (MeetsSeq.list_pop_last l aJ.toArray n u Ve (by rw[Vl];omega)) ⟨e,?_⟩
 refine ⟨y,_,I.BC (its':=aJ.dropLast) hH e ?_ r.dropLast ?_,ru,q⟩
 ·show aJ.toArray.eraseIdxIfInBounds (aJ.toArray.size - 1)=aJ.dropLast.toArray
  rw[Vl,List.eraseIdxIfInBounds_toArray,wL]
 ·rw[List.length_dropLast]
  omega
def IH:V->List V->Hp->VK->Prop:=fun x vs H Q=> ∃l xs i k y,x= .ref l/\vs=[.int i]/\H l=some (.lst xs)/\ -(2 ^ 63)<=i/\i<2 ^ 63/\seqIndex? i xs.length=some k/\xs[k]? =some y/\Q y (upd H l (.lst (xs.eraseIdx k)))
theorem ki:M9 X "list.pop" IH:=by
 intro pins s σ H x vs v us Q I rx rv h
 obtain ⟨l,xs,i,k,y,rfl,rfl,hH,h1,h2,hk,hy,q⟩:=h
 cases rx
 obtain ⟨u,rfl,ru⟩:=rv.one
 obtain ⟨t,rfl⟩:=ru
 obtain ⟨z,aJ,n,r,hl,e⟩:=I.wM hH
 obtain ⟨w,hw,rJ⟩:=r.get hy
 refine call_meets F.slot_list_pop ⟨_,e,rfl⟩ F.entry_list_pop (F.args_list_pop_2 _ _)
  (MeetsSeq.list_pop_at l aJ.toArray n i t k w (fitsIndex_both h1 h2) (by rw[Vl, <-hl];exact hk) (by rw[<-Array.getElem?_toList];exact hw) (by rw[Vl];omega)) ⟨e,?_⟩
 refine ⟨y,_,I.BC (its':=aJ.eraseIdx k) hH e ?_ (r.eraseIdx k) ?_,rJ,q⟩
 ·show aJ.toArray.eraseIdxIfInBounds k=(aJ.eraseIdx k).toArray
  rw[List.eraseIdxIfInBounds_toArray]
 ·have:=qx xs k
  omega
def BD:V->List V->Hp->VK->Prop:=fun x vs H Q=> ∃l xs,x= .ref l/\vs=[]/\H l=some (.lst xs)/\Q .fH (upd H l (.lst xs.reverse))
theorem wN:M9 X "list.reverse" BD:=by
 intro pins s σ H x vs v us Q I rx rv h
 obtain ⟨l,xs,rfl,rfl,hH,q⟩:=h
 cases rx
 have A9:=rv.zero
 subst A9
 obtain ⟨z,aJ,n,r,hl,e⟩:=I.wM hH
 refine call_meets F.slot_list_reverse ⟨_,e,rfl⟩ F.entry_list_reverse (F.args_list_reverse_1 _) (AutoSeq1.list_reverse_list_0 l aJ.toArray n (by rw[Vl];omega)) ⟨e,?_⟩
 refine ⟨.fH,_,I.BC (its':=aJ.reverse) hH e (by simp) r.reverse ?_,rfl,q⟩
 rw[Yo]
 omega
def QX:R2:=fun x y H Q=> ∃l b xs zs,x= .ref l/\y= .ref b/\H l=some (.lst xs)/\H b=some (.lst zs)/\xs.length+zs.length<=sizeLine/\ ∀p,H p=none->Q (.ref p) (upd H p (.lst (xs++zs)))
theorem II:iH X (binaryOp .Add) QX:=by
 intro pins s σ H x y v u Q I rx ry h
 obtain ⟨l,b,xs,zs,rfl,rfl,hH,hB,hz,q⟩:=h
 cases rx
 cases ry
 obtain ⟨z,aJ,n,r,hl,e⟩:=I.wM hH
 obtain ⟨z2,Iy,n2,r2,vV,e2⟩:=I.wM hB
 refine PySem.P.add_list e e2 ?_ (by rw[Vl,Vl];omega)
 have ea:aJ.toArray++Iy.toArray=(aJ++Iy).toArray:=by simp
 rw[ea]
 exact ⟨.ref _,_,I.QV (t':=s.toks) (r.append r2) (by rw[KW];omega),rfl,q _ I.fresh⟩
end
section
variable {prog:Program} {w:World} {A:Around} {E:Value->Shared->Prop} {s:Shared}
end
section
variable {X:Cx}
end
end L2
namespace SR
open PySem PySem.W PySem.Calls PyProof.Rows
theorem mQ {P:Params} {h:Heap}: ∀(ns:List Int) (vs:List Value),WellAll P h vs (ns.map WData.int)->IntsAre vs ns:=by
 intro ns
 induction ns with
 | nil=>
  intro vs w
  rw[List.map_nil]at w
  cases w
  exact .nil
 | cons n ns ih=>
  intro vs w
  rw[Ym]at w
  cases w with
  | cons a b=>
   cases a
   exact .cons _ _ (ih _ b)
theorem z5 {l:OpenLaw} {n:Nat} (hn:l.most=some n) {P:Params} {h:Heap} {args:List WData} {vals:List Value}
  (EW:l.row.toRowW.claim.pre args=true) (wO:WellAll P h vals args):
  ∃a vs ns,vals=[Value.ref a]/\args=[WData.list (ns.map WData.int)]/\h.get? a=some { cls:= .type "list",data:= .seq vs.toArray }/\IntsAre vs ns/\ns.length<=n:=by
 have QY:WShape.hasAll [] args [.list .int]=true:=(pre_splitW EW).1
 have hc:l.pre.holds [] { args:=args }=true:=(pre_splitW EW).2
 obtain ⟨d,r,rfl,h1,h2⟩:=hasAllW_cons QY
 obtain rfl:=hasAllW_nil h2
 obtain ⟨xs,rfl,h3⟩:=hasW_list h1
 obtain ⟨ns,rfl⟩:=items_int h3
 have hlen:ns.length<=n:=by
  unfold OpenLaw.pre at hc
  have h4:(WTm.not (.lt (.lit (.int (n:Int))) (.len (.arg 0)))).holds [] { args:=[.list (ns.map .int)] }=true:=by
   have h4:=(holds_andW hc).1
   rw[hn]at h4
   exact h4
  have h5:=condW_of h4 (w_not (w_lt w_lit (w_len_list (w_arg rfl))))
  rw[Pd]at h5
  refine Qbx fun q=>?_
  have q':(n:Int)<((ns.length:Nat):Int):=by omega
  first
   |(rw[decide_eq_true q']at h5;exact absurd h5 (by decide))
   |(simp at h5;omega)
 cases wO with
 | cons w1 w2=>
  cases w2
  cases w1 with
  | list ho IJ=>exact ⟨_,_,ns,rfl,rfl,ho,mQ ns _ IJ,hlen⟩
theorem z6 (l:OpenLaw) (args:List WData):l.row.toRowW.claim.post args (.bool true) args=true:=
 postW_of (r:=l.row.toRowW) (X:=(true==true))
  (show WShape.has [] (.bool true) .bool=true by first | rfl | decide | simp[WShape.has,WShape.arms,WShape.armsAll])
  (show (WTm.eq .res (.lit (.bool true))).value [] { args:=args,res:=some (.bool true),after:=args }=some (.bool (true==true)) from w_eq_bool (w_res rfl) w_lit) rfl
theorem ux {l:OpenLaw} {n:Nat} {q:Program} {loose:List Str} {XP:(Str->Option Value)->Heap->Prop} {YP:World->Heap->Prop} {d:DefRec}
  (hn:l.most=some n) (M_:d.params.defaults=[])
  (call: ∀(w:World) (s₀ s₁:Shared) (mg mb:Str->Option Value) (fa:Addr) (o:Obj) (pm cd doc:Value) (a:Addr) (vs:List Value) (ns:List Int),
   Ground q loose [] XP w s₀ mg mb s₁.heap->YP w s₁.heap->
   s₁.heap.get? fa=some o->o.data= .func (docDef d.name d.params d.body d.scope pm cd doc)->s₁.heap.CodeRec cd d.name->mg d.name=some (.ref fa)->
   s₁.heap.get? a=some { cls:= .type "list",data:= .seq vs.toArray }->IntsAre vs ns->ns.length<=n->s₁.gens= #[]->
   codeAny (model l.prog w) callerA (.call (.ref fa) ⟨[.ref a],[]⟩) (fun r s'=>r= .ok (.ret (.bool true))/\OldK s₁.heap s'.heap/\s'.os=s₁.os/\AllBare s'.gens) s₁):
  WalkO q loose XP YP l.row.toRowW d [] (fun f vs=>PySem.call f vs):=by
 intro w s₀ s₁ mg mb G Y fa o pm cd doc dV kV ho hd mO hD hmg hg args vals as EW Vf Xt wO Xu
 obtain rfl:dV= .none:=Dflts.none hD M_
 obtain rfl:kV= .none:=Dflts.noKw hD
 obtain ⟨a,vs,ns,rfl,rfl,IK,hints,hlen⟩:=z5 hn EW wO
 refine enter_call (codeAny_mono (call w s₀ s₁ mg mb fa o pm cd doc a vs ns G Y ho (fd_plain hd) mO hmg IK hints hlen hg) fun r s' hq=>?_)
 obtain ⟨rfl,h2,h3,h4⟩:=hq
 exact ⟨.inl ⟨.bool true, .bool true,[],rfl,fun _=>rfl, .bool true,z6 l _,fun _=>⟨List.Pairwise.nil,fun _ hm=>(nomatch hm)⟩⟩,h2,h3,h4⟩
section
variable {prog:Program} {w:World} {A:Around} {E:Value->Shared->Prop} {s:Shared} {K:Frag}
end
end SR
namespace L2
open PySem PySem.Spec PyProof.Rows
theorem qy: ∀{vs:List Value} {ns:List Int},IntsAre vs ns->Vals (ns.map V.int) vs
 | _,_, .nil=> .nil
 | _,_, .cons n t h=> .cons ⟨t,rfl⟩ (qy h)
def IL (H:Hp):Prop:= ∀b,H b=none\/ ∃o xs,H b=some (.Ed o (.lst xs))
theorem BE {P:Program} {w:World} {K:PySem.W.Frag} {mg mb:Str->Option Value} {CX:zW} {k:Nat} {fa a:Addr} {fd:FuncData} {x:Str} {sp:Sp} {s₁:Shared} {vs:List Value} {ns:List Int}
  (KX:K.In s₁.heap) (Pb:s₁.heap.Ns mainGlobals mg) (hb:s₁.heap.Ns builtinsNs mb) (Vg: ∀x:Str,x≠"__name__"->mb x=bootBuiltins x) (QZ:s₁.heap.NoLimit) (hg:s₁.gens= #[])
  (ha:s₁.heap.get? a=some { cls:= .type "list",data:= .seq vs.toArray }) (hi:IntsAre vs ns) (hl:ns.length<=sizeLine) (hr:eQ k callerA)
  (F: ∀base:Heap,K.In base->base.Ns mainGlobals mg->bM P w K mg base CX k fa fd [x] sp) (Na: ∀(s:Shared) (u:Value),BindsTo s fd ⟨[u],[]⟩ [(x,u)])
  (EL: ∀H:Hp,IL H->bN K H a (ns.map V.int)->sp [.ref a] H (fun v _=>v= .bl true) fun _ _ _=>False)
  (Q0: ∀H e s',CX [] H s₁ (fun _ _ _=>False) e s'->False):
  codeAny (model P w) callerA (.call (.ref fa) ⟨[.ref a],[]⟩) (fun r s'=>r= .ok (.ret (.bool true))/\OldK s₁.heap s'.heap/\s'.os=s₁.os/\AllBare s'.gens) s₁:=by
 have rv:=qy hi
 have Q3:=hi.length
 -- from an abstract heap in SU nothing but Bn script may be tracked
 have core: ∀H:Hp,IL H->bN K H a (ns.map V.int)->jM P w H s₁.heap->(∀b,H b≠none->b=a)->(H a≠none->K.lookup a=none)->
   codeAny (model P w) callerA (.call (.ref fa) ⟨[.ref a],[]⟩) (fun r s'=>r= .ok (.ret (.bool true))/\OldK s₁.heap s'.heap/\s'.os=s₁.os/\AllBare s'.gens) s₁:=by
  intro H hO hS b5 hA hK
  have yB: ∀{b:Addr} {o:Obj},s₁.heap.get? b=some o->H b=none->(rG s₁.heap H).get? b=some o:=fun e n=>Bi e n
  have MY: ∀{b:Addr} {o:Obj} {es:Array DictEntry} {ep:Nat},s₁.heap.get? b=some o->o.data= .dict es ep->H b=none:=fun {b o es ep} e d=>by
   cases q:H b with
   | none=>rfl
   | some u=>
    have e':b=a:=hA b (by rw[q];simp)
    subst e'
    rw[ha]at e;cases e
    have d':Data.seq vs.toArray _=Data.dict es ep:=d
    cases d'
  have Pc: ∀{b:Addr} {m:Str->Option Value},s₁.heap.Ns b m->(rG s₁.heap H).Ns b m:=fun {b m} ⟨o,es,ep,e,d,r⟩=>⟨o,es,ep,yB e (MY e d),d,r⟩
  have SV:K.In (rG s₁.heap H):=fun b o e=>yB (KX b o e) (by
   cases q:H b with
   | none=>rfl
   | some u=>
    have e':b=a:=hA b (by rw[q];simp)
    subst e'
    rw[hK (by rw[q];simp)]at e;cases e)
  have hM:Mod K mg (rG s₁.heap H):=⟨SV,Pc Pb,⟨mb,Pc hb,Vg⟩,let ⟨mc,h1,h2⟩:=QZ;⟨mc,Pc h1,h2⟩⟩
  have e0:wD P w K mg (rG s₁.heap H) callerA [] s₁ H:=⟨rfl,hM,fun b o e=>EA e,Nat.le_of_eq (zL _ _),trivial,fun b hb=>absurd (show b∈([]:List Addr) from hb) (by simp),b5, .of_eq hg⟩
  refine codeAny_mono ((F _ SV (Pc Pb)).run callerA [] s₁ H ⟨[.ref a],[]⟩ [.ref a] [.ref a] _ _ hr e0 (Na s₁ (.ref a)) (.cons rfl .nil) (EL H hO hS)) fun r s' h=>?_
  cases r with
  | error e=>exact (Q0 H e s' h).elim
  | ok fl=>
   cases fl with
   | next=>exact False.elim h
   | brk=>exact False.elim h
   | cont=>exact False.elim h
   | ret u=>
    obtain ⟨v,H',os,bare,un,Q5,r',q⟩:=h
    have q':v= .bl true:=q
    subst q'
    obtain rfl:u=Value.bool true:=r'
    refine ⟨rfl,OldK.of_keep fun b o e=>?_,os,bare⟩
    cases q:H b with
    | none=>exact un.keep b o e q (by intro z;exact absurd (show b∈([]:List Addr) from z) (by simp)) (by simp)
    | some u=>
     rcases hO b with z | ⟨ob,xs,z⟩
     ·rw[q]at z;cases z
     ·have z2:=un.nI b ob _ z
      obtain ⟨e1,_⟩:=b5 b _ z
      obtain ⟨e2,_⟩:=Q5 b _ z2
      rw[e]at e1;cases e1
      exact e2
 cases hk:K.lookup a with
 | some o=>
  -- Bn script is one of Bn BB own objects
  have e:=KX a o hk
  rw[ha]at e
  cases e
  refine core (fun _=>none) (fun _=> .inl rfl) (.inr ⟨_,vs.toArray,_,hk,rfl,rfl,rfl,by rw[Vl,Q3];exact hl,by simpa using rv⟩) (fun b u z=>by have z':(none:Option HO)=some u:=z;cases z') (fun b z=>absurd rfl z) fun z=>absurd rfl z
 | none=>
  refine core (fun b=>if b=a then some (.Ed { cls:= .type "list",data:= .seq vs.toArray } (.lst (ns.map V.int))) else none) (fun b=>?_) (.inl (.inr ⟨{ cls:= .type "list",data:= .seq vs.toArray },if_pos rfl⟩)) (fun b u z=>?_) (fun b z=>?_) fun _=>hk
  ·by_cases hb:b=a
   ·exact .inr ⟨_,_,if_pos hb⟩
   ·exact .inl (if_neg hb)
  ·by_cases hb:b=a
   ·have z':=(if_pos hb).symm.trans z
    cases z'
    subst hb
    exact ⟨ha,by rw[Pd];exact hl,vs,_,rv,ha⟩
   ·have z':=(if_neg hb).symm.trans z
    cases z'
  ·by_cases hb:b=a
   ·exact hb
   ·exact absurd (if_neg hb) z
theorem yC {l:PySem.W.OpenLaw} {n k:Nat} {q:Program} {loose:List Str} {XP:(Str->Option Value)->Heap->Prop} {YP:World->Heap->Prop} {d:DefRec} {K:Params->PySem.W.Frag} {CX:World->zW} {sp:World->Sp} {x:Str}
  (hn:l.most=some n) (uv:n<=sizeLine) (M_:d.params.defaults=[]) (hr:eQ k callerA)
  (hY: ∀(w:World) (h:Heap),YP w h->(K w.params).In h)
  (F: ∀(w:World) (mg:Str->Option Value) (fa:Addr) (h:Heap),(K w.params).In h->h.Ns mainGlobals mg->mg d.name=some (.ref fa)->
   ∃fd:FuncData,(∀(s:Shared) (u:Value),BindsTo s fd ⟨[u],[]⟩ [(x,u)])/\
    ∀base:Heap,(K w.params).In base->base.Ns mainGlobals mg->bM l.prog w (K w.params) mg base (CX w) k fa fd [x] (sp w))
  (EL: ∀(w:World) (H:Hp) (a:Addr) (ns:List Int),ns.length<=n->IL H->bN (K w.params) H a (ns.map V.int)->sp w [.ref a] H (fun v _=>v= .bl true) fun _ _ _=>False)
  (Q0: ∀(w:World) (H:Hp) (s:Shared) (e:Value) (s':Shared),CX w [] H s (fun _ _ _=>False) e s'->False):
  PySem.W.WalkO q loose XP YP l.row.toRowW d [] (fun f vs=>PySem.call f vs):=by
 refine SR.ux hn M_ fun w s₀ s₁ mg mb fa o pm cd doc a vs ns G Y ho hd mO hmg IK hints hlen hg=>?_
 have KX:=hY w _ Y
 obtain ⟨fd,hb,hF⟩:=F w mg fa _ KX G.T.g hmg
 exact BE KX G.T.g G.T.b G.T.builtins G.T.nolimit hg IK hints (Yv hlen uv) hr hF hb (fun H hO hS=>EL w H a ns hlen hO hS) fun H e s'=>Q0 w H s₁ e s'
noncomputable def fN (s:Stmt):Arguments:=match s with
 | .FunctionDef _ a _ _ _ _ _ _ _ _=>a
 | _=>{ posonlyargs:=[],args:=[],vararg:=none,kwonlyargs:=[],kw_defaults:=[],kwarg:=none,defaults:=[] }
noncomputable def eZ (s:Stmt):List Stmt:=match s with
 | .FunctionDef _ _ b _ _ _ _ _ _ _=>b
 | _=>[]
noncomputable def au (s:Stmt):Scope:=match s with
 | .FunctionDef _ _ _ _ _ _ sc _ _ _=>sc
 | _=>{ kind:= .function,names:=[],isGenerator:=false,isCoroutine:=false }
abbrev fI:zW:=fun _ _ _ _ _ _=>False
abbrev E0:XK:=fun _ _ _=>False
theorem aB {X:Cx}:Passes fI X E0:=fun _ _ _ _ _ _ _ h=>h.elim
structure EX (K:PySem.W.Frag) (x qual:Str) (st:Stmt) (f:Addr) (fd:FuncData):Prop where
 ex: ∃(oc:Value) (od:Option Addr) (kV doc pm:Value) (an:Option Addr) (cR ct:Value) (Eg:Array (Option Value)),
  fd=PySem.W.fnOf x qual (fN st) (eZ st) (au st) .none kV doc pm an cR ct/\K.lookup f=some ⟨oc,od, .func fd,Eg⟩/\PySem.W.codeIn K cR qual=true
 kp:PySem.W.keepIn K (.ref f)=true
section
variable {P:Program} {w:World} {K:PySem.W.Frag} {mg:Str->Option Value} {base:Heap}
theorem EX.ok {x qual:Str} {st:Stmt} {f:Addr} {fd:FuncData} {N ps:List Str} {k:Nat} {sp:Sp} (F:EX K x qual st f fd) (S:aG N ps (au st)) (len: ∀vs H Q E,sp vs H Q E->vs.length=ps.length)
  (Bt: ∀(cR:Value) (A:Around) (outer:List Env) (s:Shared) (H:Hp) (vs:List V) (Q:VK) (E:XK),eQ k (A.deeper (envOfC qual (au st) s.heap.objs.size f cR))->sp vs H Q E->
   ∃t,we (zX fI P w K mg base N qual (au st) f cR A outer s H E).O2 (eZ st) t/\t { nx:=fun _ H'=>Q .fH H',rt:=Q } (start N vs) H):bM P w K mg base fI (k+1) f fd ps sp:=by
 obtain ⟨oc,od,kV,doc,pm,an,cR,ct,Eg,rfl,lk,mO⟩:=F.ex
 refine MZ lk mO S len fun A outer s H vs Q E hr EL=>?_
 obtain ⟨t,h,q⟩:=Bt cR A outer s H vs Q E hr EL
 exact ⟨t,h.O2,q⟩
theorem EX.binds {x qual:Str} {st:Stmt} {f:Addr} {fd:FuncData} {ps:List Str} (F:EX K x qual st f fd)
  (h: ∀(kV doc pm:Value) (an:Option Addr) (cR ct:Value) (us:List Value),us.length=ps.length->bindArgs (PySem.W.fnOf x qual (fN st) (eZ st) (au st) .none kV doc pm an cR ct) ⟨us,[]⟩=pure (ps.zip us)):Binds K fd ps []:=by
 obtain ⟨oc,od,kV,doc,pm,an,cR,ct,Eg,rfl,lk,mO⟩:=F.ex
 exact .all (h kV doc pm an cR ct)
theorem wQ {x qual:Str} {st:Stmt} {f:Addr} {oc:Value} {od an:Option Addr} {Eg:Array (Option Value)} {kV doc pm cR ct:Value} (l:K.lookup f=some ⟨oc,od, .func (PySem.W.fnOf x qual (fN st) (eZ st) (au st) .none kV doc pm an cR ct),Eg⟩)
  (c:PySem.W.codeIn K cR qual=true) (k:PySem.W.keepIn K (.ref f)=true):EX K x qual st f (PySem.W.fnOf x qual (fN st) (eZ st) (au st) .none kV doc pm an cR ct):=⟨⟨oc,od,kV,doc,pm,an,cR,ct,Eg,rfl,l,c⟩,k⟩
end
theorem nR {A:Around} {k:Nat} (hr:eQ k A):A.units+1<cLine:=Yx (Nat.add_le_add_left (by decide:1<=64) _) hr.units
section
variable {X:Cx}
theorem pv (i:Nat) {x:Str} {pos:Pos} (hN:X.N[i]? =some x:=by rfl) (hv:Ms X.env.scope x:=by first | exact Or.inl rfl | exact Or.inr (Or.inl rfl) | exact Or.inr (Or.inr rfl)) (hd:(x==("__debug__":Str))=false:=by decide)
  (mO:(x==("__classdict__":Str))=false:=by decide):PE X (.Name x pos) (Ib i):=Ic hN hv hd mO
end
theorem z9 {A B:Prop} (h:B):if false=true then A else B:=by
 rw[if_neg Yj]
 exact h
theorem Nb {A B:Prop} (h:A):if true=true then A else B:=by
 rw[if_pos rfl]
 exact h
theorem cn {c A B:Prop} [Decidable c] (h1:c->A) (h2: ¬c->B):if c then A else B:=by
 by_cases h:c
 ·rw[if_pos h]
  exact h1 h
 ·rw[if_neg h]
  exact h2 h
def aq (H H':Hp):Prop:= ∀b o,H b=some o->H' b=some o
theorem aq.refl (H:Hp):aq H H:=fun _ _ h=>h
theorem aq.trans {H H1 H2:Hp} (a:aq H H1) (b:aq H1 H2):aq H H2:=fun c o h=>b c o (a c o h)
theorem aq.free {H H':Hp} (e:aq H H') {l:Addr} (h:H' l=Option.none):H l=Option.none:=by
 cases q:H l with
 | none=>rfl
 | some o=>
  rw[e l o q]at h
  cases h
theorem aq.seq {K:PySem.W.Frag} {H H':Hp} {a:Addr} {xs:List V} (e:aq H H') (h:bN K H a xs):bN K H' a xs:=by
 rcases h with (h | ⟨o,h⟩) | h
 ·exact .inl (.inl (e _ _ h))
 ·exact .inl (.inr ⟨o,e _ _ h⟩)
 ·exact .inr h
noncomputable def iF (env:Env):List (Str×NameKind)->List (Str×Addr)->List (Str×Addr)
 | [],acc=>acc
 |(n,k)::r,acc=>iF env r (if k== .free then (match env.cells.lookup n with | some a=>(n,a)::acc | none=>acc) else acc)
theorem fD {env:Env}: ∀(names:List (Str×NameKind)) (acc:List (Str×Addr)),(∀y∈names,y.2= .free-> ∃c,env.cells.lookup y.1=some c)->
  (forIn names acc fun (x:Str×NameKind) (cs:List (Str×Addr))=>(if (x.2==NameKind.free)=true then do let a <-cellOf env x.1;pure (ForInStep.yield ((x.1,a)::cs)) else pure (ForInStep.yield cs):Sem (ForInStep (List (Str×Addr)))))=pure (iF env names acc)
 | [],acc,_=>rfl
 |(n,k)::r,acc,h=>by
  rw[Z4]
  have hr: ∀y∈r,y.2= .free-> ∃c,env.cells.lookup y.1=some c:=fun y hy=>h y (SX _ hy)
  cases hk:(k==NameKind.free) with
  | false=>
   have e1:iF env ((n,k)::r) acc=iF env r acc:=by
    show iF env r (if (k==NameKind.free)=true then (match env.cells.lookup n with | some a=>(n,a)::acc | none=>acc) else acc)=_
    rw[hk,if_neg Yj]
   rw[e1, <-fD r acc hr]
   simp only[hk,Zz,if_false,pure_bind]
  | true=>
   obtain ⟨c,hc⟩:=h (n,k) Vj (by simpa using hk)
   have e1:iF env ((n,k)::r) acc=iF env r ((n,c)::acc):=by
    have lE:env.cells.lookup n=some c:=hc
    show iF env r (if (k==NameKind.free)=true then (match env.cells.lookup n with | some a=>(n,a)::acc | none=>acc) else acc)=_
    rw[hk,lE,if_pos rfl]
   have e2:cellOf env n=pure c:=by
    have lE:env.cells.lookup n=some c:=hc
    unfold cellOf
    rw[lE]
   rw[e1, <-fD r ((n,c)::acc) hr]
   simp only[hk,if_true,e2,pure_bind]
theorem jz {scope:Scope} {env:Env} (h: ∀y∈scope.names,y.2= .free-> ∃c,env.cells.lookup y.1=some c):closureFor scope env=pure (iF env scope.names []):=by
 have e:=fD scope.names [] h
 simp only[closureFor]
 rw[e]
 rfl
theorem lJ {env:Env} {x:Str} {c:Addr}: ∀(names:List (Str×NameKind)) (acc:List (Str×Addr)),(∀y d,acc.lookup y=some d->env.cells.lookup y=some d)->(iF env names acc).lookup x=some c->env.cells.lookup x=some c
 | [],acc,ha,h=>ha x c h
 |(n,k)::r,acc,ha,h=>by
  refine lJ r _ (fun y d q=>?_) h
  by_cases hk:(k==NameKind.free)=true
  ·rw[if_pos hk]at q
   cases e:env.cells.lookup n with
   | none=>rw[e]at q;exact ha y d q
   | some a=>
    rw[e]at q
    have q':List.lookup y ((n,a)::acc)=some d:=q
    rw[YG]at q'
    cases hy:(y==n) with
    | true=>
     rw[hy]at q'
     have:y=n:=by simpa using hy
     subst this
     rw[e];exact q'
    | false=>rw[hy]at q';exact ha y d q'
  ·rw[if_neg hk]at q;exact ha y d q
theorem uy {env:Env} {x:Str}: ∀(names:List (Str×NameKind)) (acc:List (Str×Addr)),(∃c,acc.lookup x=some c)-> ∃c,(iF env names acc).lookup x=some c
 | [],acc,h=>h
 |(n,k)::r,acc,⟨c,hc⟩=>by
  refine uy r _ ?_
  by_cases hk:(k==NameKind.free)=true
  ·rw[if_pos hk]
   cases e:env.cells.lookup n with
   | none=>exact ⟨c,hc⟩
   | some a=>
    show ∃c,List.lookup x ((n,a)::acc)=some c
    rw[YG]
    cases hy:(x==n) with
    | true=>exact ⟨a,rfl⟩
    | false=>exact ⟨c,hc⟩
  ·rw[if_neg hk];exact ⟨c,hc⟩
theorem nS {env:Env} {x:Str}: ∀(names:List (Str×NameKind)) (acc:List (Str×Addr)),(∀y∈names,y.2= .free-> ∃c,env.cells.lookup y.1=some c)->names.lookup x=some .free-> ∃c,(iF env names acc).lookup x=some c
 | [],acc,_,h=>by simp at h
 |(n,k)::r,acc,hf,h=>by
  have hr: ∀y∈r,y.2= .free-> ∃c,env.cells.lookup y.1=some c:=fun y hy=>hf y (SX _ hy)
  rw[YG]at h
  cases hy:(x==n) with
  | true=>
   rw[hy]at h
   have hk:k= .free:=Yg h
   subst hk
   have hx:x=n:=by simpa using hy
   subst hx
   obtain ⟨c,hc⟩:=hf (x, .free) Vj rfl
   have lE:env.cells.lookup x=some c:=hc
   refine uy r _ ⟨c,?_⟩
   rw[if_pos (show (NameKind.free==NameKind.free)=true by decide),lE]
   show List.lookup x ((x,c)::acc)=some c
   rw[YG]
   simp
  | false=>
   rw[hy]at h
   exact nS r _ hr h
theorem kj {env:Env}: ∀{names:List (Str×NameKind)} {x:Str},names.lookup x=some .free->
  ((names.map fun (n,k)=>if (k==NameKind.free&&env.scope.kind== .function&&env.kindOf n==some .cell) then (n,NameKind.cell) else (n,k)).lookup x=some .cell\/
   (names.map fun (n,k)=>if (k==NameKind.free&&env.scope.kind== .function&&env.kindOf n==some .cell) then (n,NameKind.cell) else (n,k)).lookup x=some .free)
 | [],_,h=>by simp at h
 |(n,k)::r,x,h=>by
  have ih:= @kj env r x
  show (List.lookup x ((if (k==NameKind.free&&env.scope.kind== .function&&env.kindOf n==some .cell)=true then (n,NameKind.cell) else (n,k))::_)=_\/List.lookup x ((if (k==NameKind.free&&env.scope.kind== .function&&env.kindOf n==some .cell)=true then (n,NameKind.cell) else (n,k))::_)=_)
  cases hx:x==n with
  | true=>
   simp only[YG,hx]at h
   cases h
   by_cases hc:((NameKind.free==NameKind.free)&&env.scope.kind== .function&&env.kindOf n==some .cell)=true
   ·rw[if_pos hc];simp[YG,hx]
   ·rw[if_neg hc];simp[YG,hx]
  | false=>
   simp only[YG,hx]at h
   by_cases hc:(k==NameKind.free&&env.scope.kind== .function&&env.kindOf n==some .cell)=true
   ·rw[if_pos hc];simp only[YG,hx];exact ih h
   ·rw[if_neg hc];simp only[YG,hx];exact ih h
theorem km {env:Env}: ∀{names:List (Str×NameKind)} {x:Str},(∀y∈names,y.2≠ .cell)->
  ((names.map fun (n,k)=>if (k==NameKind.free&&env.scope.kind== .function&&env.kindOf n==some .cell) then (n,NameKind.cell) else (n,k)).lookup x=some .cell\/
   (names.map fun (n,k)=>if (k==NameKind.free&&env.scope.kind== .function&&env.kindOf n==some .cell) then (n,NameKind.cell) else (n,k)).lookup x=some .free)->names.lookup x=some .free
 | [],_,_,h=>by simp at h
 |(n,k)::r,x,hn,h=>by
  have ih:= @km env r x (fun y hy=>hn y (SX _ hy))
  have hk:=hn (n,k) Vj
  have h':(List.lookup x ((if (k==NameKind.free&&env.scope.kind== .function&&env.kindOf n==some .cell)=true then (n,NameKind.cell) else (n,k))::(r.map fun (n,k)=>if (k==NameKind.free&&env.scope.kind== .function&&env.kindOf n==some .cell) then (n,NameKind.cell) else (n,k)))=some .cell\/List.lookup x ((if (k==NameKind.free&&env.scope.kind== .function&&env.kindOf n==some .cell)=true then (n,NameKind.cell) else (n,k))::(r.map fun (n,k)=>if (k==NameKind.free&&env.scope.kind== .function&&env.kindOf n==some .cell) then (n,NameKind.cell) else (n,k)))=some .free):=h
  cases hx:x==n with
  | true=>
   rw[YG,hx]
   by_cases hc:(k==NameKind.free&&env.scope.kind== .function&&env.kindOf n==some .cell)=true
   ·have:(k==NameKind.free)=true:=by
     rw[YH,YH]at hc;exact hc.1.1
    have A_:k= .free:=by simpa using this
    rw[A_]
   ·rw[if_neg hc]at h'
    simp only[YG,hx]at h'
    rcases h' with h' | h'
    ·exact absurd (Yg h') hk
    ·exact h'
  | false=>
   rw[YG,hx]
   by_cases hc:(k==NameKind.free&&env.scope.kind== .function&&env.kindOf n==some .cell)=true
   ·rw[if_pos hc]at h';simp only[YG,hx]at h';exact ih h'
   ·rw[if_neg hc]at h';simp only[YG,hx]at h';exact ih h'
abbrev Ej:Value->Shared->Prop:=fun _ _=>False
theorem rW {prog:Program} {w:World} {A:Around} {R:Result->Shared->Prop} {s:Shared} {elt target iter:Expr} {ifs:List Expr} {scope:Scope} {pos:Pos} {it acc:Value} {env:Env} (I:Nat->Shared->Prop)
  (turn: ∀n s,I n s->wpAny (model prog w) A (pyNext it) (fun r s₁=>match r with
   | none=>R (.ok .next) s₁
   | some v=>wpAny (model prog w) A (letOwnedTupleGo target it v) (fun _ S4=>wpAny (model prog w) A (assign target env v) (fun _ s₂=>
     wpAny (model prog w) A (forIn ifs true fun c r=>if r=true then do let ok <-isTrue c env (eval c env);pure (ForInStep.yield ok) else pure (ForInStep.yield r)) (fun ok s₃=>
      if ok=true then wpAny (model prog w) A (eval elt env) (fun x s₄=>
       wpAny (model prog w) A (call (.builtin "list.append") [acc,x]) (fun _ s₅=> ∃m,m<n/\I m s₅) Ej s₄) Ej s₃
      else ∃m,m<n/\I m s₃) Ej s₂) Ej S4) Ej s₁) Ej s)
  (n:Nat) (h:I n s):codeAny (model prog w) A (.compLoop (.ListComp elt [⟨target,iter,ifs,0⟩] scope pos) 0 it acc env) R s:=by
 refine codeAny_loop rfl I (fun n s hI=>?_) n h
 show wpAny _ A ((compTurn (.ListComp elt [⟨target,iter,ifs,0⟩] scope pos) 0 it acc env).onRaise (fun x=>do noteFrame x env;theTreesLotGoes x)) _ _ s
 refine wpAny_noted ?_
 rw[compTurn_list]
 have no: ∀{F:Value->Shared->Prop} (e:Value) (s':Shared),Ej e s'->F e s':=fun _ _ h=>h.elim
 refine wpAny_bind (wpAny_standAt (wpAny_bind (wpAny_mono (turn n s hI) (fun r s₁ h₁=>?_) no)))
 cases r with
 | none=>exact wpAny_pure h₁
 | some v=>
  refine wpAny_bind (wpAny_mono h₁ (fun _ S4 Vm=>?_) no)
  refine wpAny_bind (wpAny_mono Vm (fun _ s₂ h₂=>wpAny_bind (wpAny_mono h₂ (fun ok s₃ h₃=>?_) no)) no)
  cases ok with
  | false=>exact wpAny_pure ⟨rfl,h₃⟩
  | true=>
   exact wpAny_bind (wpAny_bind (wpAny_mono h₃ (fun x s₄ h₄=>wpAny_bind (wpAny_mono h₄ (fun _ s₅ h₅=>wpAny_pure (wpAny_pure ⟨rfl,h₅⟩)) no)) no))
noncomputable def bT (X:Cx) (scope:Scope) (C:Addr) (Nc:List Str) (s:Shared) (H:Hp) (fp:List Addr):Cx where
 prog:=X.prog
 w:=X.w
 K:=X.K
 mg:=X.mg
 base:=X.base
 A:=X.A
 N:=Nc
 s₀:=s
 H₀:=H
 env:=compEnvC scope (iF X.env scope.names []) C X.env
 outer:=X.stack
 stack:=X.stack
 ex:=fp
 fn:=fun _=>false
 calm:=X.calm
 pn:=[]
 xe:=Ej
def jv (X:Cx) (scope:Scope):List Str->List (Option Nat)->Prop
 | [],[]=>True
 | _::ys,none::os=>jv X scope ys os
 | y::ys,some j::os=>(X.N[j]? =some y/\scope.names.lookup y=some .free/\(X.env.kindOf y=some .cell\/X.env.kindOf y=some .free))/\jv X scope ys os
 | _,_=>False
noncomputable def ko (σ:St) (ix:List (Option Nat)):St:=ix.map fun o=>match o with | none=>none | some j=>(σ[j]?).getD none
def Wk:St->St->Prop
 | [],[]=>True
 | none::a,_::b=>Wk a b
 | some v::a,w::b=>w=some v/\Wk a b
 | _,_=>False
theorem Wk.len: ∀{a b:St},Wk a b->a.length=b.length
 | [],[],_=>rfl
 | none::a,_::b,h=>congrArg (· +1) (Wk.len (a:=a) (b:=b) h)
 | some _::a,_::b,h=>congrArg (· +1) (Wk.len (a:=a) (b:=b) h.2)
theorem Wk.get: ∀{a b:St} {i:Nat} {v:V},Wk a b->a[i]? =some (some v)->b[i]? =some (some v)
 | [],[],i,v,_,h=>by simp at h
 | none::a,x::b,0,v,_,h=>by simp at h
 | none::a,x::b,i+1,v,k,h=>by
  have:=Wk.get (a:=a) (b:=b) (i:=i) (v:=v) k (by simpa using h)
  simpa using this
 | some y::a,x::b,0,v,k,h=>by
  have e:y=v:=by simpa using h
  subst e
  simp[k.1]
 | some y::a,x::b,i+1,v,k,h=>by
  have:=Wk.get (a:=a) (b:=b) (i:=i) (v:=v) k.2 (by simpa using h)
  simpa using this
theorem jv.len {X:Cx} {scope:Scope}: ∀{N:List Str} {ix:List (Option Nat)},jv X scope N ix->ix.length=N.length
 | [],[],_=>rfl
 | _::ys,none::os,h=>congrArg (· +1) (jv.len (N:=ys) (ix:=os) h)
 | _::ys,some _::os,h=>congrArg (· +1) (jv.len (N:=ys) (ix:=os) h.2)
theorem jv.get {X:Cx} {scope:Scope}: ∀{N:List Str} {ix:List (Option Nat)} {i j:Nat},jv X scope N ix->ix[i]? =some (some j)-> ∃y,N[i]? =some y/\X.N[j]? =some y/\scope.names.lookup y=some .free/\(X.env.kindOf y=some .cell\/X.env.kindOf y=some .free)
 | [],[],i,j,_,h=>by simp at h
 | y::ys,none::os,0,j,_,h=>by simp at h
 | y::ys,none::os,i+1,j,k,h=>by
  obtain ⟨z,h1,h2⟩:=jv.get (N:=ys) (ix:=os) (i:=i) (j:=j) k (by simpa using h)
  exact ⟨z,by simpa using h1,h2⟩
 | y::ys,some j'::os,0,j,k,h=>by
  have e:j'=j:=by simpa using h
  subst e
  exact ⟨y,by simp,k.1⟩
 | y::ys,some j'::os,i+1,j,k,h=>by
  obtain ⟨z,h1,h2⟩:=jv.get (N:=ys) (ix:=os) (i:=i) (j:=j) k.2 (by simpa using h)
  exact ⟨z,by simpa using h1,h2⟩
theorem z_ {σ:St} {ix:List (Option Nat)} {i:Nat} {v:V} (h:(ko σ ix)[i]? =some (some v)): ∃j,ix[i]? =some (some j)/\σ[j]? =some (some v):=by
 unfold ko at h
 rw[Yb]at h
 cases e:ix[i]? with
 | none=>rw[e]at h;cases h
 | some o=>
  rw[e]at h
  cases o with
  | none=>cases h
  | some j=>
   refine ⟨j,rfl,?_⟩
   have h':some ((σ[j]?).getD none)=some (some v):=h
   cases q:σ[j]? with
   | none=>rw[q]at h';cases h'
   | some z=>rw[q]at h';cases h';rfl
theorem wR {X:Cx} {pins:List (Addr×Obj)} {σ:St} {H:Hp} {s:Shared} (I:Inv X pins σ H s) {scope:Scope} {Nc:List Str} {ix:List (Option Nat)} (wU:jv X scope Nc ix) (gL: ∀y∈scope.names,y.2≠ .cell)
  (ir:scope.kind= .function) (EY: ∀y∈scope.names,y.2= .free->X.env.kindOf y.1=some .cell\/X.env.kindOf y.1=some .free) {fp:List Addr} (hf: ∀b∈fp,mP X pins H b) (Nd: ∀b∈fp, ∃o,s.heap.get? b=some o)
  {C:Addr} {h':Heap} {t':Nat} {m0:Str->Option Value} (hC:s.heap.objs.size<=C) (Pb:h'.Ns C m0) (k: ∀b o,s.heap.get? b=some o->h'.get? b=some o):
  Inv (bT X scope C Nc s H fp) [] (ko σ ix) H { s with heap:=h',toks:=t' }:=by
 have KY: ∀y∈scope.names,y.2= .free-> ∃c,X.env.cells.lookup y.1=some c:=fun y hy e=>I.ok.has y.1 (EY y hy e)
 have ku: ∀{x:Str} {c:Addr},(iF X.env scope.names []).lookup x=some c->X.env.cells.lookup x=some c:=fun {x c} e=>lJ scope.names [] (fun y d q=>by simp at q) e
 refine ⟨⟨I.ok.mod,ir,I.ok.glob,I.ok.blt,hC,fun x y c h1 h2=>I.ok.inj x y c (ku h1) (ku h2),fun x hx=>?_,fun x c h=>?_,I.ok.hd,I.ok.frames, .inl rfl,fun b hb=>?_,I.bs,Yv I.ok.EB I.sz,fun b o e hb=>?_,fun b hb hs=>?_,I.stack,I.yl⟩,
  rfl,I.bare,Un.kept k,⟨m0,Pb,fun i x v h1 h2 h3=>?_⟩,fun x c e=>?_,I.b5.fresh hC,fun x c e=>I.iJ x c (ku e),fun p hp=>absurd (show p∈([]:List (Addr×Obj)) from hp) (by simp),I.b5.kept k,?_⟩
 ·have GX:scope.names.lookup x=some .free:=km gL hx
  exact nS scope.names [] KY GX
 ·exact absurd (show false=true from h) (by decide)
 ·refine ⟨?_,fun x c e=>(hf b hb).2.2.2.2.1 x c (ku e)⟩
  obtain ⟨o,ho⟩:=Nd b hb
  exact Yk (Yr (Yh ho) hC)
 ·rcases (hf b hb).2.2.2.1 with z | z
  ·exact I.ok.Bj b o e z
  ·exact absurd (Yr (Yh e) (Yv I.ok.EB z)) (YK _)
 ·rcases Vi.mp (I.nJ b hs) with z | z
  ·exact (hf b hb).2.1 z
  ·exact (hf b hb).2.2.1 z
 ·obtain ⟨j,e1,e2⟩:=z_ h2
  obtain ⟨y,y1,y2,y3,y4⟩:=wU.get e1
  have S5:Nc[i]? =some x:=h1
  rw[y1]at S5
  cases S5
  obtain ⟨m,hn,hl⟩:=I.loc
  have hv:Ms X.env.scope x:=by
   rcases y4 with z | z
   ·exact .inr (.inl z)
   ·exact .inr (.inr z)
  obtain ⟨u,r,l⟩:=hl j x v y2 e2 hv
  refine ⟨u,r, .inr ⟨kj y3,?_⟩⟩
  rcases l with ⟨l,_⟩ | ⟨_,c,hc,q⟩
  ·rcases y4 with z | z
   ·rw[z]at l;cases l
   ·rw[z]at l;cases l
  ·obtain ⟨c',lE⟩:=nS scope.names [] KY y3
   have e:=ku lE
   rw[hc]at e
   cases e
   obtain ⟨o,ho,hd⟩:=q
   exact ⟨c,lE,o,k _ _ ho,hd⟩
 ·obtain ⟨v,o,ho,hd⟩:=I.cell x c (ku e)
  exact ⟨v,o,k _ _ ho,hd⟩
 ·show (ko σ ix).length=Nc.length
  unfold ko
  rw[Pd]
  exact wU.len
theorem Aa {X:Cx} {pins yn:List (Addr×Obj)} {σ σ':St} {H H':Hp} {s s':Shared} (I:Inv X pins σ H s) {scope:Scope} {Nc:List Str} {fp:List Addr} {C D:Addr} (J:Inv (bT X scope C Nc s H fp) yn σ' H' s')
  (hf: ∀b∈fp,mP X pins H b) (hD:s.heap.objs.size<=D) (hC:s.heap.objs.size<=C) (IS:D≠C) {aJ:List Value} {n:Nat} {acc:List V} (eD:s'.heap.get? D=some { cls:= .type "list",data:= .seq aJ.toArray n }) (r:Vals acc aJ)
  (hz:acc.length<=sizeLine) (nD:H' D=none) {oC:Obj} (eC:s'.heap.get? C=some oC) (dC: ∀v,oC.data≠ .cell v):Inv X (pins++[(C,oC)]) σ (upd H' D (.lst acc)) s':=by
 have lt: ∀b o,s.heap.get? b=some o->b≠D:=fun b o e=>Yk (Yr (Yh e) hD)
 have U:Un (yk X.stack) fp H H' s.heap s'.heap:=J.base
 have U':Un (yk X.stack) fp H (upd H' D (.lst acc)) s.heap s'.heap:=
  ⟨U.keep,U.slot,fun b o e n hx=>by rw[aC (lt b o e)];exact U.free b o e n hx,U.there,fun b xs e=>by rw[aC (aA (U.pJ b xs e) nD)];exact U.pJ b xs e,
   fun b o u e=>by rw[aC (aA (U.nI b o u e) nD)];exact U.nI b o u e,fun b ps e=>by
    obtain ⟨more,q⟩:=U.rF b ps e
    exact ⟨more,by rw[aC (aA q nD)];exact q⟩⟩
 have b5:jM X.prog X.w (upd H' D (.lst acc)) s'.heap:=fun b u e=>by
  by_cases hb:b=D
  ·subst hb
   rw[ah]at e;cases e
   exact ⟨hz,aJ,n,r,eD⟩
  ·rw[aC hb]at e
   exact (J.b5 b u e).uk (fun c v _ q=>q) (fun c q=>by rw[aC (aA q nD)];exact q) fun c xs q=>by rw[aC (aA q nD)];exact q
 have I':Inv X pins σ (upd H' D (.lst acc)) s':=I.Mx (ch:=fp) J.os U' b5 J.bare fun b hb=>by
  obtain ⟨_,h1,_,h2,h3,h4⟩:=hf b hb
  exact ⟨h2,h1,h3,h4⟩
 refine I'.j9 fun p hp=>?_
 rcases Yi.mp hp with z | z
 ·exact I'.pin p (Yq _ z)
 ·have e:p=(C,oC):=Vk.mp z
  subst e
  refine ⟨eC,?_,Qav (Yr I.lt hC),I.HZ hC,dC⟩
  rw[aC (Ne.symm IS)]
  exact J.free
def PF (Y:Cx) (ifs:List Expr) (tc:TT):Prop:=
 ∀(pins:List (Addr×Obj)) (s:Shared) (σ:St) (H:Hp) (Q:Bool->Hp->Prop),Inv Y pins σ H s->tc σ H Q->
  wpAny (model Y.prog Y.w) Y.A (forIn ifs true fun c r=>if r=true then do let ok <-isTrue c Y.env (eval c Y.env);pure (ForInStep.yield ok) else pure (ForInStep.yield r)) (TP Y pins σ Q) Y.xe s
def Nf:TT:=fun _ H Q=>Q true H
theorem eR {Y:Cx}:PF Y [] Nf:=fun _ _ _ H _ I h=>wpAny_tests_nil ⟨H,I,h⟩
theorem IT {Y:Cx} {c:Expr} {tc:TT} (h:PT Y c tc):PF Y [c] tc:=fun pins s σ H Q I hw=>wpAny_tests_one (h pins s σ H Q I hw)
def qz (J:It) (σc:St) (g:TG) (tc:TT) (te:TE) (Q:VK) (H1:Hp):Prop:=
 ∃W:Nat->Nat->List V->Hp->Prop,(∃m,W 0 m [] H1)/\ ∀i m acc H,W i m acc H->acc.length<sizeLine/\
 ((J.stop i H/\ ∀D,H D=none->Q (.ref D) (upd H D (.lst acc)))\/
  (J.go i H/\ ∀x H',J.A8 i H x H'->g x σc H' fun σ2 H2=>Wk σc σ2/\tc σ2 H2 fun b H3=>if b=true then te σ2 H3 fun v H4=> ∃m',m'<m/\W (i+1) m' (acc++[v]) H4 else ∃m',m'<m/\W (i+1) m' acc H3))
def uA (wi:TI) (ix:List (Option Nat)) (g:TG) (tc:TT) (te:TE):TE:=fun σ H Q=>wi σ H fun J H1=>qz J (ko σ ix) g tc te Q H1
theorem qA {X:Cx} {tg iter elt:Expr} {ifs:List Expr} {scope:Scope} {pos:Pos} {wi:TI} {g:TG} {tc:TT} {te:TE} {Nc:List Str} {ix:List (Option Nat)} (hi:PI X tg iter wi) (jA:X.calm=true) (wU:jv X scope Nc ix)
  (gL: ∀y∈scope.names,y.2≠ .cell) (ir:scope.kind= .function) (EY: ∀y∈scope.names,y.2= .free->X.env.kindOf y.1=some .cell\/X.env.kindOf y.1=some .free)
  (hG: ∀C s H fp,PG (bT X scope C Nc s H fp) tg g) (hT: ∀C s H fp,PF (bT X scope C Nc s H fp) ifs tc) (hE: ∀C s H fp,PE (bT X scope C Nc s H fp) elt te)
  {pins:List (Addr×Obj)} {s:Shared} {σ:St} {H:Hp} {Q:VK} (I:Inv X pins σ H s) (h:uA wi ix g tc te σ H Q) {RR:Value->Addr->Result->Shared->Prop}
  (Vn: ∀(D C:Addr) (oC:Obj) (m:Str->Option Value) (H':Hp) (s':Shared),s'.heap.get? C=some oC->s'.heap.Ns C m->mP X pins H' C->Inv X (pins++[(C,oC)]) σ H' s'->Q (.ref D) H'->RR (.ref D) C (.ok .next) s'):
  wpAny (model X.prog X.w) X.A (eval iter X.env) (fun v s1=>wpAny (model X.prog X.w) X.A (pyIter v) (fun it s2=>wpAny (model X.prog X.w) X.A (newList []) (fun acc s3=>
   wpAny (model X.prog X.w) X.A (newFunctionEnv scope X.env.globals (iF X.env scope.names []) [] X.env.qual none .none (some X.env)) (fun Ng s4=>
    codeAny (model X.prog X.w) X.A (.compStart (.ListComp elt [⟨tg,iter,ifs,0⟩] scope pos) 0 it acc { Ng with scope:=relabel scope X.env }) (RR acc Ng.locals) s4) X.xe s3) X.xe s2) X.xe s1) X.xe s:=by
 refine cx (hi pins s σ H _ I h) fun v s1 h1=>cx h1 fun QG s2 h2=>?_
 obtain ⟨it,fp,tn,J,H2,e,I2,T,vU,f2,W,⟨m0,w0⟩,turn⟩:=h2
 subst e
 refine wpAny_newObj_type (wpAny_newFunctionEnv gL (by intro y hy;simp at hy) (fun h₁ IU EZ=>?_) ir)
 dsimp only at IU EZ ⊢
 generalize G6:s2.heap.push { cls:= .type "list",dict:=none,data:= .seq ([]:List Value).toArray }=P2 at IU EZ ⊢
 have hC:P2.objs.size=s2.heap.objs.size+1:=by rw[<-G6,Z2]
 have IS:s2.heap.objs.size≠P2.objs.size:=by rw[hC];exact Yk (Zs _)
 have IV:s2.heap.objs.size<=P2.objs.size:=by rw[hC];exact Zu _
 have Ia: ∀b,b<s2.heap.objs.size->b≠P2.objs.size:=fun b hb=>by rw[hC];exact Yk (ZH hb)
 have old: ∀b o,s2.heap.get? b=some o->h₁.get? b=some o:=fun b o e=>EZ.extBut b o (Ia b (Yh e)) (S0 _ (G6▸S0 _ e))
 have iG:h₁.get? s2.heap.objs.size=some { cls:= .type "list",data:= .seq ([]:List Value).toArray }:=EZ.extBut _ _ IS (S0 _ (G6▸Yf _ rfl))
 have S6:tn 0 h₁:=T.keep 0 _ _ vU fun b _ o e=>old b o e
 have Nd: ∀b∈fp, ∃o,s2.heap.get? b=some o:=fun b hb=>let ⟨o,e,_⟩:=T.obj 0 _ vU b hb;⟨o,e⟩
 have S7: ∀b∈fp,s2.heap.objs.size≠b:=fun b hb=>let ⟨o,e⟩:=Nd b hb;Qav (Yh e)
 have IY:=wR I2 wU gL ir EY f2 Nd (t':=s2.toks+([]:List (Str×Value)).length) IV IU old
 have Q6: ∀b,s2.heap.objs.size<=b->b∉yk X.stack:=fun b hb hs=>by
  rcases Vi.mp (I2.nJ b hs) with z | z
  ·exact absurd (Yr I2.lt hb) (by rw[z];exact YK _)
  ·exact I2.HZ hb z
 have ku: ∀{x:Str} {c:Addr},(iF X.env scope.names []).lookup x=some c->X.env.cells.lookup x=some c:=fun {x c} e=>lJ scope.names [] (fun y d q=>by simp at q) e
 have Nh: ∀x c,(iF X.env scope.names []).lookup x=some c->c≠s2.heap.objs.size:=fun x c e z=>by
  obtain ⟨v,q⟩:=I2.cell x c (ku e)
  exact absurd (q.lt) (by rw[z];exact YK _)
 have fY: ∀{pl:List (Addr×Obj)} {H':Hp},(∀p∈pl,p.1=s2.heap.objs.size)->(∀b∈fp,H' b=none)-> ∀b∈fp,mP (bT X scope P2.objs.size Nc s2 H2 fp) pl H' b:=fun {pl H'} j8 hn b hb=>by
  refine ⟨hn b hb,?_,?_, .inl hb,fun x c e=>(f2 b hb).2.2.2.2.1 x c (ku e),fun p hp=>?_⟩
  ·obtain ⟨o,e⟩:=Nd b hb
   exact Ia b (Yh e)
  ·intro hs
   rcases Vi.mp (I2.nJ b hs) with z | z
   ·exact (f2 b hb).2.1 z
   ·exact (f2 b hb).2.2.1 z
  ·rw[j8 p hp]
   exact S7 b hb
 have loop: ∀s₃:Shared,s₃={ s2 with heap:=h₁,toks:=s2.toks+([]:List (Str×Value)).length }->
   codeAny (model X.prog X.w) X.A (.compLoop (.ListComp elt [⟨tg,iter,ifs,0⟩] scope pos) 0 (.ref it) (.ref s2.heap.objs.size) (compEnvC scope (iF X.env scope.names []) P2.objs.size X.env)) (RR (.ref s2.heap.objs.size) P2.objs.size) s₃:=by
  rintro s₃ rfl
  refine rW (fun n s'=> ∃i acc aJ nn H',Inv (bT X scope P2.objs.size Nc s2 H2 fp) [] (ko σ ix) H' s'/\tn i s'.heap/\(∀b∈fp,H' b=none)/\
   s'.heap.get? s2.heap.objs.size=some { cls:= .type "list",data:= .seq (aJ:List Value).toArray nn }/\Vals acc aJ/\H' s2.heap.objs.size=none/\W i n acc H') ?_ m0
   ⟨0,[],[],0,H2,IY,S6,fun b hb=>(f2 b hb).1,iG, .nil,I2.b5.fresh (SY _),w0⟩
  rintro n s3 ⟨i,acc,aJ,nn,H3,I3,ML,MM,eD,rv,nD,w3⟩
  obtain ⟨hz,alt⟩:=turn i n acc H3 w3
  have IP:Inv (bT X scope P2.objs.size Nc s2 H2 fp) [(s2.heap.objs.size,{ cls:= .type "list",data:= .seq aJ.toArray nn })] (ko σ ix) H3 s3:=I3.j9 fun p hp=>by
   have e:p=(s2.heap.objs.size,_):=Vk.mp hp
   subst e
   refine ⟨eD,nD,IS,Q6 _ (SY _),fun v z=>?_⟩
   have z':Data.seq aJ.toArray nn=Data.cell v:=z
   cases z'
  have j8: ∀p∈[(s2.heap.objs.size,({ cls:= .type "list",data:= .seq aJ.toArray nn }:Obj))],p.1=s2.heap.objs.size:=fun p hp=>by
   have e:p=(s2.heap.objs.size,_):=Vk.mp hp
   rw[e]
  rcases alt with ⟨stop,fin⟩ | ⟨go,step⟩
  ·refine cx (T.done (bT X scope P2.objs.size Nc s2 H2 fp) rfl rfl rfl jA i _ s3 _ H3 Ej IP (fY j8 MM) ML stop) fun r s4 zz=>?_
   obtain ⟨hr,I4⟩:=zz
   subst hr
   obtain ⟨m,hn,_⟩:=id I4.loc
   obtain ⟨oC,es,ep,eC,dC,_⟩:=id hn
   have Vo:=(I4.pin (s2.heap.objs.size,_) (Yq _ (Vk.mpr rfl))).1
   have Q7:=fin _ nD
   refine Vn _ _ oC m _ s4 eC hn ?_ (Aa I2 I4 f2 (SY _) IV IS Vo rv (YE hz) nD eC fun v z=>?_) Q7
   ·refine I2.pL IV ?_
    rw[aC (Ne.symm IS)]
    exact I4.free
   ·rw[dC]at z;cases z
  ·refine cx (T.item (bT X scope P2.objs.size Nc s2 H2 fp) rfl rfl rfl jA i _ s3 _ H3 Ej IP (fY j8 MM) ML go) fun r s4 zz=>?_
   obtain ⟨u,hr,h4⟩:=zz
   subst hr
   refine cx h4 fun _ s5 zz=>?_
   obtain ⟨x,H5,I5,r5,y5,Io,QI⟩:=zz
   have QJ:=I5.pinned (fY j8 QI) (T.obj _ _ Io)
   refine cx (hG _ s2 H2 fp _ s5 _ H5 x u _ QJ r5 (step x H5 y5)) fun _ s6 zz=>?_
   obtain ⟨σ6,H6,I6,wk,q6⟩:=zz
   refine cx (hT _ s2 H2 fp _ s6 σ6 H6 _ I6 q6) fun b s7 zz=>?_
   obtain ⟨H7,I7,q7⟩:=zz
   have again: ∀{H9:Hp} {s9:Shared} {m':Nat},Inv (bT X scope P2.objs.size Nc s2 H2 fp) ([(s2.heap.objs.size,({ cls:= .type "list",data:= .seq aJ.toArray nn }:Obj))]++nK fp s5.heap) σ6 H9 s9->
     (s9.heap.get? s2.heap.objs.size=some { cls:= .type "list",data:= .seq aJ.toArray nn }/\H9 s2.heap.objs.size=none)/\tn (i+1) s9.heap/\(∀b∈fp,H9 b=none)/\Inv (bT X scope P2.objs.size Nc s2 H2 fp) [] (ko σ ix) H9 s9:=fun {H9 s9 m'} I9=>by
    have pD:=I9.pin (s2.heap.objs.size,_) (Yq _ (Zc _ (Vk.mpr rfl)))
    refine ⟨⟨pD.1,pD.2.1⟩,T.keep _ _ _ Io fun b hb o e=>(I9.pin (b,o) (Yq _ (Yq _ (g5 hb e)))).1,fun b hb=>?_,?_⟩
    ·obtain ⟨o,e,d⟩:=T.obj _ _ Io b hb
     exact (I9.pin (b,o) (Yq _ (Yq _ (g5 hb e)))).2.1
    ·exact (I9.weak wk.len fun i v e=>wk.get e).j9 fun p hp=>absurd hp (by simp)
   cases b with
   | false=>
    rw[if_neg Yj]at q7 ⊢
    obtain ⟨m',hm,w7⟩:=q7
    obtain ⟨⟨e7,n7⟩,t7,f7,J7⟩:=again (m':=0) I7
    exact ⟨m',hm,i+1,acc,aJ,nn,H7,J7,t7,f7,e7,rv,n7,w7⟩
   | true=>
    rw[if_pos rfl]at q7 ⊢
    refine cx (hE _ s2 H2 fp _ s7 σ6 H7 _ I7 q7) fun y s8 zz=>?_
    obtain ⟨v,H8,I8,r8,m',hm,w8⟩:=zz
    obtain ⟨⟨e8,n8⟩,t8,f8,J8⟩:=again (m':=0) I8
    refine wpAny_list_append_plain (items:=aJ.toArray) ⟨nn,e8⟩ (fun h9 Vp S8=>?_) (by rw[Vl, <-rv.length];exact YE hz)
    obtain ⟨n9,e9⟩:=Vp
    refine ⟨m',hm,i+1,acc++[v],aJ++[y],n9,H8,J8.turned (t':=s8.toks) (fun b o hb e=>(S8.2 b hb).trans e) n8 IS (.inr (SY _)) Nh (fun p hp=>absurd hp (by simp[bT])),?_,f8,?_,rv.append (.cons r8 .nil),n8,w8⟩
    ·exact T.keep _ _ _ t8 fun b hb o e=>(S8.2 b (Ne.symm (S7 b hb))).trans e
    ·simpa using e9
 exact codeAny_compStart_list (loop _ rfl) (T.self _ 0 _ _ _ S6 (loop _ rfl))
theorem E1 {X:Cx} {tg iter elt:Expr} {ifs:List Expr} {scope:Scope} {pos:Pos} {wi:TI} {g:TG} {tc:TT} {te:TE} (Nc:List Str) (ix:List (Option Nat)) (hi:PI X tg iter wi) (jA:X.calm=true) (wU:jv X scope Nc ix)
  (gL: ∀y∈scope.names,y.2≠ .cell) (ir:scope.kind= .function) (EY: ∀y∈scope.names,y.2= .free->X.env.kindOf y.1=some .cell\/X.env.kindOf y.1=some .free)
  (wV: ∀x∈scope.names,x.2= .local->scope.names.lookup x.1=some .local)
  (hG: ∀C s H fp,PG (bT X scope C Nc s H fp) tg g) (hT: ∀C s H fp,PF (bT X scope C Nc s H fp) ifs tc) (hE: ∀C s H fp,PE (bT X scope C Nc s H fp) elt te)
  (hs: ∀x,foldedSetIterable iter X.env x=pure x:=by intro _;rfl):PE X (.ListComp elt [⟨tg,iter,ifs,0⟩] scope pos) (uA wi ix g tc te):=by
 intro pins s σ H Q I h
 rw[eval_ListComp]
 have KY: ∀y∈scope.names,y.2= .free-> ∃c,X.env.cells.lookup y.1=some c:=fun y hy e=>I.ok.has y.1 (EY y hy e)
 refine wpAny_comprehension_free (use:=none) rfl hs (jz KY) ir wV (qA hi jA wU gL ir EY hG hT hE I h (RR:=fun acc C=>compPost (model X.prog X.w) X.A X.xe none (EP X pins σ Q) acc C) ?_)
 intro D C oC m H' s' eC hn fC I' q
 refine ⟨m,hn,fun h' IW=>⟨.ref D,H',?_,rfl,q⟩⟩
 exact I'.iM.turned (t':=s'.toks) (fun b o hb e=>(IW.2 b hb).trans e) fC.1 fC.2.1 fC.2.2.2.1 fC.2.2.2.2.1 fC.2.2.2.2.2
theorem E2 {X:Cx} {i:Nat} {x:Str} {tg iter elt:Expr} {ifs:List Expr} {scope:Scope} {pos BF pos':Pos} {wi:TI} {g:TG} {tc:TT} {te:TE} (Nc:List Str) (ix:List (Option Nat)) (hN:X.N.Nodup) (Ni:X.N[i]? =some x) (hx:Loc X.env.scope x)
  (Nj:swapsWith (.ListComp elt [⟨tg,iter,ifs,0⟩] scope pos) (some (.Name x pos')) BF.line X.env=pure true) (hi:PI X tg iter wi) (jA:X.calm=true) (wU:jv X scope Nc ix)
  (gL: ∀y∈scope.names,y.2≠ .cell) (ir:scope.kind= .function) (EY: ∀y∈scope.names,y.2= .free->X.env.kindOf y.1=some .cell\/X.env.kindOf y.1=some .free)
  (wV: ∀x∈scope.names,x.2= .local->scope.names.lookup x.1=some .local)
  (hG: ∀C s H fp,PG (bT X scope C Nc s H fp) tg g) (hT: ∀C s H fp,PF (bT X scope C Nc s H fp) ifs tc) (hE: ∀C s H fp,PE (bT X scope C Nc s H fp) elt te)
  (hs: ∀x,foldedSetIterable iter X.env x=pure x:=by intro _;rfl) (hf:X.fn x=true\/X.env.scope.names.lookup x=some .local:=by first | exact .inl rfl | exact .inr rfl | assumption):
  PS X (.Assign [.Name x pos'] (.ListComp elt [⟨tg,iter,ifs,0⟩] scope pos) BF) (EE (uA wi ix g tc te) (uq i)):=by
 intro pins s σ H E I h
 have KY: ∀y∈scope.names,y.2= .free-> ∃c,X.env.cells.lookup y.1=some c:=fun y hy e=>I.ok.has y.1 (EY y hy e)
 rw[exec_Assign_Name_used _ _ _ _ Nj]
 refine wpAny_bind (wpAny_standAt (wpAny_bind ?_))
 show wpAny _ X.A (do let _ <-comprehension (.ListComp elt [⟨tg,iter,ifs,0⟩] scope pos) scope X.env _ (newList []) false (eval iter X.env) (some (assign (.Name x pos') X.env))) _ _ s
 refine wpAny_bind (wpAny_mono (wpAny_comprehension_free (use:=some (assign (.Name x pos') X.env)) (Q:=fun _ s'=>SP X pins E .next s') rfl hs (jz KY) ir wV
  (qA hi jA wU gL ir EY hG hT hE I h (RR:=fun acc C=>compPost (model X.prog X.w) X.A X.xe (some (assign (.Name x pos') X.env)) (fun _ s'=>SP X pins E .next s') acc C) ?_)) (fun _ s' hq=>wpAny_pure (wpAny_pure hq)) fun _ _ e=>e)
 intro D C oC m H' s' eC hn fC I' q
 show wpAny _ X.A (assign (.Name x pos') X.env (.ref D)) _ _ _
 refine wpAny_assign_Name (gK I' hN Ni hx (show RelV (.ref D) _ from rfl) (fun MX S9=>?_) hf)
 have pC:=S9.pin (C,oC) (Yq _ (Yq _ (Vk.mpr rfl)))
 refine ⟨m,?_,fun h' IW=>?_⟩
 ·obtain ⟨o,es,ep,e,r⟩:=hn
  rw[eC]at e;cases e
  exact ⟨oC,es,ep,pC.1,r⟩
 ·refine ⟨_,H',S9.iM.turned (t':=MX.toks) (fun b o hb e=>(IW.2 b hb).trans e) fC.1 fC.2.1 fC.2.2.2.1 fC.2.2.2.2.1 fC.2.2.2.2.2,q⟩
noncomputable def S (l:List Nat):Str:=⟨l.toArray⟩
theorem eS (l:List Nat):(S l).cps.toList=l:=by simp[S]
theorem b7 (l:List Nat):(S l).length=l.length:=by simp[S,Str.length]
theorem lK (l:List Nat):(S l).cps.size=l.length:=by simp[S]
theorem Nk {a b:List Nat} (h:S a=S b):a=b:=by
 have:=congrArg (fun x:Str=>x.cps.toList) h
 simpa [S]using this
theorem Nl (x:Str):x=S x.cps.toList:=by cases x;simp[S]
theorem Nm (a b:List Nat):S a++S b=S (a++b):=by
 apply Str.ext'
 apply Qao.mp
 simp[S,Str.cps_append]
theorem G7 {a b:List Nat}:decide (V.str (S a)=V.str (S b))=decide (a=b):=by
 by_cases h:a=b
 ·subst h;simp
 ·rw[decide_eq_false h,decide_eq_false]
  intro q
  exact h (Nk (V.str.inj q))
noncomputable def cut {α:Type} (xs:List α) (lo hi:Option Int):List α:=(xs.drop (HT.da xs.length 0 lo)).take (HT.da xs.length xs.length hi - HT.da xs.length 0 lo)
theorem uC (n d:Nat) (v:Int):max 0 (min (if v<0 then v+(n:Int) else v) (n:Int))=((HT.da n d (some v):Nat):Int):=by
 show _=(((if v<0 then (v+(n:Int)).toNat else min v.toNat n):Nat):Int)
 by_cases hv:v<0
 ·simp only[if_pos hv];omega
 ·simp only[if_neg hv];omega
theorem mG (lo hi:Option Int) (n:Nat):Builtin.Str.strSliceIndices lo hi 1 n=(List.range (HT.da n n hi - HT.da n 0 lo)).map (HT.da n 0 lo+ ·):=by
 have h1:(1:Int)>0:=by decide
 rw[<-sliceRange_one]
 unfold Builtin.Str.strSliceIndices
 simp only[h1,if_true]
 congr 1
 ·cases lo with
  | none=>rfl
  | some v=>exact uC n 0 v
 ·cases hi with
  | none=>rfl
  | some v=>exact uC n n v
theorem E3 (l:List Nat) (lo hi:Option Int):Txt.slice (S l) lo hi=S (cut l lo hi):=by
 have hx:((Builtin.Str.strSliceIndices lo hi 1 (S l).length).filterMap ((S l).cps[·]?))=cut l lo hi:=by
  rw[b7,mG,pick_run,eS]
  rfl
 have hlen:(Builtin.Str.strSliceIndices lo hi 1 (S l).length).length=HT.da l.length l.length hi - HT.da l.length 0 lo:=by
  rw[b7,mG,Pd,Qac]
 unfold Txt.slice
 by_cases hc:((1:Int)==1&&(Builtin.Str.strSliceIndices lo hi 1 (S l).length).length==(S l).length)=true
 ·rw[if_pos hc]
  rw[hlen,b7]at hc
  have e:HT.da l.length l.length hi - HT.da l.length 0 lo=l.length:=by simpa using hc
  have h2:=HT.Bu l.length l.length (SY _) hi
  have e0:HT.da l.length 0 lo=0\/l.length=0:=by omega
  unfold cut
  rw[e]
  rcases e0 with z | z
  ·rw[z];simp
  ·have:l=[]:=Z0 z
   subst this
   simp
 ·rw[if_neg hc]
  rw[hx]
  rfl
section
variable {X:Cx}
theorem g7 {x:Str} {j pos} (l:List Nat) (h:x=S l):PE X (.Constant (.str x) j pos) (tC (.str (S l))):=by
 subst h
 exact Ie
def Nn:R2:=fun x y H Q=> ∃a b,x= .str (S a)/\y= .str (S b)/\a.length+b.length<=sizeLine/\Q (.str (S (a++b))) H
theorem bX:iH X (binaryOp .Add) Nn:=by
 intro pins s σ H x y v u Q I rx ry h
 obtain ⟨a,b,rfl,rfl,hz,q⟩:=h
 exact wx pins s σ H _ _ v u Q I rx ry ⟨S a,S b,rfl,rfl,by rw[b7,b7];exact hz,by rw[Nm];exact q⟩
def Np:R2:=fun x y H Q=> ∃l i c,x= .str (S l)/\y= .int i/\l.length<=sizeLine/\lq l i=some c/\Q (.str (S [c])) H
theorem g8:Iz X Np:=by
 intro value slice pins s σ H x y v u Q I rx ry h hs
 obtain ⟨l,i,c,rfl,rfl,hz,he,q⟩:=h
 exact IB value slice pins s σ H _ _ v u Q I rx ry ⟨S l,i,c,rfl,rfl,by rw[b7];exact hz,by rw[eS];exact he,q⟩ hs
def Q8:V->Option Int->Option Int->Hp->VK->Prop:=fun x lo hi H Q=> ∃l,x= .str (S l)/\l.length<=sizeLine/\Q (.str (S (cut l lo hi))) H
theorem fU:KU X Q8:=by
 intro pins s σ H x v vl vu lo hi sl Q I rx hs pl pu h
 obtain ⟨l,rfl,hz,q⟩:=h
 obtain ⟨t,rfl⟩:=rx
 refine ⟨"str",_,F.slot_str_getitem.lookup,typeIs_str _ _ _,?_⟩
 have key: ∀(a b:Option (Int×Tok)),vl=partValue a->vu=partValue b->a.map (·.1)=lo->b.map (·.1)=hi->wpAny (model X.prog X.w) X.A (getItem (.str (S l) t) (.ref sl)) (EP X pins σ Q) X.xe s:=by
  rintro a b rfl rfl rfl rfl
  obtain ⟨o,e,c,d⟩:=hs
  refine wpAny_getItem_str_slice (l:=a) (u:=b) (st:=none) ⟨o,e,c,d⟩ rfl (post_val_or_str ⟨?_,fun t' k=>?_⟩)
  ·exact Yv (Txt.slice_le (S l) _ _) (by rw[b7];exact hz)
  ·exact ⟨.str (S (cut l _ _)),H,I.tok _,⟨t',congrArg (fun z=>Value.str z t') (E3 l _ _)⟩,q⟩
 cases pl with
 | none=>
  cases pu with
  | none=>exact key none none rfl rfl rfl rfl
  | int i ti=>exact key none (some (i,ti)) rfl rfl rfl rfl
 | int i ti=>
  cases pu with
  | none=>exact key (some (i,ti)) none rfl rfl rfl rfl
  | int j tj=>exact key (some (i,ti)) (some (j,tj)) rfl rfl rfl rfl
theorem aN:eM X (.builtin "len") (fun xs H Q=> ∃l,xs=[.str (S l)]/\l.length<=sizeLine/\Q (.int l.length) H):=by
 intro pins s σ H xs us Q I r h
 obtain ⟨l,rfl,hz,q⟩:=h
 exact rT pins s σ H _ us Q I r ⟨S l,rfl,by rw[b7];exact hz,by rw[b7];exact q⟩
noncomputable def cf (l:List Nat):List V:=l.map fun c=>V.str (S [c])
theorem wW {l:List Nat}: ∀{acc:List Value},acc.length=l.length->(∀j v,acc[j]? =some v->SignAt (S l) j v)->Vals (cf l) acc:=by
 induction l with
 | nil=>intro acc h _;have:acc=[]:=Z0 h;subst this;exact .nil
 | cons c l ih=>
  intro acc h k
  cases acc with
  | nil=>cases h
  | cons a acc=>
   refine .cons ?_ (ih (by simpa using h) fun j v e=>?_)
   ·obtain ⟨c',u,e1,e2⟩:=k 0 a rfl
    have:c=c':=by simpa [S]using e1
    subst this
    exact ⟨u,e2⟩
   ·obtain ⟨c',u,e1,e2⟩:=k (j+1) v (by simpa using e)
    exact ⟨c',u,by simpa [S]using e1,e2⟩
theorem nU (hc:X.calm=true):eM X (.type "list") (fun xs H Q=> ∃l,xs=[.str (S l)]/\l.length<=sizeLine/\ ∀p,H p=none->Q (.ref p) (upd H p (.lst (cf l)))):=by
 intro pins s σ H xs us Q I r h
 obtain ⟨l,rfl,hz,q⟩:=h
 obtain ⟨u,rfl,t,rfl⟩:=vals1 r
 refine call_list_str (I.ok.hd hc) (S l) t (fun h' tk cA c' hk e iG=>?_) (by rw[lK];exact hz)
 obtain ⟨h1,h2⟩:=iG
 rw[lK]at h1
 refine ⟨.ref s.heap.objs.size,_,I.laid (t':=tk) (o:= .lst (cf l)) hk (SY _) ?_,rfl,q _ I.fresh⟩
 exact ⟨by unfold cf;rw[Pd];exact hz,cA.toList,c',wW (by simpa using h1) (fun j v e=>h2 j v (by simpa using e)),by simpa using e⟩
def Q9:R2:=fun x y H Q=> ∃c l,x= .str (S [c])/\y= .str (S l)/\Q (.bl (decide (c∈l))) H
theorem IX:iH X (compareOp .In) Q9:=by
 intro pins s σ H x y v u Q I rx ry h
 obtain ⟨c,l,rfl,rfl,q⟩:=h
 refine zR pins s σ H _ _ v u Q I rx ry ⟨S [c],S l,rfl,rfl,?_⟩
 have e:=StrLaws.found_one (S l) c
 rw[eS]at e
 rw[show (S [c])=(⟨#[c]⟩:Str) from rfl,e]
 exact q
end
theorem qB (s sub:Str) (hi:Nat): ∀(l:List Nat) (st:Array Nat×Nat),1<=st.fst.size->(forIn l st (StrLaws.occBody s sub hi 1)).run.fst=st.fst
 | [],st,h=>rfl
 | a::l,st,h=>by
  rw[Z4]
  unfold StrLaws.occBody
  rw[if_neg (fun z=>absurd z.1.1.1 (Nat.not_lt.mpr h))]
  exact qB s sub hi l _ h
theorem occ_first (s sub:Str) (hi:Nat): ∀(l:List Nat) (free:Nat),(∀i∈l,free<=i)->
  (forIn l ((#[]:Array Nat),free) (StrLaws.occBody s sub hi 1)).run.fst.toList=(l.find? fun i=>decide (i+sub.length<=hi)&&Builtin.Str.subAt s sub i).toList
 | [],free,_=>rfl
 | a::l,free,hf=>by
  rw[Z4,Zj]
  unfold StrLaws.occBody
  have ha:free<=a:=hf a Vj
  by_cases hc:a+sub.length<=hi/\Builtin.Str.subAt s sub a=true
  ·rw[if_pos ⟨⟨⟨by simp,ha⟩,hc.1⟩,hc.2⟩]
   have:(decide (a+sub.length<=hi)&&Builtin.Str.subAt s sub a)=true:=by simp[hc]
   rw[this]
   show (forIn l (#[].push a,a+sub.length) (StrLaws.occBody s sub hi 1)).run.fst.toList=_
   rw[qB s sub hi l _ (by simp)]
   rfl
  ·rw[if_neg (fun z=>hc ⟨z.1.2,z.2⟩)]
   have:(decide (a+sub.length<=hi)&&Builtin.Str.subAt s sub a)=false:=by
    cases h1:decide (a+sub.length<=hi) with
    | false=>rfl
    | true=>
     cases h2:Builtin.Str.subAt s sub a with
     | false=>rfl
     | true=>exact absurd ⟨of_decide_eq_true h1,h2⟩ hc
   rw[this]
   exact occ_first s sub hi l free fun i nc=>hf i (SX _ nc)
theorem subAt_one (l:List Nat) (c i:Nat):Builtin.Str.subAt (S l) (S [c]) i=(l[i]? ==some c):=by
 unfold Builtin.Str.subAt
 rw[b7]
 show ((S l).cps.extract i (i+1)== #[c])=_
 have e:((S l).cps.extract i (i+1))=((l.drop i).take 1).toArray:=by
  apply Qao.mp
  simp[S,List.take_drop]
 rw[e]
 by_cases h:i<l.length
 ·have e2:(l.drop i).take 1=[l[i]]:=by
   rw[YR h];rfl
  rw[e2,IM h]
  by_cases hc:l[i]=c
  ·rw[hc];simp
  ·have h1:([l[i]].toArray== #[c])=false:=by
    rw[beq_eq_false_iff_ne]
    intro z
    apply hc
    have:=congrArg Array.toList z
    simpa using this
   have h2:(some l[i]==some c)=false:=by simpa using hc
   rw[h1,h2]
 ·have e2:(l.drop i).take 1=[]:=by rw[ZV (by omega)];rfl
  rw[e2,Y6 (by omega)]
  rfl
theorem nV (l:List Nat) (c:Nat): ∀(k n:Nat),k+n=l.length+1->((List.range' k n).find? fun i=>decide (i+1<=l.length)&&(l[i]? ==some c))=if c∈l.drop k then some (k+(l.drop k).idxOf c) else none
 | k,0,h=>by
  have:l.drop k=[]:=ZV (by omega)
  rw[this];simp
 | k,n+1,h=>by
  rw[List.range'_succ,Zj]
  by_cases hk:k<l.length
  ·have e:l.drop k=l[k]::l.drop (k+1):=YR hk
   rw[IM hk,e]
   by_cases hc:l[k]=c
   ·have:(decide (k+1<=l.length)&&(some l[k]==some c))=true:=by simp[hc];omega
    rw[this,if_pos (by simp[hc])]
    simp[hc]
   ·have:(decide (k+1<=l.length)&&(some l[k]==some c))=false:=by simp[hc]
    rw[this,nV l c (k+1) n (by omega)]
    have lE: ¬c=l[k]:=fun z=>hc z.symm
    by_cases hm:c∈l.drop (k+1)
    ·rw[if_pos hm,if_pos (SX _ hm),Qa3]
     have:(l[k]==c)=false:=by simpa using hc
     rw[this]
     show some (k+1+List.idxOf c (List.drop (k+1) l))=some (k+(List.idxOf c (List.drop (k+1) l)+1))
     congr 1
     omega
    ·rw[if_neg hm,if_neg (by intro z;rcases Vi.mp z with z | z;exact lE z;exact hm z)]
  ·have:l.drop k=[]:=ZV (by omega)
   have e1:(decide (k+1<=l.length)&&(l[k]? ==some c))=false:=by
    rw[decide_eq_false (by omega)];rfl
   have e2:l.drop (k+1)=[]:=ZV (by omega)
   rw[e1,nV l c (k+1) n (by omega),this,e2]
   simp
theorem G8 (l:List Nat) (c:Nat):Builtin.Str.occurrences (S l) (S [c]) 0 (S l).length 1=if c∈l then [l.idxOf c] else []:=by
 rw[StrLaws.occ_eq,occ_first _ _ _ _ 0 fun _ _=>Xy _]
 have e:(fun i=>decide (i+(S [c]).length<=(S l).length)&&Builtin.Str.subAt (S l) (S [c]) i)=fun i=>decide (i+1<=l.length)&&(l[i]? ==some c):=by
  funext i
  rw[subAt_one,b7,b7]
  rfl
 rw[e,b7,Nat.sub_zero,nV l c 0 (l.length+1) (by omega),List.drop_zero]
 by_cases h:c∈l
 ·rw[if_pos h,if_pos h,Qau];rfl
 ·rw[if_neg h,if_neg h];rfl
section
variable {X:Cx}
def E4:V->List V->Hp->VK->Prop:=fun x vs H Q=> ∃l c,x= .str (S l)/\vs=[.str (S [c])]/\c∈l/\Q (.int (l.idxOf c:Nat)) H
theorem lL:zZ X "str.index" E4:=by
 intro pins s σ H x xs v us Q I rx rv h
 obtain ⟨l,c,rfl,rfl,hc,q⟩:=h
 obtain ⟨t,rfl⟩:=rx
 obtain ⟨u,rfl,t',rfl⟩:=vals1 rv
 exact SC.index (i:=l.idxOf c) (rest:=[]) (by rw[G8,if_pos hc]) ⟨.int (l.idxOf c:Nat),H,I.tok _,⟨_,rfl⟩,q⟩
def IZ:V->List V->Hp->VK->Prop:=fun x vs H Q=> ∃l c,x= .str (S l)/\vs=[.str (S [c])]/\Q (.int (if c∈l then (l.idxOf c:Nat) else -1)) H
theorem uD:zZ X "str.find" IZ:=by
 intro pins s σ H x xs v us Q I rx rv h
 obtain ⟨l,c,rfl,rfl,q⟩:=h
 obtain ⟨t,rfl⟩:=rx
 obtain ⟨u,rfl,t',rfl⟩:=vals1 rv
 refine SC.find ⟨.int _,H,I.tok _,⟨_,rfl⟩,?_⟩
 have e:Txt.find (S l) (S [c])=(if c∈l then ((l.idxOf c:Nat):Int) else -1):=by
  unfold Txt.find
  rw[G8]
  by_cases h:c∈l
  ·rw[if_pos h,if_pos h]
  ·rw[if_neg h,if_neg h]
 rw[e]
 exact q
def G9 (f:Nat->Bool):V->List V->Hp->VK->Prop:=fun x vs H Q=> ∃c,x= .str (S [c])/\vs=[]/\c<128/\Q (.bl (f c)) H
def Nq (f:Nat->Nat):V->List V->Hp->VK->Prop:=fun x vs H Q=> ∃c,x= .str (S [c])/\vs=[]/\c<128/\Q (.str (S [f c])) H
noncomputable def aD (c:Nat):Bool:=decide (97<=c)&&decide (c<=122)
noncomputable def isUp (c:Nat):Bool:=decide (65<=c)&&decide (c<=90)
theorem E5: ∀c,c<128->Txt.islower ⟨#[c]⟩=aD c:=by decide+kernel
theorem I0: ∀c,c<128->Txt.isupper ⟨#[c]⟩=isUp c:=by decide+kernel
theorem jP:zZ X "str.islower" (G9 aD):=by
 intro pins s σ H x xs v us Q I rx rv h
 obtain ⟨c,rfl,rfl,hc,q⟩:=h
 obtain ⟨t,rfl⟩:=rx
 have e:us=[]:=by cases rv;rfl
 subst e
 exact SC.islower ⟨.bl (aD c),H,I,congrArg Value.bool (E5 c hc),q⟩
theorem wX:zZ X "str.isupper" (G9 isUp):=by
 intro pins s σ H x xs v us Q I rx rv h
 obtain ⟨c,rfl,rfl,hc,q⟩:=h
 obtain ⟨t,rfl⟩:=rx
 have e:us=[]:=by cases rv;rfl
 subst e
 exact SC.isupper ⟨.bl (isUp c),H,I,congrArg Value.bool (I0 c hc),q⟩
theorem upper_one {c:Nat} (hc:c<128):Txt.upper (S [c])=S [up1 c]:=by
 rw[upper_ascii (by intro d hd;rw[eS]at hd;simp at hd;omega)]
 simp[S]
theorem qC {c:Nat} (hc:c<128):Txt.lower (S [c])=S [lo1 c]:=by
 rw[lower_ascii (by intro d hd;rw[eS]at hd;simp at hd;omega)]
 simp[S]
theorem G_ (c:Nat):Builtin.Str.tooLong (S [c]).length=false:=by
 rw[b7]
 show Builtin.Str.tooLong 1=false
 decide
theorem BG:zZ X "str.upper" (Nq up1):=by
 intro pins s σ H x xs v us Q I rx rv h
 obtain ⟨c,rfl,rfl,hc,q⟩:=h
 obtain ⟨t,rfl⟩:=rx
 have e:us=[]:=by cases rv;rfl
 subst e
 exact SC.upper (by rw[upper_one hc];exact G_ _) ⟨.str (S [up1 c]),H,I.tok _,⟨_,congrArg (fun z=>Value.str z _) (upper_one hc)⟩,q⟩
theorem nW:zZ X "str.lower" (Nq lo1):=by
 intro pins s σ H x xs v us Q I rx rv h
 obtain ⟨c,rfl,rfl,hc,q⟩:=h
 obtain ⟨t,rfl⟩:=rx
 have e:us=[]:=by cases rv;rfl
 subst e
 exact SC.lower (by rw[qC hc];exact G_ _) ⟨.str (S [lo1 c]),H,I.tok _,⟨_,congrArg (fun z=>Value.str z _) (qC hc)⟩,q⟩
theorem BH: ∀(ls:List (List Nat)) (a:Array Nat),(ls.map S).foldl (fun acc p=>acc++(S []).cps++p.cps) a=a++ls.flatten.toArray
 | [],a=>by simp
 | l::ls,a=>by
  rw[Ym,ZC,BH ls]
  simp[S]
theorem BI (ls:List (List Nat)):Txt.join (S []) (ls.map S)=S ls.flatten:=by
 unfold Txt.join Builtin.Str.glued
 cases ls with
 | nil=>rfl
 | cons l ls=>
  show Str.mk ((List.map S ls).foldl (fun acc p=>acc++(S []).cps++p.cps) (S l).cps)=_
  rw[BH]
  simp[S]
theorem nX: ∀{ls:List (List Nat)} {us:List Value},Vals (ls.map fun l=>V.str (S l)) us->StrsAre us (ls.map S)
 | [],us,r=>by cases r;exact .nil
 | l::ls,us,r=>by
  cases r with
  | cons r1 r2=>
   obtain ⟨t,rfl⟩:=r1
   exact .cons _ t (nX r2)
def BJ (K:PySem.W.Frag):V->List V->Hp->VK->Prop:=fun x vs H Q=> ∃(p:Addr) (ls:List (List Nat)),x= .str (S [])/\vs=[.ref p]/\bN K H p (ls.map fun l=>V.str (S l))/\(ls.map List.length).sum<=16777216/\Q (.str (S ls.flatten)) H
theorem BK:zZ X "str.join" (BJ X.K):=by
 intro pins s σ H x xs v us Q I rx rv h
 obtain ⟨p,ls,rfl,rfl,hq,hz,q⟩:=h
 obtain ⟨t,rfl⟩:=rx
 obtain ⟨u,rfl,ru⟩:=vals1 rv
 cases ru
 obtain ⟨aJ,r,pl,_⟩:=I.list hq
 have e:(S []).length=0:=rfl
 refine join_list pl.isList (by simpa using nX r) ?_ fun t' k=>?_
 ·rw[e,Nat.mul_zero,Qbn,YT]
  have e2:(Str.length ∘ S)=List.length:=by funext l;exact b7 l
  have e3:((fun x:Str=>x.length) ∘ S)=List.length:=by funext l;exact b7 l
  first | (rw[e2];exact hz) | (rw[e3];exact hz)
 ·exact ⟨.str (S ls.flatten),H,I.tok _,⟨t',congrArg (fun z=>Value.str z t') (BI ls)⟩,q⟩
end
end L2
namespace L2.F2
open PySem PySem.Spec PyProof.Rows
theorem lM:Manifest.owners.lookup (String.ofList ['d','e','s','r','e','v','e','r'].reverse)=some Manifest.sig_reversed:=by kernel_rfl
theorem dD:Slot "reversed" "__next__" "reversed.__next__":=
 .of (owner:="reversed") (n:="__next__") (by rw[typeLookup_type,builtinLookup_eq_fast];kernel_rfl) (by decide+kernel) (by decide+kernel) (by decide+kernel)
  (by first | exact .inl (by decide+kernel) | exact .inr (by decide+kernel)) (by rw[isSubtype_type];kernel_rfl)
theorem iP:entryFor table "reversed.__next__"=some Builtin.«reversed.__next__» :=entryFor_of_tree (by kernel_rfl)
theorem iu (a:Value):argsOk "reversed.__next__" ⟨[a],[]⟩:=by
 unfold argsOk;rw[signature?_of (id:="reversed.__next__") (n:=['_','_','t','x','e','n','_','_']) (o:=['d','e','s','r','e','v','e','r']) (by kernel_rfl) lM];kernel_rfl
theorem jB:Slot "reversed" "__iter__" "reversed.__iter__":=
 .of (owner:="reversed") (n:="__iter__") (by rw[typeLookup_type,builtinLookup_eq_fast];kernel_rfl) (by decide+kernel) (by decide+kernel) (by decide+kernel)
  (by first | exact .inl (by decide+kernel) | exact .inr (by decide+kernel)) (by rw[isSubtype_type];kernel_rfl)
theorem mR (a:Value):argsOk "reversed.__iter__" ⟨[a],[]⟩:=by
 unfold argsOk;rw[signature?_of (id:="reversed.__iter__") (n:=['_','_','r','e','t','i','_','_']) (o:=['d','e','s','r','e','v','e','r']) (by kernel_rfl) lM];kernel_rfl
theorem nY:entryFor table "reversed.__iter__"=some Builtin.«dict_keyiterator.__iter__» :=
 entryFor_alias (id':="dict_keyiterator.__iter__") (by kernel_rfl) (by first | rfl | decide+kernel | (unfold String.splitOn;simp+decide [String.splitOnAux])) (by decide+kernel) (by kernel_rfl)
theorem pQ:Slot "reversed" "__init__" "object.__init__":=
 .of (owner:="object") (n:="__init__") (by rw[typeLookup_type,builtinLookup_eq_fast];kernel_rfl) (by decide+kernel) (by decide+kernel) (by decide+kernel)
  (by first | exact .inl (by decide+kernel) | exact .inr (by decide+kernel)) (by rw[isSubtype_type];kernel_rfl)
theorem wY:TypeCalled "reversed" "reversed.__new__" "object.__init__":=
 ⟨by decide+kernel,by decide+kernel,⟨_,_,F.mro_reversed⟩,F.made_reversed,by decide+kernel,by rw[isSubtype_type];kernel_rfl,pQ⟩
theorem wZ:typeLookup (.type "str") "__reversed__"=pure none:=by rw[typeLookup_type,builtinLookup_eq_fast];kernel_rfl
end L2.F2
namespace L2
open PySem PySem.Spec PyProof.Rows
theorem nZ (x:Str) (t:Tok) (hz:x.length<=sizeLine):Meets (Builtin.«reversed.__new__» ⟨[.type "reversed", .str x t],[]⟩) (fun _ R s=> ∀tk,R (.ok (.ret (.ref s.heap.objs.size))) { s with heap:=s.heap.push { cls:= .type "reversed",data:= .fields #[.str x t,rawInt ((x.length:Int) - 1)] },toks:=tk }):=by
 refine Meets.of_wp fun prog w A R s h=>?_
 unfold Builtin.«reversed.__new__»
 refine wpAny_bind (wpAny_of_eq (newClass_reversed _) ?_)
 try dsimp only
 refine wpAny_bind (wpAny_of_eq (a:=()) (by first | rfl | kernel_rfl) ?_)
 refine wpAny_bind (wpAny_of_eq (a:=()) (by first | rfl | kernel_rfl) ?_)
 try dsimp only
 refine wpAny_bind (wpAny_specialOf (typeIs_str s x t) F2.wZ ?_)
 try dsimp only
 refine wpAny_bind (wpAny_of_eq (a:=true) (by first | rfl | kernel_rfl) ?_)
 rw[if_neg (by decide)]
 have hn:=eO
 refine wpAny_bind (len_str (by omega) ?_)
 refine wpAny_bind (wpAny_of_eq (a:=some (x.length:Int)) (by first | rfl | kernel_rfl) ?_)
 show wpAny _ _ (Builtin.SmallTypes.newRecord (Value.type "reversed") [Value.str x t,rawInt ((x.length:Int) - 1)] >>= _) _ _ _
 refine wpAny_bind ?_
 unfold Builtin.SmallTypes.newRecord
 refine wpAny_newObj_type ?_ (by size_fits)
 exact wpAny_pure ⟨_,rfl,h _⟩
section
variable {prog:Program} {w:World} {A:Around} {E:Value->Shared->Prop} {s:Shared}
theorem iQ {x:Str} {t:Tok} {Q:Value->Shared->Prop} (hz:x.length<=sizeLine) (h: ∀tk,Q (.ref s.heap.objs.size) { s with heap:=s.heap.push { cls:= .type "reversed",data:= .fields #[.str x t,rawInt ((x.length:Int) - 1)] },toks:=tk }):
  wpAny (model prog w) A (call (.type "reversed") [.str x t]) Q E s:=
 callType_new F2.wY (by decide+kernel) (F.typeCall_reversed_1 _) (F.newCall_reversed_1 _) (fun obj=>by unfold argsOk;kernel_rfl) F.entry_reversed_new (nZ x t hz)
  fun tk=>⟨⟨_,Yf _ rfl,rfl⟩,h tk⟩
def dc (h:Heap) (it:Addr) (x:Str) (t:Tok) (i:Int):Prop:= ∃o,h.get? it=some o/\o.cls= .type "reversed"/\o.data= .fields #[.str x t,rawInt i]
theorem dc.typeIs {it:Addr} {x:Str} {t:Tok} {i:Int} (h:dc s.heap it x t i):s.TypeIs (.ref it) "reversed":=let ⟨o,ho,hc,_⟩:=h;⟨o,ho,hc⟩
theorem fV {it:Addr} {x:Str} {t:Tok} {i:Int} {Q:Value->Shared->Prop} (hit:dc s.heap it x t i) (h:Q (.ref it) s):wpAny (model prog w) A (pyIter (.ref it)) Q E s:=by
 refine wpAny_pyIter_slot hit.typeIs F2.jB (wpAny_call_entry F2.jB hit.typeIs F2.nY ?_ (F2.mR _))
 show wpAny _ _ (ret (.ref it)) _ _ s
 exact wpAny_pure ⟨_,rfl,"reversed",_,hit.typeIs,F2.dD.lookup,h⟩
theorem iw {it:Addr} {x:Str} {t:Tok} {i c:Nat} {Q:Option Value->Shared->Prop} (hit:dc s.heap it x t (i:Int)) (hx:x.cps[i]? =some c) (hz:x.length<=sizeLine)
  (hQ: ∀h' tk u,dc h' it x t ((i:Int) - 1)->Heap.SameBut it s.heap h'->Q (some (.str ⟨#[c]⟩ u)) { s with heap:=h',toks:=tk }):wpAny (model prog w) A (pyNext (.ref it)) Q E s:=by
 obtain ⟨o,ho,hc,hd⟩:=id hit
 have hn:=eO
 have hi:i<x.length:=(Array.getElem?_eq_some_iff.mp hx).1
 unfold pyNext
 refine wpAny_bind (wpAny_attempt (wpAny_callSpecial?_slot (name:=Str.ofString "__next__") hit.typeIs F2.dD
  (wpAny_call_entry F2.dD hit.typeIs F2.iP ?_ (F2.iu _))))
 unfold Builtin.«reversed.__next__»
 refine wpAny_bind (wpAny_of_eq (a:=(Value.ref it,[])) rfl ?_)
 try dsimp only
 refine wpAny_bind (wpAny_field ho hd (x:= .str x t) rfl ?_)
 refine wpAny_bind (wpAny_field ho hd (x:=rawInt (i:Int)) rfl ?_)
 show wpAny _ _ (if (i:Int)<0 then _ else _) _ _ s
 rw[if_neg (by omega)]
 refine wpAny_bind (wpAny_specialOf (typeIs_str s x t) F.slot_str_getitem.lookup ?_)
 show wpAny _ _ (if (some (Value.builtin _)).isNone=true then _ else _) _ _ s
 rw[if_neg (by decide)]
 refine wpAny_bind (wpAny_mkInt ?_)
 refine wpAny_bind (wpAny_attempt (getItem_str (c:=c) (by
  have e1:decide ((i:Int)< -(2 ^ 63:Int))=false:=decide_eq_false (by omega)
  have e2:decide ((i:Int) ≥ 2 ^ 63)=false:=decide_eq_false (by omega)
  rw[e1,e2,Qbi]) (by rw[seqIndex_of (by omega) (by omega),Xx];exact hx) ?_))
 show wpAny _ _ (field (Value.ref it) 1 >>= _) _ _ _
 refine wpAny_bind (wpAny_field ho hd (x:=rawInt (i:Int)) rfl ?_)
 show wpAny _ _ (setField (Value.ref it) 1 (rawInt ((i:Int) - 1)) >>= _) _ _ _
 refine wpAny_bind (wpAny_setField ho hd (by simp) ?_)
 refine wpAny_pure ⟨_,rfl,wpAny_pure (hQ _ _ _ ?_ (Qb0 ..))⟩
 exact ⟨_,YQ _ ho (Obj.isFreed_of_fields (Obj.data_mapFields hd _)),(Obj.cls_mapFields ..).trans hc,by
  rw[Obj.data_mapFields hd];simp⟩
theorem iR {it:Addr} {x:Str} {t:Tok} {Q:Option Value->Shared->Prop} (hh:A.handled=none) (hit:dc s.heap it x t (-1))
  (hQ: ∀h',Heap.ExtBut it s.heap h'->Q none { s with heap:=h' }):wpAny (model prog w) A (pyNext (.ref it)) Q E s:=by
 obtain ⟨o,ho,hc,hd⟩:=id hit
 unfold pyNext
 refine wpAny_bind (wpAny_attempt (wpAny_callSpecial?_slot (name:=Str.ofString "__next__") hit.typeIs F2.dD
  (wpAny_call_entry F2.dD hit.typeIs F2.iP ?_ (F2.iu _))))
 unfold Builtin.«reversed.__next__»
 refine wpAny_bind (wpAny_of_eq (a:=(Value.ref it,[])) rfl ?_)
 try dsimp only
 refine wpAny_bind (wpAny_field ho hd (x:= .str x t) rfl ?_)
 refine wpAny_bind (wpAny_field ho hd (x:=rawInt (-1)) rfl ?_)
 show wpAny _ _ (if (-1:Int)<0 then _ else _) _ _ s
 rw[if_pos (by decide)]
 refine wpAny_bind (wpAny_rule ?_)
 refine wpAny_bind ?_
 show wpAny _ _ (setField (Value.ref it) 1 (rawInt (-1)) >>= fun _=>setField (Value.ref it) 0 .none) _ _ _
 refine wpAny_bind (wpAny_setField ho hd (by simp) ?_)
 refine wpAny_setField (YQ _ ho (Obj.isFreed_of_fields (Obj.data_mapFields hd _))) (Obj.data_mapFields hd _) (by simp) ?_
 first
 | show wpAny _ _ (newExc (.type "StopIteration") [] >>= _) _ _ _
 |(refine wpAny_bind ?_;show wpAny _ _ (newExc (.type "StopIteration") [] >>= _) _ _ _)
 refine wpAny_bind ?_
 simp only[newExc,newTuple]
 refine wpAny_bind (wpAny_newObj_type ?_ (by size_fits))
 refine wpAny_bind (m:=firstArgMember _ _) (wpAny_of_eq (a:=Value.none) (by first | rfl | (simp only[firstArgMember];rfl)) ?_)
 refine wpAny_newObj_type ?_ (by size_fits)
 simp only[raiseNew]
 refine wpAny_bind (wpAny_handled ?_)
 first | rw[show A.in1.handled=none from hh] | rw[hh]
 refine wpAny_bind (wpAny_pure (wpAny_throw ?_))
 refine wpAny_bind (wpAny_isInstance (T:="StopIteration") (b:=true) ⟨_,Yf _ rfl,rfl⟩ isSubtype_stop ?_)
 refine wpAny_pure (hQ _ fun b ob hb e=>?_)
 refine S0 _ (S0 _ ?_)
 exact (Yy _ _ (Ne.symm hb)).trans ((Yy _ _ (Ne.symm hb)).trans e)
end
noncomputable def E6 (xs:List V):It:=⟨fun i _=>i<xs.length,fun i H x H'=>H'=H/\xs[i]? =some x,fun i _=>xs.length<=i⟩
theorem fO {l:List Nat} {i:Nat} {x:V} (h:(cf l)[i]? =some x): ∃c,l[i]? =some c/\x= .str (S [c]):=by
 unfold cf at h
 rw[Yb]at h
 cases e:l[i]? with
 | none=>rw[e]at h;cases h
 | some c=>rw[e]at h;cases h;exact ⟨c,rfl,rfl⟩
theorem aU (l:List Nat):(cf l).length=l.length:=by unfold cf;rw[Pd]
theorem BL {P:Program} {w:World} {K:PySem.W.Frag} {tg:Expr} (it:Addr) (l:List Nat) (t:Tok):Turn P w K tg (E6 (cf l)) [it] it (fun i h=>h.IsStrIter it (strIterType (S l)) (S l) t i) where
 mem:=by simp
 obj:=fun i h st b hb=>by
  have e:b=it:=by simpa using hb
  subst e
  obtain ⟨o,e,c,d⟩:=st
  exact ⟨o,e,fun v z=>by rw[d]at z;cases z⟩
 keep:=fun i h h' st k=>let ⟨o,e,r⟩:=st;⟨o,k it (by simp) o e,r⟩
 item:=by
  intro X hP hw hK hc i pins s σ H E I hf st hg
  subst hP hw hK
  have E7:i<l.length:=by have:i<(cf l).length:=hg;rwa [aU]at this
  obtain ⟨f0,f1,f2,f3,f4,f5⟩:=hf it (by simp)
  have fin: ∀(v:Value) (h':Heap) (tk:Nat),SignAt (S l) i v->h'.IsStrIter it (strIterType (S l)) (S l) t (i+1)->(∀b o,b∉[it]->s.heap.get? b=some o->h'.get? b=some o)->
    ∃u,some v=some u/\wpAny (model X.prog X.w) X.A (letOwnedTupleGo tg (.ref it) u) (fun _ s2=> ∃x H',Inv X pins σ H' s2/\RelV x u/\(E6 (cf l)).A8 i H x H'/\s2.heap.IsStrIter it (strIterType (S l)) (S l) t (i+1)/\ ∀b∈[it],H' b=none) E { s with heap:=h',toks:=tk }:=by
   intro v h' tk hv uc kk
   obtain ⟨c,u,e1,e2⟩:=hv
   subst e2
   have I1:Inv X pins σ H { s with heap:=h',toks:=tk }:=I.turned (fun b o hb e=>kk b o (by simpa using hb) e) f0 f1 f3 f4 f5
   obtain ⟨o,e,cc,d⟩:=id uc
   refine ⟨_,rfl,ur (s:={ s with heap:=h',toks:=tk }) e cc d (by unfold strIterType;split<;>decide) ⟨.str (S [c]),H,I1,⟨u,rfl⟩,⟨rfl,?_⟩,uc,fun b hb=>(hf b hb).1⟩⟩
   unfold cf
   rw[Yb]
   have BM:l[i]? =some c:=by simpa [S]using e1
   rw[BM]
   rfl
  have hsz:i<(S l).cps.size:=by rw[lK];exact E7
  by_cases ha:(S l).cps.all (· <128)=true
  ·have et:strIterType (S l)="str_ascii_iterator":=by unfold strIterType;rw[if_pos ha]
   rw[et]at st
   exact (Walks.strAscii (prog:=X.prog) (w:=X.w) (I.ok.hd hc) it (S l) t).item i s _ _ hsz st fun v h' tk hv uc kk=>fin v h' tk hv (by rw[et];exact uc) kk
  ·have et:strIterType (S l)="str_iterator":=by unfold strIterType;rw[if_neg ha]
   rw[et]at st
   exact (Walks.strWide (prog:=X.prog) (w:=X.w) (I.ok.hd hc) it (S l) t).item i s _ _ hsz st fun v h' tk hv uc kk=>fin v h' tk hv (by rw[et];exact uc) kk
 done:=by
  intro X hP hw hK hc i pins s σ H E I hf st hg
  subst hP hw hK
  obtain ⟨f0,f1,f2,f3,f4,f5⟩:=hf it (by simp)
  have E7:l.length<=i:=by have:(cf l).length<=i:=hg;rwa [aU]at this
  have hx:(S l).cps[i]? =none:=by rw[Array.getElem?_eq_none_iff,lK];exact E7
  by_cases ha:(S l).cps.all (· <128)=true
  ·have et:strIterType (S l)="str_ascii_iterator":=by unfold strIterType;rw[if_pos ha]
   rw[et]at st
   exact wpAny_pyNext_ascii_end (I.ok.hd hc) st hx fun h' eb=>⟨rfl,I.turned (t':=s.toks) (fun b o hb e=>eb b o hb e) f0 f1 f3 f4 f5⟩
  ·have et:strIterType (S l)="str_iterator":=by unfold strIterType;rw[if_neg ha]
   rw[et]at st
   exact wpAny_pyNext_wide_end (I.ok.hd hc) st hx fun h' eb=>⟨rfl,I.turned (t':=s.toks) (fun b o hb e=>eb b o hb e) f0 f1 f3 f4 f5⟩
 self:=fun _ _ s _ _ st h=>by
  by_cases ha:(S l).cps.all (· <128)=true
  ·have et:strIterType (S l)="str_ascii_iterator":=by unfold strIterType;rw[if_pos ha]
   rw[et]at st
   exact wpAny_pyIter_striter_ascii st h
  ·have et:strIterType (S l)="str_iterator":=by unfold strIterType;rw[if_neg ha]
   rw[et]at st
   exact wpAny_pyIter_striter_wide st h
theorem BN {P:Program} {w:World} {K:PySem.W.Frag} {tg:Expr} (it:Addr) (l:List Nat) (t:Tok) (hz:l.length<=sizeLine):Turn P w K tg (E6 (cf l).reverse) [it] it (fun i h=>i<=l.length/\dc h it (S l) t ((l.length:Int) - 1 - (i:Int))) where
 mem:=by simp
 obj:=fun i h st b hb=>by
  have e:b=it:=by simpa using hb
  subst e
  obtain ⟨_,o,e,c,d⟩:=st
  exact ⟨o,e,fun v z=>by rw[d]at z;cases z⟩
 keep:=fun i h h' st k=>let ⟨q,o,e,r⟩:=st;⟨q,o,k it (by simp) o e,r⟩
 item:=by
  intro X hP hw hK hc i pins s σ H E I hf st hg
  subst hP hw hK
  have E7:i<l.length:=by have:i<(cf l).reverse.length:=hg;rwa [Yo,aU]at this
  obtain ⟨f0,f1,f2,f3,f4,f5⟩:=hf it (by simp)
  obtain ⟨_,st⟩:=st
  have e:(l.length:Int) - 1 - (i:Int)=((l.length - 1 - i:Nat):Int):=by omega
  rw[e]at st
  have dB:l.length - 1 - i<l.length:=by omega
  refine iw (c:=l[l.length - 1 - i]) st (by simp[S,dB]) (by rw[b7];exact hz) fun h' tk u uc sb=>?_
  have I1:Inv X pins σ H { s with heap:=h',toks:=tk }:=I.turned (fun b o hb e=>(sb.2 b hb).trans e) f0 f1 f3 f4 f5
  obtain ⟨o,e1,cc,d⟩:=id uc
  refine ⟨_,rfl,ur (s:={ s with heap:=h',toks:=tk }) e1 cc d (by decide) ⟨.str (S [l[l.length - 1 - i]]),H,I1,⟨u,rfl⟩,⟨rfl,?_⟩,⟨E7,?_⟩,fun b hb=>(hf b hb).1⟩⟩
  ·rw[ZG (by rw[aU];exact E7),aU]
   unfold cf
   rw[Yb,IM dB]
   rfl
  ·have e2:(l.length:Int) - 1 - ((i+1:Nat):Int)=((l.length - 1 - i:Nat):Int) - 1:=by omega
   rw[e2]
   exact uc
 done:=by
  intro X hP hw hK hc i pins s σ H E I hf st hg
  subst hP hw hK
  obtain ⟨f0,f1,f2,f3,f4,f5⟩:=hf it (by simp)
  have E7:l.length<=i:=by have:(cf l).reverse.length<=i:=hg;rwa [Yo,aU]at this
  obtain ⟨hi,st⟩:=st
  have e:(l.length:Int) - 1 - (i:Int)= -1:=by omega
  rw[e]at st
  exact iR (I.ok.hd hc) st fun h' eb=>⟨rfl,I.turned (t':=s.toks) (fun b o hb e=>eb b o hb e) f0 f1 f3 f4 f5⟩
 self:=fun _ _ _ _ _ st h=>fV st.2 h
section
variable {X:Cx} {tg:Expr}
def Q_ (tl:TE):TI:=fun σ H R=>tl σ H fun x H1=> ∃l,x= .str (S l)/\R (E6 (cf l)) H1
theorem n0 {l:Expr} {tl:TE} (hl:PE X l tl):PI X tg l (Q_ tl):=by
 intro pins s σ H R I h
 refine cx (hl pins s σ H _ I h) fun v s1 ⟨x,H1,I1,r1,q1⟩=>?_
 obtain ⟨l,rfl,q⟩:=q1
 obtain ⟨t,rfl⟩:=r1
 refine wpAny_pyIter_strU ?_
 refine ⟨s1.heap.objs.size,[s1.heap.objs.size],_,_,H1,rfl,I1.kept (t':=s1.toks) fun b o e=>S0 _ e,BL _ l t,⟨_,Yf _ rfl,rfl,rfl⟩,fun b hb=>?_,q⟩
 have e:b=s1.heap.objs.size:=by simpa using hb
 subst e
 exact I1.pL (SY _) (I1.b5.fresh (SY _))
def Ra (ta:TA):TI:=fun σ H R=>ta σ H fun vs H1=> ∃l,vs=[.str (S l)]/\l.length<=sizeLine/\R (E6 (cf l).reverse) H1
theorem w4 {a:Expr} {ta:TA} {p pos:Pos} (hg:Gl X "reversed") (hm:X.mg "reversed"=none) (ha:PA X [a] ta) (hs:starEach [a] X.env=[(false,eval a X.env)]:=by rfl):PI X tg (.Call (.Name "reversed" p) [a] [] pos) (Ra ta):=by
 intro pins s σ H R I h
 refine Call_ (gv I hg hm boot_reversed (YL (cx (ha pos pins s σ H _ I h) fun us s1 ⟨vs,H1,I1,r1,q1⟩=>?_) hs rfl))
 obtain ⟨l,rfl,hz,q⟩:=q1
 obtain ⟨u,rfl,t,rfl⟩:=vals1 r1
 refine iQ (by rw[b7];exact hz) fun tk=>?_
 have hit:dc (s1.heap.push { cls:= .type "reversed",data:= .fields #[.str (S l) t,rawInt (((S l).length:Int) - 1)] }) s1.heap.objs.size (S l) t (((S l).length:Int) - 1):=⟨_,Yf _ rfl,rfl,rfl⟩
 refine fV hit ?_
 refine ⟨s1.heap.objs.size,[s1.heap.objs.size],_,_,H1,rfl,I1.kept (t':=tk) fun b o e=>S0 _ e,BN _ l t hz,⟨Xy _,?_⟩,fun b hb=>?_,q⟩
 ·have e:(l.length:Int) - 1 - ((0:Nat):Int)=((S l).length:Int) - 1:=by rw[b7];simp
  rw[e]
  exact hit
 ·have e:b=s1.heap.objs.size:=by simpa using hb
  subst e
  exact I1.pL (SY _) (I1.b5.fresh (SY _))
end
theorem yD {xs:List V} {g:TG} {tb:TS} {D:Ends} {σ:St} {H:Hp} (Pv:Nat->St->Hp->Prop) (h0:Pv 0 σ H)
  (hs: ∀i x σ H,xs[i]? =some x->Pv i σ H->g x σ H fun σ2 H2=>tb { D with nx:=Pv (i+1),ct:=Pv (i+1),bk:=D.nx } σ2 H2) (hd: ∀σ H,Pv xs.length σ H->D.nx σ H):
  ∃W:Nat->Nat->St->Hp->Prop,(∃m,W 0 m σ H)/\ ∀i m σ H,W i m σ H->
   ((E6 xs).stop i H/\D.nx σ H)\/((E6 xs).go i H/\ ∃N:St->Hp->Prop,(∀σ' H',N σ' H'-> ∃m',m'<m/\W (i+1) m' σ' H')/\ ∀x H',(E6 xs).A8 i H x H'->g x σ H' fun σ2 H2=>tb { D with nx:=N,ct:=N,bk:=D.nx } σ2 H2):=by
 refine ⟨fun i m σ H=>m=xs.length - i/\i<=xs.length/\Pv i σ H,⟨xs.length,by simp,Xy _,h0⟩,?_⟩
 rintro i m σ H ⟨rfl,hi,p⟩
 by_cases dB:i<xs.length
 ·refine .inr ⟨dB,Pv (i+1),fun σ' H' p'=>⟨xs.length - (i+1),by omega,rfl,dB,p'⟩,fun x H' y=>?_⟩
  obtain ⟨e,y⟩:=y
  subst e
  exact hs i x σ _ y p
 ·have e:i=xs.length:=by omega
  subst e
  exact .inl ⟨SY _,hd σ H p⟩
theorem ng {J:It} {n:Nat} {xs:Nat->V->Prop} {σc:St} {g:TG} {tc:TT} {te:TE} {Q:VK} {H1:Hp} (Pv:Nat->List V->Hp->Prop) (hn:n<sizeLine) (Vq: ∀i acc H,i<n->Pv i acc H->J.go i H) (Nr: ∀acc H,Pv n acc H->J.stop n H)
  (hy: ∀i acc H x H',i<n->Pv i acc H->J.A8 i H x H'->H'=H/\xs i x) (h0:Pv 0 [] H1)
  (hs: ∀(i:Nat) (x:V) (acc:List V) (H:Hp) (Nx:List V->Hp->Prop),i<n->xs i x->acc.length<=i->Pv i acc H->(∀cA H',cA.length<=i+1->Pv (i+1) cA H'->Nx cA H')->
   g x σc H fun σ2 H2=>Wk σc σ2/\tc σ2 H2 fun b H3=>if b=true then te σ2 H3 fun v H4=>Nx (acc++[v]) H4 else Nx acc H3)
  (hd: ∀acc H D,acc.length<=n->Pv n acc H->H D=none->Q (.ref D) (upd H D (.lst acc))):qz J σc g tc te Q H1:=by
 refine ⟨fun i m acc H=>m=n - i/\i<=n/\acc.length<=i/\Pv i acc H,⟨n,by simp,Xy _,SY _,h0⟩,?_⟩
 rintro i m acc H ⟨rfl,hi,hl,p⟩
 refine ⟨by omega,?_⟩
 by_cases dB:i<n
 ·refine .inr ⟨Vq i acc H dB p,fun x H' y=>?_⟩
  obtain ⟨rfl,y2⟩:=hy i acc H x H' dB p y
  exact hs i x acc _ (fun cA H'=> ∃m',m'<n - i/\(m'=n - (i+1)/\i+1<=n/\cA.length<=i+1/\Pv (i+1) cA H')) dB y2 hl p fun cA H' h1 h2=>⟨n - (i+1),by omega,rfl,dB,h1,h2⟩
 ·have e:i=n:=by omega
  subst e
  exact .inl ⟨Nr acc H p,fun D hD=>hd acc H D hl p hD⟩
theorem gO {xs:List V} {σc:St} {g:TG} {tc:TT} {te:TE} {Q:VK} {H1:Hp} (Pv:Nat->List V->Hp->Prop) (hn:xs.length<sizeLine) (h0:Pv 0 [] H1)
  (hs: ∀(i:Nat) (x:V) (acc:List V) (H:Hp) (Nx:List V->Hp->Prop),i<xs.length->xs[i]? =some x->acc.length<=i->Pv i acc H->(∀cA H',cA.length<=i+1->Pv (i+1) cA H'->Nx cA H')->
   g x σc H fun σ2 H2=>Wk σc σ2/\tc σ2 H2 fun b H3=>if b=true then te σ2 H3 fun v H4=>Nx (acc++[v]) H4 else Nx acc H3)
  (hd: ∀acc H D,acc.length<=xs.length->Pv xs.length acc H->H D=none->Q (.ref D) (upd H D (.lst acc))):qz (E6 xs) σc g tc te Q H1:=
 ng (xs:=fun i x=>xs[i]? =some x) Pv hn (fun i _ _ h _=>h) (fun _ _ _=>SY _) (fun i _ H x H' _ _ y=>y) h0 hs hd
theorem n_ {lo:Int} {n:Nat} {σc:St} {g:TG} {tc:TT} {te:TE} {Q:VK} {H1:Hp} (Pv:Nat->List V->Hp->Prop) (hn:n<sizeLine) (h0:Pv 0 [] H1)
  (hs: ∀(i:Nat) (acc:List V) (H:Hp) (Nx:List V->Hp->Prop),i<n->acc.length<=i->Pv i acc H->(∀cA H',cA.length<=i+1->Pv (i+1) cA H'->Nx cA H')->
   g (.int (lo+i)) σc H fun σ2 H2=>Wk σc σ2/\tc σ2 H2 fun b H3=>if b=true then te σ2 H3 fun v H4=>Nx (acc++[v]) H4 else Nx acc H3)
  (hd: ∀acc H D,acc.length<=n->Pv n acc H->H D=none->Q (.ref D) (upd H D (.lst acc))):qz (GY lo n) σc g tc te Q H1:=
 ng (xs:=fun i x=>x= .int (lo+i)) Pv hn (fun i _ _ h _=>h) (fun _ _ _=>SY _) (fun i _ H x H' _ _ y=>y) h0 (fun i x acc H Nx h1 h2=>by subst h2;exact hs i acc H Nx h1) hd
theorem qD {K:PySem.W.Frag} {a:Addr} {xs:List V} {σc:St} {g:TG} {tc:TT} {te:TE} {Q:VK} {H1:Hp} (Pv:Nat->List V->Hp->Prop) (hn:xs.length<sizeLine) (hl: ∀i acc H,Pv i acc H->bN K H a xs) (h0:Pv 0 [] H1)
  (hs: ∀(i:Nat) (x:V) (acc:List V) (H:Hp) (Nx:List V->Hp->Prop),i<xs.length->xs[i]? =some x->acc.length<=i->Pv i acc H->(∀cA H',cA.length<=i+1->Pv (i+1) cA H'->Nx cA H')->
   g x σc H fun σ2 H2=>Wk σc σ2/\tc σ2 H2 fun b H3=>if b=true then te σ2 H3 fun v H4=>Nx (acc++[v]) H4 else Nx acc H3)
  (hd: ∀acc H D,acc.length<=xs.length->Pv xs.length acc H->H D=none->Q (.ref D) (upd H D (.lst acc))):qz (KQ K a) σc g tc te Q H1:=
 ng (xs:=fun i x=>xs[i]? =some x) Pv hn (fun i acc H h p=>⟨xs,xs[i],hl i acc H p,by simp[h]⟩) (fun acc H p=>⟨xs,hl _ acc H p,SY _⟩) (fun i acc H x H' h p y=>⟨y.1,y.2 xs (hl i acc H p)⟩) h0 hs hd
def E8 (c:TT) (tb:TS):TS:=fun D σ H=> ∃W:Nat->St->Hp->Prop,(∃m,W m σ H)/\ ∀m σ H,W m σ H->
 c σ H fun b H1=>if b=true then tb { D with nx:=fun σ' H'=> ∃m',m'<m/\W m' σ' H',ct:=fun σ' H'=> ∃m',m'<m/\W m' σ' H',bk:=D.nx } σ H1 else D.nx σ H1
theorem dR {X:Cx} {c:Expr} {body:List Stmt} {tc:TT} {tb:TS} {pos:Pos} (hp:PassesOwn (model X.prog X.w) X.A X.env X.xe) (hc:PT X c tc) (hb:we X body tb):PS X (.While c body [] pos) (E8 tc tb):=by
 intro pins s σ H D I h
 obtain ⟨W,⟨m0,w0⟩,turn⟩:=h
 refine wpAny_While (codeAny_whileLoop (fun n s'=> ∃σ' H',Inv X pins σ' H' s'/\W n σ' H') ?_ m0 ⟨σ,H,I,w0⟩)
 rintro n s1 ⟨σ1,H1,I1,w1⟩
 refine wpAny_passesOwn hp (cx (hc pins s1 σ1 H1 _ I1 (turn n σ1 H1 w1)) fun b s2 ⟨H2,I2,q2⟩=>?_)
 cases b with
 | true=>
  rw[if_pos rfl]at q2 ⊢
  refine wpAny_passesOwn hp (cx (hb pins s2 σ1 H2 _ I2 q2) fun f s3 q3=>?_)
  cases f with
  | next=>
   obtain ⟨σ3,H3,I3,m',hm,w3⟩:=q3
   exact ⟨m',hm,σ3,H3,I3,w3⟩
  | cont=>
   obtain ⟨σ3,H3,I3,m',hm,w3⟩:=q3
   exact ⟨m',hm,σ3,H3,I3,w3⟩
  | brk=>exact q3
  | ret v=>exact q3
 | false=>
  rw[if_neg Yj]at q2 ⊢
  exact wpAny_execs_nil ⟨σ1,H2,I2,q2⟩
noncomputable def rX (X:Cx) (scope:Scope):Bool:=(scope.names.all fun y=>y.2 != .cell)&&(scope.kind== .function)&&(scope.names.all fun y=>y.2 != .free||X.env.kindOf y.1==some .cell||X.env.kindOf y.1==some .free)&&(scope.names.all fun y=>y.2 != .local||scope.names.lookup y.1==some .local)
theorem kx {X:Cx} {scope:Scope} (h:rX X scope=true):(∀y∈scope.names,y.2≠ .cell)/\scope.kind= .function/\(∀y∈scope.names,y.2= .free->X.env.kindOf y.1=some .cell\/X.env.kindOf y.1=some .free)/\(∀x∈scope.names,x.2= .local->scope.names.lookup x.1=some .local):=by
 unfold rX at h
 simp only[YH]at h
 obtain ⟨⟨⟨h1,h2⟩,h3⟩,h4⟩:=h
 refine ⟨fun y hy e=>?_,by simpa using h2,fun y hy e=>?_,fun y hy e=>?_⟩
 ·have:=Qal.mp h1 y hy
  rw[e]at this;simp at this
 ·have:=Qal.mp h3 y hy
  rw[e]at this
  simpa using this
 ·have:=Qal.mp h4 y hy
  rw[e]at this
  simpa using this
theorem cD {X:Cx} {tg iter elt:Expr} {ifs:List Expr} {scope:Scope} {pos:Pos} {wi:TI} {g:TG} {tc:TT} {te:TE} (Nc:List Str) (ix:List (Option Nat)) (hi:PI X tg iter wi) (wU:jv X scope Nc ix)
  (hG: ∀C s H fp,PG (bT X scope C Nc s H fp) tg g) (hT: ∀C s H fp,PF (bT X scope C Nc s H fp) ifs tc) (hE: ∀C s H fp,PE (bT X scope C Nc s H fp) elt te) (b5:rX X scope=true:=by rfl) (jA:X.calm=true:=by rfl)
  (hs: ∀x,foldedSetIterable iter X.env x=pure x:=by intro _;rfl):PE X (.ListComp elt [⟨tg,iter,ifs,0⟩] scope pos) (uA wi ix g tc te):=
 let ⟨h1,h2,h3,h4⟩:=kx b5
 E1 Nc ix hi jA wU h1 h2 h3 h4 hG hT hE hs
theorem BO {X:Cx} {i:Nat} {x:Str} {tg iter elt:Expr} {ifs:List Expr} {scope:Scope} {pos BF pos':Pos} {wi:TI} {g:TG} {tc:TT} {te:TE} (Nc:List Str) (ix:List (Option Nat)) (hN:X.N.Nodup) (Ni:X.N[i]? =some x) (hx:Loc X.env.scope x)
  (hi:PI X tg iter wi) (wU:jv X scope Nc ix)
  (hG: ∀C s H fp,PG (bT X scope C Nc s H fp) tg g) (hT: ∀C s H fp,PF (bT X scope C Nc s H fp) ifs tc) (hE: ∀C s H fp,PE (bT X scope C Nc s H fp) elt te)
  (Nj:swapsWith (.ListComp elt [⟨tg,iter,ifs,0⟩] scope pos) (some (.Name x pos')) BF.line X.env=pure true:=by rfl) (b5:rX X scope=true:=by rfl) (jA:X.calm=true:=by rfl)
  (hs: ∀x,foldedSetIterable iter X.env x=pure x:=by intro _;rfl) (hf:X.fn x=true\/X.env.scope.names.lookup x=some .local:=by first | exact .inl rfl | exact .inr rfl | assumption):
  PS X (.Assign [.Name x pos'] (.ListComp elt [⟨tg,iter,ifs,0⟩] scope pos) BF) (EE (uA wi ix g tc te) (uq i)):=
 let ⟨h1,h2,h3,h4⟩:=kx b5
 E2 Nc ix hN Ni hx Nj hi jA wU h1 h2 h3 h4 hG hT hE hs hf
section
variable {X:Cx}
def Rb:R2:=fun x y H Q=> ∃a b,x= .str (S a)/\y= .str (S b)/\Q (.bl (decide (a=b))) H
def Rc:R2:=fun x y H Q=> ∃a b,x= .str (S a)/\y= .str (S b)/\Q (.bl (!decide (a=b))) H
theorem iS:iH X (compareOp .Eq) Rb:=by
 intro pins s σ H x y v u Q I rx ry h
 obtain ⟨a,b,rfl,rfl,q⟩:=h
 exact G0 pins s σ H _ _ v u Q I rx ry ⟨rfl,by rw[G7];exact q⟩
theorem BP:iH X (compareOp .NotEq) Rc:=by
 intro pins s σ H x y v u Q I rx ry h
 obtain ⟨a,b,rfl,rfl,q⟩:=h
 exact G1 pins s σ H _ _ v u Q I rx ry ⟨rfl,by rw[G7];exact q⟩
theorem Nt {i j:Int}:decide (V.int i=V.int j)=decide (i=j):=by
 by_cases h:i=j
 ·subst h;simp
 ·rw[decide_eq_false h,decide_eq_false]
  intro q
  exact h (V.int.inj q)
theorem Nu {i j:Bool}:decide (V.bl i=V.bl j)=decide (i=j):=by
 by_cases h:i=j
 ·subst h;simp
 ·rw[decide_eq_false h,decide_eq_false]
  intro q
  exact h (V.bl.inj q)
theorem g9:iH X (compareOp .Eq) (EG fun i j=> .bl (decide (i=j))):=by
 intro pins s σ H x y v u Q I rx ry h
 obtain ⟨a,b,rfl,rfl,q⟩:=h
 exact G0 pins s σ H _ _ v u Q I rx ry ⟨rfl,by rw[Nt];exact q⟩
def Vr (g:Bool->Bool->V):R2:=fun x y H Q=> ∃i j,x= .bl i/\y= .bl j/\Q (g i j) H
theorem BQ:iH X (compareOp .NotEq) (Vr fun i j=> .bl (!decide (i=j))):=by
 intro pins s σ H x y v u Q I rx ry h
 obtain ⟨a,b,rfl,rfl,q⟩:=h
 exact G1 pins s σ H _ _ v u Q I rx ry ⟨rfl,by rw[Nu];exact q⟩
def Rf (f:List Nat->List Nat->Bool):R2:=fun x y H Q=> ∃a b,x= .str (S a)/\y= .str (S b)/\Q (.bl (f a b)) H
theorem rY:iH X (compareOp .Lt) (Rf fun a b=>decide (a<b)):=by
 intro pins s σ H x y v u Q I rx ry h
 obtain ⟨a,b,rfl,rfl,q⟩:=h
 exact zQ pins s σ H _ _ v u Q I rx ry ⟨S a,S b,rfl,rfl,by rw[eS,eS];exact q⟩
end
section
variable {X:Cx} {tg:Expr}
theorem bR (K:PySem.W.Frag) (h:X.K=K):Iz X (M3 K):=by subst h;exact ES
theorem bA (K:PySem.W.Frag) (h:X.K=K):Iz X (M4 K):=by subst h;exact IA
def Nv (K:PySem.W.Frag):List V->Hp->VK->Prop:=fun xs H Q=> ∃p ys,xs=[.ref p]/\(bN K H p ys\/b_ K H p ys)/\Q (.int ys.length) H
theorem bD (K:PySem.W.Frag) (h:X.K=K):eM X (.builtin "len") (Nv K):=by subst h;exact rS
theorem fg (K:PySem.W.Frag) (h:X.K=K):zZ X "str.join" (BJ K):=by subst h;exact BK
def E9 (K:PySem.W.Frag):List V->Hp->VK->Prop:=fun xs H Q=> ∃p ys,xs=[.ref p]/\(bN K H p ys\/b_ K H p ys)/\ ∀l,H l=none->Q (.ref l) (upd H l (.lst ys))
theorem pR (K:PySem.W.Frag) (h:X.K=K):eM X (.type "list") (E9 K):=by subst h;exact rV
theorem BR (K:PySem.W.Frag) (h:X.K=K):KU X (M6 K):=by subst h;exact ET
theorem fW (K:PySem.W.Frag) (h:X.K=K) {l:Expr} {tl:TE} (hl:PE X l tl):PI X tg l (GZ K tl):=by subst h;exact EF hl
theorem ky (K:PySem.W.Frag) (h:X.K=K) {l:Expr} {tl:TE} (hl:PE X l tl):PI X tg l (MI K tl):=by subst h;exact Ij hl
end
section
variable {X:Cx} {o e:Expr} {es:List Expr} {to:TE} {t:TA} {name:Str} {apos fT:Pos} {T id:String} {r:V->List V->Hp->VK->Prop}
theorem e_ (K:PySem.W.Frag) (hK:X.K=K) (pa:PlainAttrs T) (slot:Slot T name id) (IF:typeOf (.builtin id)=pure (.type "method_descriptor")) (hm:zZ X id r) (ho:PE X o to)
  (kh:attributeBase o name X.env (eval o X.env)=eval o X.env:=by rfl) (jy:(apos.endLine==fT.line)=true:=by rfl):PE X (.Call (.Attribute o name apos) [] [] fT) (M7 K T r to):=by
 subst hK
 exact IE pa slot IF hm ho kh jy
theorem b8 (K:PySem.W.Frag) (hK:X.K=K) (pa:PlainAttrs T) (slot:Slot T name id) (IF:typeOf (.builtin id)=pure (.type "method_descriptor")) (hm:zZ X id r) (ho:PE X o to) (ha:PA X (e::es) t)
  (kh:attributeBase o name X.env (eval o X.env)=eval o X.env:=by rfl)
  (BA:((backTo fT (starEach (e::es) X.env)).all (fun x=>!x.1)&&(backToKw fT (keywordEach [] X.env)).all (fun x=>x.1.isSome)
   &&decide ((e::es).length+([]:List Keyword).length+(if ([]:List Keyword).isEmpty then 0 else 1)<30))=true:=by rfl)
  (jy:(apos.endLine==fT.line)=true:=by rfl) (hs:starEach (e::es) X.env=(false,eval e X.env)::starEach es X.env:=by rfl) (wK:(backTo fT (starEach es X.env)).any (·.1)=false:=by rfl):
  PE X (.Call (.Attribute o name apos) (e::es) [] fT) (SQ K T r to t):=by
 subst hK
 exact M8 pa slot IF hm ho ha kh BA jy hs wK
end
mutual
inductive Ba (K:PySem.W.Frag) (H:Hp):V->PyData->Prop
 | fH:Ba K H .fH .none
 | bl (b:Bool):Ba K H (.bl b) (.bool b)
 | int (i:Int):Ba K H (.int i) (.int i)
 | str (x:Str):Ba K H (.str x) (.str x)
 | lst {a:Addr} {xs:List V} {ds:List PyData} (h:bN K H a xs) (r:pT K H xs ds):Ba K H (.ref a) (.list ds)
 | tup {a:Addr} {xs:List V} {ds:List PyData} (h:b_ K H a xs) (r:pT K H xs ds):Ba K H (.ref a) (.tuple ds)
inductive pT (K:PySem.W.Frag) (H:Hp):List V->List PyData->Prop
 | nil:pT K H [] []
 | cons {x:V} {xs:List V} {d:PyData} {ds:List PyData} (h:Ba K H x d) (r:pT K H xs ds):pT K H (x::xs) (d::ds)
end
section
variable {X:Cx} {pins:List (Addr×Obj)} {σ:St} {H:Hp} {s:Shared}
mutual
theorem Ba.reads (I:Inv X pins σ H s): ∀{x:V} {d:PyData} {u:Value},Ba X.K H x d->RelV x u-> ∃as,Reads s.heap u d as
 | _,_,u, .fH,r=>by cases (show u=Value.none from r);exact ⟨_, .none⟩
 | _,_,u, .bl b,r=>by cases (show u=Value.bool b from r);exact ⟨_, .bool b⟩
 | _,_,u, .int i,r=>by obtain ⟨t,rfl⟩:=r;exact ⟨_, .int i t⟩
 | _,_,u, .str x,r=>by obtain ⟨t,rfl⟩:=r;exact ⟨_, .str x t⟩
 | _,_,u, .lst (a:=a) h q,r=>by
  cases (show u=Value.ref a from r)
  obtain ⟨aJ,rv,pl,_⟩:=I.list h
  obtain ⟨as,ra⟩:=pT.reads I q rv
  obtain ⟨o,ho,hc,n,hd⟩:=pl.isList
  exact ⟨_, .list ho hc hd (by simpa using ra)⟩
 | _,_,u, .tup (a:=a) h q,r=>by
  cases (show u=Value.ref a from r)
  obtain ⟨aJ,rv,pl,_⟩:=I.tuple h
  obtain ⟨as,ra⟩:=pT.reads I q rv
  obtain ⟨o,ho,hc,n,hd⟩:=pl
  exact ⟨_, .tuple ho hc hd (by simpa using ra)⟩
theorem pT.reads (I:Inv X pins σ H s): ∀{xs:List V} {ds:List PyData} {us:List Value},pT X.K H xs ds->Vals xs us-> ∃as,ReadsAll s.heap us ds as
 | _,_,us, .nil,r=>by cases r;exact ⟨_, .nil⟩
 | _,_,us, .cons h q,r=>by
  cases r with
  | cons r1 r2=>
   obtain ⟨as,ra⟩:=Ba.reads I h r1
   obtain ⟨bs,rb⟩:=pT.reads I q r2
   exact ⟨_, .cons ra rb⟩
end
end
section
variable {X:Cx}
def Rg (K:PySem.W.Frag):R2:=fun x y H Q=> ∃dx dy,Ba K H x dx/\Ba K H y dy/\(dx.canLay0=true/\dy.canLay0=true)/\dx.depth<=60/\Q (.bl (!PyData.eqv dx dy)) H
theorem w5 {k:Nat} (K:PySem.W.Frag) (h:X.K=K) (hr:eQ k X.A):iH X (compareOp .NotEq) (Rg K):=by
 subst h
 intro pins s σ H x y v u Q I rx ry h
 obtain ⟨dx,dy,h1,h2,⟨h3,h4⟩,h5,q⟩:=h
 obtain ⟨as,ra⟩:=h1.reads I rx
 obtain ⟨bs,rb⟩:=h2.reads I ry
 have hu:=hr.units
 exact SeqAt.compareNe_reads ra rb h3 h4 (by omega) ⟨.bl _,H,I,rfl,q⟩
def Nw (K:PySem.W.Frag) (ta:TE):TT:=fun σ H Q=>ta σ H fun x H'=> ∃p xs,x= .ref p/\bN K H' p xs/\Q (!xs.isEmpty) H'
theorem E_ {a:Expr} {ta:TE} (K:PySem.W.Frag) (h:X.K=K) (ha:PE X a ta) (he: ∀whole,isTrue a X.env whole=(do let v <-whole;standAt a.pos;holding [v] (truthy v)):=by intro _;rfl):PT X a (Nw K ta):=by
 subst h
 intro pins s σ H Q I hw
 refine isTrue_plain (cx (ha pins s σ H _ I hw) fun v s1 ⟨x,H1,I1,r1,q1⟩=>?_) (he _)
 obtain ⟨p,xs,rfl,hq,q⟩:=q1
 exact Iq pins s1 σ H1 _ v Q I1 r1 ⟨_, .inl ⟨xs,hq,rfl⟩,q⟩
theorem kz (K:PySem.W.Frag) (h:X.K=K) {es:List Expr} {k:Nat} {t:GW} {n:Nat} {pos:Pos} (hc:X.calm=true) (hs:MD X es t)
  (hn:(assignEach es X.env).length=n:=by rfl) (mD:(assignEach es X.env).findIdx? (·.1)=none:=by rfl):PG X (.Tuple es k pos) (MH K n t):=by
 subst h
 exact Ih hc hs hn mD
end
noncomputable def cV (a b:List Nat):List Nat:=if b<a then b else a
noncomputable def cq:List Nat->List (List Nat)->List Nat
 | a,[]=>a
 | a,b::r=>cq (cV a b) r
theorem argBest_lt (bt:Nat->Nat->Bool): ∀n,argBest bt n<=n
 | 0=>SY _
 | n+1=>by
  unfold argBest
  split
  ·exact SY _
  ·exact Nat.le_succ_of_le (argBest_lt bt n)
section
variable {X:Cx}
end
section
variable {X:Cx}
theorem yE (K:PySem.W.Frag) (h:X.K=K):iH X (compareOp .NotIn) (SO K true):=by subst h;exact rR
end
noncomputable def dN (n:Nat) (l:List Nat):List Nat:=(List.replicate n l).flatten
theorem eT (n:Nat) (l:List Nat):dN (n+1) l=l++dN n l:=by unfold dN;rw[Qbb,ZI]
theorem w6 (n:Nat) (l:List Nat):dN (n+1) l=dN n l++l:=by unfold dN;rw[List.replicate_succ',List.flatten_append,ZI,List.flatten_nil,YW]
theorem uE (n:Nat) (l:List Nat):(dN n l).length=n*l.length:=by
 induction n with
 | zero=>simp[dN]
 | succ n ih=>rw[eT,KW,ih,ZS,Qbo]
theorem qE (l:List Nat): ∀(n:Nat) (acc:Array Nat),((List.replicate n (S l).cps).foldl (· ++ ·) acc).toList=acc.toList++dN n l
 | 0,acc=>by simp[dN]
 | n+1,acc=>by
  rw[Qbb,ZC,qE l n,eT]
  simp[S]
def Ny:R2:=fun x y H Q=> ∃(l:List Nat) (i:Int),x= .str (S l)/\y= .int i/\(0<=i/\i<=1000000)/\l.length*i.toNat<=sizeLine/\Q (.str (S (dN i.toNat l))) H
theorem rZ {X:Cx}:iH X (binaryOp .Mult) Ny:=by
 intro pins s σ H x y v u Q I rx ry h
 obtain ⟨l,i,rfl,rfl,⟨h0,h1⟩,hz,q⟩:=h
 obtain ⟨t,rfl⟩:=rx
 obtain ⟨t',rfl⟩:=ry
 have hn:=eO
 have Rh:(S l).length=l.length:=b7 l
 have Ri:(l.length:Int)*i<=2 ^ 63 - 1:=by
  have e:((l.length*i.toNat:Nat):Int)=(l.length:Int)*i:=by rw[Qa4,Int.toNat_of_nonneg h0]
  have:((l.length*i.toNat:Nat):Int)<=(sizeLine:Int):=by exact_mod_cast hz
  rw[<-e];omega
 refine P.mul_str (x:=S l) (n:=i) (t:=t) (u:=t') (by
  have e1:decide (i< -(2 ^ 63:Int))=false:=decide_eq_false (by omega)
  have e2:decide (i ≥ 2 ^ 63)=false:=decide_eq_false (by omega)
  rw[e1,e2];rfl) (fun z _=>?_) (fun z _=>?_) ?_
 ·rw[Rh]
  have:(l.length:Int)<=(2 ^ 63 - 1) / i:=(Int.le_ediv_iff_mul_le (by omega)).mpr Ri
  omega
 ·rw[Rh]
  show Builtin.Str.tooLong _=false
  unfold Builtin.Str.tooLong
  exact decide_eq_false (by omega)
 ·by_cases z:i<1
  ·rw[if_pos z]
   have e:i.toNat=0:=by omega
   rw[e]at q
   exact ⟨by decide, .str _,H,I.tok _,⟨_,rfl⟩,q⟩
  ·rw[if_neg z]
   by_cases z2:(i==1||(S l).length==0)=true
   ·rw[if_pos z2]
    have e:dN i.toNat l=l:=by
     rcases Bool.or_eq_true _ _ |>.mp z2 with e | e
     ·have e:i=1:=by simpa using e
      subst e
      show dN 1 l=l
      rw[eT];simp[dN]
     ·have e:l.length=0:=by rw[Rh]at e;simpa using e
      have e:l=[]:=Y0.mp e
      subst e
      unfold dN
      simp
    rw[e]at q
    exact ⟨.str _,H,I,⟨_,rfl⟩,q⟩
   ·rw[if_neg z2]
    have e:(⟨(List.replicate i.toNat (S l).cps).foldl (· ++ ·) #[]⟩:Str)=S (dN i.toNat l):=by
     have:=qE l i.toNat #[]
     show _=(⟨(dN i.toNat l).toArray⟩:Str)
     congr 1
     apply Qao.mp
     rw[this]
     simp
    rw[e]
    refine ⟨?_, .str _,H,I.tok _,⟨_,rfl⟩,q⟩
    rw[b7,uE,Zk]
    exact hz
section
variable {X:Cx}
end
section
variable {X:Cx} {pins:List (Addr×Obj)} {σ:St} {H:Hp} {s:Shared} {h':Heap}
theorem Inv.oa {t':Nat} {ch:List Addr} {T:Addr} {ob:HO} (I:Inv X pins σ H s) (k: ∀b o,b∉ch->s.heap.get? b=some o->h'.get? b=some o) (hf: ∀b∈ch,mP X pins H b)
  (hT:s.heap.objs.size<=T) (new:cX X.prog X.w (upd H T ob) h' T ob):Inv X pins σ (upd H T ob) { s with heap:=h',toks:=t' }:=by
 have hn:=I.b5.fresh hT
 have GS: ∀b u,H b=some u->b∉ch:=fun b u e z=>by rw[(hf b z).1]at e;cases e
 have neT: ∀b o,s.heap.get? b=some o->b≠T:=fun b o e z=>absurd (Yr (Yh e) hT) (by rw[z];exact YK _)
 refine I.step (g':=s.gens) (d':=s.drawn) (ch:=ch) (fun b hb=>?_) (fun b o _ _ hc e _=>k b o hc e) (fun b o _ _ hc e _=>⟨o.slots,k b o hc e⟩) (fun b o _ e n=>by rw[aC (neT b o e)];exact n)
  (fun b o hc e=>⟨o,k b o hc e⟩) (fun b xs e=>by rw[aC (aA e hn)];exact e) (fun b o u e=>by rw[aC (aA e hn)];exact e) (fun b ps e=>⟨#[],by rw[aC (aA e hn),e];simp⟩) (fun m hm=>?_) (fun b u e=>?_) I.bare
 ·obtain ⟨_,h2,_,h4,h5,h6⟩:=hf b hb
  exact ⟨h4,h2,h5,h6⟩
 ·obtain ⟨o,es,ep,ho,r⟩:=hm
  exact ⟨o,es,ep,k _ o (fun z=>(hf _ z).2.1 rfl) ho,r⟩
 ·by_cases hb:b=T
  ·subst hb;rw[ah]at e;cases e;exact new
  ·rw[aC hb]at e
   refine (I.b5 b u e).uk (fun c v hc q=>k c v ?_ q) (fun c q=>by rw[aC (aA q hn)];exact q) fun c xs q=>by rw[aC (aA q hn)];exact q
   rcases hc with z | z
   ·rw[z];exact GS b u e
   ·exact GS c _ z
theorem Inv.r6 {t':Nat} {ch:List Addr} (I:Inv X pins σ H s) (k: ∀b o,b∉ch->s.heap.get? b=some o->h'.get? b=some o) (hf: ∀b∈ch,mP X pins H b):Inv X pins σ H { s with heap:=h',toks:=t' }:=by
 have GS: ∀b u,H b=some u->b∉ch:=fun b u e z=>by rw[(hf b z).1]at e;cases e
 refine I.step (g':=s.gens) (d':=s.drawn) (ch:=ch) (fun b hb=>?_) (fun b o _ _ hc e _=>k b o hc e) (fun b o _ _ hc e _=>⟨o.slots,k b o hc e⟩) (fun b o _ e n=>n)
  (fun b o hc e=>⟨o,k b o hc e⟩) (fun b xs e=>e) (fun b o u e=>e) (fun b ps e=>⟨#[],by rw[e];simp⟩) (fun m hm=>?_) (fun b u e=>?_) I.bare
 ·obtain ⟨_,h2,_,h4,h5,h6⟩:=hf b hb
  exact ⟨h4,h2,h5,h6⟩
 ·obtain ⟨o,es,ep,ho,r⟩:=hm
  exact ⟨o,es,ep,k _ o (fun z=>(hf _ z).2.1 rfl) ho,r⟩
 ·refine (I.b5 b u e).uk (fun c v hc q=>k c v ?_ q) (fun c q=>q) fun c xs q=>q
  rcases hc with z | z
  ·rw[z];exact GS b u e
  ·exact GS c _ z
end
noncomputable def Nz (l:List Nat):It:=⟨fun i _=>i<l.length,fun i H x H'=> ∃T c,l[i]? =some c/\x= .ref T/\H T=none/\H'=upd H T (.tup [.int i, .str (S [c])]),fun i _=>l.length<=i⟩
theorem qF {prog:Program} {w:World} {A:Around} (hh:A.handled=none) (it:Addr) (x:Str) (t:Tok):
  Draws prog w A it [it] x.cps.size (fun i v=> ∃c u,x.cps[i]? =some c/\v= .str ⟨#[c]⟩ u) (fun i h=>h.IsStrIter it (strIterType x) x t i):=by
 by_cases ha:x.cps.all (· <128)=true
 ·have et:strIterType x="str_ascii_iterator":=by unfold strIterType;rw[if_pos ha]
  rw[et];exact Draws.strAscii hh it x t
 ·have et:strIterType x="str_iterator":=by unfold strIterType;rw[if_neg ha]
  rw[et];exact Draws.strWide hh it x t
theorem w9 {P:Program} {w:World} {K:PySem.W.Frag} {elts:List Expr} {k:Nat} {pos:Pos} (e it:Addr) (yF:e≠it) (l:List Nat) (t:Tok):
  Turn P w K (.Tuple elts k pos) (Nz l) [e,it] e (fun i h=>i<=l.length/\(∃old,IsEnum h e it i old)/\h.IsStrIter it (strIterType (S l)) (S l) t i) where
 mem:=by simp
 obj:=fun i h st b hb=>by
  obtain ⟨_,⟨old,he⟩,o,ho,hc,hd⟩:=st
  rcases Vi.mp hb with z | z
  ·rw[z];exact ⟨_,he,fun v z=>by cases z⟩
  ·rw[Vk.mp z];exact ⟨o,ho,fun v z=>by rw[hd]at z;cases z⟩
 keep:=fun i h h' st kp=>by
  obtain ⟨h1,⟨old,he⟩,o,ho,r⟩:=st
  exact ⟨h1,⟨old,kp e (by simp) _ he⟩,o,kp it (by simp) o ho,r⟩
 item:=by
  intro X hP hw hK hc i pins s σ H E I hf st hg
  subst hP hw hK
  obtain ⟨_,vW,vU⟩:=st
  have D:=qF (prog:=X.prog) (w:=X.w) (A:=X.A.in1) (I.ok.hd hc) it (S l) t
  have W:=WalksT.enumerateD D e yF (by simpa using yF) (by simp)
  have hi:i<(S l).cps.size:=by rw[lK];exact hg
  refine W.item i s _ _ hi ⟨vW,vU⟩ fun T vals h' tk NA hT BS uF hk=>⟨_,rfl,?_⟩
  refine W.go elts k pos i T { s with heap:=h',toks:=tk } _ _ uF fun h2 uG w_=>?_
  obtain ⟨tt,x,⟨c,u,Rj,rfl⟩,rfl⟩:=NA
  have Ha:T∉[e,it]:=W.apart i T h' uF
  have uH:h2.IsTuple T #[.int i tt, .str ⟨#[c]⟩ u]:=by
   obtain ⟨o,ho,r⟩:=BS
   exact ⟨o,w_ T o Ha ho,r⟩
  have hl:l[i]? =some c:=by simpa [S]using Rj
  refine ⟨.ref T,upd H T (.tup [.int i, .str (S [c])]),?_,rfl,⟨T,c,hl,rfl,I.b5.fresh hT,rfl⟩,⟨hg,uG.1,uG.2⟩,fun b hb=>?_⟩
  ·refine I.oa (t':=tk) (h':=h2) (fun b o hb y=>w_ b o hb (hk b o hb y)) hf hT ?_
   exact ⟨by show 2<=sizeLine;decide,[.int i tt, .str ⟨#[c]⟩ u], .cons ⟨tt,rfl⟩ (.cons ⟨u,rfl⟩ .nil),uH⟩
  ·rw[aC (fun z:b=T=>Ha (z▸hb))];exact (hf b hb).1
 done:=by
  intro X hP hw hK hc i pins s σ H E I hf st hg
  subst hP hw hK
  obtain ⟨h1,vW,vU⟩:=st
  have e1:i=l.length:=Qa2 h1 hg
  have D:=qF (prog:=X.prog) (w:=X.w) (A:=X.A.in1) (I.ok.hd hc) it (S l) t
  have W:=WalksT.enumerateD D e yF (by simpa using yF) (by simp)
  refine W.done s _ _ ?_ fun h' tk hk=>⟨rfl,I.r6 (t':=tk) hk hf⟩
  rw[lK, <-e1]
  exact ⟨vW,vU⟩
 self:=fun _ _ s _ _ st h=>by
  obtain ⟨_,⟨old,he⟩,_⟩:=st
  exact wpAny_pyIter_enum he h
def I_ (ta:TA):TI:=fun σ H R=>ta σ H fun vs H1=> ∃l,vs=[.str (S l)]/\R (Nz l) H1
theorem BU {X:Cx} {elts:List Expr} {k:Nat} {pos':Pos} {a:Expr} {ta:TA} {p pos:Pos} (hg:Gl X "enumerate") (hm:X.mg "enumerate"=none) (ha:PA X [a] ta) (hs:starEach [a] X.env=[(false,eval a X.env)]:=by rfl):PI X (.Tuple elts k pos') (.Call (.Name "enumerate" p) [a] [] pos) (I_ ta):=by
 intro pins s σ H R I h
 refine Call_ (gv I hg hm boot_enumerate (YL (cx (ha pos pins s σ H _ I h) fun us s1 ⟨vs,H1,I1,r1,q1⟩=>?_) hs rfl))
 obtain ⟨l,rfl,q⟩:=q1
 obtain ⟨u,rfl,t,rfl⟩:=vals1 r1
 refine call_enumerate_str fun h' he hit hsz hk=>?_
 refine wpAny_pyIter_enum he ?_
 refine ⟨s1.heap.objs.size+1,[s1.heap.objs.size+1,s1.heap.objs.size],_,_,H1,rfl,I1.kept (t':=s1.toks) hk,w9 _ _ (Qaj _) l t,⟨Xy _,⟨_,he⟩,hit⟩,fun b hb=>?_,q⟩
 have lr:s1.heap.objs.size<=b:=by
  rcases Vi.mp hb with z | z
  ·rw[z];exact Zu _
  ·rw[Vk.mp z];exact SY _
 exact I1.pL lr (I1.b5.fresh lr)
theorem BV {l:List Nat} {g:TG} {tb:TS} {D:Ends} {σ:St} {H:Hp} (Pv:Nat->St->Hp->Prop) (h0:Pv 0 σ H)
  (hs: ∀i c σ H T,l[i]? =some c->Pv i σ H->H T=none->g (.ref T) σ (upd H T (.tup [.int i, .str (S [c])])) fun σ2 H2=>tb { D with nx:=Pv (i+1),ct:=Pv (i+1),bk:=D.nx } σ2 H2) (hd: ∀σ H,Pv l.length σ H->D.nx σ H):
  ∃W:Nat->Nat->St->Hp->Prop,(∃m,W 0 m σ H)/\ ∀i m σ H,W i m σ H->
   ((Nz l).stop i H/\D.nx σ H)\/((Nz l).go i H/\ ∃N:St->Hp->Prop,(∀σ' H',N σ' H'-> ∃m',m'<m/\W (i+1) m' σ' H')/\ ∀x H',(Nz l).A8 i H x H'->g x σ H' fun σ2 H2=>tb { D with nx:=N,ct:=N,bk:=D.nx } σ2 H2):=by
 refine ⟨fun i m σ H=>m=l.length - i/\i<=l.length/\Pv i σ H,⟨l.length,by simp,Xy _,h0⟩,?_⟩
 rintro i m σ H ⟨rfl,hi,p⟩
 by_cases dB:i<l.length
 ·refine .inr ⟨dB,Pv (i+1),fun σ' H' p'=>⟨l.length - (i+1),by omega,rfl,dB,p'⟩,fun x H' y=>?_⟩
  obtain ⟨T,c,hc,rfl,hn,rfl⟩:=y
  exact hs i c σ _ T hc p hn
 ·have e:i=l.length:=by omega
  subst e
  exact .inl ⟨SY _,hd σ H p⟩
section
variable {X:Cx}
theorem Fb {ls:List (List Nat)}: ∀{aJ:List Value},Vals (ls.map fun l=>V.str (S l)) aJ->StrsAre aJ (ls.map S):=by
 induction ls with
 | nil=>intro aJ r;cases r;exact .nil
 | cons l ls ih=>
  intro aJ r
  cases r with
  | cons r1 r2=>
   obtain ⟨t,rfl⟩:=r1
   exact .cons _ t (ih r2)
theorem yG: ∀{aJ:List Value} {ss:List Str},StrsAre aJ ss->Vals ((ss.map fun x=>x.cps.toList).map fun l=>V.str (S l)) aJ
 | _,_, .nil=> .nil
 | _,_, .cons x t h=> .cons ⟨t,by rw[<-Nl]⟩ (yG h)
theorem qG: ∀(p:Str) (r:List Str),risingS p r=true->(p::r).Pairwise fun a b=> ¬b.cps.toList<a.cps.toList
 | p,[],_=>List.pairwise_singleton _ _
 | p,x::r,h=>by
  have h':(!ltCps x.cps.toList p.cps.toList&&risingS x r)=true:=h
  rw[YH,ltCps_eq]at h'
  have h1: ¬x.cps.toList<p.cps.toList:=by simpa using h'.1
  have ih:=qG x r h'.2
  refine Zh.mpr ⟨fun y hy=>?_,ih⟩
  rcases Vi.mp hy with z | z
  ·rw[z];exact h1
  ·exact List.le_trans (show p.cps.toList<=x.cps.toList from h1) (show x.cps.toList<=y.cps.toList from List.rel_of_pairwise_cons ih z)
theorem Ab {ss:List Str} (h:sortedS ss=true):(ss.map fun x=>x.cps.toList).Pairwise fun a b=> ¬b<a:=by
 rw[YY]
 cases ss with
 | nil=>exact List.Pairwise.nil
 | cons x r=>exact qG x r h
def Ja (K:PySem.W.Frag):List V->Hp->VK->Prop:=fun xs H Q=> ∃(p:Addr) (ls:List (List Nat)),xs=[.ref p]/\bN K H p (ls.map fun l=>V.str (S l))/\ls.length<64/\ ∀(q:Addr) (Rk:List (List Nat)),H q=none->Rk.Perm ls->(Rk.Pairwise fun a b=> ¬b<a)->Q (.ref q) (upd H q (.lst (Rk.map fun l=>V.str (S l))))
theorem r9 (K:PySem.W.Frag) (h:X.K=K):eM X (.builtin "sorted") (Ja K):=by
 subst h
 intro pins s σ H xs us Q I r h
 obtain ⟨p,ls,rfl,hq,hn,q⟩:=h
 obtain ⟨u,rfl,ru⟩:=vals1 r
 cases ru
 obtain ⟨aJ,rv,pl,hz⟩:=I.list hq
 have hlen:aJ.length=ls.length:=by rw[<-rv.length,Pd]
 refine sorted_strs (l:=p) (vs:=aJ) (ss:=ls.map S) pl.isList (Fb rv) (by omega) fun out Bb h1 h2 h3=>?_
 obtain ⟨e,he⟩:=sortedAll_at s.heap aJ out
 have uI:(Bb.map fun x=>x.cps.toList).Perm ls:=by
  have:=h2.map fun x:Str=>x.cps.toList
  rw[YT]at this
  have e2:ls.map ((fun x:Str=>x.cps.toList) ∘ S)=ls:=by
   have: ∀l∈ls,((fun x:Str=>x.cps.toList) ∘ S) l=l:=fun l _=>eS l
   calc ls.map _=ls.map id:=Z6 this
    _=ls:=Qab ls
  rwa [e2]at this
 have vV:=uI.length_eq
 have Vs:(64:Nat)<sizeLine:=by decide
 have NB:((Bb.map fun x=>x.cps.toList).map fun l=>V.str (S l)).length<=sizeLine:=by rw[Pd,vV];omega
 refine ⟨.ref (s.heap.objs.size+1),_,I.laid (t':=s.toks) (a:=s.heap.objs.size+1) (o:= .lst ((Bb.map fun x=>x.cps.toList).map fun l=>V.str (S l))) (fun b o e=>sortedAll_old e) (Zu _) ⟨NB,out.toList,e,yG h1,by simpa [seqObj]using he⟩,rfl,q _ _ (I.b5.fresh (Zu _)) uI (Ab h3)⟩
end
section
variable {X:Cx}
theorem Fc {ls:List (List Nat)} {l:List Nat} (h:ls.Perm (l.map fun c=>[c])): ∃l':List Nat,ls=l'.map (fun c=>[c])/\l'.Perm l:=by
 refine ⟨ls.flatten,?_,?_⟩
 ·have hs: ∀x∈ls, ∃c,x=[c]:=fun x hx=>by
   obtain ⟨c,_,e⟩:=Yp.mp (h.mem_iff.mp hx)
   exact ⟨c,e.symm⟩
  clear h
  induction ls with
  | nil=>rfl
  | cons x ls ih=>
   obtain ⟨c,rfl⟩:=hs x Vj
   rw[ZI,X9, <-ih fun y hy=>hs y (SX _ hy)]
   rfl
 ·have:=h.flatten
  have e:(l.map fun c=>[c]).flatten=l:=by
   clear h this
   induction l with
   | nil=>rfl
   | cons c l ih=>rw[Ym,ZI,ih];rfl
  rwa [e]at this
theorem Fd {l:List Nat} (h:(l.map fun c=>[c]).Pairwise fun a b=> ¬b<a):l.Pairwise fun a b=>a<=b:=by
 rw[YY]at h
 refine h.imp fun {a b} z=>?_
 by_cases y:a<=b
 ·exact y
 ·exact absurd (Qa8.mpr (.inl (by omega))) z
end
section
variable {X:Cx}
end
section
variable {prog:Program} {w:World} {A:Around} {E:Value->Shared->Prop} {s:Shared}
theorem xa {it tp:Addr} {j:Nat} {xs:Array Value} {y:Value} {Q:Value->Shared->Prop} (hi:s.heap.IsTupleIter it tp j) (ht:s.heap.IsTuple tp xs) (hy:xs[j]? =some y)
  (q: ∀h2,h2.IsTupleIter it tp (j+1)->Heap.SameBut it s.heap h2->Q y { s with heap:=h2 }):wpAny (model prog w) A (Builtin.SmallTypes.nextOf (.ref it)) Q E s:=by
 obtain ⟨oi,eo,ec,ed⟩:=id hi
 obtain ⟨ot,et,_,nt,dt⟩:=ht
 unfold Builtin.SmallTypes.nextOf
 refine wpAny_bind (wpAny_callSpecial?_slot (name:=Str.ofString "__next__") hi.typeIs F.slot_tuple_iterator_next (wpAny_call_entry F.slot_tuple_iterator_next hi.typeIs F.entry_tuple_iterator_next ?_ (F.args_tuple_iterator_next_1 _)))
 refine wpAny_bind (m:=field (.ref it) 0) (wpAny_field eo ed (x:= .ref tp) rfl ?_)
 show wpAny (model prog w) _ (if (Value.ref tp==Value.none)=true then _ else _) _ E s
 rw[if_neg (show ¬(Value.ref tp==Value.none)=true from Yj)]
 refine wpAny_bind (m:=field (.ref it) 1) (wpAny_field eo ed (x:= .int j 0) rfl ?_)
 refine wpAny_bind (m:=seqItems? (.ref tp)) (wpAny_seqItems et dt ?_)
 simp only[Xx,hy]
 refine wpAny_bind (wpAny_setField eo ed (by simp) (wpAny_pure ⟨y,rfl,wpAny_pure (q _ ⟨_,YQ _ eo (Obj.isFreed_of_fields (Obj.data_mapFields ed _)),(Obj.cls_mapFields ..).trans ec,by rw[Obj.data_mapFields ed];simp[rawInt]⟩ (Qb0 ..))⟩))
theorem Ac {it tp:Addr} {j:Nat} {xs:Array Value} {Q:Value->Shared->Prop} (hh:A.handled=none) (hi:s.heap.IsTupleIter it tp j) (ht:s.heap.IsTuple tp xs) (hy:xs[j]? =none)
  (q: ∀h2 e,Heap.ExtBut it s.heap h2->(∃o,h2.get? e=some o/\o.cls= .type "StopIteration")->E (.ref e) { s with heap:=h2 }):wpAny (model prog w) A (Builtin.SmallTypes.nextOf (.ref it)) Q E s:=by
 obtain ⟨oi,eo,ec,ed⟩:=id hi
 obtain ⟨ot,et,_,nt,dt⟩:=ht
 unfold Builtin.SmallTypes.nextOf
 refine wpAny_bind (wpAny_callSpecial?_slot (name:=Str.ofString "__next__") hi.typeIs F.slot_tuple_iterator_next (wpAny_call_entry F.slot_tuple_iterator_next hi.typeIs F.entry_tuple_iterator_next ?_ (F.args_tuple_iterator_next_1 _)))
 refine wpAny_bind (m:=field (.ref it) 0) (wpAny_field eo ed (x:= .ref tp) rfl ?_)
 show wpAny (model prog w) _ (if (Value.ref tp==Value.none)=true then _ else _) _ E s
 rw[if_neg (show ¬(Value.ref tp==Value.none)=true from Yj)]
 refine wpAny_bind (m:=field (.ref it) 1) (wpAny_field eo ed (x:= .int j 0) rfl ?_)
 refine wpAny_bind (m:=seqItems? (.ref tp)) (wpAny_seqItems et dt ?_)
 simp only[Xx,hy]
 refine wpAny_bind (wpAny_rule (wpAny_bind (wpAny_setField eo ed (by simp) ?_)))
 refine wpAny_bind (m:=newExc (.type "StopIteration") []) ?_
 simp only[newExc,newTuple]
 refine wpAny_bind (wpAny_newObj_type (wpAny_bind (m:=firstArgMember _ _) (wpAny_of_eq (a:=Value.none) (by first | rfl | (simp only[firstArgMember];rfl)) (wpAny_newObj_type ?_ (by size_fits)))) (by size_fits))
 simp only[raiseNew]
 refine wpAny_bind (wpAny_handled ?_);first | rw[show A.in1.handled=none from hh] | rw[hh]
 exact wpAny_bind (wpAny_pure (wpAny_throw (q _ _ (((Qb0 ..).extBut.push _).push _) ⟨_,Yf _ rfl,rfl⟩)))
theorem mH (hh:A.handled=none) (it tp:Addr) (ne:tp≠it) (xs:Array Value):
  Draws prog w A it [it,tp] xs.size (fun i v=>xs[i]? =some v) (fun i h=>h.IsTupleIter it tp i/\h.IsTuple tp xs) where
 live:=fun _ _ z=>let ⟨o,e,_⟩:=z.1;⟨o,e⟩
 frame:=fun _ _ _ z k=>by
  obtain ⟨⟨o,e,r⟩,o2,e2,r2⟩:=z
  exact ⟨⟨o,k it (by simp) o e,r⟩,o2,k tp (by simp) o2 e2,r2⟩
 item:=fun i s Q E hi z q=>xa z.1 z.2 (y:=xs[i]) (by simp[hi]) fun h2 z2 sb=>q _ h2 s.toks (by simp[hi]) ⟨z2,z.2.extBut sb.extBut ne⟩ sb
 done:=fun s Q E z q=>Ac hh z.1 z.2 (by simp) q
theorem uJ (l:Addr) (items:Array Value) (n:Nat) (Rl:Option Addr) (sl:Array (Option Value)):
  Meets (Builtin.«enumerate.__new__» ⟨[.type "enumerate", .ref l],[]⟩) (fun _ R s=>s.heap.get? l=some { cls:= .type "tuple",dict:=Rl,data:= .seq items n,slots:=sl }/\
   R (.ok (.ret (.ref (s.heap.push { cls:= .type "tuple_iterator",data:= .fields #[.ref l, .int 0 0] }).objs.size)))
    { s with heap:=(s.heap.push { cls:= .type "tuple_iterator",data:= .fields #[.ref l, .int 0 0] }).push { cls:= .type "enumerate",data:= .fields #[.none, .bool false, .ref s.heap.objs.size,rawInt 0, .none, .none] } }):=
 .of_wp fun prog w A R s h=>by
  obtain ⟨hp,g,d,tk,os⟩:=s;obtain ⟨hl,q⟩:=h;have Vt:=sub_enumerate
  have hT:Heap.IsTuple (Shared.heap ⟨hp,g,d,tk,os⟩) l items:=⟨_,hl,rfl,n,rfl⟩
  wp_walk using AutoSeq1.wpAny_loadPart' hl
  refine wpAny_stack_any fun st=>wpAny_pure ?_
  split
  ·rename_i c _ _ _ _ _
   cases (c==Value.type "enumerate")<;>(wp_walk using AutoSeq1.wpAny_loadPart' hl,wpAny_pyIter_tuple hT;exact ⟨_,rfl,q⟩)
  ·wp_walk using AutoSeq1.wpAny_loadPart' hl,wpAny_pyIter_tuple hT
   exact ⟨_,rfl,q⟩
theorem xb {l:Addr} {items:Array Value} {Q:Value->Shared->Prop} (hL:s.heap.IsTuple l items)
  (h: ∀h',IsEnum h' (s.heap.objs.size+1) s.heap.objs.size 0 .none->h'.IsTupleIter s.heap.objs.size l 0->(∀b o,s.heap.get? b=some o->h'.get? b=some o)->Q (.ref (s.heap.objs.size+1)) { s with heap:=h' }):
  wpAny (model prog w) A (call (.type "enumerate") [.ref l]) Q E s:=by
 obtain ⟨⟨c,Rl,dt,sl⟩,hl,hc,n,hd⟩:=hL
 cases (show c= .type "tuple" from hc)
 cases (show dt= .seq items n from hd)
 refine callType_new F.called_enumerate (by decide) (F.typeCall_enumerate_1 _) (F.newCall_enumerate_1 _) (fun ob=>F.args_object_init_2 ob _) F.entry_enumerate_new (uJ l items n Rl sl) ⟨hl,?_⟩
 have hz:(s.heap.push { cls:= .type "tuple_iterator",data:= .fields #[.ref l, .int 0 0] }).objs.size=s.heap.objs.size+1:=Z2 ..
 show _/\_
 rw[hz]
 have he:IsEnum ((s.heap.push { cls:= .type "tuple_iterator",data:= .fields #[.ref l, .int 0 0] }).push { cls:= .type "enumerate",data:= .fields #[.none, .bool false, .ref s.heap.objs.size,rawInt 0, .none, .none] }) (s.heap.objs.size+1) s.heap.objs.size 0 .none:=by
  have:=Yf (s.heap.push { cls:= .type "tuple_iterator",data:= .fields #[.ref l, .int 0 0] }) (o:={ cls:= .type "enumerate",data:= .fields #[.none, .bool false, .ref s.heap.objs.size,rawInt 0, .none, .none] }) rfl
  rwa [hz]at this
 exact ⟨⟨_,he,rfl⟩,h _ he ⟨_,S0 _ (Yf _ rfl),rfl,rfl⟩ fun b o x=>S0 _ (S0 _ x)⟩
end
noncomputable def BW (K:PySem.W.Frag) (a:Addr):It:=⟨fun i H=> ∃xs x,b_ K H a xs/\xs[i]? =some x,fun i H x H'=> ∃T y,(∀xs,b_ K H a xs->xs[i]? =some y)/\x= .ref T/\H T=none/\H'=upd H T (.tup [.int i,y]),fun i H=> ∃xs,b_ K H a xs/\xs.length=i⟩
noncomputable def BX (K:PySem.W.Frag) (a:Addr):It:=⟨fun i H=> ∃xs x,bN K H a xs/\xs[i]? =some x,fun i H x H'=> ∃T y,(∀xs,bN K H a xs->xs[i]? =some y)/\x= .ref T/\H T=none/\H'=upd H T (.tup [.int i,y]),fun i H=> ∃xs,bN K H a xs/\xs.length=i⟩
theorem xc {P:Program} {w:World} {K:PySem.W.Frag} {elts:List Expr} {k:Nat} {pos:Pos} (e it a:Addr) (yF:e≠it) (NC:a≠e) (ND:a≠it):
  Turn P w K (.Tuple elts k pos) (BW K a) [e,it] e (fun i h=>(∃old,IsEnum h e it i old)/\h.IsTupleIter it a i) where
 mem:=by simp
 obj:=fun i h st b hb=>by
  obtain ⟨⟨old,he⟩,o,ho,hc,hd⟩:=st
  rcases Vi.mp hb with z | z
  ·rw[z];exact ⟨_,he,fun v z=>by cases z⟩
  ·rw[Vk.mp z];exact ⟨o,ho,fun v z=>by rw[hd]at z;cases z⟩
 keep:=fun i h h' st kp=>by
  obtain ⟨⟨old,he⟩,o,ho,r⟩:=st
  exact ⟨⟨old,kp e (by simp) _ he⟩,o,kp it (by simp) o ho,r⟩
 item:=by
  intro X hP hw hK hc i pins s σ H E I hf st hg
  subst hP hw hK
  obtain ⟨vW,vU⟩:=st
  obtain ⟨xs,x,hq,hx⟩:=hg
  obtain ⟨aJ,rv,p,hz⟩:=I.tuple hq
  obtain ⟨u0,hu,ru⟩:=rv.get hx
  have D:=mH (prog:=X.prog) (w:=X.w) (A:=X.A.in1) (I.ok.hd hc) it a ND aJ.toArray
  have W:=WalksT.enumerateD D e yF (by simp;exact ⟨yF,Ne.symm NC⟩) (by simp)
  have Rm:i<aJ.toArray.size:=by rw[Vl];exact (IQ.mp hu).1
  refine W.item i s _ _ Rm ⟨vW,vU,p⟩ fun T vals h' tk NA hT BS uF hk=>⟨_,rfl,?_⟩
  refine W.go elts k pos i T { s with heap:=h',toks:=tk } _ _ uF fun h2 uG w_=>?_
  obtain ⟨tt,x2,NF,rfl⟩:=NA
  have ex:x2=u0:=by
   rw[List.getElem?_toArray]at NF
   exact Yg (NF.symm.trans hu)
  subst ex
  have Ha:T∉[e,it]:=W.apart i T h' uF
  have uH:h2.IsTuple T #[.int i tt,x2]:=by
   obtain ⟨o,ho,r⟩:=BS
   exact ⟨o,w_ T o Ha ho,r⟩
  refine ⟨.ref T,upd H T (.tup [.int i,x]),?_,rfl,⟨T,x,fun ys hy=>by rw[I.qp hy hq];exact hx,rfl,I.b5.fresh hT,rfl⟩,⟨uG.1,uG.2.1⟩,fun b hb=>?_⟩
  ·refine I.oa (t':=tk) (h':=h2) (fun b o hb y=>w_ b o hb (hk b o hb y)) hf hT ?_
   exact ⟨by show 2<=sizeLine;decide,[.int i tt,x2], .cons ⟨tt,rfl⟩ (.cons ru .nil),uH⟩
  ·rw[aC (fun z:b=T=>Ha (z▸hb))];exact (hf b hb).1
 done:=by
  intro X hP hw hK hc i pins s σ H E I hf st hg
  subst hP hw hK
  obtain ⟨vW,vU⟩:=st
  obtain ⟨xs,hq,hx⟩:=hg
  obtain ⟨aJ,rv,p,hz⟩:=I.tuple hq
  have hl:=rv.length
  have D:=mH (prog:=X.prog) (w:=X.w) (A:=X.A.in1) (I.ok.hd hc) it a ND aJ.toArray
  have W:=WalksT.enumerateD D e yF (by simp;exact ⟨yF,Ne.symm NC⟩) (by simp)
  refine W.done s _ _ ?_ fun h' tk hk=>⟨rfl,I.r6 (t':=tk) hk hf⟩
  have e1:aJ.toArray.size=i:=by rw[Vl];omega
  rw[e1]
  exact ⟨vW,vU,p⟩
 self:=fun _ _ s _ _ st h=>by
  obtain ⟨⟨old,he⟩,_⟩:=st
  exact wpAny_pyIter_enum he h
theorem xf {P:Program} {w:World} {K:PySem.W.Frag} {elts:List Expr} {k:Nat} {pos:Pos} (e it a:Addr) (yF:e≠it) (NC:a≠e) (ND:a≠it):
  Turn P w K (.Tuple elts k pos) (BX K a) [e,it] e (fun i h=>(∃old,IsEnum h e it i old)/\h.IsListIter it a i) where
 mem:=by simp
 obj:=fun i h st b hb=>by
  obtain ⟨⟨old,he⟩,o,ho,hc,hd⟩:=st
  rcases Vi.mp hb with z | z
  ·rw[z];exact ⟨_,he,fun v z=>by cases z⟩
  ·rw[Vk.mp z];exact ⟨o,ho,fun v z=>by rw[hd]at z;cases z⟩
 keep:=fun i h h' st kp=>by
  obtain ⟨⟨old,he⟩,o,ho,r⟩:=st
  exact ⟨⟨old,kp e (by simp) _ he⟩,o,kp it (by simp) o ho,r⟩
 item:=by
  intro X hP hw hK hc i pins s σ H E I hf st hg
  subst hP hw hK
  obtain ⟨vW,vU⟩:=st
  obtain ⟨xs,x,hq,hx⟩:=hg
  obtain ⟨aJ,rv,p,hz⟩:=I.list hq
  obtain ⟨u0,hu,ru⟩:=rv.get hx
  have D:=Draws.list (prog:=X.prog) (w:=X.w) (A:=X.A.in1) (I.ok.hd hc) it a ND aJ.toArray
  have W:=WalksT.enumerateD D e yF (by simp;exact ⟨yF,Ne.symm NC⟩) (by simp)
  have Rm:i<aJ.toArray.size:=by rw[Vl];exact (IQ.mp hu).1
  refine W.item i s _ _ Rm ⟨vW,vU,p.isList⟩ fun T vals h' tk NA hT BS uF hk=>⟨_,rfl,?_⟩
  refine W.go elts k pos i T { s with heap:=h',toks:=tk } _ _ uF fun h2 uG w_=>?_
  obtain ⟨tt,x2,NF,rfl⟩:=NA
  have ex:x2=u0:=by
   rw[List.getElem?_toArray]at NF
   exact Yg (NF.symm.trans hu)
  subst ex
  have Ha:T∉[e,it]:=W.apart i T h' uF
  have uH:h2.IsTuple T #[.int i tt,x2]:=by
   obtain ⟨o,ho,r⟩:=BS
   exact ⟨o,w_ T o Ha ho,r⟩
  refine ⟨.ref T,upd H T (.tup [.int i,x]),?_,rfl,⟨T,x,fun ys hy=>by rw[I.uo hy hq];exact hx,rfl,I.b5.fresh hT,rfl⟩,⟨uG.1,uG.2.1⟩,fun b hb=>?_⟩
  ·refine I.oa (t':=tk) (h':=h2) (fun b o hb y=>w_ b o hb (hk b o hb y)) hf hT ?_
   exact ⟨by show 2<=sizeLine;decide,[.int i tt,x2], .cons ⟨tt,rfl⟩ (.cons ru .nil),uH⟩
  ·rw[aC (fun z:b=T=>Ha (z▸hb))];exact (hf b hb).1
 done:=by
  intro X hP hw hK hc i pins s σ H E I hf st hg
  subst hP hw hK
  obtain ⟨vW,vU⟩:=st
  obtain ⟨xs,hq,hx⟩:=hg
  obtain ⟨aJ,rv,p,hz⟩:=I.list hq
  have hl:=rv.length
  have D:=Draws.list (prog:=X.prog) (w:=X.w) (A:=X.A.in1) (I.ok.hd hc) it a ND aJ.toArray
  have W:=WalksT.enumerateD D e yF (by simp;exact ⟨yF,Ne.symm NC⟩) (by simp)
  refine W.done s _ _ ?_ fun h' tk hk=>⟨rfl,I.r6 (t':=tk) hk hf⟩
  have e1:aJ.toArray.size=i:=by rw[Vl];omega
  rw[e1]
  exact ⟨vW,vU,p.isList⟩
 self:=fun _ _ s _ _ st h=>by
  obtain ⟨⟨old,he⟩,_⟩:=st
  exact wpAny_pyIter_enum he h
def Jb (K:PySem.W.Frag) (ta:TA):TI:=fun σ H R=>ta σ H fun vs H1=> ∃a,vs=[.ref a]/\(∃xs,b_ K H1 a xs)/\R (BW K a) H1
def Jc (K:PySem.W.Frag) (ta:TA):TI:=fun σ H R=>ta σ H fun vs H1=> ∃a,vs=[.ref a]/\(∃xs,bN K H1 a xs)/\R (BX K a) H1
theorem uK {X:Cx} (K:PySem.W.Frag) (hK:X.K=K) {elts:List Expr} {k:Nat} {pos':Pos} {a:Expr} {ta:TA} {p pos:Pos} (hg:Gl X "enumerate") (hm:X.mg "enumerate"=none) (ha:PA X [a] ta) (hs:starEach [a] X.env=[(false,eval a X.env)]:=by rfl):PI X (.Tuple elts k pos') (.Call (.Name "enumerate" p) [a] [] pos) (Jb K ta):=by
 subst hK
 intro pins s σ H R I h
 refine Call_ (gv I hg hm boot_enumerate (YL (cx (ha pos pins s σ H _ I h) fun us s1 ⟨vs,H1,I1,r1,q1⟩=>?_) hs rfl))
 obtain ⟨b,rfl,⟨xs,hq⟩,q⟩:=q1
 obtain ⟨u,rfl,ru⟩:=vals1 r1
 cases ru
 obtain ⟨aJ,rv,pl,hz⟩:=I1.tuple hq
 obtain ⟨ob,eb,_⟩:=id pl
 have dB:b<s1.heap.objs.size:=Yh eb
 refine xb pl fun h' he hit hk=>wpAny_pyIter_enum he ?_
 refine ⟨s1.heap.objs.size+1,[s1.heap.objs.size+1,s1.heap.objs.size],_,_,H1,rfl,I1.kept (t':=s1.toks) hk,xc _ _ b (Qaj _) (Yk (ZH dB)) (Yk dB),⟨⟨_,he⟩,hit⟩,fun c hb=>?_,q⟩
 have lr:s1.heap.objs.size<=c:=by
  rcases Vi.mp hb with z | z
  ·rw[z];exact Zu _
  ·rw[Vk.mp z];exact SY _
 exact I1.pL lr (I1.b5.fresh lr)
theorem BY {X:Cx} (K:PySem.W.Frag) (hK:X.K=K) {elts:List Expr} {k:Nat} {pos':Pos} {a:Expr} {ta:TA} {p pos:Pos} (hg:Gl X "enumerate") (hm:X.mg "enumerate"=none) (ha:PA X [a] ta) (hs:starEach [a] X.env=[(false,eval a X.env)]:=by rfl):PI X (.Tuple elts k pos') (.Call (.Name "enumerate" p) [a] [] pos) (Jc K ta):=by
 subst hK
 intro pins s σ H R I h
 refine Call_ (gv I hg hm boot_enumerate (YL (cx (ha pos pins s σ H _ I h) fun us s1 ⟨vs,H1,I1,r1,q1⟩=>?_) hs rfl))
 obtain ⟨b,rfl,⟨xs,hq⟩,q⟩:=q1
 obtain ⟨u,rfl,ru⟩:=vals1 r1
 cases ru
 obtain ⟨aJ,rv,pl,hz⟩:=I1.list hq
 obtain ⟨ob,eb,_⟩:=id pl.isList
 have dB:b<s1.heap.objs.size:=Yh eb
 refine call_enumerate_list pl.isList fun h' he hit hsz hk=>wpAny_pyIter_enum he ?_
 refine ⟨s1.heap.objs.size+1,[s1.heap.objs.size+1,s1.heap.objs.size],_,_,H1,rfl,I1.kept (t':=s1.toks) hk,xf _ _ b (Qaj _) (Yk (ZH dB)) (Yk dB),⟨⟨_,he⟩,hit⟩,fun c hb=>?_,q⟩
 have lr:s1.heap.objs.size<=c:=by
  rcases Vi.mp hb with z | z
  ·rw[z];exact Zu _
  ·rw[Vk.mp z];exact SY _
 exact I1.pL lr (I1.b5.fresh lr)
theorem qH {K:PySem.W.Frag} {a:Addr} {xs:List V} {g:TG} {tb:TS} {D:Ends} {σ:St} {H:Hp} (Pv:Nat->St->Hp->Prop) (h0:Pv 0 σ H) (hl: ∀i σ H,i<=xs.length->Pv i σ H->b_ K H a xs)
  (hs: ∀i x σ H T,xs[i]? =some x->Pv i σ H->H T=none->g (.ref T) σ (upd H T (.tup [.int i,x])) fun σ2 H2=>tb { D with nx:=Pv (i+1),ct:=Pv (i+1),bk:=D.nx } σ2 H2) (hd: ∀σ H,Pv xs.length σ H->D.nx σ H):
  ∃W:Nat->Nat->St->Hp->Prop,(∃m,W 0 m σ H)/\ ∀i m σ H,W i m σ H->
   ((BW K a).stop i H/\D.nx σ H)\/((BW K a).go i H/\ ∃N:St->Hp->Prop,(∀σ' H',N σ' H'-> ∃m',m'<m/\W (i+1) m' σ' H')/\ ∀x H',(BW K a).A8 i H x H'->g x σ H' fun σ2 H2=>tb { D with nx:=N,ct:=N,bk:=D.nx } σ2 H2):=by
 refine ⟨fun i m σ H=>m=xs.length - i/\i<=xs.length/\Pv i σ H,⟨xs.length,by simp,Xy _,h0⟩,?_⟩
 rintro i m σ H ⟨rfl,hi,p⟩
 have hq:=hl i σ H hi p
 by_cases dB:i<xs.length
 ·refine .inr ⟨⟨xs,xs[i],hq,by simp[dB]⟩,Pv (i+1),fun σ' H' p'=>⟨xs.length - (i+1),by omega,rfl,dB,p'⟩,fun x H' y=>?_⟩
  obtain ⟨T,z,hz,rfl,hn,rfl⟩:=y
  exact hs i z σ _ T (hz xs hq) p hn
 ·have e:i=xs.length:=by omega
  subst e
  exact .inl ⟨⟨xs,hq,rfl⟩,hd σ H p⟩
theorem Ad {K:PySem.W.Frag} {a:Addr} {xs:List V} {g:TG} {tb:TS} {D:Ends} {σ:St} {H:Hp} (Pv:Nat->St->Hp->Prop) (h0:Pv 0 σ H) (hl: ∀i σ H,i<=xs.length->Pv i σ H->bN K H a xs)
  (hs: ∀i x σ H T,xs[i]? =some x->Pv i σ H->H T=none->g (.ref T) σ (upd H T (.tup [.int i,x])) fun σ2 H2=>tb { D with nx:=Pv (i+1),ct:=Pv (i+1),bk:=D.nx } σ2 H2) (hd: ∀σ H,Pv xs.length σ H->D.nx σ H):
  ∃W:Nat->Nat->St->Hp->Prop,(∃m,W 0 m σ H)/\ ∀i m σ H,W i m σ H->
   ((BX K a).stop i H/\D.nx σ H)\/((BX K a).go i H/\ ∃N:St->Hp->Prop,(∀σ' H',N σ' H'-> ∃m',m'<m/\W (i+1) m' σ' H')/\ ∀x H',(BX K a).A8 i H x H'->g x σ H' fun σ2 H2=>tb { D with nx:=N,ct:=N,bk:=D.nx } σ2 H2):=by
 refine ⟨fun i m σ H=>m=xs.length - i/\i<=xs.length/\Pv i σ H,⟨xs.length,by simp,Xy _,h0⟩,?_⟩
 rintro i m σ H ⟨rfl,hi,p⟩
 have hq:=hl i σ H hi p
 by_cases dB:i<xs.length
 ·refine .inr ⟨⟨xs,xs[i],hq,by simp[dB]⟩,Pv (i+1),fun σ' H' p'=>⟨xs.length - (i+1),by omega,rfl,dB,p'⟩,fun x H' y=>?_⟩
  obtain ⟨T,z,hz,rfl,hn,rfl⟩:=y
  exact hs i z σ _ T (hz xs hq) p hn
 ·have e:i=xs.length:=by omega
  subst e
  exact .inl ⟨⟨xs,hq,rfl⟩,hd σ H p⟩
section
variable {X:Cx}
end
section
variable {X:Cx}
def Jd (K:PySem.W.Frag):List V->Hp->VK->Prop:=fun xs H Q=> ∃p ys,xs=[.ref p]/\((bN K H p ys/\ ∀l,H l=none->Q (.ref l) (upd H l (.tup ys)))\/(b_ K H p ys/\Q (.ref p) H))
theorem eA (K:PySem.W.Frag) (h:X.K=K):eM X (.type "tuple") (Jd K):=by subst h;exact pN
theorem BZ (K:PySem.W.Frag) (h:X.K=K):iH X (binaryOp .Add) (G5 K):=by subst h;exact EO
end
theorem oe {K:PySem.W.Frag} {a:Addr} {xs:List V} {σc:St} {g:TG} {tc:TT} {te:TE} {Q:VK} {H1:Hp} (Pv:Nat->List V->Hp->Prop) (hn:xs.length<sizeLine) (hl: ∀i acc H,Pv i acc H->b_ K H a xs) (h0:Pv 0 [] H1)
  (hs: ∀(i:Nat) (x:V) (acc:List V) (H:Hp) (Nx:List V->Hp->Prop),i<xs.length->xs[i]? =some x->acc.length<=i->Pv i acc H->(∀cA H',cA.length<=i+1->Pv (i+1) cA H'->Nx cA H')->
   g x σc H fun σ2 H2=>Wk σc σ2/\tc σ2 H2 fun b H3=>if b=true then te σ2 H3 fun v H4=>Nx (acc++[v]) H4 else Nx acc H3)
  (hd: ∀acc H D,acc.length<=xs.length->Pv xs.length acc H->H D=none->Q (.ref D) (upd H D (.lst acc))):qz (KR K a) σc g tc te Q H1:=
 ng (xs:=fun i x=>xs[i]? =some x) Pv hn (fun i acc H h p=>⟨xs,xs[i],hl i acc H p,by simp[h]⟩) (fun acc H p=>⟨xs,hl _ acc H p,SY _⟩) (fun i acc H x H' h p y=>⟨y.1,y.2 xs (hl i acc H p)⟩) h0 hs hd
theorem Fe (l a b:Nat):Bz (.str (S [l])) [.str (S [a]), .str (S [b])]=(decide (l=a)||decide (l=b)):=by
 have key: ∀c:Nat,Bx (.str (S [c])) (.str (S [l]))=decide (l=c):=fun c=>by
  show decide (S [c]=S [l])=_
  refine decide_eq_decide.mpr ⟨fun z=>?_,fun z=>by rw[z]⟩
  have:=congrArg (fun x:Str=>x.cps.toList) z
  simpa [S,eq_comm]using this
 unfold Bz
 rw[Ze,Ze,List.any_nil,key,key,Qbi]
def fJ (H H':Hp):Prop:= ∀c xs,H c=some (.tup xs)->H' c=some (.tup xs)
theorem fJ.trans {H H1 H2:Hp} (a:fJ H H1) (b:fJ H1 H2):fJ H H2:=fun c xs h=>b c xs (a c xs h)
theorem fJ.of {H H':Hp} (s:aq H H'):fJ H H':=fun c xs h=>s c _ h
theorem fJ.Ff {H:Hp} {p:Addr} {ys:List V} {o:HO} (h:H p=some (.lst ys)):fJ H (upd H p o):=fun c xs e=>by
 rw[aC (fun z=>by rw[z,h]at e;cases e)];exact e
section
variable {prog:Program} {w:World} {A:Around} {E:Value->Shared->Prop} {s:Shared}
end
section
variable {X:Cx}
end
section
variable {prog:Program} {w:World} {A:Around} {E:Value->Shared->Prop} {s:Shared}
noncomputable def bJ:List Int->List Int->Bool
 | [],[]=>false
 | [],_::_=>true
 | _::_,[]=>false
 | a::r,b::t=>if a=b then bJ r t else decide (a<b)
end
section
variable {X:Cx}
end
end L2
namespace HT
open PySem PySem.Spec PyProof.Rows
section
variable {prog:Program} {w:World} {A:Around} {E:Value->Shared->Prop} {s:Shared}
end
end HT
namespace L2
open PySem PySem.Spec PyProof.Rows
section
variable {X:Cx} {e st:Expr} {te:TE} {ts:TO} {pos p2:Pos}
end
section
variable {κ:Type} [DecidableEq κ]
noncomputable def dE (aQ:List (κ×V)) (k:κ):Option V:=(aQ.find? fun kv=>decide (kv.1=k)).map (·.2)
noncomputable def putK (aQ:List (κ×V)) (k:κ) (v:V):List (κ×V):=
 if (aQ.any fun kv=>decide (kv.1=k))=true then aQ.map (fun kv=>if kv.1=k then (kv.1,v) else kv) else aQ++[(k,v)]
theorem cP {p:κ×V} {r:List (κ×V)} {k:κ} (e:p.1=k):dE (p::r) k=some p.2:=by simp[dE,Zj,e]
theorem cE {p:κ×V} {r:List (κ×V)} {k:κ} (e: ¬p.1=k):dE (p::r) k=dE r k:=by simp[dE,Zj,e]
theorem iT (k:κ): ∀aQ:List (κ×V),(aQ.any fun kv=>decide (kv.1=k))=(dE aQ k).isSome
 | []=>rfl
 | p::r=>by
  rw[Ze]
  by_cases e:p.1=k
  ·simp only[cP e,decide_eq_true e,Bool.true_or,Option.isSome_some]
  ·rw[cE e,decide_eq_false e,Qbk];exact iT k r
theorem uL (k j:κ) (y:V): ∀aQ:List (κ×V),dE (aQ.map fun kv=>if kv.1=k then (kv.1,y) else kv) j=(dE aQ j).map fun x=>if j=k then y else x
 | []=>rfl
 | p::r=>by
  have ih:=uL k j y r
  rw[Ym]
  by_cases h:p.1=k
  ·rw[if_pos h]
   by_cases e:p.1=j
   ·rw[cP (p:=(p.1,y)) e,cP e,Qaz,if_pos (e.symm.trans h)]
   ·rw[cE (p:=(p.1,y)) e,cE e,ih]
  ·rw[if_neg h]
   by_cases e:p.1=j
   ·rw[cP (p:=p) e,cP e,Qaz,if_neg (fun z=>h (e.trans z))]
   ·rw[cE (p:=p) e,cE e,ih]
theorem qI (k j:κ) (y:V): ∀aQ:List (κ×V),dE aQ k=none->dE (aQ++[(k,y)]) j=if j=k then some y else dE aQ j
 | [],_=>by
  by_cases e:k=j
  ·rw[if_pos e.symm];exact cP (p:=(k,y)) e
  ·rw[if_neg (fun z=>e z.symm)];exact cE (p:=(k,y)) e
 | p::r,hn=>by
  rw[List.cons_append]
  have hk: ¬p.1=k:=fun z=>by rw[cP z]at hn;cases hn
  rw[cE hk]at hn
  have ih:=qI k j y r hn
  by_cases e:p.1=j
  ·rw[cP e,cP e,if_neg (fun z=>hk (e.trans z))]
  ·rw[cE e,cE e,ih]
theorem B2 (aQ:List (κ×V)) (k j:κ) (y:V):dE (putK aQ k y) j=if j=k then some y else dE aQ j:=by
 unfold putK
 by_cases a:(aQ.any fun kv=>decide (kv.1=k))=true
 ·rw[if_pos a,uL]
  rw[iT]at a
  by_cases e:j=k
  ·obtain ⟨x,hx⟩:=Option.isSome_iff_exists.mp a
   rw[if_pos e,e,hx,Qaz,if_pos rfl]
  ·rw[if_neg e]
   cases dE aQ j with
   | none=>rfl
   | some x=>rw[Qaz,if_neg e]
 ·rw[if_neg a]
  refine qI k j y aQ ?_
  rw[iT]at a
  cases q:dE aQ k with
  | none=>rfl
  | some x=>rw[q]at a;exact (a rfl).elim
theorem gk (aQ:List (κ×V)) (k:κ) (v:V):(putK aQ k v).length<=aQ.length+1:=by
 unfold putK
 split
 ·rw[Pd];omega
 ·rw[KW,Ys,List.length_nil];omega
theorem uM {aQ:List (κ×V)} {k:κ} (v:V) (h:dE aQ k=none):putK aQ k v=aQ++[(k,v)]:=by
 unfold putK
 rw[iT,h]
 exact if_neg (by decide)
theorem lD.Ae {o:Option V} {u:Option Value} (r:lD o u):o.isSome=u.isSome:=by
 cases o with
 | none=>cases u with
  | none=>rfl
  | some _=>exact (show False from r).elim
 | some _=>cases u with
  | none=>exact (show False from r).elim
  | some _=>rfl
theorem KV.val {aQ:List (κ×V)} {vs:List (κ×Value)} (r:KV aQ vs) (k:κ):lD (dE aQ k) (valueAt vs k):=by
 unfold KV at r
 induction r with
 | nil=>exact True.intro
 | @cons p q ps qs h t ih=>
  obtain ⟨h1,h2⟩:=h
  by_cases e:p.1=k
  ·have e':q.1=k:=h1.symm.trans e
   have b:valueAt (q::qs) k=some q.2:=by simp[valueAt,Zj,e']
   rw[cP e,b];exact h2
  ·have e': ¬q.1=k:=fun z=>e (h1.trans z)
   have b:valueAt (q::qs) k=valueAt qs k:=by simp[valueAt,Zj,e']
   rw[cE e,b];exact ih
theorem KV.any {aQ:List (κ×V)} {vs:List (κ×Value)} (r:KV aQ vs) (k:κ):(aQ.any fun kv=>decide (kv.1=k))=vs.any fun kv=>decide (kv.1=k):=by
 unfold KV at r
 induction r with
 | nil=>rfl
 | cons h t ih=>rw[Ze,Ze,ih,h.1]
theorem KV.Je {aQ:List (κ×V)} {vs:List (κ×Value)} (r:KV aQ vs) (k:κ) {y:V} {u:Value} (ry:RelV y u):
  KV (aQ.map fun kv=>if kv.1=k then (kv.1,y) else kv) (vs.map fun kv=>if kv.1=k then (kv.1,u) else kv):=by
 unfold KV at r ⊢
 induction r with
 | nil=>exact .nil
 | @cons p q ps qs h t ih=>
  rw[Ym,Ym]
  refine .cons ?_ ih
  obtain ⟨h1,h2⟩:=h
  by_cases e:p.1=k
  ·rw[if_pos e,if_pos (h1.symm.trans e)];exact ⟨h1,ry⟩
  ·rw[if_neg e,if_neg (fun z=>e (h1.trans z))];exact ⟨h1,h2⟩
theorem KV.put {aQ:List (κ×V)} {vs:List (κ×Value)} (r:KV aQ vs) (k:κ) {y:V} {u:Value} (ry:RelV y u):KV (putK aQ k y) (stored vs k u):=by
 unfold putK stored
 rw[r.any k]
 by_cases e:(vs.any fun kv=>decide (kv.1=k))=true
 ·rw[if_pos e,if_pos e];exact r.Je k ry
 ·rw[if_neg e,if_neg e];exact Paired.snoc r ⟨rfl,ry⟩
theorem KV.length {aQ:List (κ×V)} {vs:List (κ×Value)} (r:KV aQ vs):aQ.length=vs.length:=Paired.length r
end
theorem B3 {P:Program} {w:World} {k:Key} {u:Value} (r:RelV (kV k) u):(cF P w).is k u=true:=by
 cases k with
 | inl i=>obtain ⟨t,e⟩:=(show ∃t,u=Value.int i t from r);subst e;exact ui P w i t
 | inr x=>obtain ⟨t,e⟩:=(show ∃t,u=Value.str x t from r);subst e;exact uj P w x t
theorem qJ {P:Program} {w:World}: ∀{ks:List Key} {us:List Value},Vals (ks.map kV) us->ItemsAre (cF P w) ks us
 | [],_,r=>by rw[List.map_nil]at r;cases r;exact .nil
 | k::ks,_,r=>by
  rw[Ym]at r
  cases r with
  | cons h t=>exact .cons (B3 h) (qJ t)
abbrev KT (H:Hp):List (List Key×V)->List (List Key×Addr×Value)->Prop:=Paired fun p q=>p.1=q.1/\H q.2.1=some (.tup (p.1.map kV))/\RelV p.2 q.2.2
theorem KT.val {H:Hp} {aQ:List (List Key×V)} {xs:List (List Key×Addr×Value)} (r:KT H aQ xs) (k:List Key):lD (dE aQ k) ((atKey xs k).map (·.2)):=by
 induction r with
 | nil=>exact True.intro
 | @cons p q ps qs h t ih=>
  obtain ⟨h1,_,h2⟩:=h
  by_cases e:p.1=k
  ·have e':q.1=k:=h1.symm.trans e
   have b:atKey (q::qs) k=some q.2:=by simp[atKey,Zj,e']
   rw[cP e,b];exact h2
  ·have e': ¬q.1=k:=fun z=>e (h1.trans z)
   have b:atKey (q::qs) k=atKey qs k:=by simp[atKey,Zj,e']
   rw[cE e,b];exact ih
theorem KT.Je {H:Hp} {aQ:List (List Key×V)} {xs:List (List Key×Addr×Value)} (r:KT H aQ xs) (k:List Key) {y:V} {u:Value} (ry:RelV y u):
  KT H (aQ.map fun kv=>if kv.1=k then (kv.1,y) else kv) (xs.map (putAt k u)):=by
 induction r with
 | nil=>exact .nil
 | @cons p q ps qs h t ih=>
  rw[Ym,Ym]
  refine .cons ?_ ih
  obtain ⟨h1,h2,h3⟩:=h
  unfold putAt
  by_cases e:p.1=k
  ·rw[if_pos e,if_pos (h1.symm.trans e)];exact ⟨h1,h2,ry⟩
  ·rw[if_neg e,if_neg (fun z=>e (h1.trans z))];exact ⟨h1,h2,h3⟩
theorem KT.put {H:Hp} {aQ:List (List Key×V)} {xs:List (List Key×Addr×Value)} (r:KT H aQ xs) (k:List Key) {b:Addr} {y:V} {u:Value} (hb:H b=some (.tup (k.map kV))) (ry:RelV y u):
  KT H (putK aQ k y) (storedH xs k b u):=by
 have e:(aQ.any fun kv=>decide (kv.1=k))=(atKey xs k).isSome:=by
  rw[iT,(r.val k).Ae,Option.isSome_map]
 unfold putK storedH
 rw[e]
 by_cases q:(atKey xs k).isSome=true
 ·rw[if_pos q,if_pos q];exact r.Je k ry
 ·rw[if_neg q,if_neg q];exact Paired.snoc r ⟨rfl,hb,ry⟩
theorem KT.keeps {H H':Hp} {aQ:List (List Key×V)} {xs:List (List Key×Addr×Value)} (r:KT H aQ xs) (ht: ∀b ys,H b=some (.tup ys)->H' b=some (.tup ys)):KT H' aQ xs:=
 Paired.HX r fun _ _ z=>⟨z.1,ht _ _ z.2.1,z.2.2⟩
section
variable {P:Program} {w:World} {H:Hp} {h:Heap} {a:Addr}
theorem Hb {u:HO} (ok:jM P w H h) (e:Rd H a u):cX P w H h a u:=e.ok ok
theorem B4 {aQ:List (Key×V)} (ok:jM P w H h) (e:Rd H a (.dK aQ)):aQ.length<=sizeLine/\(a==sysModules)=false/\ ∃vs,KV aQ vs/\h.DictOf (cF P w) a vs:=
 show cX P w H h a (.dK aQ) from Hb ok e
theorem NG {aQ:List (Key×V)} (ok:jM P w H h) (e:H a=some (.dK aQ)):aQ.length<=sizeLine/\(a==sysModules)=false/\ ∃vs,KV aQ vs/\h.DictOf (cF P w) a vs:=B4 ok (.inl e)
theorem xg {ks:List Key} (ok:jM P w H h) (e:H a=some (.tup (ks.map kV))):(tupleKind (cF P w)).is h ks a:=by
 obtain ⟨_,aJ,r,o,h1,h2,n,h3⟩:=(show cX P w H h a (.tup (ks.map kV)) from ok a _ e)
 exact ⟨o,aJ.toArray,n,h1,h2,h3,by simpa using qJ r⟩
theorem B5 {aQ:List (List Key×V)} (ok:jM P w H h) (e:Rd H a (.dT aQ)):aQ.length<=sizeLine/\(a==sysModules)=false/\
  ∃xs,KT H aQ xs/\h.DictOfH (tupleKind (cF P w)) a xs:=by
 obtain ⟨z,y,xs,r,o,es,ep,h1,h2,h3,h4,h5⟩:=(show cX P w H h a (.dT aQ) from Hb ok e)
 refine ⟨z,y,xs,r,o,es,ep,h1,h2,h3,h4,fun x hx=>?_,h5⟩
 have all: ∀{l:List (List Key×V)} {m:List (List Key×Addr×Value)},KT H l m-> ∀x∈m,(tupleKind (cF P w)).is h x.1 x.2.1:=by
  intro l m q
  induction q with
  | nil=>intro x hx;exact nomatch hx
  | @cons p q ps qs hq t ih=>
   intro x hx
   rcases Vi.mp hx with e | hx
   ·subst e
    exact xg ok (by rw[<-hq.1];exact hq.2.1)
   ·exact ih x hx
 exact all r x hx
theorem NH {aQ:List (List Key×V)} (ok:jM P w H h) (e:H a=some (.dT aQ)):aQ.length<=sizeLine/\(a==sysModules)=false/\
  ∃xs,KT H aQ xs/\h.DictOfH (tupleKind (cF P w)) a xs:=B5 ok (.inl e)
end
def og (H:Hp) (a:Addr) (y:V) (r:Option V):Prop:=
 (∃aQ k,Rd H a (.dK aQ)/\y=kV k/\r=dE aQ k)\/ ∃aQ k b,Rd H a (.dT aQ)/\y= .ref b/\H b=some (.tup (k.map kV))/\r=dE aQ k
def r_ (H:Hp) (a:Addr) (y v:V) (H':Hp):Prop:=
 (∃aQ k,H a=some (.dK aQ)/\y=kV k/\aQ.length<sizeLine/\H'=upd H a (.dK (putK aQ k v)))\/
 ∃aQ k b,H a=some (.dT aQ)/\y= .ref b/\H b=some (.tup (k.map kV))/\aQ.length<sizeLine/\H'=upd H a (.dT (putK aQ k v))
theorem og.k {H:Hp} {a:Addr} {aQ:List (Key×V)} {k:Key} (e:H a=some (.dK aQ)):og H a (kV k) (dE aQ k):= .inl ⟨aQ,k, .inl e,rfl,rfl⟩
theorem og.t {H:Hp} {a b:Addr} {aQ:List (List Key×V)} {k:List Key} (e:H a=some (.dT aQ)) (eb:H b=some (.tup (k.map kV))):og H a (.ref b) (dE aQ k):= .inr ⟨aQ,k,b, .inl e,rfl,eb,rfl⟩
theorem r_.k {H:Hp} {a:Addr} {aQ:List (Key×V)} {k:Key} {v:V} (e:H a=some (.dK aQ)) (hl:aQ.length<sizeLine):r_ H a (kV k) v (upd H a (.dK (putK aQ k v))):= .inl ⟨aQ,k,e,rfl,hl,rfl⟩
theorem r_.t {H:Hp} {a b:Addr} {aQ:List (List Key×V)} {k:List Key} {v:V} (e:H a=some (.dT aQ)) (eb:H b=some (.tup (k.map kV))) (hl:aQ.length<sizeLine):
  r_ H a (.ref b) v (upd H a (.dT (putK aQ k v))):= .inr ⟨aQ,k,b,e,rfl,eb,hl,rfl⟩
section
variable {X:Cx} {pins:List (Addr×Obj)} {σ:St} {H:Hp} {s:Shared} {a:Addr} {y v:V} {u r:Value} {o:Option V} {A:Around} {E:Value->Shared->Prop}
theorem Inv.big (I:Inv X pins σ H s):sysModules<s.heap.objs.size:=by
 have h:mainGlobals<s.heap.objs.size:=(I.mod.glob.keeps I.bk).lt
 exact ZK (by decide) h
theorem Af {Q:Value->Shared->Prop} (hu:A.units+1<cLine) (I:Inv X pins σ H s) (g:og H a y (some v)) (ry:RelV y u) (h: ∀w' s',Inv X pins σ H s'->RelV v w'->Q w' s'):
  wpAny (model X.prog X.w) A (getItem (.ref a) u) Q E s:=by
 rcases g with ⟨aQ,k,e,ey,l⟩ | ⟨aQ,k,b,e,ey,eb,l⟩
 ·subst ey
  obtain ⟨z,hd,vs,rel,dd⟩:=B4 I.b5 e
  obtain ⟨w',hw,rJ⟩:=lD.some_of (v:=v) (o:=valueAt vs k) (by rw[l];exact rel.val k)
  exact wpAny_getItem_of (B3 ry) dd.mapOf hw (h w' _ (I.tok _) rJ)
 ·subst ey
  cases (show u=Value.ref b from ry)
  obtain ⟨z,hd,xs,rel,dd⟩:=B5 I.b5 e
  obtain ⟨w',hw,rJ⟩:=lD.some_of (v:=v) (o:=(atKey xs k).map (·.2)) (by rw[l];exact rel.val k)
  obtain ⟨p,hp,vX⟩:=Option.map_eq_some_iff.mp hw
  refine wpAny_getItem_heap (tupleKind_room_in1 hu) (xg I.b5 eb) dd hp ?_
  rw[vX]
  exact h w' _ (I.tok _) rJ
theorem yH {h':Heap} {t':Nat} {ob:HO} (I:Inv X pins σ H s) (mu:Mq (H a)) (hs:Heap.SameBut a s.heap h') (he: ∃q,h'.get? a=some q) (new:cX X.prog X.w (upd H a ob) h' a ob):
  Inv X pins σ (upd H a ob) { s with heap:=h',toks:=t' }:=
 I.write (x:=a) (e:=a) mu (.inl rfl) (fun b q hb z=>(hs.2 b hb).trans z) he new
theorem Jf {P:Program} {w:World} {H':Hp} {h':Heap} {aQ:List (Key×V)} {vs:List (Key×Value)} (z:aQ.length<=sizeLine) (hd:(a==sysModules)=false) (rel:KV aQ vs) (dd:h'.DictOf (cF P w) a vs):
  cX P w H' h' a (.dK aQ):=⟨z,hd,vs,rel,dd⟩
theorem Ag {H':Hp} {Q:Unit->Shared->Prop} (hu:A.units+1<cLine) (I:Inv X pins σ H s) (g:r_ H a y v H') (ry:RelV y u) (rv:RelV v r) (h: ∀s',Inv X pins σ H' s'->Q () s'):
  wpAny (model X.prog X.w) A (setItem (.ref a) u r) Q E s:=by
 rcases g with ⟨aQ,k,e,ey,l,eH⟩ | ⟨aQ,k,b,e,ey,eb,l,eH⟩
 ·subst ey eH
  obtain ⟨z,hd,vs,rel,dd⟩:=NG I.b5 e
  have hz:vs.length<=sizeLine:=by rw[<-rel.length];exact z
  have hl:(putK aQ k v).length<=sizeLine:=by have:=gk aQ k v;omega
  refine wpAny_setItem_pairs (hsz:=hz) (B3 ry) dd fun h' Pe hs=>h _ ?_
  have he: ∃q,h'.get? a=some q:=let ⟨q,_,_,hq,_⟩:=Pe;⟨q,hq⟩
  exact yH I (by rw[e];exact True.intro) hs he (Jf hl hd (rel.put k rv) Pe)
 ·subst ey eH
  cases (show u=Value.ref b from ry)
  obtain ⟨z,hd,xs,rel,dd⟩:=NH I.b5 e
  have hz:xs.length<=sizeLine:=by rw[<-Paired.length rel];exact z
  have hl:(putK aQ k v).length<=sizeLine:=by have:=gk aQ k v;omega
  refine wpAny_setItem_heap (hsz:=hz) (tupleKind_room_in1 hu) (xg I.b5 eb) dd fun h' Pe hs=>h _ ?_
  obtain ⟨q,es,ep,hq,h2,h3,h4,_,h5⟩:=Pe
  refine yH I (by rw[e];exact True.intro) hs ⟨q,hq⟩ ⟨hl,hd,_,(rel.put k eb rv).keeps fun c ys ec=>?_,q,es,ep,hq,h2,h3,h4,h5⟩
  rw[aC (Mp ec e (fun z=>nomatch z))]
  exact ec
end
section
variable {X:Cx} {pins:List (Addr×Obj)} {σ:St} {H:Hp} {s:Shared} {a:Addr} {aQ:List (Key×V)} {k:Key} {u:Value} {A:Around} {E:Value->Shared->Prop}
end
def NI (i:Expr):Prop:= ∀ov iv,subscripted i false ov iv=operate [ov,iv] (getItem ov iv)
theorem Fg {prog:Program} {w:World} {A:Around} {E:Value->Shared->Prop} {s:Shared} {env:Env} {value slice:Expr} {pos:Pos} {T id:String} {Q:Value->Shared->Prop}
  (hl:typeLookup (.type T) "__getitem__"=pure (some (.builtin id))) (hs:NI slice)
  (h:wpAny (model prog w) A (eval value env) (fun o s₁=>wpAny (model prog w) A (eval slice env) (fun i s₂=>s₂.TypeIs o T/\wpAny (model prog w) A (getItem o i) Q E s₂) E s₁) E s):
  wpAny (model prog w) A (eval (.Subscript value slice pos) env) Q E s:=by
 refine Subscript_ (wpAny_mono h (fun o s₁ h₁=>wpAny_mono h₁ (fun i s₂ h₂=>?_) fun _ _ x=>x) fun _ _ x=>x)
 obtain ⟨hT,h₂⟩:=h₂
 unfold subscriptTail
 refine wpAny_bind ?_
 rw[getitemInPython_of_ne hT.not_modules]
 refine wpAny_bind (wpAny_specialOf hT hl ?_)
 have fin:wpAny (model prog w) A (subscripted slice false o i) (fun r s₃=>wpAny (model prog w) A (letTemporaryGo value o r >>= fun _=>pure r) Q E s₃) E s₂:=by
  rw[hs o i]
  exact wpAny_operating (wpAny_mono h₂ (fun r s₃ h₃=>wpAny_bind (wpAny_letTemporaryGo (wpAny_pure h₃))) fun _ _ x=>x)
 first
  | exact wpAny_pure (wpAny_bind fin)
  | exact wpAny_bind (wpAny_pure (wpAny_bind fin))
  | exact wpAny_bind fin
theorem uN {X:Cx} {pins:List (Addr×Obj)} {σ:St} {H:Hp} {s:Shared} {a:Addr} {y:V} {o:Option V} (I:Inv X pins σ H s) (g:og H a y o):s.TypeIs (.ref a) "dict":=by
 rcases g with ⟨aQ,k,e,_,_⟩ | ⟨aQ,k,b,e,_,_,_⟩
 ·obtain ⟨_,_,vs,_,dd⟩:=B4 I.b5 e
  exact dd.typeIs
 ·obtain ⟨_,_,xs,_,dd⟩:=B5 I.b5 e
  exact dd.typeIs
def NJ (td ty:TE):TE:=fun σ H Q=>td σ H fun x H1=>ty σ H1 fun y H2=> ∃a v,x= .ref a/\og H2 a y (some v)/\Q v H2
def NK (td ty tv:TE):TS:=fun D σ H=>tv σ H fun v H1=>td σ H1 fun x H2=>ty σ H2 fun y H3=> ∃a H4,x= .ref a/\r_ H3 a y v H4/\D.nx σ H4
section
variable {X:Cx} {o i e value:Expr} {pos pos' MS:Pos} {td ty tv:TE}
theorem nh (hu:X.A.units+1<cLine) (ho:PE X o td) (hi:PE X i ty) (hs:NI i):PE X (.Subscript o i pos) (NJ td ty):=by
 intro pins s σ H Q I h
 refine Fg PySem.F.slot_dict_getitem.lookup hs (cx (ho pins s σ H _ I h) fun u s1 ⟨x,H1,I1,rx,q1⟩=>cx (hi pins s1 σ H1 _ I1 q1) fun iv s2 ⟨y,H2,I2,ry,a,v,ex,g,q2⟩=>?_)
 subst ex
 obtain rfl:u=Value.ref a:=rx
 exact ⟨uN I2 g,Af hu I2 g ry fun w' s3 I3 rJ=>⟨v,H2,I3,rJ,q2⟩⟩
theorem sd (hu:X.A.units+1<cLine) (ho:PE X o td) (hi:PE X i ty) (hv:PE X value tv) (hs:swapsWith value (some (.Subscript o i pos')) pos.line X.env=pure false):
  PS X (.Assign [.Subscript o i pos'] value pos) (NK td ty tv):=by
 intro pins s σ H D I h
 refine wpAny_Assign_Subscript (cx (hv pins s σ H _ I h) fun r s1 ⟨v,H1,I1,rv,q1⟩=>cx (ho pins s1 σ H1 _ I1 q1) fun u s2 ⟨x,H2,I2,rx,q2⟩=>cx (hi pins s2 σ H2 _ I2 q2) fun iv s3 ⟨y,H3,I3,ry,a,H4,ex,g,q3⟩=>?_) hs
 subst ex
 obtain rfl:u=Value.ref a:=rx
 exact Ag hu I3 g ry rv fun s4 I4=>⟨σ,H4,I4,q3⟩
end
theorem B6 {P:Program} {w:World} {H:Hp} (h:Heap) (hb:sysModules<h.objs.size):cX P w H (h.push { cls:= .type "dict",data:= .dict #[] }) h.objs.size (.dK []):=
 ⟨Xy _,beq_eq_false_iff_ne.mpr (Ne.symm (Yk hb)),[], .nil,Heap.DictOf.new h⟩
theorem B7 {P:Program} {w:World} {H:Hp} (h:Heap) (hb:sysModules<h.objs.size):cX P w H (h.push { cls:= .type "dict",data:= .dict #[] }) h.objs.size (.dT []):=
 ⟨Xy _,beq_eq_false_iff_ne.mpr (Ne.symm (Yk hb)),[], .nil,_, #[],0,Yf _ rfl,⟨rfl,rfl,rfl⟩,rfl,rfl,Z_⟩
def Jg:TE:=fun _ H Q=> ∀p,H p=none->Q (.ref p) (upd H p (.dK []))
def Jh:TE:=fun _ H Q=> ∀p,H p=none->Q (.ref p) (upd H p (.dT []))
section
variable {X:Cx} {pos:Pos}
theorem B8:PE X (.Dict [] [] pos) Jg:=fun pins s σ H Q I h=>
 wpAny_Dict_empty ⟨.ref s.heap.objs.size,_,I.laid (a:=s.heap.objs.size) (o:= .dK []) (t':=s.toks) (fun _ _ q=>S0 _ q) (SY _) (B6 s.heap I.big),rfl,h _ (I.b5.fresh (SY _))⟩
theorem B9:PE X (.Dict [] [] pos) Jh:=fun pins s σ H Q I h=>
 wpAny_Dict_empty ⟨.ref s.heap.objs.size,_,I.laid (a:=s.heap.objs.size) (o:= .dT []) (t':=s.toks) (fun _ _ q=>S0 _ q) (SY _) (B7 s.heap I.big),rfl,h _ (I.b5.fresh (SY _))⟩
end
section
variable {X:Cx} {pins:List (Addr×Obj)} {σ:St} {H:Hp} {s:Shared} {a:Addr} {y d:V} {u r:Value} {o:Option V} {A:Around} {E:Value->Shared->Prop}
end
section
variable {X:Cx} {o e f:Expr} {apos fT:Pos} {td ty tx:TE}
end
section
variable {X:Cx} {pins:List (Addr×Obj)} {σ:St} {H:Hp} {s:Shared} {a:Addr} {aQ:List (Key×V)} {A:Around} {E:Value->Shared->Prop}
end
section
variable {X:Cx} {pins:List (Addr×Obj)} {σ:St} {H:Hp} {s:Shared} {a:Addr} {y:V} {u:Value} {A:Around} {E:Value->Shared->Prop}
end
section
variable {prog:Program} {w:World} {A:Around} {E:Value->Shared->Prop} {s:Shared}
end
section
variable {X:Cx}
end
end L2
set_option maxHeartbeats 1000000
namespace L2
open PySem PySem.Spec PyProof.Rows
section
variable {prog:Program} {w:World} {KK:Type} [DecidableEq KK] {knd:KeyKind prog w KK}
end
section
variable {X:Cx}
end
end L2
set_option maxHeartbeats 1000000
namespace L2.F2
open PySem PySem.Spec PyProof.Rows
theorem jC:Slot "reversed" "__length_hint__" "reversed.__length_hint__":=
 .of (owner:="reversed") (n:="__length_hint__") (by rw[typeLookup_type,builtinLookup_eq_fast];kernel_rfl) (by decide+kernel) (by decide+kernel) (by decide+kernel)
  (by first | exact .inl (by decide+kernel) | exact .inr (by decide+kernel)) (by rw[isSubtype_type];kernel_rfl)
theorem oh:entryFor table "reversed.__length_hint__"=some Builtin.«reversed.__length_hint__» :=entryFor_of_tree (by kernel_rfl)
theorem mS (a:Value):argsOk "reversed.__length_hint__" ⟨[a],[]⟩:=by
 unfold argsOk;rw[signature?_of (id:="reversed.__length_hint__") (n:=['_','_','t','n','i','h','_','h','t','g','n','e','l','_','_']) (o:=['d','e','s','r','e','v','e','r']) (by kernel_rfl) lM];kernel_rfl
theorem xh:typeLookup (.type "reversed") "__len__"=pure none:=by rw[typeLookup_type,builtinLookup_eq_fast];kernel_rfl
theorem oj (a:Value):bindSpecial (.builtin "reversed.__length_hint__") a=pure (.builtin "reversed.__length_hint__",[a]):=by
 have e:typeOf (.builtin "reversed.__length_hint__")=pure (.type "method_descriptor"):=by show builtinType _=_;rw[builtinType_eq_fast];kernel_rfl
 unfold bindSpecial
 rw[e]
 rfl
end L2.F2
namespace L2
open PySem PySem.Spec PyProof.Rows
section
variable {prog:Program} {w:World} {A:Around} {E:Value->Shared->Prop} {s:Shared}
theorem B_ {it:Addr} {x:Str} {t:Tok} {Q:Value->Shared->Prop} (hit:dc s.heap it x t ((x.length:Int) - 1)) (hz:x.length<=sizeLine)
  (hQ: ∀u tk,Q (.int x.length u) { s with toks:=tk }):wpAny (model prog w) A (call (.builtin "reversed.__length_hint__") [.ref it]) Q E s:=by
 obtain ⟨o,ho,hc,hd⟩:=id hit
 have hn:=eO
 refine wpAny_call_entry F2.jC hit.typeIs F2.oh ?_ (F2.mS _)
 unfold Builtin.«reversed.__length_hint__»
 refine wpAny_bind (wpAny_of_eq (a:=Value.ref it) rfl ?_)
 refine wpAny_bind (wpAny_field ho hd (x:= .str x t) rfl ?_)
 show wpAny _ _ (if (Value.str x t==Value.none)=true then _ else _) _ _ s
 rw[if_neg (by simp)]
 refine wpAny_bind (len_str (by omega) ?_)
 refine wpAny_bind (wpAny_of_eq (a:=some (x.length:Int)) rfl ?_)
 refine wpAny_bind (wpAny_field ho hd (x:=rawInt ((x.length:Int) - 1)) rfl ?_)
 show wpAny _ _ (if (x.length:Int)<((x.length:Int) - 1)+1 then _ else _) _ _ _
 rw[if_neg (by omega),show ((x.length:Int) - 1)+1=x.length by omega]
 refine wpAny_bind (wpAny_mkInt ?_)
 exact wpAny_pure ⟨_,rfl,hQ _ _⟩
theorem Ah (hh:A.handled=none) (I:Addr) (x:Str) (t:Tok) (hz:x.length<=sizeLine):
  Walks prog w A I [I] [I] x.length (fun i v=> ∃c u,x.cps[x.length - 1 - i]? =some c/\v= .str ⟨#[c]⟩ u) (fun i h=>i<=x.length/\dc h I x t ((x.length:Int) - 1 - (i:Int))) where
 sub:=fun b hb=>hb
 frame:=fun i h h' st hk=>⟨st.1,let ⟨o,ho,r⟩:=st.2;⟨o,hk I (by simp) o ho,r⟩⟩
 item:=fun i s Q E hi st hQ=>by
  have e:(x.length:Int) - 1 - (i:Int)=((x.length - 1 - i:Nat):Int):=by omega
  have hit:=st.2
  rw[e]at hit
  have dB:x.length - 1 - i<x.cps.size:=by show _<x.length;omega
  have hx:x.cps[x.length - 1 - i]? =some x.cps[x.length - 1 - i]:=Array.getElem?_eq_getElem dB
  refine iw hit hx hz fun h' tk u NL IW=>?_
  have e2:((x.length - 1 - i:Nat):Int) - 1=(x.length:Int) - 1 - ((i+1:Nat):Int):=by omega
  rw[e2]at NL
  exact hQ _ h' tk ⟨_,u,hx,rfl⟩ ⟨hi,NL⟩ fun b o hb eo=>IW.extBut b o (fun h=>hb (by simp[h])) eo
 done:=fun s Q E st hQ=>by
  have e:(x.length:Int) - 1 - (x.length:Int)= -1:=by omega
  have hit:=st.2
  rw[e]at hit
  exact iR hh hit fun h' yI=>hQ h' s.toks fun b o hb eo=>yI b o (fun h=>hb (by simp[h])) eo
 self:=fun _ _ _ _ st hQ=>fV st.2 hQ
theorem Fh {R:Result->Shared->Prop} (hh:A.handled=none) (x:Str) (t:Tok) (it S:Addr) (res:Value) (c₀:Nat) (hS:s.heap.get? S=some { cls:= .type "list",data:= .seq #[] c₀ }) (hit:dc s.heap it x t ((x.length:Int) - 1)) (h0:0<x.length) (hz:x.length<=sizeLine)
  (hR: ∀h' tk cA c',(∀b o,b≠S->b≠it->s.heap.get? b=some o->h'.get? b=some o)->h'.get? S=some { cls:= .type "list",dict:=none,data:= .seq cA c',slots:= #[] }->
   ItemsOf (fun i v=> ∃c u,x.cps[x.length - 1 - i]? =some c/\v= .str ⟨#[c]⟩ u) cA x.length->R (.ok (.ret res)) { s with heap:=h',toks:=tk }):
  wpAny (model prog w) A.in1 (Builtin.List.listExtendWith (.ref S) (.ref it) res)
   (fun fin s'=>match fin with | .done f=>R (.ok f) s' | .again c'=>c'.quiet=true/\codeAny (model prog w) A c' R s') (fun e s'=>R (.error e) s') s:=by
 have Rn:S≠it:=fun z=>by
  obtain ⟨o,ho,hc,hd⟩:=hit
  rw[<-z,hS]at ho
  cases ho
  cases hd
 have Ro:S∉[it]:=fun hm=>Rn (Vk.mp hm)
 have hn:=eO
 unfold Builtin.List.listExtendWith
 refine wpAny_bind (wpAny_typeOf hit.typeIs ?_)
 have h1:Builtin.List.listSameRef (.ref S) (.ref it)=false:=by simp[Builtin.List.listSameRef,Rn]
 rw[if_neg (by rw[h1];decide)]
 refine wpAny_bind (fV hit ?_)
 refine wpAny_bind (wpAny_holding ?_)
 unfold Builtin.List.listLengthHint
 refine wpAny_bind (wpAny_specialOf hit.typeIs F2.xh ?_)
 show wpAny _ A.in1 (specialOf (Value.ref it) (Str.ofString "__length_hint__") >>= _) _ _ _
 refine wpAny_bind (wpAny_specialOf hit.typeIs F2.jC.lookup ?_)
 (generalize Rp:("reversed.__length_hint__":String)=S_;(fail_if_success (clear Rp S_));wp_delta;rw[show splitId S_=some ("reversed","__length_hint__") from by subst Rp;decide+kernel];subst Rp)
 refine wpAny_bind (wpAny_isInstance (b:=true) hit.typeIs (by rw[isSubtype_type];kernel_rfl) ?_)
 refine wpAny_bind (wpAny_rule ?_)
 rw[F2.oj]
 refine wpAny_bind (wpAny_pure ?_)
 refine wpAny_bind (wpAny_attempt (B_ hit hz fun u tk=>?_))
 dsimp only
 have ea:asInt? (.int (x.length:Int) u)=pure (some (x.length:Int)):=rfl
 rw[ea]
 refine wpAny_bind ?_
 refine wpAny_pure ?_
 dsimp only
 have f1:Builtin.List.listFitsIndex (x.length:Int)=true:=by
  unfold Builtin.List.listFitsIndex
  simp
  omega
 rw[f1,if_neg (by decide),if_neg (by omega)]
 have f2:Builtin.List.listTooLong (x.length:Int).toNat=false:=by
  rw[Xx]
  unfold Builtin.List.listTooLong
  simp
  omega
 rw[f2,if_neg (by decide)]
 refine wpAny_pure ?_
 have f3:((x.length:Int) != 0)=true:=by simp;omega
 rw[f3,Bool.true_or,if_pos rfl]
 refine wpAny_bind (wpAny_rule ?_)
 refine wpAny_bind ?_
 unfold Builtin.List.listTouch
 refine wpAny_bind (wpAny_updateSeq hS rfl ?_ (Xy _) (Y7 (Xy _)))
 have NM:=YQ (Obj.mapSeq (fun l:Array Value=>l.push .none)) hS rfl
 refine wpAny_updateSeq NM rfl ?_ (Yv (Y7 (Xy _)) (Yv h0 hz)) (Xy _)
 have Rq:=YQ (Obj.mapSeq (fun l:Array Value=>l.pop)) NM rfl
 have KZ: ∀b o,b≠S->s.heap.get? b=some o->((s.heap.update S (Obj.mapSeq (fun l:Array Value=>l.push .none))).update S (Obj.mapSeq (fun l:Array Value=>l.pop))).get? b=some o:=fun b o hb e=>
  (Yy _ _ (Ne.symm hb)).trans ((Yy _ _ (Ne.symm hb)).trans e)
 have Ji:dc ((s.heap.update S (Obj.mapSeq (fun l:Array Value=>l.push .none))).update S (Obj.mapSeq (fun l:Array Value=>l.pop))) it x t ((x.length:Int) - 1 - ((0:Nat):Int)):=by
  obtain ⟨o,ho,r⟩:=hit
  rw[show (x.length:Int) - 1 - ((0:Nat):Int)=(x.length:Int) - 1 by omega]
  exact ⟨o,KZ it o (Ne.symm Rn) ho,r⟩
 refine wpAny_pure ⟨plainId_quiet PySem.F.plain_extend_loop _,codeAny_extend_loopS (Ah (A:=A.in1) hh it x t hz).toS hz _ Ro _ x.length 0 _ _ _ rfl (Xy _) ⟨Xy _,Ji⟩ Rq (ItemsOf.nil _) fun s' cA c' hm Jj iG=>?_⟩
 rw[Moved.eq_with hm]
 refine hR s'.heap s'.toks cA c' (fun b ob hb Vu e=>hm.heap b ob (fun Jk=>?_) (KZ b ob hb e)) Jj iG
 rcases Vi.mp Jk with e' | Jk
 ·exact hb e'
 ·exact Vu (Vk.mp Jk)
end
section
variable {X:Cx}
end
end L2
set_option maxHeartbeats 1000000
namespace L2
open PySem PySem.Spec PyProof.Rows
section
variable {prog:Program} {w:World} {A:Around} {E:Value->Shared->Prop} {s:Shared}
end
section
variable {X:Cx}
end
end L2
set_option maxHeartbeats 2000000
namespace L2
open PySem PySem.Spec PyProof.Rows
noncomputable def Ek (a b c d:Int):Bool:=if a=c then decide (b<d) else decide (a<c)
section
variable {prog:Program} {w:World} {A:Around} {E:Value->Shared->Prop} {s:Shared}
theorem Fi {p q:Addr} {ox oy:Obj} {mx my:Nat} {a b c d:Int} {t1 t2 t3 t4:Tok} {P:PySem.Fin->Shared->Prop} (Ph:s.heap.get? p=some ox) (Rr:ox.data= .seq #[.int a t1, .int b t2] mx)
  (NN:s.heap.get? q=some oy) (yJ:oy.cls= .type "tuple") (Rt:oy.data= .seq #[.int c t3, .int d t4] my) (h:P (.done (.ret (.bool (Ek a b c d)))) s):
  wpAny (model prog w) A (Builtin.«tuple.__lt__» ⟨[.ref p, .ref q],[]⟩) P E s:=by
 have hT:s.TypeIs (.ref q) "tuple":=⟨oy,NN,yJ⟩
 show wpAny _ _ (isInstance (.ref q) (.type "tuple") >>= fun b=>_) _ _ s
 refine wpAny_bind (wpAny_isInstance (b:=true) hT isSubtype_tuple_tuple ?_)
 simp only[Qbj,Zz,if_false]
 refine wpAny_bind (wpAny_tupleItemsOf Ph Rr ?_)
 refine wpAny_bind (wpAny_tupleItemsOf NN Rt ?_)
 refine wpAny_bind ?_
 show wpAny _ _ (forIn [(Value.int a t1,Value.int c t3),(Value.int b t2,Value.int d t4)] _ _) _ _ _
 rw[Z4]
 refine wpAny_bind (wpAny_bind (wpAny_eqBool_int ?_))
 unfold Ek at h
 by_cases e:a=c
 ·rw[if_pos e]at h
  rw[show (a==c)=true by simp[e]]
  simp only[Qbj,Zz,if_false]
  refine wpAny_pure ?_
  dsimp only
  rw[Z4]
  refine wpAny_bind (wpAny_bind (wpAny_eqBool_int ?_))
  by_cases e2:b=d
  ·rw[show (b==d)=true by simp[e2]]
   simp only[Qbj,Zz,if_false]
   refine wpAny_pure ?_
   dsimp only
   rw[List.forIn_nil]
   refine wpAny_pure ?_
   dsimp only
   refine wpAny_pure ?_
   rw[decide_eq_false (by omega)]at h
   exact h
  ·rw[show (b==d)=false by simp[e2]]
   simp only[Bool.not_false,if_true]
   refine wpAny_bind (wpAny_rule ?_)
   refine wpAny_bind (lt_int ?_)
   refine wpAny_bind (wpAny_pure ?_)
   refine wpAny_pure ?_
   dsimp only
   refine wpAny_pure ?_
   dsimp only
   exact wpAny_pure h
 ·rw[if_neg e]at h
  rw[show (a==c)=false by simp[e]]
  simp only[Bool.not_false,if_true]
  refine wpAny_bind (wpAny_rule ?_)
  refine wpAny_bind (lt_int ?_)
  refine wpAny_bind (wpAny_pure ?_)
  refine wpAny_pure ?_
  dsimp only
  refine wpAny_pure ?_
  dsimp only
  exact wpAny_pure h
end
section
variable {X:Cx}
def Ru (K:PySem.W.Frag):R2:=fun x y H Q=> ∃p q a b c d,x= .ref p/\y= .ref q/\b_ K H p [.int a, .int b]/\b_ K H q [.int c, .int d]/\Q (.bl (Ek a b c d)) H
theorem uO {a b:Int} {us:List Value} (r:Vals [.int a, .int b] us): ∃t u,us=[.int a t, .int b u]:=by
 cases r with
 | cons r1 r=>
  cases r with
  | cons r2 r=>
   cases r
   obtain ⟨t,rfl⟩:=r1
   obtain ⟨u,rfl⟩:=r2
   exact ⟨t,u,rfl⟩
theorem Jl {k:Nat} (K:PySem.W.Frag) (h:X.K=K) (hr:eQ k X.A):iH X (compareOp .Lt) (Ru K):=by
 subst h
 intro pins s σ H x y v u Q I rx ry h
 obtain ⟨p,q,a,b,c,d,rfl,rfl,hp,hq,r⟩:=h
 cases rx
 cases ry
 obtain ⟨xs,Vv,px,_⟩:=I.tuple hp
 obtain ⟨ys,Vw,py,_⟩:=I.tuple hq
 obtain ⟨ox,Ph,Rj,mx,Rr⟩:=px
 obtain ⟨oy,NN,yJ,my,Rt⟩:=py
 obtain ⟨t1,t2,rfl⟩:=uO Vv
 obtain ⟨t3,t4,rfl⟩:=uO Vw
 have hu:=hr.units
 show wpAny _ _ (richCompare .Lt (.ref p) (.ref q)) _ _ s
 have hT:s.TypeIs (.ref p) "tuple":=⟨ox,Ph,Rj⟩
 refine wpAny_richCompare_same_room hT ⟨oy,NN,yJ⟩ PySem.F.slot_tuple_lt (wpAny_call_entry PySem.F.slot_tuple_lt hT PySem.F.entry_tuple_lt (Fi Ph Rr NN yJ Rt ⟨_,rfl,(fun z=>nomatch z),?_⟩) (PySem.F.args_tuple_lt_2 _ _)) (by omega)
 exact ⟨.bl _,H,I,rfl,r⟩
end
section
variable {prog:Program} {w:World} {A:Around} {E:Value->Shared->Prop} {s:Shared}
end
section
variable {prog:Program} {w:World} {A:Around} {E:Value->Shared->Prop} {s:Shared}
end
section
variable {X:Cx}
end
section
variable {prog:Program} {w:World} {A:Around} {E:Value->Shared->Prop} {s:Shared}
end
section
variable {X:Cx}
end
section
variable {X:Cx}
end
section
variable {X:Cx} {st:Stmt} {rest:List Stmt} {t u:TS}
def Rv (t u:TS):TS:=fun D σ H=> ∃P:St->Hp->Prop,t { D with nx:=P } σ H/\ ∀σ' H',P σ' H'->u D σ' H'
theorem g_ (h1:PS X st t) (h2:we X rest u):we X (st::rest) (Rv t u):=by
 intro pins s σ H D I h
 obtain ⟨P,h,g⟩:=h
 refine wpAny_execs_cons (cx (h1 pins s σ H _ I h) fun f s1 q=>?_)
 cases f with
 | ret v=>exact q
 | brk=>exact q
 | cont=>exact q
 | next=>
  obtain ⟨τ,G,J,p⟩:=q
  exact h2 pins s1 τ G D J (g τ G p)
end
section
variable {X:Cx}
theorem yK (K:PySem.W.Frag) (h:X.K=K):KU X (M1 K):=by subst h;exact Iw
end
section
variable {X:Cx}
end
section
variable {prog:Program} {w:World} {A:Around} {E:Value->Shared->Prop} {s:Shared}
section
variable {z TI TO i1 i2:Addr} {f1 f2:List Addr} {n1 n2 i:Nat} {P1 P2:Nat->Value->Prop} {S1 S2:Nat->Heap->Prop} {a b:Value}
end
end
section
variable {X:Cx} {elts:List Expr} {k:Nat} {pos':Pos} {a b:Expr} {ta:TA} {p pos:Pos}
end
section
variable {X:Cx}
end
end L2
namespace L2
open PySem PySem.Spec PyProof.Rows PySem.MeetsSeq PySem.SeqAt
section
variable {X:Cx}
end
end L2
set_option maxHeartbeats 4000000
namespace XL
open PySem PySem.Spec PySem.Calls PyProof.Rows PySem.W Builtin Builtin.ObjectAttr
section
variable {prog:Program} {w:World} {A:Around} {E:Value->Shared->Prop} {h:Heap} {g:Array GenState} {d:Drawn} {t:Nat} {os:OsState} {K:Frag} {C:Addr}
variable {x:Addr} {mA:Str->Option Value} {name:Str} {v:Value}
end
end XL
set_option maxHeartbeats 4000000
namespace XL
open PySem PySem.Spec PySem.Calls PyProof.Rows PySem.W Builtin Builtin.ObjectAttr
section
variable {prog:Program} {w:World} {A:Around} {E:Value->Shared->Prop} {h:Heap} {g:Array GenState} {d:Drawn} {t:Nat} {os:OsState} {K:Frag} {C x:Addr}
end
end XL
set_option maxHeartbeats 4000000
namespace XL
open PySem PySem.Spec PySem.Calls PyProof.Rows PySem.W
section
variable {M:Model} {A:Around} {E:Value->Shared->Prop} {s:Shared} {base:Heap} {env:Env} {outer:List Env} {L e C:Addr} {dO:Option Addr}
end
end XL
set_option maxHeartbeats 4000000
namespace L2
open PySem PySem.Spec PyProof.Rows XL
section
variable {P:Program} {w:World} {H H' H1 H2:Hp} {h h' h0 h1 h2:Heap} {a e:Addr} {o:HO} {fs ex S:List Addr}
end
section
variable {P:Program} {w:World} {K:PySem.W.Frag} {mg:Str->Option Value} {base:Heap} {N:List Str} {qual:Str} {scope:Scope} {f:Addr} {cd:Value} {A:Around} {outer:List Env} {s:Shared} {H:Hp} {E:XK}
end
end L2
set_option maxHeartbeats 4000000
namespace L2
open PySem PySem.Spec PyProof.Rows XL
section
variable {X:Cx} {pins:List (Addr×Obj)} {σ:St} {H:Hp} {s:Shared} {a:Addr} {o:HO}
end
section
variable {X:Cx} {CX:zW} {k:Nat} {f C:Addr} {fd:FuncData} {ps:List Str} {sp:Sp} {dvs:List V} {ds:List Value} {E:St->XK} {x:Str} {p pos:Pos} {e:Expr} {es:List Expr} {ta te:TE} {t:TA}
end
section
variable {P:Program} {w:World} {K:PySem.W.Frag} {mg:Str->Option Value} {base:Heap}
end
end L2
set_option maxHeartbeats 4000000
namespace L2
open PySem PySem.Spec PyProof.Rows XL
section
variable {X:Cx} {k:Nat} {f C M:Addr} {fd:FuncData} {ps:List Str} {sp:Sp} {x:Str} {p pos apos:Pos} {e:Expr} {es:List Expr} {ta te tv:TE} {t:TA} {pins:List (Addr×Obj)} {σ:St} {H:Hp} {s:Shared}
end
end L2
set_option maxHeartbeats 4000000
namespace L2
open PySem PySem.Spec PyProof.Rows XL
section
variable {X:Cx} {pins pn:List (Addr×Obj)} {σ:St} {H:Hp} {s:Shared} {W:Value->Shared->Prop} {ev:Value}
end
section
variable {X:Cx} {M:Addr} {n:Nat} {mx nm:Str} {body Ta:List Stmt} {b₀:Stmt} {tb:(St->XK)->TS} {th:TS} {pos pU mp:Pos} {pins:List (Addr×Obj)} {σ:St} {H:Hp} {s:Shared} {D:Ends}
end
end L2
set_option maxHeartbeats 4000000
namespace L2
open PySem PySem.Spec PyProof.Rows XL
noncomputable def Tc (s:Stmt) (j:Nat):Stmt:=match s with
 | .ClassDef _ _ _ b _ _ _ _ _ _ _=>b.getD j (.Pass ⟨0,0,0,0⟩)
 | _=> .Pass ⟨0,0,0,0⟩
end L2
set_option maxHeartbeats 4000000
namespace L2
open PySem PySem.Spec PyProof.Rows XL
def NO (_ j:Int):Prop:=0<j/\j<18446744073709551616
theorem dF {X:Cx}:iH X (binaryOp .FloorDiv) (rI NO fun i j=> .int (i / j)):=O5 fun i j _ _ _ _ _ hc q=>by
 have h1:(0:Int)<j:=hc.1
 have h2:j<18446744073709551616:=hc.2
 have h3:j.natAbs<2 ^ 64:=by omega
 exact floordiv_int (by omega) (by rw[Int.fdiv_eq_ediv_of_nonneg i (by omega)];exact q) (.inl (PyProof.noPylong_of_log2 (ZK ((Nat.log2_lt (by omega)).mpr h3) (by decide))))
end L2
namespace PySem
end PySem
namespace L2
open PySem PySem.Spec PyProof.Rows
section
variable {P:Program} {w:World} {K:PySem.W.Frag} {mg:Str->Option Value} {base:Heap}
end
section
variable {X:Cx}
end
section
variable {X:Cx}
end
end L2
set_option maxHeartbeats 1000000
namespace L2.F3
open PySem PySem.Spec PyProof.Rows
end L2.F3
namespace L2
open PySem PySem.Spec PyProof.Rows
section
variable {prog:Program} {w:World} {A:Around} {E:Value->Shared->Prop} {s:Shared}
end
section
variable {X:Cx}
end
section
variable {P:Program} {w:World} {K:PySem.W.Frag} {mg:Str->Option Value} {base:Heap}
end
section
variable {X:Cx}
noncomputable def dg (n:Nat):List Nat:=((toString (n:Int):String):Str).cps.toList
theorem Rw (n:Nat):((toString (n:Int):String):Str)=S (dg n):=Nl _
theorem Ai {n:Nat} (h:n<2 ^ 60):((n:Int)).natAbs.log2<1920:=by
 rw[Int.natAbs_natCast]
 by_cases z:n=0
 ·subst z;decide
 ·exact (Nat.log2_lt z).mpr (Yr h (Nat.pow_le_pow_right (by decide) (by decide)))
theorem Aj:eM X (.type "str") (fun xs H Q=> ∃n:Nat,xs=[.int n]/\n<2 ^ 60/\Q (.str (S (dg n))) H):=by
 intro pins s σ H xs us Q I r h
 obtain ⟨n,rfl,hz,q⟩:=h
 refine rL pins s σ H _ us Q I r ⟨n,rfl,Ai hz,?_⟩
 rw[Rw]
 exact q
end
section
variable {X:Cx} {elts:List Expr} {k:Nat} {pos':Pos} {a b:Expr} {ta:TA} {p pos:Pos}
end
end L2
set_option maxHeartbeats 1000000
namespace L2
open PySem PySem.Spec PyProof.Rows
theorem uQ:typeLookup (.type "dict") "__len__"=pure (some (.builtin "dict.__len__")):=PySem.F.slot_dict_len.lookup
section
variable {prog:Program} {w:World} {A:Around} {E:Value->Shared->Prop} {s:Shared} {KK:Type} [DecidableEq KK] {knd:PySem.KeyKind prog w KK}
theorem se {Q:List Value->Shared->Prop} (hh:A.handled=none) (d:Addr) (aQ:List (KK×Value)) (ep:Nat) (hd:(d==sysModules)=false) (hm:s.heap.DictAt knd d aQ ep) (hn:aQ.length<=sizeLine)
  (hQ: ∀s' acc,(∀b o,s.heap.get? b=some o->s'.heap.get? b=some o)->s'.gens=s.gens->s'.drawn=s.drawn->s'.os=s.os->ItemsOf (fun i v=> ∃k x,aQ[i]? =some (k,x)/\knd.is k v=true) acc aQ.length->Q acc.toList s'):
  wpAny (model prog w) A (collect (.ref d)) Q E s:=by
 have hT:s.TypeIs (.ref d) "dict":=hm.dictOf.typeIs
 obtain ⟨od,NP,Vx⟩:=id hT
 have NQ:=Yh NP
 unfold collect
 refine wpAny_bind (wpAny_runValue (codeAny_builtin PySem.F.entry_proto_collect ?_))
 rw[Around.under_plainId PySem.F.plain_proto_collect _]
 show wpAny _ A.in1 (newList [] >>= fun l=>again (.builtin "list.__iadd__" ⟨[l, .ref d],[]⟩)) _ _ s
 refine wpAny_bind (wpAny_newObj_type ?_)
 refine wpAny_pure ⟨plainId_quiet ZQ _,codeAny_builtin PySem.F.entry_list_iadd ?_⟩
 rw[Around.under_plainId ZQ _]
 show wpAny _ A.in1 (Builtin.List.listExtendWith (.ref s.heap.objs.size) (.ref d) (.ref s.heap.objs.size)) _ _ _
 generalize hH:s.heap.push { cls:= .type "list",data:= .seq ([]:List Value).toArray }=H
 have Rx:H.objs.size=s.heap.objs.size+1:=by rw[<-hH,Z2]
 have NR:H.DictAt knd d aQ ep:=hm.at' fun o e=>by rw[<-hH];exact S0 _ e
 have Vy:Shared.TypeIs { s with heap:=H } (.ref d) "dict":=NR.dictOf.typeIs
 have Ry:s.heap.objs.size≠d:=Qav NQ
 unfold Builtin.List.listExtendWith
 refine wpAny_bind (wpAny_typeOf Vy ?_)
 have h1:Builtin.List.listSameRef (.ref s.heap.objs.size) (.ref d)=false:=by simp[Builtin.List.listSameRef,Ry]
 rw[if_neg (by rw[h1];decide)]
 refine wpAny_bind (wpAny_pyIter_dict (s:={ s with heap:=H }) hd NR ?_)
 show wpAny _ A.in1 _ _ _ { s with heap:=H.push { cls:= .type "dict_keyiterator",data:= .fields #[.ref d, .int 0 0, .int aQ.length 0, .int ep 0] } }
 generalize G6:H.push { cls:= .type "dict_keyiterator",data:= .fields #[.ref d, .int 0 0, .int aQ.length 0, .int ep 0] }=H2
 have Fj:H2.DictAt knd d aQ ep:=NR.at' fun o e=>by rw[<-G6];exact S0 _ e
 have Rz:Shared.TypeIs { s with heap:=H2 } (.ref d) "dict":=Fj.dictOf.typeIs
 refine wpAny_bind (wpAny_holding ?_)
 unfold Builtin.List.listLengthHint
 refine wpAny_bind (wpAny_specialOf Rz uQ ?_)
 wp_delta
 refine wpAny_bind (wpAny_isInstance (T:="dict") (b:=true) Rz (by rw[isSubtype_type];kernel_rfl) ?_)
 show wpAny _ A.in1 (typeOf (Value.ref d) >>= _) _ _ _
 refine wpAny_bind (wpAny_typeOf Rz ?_)
 refine wpAny_pure ?_
 rw[if_pos (by decide+kernel)]
 refine wpAny_bind (wpAny_rule ?_)
 refine wpAny_bind ?_
 unfold Builtin.List.listTouch
 have hS:H2.get? s.heap.objs.size=some { cls:= .type "list",data:= .seq ([]:List Value).toArray }:=by
  rw[<-G6];exact S0 _ (by rw[<-hH];exact Yf _ rfl)
 refine wpAny_bind (wpAny_updateSeq hS rfl ?_ (Xy _) (Y7 (Xy _)))
 have NM:=YQ (Obj.mapSeq (fun l:Array Value=>l.push .none)) hS rfl
 refine wpAny_updateSeq NM rfl ?_ (by show 1<=sizeLine;decide) (Xy _)
 have Rq:=YQ (Obj.mapSeq (fun l:Array Value=>l.pop)) NM rfl
 have KZ: ∀b o,b≠s.heap.objs.size->H2.get? b=some o->((H2.update s.heap.objs.size (Obj.mapSeq (fun l:Array Value=>l.push .none))).update s.heap.objs.size (Obj.mapSeq (fun l:Array Value=>l.pop))).get? b=some o:=fun b o hb e=>
  (Yy _ _ (Ne.symm hb)).trans ((Yy _ _ (Ne.symm hb)).trans e)
 have hit:H2.get? H.objs.size=some { cls:= .type "dict_keyiterator",data:= .fields #[.ref d, .int 0 0, .int aQ.length 0, .int ep 0] }:=by rw[<-G6];exact Yf _ rfl
 have Td:H.objs.size≠s.heap.objs.size:=by rw[Rx];exact Qaj _
 have Vz:d≠H.objs.size:=by rw[Rx];exact Yk (ZH NQ)
 have Ro:s.heap.objs.size∉[H.objs.size,d]:=fun VA=>by
  rcases Vi.mp VA with z | z
  ·exact Td z.symm
  ·exact Ry (Vk.mp z)
 refine wpAny_pure ⟨plainId_quiet PySem.F.plain_extend_loop _,codeAny_extend_loopS (Walks.dictKeys (knd:=knd) (A:=A.in1) hh H.objs.size d Vz aQ ep).toS hn _ Ro _ aQ.length 0 _ _ _ rfl (Xy _)
  ⟨⟨_,KZ _ _ Td hit,rfl,rfl⟩,Fj.at' fun o e=>KZ d o (Ne.symm Ry) e⟩ Rq (ItemsOf.nil _) fun s' cA c' Pj Jj iG=>?_⟩
 show wpAny _ A (load s.heap.objs.size >>= _) _ _ s'
 refine wpAny_bind (wpAny_load Jj ?_)
 refine wpAny_pure (hQ s' cA (fun b ob e=>Pj.heap b ob (fun hb=>?_) (KZ b ob (Yk (Yh e)) (by rw[<-G6];exact S0 _ (by rw[<-hH];exact S0 _ e)))) Pj.gens Pj.drawn Pj.os iG)
 have dB:=Yh e
 rcases Vi.mp hb with h | h
 ·exact absurd dB (h▸YK _)
 ·rw[Vk.mp h,Rx]at dB;exact absurd dB (Nat.not_lt.mpr (Zu _))
end
section
variable {X:Cx}
theorem yL {aQ:List (Key×V)} {vs:List (Key×Value)} (h:KV aQ vs):vs.map (·.1)=aQ.map (·.1):=by
 induction h with
 | nil=>rfl
 | cons r _ ih=>rw[Ym,Ym,ih,r.1]
end
section
variable {X:Cx}
end
end L2
set_option maxHeartbeats 4000000
namespace XL
open PySem PySem.Spec PySem.Calls PyProof.Rows PySem.W
section
variable {M:Model} {A:Around} {E:Value->Shared->Prop} {s:Shared} {base:Heap} {env VB:Env} {outer:List Env} {L e C:Addr} {dO:Option Addr}
end
end XL
set_option maxHeartbeats 4000000
namespace L2
open PySem PySem.Spec PyProof.Rows XL
section
variable {P:Program} {w:World} {K:PySem.W.Frag} {mg:Str->Option Value} {base:Heap} {N:List Str} {qual:Str} {scope:Scope} {f:Addr} {cd:Value} {A:Around} {outer:List Env} {s:Shared} {H:Hp} {E:XK}
end
section
variable {X:Cx} {scope:Scope} {C:Addr} {Nc:List Str} {s0:Shared} {H0:Hp} {fp:List Addr} {pn pins:List (Addr×Obj)} {xe:Value->Shared->Prop} {σ:St} {H:Hp} {s:Shared}
end
end L2
set_option maxHeartbeats 1000000
namespace L2
open PySem PySem.Spec PyProof.Rows
section
variable {X:Cx}
end
section
variable {X:Cx}
end
end L2
namespace PySem
open Sem (wp)
section
variable {prog:Program} {w:World} {K:Type} [DecidableEq K] (knd:KeyKind prog w K)
variable {knd}
variable {A:Around} {E:Value->Shared->Prop} {s:Shared}
end
end PySem
namespace PySem
open Sem (wp)
namespace F
end F
section
variable {prog:Program} {w:World} {A:Around} {E:Value->Shared->Prop} {s:Shared}
end
section
variable {prog:Program} {w:World} {K:Type} [DecidableEq K] {knd:HeapKind prog w K} {A:Around} {E:Value->Shared->Prop} {s:Shared}
end
end PySem
namespace L2
open PySem PySem.Spec PyProof.Rows
section
variable {X:Cx} {o i:Expr} {pos:Pos} {td ty:TE}
end
end L2
namespace L2.F2
open PySem PySem.Spec PyProof.Rows
end L2.F2
namespace L2
open PySem PySem.Spec PyProof.Rows
section
variable {prog:Program} {w:World} {A:Around} {E:Value->Shared->Prop} {s:Shared}
end
section
variable {X:Cx} {tg:Expr}
end
end L2
set_option maxHeartbeats 1000000
namespace L2
open PySem PySem.Spec PyProof.Rows
section
variable {X:Cx}
theorem Ca {i:Nat} (h:(i:Int)<2 ^ 63):Builtin.List.listFitsIndex (i:Int)=true:=by
 unfold Builtin.List.listFitsIndex
 rw[YH]
 exact ⟨decide_eq_true (by omega),decide_eq_true (by omega)⟩
def Fl:V->List V->Hp->VK->Prop:=fun x vs H Q=> ∃(l:Addr) (xs:List V) (i:Nat) (y:V),x= .ref l/\vs=[.int i,y]/\H l=some (.lst xs)/\i<=xs.length/\xs.length<sizeLine/\Q .fH (upd H l (.lst (xs.take i++y::xs.drop i)))
theorem Ak:M9 X "list.insert" Fl:=by
 intro pins s σ H x vs v us Q I rx rv h
 obtain ⟨l,xs,i,y,rfl,rfl,hH,hi,hz,q⟩:=h
 cases rx
 obtain ⟨a,b,rfl,⟨t,rfl⟩,rb⟩:=vals2 rv
 obtain ⟨z,aJ,n,r,hl,e⟩:=I.wM hH
 have hn:=eO
 have hf: ¬(!Builtin.List.listFitsIndex (i:Int))=true:=by rw[Ca (by omega)];decide
 have hsz:aJ.toArray.size<=sizeLine:=by rw[Vl];omega
 generalize hI:(i:Int)=I' at hf
 have hm:=PySem.AutoSeq1.list_insert_list_int_val_1 l aJ.toArray n I' t b hf hsz
 refine call_meets F.slot_list_insert ⟨_,e,rfl⟩ F.entry_list_insert (F.args_list_insert_3 _ _ _) hm ⟨e,?_⟩
 clear hm
 refine ⟨.fH,_,I.BC (its':=aJ.take i++b::aJ.drop i) hH e ?_ ?_ ?_,rfl,q⟩
 ·have e1:(if I'<0 then (I'+(aJ.toArray.size:Int)).toNat else min I'.toNat aJ.toArray.size)=i:=by rw[<-hI,if_neg (by omega),Xx,Vl];omega
  show ((aJ.toArray.extract 0 (if I'<0 then (I'+(aJ.toArray.size:Int)).toNat else min I'.toNat aJ.toArray.size)).push b++aJ.toArray.extract (if I'<0 then (I'+(aJ.toArray.size:Int)).toNat else min I'.toNat aJ.toArray.size))=_
  rw[e1]
  apply Qao.mp
  simp
  exact Yn (by rw[Yc];exact SY _)
 ·have h1:Vals (xs.take i) (aJ.take i):=r.take i
  exact h1.append (.cons rb (r.drop i))
 ·rw[KW,Ys,Xw,Yc];omega
end
end L2
namespace L2
open PySem PySem.Spec PyProof.Rows PySem.W
section
section
variable {lt:Nat->Nat->Bool} {n:Nat}
end
end
section
variable {prog:Program} {w:World} {A:Around} {E:Value->Shared->Prop} {s:Shared}
end
section
variable {X:Cx}
end
section
variable {X:Cx} {tg:Expr}
end
section
variable {X:Cx} {tg:Expr}
end
end L2
namespace L2
open PySem PySem.Spec PyProof.Rows PySem.MeetsSeq PySem.SeqAt
section
variable {X:Cx}
end
section
variable {prog:Program} {w:World} {A:Around} {E:Value->Shared->Prop} {s:Shared}
variable {z TI TO i1 i2:Addr} {f1 f2:List Addr} {n1 n2 i:Nat} {P1 P2:Nat->Value->Prop} {S1 S2:Nat->Heap->Prop} {a b:Value}
end
section
variable {X:Cx} {nx:Str} {pos':Pos} {a b:Expr} {ta:TA} {p pos:Pos}
end
end L2
namespace L2
open PySem PySem.Spec PyProof.Rows HT
section
variable {prog:Program} {w:World} {A:Around} {E:Value->Shared->Prop} {s:Shared}
end
section
variable {X:Cx}
end
section
variable {X:Cx} {o i e value tg:Expr} {pos pos' MS:Pos} {td ty tv:TE} (K:PySem.W.Frag) (P:Program) (w:World)
end
section
variable {X:Cx}
end
section
variable {X:Cx}
end
section
variable {X:Cx} {tg:Expr}
end
end L2
set_option maxHeartbeats 1000000
namespace L2
open PySem PySem.Spec PyProof.Rows
section
variable {prog:Program} {w:World} {A:Around} {E:Value->Shared->Prop} {s:Shared}
end
section
variable {X:Cx} {a b:Expr} {ta:TA} {p p2 pos xi:Pos}
end
end L2
set_option maxHeartbeats 1000000
namespace L2
open PySem PySem.Spec PyProof.Rows
section
variable {prog:Program} {w:World} {A:Around} {E:Value->Shared->Prop} {s:Shared} {κ:KeyKind} {a₀:Array Keyed}
end
section
variable {prog:Program} {w:World} {A:Around} {E:Value->Shared->Prop} {s:Shared} {κ:KeyKind} {a₀:Array Keyed}
end
end L2
set_option maxHeartbeats 1000000
namespace L2
open PySem PySem.Spec PyProof.Rows
section
variable {prog:Program} {w:World} {A:Around} {E:Value->Shared->Prop} {s:Shared} {κ:KeyKind} {a₀:Array Keyed}
end
section
variable {prog:Program} {w:World} {A:Around} {E:Value->Shared->Prop} {s:Shared} {κ:KeyKind} {a₀:Array Keyed}
end
end L2
set_option maxHeartbeats 1000000
namespace L2
open PySem PySem.Spec PyProof.Rows
section
variable {prog:Program} {w:World} {A:Around} {E:Value->Shared->Prop} {s:Shared}
end
section
variable {X:Cx}
end
end L2
set_option maxHeartbeats 1000000
namespace L2
open PySem PySem.Spec PyProof.Rows
section
variable {X:Cx}
end
end L2
set_option maxHeartbeats 1000000
namespace L2
open PySem PySem.Spec PyProof.Rows
section
variable {prog:Program} {w:World} {A:Around} {E:Value->Shared->Prop} {s:Shared} {kd:SortKind} {lt:Keyed->Keyed->Bool} {a₀:Array Keyed}
end
end L2
set_option maxHeartbeats 1000000
namespace L2
open PySem PySem.Spec PyProof.Rows
section
variable {lt:Keyed->Keyed->Bool}
variable {a b out:Array Keyed} {ia ib k:Nat} {p q:Keyed}
end
section
variable {prog:Program} {w:World} {A:Around} {E:Value->Shared->Prop} {s:Shared} {kd:SortKind} {lt:Keyed->Keyed->Bool} {a₀:Array Keyed}
end
end L2
set_option maxHeartbeats 1000000
namespace L2
open PySem PySem.Spec PyProof.Rows
section
variable {lt:Keyed->Keyed->Bool}
variable {a b out:Array Keyed} {na nb k:Nat} {p q:Keyed}
end
section
variable {prog:Program} {w:World} {A:Around} {E:Value->Shared->Prop} {s:Shared} {kd:SortKind} {lt:Keyed->Keyed->Bool} {a₀:Array Keyed}
end
end L2
set_option maxHeartbeats 1000000
namespace L2
open PySem PySem.Spec PyProof.Rows
section
variable {lt:Keyed->Keyed->Bool}
end
section
variable {prog:Program} {w:World} {A:Around} {E:Value->Shared->Prop} {s:Shared} {kd:SortKind} {lt:Keyed->Keyed->Bool} {a₀:Array Keyed}
end
section
variable {prog:Program} {w:World} {A:Around} {E:Value->Shared->Prop} {s:Shared} {kd:SortKind} {lt:Keyed->Keyed->Bool} {a₀:Array Keyed}
end
end L2
set_option maxHeartbeats 1000000
namespace L2
open PySem PySem.Spec PyProof.Rows
section
variable {prog:Program} {w:World} {A:Around} {E:Value->Shared->Prop} {s:Shared} {kd:SortKind} {lt:Keyed->Keyed->Bool} {a₀:Array Keyed}
end
end L2
set_option maxHeartbeats 1000000
namespace L2
open PySem PySem.Spec PyProof.Rows
theorem sg: ∀a b c:List Int,bJ b a=false->bJ c b=false->bJ c a=false
 | [],[],[],_,_=>rfl
 | [],[],_::_,_,h=>h
 | [],_::_,[],_,_=>rfl
 | [],_::_,_::_,_,_=>rfl
 | _::_,[],_,h,_=>by cases h
 | _::_,_::_,[],_,h=>by cases h
 | x::a,y::b,z::c,h,g=>by
  have h':(if y=x then bJ b a else decide (y<x))=false:=h
  have g':(if z=y then bJ c b else decide (z<y))=false:=g
  show (if z=x then bJ c a else decide (z<x))=false
  by_cases e1:y=x
  ·rw[if_pos e1]at h'
   by_cases e2:z=y
   ·rw[if_pos e2]at g'
    rw[if_pos (e2.trans e1)]
    exact sg a b c h' g'
   ·rw[if_neg e2]at g'
    rw[if_neg fun w=>e2 (w.trans e1.symm), <-e1]
    exact g'
  ·rw[if_neg e1]at h'
   have q1:=of_decide_eq_false h'
   by_cases e2:z=y
   ·rw[if_neg fun w=>e1 (e2.symm.trans w),e2];exact h'
   ·rw[if_neg e2]at g'
    have q2:=of_decide_eq_false g'
    rw[if_neg (by omega)]
    exact decide_eq_false (by omega)
section
variable {prog:Program} {w:World} {A:Around} {E:Value->Shared->Prop} {s:Shared}
end
section
variable {X:Cx}
end
section
variable {X:Cx} {e st:Expr} {te:TE} {ts:TO} {pos p2:Pos}
theorem Al (l:List Nat) (t tk:Tok):sliceMade (S l) t none none (some (-1,tk))= .str (S l.reverse):=by
 unfold sliceMade
 rw[if_neg (by simp)]
 have e:slicePicked (S l) none none (some (-1,tk))=(List.range (S l).cps.size).reverse:=by
  rw[<-PySem.W.krv_range, <-PySem.W.krv_sliceRange]
  rfl
 rw[e,List.filterMap_reverse,PySem.W.krv_all,eS]
 rfl
def NS (te:TE) (ts:TO):TE:=fun σ H Q=>te σ H fun x H1=>ts σ H1 fun o H2=>o=some (-1)/\ ∃l,x= .str (S l)/\l.length<=sizeLine/\Q (.str (S l.reverse)) H2
theorem Fm (he:PE X e te) (hs:PO X (some st) ts):PE X (.Subscript e (.Slice none none (some st) p2) pos) (NS te ts):=by
 intro pins s σ H Q I h
 refine Subscript_ (cx (he pins s σ H _ I h) fun v s1 ⟨x,H1,I1,r1,q1⟩=>?_)
 refine wpAny_Slice ?_
 rw[evalPart_none]
 refine wpAny_pure (wpAny_pure (cx (hs pins s1 σ H1 _ I1 q1) fun vk s3 ⟨o,H3,I3,pk,eo,l,ex,hz,q3⟩=>?_))
 subst eo ex
 obtain ⟨t,rfl⟩:=r1
 cases pk with
 | int i tk=>
 have I4:Inv X pins σ H3 { s3 with heap:=s3.heap.push { cls:= .type "slice",data:= .fields #[.none, .none, .int (-1) tk] } }:=I3.kept (t':=s3.toks) fun b ob q=>S0 _ q
 show wpAny (model X.prog X.w) X.A (subscriptTail e (.Slice none none (some st) p2) (.str (S l) t) (.ref s3.heap.objs.size)) (EP X pins σ Q) X.xe { s3 with heap:=s3.heap.push { cls:= .type "slice",data:= .fields #[.none, .none, .int (-1) tk] } }
 refine tail_any (ops:=[.str (S l) t, .ref s3.heap.objs.size]) (typeIs_str _ _ _) F.slot_str_getitem.lookup (wpAny_getItem_str_slice (l:=none) (u:=none) (st:=some (-1,tk)) ⟨_,Yf _ rfl,rfl,rfl⟩ rfl ?_) (by with_unfolding_all rfl)
 rw[Al]
 refine ⟨by rw[b7,Yo];exact hz,?_⟩
 exact ⟨.str (S l.reverse),H3,I4.tok _,⟨_,rfl⟩,q3⟩
end
end L2
namespace PySem
open PySem.Spec PyProof.Rows
section
variable {M:Model} {A:Around} {E:Value->Shared->Prop} {s₀ s:Shared} {m cm:Str->Option Value} {env:Env}
end
end PySem
namespace L2
open PySem PySem.Spec PyProof.Rows
section
variable {P:Program} {w:World} {K:PySem.W.Frag} {mg:Str->Option Value} {base:Heap}
end
section
variable {X:Cx} {n:Nat} {p:Value->Shared->Prop}
end
section
variable {X:Cx}
end
section
variable {X:Cx}
end
section
variable {X:Cx}
end
section
variable {X:Cx}
end
section
variable {X:Cx}
end
end L2
set_option maxHeartbeats 1000000
namespace L2
open PySem PySem.Spec PyProof.Rows
section
variable {prog:Program} {w:World} {A:Around} {E:Value->Shared->Prop} {s:Shared}
end
section
variable {X:Cx}
end
section
variable {X:Cx}
end
section
variable {X:Cx}
end
section
variable {X:Cx}
end
end L2
set_option maxHeartbeats 4000000
namespace L2
open PySem PySem.Spec PyProof.Rows
section
variable {X:Cx} {K:PySem.W.Frag} {CX:zW} {k1 k2:Nat} {f1 f2:Addr} {Te Tf:FuncData} {Tg Th:List Str} {Pk Pl:Sp} {E:XK} {x f:Str} {p pos pos':Pos} {e o value:Expr} {es:List Expr} {ta tv:TE} {t:TA}
theorem bQ (K:PySem.W.Frag) (hK:X.K=K) (he:PE X e ta) (hb:attributeBase e f X.env (eval e X.env)=eval e X.env):PE X (.Attribute e f pos) (MR K ta f):=by subst hK;exact Ir he hb
def Cb (f1 f2:Addr) (Pk Pl:Sp) (E:XK) (ta:TE) (t:TA):TE:=fun σ H Q=>ta σ H fun v H1=>(v= .ref f1/\t σ H1 fun vs H2=>Pk vs H2 Q E)\/(v= .ref f2/\t σ H1 fun vs H2=>Pl vs H2 Q E)
theorem kA (hf:PE X (.Name x p) ta) (F1:bM X.prog X.w X.K X.mg X.base CX k1 f1 Te Tg Pk) (Hc:eQ k1 X.A) (K0:PySem.W.keepIn X.K (.ref f1)=true) (xj:Binds X.K Te Tg []) (F2:bM X.prog X.w X.K X.mg X.base CX k2 f2 Tf Th Pl) (NT:eQ k2 X.A) (w_:PySem.W.keepIn X.K (.ref f2)=true) (lr:Binds X.K Tf Th []) (hx:Passes CX X E)
  (ha:PA X (e::es) t) (he:starEach (e::es) X.env=(false,eval e X.env)::starEach es X.env:=by rfl) (j8:(backTo pos (starEach es X.env)).any (·.1)=false:=by rfl):
  PE X (.Call (.Name x p) (e::es) [] pos) (Cb f1 f2 Pk Pl E ta t):=by
 intro pins s σ H Q I h
 refine wpAny_Call_Name_kw (cx (hf pins s σ H _ I h) fun u s1 ⟨v,H1,I1,r,q⟩=>?_)
 rcases q with ⟨rfl,q⟩ | ⟨rfl,q⟩
 ·obtain rfl:u=Value.ref f1:=r
  refine Z9 (h₀:=X.base) I1.ok.mod.KO K0 (cx (ha pos pins s1 σ H1 _ I1 q) fun us s2 ⟨vs,H2,I2,r2,q2⟩=>⟨I2.zM,?_⟩) he j8
  exact wF (dvs:=[]) (ds:=[]) F1 Hc xj .nil hx I2 r2 (by rw[YW];exact q2)
 ·obtain rfl:u=Value.ref f2:=r
  refine Z9 (h₀:=X.base) I1.ok.mod.KO w_ (cx (ha pos pins s1 σ H1 _ I1 q) fun us s2 ⟨vs,H2,I2,r2,q2⟩=>⟨I2.zM,?_⟩) he j8
  exact wF (dvs:=[]) (ds:=[]) F2 NT lr .nil hx I2 r2 (by rw[YW];exact q2)
end
end L2
set_option maxHeartbeats 4000000
namespace L2
open PySem PySem.Spec PyProof.Rows
section
variable {prog:Program} {w:World} {A:Around} {E:Value->Shared->Prop} {R:Result->Shared->Prop} {I S:Addr} {fp wr:List Addr} {n:Nat} {P:Nat->Value->Prop} {St:Nat->Heap->Prop} {kw:List (Str×Value)} {bt:Nat->Nat->Bool}
theorem yM:(toString "max"++toString ".loop":String)="max.loop":=by decide
theorem NU (W:Walks prog w A.in1 I fp wr n P St) (cm:CmpOf prog w A.in1 .Gt P bt) (sf:S∉fp): ∀(m j:Nat) (s:Shared) (b:Value) (c:Nat),n=j+1+m->St (j+1) s.heap->P (argBest bt j) b->s.heap.get? S=some { cls:= .type "list",dict:=none,data:= .seq #[b,b] c,slots:= #[] }->
  (∀v h' tk,P (argBest bt (n - 1)) v->(∀a o,a∉wr->a≠S->s.heap.get? a=some o->h'.get? a=some o)->R (.ok (.ret v)) { s with heap:=h',toks:=tk })->
  codeAny (model prog w) A (.builtin "max.loop" ⟨[.ref I, .none, .ref S],kw⟩) R s:=by
 have sw:S∉wr:=fun z=>sf (W.sub _ z)
 intro m
 induction m with
 | zero=>
  intro j s b c en mD hb hS hR
  have e1:n=j+1:=en
  subst e1
  refine codeAny_builtin Qat ?_
  rw[Around.under_plainId Y8 _]
  refine wpAny_bind (m:=seqItems? (.ref S)) (wpAny_seqItems hS rfl ?_)
  refine wpAny_bind (m:=tryCatch (pyNext (.ref I)) _) (wpAny_tryCatch (W.done s _ _ mD fun h1 tk k1=>?_))
  refine wpAny_bind (m:=updateSeq S fun _=> #[]) (wpAny_updateSeq (k1 S _ sw hS) rfl (wpAny_bind (wpAny_letGo (wpAny_pure ?_))))
  exact hR b _ tk hb fun a o aw aS ea=>(Yy _ _ (Ne.symm aS)).trans (k1 a o aw ea)
 | succ m ih=>
  intro j s b c en mD hb hS hR
  refine codeAny_builtin Qat ?_
  rw[Around.under_plainId Y8 _]
  refine wpAny_bind (m:=seqItems? (.ref S)) (wpAny_seqItems hS rfl ?_)
  refine wpAny_bind (m:=tryCatch (pyNext (.ref I)) _) (wpAny_tryCatch (W.item (j+1) s _ _ (by omega) mD fun v h1 tk pv vW k1=>?_))
  have K1:=k1 S _ sw hS
  refine wpAny_bind (m:=tryCatch (holding [v,v] (richCompare .Gt v b >>= _)) _) (wpAny_tryCatch (wpAny_holding (wpAny_bind (cm (j+1) (argBest bt j) v b _ _ _ pv hb (wpAny_bind (wpAny_holding (wpAny_truthy_bool (wpAny_bind (wpAny_letGo (wpAny_pure ?_))))))))))
  cases q:bt (j+1) (argBest bt j)
  ·rw[if_neg (by decide)]
   refine wpAny_bind (wpAny_letGo ?_)
   rw[yM]
   refine wpAny_pure ⟨plainId_quiet Y8 _,ih (j+1) _ b c (by omega) vW (by rw[argBest,q];exact hb) K1 fun v' h2 NV p2 k2=>?_⟩
   exact hR v' h2 NV p2 fun a o aw aS ea=>k2 a o aw aS (k1 a o aw ea)
  ·rw[if_pos rfl]
   refine wpAny_bind (wpAny_updateSeq K1 rfl (wpAny_bind (wpAny_letGo ?_)))
   rw[yM]
   refine wpAny_pure ⟨plainId_quiet Y8 _,ih (j+1) _ v _ (by omega) (W.frame _ _ _ vW fun a af o ea=>?_) (by rw[argBest,q];exact pv) (YQ _ K1 rfl) fun v' h2 NV p2 k2=>?_⟩
   ·exact (Yy _ _ (fun z:S=a=>sf (z▸af))).trans ea
   ·exact hR v' h2 NV p2 fun a o aw aS ea=>k2 a o aw aS ((Yy _ _ (Ne.symm aS)).trans (k1 a o aw ea))
theorem NW (a d:Value):argsOk "max" ⟨[a],[(Str.ofString "default",d)]⟩:=by unfold argsOk;kernel_rfl
theorem Fn {s:Shared} {x d:Value} {Q:Value->Shared->Prop}
  (h:wpAny (model prog w) A.in1 (pyIter x) (fun it s₂=> ∃I fp wr n P St bt,it= .ref I/\Walks prog w A.in1 I fp wr n P St/\St 0 s₂.heap/\(∀b∈fp,b<s₂.heap.objs.size)/\CmpOf prog w A.in1 .Gt P bt/\
   ∀v h' tk,(n=0->v=d)->(0<n->P (argBest bt (n - 1)) v)->(∀b o,b∉wr->s₂.heap.get? b=some o->h'.get? b=some o)->Q v { s₂ with heap:=h',toks:=tk }) E s):
  wpAny (model prog w) A (call (.builtin "max") [x] [(Str.ofString "default",d)]) Q E s:=by
 refine kmk_tree PySem.F.kind_max PySem.F.plain_max PySem.F.entry_max (NW x d) ?_
 refine wpAny_bind (m:=Builtin.Builtins.bindParams "max" ["key","default"] 0 ⟨[],[(Str.ofString "default",d)]⟩) (wpAny_of_eq (a:=[none,some d]) rfl ?_)
 refine wpAny_bind (wpAny_pure (wpAny_bind (wpAny_mono h (fun it s2 h2=>?_) fun _ _ e=>e)))
 obtain ⟨I,fp,wr,n,P,St,bt,rfl,W,mD,VC,cm,hQ⟩:=h2
 refine wpAny_bind (wpAny_newObj_type ?_)
 have sf:s2.heap.objs.size∉fp:=fun z=>YK _ (VC _ z)
 have sw:s2.heap.objs.size∉wr:=fun z=>sf (W.sub _ z)
 have hS:(s2.heap.push { cls:= .type "list",data:= .seq #[] }).get? s2.heap.objs.size=some { cls:= .type "list",dict:=none,data:= .seq #[] 0,slots:= #[] }:=Yf _ rfl
 have NX:=W.frame _ _ (s2.heap.push { cls:= .type "list",data:= .seq #[] }) mD fun b _ o e=>S0 _ e
 have lo: ∀{b o},s2.heap.get? b=some o->b≠s2.heap.objs.size:=fun e=>Yk (Yh e)
 rw[yM]
 refine wpAny_pure ⟨plainId_quiet Y8 _,codeAny_builtin Qat ?_⟩
 rw[Around.under_plainId Y8 _]
 refine wpAny_bind (m:=seqItems? (.ref s2.heap.objs.size)) (wpAny_seqItems hS rfl ?_)
 cases n with
 | zero=>
  refine wpAny_bind (m:=tryCatch (pyNext (.ref I)) _) (wpAny_tryCatch (W.done _ _ _ NX fun h1 tk k1=>?_))
  refine wpAny_bind (wpAny_rule ?_)
  refine wpAny_pure (hQ d h1 tk (fun _=>rfl) (fun z=>absurd z (YK _)) fun b o bw e=>k1 b o bw (S0 _ e))
 | succ m=>
  refine wpAny_bind (m:=tryCatch (pyNext (.ref I)) _) (wpAny_tryCatch (W.item 0 _ _ _ (Nat.succ_pos _) NX fun v h1 tk pv vW k1=>?_))
  have K1:=k1 _ _ sw hS
  refine wpAny_bind (m:=updateSeq s2.heap.objs.size fun _=> #[v,v]) (wpAny_updateSeq K1 rfl ?_)
  rw[yM]
  refine wpAny_pure ⟨plainId_quiet Y8 _,NU W cm sf m 0 _ v _ (by omega) (W.frame _ _ _ vW fun a af o ea=>?_) pv (YQ _ K1 rfl) fun v' h2 NV p2 k2=>?_⟩
  ·exact (Yy _ _ (fun z:s2.heap.objs.size=a=>sf (z▸af))).trans ea
  ·exact hQ v' h2 NV (fun z=>by omega) (fun _=>p2) fun b o bw e=>k2 b o bw (lo e) ((Yy _ _ (Ne.symm (lo e))).trans (k1 b o bw (S0 _ e)))
end
noncomputable def Jm (d:Int):List Int->Int
 | []=>d
 | a::r=>r.foldl (fun x y=>if y>x then y else x) a
noncomputable def fh (l:List Int) (i j:Nat):Bool:=decide (l.getD i 0>l.getD j 0)
theorem kB (l:List Int): ∀n:Nat,n<l.length->l.getD (argBest (fh l) n) 0=((l.drop 1).take n).foldl (fun x y=>if y>x then y else x) (l.getD 0 0)
 | 0,_=>by simp[argBest]
 | n+1,h=>by
  have ih:=kB l n (by omega)
  have e:(l.drop 1).take (n+1)=(l.drop 1).take n++[l.getD (n+1) 0]:=by
   rw[Qbq,Zb,show 1+n=n+1 by omega,Xv,IM h]
   rfl
  rw[e,Qae, <-ih]
  show l.getD (if fh l (n+1) (argBest (fh l) n)=true then n+1 else argBest (fh l) n) 0=if l.getD (n+1) 0>l.getD (argBest (fh l) n) 0 then l.getD (n+1) 0 else l.getD (argBest (fh l) n) 0
  by_cases z:l.getD (n+1) 0>l.getD (argBest (fh l) n) 0
  ·rw[if_pos (show fh l (n+1) (argBest (fh l) n)=true from decide_eq_true z),if_pos z]
  ·rw[if_neg (show ¬fh l (n+1) (argBest (fh l) n)=true from fun w=>z (of_decide_eq_true w)),if_neg z]
section
variable {X:Cx}
theorem Cc {prog:Program} {w:World} {A:Around} {l:List Int} {aJ:List Value} (r:Vals (l.map V.int) aJ):CmpOf prog w A .Gt (fun i v=>aJ.toArray[i]? =some v) (fh l):=by
 intro i j vi vj s Q E hi hj hQ
 have get: ∀{i:Nat} {v:Value},aJ.toArray[i]? =some v-> ∃t,v= .int (l.getD i 0) t:=by
  intro i v h
  have h':aJ[i]? =some v:=by simpa using h
  have hl:i<l.length:=by have:=(IQ.mp h').1;rw[<-r.length,Pd]at this;exact this
  obtain ⟨u,hu,ru⟩:=r.get (i:=i) (x:=V.int (l.getD i 0)) (by rw[Yb,Xv,IM hl];rfl)
  rw[h']at hu;cases hu
  exact ru
 obtain ⟨t,rfl⟩:=get hi
 obtain ⟨u,rfl⟩:=get hj
 exact gt_int hQ
def NY (K:PySem.W.Frag) (d:Int) (t:TA):TE:=fun σ H Q=>t σ H fun vs H1=> ∃(p:Addr) (l:List Int),vs=[.ref p]/\bN K H1 p (l.map V.int)/\Q (.int (Jm d l)) H1
theorem Fo {e:Expr} {t:TA} {d:Int} {j:Nat} {kp cp p pos:Pos} (K:PySem.W.Frag) (hK:X.K=K) (hc:X.calm=true) (hg:Gl X "max") (hm:X.mg "max"=none) (ha:PA X [e] t)
  (he:backTo pos (starEach [e] X.env)=[(false,eval e X.env)]:=by rfl):PE X (.Call (.Name "max" p) [e] [⟨some "default", .Constant (.int d) j cp,kp⟩] pos) (NY K d t):=by
 subst hK
 intro pins s σ H Q I h
 refine wpAny_Call_Name_kw (gv I hg hm boot_max ?_)
 refine callWith_kw (cx (ha pos pins s σ H _ I h) fun us s1 ⟨vs,H1,I1,r1,q1⟩=>?_) he (by rw[he];rfl)
 obtain ⟨a,l,rfl,hq,q⟩:=q1
 obtain ⟨u,rfl,ru⟩:=vals1 r1
 cases ru
 refine kws_cons (wpAny_Constant_int (kws_nil ?_))
 obtain ⟨aJ,rv,pl,hz⟩:=I1.list hq
 have hlen:aJ.length=l.length:=by rw[<-rv.length,Pd]
 have hp:a<s1.heap.objs.size:=by
  obtain ⟨o,n,e,_⟩:=pl
  exact Yh e
 refine Fn (wpAny_pyIter_list pl.isList ?_)
 refine ⟨_,_,_,_,_,_,fh l,rfl,Walks.list (A:=X.A.in1) (I1.ok.hd hc) s1.heap.objs.size a (Yk hp) aJ.toArray,⟨⟨_,Yf _ rfl,rfl,rfl⟩,?_⟩,fun b hb=>?_,Cc rv,fun v h' tk h0 h1 hk=>?_⟩
 ·obtain ⟨o,ho,hr⟩:=pl.isList
  exact ⟨o,S0 _ ho,hr⟩
 ·show b<(s1.heap.push _).objs.size
  rw[Z2]
  exact (Vi.mp hb).elim (fun z=>z▸Zs _) fun z=>(Vk.mp z)▸ZH hp
 ·have ru:RelV (.int (Jm d l)) v:=by
   cases l with
   | nil=>
    have:=h0 (by rw[Vl,hlen];rfl)
    subst this
    exact ⟨_,rfl⟩
   | cons b l=>
    have hn:aJ.toArray.size - 1=l.length:=by rw[Vl,hlen];rfl
    have hP:=h1 (by rw[Vl,hlen];exact Nat.succ_pos _)
    rw[hn]at hP
    have VD:aJ[argBest (fh (b::l)) l.length]? =some v:=by simpa using hP
    have hl:argBest (fh (b::l)) l.length<(b::l).length:=Nat.lt_succ_of_le (argBest_lt _ _)
    have e:=kB (b::l) l.length (Zs _)
    rw[show ((b::l).drop 1).take l.length=l from Yn (SY _),Xv,IM hl]at e
    have e':(b::l)[argBest (fh (b::l)) l.length]=Jm d (b::l):=e
    obtain ⟨u,hu,ru⟩:=rv.get (i:=argBest (fh (b::l)) l.length) (x:=V.int (Jm d (b::l))) (by rw[Yb,IM hl,e'];rfl)
    rw[VD]at hu;cases hu
    exact ru
  refine ⟨.int (Jm d l),H1,?_,ru,q⟩
  have I2:Inv X pins σ H1 { s1 with heap:=s1.heap.push { cls:= .type "list_iterator",data:= .fields #[.ref a, .int 0 0] },toks:=s1.toks+1 }:=I1.kept (t':=s1.toks+1) fun b o e=>S0 _ e
  have f:=I1.pL (H':=H1) (b:=s1.heap.objs.size) (SY _) I1.fresh
  exact I2.turned (h':=h') (t':=tk) (it:=s1.heap.objs.size) (fun b o hb e=>hk b o (by simpa using hb) e) f.1 f.2.1 f.2.2.2.1 f.2.2.2.2.1 f.2.2.2.2.2
end
end L2
set_option maxHeartbeats 1000000
namespace L2
open PySem PySem.Spec PyProof.Rows
section
variable {X:Cx}
theorem Jn:MF X .Mult (fun x y H Q=> ∃i j,x= .int i/\y= .int j/\EI i j/\Q (.int (i*j)) H):=by
 intro pins s σ H x y v u Q I r1 r2 h
 obtain ⟨i,j,rfl,rfl,c,q⟩:=h
 obtain ⟨t,rfl⟩:=r1
 obtain ⟨t',rfl⟩:=r2
 exact imul_int ⟨.int _,H,I.tok _,⟨_,rfl⟩,q⟩ c.ok
theorem Fp:MF X .FloorDiv (fun x y H Q=> ∃i j,x= .int i/\y= .int j/\QM i j/\Q (.int (i / j)) H):=by
 intro pins s σ H x y v u Q I r1 r2 h
 obtain ⟨i,j,rfl,rfl,hc,q⟩:=h
 obtain ⟨t,rfl⟩:=r1
 obtain ⟨t',rfl⟩:=r2
 have h1:(0:Int)<j:=hc.1
 have h2:j<1073741824:=hc.2
 exact ifloordiv_int (by omega) (by rw[Int.fdiv_eq_ediv_of_nonneg i (by omega)];exact ⟨.int _,H,I.tok _,⟨_,rfl⟩,q⟩) (.inl (PyProof.noPylong_small (by omega)))
end
theorem uR: ∀{ls:List Int} {aJ:List Value},Vals (ls.map V.int) aJ->IntsAre aJ ls
 | [],_, .nil=> .nil
 | _::_,_, .cons ⟨t,e⟩ h=>e▸ .cons _ t (uR h)
theorem uS: ∀{ls:List Int} {aJ:List Value},IntsAre aJ ls->Vals (ls.map V.int) aJ
 | _,_, .nil=> .nil
 | _,_, .cons n t h=> .cons ⟨t,rfl⟩ (uS h)
section
variable {prog:Program} {w:World} {A:Around} {E:Value->Shared->Prop} {s:Shared}
theorem si {Q:Value->Shared->Prop} (hh:A.handled=none) (d:Addr) (aQ:List (Key×Value)) (ep:Nat) (ls:List Int) (hk:aQ.map (·.1)=ls.map fun l=>Sum.inl l) (hd:(d==sysModules)=false) (hm:s.heap.DictAt (cF prog w) d aQ ep) (Vs:aQ.length<64)
  (h: ∀(h1 h':Heap) (tk:Nat) (a:Addr) (out:Array Value) (Bb:List Int) (e:Nat),(∀b o,s.heap.get? b=some o->h1.get? b=some o)->(∀b o,h1.get? b=some o->h'.get? b=some o)->a=h1.objs.size->h'.get? a=some (seqObj "list" out e)->IntsAre out.toList Bb->Bb.Perm ls->(Bb.Pairwise fun a b=> ¬b<a)->Q (.ref a) { s with heap:=h',toks:=tk }):
  wpAny (model prog w) A (call (.builtin "sorted") [.ref d]) Q E s:=by
 refine Calls.call_function_entry kind_sorted plain_sorted entry_sorted (args_sorted1 _) ?_
 unfold Builtin.«sorted»
 refine wpAny_bind (m:=checkCount "sorted" 1 1 _) (wpAny_pure ?_)
 have jy:(10000:Nat)<sizeLine:=by decide
 refine wpAny_bind (se (A:=A.in1) (show A.in1.handled=none from hh) d aQ ep hd hm (by omega) (fun s' acc VE hg Pm ho iG=>?_))
 obtain ⟨h1,h2⟩:=iG
 have hlen:aQ.length=ls.length:=by have:=congrArg List.length hk;simpa using this
 have rv:Vals (ls.map V.int) acc.toList:=by
  have key: ∀(ls:List Int) (vs:List Value),vs.length=ls.length->(∀(j:Nat) (v:Value),vs[j]? =some v-> ∃l t,ls[j]? =some l/\v=Value.int l t)->Vals (ls.map V.int) vs:=by
   intro ls
   induction ls with
   | nil=>intro vs hl _;have:vs=[]:=Z0 hl;subst this;exact .nil
   | cons l ls ih=>
    intro vs hl hv
    cases vs with
    | nil=>simp at hl
    | cons v vs=>
     obtain ⟨l',t,e1,e2⟩:=hv 0 v rfl
     have BM:l=l':=by simpa using e1
     subst BM
     refine .cons ⟨t,e2⟩ (ih vs (by simpa using hl) fun j v' e=>?_)
     obtain ⟨l',t',g1,g2⟩:=hv (j+1) v' (by simpa using e)
     exact ⟨l',t',by simpa using g1,g2⟩
  refine key ls acc.toList (by simpa [<-hlen]using h1) fun j v e=>?_
  obtain ⟨k,x,e1,e2⟩:=h2 j v (by simpa using e)
  have e3:(aQ.map (·.1))[j]? =some k:=by rw[Yb,e1];rfl
  rw[hk,Yb]at e3
  cases e4:ls[j]? with
  | none=>rw[e4]at e3;cases e3
  | some l=>
   rw[e4]at e3
   have e5:k=Sum.inl l:=(Yg e3).symm
   subst e5
   obtain ⟨t,e6⟩:=Value.isInt_shape (k:=l) (v:=v) e2
   exact ⟨l,t,rfl,e6⟩
 have hS:=uR rv
 have hn:acc.toList.length=ls.length:=by rw[<-rv.length,Pd]
 refine wpAny_bind (wpAny_newList ?_)
 have Mw:(s'.heap.push (seqObj "list" acc.toList.toArray 0)).get? s'.heap.objs.size=some (seqObj "list" acc.toList.toArray 0):=Yf _ rfl
 show wpAny _ _ _ _ _ { s' with heap:=s'.heap.push (seqObj "list" acc.toList.toArray 0) }
 refine wpAny_bind (wpAny_holding (wpAny_call_entry slot_list_sort ⟨_,Mw,rfl⟩ entry_list_sort (list_sort_tree Mw hS (by omega) fun out Bb k1 k2 k3=>⟨_,rfl,?_⟩) (args_list_sort _)))
 obtain ⟨e,he⟩:=sortedHeap_at (out:=out) Mw
 refine wpAny_pure ⟨_,rfl,?_⟩
 have es: ∀hh:Heap,({ s' with heap:=hh }:Shared)={ s with heap:=hh,toks:=s'.toks }:=fun hh=>by
  cases s;cases s'
  simp only at hg Pm ho
  subst hg Pm ho
  rfl
 show Q (.ref s'.heap.objs.size) { s' with heap:=sortedHeap (s'.heap.push (seqObj "list" acc.toList.toArray 0)) s'.heap.objs.size acc.toList (out) }
 rw[es]
 refine h s'.heap _ _ _ _ Bb e VE (fun b o hb=>?_) rfl he k1 k2 (k3.imp fun h=>Int.not_lt.mpr h)
 have dB:=Yh hb
 rw[sortedHeap_old (Yk dB) (by rw[size_push'];exact ZH dB)]
 exact S0 _ hb
end
section
variable {X:Cx}
def Fq:List V->Hp->VK->Prop:=fun xs H Q=> ∃(d:Addr) (aQ:List (Key×V)) (ls:List Int),xs=[.ref d]/\H d=some (.dK aQ)/\aQ.map (·.1)=(ls.map fun l=>Sum.inl l)/\ls.length<64/\ ∀(q:Addr) (ms:List Int),H q=none->ms.Perm ls->(ms.Pairwise fun a b=> ¬b<a)->Q (.ref q) (upd H q (.lst (ms.map V.int)))
theorem pV (hc:X.calm=true):eM X (.builtin "sorted") Fq:=by
 intro pins s σ H xs us Q I r h
 obtain ⟨d,aQ,ls,rfl,hd,hk,hn,q⟩:=h
 obtain ⟨u,rfl,ru⟩:=vals1 r
 cases ru
 obtain ⟨hz,RA,vs,kv,o,es,ep,e1,e2,e3,e4,e5,e6⟩:=I.b5 d _ hd
 have hlen:vs.length=ls.length:=by
  have a1:=congrArg List.length (yL kv)
  have a2:=congrArg List.length hk
  simp only[Pd]at a1 a2
  omega
 refine si (s:=s) (I.ok.hd hc) d vs ep ls ((yL kv).trans hk) RA ⟨o,es,e1,e2,e3,e4,e5,e6⟩ (by omega) fun h1 h' tk a out Bb e k1 k2 ea he g1 g2 g3=>?_
 have uI:=g2
 have hv:=uS g1
 have pw:=g3
 have I1:Inv X pins σ H { s with heap:=h1,toks:=tk }:=I.kept k1
 have hsz:(10000:Nat)<sizeLine:=by decide
 have I2:Inv X pins σ (upd H a (.lst (Bb.map V.int))) { s with heap:=h',toks:=tk }:=
  I1.laid (t':=tk) (a:=a) (o:= .lst (Bb.map V.int)) k2 (by rw[ea];exact SY _) ⟨by rw[Pd,uI.length_eq];omega,out.toList,e,hv,by simpa [seqObj]using he⟩
 exact ⟨.ref a,_,I2,rfl,q _ _ (I1.b5.fresh (by rw[ea];exact SY _)) uI pw⟩
end
end L2
set_option maxHeartbeats 1000000
namespace L2
open PySem PySem.Spec PyProof.Rows
section
variable {prog:Program} {w:World} {A:Around} {E:Value->Shared->Prop} {s:Shared}
theorem lN {R:Result->Shared->Prop} (hh:A.handled=none) (x:Str) (t:Tok) (it:Addr) (hit:dc s.heap it x t ((x.length:Int) - 1)) (h0:0<x.length) (hz:x.length<=sizeLine)
  (hR: ∀h' tk cA c',(∀b o,b≠it->s.heap.get? b=some o->h'.get? b=some o)->h'.get? s.heap.objs.size=some { cls:= .type "list",dict:=none,data:= .seq cA c',slots:= #[] }->ItemsOf (fun i v=> ∃c u,x.cps[x.length - 1 - i]? =some c/\v= .str ⟨#[c]⟩ u) cA x.length->R (.ok (.ret (.ref s.heap.objs.size))) { s with heap:=h',toks:=tk }):
  codeAny (model prog w) A (.builtin "proto.collect" ⟨[.ref it],[]⟩) R s:=by
 refine codeAny_builtin PySem.F.entry_proto_collect ?_
 rw[Around.under_plainId PySem.F.plain_proto_collect _]
 show wpAny _ A.in1 (newList [] >>= fun l=>again (.builtin "list.__iadd__" ⟨[l, .ref it],[]⟩)) _ _ s
 refine wpAny_bind (wpAny_newObj_type ?_)
 refine wpAny_pure ⟨plainId_quiet ZQ _,codeAny_builtin PySem.F.entry_list_iadd ?_⟩
 rw[Around.under_plainId ZQ _]
 have hS:(s.heap.push { cls:= .type "list",data:= .seq ([]:List Value).toArray }).get? s.heap.objs.size=some { cls:= .type "list",data:= .seq ([]:List Value).toArray }:=Yf _ rfl
 have Ji:dc (s.heap.push { cls:= .type "list",data:= .seq ([]:List Value).toArray }) it x t ((x.length:Int) - 1):=by
  obtain ⟨o,ho,r⟩:=hit
  exact ⟨o,S0 _ ho,r⟩
 show wpAny _ A.in1 (Builtin.List.listExtendWith (.ref s.heap.objs.size) (.ref it) (.ref s.heap.objs.size)) _ _ _
 exact Fh (s:={ s with heap:=s.heap.push { cls:= .type "list",data:= .seq ([]:List Value).toArray } }) hh x t it _ _ _ hS Ji h0 hz fun h' tk cA c' hk Jj iG=>hR h' tk cA c' (fun b o hb e=>hk b o (Yk (Yh e)) hb (S0 _ e)) Jj iG
theorem uT {Q:List Value->Shared->Prop} (hh:A.handled=none) (x:Str) (t:Tok) (it:Addr) (hit:dc s.heap it x t ((x.length:Int) - 1)) (h0:0<x.length) (hz:x.length<=sizeLine)
  (hQ: ∀(h':Heap) (tk:Nat) (cA:Array Value),(∀b o,b≠it->s.heap.get? b=some o->h'.get? b=some o)->ItemsOf (fun i v=> ∃c u,x.cps[x.length - 1 - i]? =some c/\v= .str ⟨#[c]⟩ u) cA x.length->Q cA.toList { s with heap:=h',toks:=tk }):
  wpAny (model prog w) A (collect (.ref it)) Q E s:=by
 unfold collect
 refine wpAny_bind (wpAny_runValue (lN hh x t it hit h0 hz fun h' tk cA c' hk Jj iG=>?_))
 show wpAny _ A (load s.heap.objs.size >>= _) _ _ _
 refine wpAny_bind (wpAny_load Jj ?_)
 exact wpAny_pure (hQ h' tk cA hk iG)
theorem pW {Q:Value->Shared->Prop} (hh:A.handled=none) (sep:Str) (ts:Tok) (x:Str) (t:Tok) (it:Addr) (hit:dc s.heap it x t ((x.length:Int) - 1)) (h0:0<x.length) (hz:x.length<=sizeLine)
  (hQ: ∀(h':Heap) (tk:Nat) (l:List (Str×Tok)),(∀b o,b≠it->s.heap.get? b=some o->h'.get? b=some o)->ItemsOf (fun i v=> ∃c u,x.cps[x.length - 1 - i]? =some c/\v= .str ⟨#[c]⟩ u) (strValues l).toArray x.length->
   JoinOk sep (l.map (·.1))=true/\ ∀t' k,Q (.str (Txt.join sep (l.map (·.1))) t') { s with heap:=h',toks:=k }):
  wpAny (model prog w) A (call (.builtin "str.join") [.str sep ts, .ref it]) Q E s:=by
 refine wpAny_call (codeAny_call_builtin YJ.plain PySem.F.entry_str_join (YJ.check _ _ _ _ _ _ _ _ (typeIs_str _ _ _) (PySem.F.args_str_join_2 _ _) ?_))
 rw[join_tree_other]
 refine wpAny_bind (wpAny_typeOf hit.typeIs ?_)
 show wpAny _ A.in1 ((pyIter (.ref it)).tryCatch _ >>= fun it=>collect it >>= fun items=>PySem.joinTail sep items) _ _ s
 refine wpAny_bind (wpAny_tryCatch (fV hit ?_))
 refine wpAny_bind (uT (A:=A.in1) hh x t it hit h0 hz fun h' tk acc hk iG=>?_)
 obtain ⟨l,hl⟩:=exists_strValues acc.toList fun v hv=>by
  obtain ⟨j,hj,rfl⟩:=Array.mem_iff_getElem.mp (Array.mem_toList_iff.mp hv)
  obtain ⟨c,u,_,e⟩:=iG.2 j _ (Array.getElem?_eq_getElem hj)
  exact ⟨_,u,e⟩
 rw[<-hl]
 have NZ:ItemsOf (fun i v=> ∃c u,x.cps[x.length - 1 - i]? =some c/\v= .str ⟨#[c]⟩ u) (strValues l).toArray x.length:=by rw[hl];simpa using iG
 obtain ⟨b5,N0⟩:=hQ h' tk l hk NZ
 unfold JoinOk at b5
 rw[Bool.not_eq_true']at b5
 have g:Gives (PySem.joinTail sep (strValues l)) (joinMade sep l):=by
  have g0:=gives_joinTail sep l b5
  cases l with
  | nil=>exact g0
  | cons p r=>cases r with
   | nil=>exact g0
   | cons q r'=>exact g0
 exact g prog w A (wants Q E) { s with heap:=h',toks:=tk } (post_join l ⟨joinFit_length b5,N0⟩)
end
section
variable {X:Cx}
def Cd (ta:TA):TE:=fun σ H Q=>ta σ H fun vs H1=> ∃l:List Nat,vs=[.str (S l)]/\0<l.length/\l.length<=1000000/\Q (.str (S l.reverse)) H1
theorem xk {o a:Expr} {ta:TA} {p2 apos xi fT:Pos} (hc:X.calm=true) (ho:PE X o (tC (.str (S [])))) (hg:Gl X "reversed") (hm:X.mg "reversed"=none) (ha:PA X [a] ta)
  (kh:attributeBase o "join" X.env (eval o X.env)=eval o X.env:=by rfl)
  (BA:((backTo fT (starEach [.Call (.Name "reversed" p2) [a] [] xi] X.env)).all (fun x=>!x.1)&&(backToKw fT (keywordEach [] X.env)).all (fun x=>x.1.isSome)
   &&decide (([.Call (.Name "reversed" p2) [a] [] xi]:List Expr).length+([]:List Keyword).length+(if ([]:List Keyword).isEmpty then 0 else 1)<30))=true:=by rfl)
  (jy:(apos.endLine==fT.line)=true:=by rfl)
  (hs:starEach [a] X.env=[(false,eval a X.env)]:=by rfl) (Ik:starEach [.Call (.Name "reversed" p2) [a] [] xi] X.env=[(false,eval (.Call (.Name "reversed" p2) [a] [] xi) X.env)]:=by rfl):
  PE X (.Call (.Attribute o "join" apos) [.Call (.Name "reversed" p2) [a] [] xi] [] fT) (Cd ta):=by
 intro pins s σ H Q I h
 refine wpAny_Call_method_late kh BA jy rfl (cx (ho pins s σ H (fun x H1=>x= .str (S [])/\H1=H) I ⟨rfl,rfl⟩) fun v s1 ⟨x,H1,I1,r1,ex,eH⟩=>?_)
 subst ex eH
 obtain ⟨ts,rfl⟩:=r1
 obtain ⟨h1,h2⟩:=wJ I1 (show RelV (.str (S [])) (.str (S []) ts) from ⟨ts,rfl⟩) (show Pa X.K "str" (.str (S [])) H1 from rfl)
 refine ⟨"str","str.join",Ye,YJ,YX,h1,h2,?_⟩
 rw[Ik]
 refine Qbd rfl (Calls.evalArgs_plain ?_)
 refine Calls.spliced_cons ?_
 refine Call_ (gv I1 hg hm boot_reversed (YL (cx (ha xi pins s1 σ H1 _ I1 h) fun us s2 ⟨vs,H2,I2,r2,q2⟩=>?_) hs rfl))
 obtain ⟨l,rfl,h0,hz,q⟩:=q2
 obtain ⟨u,rfl,t,rfl⟩:=vals1 r2
 have VF:(1000000:Nat)<=sizeLine:=by decide
 have Fs:l.length<=sizeLine:=Yv hz VF
 refine iQ (by rw[b7];exact Fs) fun tk=>?_
 refine Calls.spliced_nil ?_
 have hit:dc (s2.heap.push { cls:= .type "reversed",data:= .fields #[.str (S l) t,rawInt (((S l).length:Int) - 1)] }) s2.heap.objs.size (S l) t (((S l).length:Int) - 1):=⟨_,Yf _ rfl,rfl,rfl⟩
 refine pW (I.ok.hd hc) (S []) ts (S l) t _ hit (by rw[b7];exact h0) (by rw[b7];exact Fs) fun h' Xz L hk iG=>?_
 obtain ⟨Ti,VG⟩:=iG
 rw[b7]at Ti
 have hL:L.length=l.length:=by rw[<-Ti];unfold strValues;simp
 have eL:L.map (·.1)=(l.reverse.map fun c=>[c]).map S:=by
  refine Qaf fun j=>?_
  rw[Yb,Yb,Yb]
  by_cases hj:j<L.length
  ·have Pn:j<l.length:=by rw[<-hL];exact hj
   obtain ⟨c,u',e1,e2⟩:=VG j (.str L[j].1 L[j].2) (by unfold strValues;simp[hj])
   rw[IM hj,ZG Pn]
   have e3:l[l.length - 1 - j]? =some c:=by
    rw[b7]at e1
    rw[<-e1]
    unfold S
    simp
   rw[e3]
   show some L[j].1=some (S [c])
   have e4:L[j].1=⟨#[c]⟩:=(Value.str.inj e2).1
   rw[e4]
   rfl
  ·rw[Y6 (Qbx hj),Y6 (by rw[Yo, <-hL];exact Qbx hj)]
   rfl
 rw[eL]
 refine ⟨joinOk_of ?_,fun t' k=>⟨.str (S l.reverse),H2,I2.kept fun b o e=>hk b o (Yk (Yh e)) (S0 _ e),⟨t',?_⟩,q⟩⟩
 ·have e0:(S []).length=0:=rfl
  rw[e0,Nat.mul_zero,Qbn,YT,YT]
  have e5:((fun x:Str=>x.length) ∘ S ∘ fun c:Nat=>[c])=fun _=>1:=by funext c;exact b7 [c]
  first
   | rw[e5,List.map_const',Qaw,Yo];omega
   |(have e6:((fun x:Str=>x.length) ∘ S) ∘ (fun c:Nat=>[c])=fun _=>1:=by funext c;exact b7 [c]
     rw[e6,List.map_const',Qaw,Yo];omega)
 ·rw[BI]
  congr 2
  rw[show (l.reverse.map fun c=>[c]).flatten=l.reverse by rw[<-List.flatMap_def,List.flatMap_singleton']]
end
section
variable {X:Cx} {a b:Expr} {rest:List Expr} {ta tb:TE} {pos:Pos}
def RB (ta tb:TE):TE:=fun σ H Q=>ta σ H fun x H1=> ∃l:List Nat,x= .str (S l)/\l.length<=1000000/\(l≠[]->Q (.str (S l)) H1)/\(l=[]->tb σ H1 Q)
theorem Jo (ha:PE X a ta) (hb:PE X (.BoolOp .Or (b::rest) pos) tb):PE X (.BoolOp .Or (a::b::rest) pos) (RB ta tb):=by
 intro pins s σ H Q I h
 refine BoolOp_or (cx (ha pins s σ H _ I h) fun v s1 ⟨x,H1,I1,r1,q1⟩=>?_)
 obtain ⟨l,rfl,hz,q1,q2⟩:=q1
 obtain ⟨t,rfl⟩:=r1
 refine PySem.P.truthy_str (by rw[b7];omega) ?_
 rw[b7]
 by_cases z:l=[]
 ·subst z
  exact hb pins _ σ H1 Q (I1.tok _) (q2 rfl)
 ·have:((l.length:Int) != 0)=true:=by
   have:=S3.mpr z
   simp
   exact z
  rw[this]
  exact ⟨.str (S l),H1,I1.tok _,⟨t,rfl⟩,q1 z⟩
end
end L2
set_option maxHeartbeats 4000000
namespace My
open PySem PySem.Spec PyProof.Rows L2 XL
noncomputable def aL:List Nat:=[97,98,99,100,101,102,103,104,105,106,107,108,109,110,111,112,113,114,115,116,117,118,119,120,121,122]
noncomputable def jQ:List Nat:=[65,66,67,68,69,70,71,72,73,74,75,76,77,78,79,80,81,82,83,84,85,86,87,88,89,90]
def Lt (c:Nat):Prop:=c∈aL\/c∈jQ
noncomputable instance (c:Nat):Decidable (Lt c):=by unfold Lt;infer_instance
noncomputable def ar (c:Nat):Nat:=if aD c=true then PyProof.Rows.up1 c else PyProof.Rows.lo1 c
theorem sj: ∀c∈aL++jQ,c<128/\ar c∈aL++jQ/\ar (ar c)=c/\ar c≠c:=by decide+kernel
theorem Lt.mem {c:Nat} (h:Lt c):c∈aL++jQ:=Yi.mpr h
theorem Lt.lt {c:Nat} (h:Lt c):c<128:=(sj c h.mem).1
theorem Lt.ar {c:Nat} (h:Lt c):Lt (ar c):=Yi.mp (sj c h.mem).2.1
theorem aF {c:Nat} (h:Lt c):ar (ar c)=c:=(sj c h.mem).2.2.1
theorem fE {c:Nat} (h:Lt c):ar c≠c:=(sj c h.mem).2.2.2
theorem dI {a b:Nat} (ha:Lt a) (hb:Lt b) (e:My.ar a=My.ar b):a=b:=by rw[<-aF ha,e,aF hb]
theorem uU: ∀c∈aL,lq jQ ((aL.idxOf c:Nat):Int)=some (ar c):=by decide+kernel
theorem Am: ∀c∈jQ,lq aL ((jQ.idxOf c:Nat):Int)=some (ar c):=by decide+kernel
noncomputable def cG (l:List Nat):List Nat:=(l.map ar).reverse
def aW (b:Addr) (H H':Hp):Prop:= ∀c o,H c=some o->c≠b->H' c=some o
theorem aW.refl (b:Addr) (H:Hp):aW b H H:=fun _ _ h _=>h
theorem aW.trans {b:Addr} {H H1 H2:Hp} (x:aW b H H1) (y:aW b H1 H2):aW b H H2:=fun c o h n=>y c o (x c o h n) n
theorem aW.of {b:Addr} {H H':Hp} (x:aq H H'):aW b H H':=fun c o h _=>x c o h
theorem aW.upd (b:Addr) (H:Hp) (o:HO):aW b H (upd H b o):=fun c o h n=>by rw[aC n];exact h
theorem aq.upd {H:Hp} {p:Addr} {o:HO} (h:H p=none):aq H (L2.upd H p o):=fun c u e=>by rw[aC (aA e h)];exact e
def cu (H:Hp) (b:Addr):Prop:= ∃x y:Int,H b=some (.lst [.int x, .int y])
theorem cu.same {H H':Hp} {b:Addr} (h:cu H b) (s:aq H H'):cu H' b:=let ⟨x,y,e⟩:=h;⟨x,y,s _ _ e⟩
structure Yd (y:List Nat):Prop where
 nd:y.Nodup
 lt: ∀c∈y,Lt c
 cl: ∀c∈y,ar c∈y
def mI (_:PySem.W.Frag):Sp:=fun vs H Q _=> ∃c,vs=[.str (S [c])]/\c<128/\Q (.str (S [ar c])) H
theorem sk {K:PySem.W.Frag} {vs:List V} {H:Hp} {Q:VK} {E:XK} (h:mI K vs H Q E):vs.length=1:=by obtain ⟨c,rfl,_⟩:=h;rfl
def qK (_:PySem.W.Frag):Sp:=fun vs H Q _=> ∃c,vs=[.str (S [c])]/\Lt c/\Q (.str (S [ar c])) H
theorem xl {K:PySem.W.Frag} {vs:List V} {H:Hp} {Q:VK} {E:XK} (h:qK K vs H Q E):vs.length=1:=by obtain ⟨c,rfl,_⟩:=h;rfl
def qL (_:PySem.W.Frag):Sp:=fun vs H Q _=> ∃l:List Nat,vs=[.str (S l)]/\(∀c∈l,c<128)/\l.length<=1000/\ ∀H',aq H H'->Q (.str (S (cG l))) H'
theorem xm {K:PySem.W.Frag} {vs:List V} {H:Hp} {Q:VK} {E:XK} (h:qL K vs H Q E):vs.length=1:=by obtain ⟨c,rfl,_⟩:=h;rfl
def yN (K:PySem.W.Frag):Sp:=fun vs H Q _=> ∃(a:Addr) (ns:List Int) (k:Nat),vs=[.ref a, .int k]/\bN K H a (ns.map V.int)/\k<=1000/\ ∀b H',H b=none->cu H' b->aq H H'->Q (.ref b) H'
theorem Ce {K:PySem.W.Frag} {vs:List V} {H:Hp} {Q:VK} {E:XK} (h:yN K vs H Q E):vs.length=2:=by obtain ⟨a,ns,k,rfl,_⟩:=h;rfl
def uV (_:PySem.W.Frag):Sp:=fun vs H Q _=> ∃(b:Addr) (m:Int),vs=[.ref b, .int m]/\cu H b/\1<=m/\m<1000000/\ ∀(r:Nat) H',(r:Int)<m->cu H' b->aW b H H'->Q (.int r) H'
theorem An {K:PySem.W.Frag} {vs:List V} {H:Hp} {Q:VK} {E:XK} (h:uV K vs H Q E):vs.length=2:=by obtain ⟨b,m,rfl,_⟩:=h;rfl
def uW (_:PySem.W.Frag):Sp:=fun vs H Q _=> ∃(b:Addr) (sr top:Nat),vs=[.ref b, .int sr, .int top]/\cu H b/\1<=sr/\sr<=top/\top<=8/\ ∀(y:List Nat) H',Yd y->2*sr<=y.length->y.length<=2*top->cu H' b->aW b H H'->Q (.str (S y)) H'
theorem Ao {K:PySem.W.Frag} {vs:List V} {H:Hp} {Q:VK} {E:XK} (h:uW K vs H Q E):vs.length=3:=by obtain ⟨b,m,t,rfl,_⟩:=h;rfl
def lI (K:PySem.W.Frag):Sp:=fun vs H Q _=> ∃(a:Addr) (ns:List Int),vs=[.ref a]/\bN K H a (ns.map V.int)/\ns.length<=63/\ ∀H',Q (.bl true) H'
theorem Ft {K:PySem.W.Frag} {vs:List V} {H:Hp} {Q:VK} {E:XK} (h:lI K vs H Q E):vs.length=1:=by obtain ⟨b,m,rfl,_⟩:=h;rfl
theorem kC: ∀l:List Nat,(l.map fun c=>[c]).flatten=l
 | []=>rfl
 | c::l=>by rw[Ym,ZI,kC l];rfl
theorem sx: ∀l:List Nat,((l.map fun c=>[c]).map List.length).sum=l.length
 | []=>rfl
 | c::l=>by
  rw[Ym,Ym,Zr,sx l]
  show 1+l.length=l.length+1
  omega
theorem dS (l:List Nat):cf l=(l.map fun c=>[c]).map fun l=>V.str (S l):=by unfold cf;rw[YT];rfl
theorem sC (l:List Nat):(cf l).reverse=cf l.reverse:=by unfold cf;rw[Zt]
theorem cQ (l:List Nat) (c:Nat):cf l++[V.str (S [c])]=cf (l++[c]):=by unfold cf;rw[X9];rfl
theorem take_snoc {α:Type} {l:List α} {i:Nat} {x:α} (h:l[i]? =some x):l.take i++[x]=l.take (i+1):=by rw[Qbq,h];rfl
theorem yO {ns:List Int} {i:Nat} (h:i<ns.length): ∃z,(ns.map V.int)[i]? =some (V.int z):=⟨ns[i],by rw[Yb,IM h];rfl⟩
theorem dk {σ:L2.St} {H:Hp} {A B:Hp->Prop} (h:A H):Nf σ H fun b H3=>if b=true then A H3 else B H3:=by
 show (if true=true then A H else B H)
 rw[if_pos rfl]
 exact h
theorem xn (b:Bool) (z:Int): ∃y,lq [V.int 0,V.int z] (if b=true then 1 else 0)=some (V.int y):=by
 cases b
 ·exact ⟨0,rfl⟩
 ·exact ⟨z,rfl⟩
theorem hJ {α:Type}: ∀{l:List α} {i:Nat} {x:α},l[i]? =some x->(x::l.eraseIdx i).Perm l
 | [],i,x,h=>by simp at h
 | a::l,0,x,h=>by
  have:a=x:=by simpa using h
  subst this
  exact Qba _
 | a::l,i+1,x,h=>by
  have ih:=hJ (l:=l) (i:=i) (x:=x) (by simpa using h)
  rw[ZR]
  exact (List.Perm.swap a x _).trans (List.Perm.cons a ih)
theorem lO (l:List Nat) (i:Nat):(cf l).eraseIdx i=cf (l.eraseIdx i):=by
 unfold cf
 induction l generalizing i with
 | nil=>rfl
 | cons a l ih=>
  cases i with
  | zero=>rfl
  | succ i=>rw[Ym,ZR,ih,ZR,Ym]
theorem xo {l:List Nat} {i:Nat} (h:i<l.length):(cf l)[i]? =some (V.str (S [l[i]])):=by unfold cf;rw[Yb,IM h];rfl
theorem Fu (a b:List Nat):cf a++cf b=cf (a++b):=by unfold cf;rw[X9]
theorem Ap: ∀c∈aL,ar c∉aL:=by decide+kernel
theorem qM:aL.Nodup:=by decide+kernel
theorem Yd.perm {a b:List Nat} (h:Yd a) (p:a.Perm b):Yd b:=
 ⟨p.nodup_iff.mp h.nd,fun c hc=>h.lt c (p.mem_iff.mpr hc),fun c hc=>p.mem_iff.mp (h.cl c (p.mem_iff.mpr hc))⟩
structure Jp (i:Nat) (L E:List Nat):Prop where
 yd:Yd E
 nd:L.Nodup
 sm: ∀c∈L,c∈aL
 ap: ∀c∈L,c∉E
 ll:L.length=26 - i
 el:E.length=2*i
theorem Jp.start:Jp 0 aL []:=⟨⟨Z_,fun _ h=>absurd h Yl,fun _ h=>absurd h Yl⟩,qM,fun _ h=>h,fun _ _ h=>absurd h Yl,rfl,rfl⟩
theorem Jp.turn {i r:Nat} {L E:List Nat} (w:Jp i L E) (hi:i<26) (hr:r<L.length):Jp (i+1) (L.eraseIdx r) (E++[L[r],ar L[r]]):=by
 have hp:=hJ (l:=L) (IM hr)
 have hm:L[r]∈L:=YA hr
 have hs:=w.sm _ hm
 have hl:Lt L[r]:= .inl hs
 have Po:=hp.nodup_iff.mpr w.nd
 have sub: ∀c∈L.eraseIdx r,c∈L:=fun c hc=>hp.mem_iff.mp (SX _ hc)
 have Tj:=w.ap _ hm
 have VH:ar L[r]∉E:=fun z=>Tj (by have:=w.yd.cl _ z;rwa [aF hl]at this)
 refine ⟨⟨?_,fun c hc=>?_,fun c hc=>?_⟩,(Yw.mp Po).2,fun c hc=>w.sm c (sub c hc),fun c hc hE=>?_,?_,?_⟩
 ·rw[YZ]
  refine ⟨w.yd.nd,?_,fun a ha b hb z=>?_⟩
  ·rw[Yw]
   refine ⟨fun z=>(fE hl) (Vk.mp z).symm,Yw.mpr ⟨Yl,Z_⟩⟩
  ·subst z
   rcases Vi.mp hb with z | z
   ·exact Tj (z▸ha)
   ·exact VH (Vk.mp z▸ha)
 ·rcases Yi.mp hc with z | z
  ·exact w.yd.lt c z
  ·rcases Vi.mp z with z | z
   ·rw[z];exact hl
   ·rw[Vk.mp z];exact hl.ar
 ·rcases Yi.mp hc with z | z
  ·exact Zc _ (w.yd.cl c z)
  ·refine Yq _ ?_
   rcases Vi.mp z with z | z
   ·rw[z];exact SX _ (Vk.mpr rfl)
   ·rw[Vk.mp z,aF hl];exact Vj
 ·rcases Yi.mp hE with z | z
  ·exact w.ap c (sub c hc) z
  ·rcases Vi.mp z with z | z
   ·exact (Yw.mp Po).1 (z▸hc)
   ·have e:c=ar L[r]:=Vk.mp z
    exact Ap _ hs (e▸w.sm c (sub c hc))
 ·have:=hp.length_eq
  rw[Ys,w.ll]at this
  omega
 ·rw[KW,w.el]
  show 2*i+2=_
  omega
theorem aW.fX {b p:Addr} {H H':Hp} {o:HO} (h:aW b H H') (n:H p=none):aW b H (L2.upd H' p o):=fun c u e z=>by rw[aC (aA e n)];exact h c u e z
theorem cu.fX {b p:Addr} {H:Hp} {o:HO} (h:cu H b) (n:p≠b):cu (L2.upd H p o) b:=let ⟨x,y,e⟩:=h;⟨x,y,by rw[aC (Ne.symm n)];exact e⟩
theorem aW.none {b p:Addr} {H H':Hp} (h:aW b H H') (n:H' p=none) (z:p≠b):H p=none:=by
 cases q:H p with
 | none=>rfl
 | some o=>rw[h p o q z]at n;cases n
theorem cu.ne {b p:Addr} {H:Hp} (h:cu H b) (n:H p=none):p≠b:=fun z=>by obtain ⟨x,y,e⟩:=h;rw[<-z,n]at e;cases e
theorem uX {c:Bool} {A B:Prop} (h:c=false) (hB:B):if c=true then A else B:=by rw[h];exact z9 hB
theorem Jq {c:Bool} {A B:Prop} (h:c=true) (hA:A):if c=true then A else B:=by rw[h];exact Nb hA
theorem bS (l:List Nat):(cG l).length=l.length:=by unfold cG;rw[Yo,Pd]
theorem Fv {l:List Nat} (h: ∀c∈l,Lt c):cG (cG l)=l:=by
 unfold cG
 rw[Zt,List.reverse_reverse,YT]
 have: ∀c∈l,(ar ∘ ar) c=c:=fun c hc=>aF (h c hc)
 calc l.map (ar ∘ ar)=l.map id:=Z6 this
  _=l:=Qab l
theorem Hd {l:List Nat} (h: ∀c∈l,Lt c): ∀c∈l,c<128:=fun c hc=>(h c hc).lt
theorem uY (a:List Nat):a.take (cf a).length=a:=by rw[aU];exact Yn (SY _)
theorem aW.same {b:Addr} {H H2 H3:Hp} (n:H b=Option.none) (s:aq H H2) (t:aW b H2 H3):aq H H3:=fun c o e=>t c o (s c o e) (aA e n)
theorem aW.after {p:Addr} {H H1 H2:Hp} (s:aW p H H1) (t:aq H1 H2):aW p H H2:=fun c o e z=>t c o (s c o e z)
noncomputable def eB (ws:List (List Nat)):List V:=ws.map fun l=>V.str (S l)
theorem cY (ws:List (List Nat)):(eB ws).length=ws.length:=by unfold eB;rw[Pd]
theorem Cf (ws:List (List Nat)) (l:List Nat):eB ws++[V.str (S l)]=eB (ws++[l]):=by unfold eB;rw[X9];rfl
theorem lQ {ws:List (List Nat)} {i:Nat} (h:i<ws.length):(eB ws)[i]? =some (V.str (S ws[i])):=by unfold eB;rw[Yb,IM h];rfl
noncomputable def dz (st:List Nat) (c:Nat):List Nat:=if st.getLast? =some (ar c) then st.dropLast else st++[c]
noncomputable def red (l:List Nat):List Nat:=l.foldl dz []
def ni:List Nat->Prop
 | []=>True
 | [_]=>True
 | a::b::r=>a≠ar b/\ni (b::r)
theorem ni.snoc: ∀{l:List Nat} {c:Nat},ni l->l.getLast?≠ some (ar c)->ni (l++[c])
 | [],_,_,_=>trivial
 | [a],c,_,h=>⟨fun z=>h (by rw[z];rfl),trivial⟩
 | a::b::r,c,h,k=>⟨h.1,ni.snoc (l:=b::r) h.2 (by simpa using k)⟩
theorem ni.init: ∀{l:List Nat} {c:Nat},ni (l++[c])->ni l/\l.getLast?≠ some (ar c)
 | [],_,_=>⟨trivial,by simp⟩
 | [a],c,h=>⟨trivial,fun z=>h.1 (by simpa using z)⟩
 | a::b::r,c,h=>by
  have ih:=ni.init (l:=b::r) (c:=c) h.2
  exact ⟨⟨h.1,ih.1⟩,by simpa using ih.2⟩
theorem snoc_cases (l:List Nat):l=[]\/ ∃m a,l=m++[a]:=by
 by_cases h:l=[]
 ·exact .inl h
 ·exact .inr ⟨l.dropLast,l.getLast h,(List.dropLast_concat_getLast h).symm⟩
theorem ni.left: ∀{m l:List Nat},ni (m++l)->ni m
 | [],_,_=>trivial
 | [_],_,_=>trivial
 | a::b::r,l,h=>⟨h.1,ni.left (m:=b::r) (l:=l) h.2⟩
theorem qN {l:List Nat} {c:Nat} (h:l.getLast? =some c): ∃m,l=m++[c]:=by
 rcases snoc_cases l with rfl | ⟨m,a,rfl⟩
 ·simp at h
 ·refine ⟨m,?_⟩
  have:a=c:=by simpa using h
  rw[this]
theorem Aq {st:List Nat} {c:Nat} (h:ni st):ni (dz st c):=by
 unfold dz
 by_cases e:st.getLast? =some (ar c)
 ·rw[if_pos e]
  obtain ⟨m,rfl⟩:=qN e
  rw[Zn]
  exact h.init.1
 ·rw[if_neg e]
  exact h.snoc e
theorem Ar {st:List Nat} {c d:Nat} (h:d∈dz st c):d∈st\/d=c:=by
 unfold dz at h
 by_cases e:st.getLast? =some (ar c)
 ·rw[if_pos e]at h
  exact .inl (List.dropLast_subset _ h)
 ·rw[if_neg e]at h
  rcases Yi.mp h with z | z
  ·exact .inl z
  ·exact .inr (Vk.mp z)
theorem xp {st:List Nat} {x y:Nat} (h:ni st) (hy:Lt y) (e:x=ar y):dz (dz st x) y=st:=by
 subst e
 unfold dz
 by_cases z:st.getLast? =some (ar (ar y))
 ·rw[if_pos z]
  obtain ⟨m,rfl⟩:=qN z
  rw[Zn,aF hy]
  have:=h.init.2
  rw[aF hy]at this
  rw[if_neg this]
 ·rw[if_neg z,if_pos (by simp),Zn]
theorem uZ: ∀(l st:List Nat),ni st->ni (l.foldl dz st)
 | [],_,h=>h
 | _::l,_,h=>uZ l _ (Aq h)
theorem Cg {a b:List Nat} {x y:Nat} (hy:Lt y) (e:x=ar y):red (a++x::y::b)=red (a++b):=by
 unfold red
 rw[Qae,ZC,ZC,xp (uZ a [] trivial) hy e, <-Qae]
theorem fold_same: ∀(l st:List Nat),ni (st++l)->l.foldl dz st=st++l
 | [],st,_=>by simp
 | c::l,st,h=>by
  have h':ni ((st++[c])++l):=by rw[Y5];exact h
  have h2:=(ni.left h').init.2
  rw[ZC]
  have:dz st c=st++[c]:=by unfold dz;rw[if_neg h2]
  rw[this,fold_same l (st++[c]) h',Y5]
  rfl
theorem Ci {l:List Nat} (h:ni l):red l=l:=by
 exact fold_same l [] h
theorem fold_lt: ∀(l st:List Nat),(∀c∈l,Lt c)->(∀c∈st,Lt c)-> ∀c∈l.foldl dz st,Lt c
 | [],_,_,h=>h
 | a::l,st,h1,h2=>fold_lt l _ (fun c hc=>h1 c (SX _ hc)) fun c hc=>(Ar hc).elim (h2 c) fun z=>z▸h1 a Vj
theorem Jr {l:List Nat} (h: ∀c∈l,Lt c): ∀c∈red l,Lt c:=fold_lt l [] h fun _ h=>absurd h Yl
theorem As (st:List Nat) (c:Nat):(dz st c).length<=st.length+1:=by
 unfold dz
 by_cases e:st.getLast? =some (ar c)
 ·rw[if_pos e,List.length_dropLast];omega
 ·rw[if_neg e,KW];exact SY _
theorem u5: ∀(l st:List Nat),(l.foldl dz st).length<=st.length+l.length
 | [],_=>SY _
 | c::l,st=>by
  have:=u5 l (dz st c)
  have h2:=As st c
  rw[ZC,Ys]
  omega
theorem kD (l:List Nat):(red l).length<=l.length:=by
 have:=u5 l []
 rw[List.length_nil,Qau]at this
 exact this
theorem Cj {l:List Nat} {i c:Nat} (h:l[i]? =some c):red (l.take (i+1))=dz (red (l.take i)) c:=by
 unfold red
 rw[<-take_snoc h,Qae]
 rfl
theorem Ck: ∀{l:List Nat},(∀k a b,l[k]? =some a->l[k+1]? =some b->a≠ar b)->ni l
 | [],_=>trivial
 | [_],_=>trivial
 | a::b::r,h=>⟨h 0 a b rfl rfl,Ck (l:=b::r) fun k x y h1 h2=>h (k+1) x y (by simpa using h1) (by simpa using h2)⟩
noncomputable def Bc (l:List Nat) (s e:Nat):List Nat:=(l.drop s).take (e - s)
noncomputable def strip:Nat->List Nat->List Nat
 | 0,l=>l
 | n+1,l=>match l with
  | []=>[]
  | [a]=>[a]
  | a::b::r=>if a=ar ((b::r).getLast (by simp)) then strip n (b::r).dropLast else a::b::r
theorem fi: ∀(n:Nat) {l:List Nat},l.length<2->strip n l=l
 | 0,_,_=>rfl
 | _+1,[],_=>rfl
 | _+1,[_],_=>rfl
 | _+1,_::_::_,h=>by simp at h;omega
theorem kE (l:List Nat) (y:Nat):(l++[y]).getLast (by simp)=y:=by simp
theorem strip_go (n:Nat) {a y:Nat} {m:List Nat} (h:a=ar y):strip (n+1) (a::(m++[y]))=strip n m:=by
 cases m with
 | nil=>
  show (if a=ar (([y]:List Nat).getLast (by simp)) then strip n ([y]:List Nat).dropLast else _)=strip n []
  rw[if_pos (by simpa using h)]
  rfl
 | cons b r=>
  show (if a=ar ((b::(r++[y])).getLast (by simp)) then strip n (b::(r++[y])).dropLast else _)=strip n (b::r)
  have e1:(b::(r++[y])).getLast (by simp)=y:=kE (b::r) y
  have e2:(b::(r++[y])).dropLast=b::r:=by
   have:b::(r++[y])=(b::r)++[y]:=rfl
   rw[this,Zn]
  rw[if_pos (by rw[e1];exact h),e2]
theorem strip_stop (n:Nat) {a y:Nat} {m:List Nat} (h:a≠ar y):strip n (a::(m++[y]))=a::(m++[y]):=by
 cases n with
 | zero=>rfl
 | succ n=>
  cases m with
  | nil=>
   show (if a=ar (([y]:List Nat).getLast (by simp)) then _ else _)=_
   rw[if_neg (by simpa using h)]
   rfl
  | cons b r=>
   show (if a=ar ((b::(r++[y])).getLast (by simp)) then _ else _)=_
   have e1:(b::(r++[y])).getLast (by simp)=y:=kE (b::r) y
   rw[if_neg (by rw[e1];exact h)]
   rfl
theorem Cm {l:List Nat} (h:2<=l.length): ∃a m y,l=a::(m++[y]):=by
 cases l with
 | nil=>simp at h
 | cons a r=>
  rcases snoc_cases r with rfl | ⟨m,y,rfl⟩
  ·simp at h
  ·exact ⟨a,m,y,rfl⟩
theorem om: ∀(n:Nat) (l:List Nat) (k:Nat),l.length<=n->strip (n+k) l=strip n l
 | 0,l,k,h=>by rw[fi _ (by omega),fi _ (by omega)]
 | n+1,l,k,h=>by
  by_cases h2:l.length<2
  ·rw[fi _ h2,fi _ h2]
  ·obtain ⟨a,m,y,rfl⟩:=Cm (l:=l) (by omega)
   have hm:m.length<=n:=by simp at h;omega
   by_cases e:a=ar y
   ·have:n+1+k=(n+k)+1:=by omega
    rw[this,strip_go _ e,strip_go _ e,om n m k hm]
   ·rw[strip_stop _ e,strip_stop _ e]
noncomputable def core (l:List Nat):List Nat:=strip l.length l
theorem yP {a y:Nat} {m:List Nat} (h:a=ar y):core (a::(m++[y]))=core m:=by
 unfold core
 have:(a::(m++[y])).length=(m.length+1)+1:=by simp
 rw[this,strip_go _ h,om _ _ _ (SY _)]
theorem lR {a y:Nat} {m:List Nat} (h:a≠ar y):core (a::(m++[y]))=a::(m++[y]):=strip_stop _ h
theorem hU {l:List Nat} (h:l.length<2):core l=l:=fi _ h
theorem u6 {P:List Nat->List Nat->Prop} (h1: ∀l,l.length<2->P l l) (h2: ∀a m y,a≠ar y->P (a::(m++[y])) (a::(m++[y]))) (h3: ∀a m y r,a=ar y->P m r->P (a::(m++[y])) r): ∀(n:Nat) (l:List Nat),l.length<=n->P l (core l)
 | 0,l,h=>by rw[hU (by omega)];exact h1 l (by omega)
 | n+1,l,h=>by
  by_cases hl:l.length<2
  ·rw[hU hl];exact h1 l hl
  ·obtain ⟨a,m,y,rfl⟩:=Cm (l:=l) (by omega)
   by_cases e:a=ar y
   ·rw[yP e]
    exact h3 a m y _ e (u6 h1 h2 h3 n m (by simp at h;omega))
   ·rw[lR e];exact h2 a m y e
theorem u7 (l:List Nat):(core l).length<=l.length:=
 u6 (P:=fun l r=>r.length<=l.length) (fun _ _=>SY _) (fun _ _ _ _=>SY _) (fun a m y r _ k=>by simp;omega) l.length l (SY _)
theorem Js {l:List Nat} {s e:Nat} (h1:s+2<=e) (h2:e<=l.length):Bc l s e=l[s]::(Bc l (s+1) (e - 1)++[l[e - 1]]):=by
 unfold Bc
 rw[YR (by omega)]
 have e1:e - s=(e - 1 - (s+1))+1+1:=by omega
 rw[e1,List.take_succ_cons,Qbq,Zb]
 have e2:s+1+(e - 1 - (s+1))=e - 1:=by omega
 rw[e2,IM (by omega)]
 rfl
theorem Fx {l:List Nat} {s e:Nat} (h2:e<=l.length):(Bc l s e).length=e - s:=by unfold Bc;rw[Xw,Yc];omega
theorem Fy (l:List Nat):Bc l 0 l.length=l:=by unfold Bc;simp
def kF (_:PySem.W.Frag):Sp:=fun vs H Q _=> ∃l:List Nat,vs=[.str (S l)]/\(∀c∈l,Lt c)/\l.length<=1000/\ ∀H',aq H H'->Q (.str (S (red l))) H'
theorem pX {K:PySem.W.Frag} {vs:List V} {H:Hp} {Q:VK} {E:XK} (h:kF K vs H Q E):vs.length=1:=by obtain ⟨c,rfl,_⟩:=h;rfl
def mJ (_:PySem.W.Frag):Sp:=fun vs H Q _=> ∃l:List Nat,vs=[.str (S l)]/\(∀c∈l,Lt c)/\l.length<=1000/\ ∀H',aq H H'->Q (.str (S (core (red l)))) H'
theorem sE {K:PySem.W.Frag} {vs:List V} {H:Hp} {Q:VK} {E:XK} (h:mJ K vs H Q E):vs.length=1:=by obtain ⟨c,rfl,_⟩:=h;rfl
theorem bU {α:Type} (l:List α) (k:Nat):cut l none (some (k:Int))=l.take k:=by
 unfold cut
 rw[HT.ke,HT.gj,List.drop_zero,Nat.sub_zero]
 by_cases h:k<=l.length
 ·rw[Y2 h]
 ·rw[Y4 (by omega),Yn (SY _),Yn (by omega)]
theorem b9 {α:Type} (l:List α) (k:Nat):cut l (some (k:Int)) none=l.drop k:=by
 unfold cut
 rw[HT.ke,HT.gj]
 by_cases h:k<=l.length
 ·rw[Y2 h,Yn (by rw[Yc];exact SY _)]
 ·rw[Y4 (by omega),Zd (SY _),Zd (by omega)]
  simp
mutual
theorem eqv_refl: ∀d:PyData,d.hasDict=false->PyData.eqv d d=true
 | .none,_=>rfl
 | .bool b,_=>by simp[PyData.eqv]
 | .int i,_=>by simp[PyData.eqv]
 | .str x,_=>by simp[PyData.eqv]
 | .list xs,h=>by show PyData.eqvAll xs xs=true;exact eqvAll_refl xs (by simpa [PyData.hasDict]using h)
 | .tuple xs,h=>by show PyData.eqvAll xs xs=true;exact eqvAll_refl xs (by simpa [PyData.hasDict]using h)
 | .dict aQ,h=>by simp[PyData.hasDict]at h
theorem eqvAll_refl: ∀ds:List PyData,PyData.hasDictAll ds=false->PyData.eqvAll ds ds=true
 | [],_=>rfl
 | d::ds,h=>by
  simp[PyData.hasDictAll]at h
  show (PyData.eqv d d&&PyData.eqvAll ds ds)=true
  rw[eqv_refl d h.1,eqvAll_refl ds h.2]
  rfl
end
noncomputable def dm (c:List Nat) (k:Nat):List Nat:=c.drop k++c.take k
noncomputable def kG (c:List Nat) (n:Nat):List (List Nat):=(List.range n).map fun k=>dm c (k+1)
noncomputable def fK (c:List Nat):List Nat:=cq c (kG c (c.length - 1))
@[irreducible] noncomputable def dU (w:List Nat):List Nat:=fK (core (red w))
theorem qO (c:List Nat) (n:Nat):kG c (n+1)=kG c n++[dm c (n+1)]:=by unfold kG;rw[Y_,X9];rfl
theorem hV: ∀(r:List (List Nat)) (a b:List Nat),cq a (r++[b])=cV (cq a r) b
 | [],_,_=>rfl
 | _::r,_,_=>hV r _ _
theorem cH (c:List Nat) (k:Nat):(dm c k).length=c.length:=by unfold dm;rw[KW,Yc,Xw];omega
theorem jR: ∀(r:List (List Nat)) (a:List Nat),cq a r=a\/cq a r∈r
 | [],a=> .inl rfl
 | b::r,a=>by
  rcases jR r (cV a b) with h | h
  ·have hl:cV a b=a\/cV a b=b:=by unfold cV;split<;>simp
   rcases hl with e | e
   ·left;show cq (cV a b) r=a;rw[h,e]
   ·right;show cq (cV a b) r∈b::r;rw[h,e];exact Vj
  ·right;exact SX _ h
theorem qP (c:List Nat): ∃k,fK c=dm c k:=by
 rcases jR (kG c (c.length - 1)) c with h | h
 ·exact ⟨0,by show cq _ _=_;rw[h];unfold dm;simp⟩
 ·unfold kG at h
  obtain ⟨k,_,e⟩:=Yp.mp h
  exact ⟨k+1,e.symm⟩
theorem Au (w:List Nat):(dU w).length<=w.length:=by
 obtain ⟨k,e⟩:=qP (core (red w))
 unfold dU
 rw[e,cH]
 exact Yv (u7 _) (kD w)
def yQ (_:PySem.W.Frag):Sp:=fun vs H Q _=> ∃l:List Nat,vs=[.str (S l)]/\(∀c∈l,Lt c)/\l.length<=1000/\ ∀H',aq H H'->Q (.str (S (dU l))) H'
theorem Cn {K:PySem.W.Frag} {vs:List V} {H:Hp} {Q:VK} {E:XK} (h:yQ K vs H Q E):vs.length=1:=by obtain ⟨c,rfl,_⟩:=h;rfl
def qQ (_:PySem.W.Frag):Sp:=fun vs H Q _=> ∃l:List Nat,vs=[.str (S l)]/\(∀c∈l,Lt c)/\l.length<=1000/\ ∀H',aq H H'->Q (.str (S (cG l))) H'
theorem xq {K:PySem.W.Frag} {vs:List V} {H:Hp} {Q:VK} {E:XK} (h:qQ K vs H Q E):vs.length=1:=by obtain ⟨c,rfl,_⟩:=h;rfl
theorem Jt (n d:Nat):HT.da n d (some (-1))=n - 1:=by
 have e:HT.da n d (some (-1))=(if (-1:Int)<0 then ((-1:Int)+(n:Int)).toNat else min (-1:Int).toNat n):=rfl
 rw[e,if_pos (by decide)]
 omega
theorem Ju {α:Type} (l:List α):cut l (some (-2)) none=l.drop (l.length - 2):=by
 have e: ∀d,HT.da l.length d (some (-2))=(if (-2:Int)<0 then ((-2:Int)+(l.length:Int)).toNat else min (-2:Int).toNat l.length):=fun _=>rfl
 have e2: ∀d,HT.da l.length d (some (-2))=l.length - 2:=fun d=>by rw[e,if_pos (by decide)];omega
 unfold cut
 rw[HT.ke,e2]
 exact Yn (by rw[Yc];exact SY _)
def AllLt (l:List Nat):Prop:= ∀c∈l,Lt c
theorem oq (a b:List Nat): ¬a<cV a b:=by
 unfold cV
 split
 ·rename_i h;exact fun g=>ZT a (List.lt_trans g h)
 ·exact ZT a
theorem mT (a b:List Nat): ¬b<cV a b:=by
 unfold cV
 split
 ·exact ZT b
 ·rename_i h;exact h
theorem He {a b c:List Nat} (h: ¬b<a) (g: ¬c<b): ¬c<a:=List.le_trans (show a<=b from h) (show b<=c from g)
theorem jS: ∀(r:List (List Nat)) (a:List Nat), ∀x∈a::r, ¬x<cq a r
 | [],a,x,hx=>by rw[Vk.mp hx];exact ZT a
 | b::r,a,x,hx=>by
  show ¬x<cq (cV a b) r
  have h0:=jS r (cV a b) (cV a b) Vj
  rcases Vi.mp hx with e | hx
  ·rw[e];exact He h0 (oq a b)
  ·rcases Vi.mp hx with e | hx
   ·rw[e];exact He h0 (mT a b)
   ·exact jS r (cV a b) x (SX _ hx)
theorem u9 (c:List Nat):dm c 0=c:=by unfold dm;simp
theorem kH (u:List Nat): ∀(m i:Nat),i<m*u.length->(dN m u)[i]? =u[i%u.length]?
 | 0,i,h=>by simp at h
 | m+1,i,h=>by
  rw[eT,List.getElem?_append]
  by_cases z:i<u.length
  ·rw[if_pos z,Zf z]
  ·rw[if_neg z,kH u m (i - u.length) (by rw[ZS]at h;omega), <-Qbl (by omega)]
def gP (w:List Nat) (s:Nat):Prop:=dN (w.length / s) (w.take s)=w
def gQ (w:List Nat) (k:Nat):Prop:=dm w k=w
noncomputable instance (w:List Nat) (s:Nat):Decidable (gP w s):=by unfold gP;infer_instance
noncomputable instance (w:List Nat) (s:Nat):Decidable (gQ w s):=by unfold gQ;infer_instance
def bK (w:List Nat) (s:Nat):Prop:=(w=[]/\s=0)\/(1<=s/\s<=w.length/\gP w s/\ ∀j,1<=j->j<s-> ¬gP w j)
def jT (w:List Nat) (s:Nat):Prop:=(w=[]/\s=0)\/(1<=s/\s<=w.length/\gQ w s/\ ∀j,1<=j->j<s-> ¬gQ w j)
theorem sF {w:List Nat} {s:Nat} (h1:1<=s) (h2:s<=w.length) (h:gP w s):gQ w s:=by
 unfold gP at h
 have hm:1<=w.length / s:=Nat.div_pos h2 h1
 obtain ⟨m,e⟩: ∃m,w.length / s=m+1:=⟨w.length / s - 1,by omega⟩
 rw[e]at h
 have hu:(w.take s).length=s:=by rw[Xw];omega
 generalize w.take s=u at h hu
 unfold gQ dm
 rw[<-h,eT,List.drop_left' hu,List.take_left' hu, <-w6,eT]
noncomputable def Fw (w:List Nat) (i:Nat):Option Nat:=w[i%w.length]?
theorem nj {w:List Nat} {k i:Nat} (hk:k<=w.length) (hi:i<w.length):(dm w k)[i]? =Fw w (i+k):=by
 unfold dm Fw
 rw[List.getElem?_append,Yc]
 by_cases z:i<w.length - k
 ·rw[if_pos z,Zb,Zf (by omega),Qbo]
 ·rw[if_neg z,ZP,if_pos (by omega),Qbl (by omega),Zf (by omega)]
  congr 1
  omega
def vY (w:List Nat) (k:Nat):Prop:= ∀i,Fw w (i+k)=Fw w i
theorem Co (w:List Nat) (i k:Nat):Fw w (i%w.length+k)=Fw w (i+k):=by unfold Fw;rw[Nat.mod_add_mod]
theorem gm {w:List Nat} {k:Nat} (hn:w≠[]) (hk:k<=w.length):gQ w k↔vY w k:=by
 have hl:0<w.length:=S3.mpr hn
 constructor
 ·intro h i
  have hi:=ZO i hl
  rw[<-Co, <-nj hk hi,h]
  rfl
 ·intro h
  refine Qaf fun i=>?_
  by_cases hi:i<w.length
  ·rw[nj hk hi,h i]
   unfold Fw
   rw[Zf hi]
  ·have hr:(dm w k).length=w.length:=cH w k
   rw[Y6 (by omega),Y6 (by omega)]
theorem vY.mul {w:List Nat} {k:Nat} (h:vY w k): ∀j i,Fw w (i+k*j)=Fw w i
 | 0,i=>rfl
 | j+1,i=>by rw[Nat.mul_succ, <-Nat.add_assoc,h,vY.mul h j]
theorem vY.whole (w:List Nat):vY w w.length:=fun i=>by unfold Fw;rw[Nat.add_mod_right]
theorem vY.rest {w:List Nat} {k:Nat} (h:vY w k):vY w (w.length%k):=fun i=>by
 rw[<-h.mul (w.length / k) (i+w.length%k),Nat.add_assoc,Qa1]
 exact vY.whole w i
theorem qR {w:List Nat} {k:Nat} (hn:w≠[]) (h1:1<=k) (h2:k<=w.length) (h:gQ w k) (hl: ∀j,1<=j->j<k-> ¬gQ w j):gP w k:=by
 have hp:=(gm hn h2).mp h
 have hr:w.length%k=0:=by
  by_cases z:w.length%k=0
  ·exact z
  ·have dB:=ZO w.length (show k>0 by omega)
   exact absurd ((gm hn (by omega)).mpr hp.rest) (hl _ (by omega) dB)
 have hm:w.length / k*k=w.length:=by
  have:=Qa1 w.length k
  rw[hr,Qau,Zk]at this
  exact this
 have hu:(w.take k).length=k:=by rw[Xw];omega
 unfold gP
 refine Qaf fun i=>?_
 by_cases hi:i<w.length
 ·rw[kH _ _ _ (by rw[hu,hm];exact hi),hu,ZP]
  have VI:=ZO i (show k>0 by omega)
  rw[if_pos VI]
  have e:=hp.mul (i / k) (i%k)
  rw[Qa1]at e
  unfold Fw at e
  rw[Zf hi,Zf (by omega)]at e
  exact e.symm
 ·rw[Y6 (by rw[uE,hu,hm];omega),Y6 (by omega)]
theorem jl {w:List Nat} {s k:Nat} (h:bK w s) (g:jT w k):s=k:=by
 rcases h with ⟨e,e2⟩ | ⟨h1,h2,h3,h4⟩
 ·rcases g with ⟨_,g2⟩ | ⟨g1,g2,_,_⟩
  ·rw[e2,g2]
  ·rw[e]at g2;simp at g2;omega
 ·rcases g with ⟨e,_⟩ | ⟨g1,g2,g3,g4⟩
  ·rw[e]at h2;simp at h2;omega
  ·have hn:w≠[]:=fun z=>by rw[z]at h2;simp at h2;omega
   by_cases z:s<k
   ·exact absurd (sF h1 h2 h3) (g4 s h1 z)
   ·by_cases z2:k<s
    ·exact absurd (qR hn g1 g2 g3 g4) (h4 k g1 z2)
    ·omega
theorem Av (w:List Nat) (h:w≠[]):gP w w.length:=by
 have hl:0<w.length:=S3.mpr h
 unfold gP
 rw[Nat.div_self hl,Yn (SY _)]
 show dN (0+1) w=w
 rw[eT]
 simp[dN]
theorem Aw (w:List Nat):gQ w w.length:=by
 unfold gQ dm
 rw[Zd (SY _),Yn (SY _)]
 rfl
noncomputable def Fz (c:List Nat) (n:Nat):List Nat:=((List.range n).map (· +1)).filter fun k=>decide (gQ c k)
theorem sG {c:List Nat} {n k:Nat}:k∈Fz c n↔(1<=k/\k<=n)/\gQ c k:=by
 unfold Fz
 rw[YI,Yp]
 constructor
 ·rintro ⟨⟨j,hj,rfl⟩,h⟩
  have:=Y9.mp hj
  exact ⟨by omega,of_decide_eq_true h⟩
 ·rintro ⟨h1,h2⟩
  exact ⟨⟨k - 1,Y9.mpr (by omega),by omega⟩,decide_eq_true h2⟩
theorem xr (c:List Nat) (n:Nat):(Fz c n).Pairwise (· < ·):=by
 unfold Fz
 refine List.Pairwise.filter _ ?_
 rw[YY]
 exact (List.pairwise_lt_range (n:=n)).imp fun h=>Nat.succ_lt_succ h
theorem ou {c:List Nat} (h:c≠[]): ∃k r,Fz c c.length=k::r/\jT c k:=by
 have hl:0<c.length:=S3.mpr h
 have hm:c.length∈Fz c c.length:=sG.mpr ⟨by omega,Aw c⟩
 rcases e:Fz c c.length with _ | ⟨k,r⟩
 ·rw[e]at hm;exact absurd hm Yl
 ·refine ⟨k,r,rfl, .inr ?_⟩
  have hk:k∈Fz c c.length:=by rw[e];exact Vj
  obtain ⟨⟨h1,h2⟩,h3⟩:=sG.mp hk
  refine ⟨h1,h2,h3,fun j j1 j2 z=>?_⟩
  have hj:j∈Fz c c.length:=sG.mpr ⟨by omega,z⟩
  have hs:=xr c c.length
  rw[e]at hj hs
  rcases Vi.mp hj with w | w
  ·omega
  ·have:=List.rel_of_pairwise_cons hs w
   omega
noncomputable def Hf (w:List Nat) (s:Nat):List V:=[.str (S (w.take s)), .int ((w.length / s:Nat):Int)]
def yR (_:PySem.W.Frag):Sp:=fun vs H Q _=> ∃l:List Nat,vs=[.str (S l)]/\(∀c∈l,Lt c)/\l.length<=1000/\ ∀p s H',H p=none->H' p=some (.tup (Hf (dU l) s))->bK (dU l) s->aq H H'->Q (.ref p) H'
theorem Cp {K:PySem.W.Frag} {vs:List V} {H:Hp} {Q:VK} {E:XK} (h:yR K vs H Q E):vs.length=1:=by obtain ⟨c,rfl,_⟩:=h;rfl
theorem N1 {l:List Nat} (h:l.Nodup) {i j:Nat} (hi:i<l.length) (hj:j<l.length) (e:l[i]=l[j]):i=j:=by
 have hp:=Zi.mp h
 rcases Nat.lt_trichotomy i j with z | z | z
 ·exact absurd e (hp i j hi hj z)
 ·exact z
 ·exact absurd e.symm (hp j i hj hi z)
theorem bj: ∀c∈aL,aD c=true/\PyProof.Rows.lo1 c=c/\ar c∈jQ:=by decide+kernel
theorem bV: ∀c∈jQ,aD c=false/\PyProof.Rows.lo1 c=ar c/\c∉aL/\ar c∈aL:=by decide+kernel
theorem qS: ∀c∈jQ,c∉aL:=by decide+kernel
theorem jm {c:Nat} (h:Lt c):aD c=decide (c∈aL):=by
 rcases h with h | h
 ·rw[(bj c h).1,decide_eq_true h]
 ·rw[(bV c h).1,decide_eq_false (bV c h).2.2.1]
noncomputable def gr (y:List Nat) (a b c:Nat):Bool:=decide ((((y.idxOf b:Nat):Int) - ((y.idxOf a:Nat):Int))%(y.length:Int)<(((y.idxOf c:Nat):Int) - ((y.idxOf a:Nat):Int))%(y.length:Int))
def iU (i j k:Nat):Prop:=(i<j/\j<k)\/(j<k/\k<i)\/(k<i/\i<j)
noncomputable instance (i j k:Nat):Decidable (iU i j k):=by unfold iU;infer_instance
theorem iV {i j n:Nat} (hi:i<n) (hj:j<n):((j:Int) - (i:Int))%(n:Int)=if i<=j then (j:Int) - i else (j:Int) - i+n:=by
 split
 ·exact Yu (by omega) (by omega)
 ·rw[<-Zy]
  exact Yu (by omega) (by omega)
theorem eE {y:List Nat} {a b c:Nat} (hn:y.Nodup) (ha:a∈y) (hb:b∈y) (hc:c∈y) (qT:a≠b) (Bd:a≠c) (Be:b≠c):gr y a b c=decide (iU (y.idxOf a) (y.idxOf b) (y.idxOf c)):=by
 have ia:=Vh ha
 have ib:=Vh hb
 have ic:=Vh hc
 have inj: ∀{u v:Nat},u∈y->v∈y->u≠v->y.idxOf u≠y.idxOf v:=fun {u v} hu hv h z=>h (by
  have e1:=YU (Vh hu)
  have e2:=YU (Vh hv)
  rw[<-e1, <-e2]
  congr 1)
 have n1:=inj ha hb qT
 have n2:=inj ha hc Bd
 have n3:=inj hb hc Be
 unfold gr
 rw[iV ia ib,iV ia ic]
 generalize y.idxOf a=i at*
 generalize y.idxOf b=j at*
 generalize y.idxOf c=k at*
 refine decide_eq_decide.mpr ?_
 unfold iU
 split<;>split<;>omega
theorem Cq {i j k:Nat}:iU j k i↔iU i j k:=by unfold iU;omega
theorem FA {i j k:Nat} (h1:i≠j) (h2:i≠k) (h3:j≠k):iU i k j↔ ¬iU i j k:=by unfold iU;omega
theorem FC {y:List Nat} {a b c:Nat} (hn:y.Nodup) (ha:a∈y) (hb:b∈y) (hc:c∈y) (qT:a≠b) (Bd:a≠c) (Be:b≠c):gr y b c a=gr y a b c:=by
 rw[eE hn ha hb hc qT Bd Be,eE hn hb hc ha Be (Ne.symm qT) (Ne.symm Bd)]
 exact decide_eq_decide.mpr Cq
theorem bW {y:List Nat} {u v:Nat} (hu:u∈y) (hv:v∈y) (h:u≠v):y.idxOf u≠y.idxOf v:=fun z=>h (by
 have e1:=YU (Vh hu)
 have e2:=YU (Vh hv)
 rw[<-e1, <-e2]
 congr 1)
theorem Cr {y:List Nat} {a b c:Nat} (hn:y.Nodup) (ha:a∈y) (hb:b∈y) (hc:c∈y) (qT:a≠b) (Bd:a≠c) (Be:b≠c):gr y a c b=!gr y a b c:=by
 rw[eE hn ha hb hc qT Bd Be,eE hn ha hc hb Bd qT (Ne.symm Be)]
 rw[<-decide_not]
 exact decide_eq_decide.mpr (FA (bW ha hb qT) (bW ha hc Bd) (bW hb hc Be))
theorem Jv (d:Nat) (t:List Nat) (a:Nat):(d::t).idxOf a=if d=a then 0 else t.idxOf a+1:=by
 by_cases h:d=a
 ·subst h;rw[if_pos rfl,List.idxOf_cons_self]
 ·rw[if_neg h,Qa3,show (d==a)=false by simp[h]];rfl
theorem Ax {a b:List Nat} (h:a.Perm b) (ha:a.Pairwise (· <= ·)) (hb:b.Pairwise (· <= ·)):a=b:=
 List.Perm.eq_of_pairwise (le:=fun x y=>x<=y) (fun _ _ _ _ h1 h2=>Qa2 h1 h2) ha hb h
def u_ (_:PySem.W.Frag):Sp:=fun vs H Q _=> ∃l:List Nat,vs=[.str (S l)]/\(∀c∈l,c<128)/\l.length<64/\ ∀l' H',l'.Perm (l.filter aD)->l'.Pairwise (· <= ·)->aq H H'->Q (.str (S l')) H'
theorem Ay {K:PySem.W.Frag} {vs:List V} {H:Hp} {Q:VK} {E:XK} (h:u_ K vs H Q E):vs.length=1:=by obtain ⟨c,rfl,_⟩:=h;rfl
def iW (_:PySem.W.Frag):Sp:=fun vs H Q _=> ∃(y:List Nat) (a b:Nat),vs=[.str (S y), .str (S [a]), .str (S [b])]/\a∈y/\b∈y/\y.length<=1000/\Q (.int ((((y.idxOf b:Nat):Int) - ((y.idxOf a:Nat):Int))%(y.length:Int))) H
theorem mU {K:PySem.W.Frag} {vs:List V} {H:Hp} {Q:VK} {E:XK} (h:iW K vs H Q E):vs.length=3:=by obtain ⟨c,_,_,rfl,_⟩:=h;rfl
theorem va {p:Nat->Bool} {l:List Nat} {i c:Nat} (h:l[i]? =some c):(l.take (i+1)).filter p=(l.take i).filter p++if p c=true then [c] else []:=by
 rw[<-take_snoc h,Zx]
 congr 1
 by_cases z:p c=true
 ·rw[if_pos z,YC z];rfl
 ·rw[if_neg z,Yt z];rfl
theorem Cs {y:List Nat} (h:Yd y):2*(y.filter aD).length=y.length:=by
 have key: ∀p q:Nat->Bool,(∀c∈y,p c=true->q (ar c)=true)->(y.filter p).length<=(y.filter q).length:=fun p q N2=>by
  have hn:((y.filter p).map ar).Nodup:=by
   show ((y.filter p).map ar).Pairwise (· ≠ ·)
   rw[YY]
   refine (h.nd.filter p).imp_of_mem fun {a b} ha hb z e=>z ?_
   exact dI (h.lt a (YI.mp ha).1) (h.lt b (YI.mp hb).1) e
  have:=hn.length_le_of_subset (l₂:=y.filter q) fun c hc=>by
   obtain ⟨d,hd,rfl⟩:=Yp.mp hc
   obtain ⟨d1,d2⟩:=YI.mp hd
   exact YI.mpr ⟨h.cl d d1,N2 d d1 d2⟩
  rwa [Pd]at this
 have k1:=key aD (fun c=>!aD c) fun c hc z=>by
  rw[jm (h.lt c hc)]at z
  have hs:=of_decide_eq_true z
  rw[(bV _ (bj c hs).2.2).1];rfl
 have k2:=key (fun c=>!aD c) aD fun c hc z=>by
  rcases h.lt c hc with q | q
  ·rw[(bj c q).1]at z;cases z
  ·exact (bj _ (bV c q).2.2.2).1
 have k3:(y.filter aD).length+(y.filter fun c=>!aD c).length=y.length:=by
  clear k1 k2 key h
  induction y with
  | nil=>rfl
  | cons a r ih=>
   cases hq:aD a
   ·rw[Yt (by simp[hq]),YC (by simp[hq]),Ys,Ys];omega
   ·rw[YC hq,Yt (by simp[hq]),Ys,Ys];omega
 omega
noncomputable def rd (w:List Nat) (k:Int):Nat:=w.getD (k%(w.length:Int)).toNat 0
theorem N3 {w:List Nat} (h:w≠[]) (k:Int):(k%(w.length:Int)).toNat<w.length:=by
 have:0<w.length:=S3.mpr h
 have h1:=Y3 k (b:=(w.length:Int)) (by omega)
 have h2:=YV k (b:=(w.length:Int)) (by omega)
 omega
theorem eU {w:List Nat} (h:w≠[]) (k:Int):w[(k%(w.length:Int)).toNat]? =some (rd w k):=by
 unfold rd
 rw[Xv,IM (N3 h k)]
 rfl
theorem gx {w:List Nat} (h:w≠[]) (k:Int):rd w k∈w:=Ya (eU h k)
theorem eV (w:List Nat) (k:Int):rd w (k+w.length)=rd w k:=by unfold rd;rw[Zy]
theorem hW (w:List Nat) (k:Int):rd w (k%w.length)=rd w k:=by unfold rd;rw[Z1 _ (Int.dvd_refl _)]
theorem lS {w:List Nat} {k:Nat} (h:k<w.length):w[k]? =some (rd w k):=by
 have dG:w≠[]:=fun z=>by rw[z]at h;exact absurd h (Qa0 _)
 have:=eU dG (k:Int)
 rwa [Yu (by omega) (by omega),Xx]at this
theorem vb {w:List Nat} {k:Int} {n:Nat} {c:Nat} (hn:n<w.length) (e:k%(w.length:Int)=n) (h:w[n]? =some c):rd w k=c:=by
 have:=lS hn
 rw[h]at this
 rw[<-hW,e]
 exact (Yg this).symm
theorem kI {w:List Nat} {k:Int} (h1: -(w.length:Int)<=k) (h2:k<w.length):lq w k=some (rd w k):=by
 have dG:w≠[]:=fun z=>by rw[z]at h1 h2;simp at h1 h2;omega
 unfold lq Ei
 by_cases h0:0<=k
 ·rw[if_pos h0,if_pos h2]
  have:=eU dG k
  rw[Yu h0 h2]at this
  exact this
 ·rw[if_neg h0,if_pos h1]
  have:=eU dG (k+w.length)
  rw[eV,Yu (by omega) (by omega)]at this
  exact this
theorem hX {f:Int->Nat} {p:Nat} (P: ∀k,f (k+p)=f k) (k:Int): ∀t:Nat,f (k+t*p)=f k
 | 0=>by simp
 | t+1=>by
  have:k+((t+1:Nat):Int)*p=k+t*p+p:=by rw[YO,Int.add_mul];simp;omega
  rw[this,P,hX P k t]
theorem fw {f g:Int->Nat} {p q:Nat} (hp:0<p) (hq:0<q) (Pf: ∀k,f (k+p)=f k) (Pg: ∀k,g (k+q)=g k) (h: ∀n:Nat,n<p+q->f n=g n) (k:Int):f k=g k:=by
 have up: ∀N n:Nat,n<N->f n=g n:=by
  intro N
  induction N with
  | zero=>intro n hn;omega
  | succ N ih=>
   intro n hn
   by_cases z:n<p+q
   ·exact h n z
   ·have e1:f n=f ((n - p:Nat):Int):=by have:=Pf ((n - p:Nat):Int);rwa [show ((n - p:Nat):Int)+p=n by omega]at this
    have e2:g ((n - p:Nat):Int)=g ((n - p - q:Nat):Int):=by have:=Pg ((n - p - q:Nat):Int);rwa [show ((n - p - q:Nat):Int)+q=((n - p:Nat):Int) by omega]at this
    have e3:f ((n - q:Nat):Int)=f ((n - p - q:Nat):Int):=by have:=Pf ((n - p - q:Nat):Int);rwa [show ((n - p - q:Nat):Int)+p=((n - q:Nat):Int) by omega]at this
    have e4:g n=g ((n - q:Nat):Int):=by have:=Pg ((n - q:Nat):Int);rwa [show ((n - q:Nat):Int)+q=n by omega]at this
    rw[e1,ih (n - p) (by omega),e2, <-ih (n - p - q) (by omega), <-e3,ih (n - q) (by omega), <-e4]
 have pU: ∃m:Nat,k+((k.natAbs*q:Nat):Int)*p=m/\k+((k.natAbs*p:Nat):Int)*q=m:=by
  have e1:((k.natAbs*q:Nat):Int)*p=((k.natAbs*(q*p):Nat):Int):=by rw[Nat.mul_assoc k.natAbs q p |>.symm];simp
  have e2:((k.natAbs*p:Nat):Int)*q=((k.natAbs*(q*p):Nat):Int):=by rw[Zk q p,Nat.mul_assoc k.natAbs p q |>.symm];simp
  have hle:k.natAbs<=k.natAbs*(q*p):=Nat.le_mul_of_pos_right _ (Qb1 hq hp)
  generalize k.natAbs*(q*p)=M at e1 e2 hle
  exact ⟨(k+M).toNat,by omega,by omega⟩
 obtain ⟨m,h1,h2⟩:=pU
 rw[<-hX Pf k (k.natAbs*q),h1, <-hX Pg k (k.natAbs*p),h2]
 exact up (m+1) m (Zs m)
noncomputable def pA (f g:Int->Nat):Nat->Nat->Nat
 | 0,i=>i
 | n+1,i=>if f i=g i then pA f g n (i+1) else i
theorem iX (f g:Int->Nat): ∀n i:Nat,i<=pA f g n i/\pA f g n i<=i+n/\(∀j:Nat,i<=j->j<pA f g n i->f j=g j)/\(pA f g n i<i+n->f (pA f g n i)≠g (pA f g n i))
 | 0,i=>⟨SY _,SY _,fun j h1 h2=>absurd (Yx h1 h2) (YK _),fun h=>absurd h (YK _)⟩
 | n+1,i=>by
  unfold pA
  by_cases z:f i=g i
  ·rw[if_pos z]
   obtain ⟨h1,h2,h3,h4⟩:=iX f g n (i+1)
   refine ⟨by omega,by omega,fun j g1 g2=>?_,fun g1=>h4 (by omega)⟩
   by_cases e:j=i
   ·rw[e];exact z
   ·exact h3 j (by omega) g2
  ·rw[if_neg z]
   exact ⟨SY _,by omega,fun j g1 g2=>absurd (Yx g1 g2) (YK _),fun _=>z⟩
noncomputable def al (y:List Nat) (f g:Int->Nat) (n:Nat):Nat:=
 if f 0≠g 0\/f (-1)=g (-1) then 0 else
 if gr y (ar (f (-1))) (ar (g (-1))) (f 0)=gr y (f (pA f g n 0)) (g (pA f g n 0)) (ar (f ((pA f g n 0:Nat) - 1))) then pA f g n 0 else 0
noncomputable def ac (y:List Nat) (a b p q:Nat):Bool:=if p=a\/p=b\/q=a\/q=b then false else (gr y a p b != gr y a q b)
noncomputable def sq (w:List Nat) (i:Int):Int->Nat:=fun n=>rd w (i+n)
noncomputable def bq (v:List Nat) (j:Int):Int->Nat:=fun n=>ar (rd v (j - n))
theorem de (w:List Nat) (i k:Int):sq w i (k+w.length)=sq w i k:=by unfold sq;rw[<-Qai,eV]
theorem xt (w:List Nat) (k:Int):rd w (k - w.length)=rd w k:=by rw[<-eV w (k - w.length)];congr 1;omega
theorem ow (w:List Nat) (i k:Int):bq w i (k+w.length)=bq w i k:=by unfold bq;rw[show i - (k+(w.length:Int))=i - k - w.length by omega,xt]
theorem hZ {v:List Nat} (h:v≠[]) (k:Int):rd (cG v) k=ar (rd v (-1 - k)):=by
 have pU:0<v.length:=S3.mpr h
 have h1:=Y3 k (b:=(v.length:Int)) (by omega)
 have h2:=YV k (b:=(v.length:Int)) (by omega)
 have e:(-1 - k)%(v.length:Int)=v.length - 1 - k%v.length:=by
  have e1:=Qa9 k v.length
  have: -1 - k=(v.length - 1 - k%v.length)+v.length*(-(k / v.length) - 1):=by rw[Int.mul_sub,Int.mul_neg];omega
  rw[this,kb,Yu (by omega) (by omega)]
 generalize hr:k%(v.length:Int)=r at h1 h2 e
 obtain ⟨n,rfl⟩: ∃n:Nat,r=n:=⟨r.toNat,by omega⟩
 have hn:n<v.length:=by omega
 have e2:rd v (-1 - k)=v[v.length - 1 - n]'(by omega):=vb (n:=v.length - 1 - n) (by omega) (by rw[e];omega) (IM (by omega))
 rw[e2]
 refine vb (n:=n) (by rw[bS];exact hn) (by rw[bS];exact hr) ?_
 unfold cG
 rw[ZG (by rw[Pd];exact hn),Pd,Yb,IM (by omega)]
 rfl
theorem Jw {v:List Nat} (h:v≠[]) (j:Nat):sq (cG v) ((v.length:Int) - 1 - j)=bq v j:=by
 funext n
 unfold sq bq
 rw[hZ h,show -1 - ((v.length:Int) - 1 - j+n)=j - n - v.length by omega,xt]
structure SW (y w:List Nat):Prop where
 ne:w≠[]
 bH: ∀c∈w,c∈y
 red: ∀k:Int,rd w k≠ar (rd w (k - 1))
theorem SW.rd {y w:List Nat} (h:SW y w) (k:Int):rd w k∈y:=h.bH _ (gx h.ne k)
theorem jn {w v:List Nat} {f g:Int->Nat} (hw:w≠[]) (hv:v≠[]) (pf: ∀k,f (k+w.length)=f k) (pg: ∀k,g (k+v.length)=g k) (h:f (-1)≠g (-1)):pA f g (w.length+v.length) 0<w.length+v.length/\f (pA f g (w.length+v.length) 0)≠g (pA f g (w.length+v.length) 0):=by
 obtain ⟨_,b,c,d⟩:=iX f g (w.length+v.length) 0
 by_cases z:pA f g (w.length+v.length) 0<w.length+v.length
 ·exact ⟨z,d (by omega)⟩
 ·exact absurd (fw (S3.mpr hw) (S3.mpr hv) pf pg (fun n hn=>c n (Xy _) (by omega)) (-1)) h
noncomputable def vc (ws:List (List Nat)):Nat->List (Nat×Nat)
 | 0=>[]
 | n+1=>vc ws n++(List.range (ws.getD n []).length).map fun i=>(n,i)
noncomputable def places (ws:List (List Nat)):List (Nat×Nat):=vc ws ws.length
theorem sH {ws:List (List Nat)}: ∀{n:Nat} {o:Nat×Nat},o∈vc ws n↔o.1<n/\o.2<(ws.getD o.1 []).length
 | 0,o=>by simp[vc]
 | n+1,o=>by
  unfold vc
  rw[Yi,sH (n:=n),Yp]
  constructor
  ·rintro (⟨h1,h2⟩ | ⟨i,hi,rfl⟩)
   ·exact ⟨by omega,h2⟩
   ·exact ⟨by simp,Y9.mp hi⟩
  ·rintro ⟨h1,h2⟩
   by_cases z:o.1<n
   ·exact .inl ⟨z,h2⟩
   ·have e:o.1=n:=by omega
    exact .inr ⟨o.2,Y9.mpr (by rw[<-e];exact h2),by rw[<-e]⟩
theorem yS {ws:List (List Nat)}: ∀n:Nat,(vc ws n).Pairwise fun a b=>Ek a.1 a.2 b.1 b.2=true
 | 0=>List.Pairwise.nil
 | n+1=>by
  unfold vc
  rw[Zl]
  refine ⟨yS n,?_,fun a ha b hb=>?_⟩
  ·rw[YY]
   refine List.pairwise_lt_range.imp fun {a b} h=>?_
   unfold Ek
   rw[if_pos rfl]
   exact decide_eq_true (by show (a:Int)<b;omega)
  ·obtain ⟨i,hi,rfl⟩:=Yp.mp hb
   have:=(sH.mp ha).1
   unfold Ek
   rw[if_neg (by show ¬((a.1:Nat):Int)=(n:Nat);omega)]
   exact decide_eq_true (by show ((a.1:Nat):Int)<(n:Nat);omega)
theorem lT: ∀{a b:List Int},bJ a b=true->bJ b a=false/\a≠b
 | [],[],h=>by simp[bJ]at h
 | [],_::_,h=>⟨rfl,by simp⟩
 | _::_,[],h=>by simp[bJ]at h
 | x::r,z::t,h=>by
  simp only[bJ]at h ⊢
  split at h
  ·rename_i e
   obtain ⟨h1,h2⟩:=lT h
   rw[if_pos e.symm]
   exact ⟨h1,fun q=>h2 (List.cons.inj q).2⟩
  ·rename_i e
   have h':=of_decide_eq_true h
   rw[if_neg (fun q=>e q.symm)]
   exact ⟨decide_eq_false (by omega),fun q=>e (List.cons.inj q).1⟩
noncomputable def fj (n:Nat) (l:List Nat):List Nat:=(List.replicate n l).flatten
def Az (w:List Nat):Prop:= ∀(k a b:Nat),w[k]? =some a->w[k+1]? =some b->b≠ar a
theorem Az.nil:Az []:=fun k a b h=>by simp at h
theorem Az.take {w:List Nat} (h:Az w) (n:Nat):Az (w.take n):=fun k a b h1 h2=>by
 rw[ZP]at h1 h2
 split at h1
 ·split at h2
  ·exact h k a b h1 h2
  ·cases h2
 ·cases h1
theorem Az.snoc {w:List Nat} {c:Nat} (h:Az w) (hc: ∀a,w.getLast? =some a->c≠ar a):Az (w++[c]):=fun k a b h1 h2=>by
 by_cases z:k+1<w.length
 ·rw[YD (by omega)]at h1
  rw[YD z]at h2
  exact h k a b h1 h2
 ·have w_:k+1<(w++[c]).length:=(IQ.mp h2).1
  rw[KW]at w_
  have e:k+1=w.length:=by simp at w_;omega
  rw[YD (by omega)]at h1
  rw[e,Y1 (SY _),Nat.sub_self]at h2
  have e2:c=b:=by simpa using h2
  rw[<-e2]
  refine hc a ?_
  rw[ZL, show w.length - 1=k by omega]
  exact h1
theorem SW.of {y w:List Nat} (ne:w≠[]) (bH: ∀c∈w,c∈y) (El:Az w) (hd: ∀a b,w.head? =some a->w.getLast? =some b->a≠ar b):SW y w:=by
 refine ⟨ne,bH,fun k=>?_⟩
 have pU:0<w.length:=S3.mpr ne
 have h1:=Y3 k (b:=(w.length:Int)) (by omega)
 have h2:=YV k (b:=(w.length:Int)) (by omega)
 have hk:=eU ne k
 have K0:=eU ne (k - 1)
 by_cases z:k%(w.length:Int)=0
 ·have e:(k - 1)%(w.length:Int)=w.length - 1:=by
   rw[<-Int.emod_sub_emod,z]
   have:(0:Int) - 1=(w.length - 1)+w.length*(-1):=by omega
   rw[this,kb,Yu (by omega) (by omega)]
  rw[z]at hk
  rw[e]at K0
  refine hd _ _ ?_ ?_
  ·rw[Qax];exact hk
  ·rw[ZL, show w.length - 1=((w.length:Int) - 1).toNat by omega];exact K0
 ·have e:(k - 1)%(w.length:Int)=k%w.length - 1:=by
   rw[<-Int.emod_sub_emod,Yu (by omega) (by omega)]
  rw[e]at K0
  refine El _ _ _ K0 ?_
  rw[show (k%(w.length:Int) - 1).toNat+1=(k%(w.length:Int)).toNat by omega]
  exact hk
theorem SW.El {y w:List Nat} (h:SW y w):Az w:=fun k a b h1 h2=>by
 have hk:=(IQ.mp h2).1
 have e1:=lS (w:=w) (k:=k) (by omega)
 have e2:=lS (w:=w) (k:=k+1) hk
 rw[h1]at e1
 rw[h2]at e2
 rw[Yg e1,Yg e2]
 have:=h.red ((k+1:Nat):Int)
 rwa [show (((k+1:Nat):Int) - 1)=(k:Int) by omega]at this
theorem sI {w:List Nat} {n:Nat} (h:w≠[]) (hn:n<=w.length) (k:Int):rd (w.drop n++w.take n) k=rd w (k+n):=by
 have pU:0<w.length:=S3.mpr h
 have hl:(w.drop n++w.take n).length=w.length:=by rw[KW,Yc,Xw];omega
 have h1:=Y3 k (b:=(w.length:Int)) (by omega)
 have h2:=YV k (b:=(w.length:Int)) (by omega)
 have e:(k+n)%(w.length:Int)=(k%w.length+n)%w.length:=by rw[Qbv]
 generalize hr:k%(w.length:Int)=r at h1 h2 e
 obtain ⟨m,rfl⟩: ∃m:Nat,r=m:=⟨r.toNat,by omega⟩
 have hm:m<w.length:=by omega
 by_cases z:m+n<w.length
 ·have hg:w[m+n]? =some (rd w (k+n)):=by
   have:=eU h (k+n)
   rwa [e,Yu (by omega) (by omega),show ((m:Int)+n).toNat=m+n by omega]at this
  refine vb (n:=m) (by rw[hl];exact hm) (by rw[hl];exact hr) ?_
  rw[YD (by rw[Yc];omega),Zb,Qbo]
  exact hg
 ·have hg:w[m+n - w.length]? =some (rd w (k+n)):=by
   have:=eU h (k+n)
   have e2:((m:Int)+n)%w.length=((m+n - w.length:Nat):Int):=by
    have:(m:Int)+n=((m+n - w.length:Nat):Int)+w.length:=by omega
    rw[this,Zy,Yu (by omega) (by omega)]
   rwa [e,e2,Xx]at this
  refine vb (n:=m) (by rw[hl];exact hm) (by rw[hl];exact hr) ?_
  rw[Y1 (by rw[Yc];omega),Yc,ZP,if_pos (by omega),show m - (w.length - n)=m+n - w.length by omega]
  exact hg
theorem SW.dm {y w:List Nat} {n:Nat} (h:SW y w) (hn:n<=w.length):SW y (w.drop n++w.take n):=by
 refine ⟨fun z=>h.ne ?_,fun c hc=>?_,fun k=>?_⟩
 ·have l0:(w.drop n++w.take n).length=0:=by rw[z];rfl
  rw[KW,Yc,Xw]at l0
  exact Y0.mp (by omega)
 ·exact h.bH c ((Yi.mp hc).elim ZZ Zm)
 ·rw[sI h.ne hn,sI h.ne hn,show k - 1+n=k+n - 1 by omega]
  exact h.red _
theorem SW.cG {y w:List Nat} (hy:Yd y) (h:SW y w):SW y (cG w):=by
 refine ⟨fun z=>h.ne ?_,fun c hc=>?_,fun k=>?_⟩
 ·have:=bS w
  rw[z]at this
  exact Y0.mp this.symm
 ·obtain ⟨d,hd,rfl⟩:=Yp.mp (Zg.mp hc)
  exact hy.cl d (h.bH d hd)
 ·rw[hZ h.ne,hZ h.ne,show -1 - (k - 1)= -1 - k+1 by omega]
  intro q
  have l1:=hy.lt _ (h.rd (-1 - k))
  have l2:=hy.lt _ (h.rd (-1 - k+1))
  rw[aF l2]at q
  have:=h.red (-1 - k+1)
  rw[show -1 - k+1 - 1= -1 - k by omega]at this
  exact this q.symm
theorem kJ (n:Nat) (l:List Nat):fj (n+1) l=l++fj n l:=by unfold fj;rw[Qbb,ZI]
theorem nk (n:Nat) (l:List Nat):(fj n l).length=n*l.length:=by
 induction n with
 | zero=>simp[fj]
 | succ n ih=>rw[kJ,KW,ih,ZS,Qbo]
theorem yT {l:List Nat}: ∀{n k:Nat},k<n*l.length->(fj n l)[k]? =l[k%l.length]?
 | 0,k,h=>by simp at h
 | n+1,k,h=>by
  rw[kJ]
  by_cases z:k<l.length
  ·rw[YD z,Zf z]
  ·rw[Y1 (by omega),yT (by rw[ZS]at h;omega),Qbl (by omega:l.length<=k)]
theorem sJ {w:List Nat} {n:Nat} (h:w≠[]) (hn:0<n) (k:Int):rd (fj n w) k=rd w k:=by
 have pU:0<w.length:=S3.mpr h
 have hl:=nk n w
 have Tn:0<n*w.length:=Qb1 hn pU
 have h1:=Y3 k (b:=((n*w.length:Nat):Int)) (by omega)
 have h2:=YV k (b:=((n*w.length:Nat):Int)) (by omega)
 have e:k%(w.length:Int)=(k%((n*w.length:Nat):Int))%w.length:=(Z1 k (by rw[Qa4];exact Int.dvd_mul_left _ _)).symm
 generalize hr:k%((n*w.length:Nat):Int)=r at h1 h2 e
 obtain ⟨m,rfl⟩: ∃m:Nat,r=m:=⟨r.toNat,by omega⟩
 have hm:m<n*w.length:=by omega
 refine vb (n:=m) (by rw[hl];exact hm) (by rw[hl];exact hr) ?_
 rw[yT hm]
 have:=eU h k
 rwa [e,show (((m:Int)%w.length).toNat)=m%w.length by rw[<-Qam,Xx]]at this
theorem FD {w:List Nat} {n c:Nat} (h:c∈fj n w):c∈w:=by
 obtain ⟨l,hl,hc⟩:=List.mem_flatten.mp h
 rwa [List.eq_of_mem_replicate hl]at hc
theorem SW.dN {y w:List Nat} {n:Nat} (h:SW y w) (hn:0<n):SW y (fj n w):=by
 refine ⟨fun z=>?_,fun c hc=>h.bH c (FD hc),fun k=>by rw[sJ h.ne hn,sJ h.ne hn];exact h.red k⟩
 have:=nk n w
 rw[z]at this
 have h2:0<n*w.length:=Qb1 hn (S3.mpr h.ne)
 simp at this
 omega
theorem SW.twice {y w:List Nat} (h:SW y w):SW y (w++w):=by
 have:=h.dN (n:=2) (by decide)
 rwa [show fj 2 w=w++w by rw[kJ,kJ];simp[fj]]at this
theorem SW.snoc {y w:List Nat} {c:Nat} (hy:Yd y) (El:Az w) (bH: ∀a∈w,a∈y) (hc:c∈y) (h1: ∀a,w.getLast? =some a->c≠ar a) (h2: ∀a,w.head? =some a->c≠ar a):SW y (w++[c]):=by
 refine SW.of (by simp) (fun a ha=>?_) (El.snoc h1) fun a b ha hb=>?_
 ·rcases Yi.mp ha with q | q
  ·exact bH a q
  ·rw[Vk.mp q];exact hc
 ·have eb:b=c:=by simpa using hb.symm
  subst eb
  cases w with
  | nil=>
   have:b=a:=by simpa using ha
   rw[<-this]
   exact fun q=>fE (hy.lt b hc) q.symm
  | cons x r=>
   have:x=a:=by simpa using ha
   subst this
   have hx:x∈y:=bH x Vj
   intro q
   exact h2 x rfl (by rw[q,aF (hy.lt b hc)])
theorem sL {w:List Nat} (h:w≠[]):w.getLast? =some (rd w (-1)):=by
 have pU:0<w.length:=S3.mpr h
 have:=eU h (-1)
 have e:(-1:Int)%(w.length:Int)=w.length - 1:=by
  have e2:(-1:Int)=((w.length:Int) - 1)+w.length*(-1):=by omega
  rw[e2,kb,Yu (by omega) (by omega)]
 rw[e]at this
 rw[ZL, show w.length - 1=((w.length:Int) - 1).toNat by omega]
 exact this
theorem nq {w:List Nat} (h:w≠[]):w.head? =some (rd w 0):=by
 have:=eU h 0
 rw[Qax]
 simpa using this
theorem AA (w:List Nat): ∃k,jT w k:=by
 by_cases h:w=[]
 ·exact ⟨0, .inl ⟨h,rfl⟩⟩
 ·obtain ⟨k,_,_,t⟩:=ou h
  exact ⟨k,t⟩
theorem bK.turn {w:List Nat} {s:Nat} (h:bK w s):jT w s:=by
 obtain ⟨k,t⟩:=AA w
 rw[jl h t];exact t
theorem bK.least {w:List Nat} {s j:Nat} (h:bK w s) (j1:1<=j) (j2:j<s) (hp:vY w j):False:=by
 rcases h.turn with ⟨_,e⟩ | ⟨h1,h2,h3,h4⟩
 ·omega
 ·have hn:w≠[]:=fun z=>by rw[z]at h2;simp at h2;omega
  exact h4 j j1 j2 ((gm hn (by omega)).mpr hp)
theorem SW.VJ {y w:List Nat} (hy:Yd y) (h:SW y w):ni w:=Ck fun k a b ha hb e=>by
 have Hg:b∈y:=h.bH b (Ya hb)
 have:=h.El k a b ha hb
 rw[e,aF (hy.lt b Hg)]at this
 exact this rfl
theorem SW.core {y w:List Nat} (hy:Yd y) (h:SW y w):My.core (My.red w)=w:=by
 rw[Ci (h.VJ hy)]
 by_cases z:w.length<2
 ·exact hU z
 ·obtain ⟨a,m,e,hw⟩:=Cm (l:=w) (by omega)
  have h0:=nq h.ne
  have h1:=sL h.ne
  have hr:=h.red 0
  rw[show (0:Int) - 1= -1 by omega]at hr
  rw[hw]at h0 h1 hr ⊢
  have e0:a=My.rd (a::(m++[e])) 0:=Yg h0
  have e1:e=My.rd (a::(m++[e])) (-1):=by
   have:(a::(m++[e])).getLast? =some e:=by rw[<-List.cons_append,List.getLast?_append];rfl
   exact Yg (this.symm.trans h1)
  exact lR (by rw[<-e0, <-e1]at hr;exact hr)
theorem sM {w:List Nat} {k:Nat} (hk:k<=w.length) (i:Nat):Fw (dm w k) i=Fw w (i+k):=by
 by_cases z:w=[]
 ·subst z
  unfold Fw dm
  simp
 ·have hp:0<w.length:=S3.mpr z
  have e:Fw (dm w k) i=(dm w k)[i%w.length]?:= by unfold Fw;rw[cH]
  rw[e,nj hk (ZO _ hp),Co]
theorem yU {w:List Nat} {k s:Nat} (hk:k<=w.length) (hn:w≠[]):vY (dm w k) s↔vY w s:=by
 constructor
 ·intro h i
  have h1:=h (i+(w.length - k))
  rw[sM hk,sM hk]at h1
  have e1:i+(w.length - k)+s+k=i+s+w.length:=by omega
  have e2:i+(w.length - k)+k=i+w.length:=by omega
  rw[e1,e2,vY.whole w,vY.whole w]at h1
  exact h1
 ·intro h i
  rw[sM hk,sM hk,show i+s+k=i+k+s by omega]
  exact h _
theorem qU {w:List Nat} (hn:w≠[]) {s:Nat} (h:bK w s):jT w s:=by
 obtain ⟨k,r,_,g⟩:=ou hn
 rw[jl h g]
 exact g
theorem Ct {w:List Nat} {k s:Nat} (hk:k<=w.length) (hn:w≠[]) (h:jT (dm w k) s):jT w s:=by
 have uv:dm w k≠[]:=fun z=>hn (Y0.mp (by have:=cH w k;rw[z]at this;exact this.symm))
 rcases h with ⟨z,_⟩ | ⟨h1,h2,h3,h4⟩
 ·exact absurd z uv
 ·rw[cH]at h2
  refine .inr ⟨h1,h2,(gm hn h2).mpr ((yU hk hn).mp ((gm uv (by rw[cH];exact h2)).mp h3)),fun j j1 j2 j3=>h4 j j1 j2 ?_⟩
  exact (gm uv (by rw[cH];omega)).mpr ((yU hk hn).mpr ((gm hn (by omega)).mp j3))
theorem AB {y w:List Nat} {s t:Nat} (hy:Yd y) (h:SW y w) (hr:bK (dU w) s) (hw:bK w t):s=t/\(dU w).length=w.length:=by
 have e:dU w=fK w:=by unfold dU;rw[h.core hy]
 obtain ⟨k,ek⟩:=qP w
 have w_: ∃k,k<=w.length/\fK w=dm w k:=by
  by_cases z:k<=w.length
  ·exact ⟨k,z,ek⟩
  ·refine ⟨w.length,SY _,?_⟩
   rw[ek]
   unfold dm
   rw[Zd (by omega),Yn (by omega),List.drop_length,Za]
 obtain ⟨k,hk,ek⟩:=w_
 rw[e,ek]at hr ⊢
 have uv:dm w k≠[]:=fun z=>h.ne (Y0.mp (by have:=cH w k;rw[z]at this;exact this.symm))
 refine ⟨?_,cH w k⟩
 exact (jl hw (Ct hk h.ne (qU uv hr))).symm
theorem yV {w:List Nat} (hn:w≠[]): ∃s,bK w s:=by
 obtain ⟨k,r,_,g⟩:=ou hn
 rcases g with ⟨z,_⟩ | ⟨h1,h2,h3,h4⟩
 ·exact absurd z hn
 ·exact ⟨k, .inr ⟨h1,h2,qR hn h1 h2 h3 h4,fun j j1 j2 j3=>h4 j j1 j2 (sF j1 (by omega) j3)⟩⟩
theorem Cu {w:List Nat} {s t:Nat} (hn:w≠[]) (h:bK w s) (g:bK w t):s=t:=jl h (qU hn g)
theorem sN {a b:List Nat} {e:Nat} (hn:(a++b).Nodup) (he:e∈a++b):(b++a).idxOf e=if (a++b).idxOf e<a.length then (a++b).idxOf e+b.length else (a++b).idxOf e - a.length:=by
 rw[YZ]at hn
 obtain ⟨na,nb,VL⟩:=hn
 by_cases z:e∈a
 ·have zb:e∉b:=fun q=>VL e z e q rfl
  rw[Qad,Qad,if_pos z,if_neg zb,if_pos (Vh z)]
 ·have zb:e∈b:=(Yi.mp he).resolve_left z
  rw[Qad,Qad,if_pos zb,if_neg z,if_neg (by omega)]
  omega
structure Jx (y:List Nat) (ws:List (List Nat)):Prop where
 sw: ∀w∈ws,SW y w/\w.length<=12
 sr:ws.length<=4
 all:(places ws).length<=24
theorem getD_in {ws:List (List Nat)} {c:Nat} (h:c<ws.length):ws.getD c []∈ws:=by
 rw[Xv,IM h];exact YA h
def iY (_:PySem.W.Frag):Sp:=fun vs H Q _=> ∃(w:List Nat) (i:Nat),vs=[.str (S w), .int i]/\(∀c∈w,Lt c)/\w.length<=1000/\i<w.length/\ ∀q H',H q=none->H' q=some (.tup [.str (S [ar (rd w ((i:Int) - 1))]), .str (S [rd w i])])->aq H H'->Q (.ref q) H'
theorem mV {K:PySem.W.Frag} {vs:List V} {H:Hp} {Q:VK} {E:XK} (h:iY K vs H Q E):vs.length=2:=by obtain ⟨_,_,rfl,_⟩:=h;rfl
def qV (_:PySem.W.Frag):Sp:=fun vs H Q _=> ∃(b:Addr) (y:List Nat) (top:Nat),vs=[.ref b, .str (S y), .int top]/\cu H b/\Yd y/\2<=y.length/\y.length<=8/\1<=top/\top<=100/\ ∀(w:List Nat) H',SW y w->w.length<=top->cu H' b->aW b H H'->Q (.str (S w)) H'
theorem xv {K:PySem.W.Frag} {vs:List V} {H:Hp} {Q:VK} {E:XK} (h:qV K vs H Q E):vs.length=3:=by obtain ⟨_,_,_,rfl,_⟩:=h;rfl
def vd (_:PySem.W.Frag):Sp:=fun vs H Q _=> ∃(b:Addr) (y w:List Nat) (top:Nat),vs=[.ref b, .str (S y), .str (S w), .int top]/\cu H b/\Yd y/\2<=y.length/\y.length<=8/\1<=top/\top<=100/\SW y w/\w.length<=top/\ ∀(u:List Nat) H',SW y u->u.length<=top->cu H' b->aW b H H'->Q (.str (S u)) H'
theorem AD {K:PySem.W.Frag} {vs:List V} {H:Hp} {Q:VK} {E:XK} (h:vd K vs H Q E):vs.length=4:=by obtain ⟨_,_,_,_,rfl,_⟩:=h;rfl
theorem sO {ws:List (List Nat)} {m:Nat} (h: ∀w∈ws,w.length<=m): ∀n:Nat,n<=ws.length->(vc ws n).length<=n*m
 | 0,_=>Xy _
 | n+1,hn=>by
  unfold vc
  have:=sO h n (by omega)
  have h2:=h _ (getD_in (ws:=ws) (c:=n) (by omega))
  rw[KW,Pd,Qac,ZS]
  omega
theorem Cv {α:Type} (w:List α):cut w none (some (-1))=w.take (w.length - 1):=by
 unfold cut
 rw[HT.ke,Jt]
 simp
structure Wd (y w:List Nat):Prop where
 El:Az w
 bH: ∀c∈w,c∈y
theorem Wd.more {y w:List Nat} {c:Nat} (h:Wd y w) (hc:c∈y) (hn:w≠[]->c≠ar (rd w (-1))):Wd y (w++[c]):=
 ⟨h.El.snoc fun a ha=>by
  have dG:w≠[]:=fun z=>by rw[z]at ha;simp at ha
  rw[sL dG]at ha
  rw[<-Yg ha]
  exact hn dG,fun a ha=>by
  rcases Yi.mp ha with g | g
  ·exact h.bH a g
  ·rw[Vk.mp g];exact hc⟩
theorem Wd.sw {y w:List Nat} (h:Wd y w) (dG:w≠[]) (he:rd w 0≠ar (rd w (-1))):SW y w:=
 SW.of dG h.bH h.El fun a b ha hb=>by
  rw[nq dG]at ha
  rw[sL dG]at hb
  rw[<-Yg ha, <-Yg hb]
  exact he
theorem Wd.one {y w:List Nat} (hy:Yd y) (h:Wd y w) (h1:w.length=1):SW y w:=by
 have dG:w≠[]:=fun z=>by rw[z]at h1;simp at h1
 refine h.sw dG ?_
 have e:rd w 0=rd w (-1):=by
  have:=eV w (-1)
  rw[h1]at this
  exact this
 rw[<-e]
 exact fun q=>fE (hy.lt _ (h.bH _ (gx dG 0))) q.symm
theorem jo {y w u:List Nat} (hw:SW y w) (hu:SW y u) (lw:w.length<=12) (lu:u.length<=12):Jx y [w,u]:=by
 refine ⟨fun x hx=>?_,by show 2<=4;decide,?_⟩
 ·rcases Vi.mp hx with g | g
  ·rw[g];exact ⟨hw,lw⟩
  ·rw[Vk.mp g];exact ⟨hu,lu⟩
 ·have:=sO (ws:=[w,u]) (m:=12) (fun x hx=>by
   rcases Vi.mp hx with g | g
   ·rw[g];exact lw
   ·rw[Vk.mp g];exact lu) 2 (SY _)
  exact this
noncomputable def ve (y:List Nat) (a b:Nat):Int:=((y.idxOf b:Int) - (y.idxOf a:Int))%(y.length:Int)
noncomputable def eW (y:List Nat) (f:Int->Nat) (k:Int):Int:=ve y (ar (f (k - 1))) (f k)
structure gI (y:List Nat) (f:Int->Nat):Prop where
 bH: ∀k,f k∈y
 red: ∀k,f k≠ar (f (k - 1))
structure Run (f g:Int->Nat) (a b:Nat):Prop where
 lU: ∀k:Int, -(b:Int)<=k->k<=a->f k=g k
 hi:f (a+1)≠g (a+1)
 lo:f (-(b:Int) - 1)≠g (-(b:Int) - 1)
noncomputable def jw (f:Int->Nat):Int->Nat:=fun k=>ar (f (-k))
noncomputable def dA (f:Int->Nat):Int->Nat:=fun k=>f (k - 1)
noncomputable def gn (y:List Nat) (f g:Int->Nat) (a:Nat):Bool:=decide (eW y f (a+1)<eW y g (a+1))
noncomputable def gy (y:List Nat) (f g:Int->Nat) (b:Nat):Bool:=decide (eW y f (-(b:Int))<eW y g (-(b:Int)))
noncomputable def ud (x a b:Nat):Bool:=decide (b<a\/(a=b/\aD x=false))
noncomputable def xw (y:List Nat) (f g:Int->Nat) (a b:Nat):Bool:=if ud (f 0) a b=true then gy y f g b else gn y f g a
theorem Run.one {f g:Int->Nat} {a b a' b':Nat} (h:Run f g a b) (h':Run f g a' b'):a=a'/\b=b':=by
 constructor
 ·by_cases z:a<a'
  ·exact absurd (h'.lU (a+1) (by omega) (by omega)) h.hi
  ·by_cases z2:a'<a
   ·exact absurd (h.lU (a'+1) (by omega) (by omega)) h'.hi
   ·omega
 ·by_cases z:b<b'
  ·exact absurd (h'.lU (-(b:Int) - 1) (by omega) (by omega)) h.lo
  ·by_cases z2:b'<b
   ·exact absurd (h.lU (-(b':Int) - 1) (by omega) (by omega)) h'.lo
   ·omega
theorem Run.bk {f g:Int->Nat} {a b:Nat} (h:Run f g a (b+1)):Run (dA f) (dA g) (a+1) b:=
 ⟨fun k h1 h2=>h.lU (k - 1) (by omega) (by omega),fun z=>h.hi (by
  unfold dA at z
  rwa [show ((a+1:Nat):Int)+1 - 1=a+1 by omega]at z),fun z=>h.lo (by
  unfold dA at z
  rwa [show -(b:Int) - 1 - 1= -((b+1:Nat):Int) - 1 by omega]at z)⟩
theorem Run.fd {f g:Int->Nat} {a b:Nat} (h:Run (dA f) (dA g) (a+1) b):Run f g a (b+1):=
 ⟨fun k h1 h2=>by
  have:=h.lU (k+1) (by omega) (by omega)
  unfold dA at this
  rwa [show k+1 - 1=k by omega]at this,fun z=>h.hi (by
  unfold dA
  rwa [show ((a+1:Nat):Int)+1 - 1=a+1 by omega]),fun z=>h.lo (by
  unfold dA
  rwa [show -(b:Int) - 1 - 1= -((b+1:Nat):Int) - 1 by omega])⟩
theorem ny (y:List Nat) (f:Int->Nat) (k:Int):eW y (dA f) k=eW y f (k - 1):=rfl
theorem kK (y:List Nat) (f g:Int->Nat) (a:Nat):gn y (dA f) (dA g) (a+1)=gn y f g a:=by
 unfold gn
 rw[ny,ny,show ((a+1:Nat):Int)+1 - 1=a+1 by omega]
theorem kL (y:List Nat) (f g:Int->Nat) (b:Nat):gy y (dA f) (dA g) b=gy y f g (b+1):=by
 unfold gy
 rw[ny,ny,show -(b:Int) - 1= -((b+1:Nat):Int) by omega]
theorem Cw {x z a b:Nat} (h:ud x a (b+1)=true):ud z (a+1) b=true:=by
 unfold ud at h ⊢
 have:=of_decide_eq_true h
 exact decide_eq_true (by omega)
theorem eX {y:List Nat} {a b:Nat} (ha:a∈y) (hb:b∈y) (h:a≠b):0<ve y a b/\ve y a b<y.length/\ve y b a=y.length - ve y a b:=by
 have ia:=Vh ha
 have ib:=Vh hb
 have n:=bW ha hb h
 unfold ve
 rw[iV ia ib,iV ib ia]
 generalize y.idxOf a=i at*
 generalize y.idxOf b=j at*
 split<;>split<;>omega
theorem kM {y:List Nat} {a b c:Nat} (ha:a∈y) (hb:b∈y) (hc:c∈y) (h:ve y a b=ve y a c):b=c:=by
 have ia:=Vh ha
 have ib:=Vh hb
 have ic:=Vh hc
 refine Classical.byContradiction fun z=>bW hb hc z ?_
 unfold ve at h
 rw[iV ia ib,iV ia ic]at h
 split at h<;>split at h<;>omega
theorem gI.rv {y:List Nat} {f:Int->Nat} (hy:Yd y) (h:gI y f):gI y (jw f):=⟨fun k=>hy.cl _ (h.bH _),fun k z=>by
 unfold jw at z
 have e:=aF (hy.lt _ (h.bH (-(k - 1))))
 rw[e]at z
 have:=h.red (-(k - 1))
 rw[show -(k - 1) - 1= -k by omega]at this
 exact this z.symm⟩
theorem mK {y:List Nat} {f:Int->Nat} (hy:Yd y) (h:gI y f):jw (jw f)=f:=by
 funext k
 unfold jw
 rw[aF (hy.lt _ (h.bH _)),Int.neg_neg]
theorem iZ {y:List Nat} {f:Int->Nat} (hy:Yd y) (h:gI y f) (k:Int):eW y (jw f) (k+1)=y.length - eW y f (-k):=by
 unfold eW jw
 rw[show k+1 - 1=k by omega,aF (hy.lt _ (h.bH _)),show -(k+1)= -k - 1 by omega]
 exact (eX (hy.cl _ (h.bH _)) (h.bH _) (Ne.symm (h.red _))).2.2
theorem Run.rv {y:List Nat} {f g:Int->Nat} {a b:Nat} (hy:Yd y) (hf:gI y f) (hg:gI y g) (h:Run f g a b):Run (jw f) (jw g) b a:=
 ⟨fun k h1 h2=>by unfold jw;rw[h.lU _ (by omega) (by omega)],fun z=>h.lo (by
  unfold jw at z
  have:=dI (hy.lt _ (hf.bH _)) (hy.lt _ (hg.bH _)) z
  rwa [show -((b:Int)+1)= -(b:Int) - 1 by omega]at this),fun z=>h.hi (by
  unfold jw at z
  have:=dI (hy.lt _ (hf.bH _)) (hy.lt _ (hg.bH _)) z
  rwa [show -(-(a:Int) - 1)=a+1 by omega]at this)⟩
theorem fP: ∀c∈aL++jQ,aD (ar c)=!aD c:=by decide+kernel
theorem Jy {y:List Nat} {f g:Int->Nat} {a b:Nat} (hy:Yd y) (hf:gI y f) (hg:gI y g) (h0:f 0=g 0):xw y (jw g) (jw f) b a=xw y f g a b:=by
 have e1:gy y (jw g) (jw f) a=gn y f g a:=by
  unfold gy gn
  have h1:=iZ hy hf (-(a:Int) - 1)
  have h2:=iZ hy hg (-(a:Int) - 1)
  rw[show -(a:Int) - 1+1= -a by omega,show -(-(a:Int) - 1)=a+1 by omega]at h1 h2
  rw[h1,h2]
  exact decide_eq_decide.mpr (by omega)
 have e2:gn y (jw g) (jw f) b=gy y f g b:=by
  unfold gy gn
  rw[iZ hy hf,iZ hy hg]
  exact decide_eq_decide.mpr (by omega)
 unfold xw
 rw[e1,e2]
 have e3:ud (jw g 0) b a=!ud (f 0) a b:=by
  unfold ud jw
  rw[show (-0:Int)=0 from rfl, <-h0,fP _ (hy.lt _ (hf.bH 0)).mem]
  rw[<-decide_not]
  refine decide_eq_decide.mpr ?_
  cases aD (f 0)
  ·simp;omega
  ·simp;omega
 rw[e3]
 cases ud (f 0) a b<;>rfl
def uB (y:List Nat) (f g:Int->Nat):Prop:= ∃a b,Run f g a b/\ud (f 0) a b=true/\gn y f g a≠gy y f g b
def gz (y:List Nat) (f g:Int->Nat):Prop:= ∃a,Run f g a 0/\gn y f g a≠gy y f g 0
open Classical in
noncomputable def one (p:Prop):Int:=if p then 1 else 0
theorem fk {p:Prop} (h:p):one p=1:=by unfold one;rw[if_pos h]
theorem a_ {p:Prop} (h: ¬p):one p=0:=by unfold one;rw[if_neg h]
theorem bo {p q:Prop} (h:p↔q):one p=one q:=by rw[propext h]
theorem Run.zero {f g:Int->Nat} {a b:Nat} (h:Run f g a b):f 0=g 0:=h.lU 0 (by omega) (by omega)
theorem Cy {y:List Nat} {f g:Int->Nat} {e0 e1:Bool} {m:Prop}
  (r0:f 0=g 0-> ∃a b,Run f g a b) (r1:f (-1)=g (-1)-> ∃a b,Run (dA f) (dA g) a b)
  (h0: ∀a b,Run f g a b->e0=xw y f g a b) (h1: ∀a b,Run (dA f) (dA g) a b->e1=xw y (dA f) (dA g) a b)
  (ma:f 0=g 0->f (-1)≠g (-1)->(m↔e0≠gy y f g 0)) (mb:f (-1)=g (-1)->f 0≠g 0->(m↔e1≠gn y (dA f) (dA g) 0)) (mc:f (-1)=g (-1)->f 0=g 0->(m↔e1≠e0))
  (t:f 0=g 0\/f (-1)=g (-1)):one m=one (gz y f g)+one (uB y (dA f) (dA g)) - one (uB y f g):=by
 have hb: ∀{a b},Run (dA f) (dA g) a b->f (-1)=g (-1):=fun h=>h.zero
 by_cases z0:f 0=g 0
 ·obtain ⟨a,b,r⟩:=r0 z0
  have e:=h0 a b r
  unfold xw at e
  have hu:uB y f g↔(ud (f 0) a b=true/\gn y f g a≠gy y f g b):=⟨fun ⟨a',b',r',x⟩=>by obtain ⟨rfl,rfl⟩:=r.one r';exact x,fun x=>⟨a,b,r,x⟩⟩
  by_cases z1:f (-1)=g (-1)
  ·cases b with
   | zero=>exact absurd z1 r.lo
   | succ b=>
    have r2:=r.bk
    have e2:=h1 _ _ r2
    unfold xw at e2
    have Jz:uB y (dA f) (dA g)↔(ud (dA f 0) (a+1) b=true/\gn y f g a≠gy y f g (b+1)):=⟨fun ⟨a',b',r',x⟩=>by
     obtain ⟨rfl,rfl⟩:=r2.one r'
     rw[kK,kL]at x;exact x,fun x=>⟨_,_,r2,by rw[kK,kL];exact x⟩⟩
    rw[kK,kL]at e2
    have N4: ¬gz y f g:=fun ⟨a',r',_⟩=>absurd (r.one r').2 (ZY b)
    rw[a_ N4,bo hu,bo Jz,bo (mc z1 z0),e,e2]
    have mono:= @Cw (f 0) (dA f 0) a b
    generalize ud (f 0) a (b+1)=B0 at*
    generalize ud (dA f 0) (a+1) b=B1 at*
    generalize gn y f g a=A at*
    generalize gy y f g (b+1)=C at*
    revert mono
    cases B0<;>cases B1<;>cases A<;>cases C<;>simp[one]
  ·have b0:b=0:=by
    cases b with
    | zero=>rfl
    | succ b=>exact absurd (r.lU (-1) (by omega) (by omega)) z1
   subst b0
   have Jz: ¬uB y (dA f) (dA g):=fun ⟨_,_,r',_⟩=>z1 (hb r')
   have N4:gz y f g↔gn y f g a≠gy y f g 0:=⟨fun ⟨a',r',x⟩=>by obtain ⟨rfl,_⟩:=r.one r';exact x,fun x=>⟨a,r,x⟩⟩
   rw[a_ Jz,bo N4,bo hu,bo (ma z0 z1),e]
   generalize ud (f 0) a 0=B0 at*
   generalize gn y f g a=A at*
   generalize gy y f g 0=C at*
   cases B0<;>cases A<;>cases C<;>simp[one]
 ·have z1:=t.resolve_left z0
  obtain ⟨a,b,r⟩:=r1 z1
  have a0:a=0:=by
   cases a with
   | zero=>rfl
   | succ a=>exact absurd (r.fd.zero) z0
  subst a0
  have e:=h1 _ _ r
  unfold xw at e
  have VM: ¬uB y f g:=fun ⟨_,_,r',_⟩=>z0 r'.zero
  have N4: ¬gz y f g:=fun ⟨_,r',_⟩=>z0 r'.zero
  have Jz:uB y (dA f) (dA g)↔(ud (dA f 0) 0 b=true/\gn y (dA f) (dA g) 0≠gy y (dA f) (dA g) b):=⟨fun ⟨a',b',r',x⟩=>by
   obtain ⟨rfl,rfl⟩:=r.one r';exact x,fun x=>⟨_,_,r,x⟩⟩
  rw[a_ VM,a_ N4,bo Jz,bo (mb z1 z0),e]
  generalize ud (dA f 0) 0 b=B0 at*
  generalize gn y (dA f) (dA g) 0=A at*
  generalize gy y (dA f) (dA g) b=C at*
  cases B0<;>cases A<;>cases C<;>simp[one]
theorem dH {f g:Int->Nat} {p q:Nat} (hp:0<p) (hq:0<q) (Pf: ∀k,f (k+p)=f k) (Pg: ∀k,g (k+q)=g k) (h0:f 0=g 0) (hn: ∃k,f k≠g k): ∃a b,Run f g a b/\a<p+q/\b<p+q:=by
 obtain ⟨k0,To⟩:=hn
 have up: ∃a:Nat,a<p+q/\(∀j:Nat,j<a->f (j+1)=g (j+1))/\f (a+1)≠g (a+1):=by
  obtain ⟨_,b,c,d⟩:=iX (fun k=>f (k+1)) (fun k=>g (k+1)) (p+q) 0
  by_cases z:pA (fun k=>f (k+1)) (fun k=>g (k+1)) (p+q) 0<p+q
  ·exact ⟨_,z,fun j hj=>c j (Xy _) hj,d (by omega)⟩
  ·refine absurd ?_ To
   have:=fw (f:=fun k=>f (k+1)) (g:=fun k=>g (k+1)) hp hq (fun k=>by rw[show k+(p:Int)+1=k+1+p by omega];exact Pf _) (fun k=>by rw[show k+(q:Int)+1=k+1+q by omega];exact Pg _) (fun n hn=>c n (Xy _) (by omega)) (k0 - 1)
   rwa [show k0 - 1+1=k0 by omega]at this
 have VN: ∀k,f (-(k+p))=f (-k):=fun k=>by have:=Pf (-(k+p));rw[<-this];congr 1;omega
 have VO: ∀k,g (-(k+q))=g (-k):=fun k=>by have:=Pg (-(k+q));rw[<-this];congr 1;omega
 have dn: ∃a:Nat,a<p+q/\(∀j:Nat,j<a->f (-(j:Int) - 1)=g (-(j:Int) - 1))/\f (-(a:Int) - 1)≠g (-(a:Int) - 1):=by
  obtain ⟨_,b,c,d⟩:=iX (fun k=>f (-k - 1)) (fun k=>g (-k - 1)) (p+q) 0
  by_cases z:pA (fun k=>f (-k - 1)) (fun k=>g (-k - 1)) (p+q) 0<p+q
  ·exact ⟨_,z,fun j hj=>c j (Xy _) hj,d (by omega)⟩
  ·refine absurd ?_ To
   have:=fw (f:=fun k=>f (-k - 1)) (g:=fun k=>g (-k - 1)) hp hq (fun k=>by have:=VN (k+1);rw[show -(k+(p:Int)) - 1= -(k+1+p) by omega,this];congr 1;omega) (fun k=>by have:=VO (k+1);rw[show -(k+(q:Int)) - 1= -(k+1+q) by omega,this];congr 1;omega) (fun n hn=>c n (Xy _) (by omega)) (-k0 - 1)
   rwa [show -(-k0 - 1) - 1=k0 by omega]at this
 obtain ⟨a,ha,a1,a2⟩:=up
 obtain ⟨b,hb,b1,b2⟩:=dn
 refine ⟨a,b,⟨fun k h1 h2=>?_,a2,b2⟩,ha,hb⟩
 by_cases z:k=0
 ·rw[z];exact h0
 ·by_cases z2:0<k
  ·obtain ⟨j,rfl⟩: ∃j:Nat,k=j+1:=⟨(k - 1).toNat,by omega⟩
   exact a1 j (by omega)
  ·obtain ⟨j,rfl⟩: ∃j:Nat,k= -(j:Int) - 1:=⟨(-k - 1).toNat,by omega⟩
   exact b1 j (by omega)
theorem Cz {y:List Nat} {p p' x:Nat} (hy:Yd y) (hp:p∈y) (xx:p'∈y) (hx:x∈y) (h1:p≠p') (h2:p≠x) (h3:p'≠x):decide (ve y p x<ve y p' x)=!gr y p p' x:=by
 have ip:=Vh hp
 have VP:=Vh xx
 have ix:=Vh hx
 have n1:=bW hp xx h1
 have n2:=bW hp hx h2
 have n3:=bW xx hx h3
 rw[eE hy.nd hp xx hx h1 h2 h3]
 unfold ve
 rw[iV ip ix,iV VP ix, <-decide_not]
 refine decide_eq_decide.mpr ?_
 unfold iU
 split<;>split<;>omega
theorem sP {y:List Nat} {f g:Int->Nat} (hy:Yd y) (hf:gI y f) (hg:gI y g) (h0:f 0=g 0) (h1:f (-1)≠g (-1)):gy y f g 0=!gr y (ar (f (-1))) (ar (g (-1))) (f 0):=by
 have e:gy y f g 0=decide (ve y (ar (f (-1))) (f 0)<ve y (ar (g (-1))) (g 0)):=rfl
 rw[e, <-h0]
 have r1:=hf.red 0
 have r2:=hg.red 0
 rw[show (0:Int) - 1= -1 by omega]at r1 r2
 exact Cz hy (hy.cl _ (hf.bH _)) (hy.cl _ (hg.bH _)) (hf.bH 0) (fun z=>h1 (dI (hy.lt _ (hf.bH _)) (hy.lt _ (hg.bH _)) z)) (Ne.symm r1) (by rw[h0];exact Ne.symm r2)
theorem sQ {y:List Nat} {f g:Int->Nat} {a:Nat} (h:f a=g a):gn y f g a=gr y (ar (f a)) (f (a+1)) (g (a+1)):=by
 unfold gn eW
 rw[show (a:Int)+1 - 1=a by omega, <-h]
 rfl
theorem yW {y:List Nat} {f g:Int->Nat} {n:Nat} (hy:Yd y) (hf:gI y f) (hg:gI y g) (hd:f (-1)≠g (-1)->pA f g n 0<n/\f (pA f g n 0)≠g (pA f g n 0)):gz y f g↔0<al y f g n:=by
 unfold al
 by_cases z:f 0≠g 0\/f (-1)=g (-1)
 ·rw[if_pos z]
  refine ⟨fun ⟨a,r,_⟩=>?_,fun h=>absurd h (YK _)⟩
  rcases z with z | z
  ·exact absurd r.zero z
  ·exact absurd z r.lo
 ·rw[if_neg z]
  have z0:f 0=g 0:=Classical.byContradiction fun q=>z (.inl q)
  have z1:f (-1)≠g (-1):=fun q=>z (.inr q)
  obtain ⟨d1,d2⟩:=hd z1
  obtain ⟨_,_,d3,_⟩:=iX f g n 0
  generalize pA f g n 0=D at*
  cases D with
  | zero=>exact absurd z0 d2
  | succ a=>
   have r:Run f g a 0:=⟨fun k h1 h2=>by
    obtain ⟨j,rfl⟩: ∃j:Nat,k=j:=⟨k.toNat,by omega⟩
    exact d3 j (Xy _) (by omega),d2,z1⟩
   have e1:((a+1:Nat):Int)=(a:Int)+1:=by omega
   rw[e1,show (a:Int)+1 - 1=a by omega]
   have Pp:=d3 a (Xy _) (Zs a)
   have rf:=hf.red (a+1)
   have rg:=hg.red (a+1)
   rw[show (a:Int)+1 - 1=a by omega]at rf rg
   have VQ:f (a+1)≠g (a+1):=d2
   have eg:=FC hy.nd (hy.cl _ (hf.bH a)) (hf.bH (a+1)) (hg.bH (a+1)) (Ne.symm rf) (by rw[Pp];exact Ne.symm rg) VQ
   rw[eg, <-sQ Pp]
   have eb:=sP hy hf hg z0 z1
   have key:gz y f g↔gn y f g a≠gy y f g 0:=⟨fun ⟨a',r',x⟩=>by obtain ⟨rfl,_⟩:=r.one r';exact x,fun x=>⟨a,r,x⟩⟩
   rw[key,eb]
   generalize gr y (ar (f (-1))) (ar (g (-1))) (f 0)=G
   generalize gn y f g a=A
   cases G<;>cases A<;>simp
noncomputable def mW (a b a' b':Nat):Bool:=decide (iU a a' b) != decide (iU a b' b)
theorem i0 (a b a' b':Nat):mW a b a' b'=mW a b b' a':=by unfold mW;generalize decide (iU a a' b)=p;generalize decide (iU a b' b)=q;cases p<;>cases q<;>rfl
theorem vf (a b:Nat):mW a b a b=false:=by
 unfold mW
 have h1: ¬iU a a b:=by unfold iU;omega
 have h2: ¬iU a b b:=by unfold iU;omega
 rw[decide_eq_false h1,decide_eq_false h2]
 rfl
theorem jq {a b:Nat} (h:a≠b):decide (b<a)=!decide (a<b):=by
 rcases Zv h with q | q
 ·rw[decide_eq_true q,decide_eq_false (Z8 q)];rfl
 ·rw[decide_eq_true q,decide_eq_false (Z8 q)];rfl
theorem Hh {a b c:Nat} (h1:a≠b) (h2:b≠c) (h3:a≠c):decide (iU a b c)=!(decide (a<b) ^^ (decide (b<c) ^^ decide (c<a))):=by
 have e:decide (iU a b c)=((decide (a<b)&&decide (b<c))||((decide (b<c)&&decide (c<a))||(decide (c<a)&&decide (a<b)))):=by
  rw[<-Qb3, <-Qb3, <-Qb3, <-Bool.decide_or, <-Bool.decide_or]
  exact decide_eq_decide.mpr Iff.rfl
 rw[e]
 have k1:decide (a<b)=true->decide (b<c)=true->decide (c<a)=true->False:=fun p q r=>Z8 (ZK (of_decide_eq_true p) (of_decide_eq_true q)) (of_decide_eq_true r)
 have k2:decide (b<a)=true->decide (c<b)=true->decide (a<c)=true->False:=fun p q r=>Z8 (ZK (of_decide_eq_true q) (of_decide_eq_true p)) (of_decide_eq_true r)
 rw[jq h1,jq h2,jq (Ne.symm h3)]at k2
 revert k1 k2
 generalize decide (a<b)=p
 generalize decide (b<c)=q
 generalize decide (c<a)=r
 revert p q r
 decide
theorem CA {a b a' b':Nat} (h1:a≠b) (h3:a≠a') (h4:a≠b') (h5:b≠a') (h6:b≠b'):mW a b a' b'=((decide (a<a') ^^ decide (a'<b)) ^^ (decide (a<b') ^^ decide (b'<b))):=by
 unfold mW
 rw[Hh h3 (Ne.symm h5) h1,Hh h4 (Ne.symm h6) h1]
 generalize decide (a<a')=p
 generalize decide (a'<b)=q
 generalize decide (a<b')=r
 generalize decide (b'<b)=s
 generalize decide (b<a)=t
 revert p q r s t
 decide
theorem kN {a b a' b':Nat} (h1:a≠b) (h2:a'≠b') (h3:a≠a') (h4:a≠b') (h5:b≠a') (h6:b≠b'):mW a b a' b'=mW a' b' a b:=by
 rw[CA h1 h3 h4 h5 h6,CA h2 (Ne.symm h3) (Ne.symm h5) (Ne.symm h4) (Ne.symm h6),jq h3,jq (Ne.symm h6)]
 generalize decide (a<a')=p
 generalize decide (a'<b)=q
 generalize decide (a<b')=r
 generalize decide (b'<b)=s
 revert p q r s
 decide
theorem vg {a b a' b':Nat} (h1:a≠b) (h2:a'≠b') (h3:a≠a') (h4:a≠b') (h5:b≠a') (h6:b≠b'):mW b a a' b'=mW a b a' b':=by
 rw[kN (Ne.symm h1) h2 h5 h6 h3 h4,i0,kN h2 h1 (Ne.symm h3) (Ne.symm h5) (Ne.symm h4) (Ne.symm h6)]
theorem FE {a b c i j k:Nat} (n1:i≠j) (n2:i≠k) (n3:j≠k) (h1:i<j->a<b) (h2:j<i->b<a) (h3:i<k->a<c) (h4:k<i->c<a) (h5:j<k->b<c) (h6:k<j->c<b):iU a b c↔iU i j k:=by
 have e: ∀{i j a b:Nat},i≠j->(i<j->a<b)->(j<i->b<a)->(i<j↔a<b):=fun {i j a b} n f g=>⟨f,fun q=>(Zv n).elim id fun r=>absurd (g r) (Z8 q)⟩
 unfold iU
 rw[e n1 h1 h2,e n3 h5 h6,e (Ne.symm n2) h4 h3]
def Sep (y:List Nat) (ps:List (Nat×Nat)):Prop:= ∀p∈ps, ∀q∈ps,y.idxOf p.1<y.idxOf q.1->p.2<q.2
theorem Sep.iU {y:List Nat} {ps:List (Nat×Nat)} (h:Sep y ps) {a b c:Nat×Nat} (ha:a∈ps) (hb:b∈ps) (hc:c∈ps) (n1:y.idxOf a.1≠y.idxOf b.1) (n2:y.idxOf a.1≠y.idxOf c.1) (n3:y.idxOf b.1≠y.idxOf c.1):My.iU a.2 b.2 c.2↔My.iU (y.idxOf a.1) (y.idxOf b.1) (y.idxOf c.1):=FE n1 n2 n3 (h a ha b hb) (h b hb a ha) (h a ha c hc) (h c hc a ha) (h b hb c hc) (h c hc b hb)
theorem Sep.gr {y:List Nat} {ps:List (Nat×Nat)} (h:Sep y ps) (hn:y.Nodup) {a b c:Nat×Nat} (ha:a∈ps) (hb:b∈ps) (hc:c∈ps) (ya:a.1∈y) (yb:b.1∈y) (yc:c.1∈y) (n1:a.1≠b.1) (n2:a.1≠c.1) (n3:b.1≠c.1):decide (My.iU a.2 b.2 c.2)=My.gr y a.1 b.1 c.1:=by
 rw[eE hn ya yb yc n1 n2 n3]
 exact decide_eq_decide.mpr (h.iU ha hb hc (bW ya yb n1) (bW ya yc n2) (bW yb yc n3))
theorem Sep.same {y:List Nat} {ps:List (Nat×Nat)} (h:Sep y ps) {a b c:Nat×Nat} (ha:a∈ps) (hb:b∈ps) (hc:c∈ps) (e:b.1=c.1) (n:y.idxOf a.1≠y.idxOf c.1):My.iU a.2 b.2 c.2↔b.2<c.2:=by
 have h1:=h a ha b hb
 have h2:=h b hb a ha
 have h3:=h a ha c hc
 have h4:=h c hc a ha
 rw[e]at h1 h2
 unfold My.iU
 omega
theorem Sep.Hi {y:List Nat} {ps:List (Nat×Nat)} (h:Sep y ps) {a b c:Nat×Nat} (ha:a∈ps) (hb:b∈ps) (hc:c∈ps) (e:a.1=b.1) (n:y.idxOf a.1≠y.idxOf c.1):My.iU a.2 b.2 c.2↔a.2<b.2:=by
 have h1:=h b hb c hc
 have h2:=h c hc b hb
 have h3:=h a ha c hc
 have h4:=h c hc a ha
 rw[<-e]at h1 h2
 unfold My.iU
 omega
section
variable {y:List Nat} {f g:Int->Nat} {a b a' b':Nat}
theorem JA (hy:Yd y) (hf:gI y f) (hg:gI y g) (h:Sep y [(ar (f (-1)),a),(f 0,b),(ar (g (-1)),a'),(g 0,b')]) (hb:b≠b') (z0:f 0=g 0) (z1:f (-1)≠g (-1)):mW a b a' b'=true↔decide (b<b')≠gy y f g 0:=by
 have r1:=hf.red 0
 have r2:=hg.red 0
 rw[show (0:Int) - 1= -1 by omega]at r1 r2
 have ya:=hy.cl _ (hf.bH (-1))
 have Pq:=hy.cl _ (hg.bH (-1))
 have n1:ar (f (-1))≠ar (g (-1)):=fun z=>z1 (dI (hy.lt _ (hf.bH _)) (hy.lt _ (hg.bH _)) z)
 have e1:=h.gr hy.nd (a:=(ar (f (-1)),a)) (b:=(ar (g (-1)),a')) (c:=(f 0,b)) (by simp) (by simp) (by simp) ya Pq (hf.bH 0) n1 (Ne.symm r1) (by rw[z0];exact Ne.symm r2)
 have e2:=h.same (a:=(ar (f (-1)),a)) (b:=(g 0,b')) (c:=(f 0,b)) (by simp) (by simp) (by simp) z0.symm (bW ya (hf.bH 0) (Ne.symm r1))
 unfold mW
 rw[sP hy hf hg z0 z1]
 simp only at e1 e2
 rw[e1]
 generalize gr y (ar (f (-1))) (ar (g (-1))) (f 0)=G
 by_cases q:b<b'
 ·rw[decide_eq_true q,decide_eq_false (by rw[e2];omega)]
  cases G<;>simp
 ·rw[decide_eq_false q,decide_eq_true (by rw[e2];omega)]
  cases G<;>simp
theorem JB (hy:Yd y) (hf:gI y f) (hg:gI y g) (h:Sep y [(ar (f (-1)),a),(f 0,b),(ar (g (-1)),a'),(g 0,b')]) (ha:a≠a') (z1:f (-1)=g (-1)) (z0:f 0≠g 0):mW a b a' b'=true↔decide (a'<a)≠gn y (dA f) (dA g) 0:=by
 have r1:=hf.red 0
 have r2:=hg.red 0
 rw[show (0:Int) - 1= -1 by omega]at r1 r2
 have ya:=hy.cl _ (hf.bH (-1))
 have Pq:=hy.cl _ (hg.bH (-1))
 have e1:=h.Hi (a:=(ar (f (-1)),a)) (b:=(ar (g (-1)),a')) (c:=(f 0,b)) (by simp) (by simp) (by simp) (by show ar _=ar _;rw[z1]) (bW ya (hf.bH 0) (Ne.symm r1))
 have e2:=h.gr hy.nd (a:=(ar (f (-1)),a)) (b:=(g 0,b')) (c:=(f 0,b)) (by simp) (by simp) (by simp) ya (hg.bH 0) (hf.bH 0) (by show ar _≠_;rw[z1];exact Ne.symm r2) (Ne.symm r1) (Ne.symm z0)
 have e3:gn y (dA f) (dA g) 0=gr y (ar (f (-1))) (f 0) (g 0):=sQ (f:=dA f) (g:=dA g) (a:=0) z1
 have e4:=Cr hy.nd ya (hf.bH 0) (hg.bH 0) (Ne.symm r1) (by rw[z1];exact Ne.symm r2) z0
 unfold mW
 simp only at e1 e2
 rw[e3,e2,e4]
 generalize gr y (ar (f (-1))) (f 0) (g 0)=G
 by_cases q:a'<a
 ·rw[decide_eq_true q,decide_eq_false (by rw[e1];omega)]
  cases G<;>simp
 ·rw[decide_eq_false q,decide_eq_true (by rw[e1];omega)]
  cases G<;>simp
theorem sR (hy:Yd y) (hf:gI y f) (hg:gI y g) (h:Sep y [(ar (f (-1)),a),(f 0,b),(ar (g (-1)),a'),(g 0,b')]) (ha:a≠a') (hb:b≠b') (z1:f (-1)=g (-1)) (z0:f 0=g 0):mW a b a' b'=true↔decide (a'<a)≠decide (b<b'):=by
 have r1:=hf.red 0
 rw[show (0:Int) - 1= -1 by omega]at r1
 have ya:=hy.cl _ (hf.bH (-1))
 have e1:=h.Hi (a:=(ar (f (-1)),a)) (b:=(ar (g (-1)),a')) (c:=(f 0,b)) (by simp) (by simp) (by simp) (by show ar _=ar _;rw[z1]) (bW ya (hf.bH 0) (Ne.symm r1))
 have e2:=h.same (a:=(ar (f (-1)),a)) (b:=(g 0,b')) (c:=(f 0,b)) (by simp) (by simp) (by simp) z0.symm (bW ya (hf.bH 0) (Ne.symm r1))
 unfold mW
 simp only at e1 e2
 rw[decide_eq_decide.mpr e1,decide_eq_decide.mpr e2]
 by_cases q:a'<a<;>by_cases q2:b<b'
 ·rw[decide_eq_true q,decide_eq_true q2,decide_eq_false (show ¬a<a' by omega),decide_eq_false (show ¬b'<b by omega)];simp
 ·rw[decide_eq_true q,decide_eq_false q2,decide_eq_false (show ¬a<a' by omega),decide_eq_true (show b'<b by omega)];simp
 ·rw[decide_eq_false q,decide_eq_true q2,decide_eq_true (show a<a' by omega),decide_eq_false (show ¬b'<b by omega)];simp
 ·rw[decide_eq_false q,decide_eq_false q2,decide_eq_true (show a<a' by omega),decide_eq_true (show b'<b by omega)];simp
theorem JC (hy:Yd y) (hf:gI y f) (hg:gI y g) (h:Sep y [(ar (f (-1)),a),(f 0,b),(ar (g (-1)),a'),(g 0,b')]) (z0:f 0≠g 0) (z1:f (-1)≠g (-1)) (z2:ar (f (-1))≠g 0) (z3:ar (g (-1))≠f 0):mW a b a' b'=ac y (ar (f (-1))) (f 0) (ar (g (-1))) (g 0):=by
 have r1:=hf.red 0
 have r2:=hg.red 0
 rw[show (0:Int) - 1= -1 by omega]at r1 r2
 have ya:=hy.cl _ (hf.bH (-1))
 have Pq:=hy.cl _ (hg.bH (-1))
 have n1:ar (f (-1))≠ar (g (-1)):=fun z=>z1 (dI (hy.lt _ (hf.bH _)) (hy.lt _ (hg.bH _)) z)
 have e1:=h.gr hy.nd (a:=(ar (f (-1)),a)) (b:=(ar (g (-1)),a')) (c:=(f 0,b)) (by simp) (by simp) (by simp) ya Pq (hf.bH 0) n1 (Ne.symm r1) z3
 have e2:=h.gr hy.nd (a:=(ar (f (-1)),a)) (b:=(g 0,b')) (c:=(f 0,b)) (by simp) (by simp) (by simp) ya (hg.bH 0) (hf.bH 0) z2 (Ne.symm r1) (Ne.symm z0)
 unfold mW ac
 simp only at e1 e2
 rw[e1,e2,if_neg (fun q=>q.elim (fun q=>n1 q.symm) fun q=>q.elim z3 fun q=>q.elim (fun q=>z2 q.symm) fun q=>z0 q.symm)]
end
noncomputable def sm:Nat->(Int->Int)->Int
 | 0,_=>0
 | n+1,h=>sm n h+h n
theorem aI {h g:Int->Int}: ∀{n:Nat},(∀i:Nat,i<n->h i=g i)->sm n h=sm n g
 | 0,_=>rfl
 | n+1,e=>by
  show sm n h+h n=sm n g+g n
  rw[aI fun i hi=>e i (by omega),e n (by omega)]
theorem oz (h g:Int->Int): ∀n:Nat,sm n (fun i=>h i+g i)=sm n h+sm n g
 | 0=>rfl
 | n+1=>by
  show sm n _+(h n+g n)=(sm n h+h n)+(sm n g+g n)
  rw[oz h g n];omega
theorem xA (h g:Int->Int): ∀n:Nat,sm n (fun i=>h i - g i)=sm n h - sm n g
 | 0=>rfl
 | n+1=>by
  show sm n _+(h n - g n)=(sm n h+h n) - (sm n g+g n)
  rw[xA h g n];omega
theorem fQ: ∀n:Nat,sm n (fun _=>0)=0
 | 0=>rfl
 | n+1=>by show sm n _+0=0;rw[fQ n];rfl
theorem yX (h:Int->Int): ∀n:Nat,sm n (fun i=>h (i - 1))+h ((n:Int) - 1)=sm n h+h (-1)
 | 0=>rfl
 | n+1=>by
  have:=yX h n
  show sm n _+h ((n:Int) - 1)+h (((n+1:Nat):Int) - 1)=(sm n h+h n)+h (-1)
  rw[show ((n+1:Nat):Int) - 1=n by omega]
  omega
theorem oA {h:Int->Int} {n:Nat} (P: ∀k,h (k+n)=h k):sm n (fun i=>h (i - 1))=sm n h:=by
 have h1:=yX h n
 have h2:=P (-1)
 rw[show (-1:Int)+n=(n:Int) - 1 by omega]at h2
 omega
theorem yY (h:Int->Int): ∀n:Nat,sm n (fun i=>h ((n:Int) - 1 - i))=sm n h
 | 0=>rfl
 | n+1=>by
  have e: ∀(m:Nat) (g:Int->Int),sm (m+1) g=g 0+sm m (fun i=>g (i+1)):=fun m=>by
   induction m with
   | zero=>intro g;show (0:Int)+g 0=g 0+0;omega
   | succ m ih=>intro g;show sm (m+1) g+g ((m+1:Nat):Int)=g 0+(sm m (fun i=>g (i+1))+g ((m:Int)+1));rw[ih];rw[show ((m+1:Nat):Int)=(m:Int)+1 by omega];omega
  rw[e]
  have:=yY h n
  show h (((n+1:Nat):Int) - 1 - 0)+sm n (fun i=>h (((n+1:Nat):Int) - 1 - (i+1)))=sm n h+h n
  rw[show ((n+1:Nat):Int) - 1 - 0=n by omega, <-this,Qbw]
  congr 1
  exact aI fun i _=>by congr 1;omega
theorem nz {h:Int->Int} {n:Nat} (P: ∀k,h (k+n)=h k):sm n (fun i=>h (i+1))=sm n h:=by
 have:=oA (h:=fun i=>h (i+1)) (n:=n) (fun k=>by show h (k+n+1)=h (k+1);rw[<-P (k+1)];congr 1;omega)
 rw[<-this]
 exact aI fun i _=>by show h ((i:Int) - 1+1)=h i;congr 1;omega
theorem oB {h:Int->Int} {n:Nat} (P: ∀k,h (k+n)=h k):sm n (fun i=>h (-i))=sm n h:=by
 rw[<-yY (fun i=>h (-i)) n, <-nz P]
 exact aI fun i _=>by
  show h (-((n:Int) - 1 - i))=h (i+1)
  rw[<-P (-((n:Int) - 1 - i))];congr 1;omega
theorem JD {h:Int->Int} {n:Nat} (P: ∀k,h (k+n)=h k):sm n (fun i=>h (1 - i))=sm n h:=by
 rw[<-nz P, <-oB (h:=fun i=>h (i+1)) (fun k=>by show h (k+n+1)=h (k+1);rw[<-P (k+1)];congr 1;omega)]
 exact aI fun i _=>by show h (1 - (i:Int))=h (-(i:Int)+1);congr 1;omega
noncomputable def cb (n m:Nat) (h:Int->Int->Int):Int:=sm n fun i=>sm m fun j=>h i j
theorem bp {n m:Nat} {h g:Int->Int->Int} (e: ∀i j:Nat,i<n->j<m->h i j=g i j):cb n m h=cb n m g:=aI fun i hi=>aI fun j hj=>e i j hi hj
theorem cB (n m:Nat) (h g:Int->Int->Int):cb n m (fun i j=>h i j+g i j)=cb n m h+cb n m g:=by
 unfold cb
 rw[<-oz]
 exact aI fun i _=>oz _ _ _
theorem FF (n m:Nat) (h g:Int->Int->Int):cb n m (fun i j=>h i j - g i j)=cb n m h - cb n m g:=by
 unfold cb
 rw[<-xA]
 exact aI fun i _=>xA _ _ _
theorem qW {n m:Nat} {h:Int->Int->Int} (P: ∀i j,h (i+n) j=h i j) (Q: ∀i j,h i (j+m)=h i j):cb n m (fun i j=>h (i - 1) (j - 1))=cb n m h:=by
 unfold cb
 have e: ∀i:Int,sm m (fun j=>h i (j - 1))=sm m (h i):=fun i=>oA (Q i)
 rw[<-oA (h:=fun i=>sm m fun j=>h i j) (n:=n) (fun k=>aI fun j _=>P k j)]
 exact aI fun i _=>e _
structure K2 (y:List Nat) (n:Nat) (F:Int->Int->Nat) (o i:Int->Nat):Prop where
 pos:0<n
 xB: ∀k,gI y (F k)
 bk: ∀k,dA (F k)=F (k - 1)
 N5: ∀k,F (k+n)=F k
 own: ∀k x,F k (x+n)=F k x
 op: ∀k,o (k+n)=o k
 ip: ∀k,i (k+n)=i k
structure Hj (y:List Nat) (F:Int->Int->Nat) (o i:Int->Nat) (G:Int->Int->Nat) (o' i':Int->Nat):Prop where
 sep: ∀s t,Sep y [(ar (F s (-1)),i (s - 1)),(F s 0,o s),(ar (G t (-1)),i' (t - 1)),(G t 0,o' t)]
 on: ∀s t a b,Run (F s) (G t) a b->o s≠o' t/\i s≠i' t/\decide (o s<o' t)=xw y (F s) (G t) a b/\decide (i' t<i s)=xw y (F s) (G t) a b
def CB (F G:Int->Int->Nat) (s t:Int):Prop:=F s 0=G t 0\/F s (-1)=G t (-1)
def par (F G:Int->Int->Nat) (s t:Int):Prop:= ∀k,F s k=G t k
noncomputable def FG (o i o' i':Int->Nat) (s t:Int):Bool:=mW (i (s - 1)) (o s) (i' (t - 1)) (o' t)
theorem CC {y:List Nat} {n m:Nat} {F G:Int->Int->Nat} {o i o' i':Int->Nat} (hF:K2 y n F o i) (hG:K2 y m G o' i') {s t:Int}:par F G (s - 1) (t - 1)↔par F G s t:=by
 unfold par
 rw[<-hF.bk, <-hG.bk]
 unfold dA
 exact ⟨fun h k=>by have:=h (k+1);rwa [show k+1 - 1=k by omega]at this,fun h k=>h _⟩
theorem yZ {y:List Nat} {n m:Nat} {F G:Int->Int->Nat} {o i o' i':Int->Nat} (hy:Yd y) (hF:K2 y n F o i) (hG:K2 y m G o' i') (h:Hj y F o i G o' i'):
  cb n m (fun s t=>one (CB F G s t/\FG o i o' i' s t=true/\ ¬par F G s t))=cb n m fun s t=>one (gz y (F s) (G t)):=by
 have pt: ∀s t:Int,one (CB F G s t/\FG o i o' i' s t=true/\ ¬par F G s t)=one (gz y (F s) (G t))+one (uB y (F (s - 1)) (G (t - 1))) - one (uB y (F s) (G t)):=fun s t=>by
  by_cases hp:par F G s t
  ·have nr: ∀{a b}, ¬Run (F s) (G t) a b:=fun r=>r.hi (hp _)
   have xx:=(CC hF hG).mpr hp
   have VR: ∀{a b}, ¬Run (F (s - 1)) (G (t - 1)) a b:=fun r=>r.hi (xx _)
   rw[a_ (fun z=>z.2.2 hp),a_ (fun ⟨_,r,_⟩=>nr r),a_ (fun ⟨_,_,r,_⟩=>VR r),a_ (fun ⟨_,_,r,_⟩=>nr r)]
   rfl
  ·by_cases ht:CB F G s t
   ·have dG: ∃k,F s k≠G t k:=Classical.byContradiction fun z=>hp fun k=>Classical.byContradiction fun q=>z ⟨k,q⟩
    have JE: ∃k,F (s - 1) k≠G (t - 1) k:=Classical.byContradiction fun z=>hp ((CC hF hG).mp fun k=>Classical.byContradiction fun q=>z ⟨k,q⟩)
    have e1: ∀s,F (s - 1) 0=F s (-1):=fun s=>by rw[<-hF.bk];rfl
    have e2: ∀t,G (t - 1) 0=G t (-1):=fun s=>by rw[<-hG.bk];rfl
    have ei:one (CB F G s t/\FG o i o' i' s t=true/\ ¬par F G s t)=one (FG o i o' i' s t=true):=bo ⟨fun z=>z.2.1,fun z=>⟨ht,z,hp⟩⟩
    rw[ei, <-hF.bk, <-hG.bk]
    refine Cy (e0:=decide (o s<o' t)) (e1:=decide (i' (t - 1)<i (s - 1))) (fun z=>?_) (fun z=>?_) (fun a b r=>(h.on s t a b r).2.2.1) (fun a b r=>?_) (fun z0 z1=>?_) (fun z1 z0=>?_) (fun z1 z0=>?_) ht
    ·obtain ⟨a,b,r,_⟩:=dH hF.pos hG.pos (hF.own s) (hG.own t) z dG
     exact ⟨a,b,r⟩
    ·obtain ⟨a,b,r,_⟩:=dH hF.pos hG.pos (hF.own (s - 1)) (hG.own (t - 1)) (by rw[e1,e2];exact z) JE
     rw[hF.bk,hG.bk]
     exact ⟨a,b,r⟩
    ·rw[hF.bk,hG.bk]at r ⊢
     exact (h.on _ _ a b r).2.2.2
    ·obtain ⟨a,b,r,_⟩:=dH hF.pos hG.pos (hF.own s) (hG.own t) z0 dG
     exact JA hy (hF.xB s) (hG.xB t) (h.sep s t) (h.on s t a b r).1 z0 z1
    ·obtain ⟨a,b,r,_⟩:=dH hF.pos hG.pos (hF.own (s - 1)) (hG.own (t - 1)) (by rw[e1,e2];exact z1) JE
     exact JB hy (hF.xB s) (hG.xB t) (h.sep s t) (h.on _ _ a b r).2.1 z1 z0
    ·obtain ⟨a,b,r,_⟩:=dH hF.pos hG.pos (hF.own s) (hG.own t) z0 dG
     obtain ⟨a2,b2,r2,_⟩:=dH hF.pos hG.pos (hF.own (s - 1)) (hG.own (t - 1)) (by rw[e1,e2];exact z1) JE
     exact sR hy (hF.xB s) (hG.xB t) (h.sep s t) (h.on _ _ a2 b2 r2).2.1 (h.on s t a b r).1 z1 z0
   ·have t0:F s 0≠G t 0:=fun z=>ht (.inl z)
    have t1:F (s - 1) 0≠G (t - 1) 0:=by
     rw[<-hF.bk, <-hG.bk]
     exact fun z=>ht (.inr z)
    rw[a_ (fun z=>ht z.1),a_ (fun ⟨_,r,_⟩=>t0 r.zero),a_ (fun ⟨_,_,r,_⟩=>t1 r.zero),a_ (fun ⟨_,_,r,_⟩=>t0 r.zero)]
    rfl
 have e:cb n m (fun s t=>one (CB F G s t/\FG o i o' i' s t=true/\ ¬par F G s t))=cb n m (fun s t=>(one (gz y (F s) (G t))+one (uB y (F (s - 1)) (G (t - 1)))) - one (uB y (F s) (G t))):=bp fun s t _ _=>pt s t
 rw[e,FF,cB,qW (h:=fun s t=>one (uB y (F s) (G t))) (fun s t=>by rw[hF.N5]) (fun s t=>by rw[hG.N5])]
 omega
theorem bf {y w:List Nat} (h:SW y w) (i:Int):gI y (sq w i):=⟨fun k=>h.rd _,fun k=>by
 unfold sq
 have:=h.red (i+k)
 rwa [show i+k - 1=i+(k - 1) by omega]at this⟩
theorem eF (w:List Nat) (i:Int):jw (sq w i)=bq w i:=by
 funext k
 unfold jw sq bq
 rw[show i+ -k=i - k by omega]
theorem fF {y w:List Nat} (hy:Yd y) (h:SW y w) (i:Int):gI y (bq w i):=by rw[<-eF];exact (bf h i).rv hy
theorem jU (w:List Nat) (i:Int):sq w (i+w.length)=sq w i:=by
 funext k
 unfold sq
 rw[show i+(w.length:Int)+k=i+k+w.length by omega,eV]
theorem i3 (w:List Nat) (i:Int):bq w (i+w.length)=bq w i:=by rw[<-eF, <-eF,jU]
theorem JF (w:List Nat) (i:Int):bq w (i - w.length)=bq w i:=by rw[<-i3 w (i - w.length)];congr 1;omega
theorem CD {y w:List Nat} {po pi:Int->Nat} (h:SW y w) (P: ∀k,po (k+w.length)=po k) (Q: ∀k,pi (k+w.length)=pi k):K2 y w.length (sq w) po pi:=
 ⟨S3.mpr h.ne,bf h,fun k=>by funext x;unfold dA sq;congr 1;omega,jU w,fun k x=>de w k x,P,Q⟩
theorem y6 {n:Nat} {h:Int->Nat} (P: ∀k,h (k+n)=h k) (k:Int):h (-(k+n))=h (-k):=by rw[<-P (-(k+n))];congr 1;omega
theorem JG {y w:List Nat} {po pi:Int->Nat} (hy:Yd y) (h:SW y w) (P: ∀k,po (k+w.length)=po k) (Q: ∀k,pi (k+w.length)=pi k):K2 y w.length (fun k=>bq w (-k)) (fun k=>pi (-k)) (fun k=>po (-k)):=
 ⟨S3.mpr h.ne,fun k=>fF hy h _,fun k=>by funext x;unfold dA bq;congr 2;omega,fun k=>by
  show bq w (-(k+w.length))=bq w (-k)
  rw[<-i3 w (-(k+w.length))];congr 1;omega,fun k x=>ow w _ x,y6 Q,y6 P⟩
section
variable {y w v:List Nat} {po pi qo qi:Int->Nat}
noncomputable def iI (po pi qo qi:Int->Nat) (i j:Int):Bool:=mW (pi (i - 1)) (po i) (qi (j - 1)) (qo j)
def bP (w v:List Nat) (i j:Int):Prop:= ∀k,sq w i k=sq v j k
def jV (w v:List Nat) (i j:Int):Prop:= ∀k,sq w i k=bq v (j - 1) k
def K3 (w v:List Nat) (i j:Int):Prop:=rd w i=rd v j\/rd w (i - 1)=rd v (j - 1)
def y7 (w v:List Nat) (i j:Int):Prop:=rd w i=ar (rd v (j - 1))\/rd w (i - 1)=ar (rd v j)
theorem FH (w v:List Nat) (i j:Int):CB (sq w) (sq v) i j↔K3 w v i j:=by
 unfold CB K3 sq
 rw[show i+0=i by omega,show j+0=j by omega]
 rfl
theorem FI (w v:List Nat) (i k:Int):CB (sq w) (fun k=>bq v (-k)) i k↔y7 w v i (1 - k):=by
 unfold CB y7 sq bq
 show rd w (i+0)=ar (rd v (-k - 0))\/rd w (i+ -1)=ar (rd v (-k - -1))↔_
 rw[show i+0=i by omega,show -k - 0=1 - k - 1 by omega,show -k - -1=1 - k by omega]
 rfl
theorem RC (hy:Yd y) (hw:SW y w) (hv:SW y v) {i j:Int} (h:K3 w v i j) (g:y7 w v i j):False:=by
 have rJ:=hw.red i
 have Tp:=hv.red j
 have l1:=hy.lt _ (hw.rd (i - 1))
 have l2:=hy.lt _ (hv.rd (j - 1))
 have l3:=hy.lt _ (hv.rd j)
 rcases h with h | h<;>rcases g with g | g
 ·exact Tp (h.symm.trans g)
 ·rw[<-h]at g;exact rJ (by rw[g,aF (hy.lt _ (hw.rd i))])
 ·rw[<-h]at g;exact rJ g
 ·rw[h]at g;exact Tp (by rw[g,aF l3])
theorem vh (hy:Yd y) (hw:SW y w) (hv:SW y v) (P1: ∀k,po (k+w.length)=po k) (P2: ∀k,pi (k+w.length)=pi k) (Q1: ∀k,qo (k+v.length)=qo k) (Q2: ∀k,qi (k+v.length)=qi k)
  (hS:Hj y (sq w) po pi (sq v) qo qi) (hO:Hj y (sq w) po pi (fun k=>bq v (-k)) (fun k=>qi (-k)) (fun k=>qo (-k))):
  cb w.length v.length (fun i j=>one (iI po pi qo qi i j=true))=
   cb w.length v.length (fun i j=>one (ac y (ar (rd w (i - 1))) (rd w i) (ar (rd v (j - 1))) (rd v j)=true))+cb w.length v.length (fun i j=>one (0<al y (sq w i) (sq v j) (w.length+v.length)))+cb w.length v.length (fun i j=>one (0<al y (sq w i) (bq v j) (w.length+v.length)))
   +cb w.length v.length (fun i j=>one (bP w v i j/\iI po pi qo qi i j=true))+cb w.length v.length (fun i j=>one (jV w v i j/\iI po pi qo qi i j=true)):=by
 have fw:=CD hw P1 P2
 have fv:=CD hv Q1 Q2
 have fo:=JG hy hv Q1 Q2
 have s1:=yZ hy fw fv hS
 have s2:=yZ hy fw fo hO
 have e1:cb w.length v.length (fun s t=>one (gz y (sq w s) (sq v t)))=cb w.length v.length (fun i j=>one (0<al y (sq w i) (sq v j) (w.length+v.length))):=bp fun i j _ _=>bo (yW hy (bf hw _) (bf hv _) fun z=>jn hw.ne hv.ne (fun k=>de w i k) (fun k=>de v j k) z)
 have e2:cb w.length v.length (fun s t=>one (gz y (sq w s) (bq v (-t))))=cb w.length v.length (fun i j=>one (0<al y (sq w i) (bq v j) (w.length+v.length))):=by
  have:cb w.length v.length (fun s t=>one (gz y (sq w s) (bq v (-t))))=cb w.length v.length (fun s t=>one (gz y (sq w s) (bq v t))):=aI fun i _=>oB (h:=fun t=>one (gz y (sq w i) (bq v t))) fun k=>by rw[i3]
  rw[this]
  exact bp fun i j _ _=>bo (yW hy (bf hw _) (fF hy hv _) fun z=>jn hw.ne hv.ne (fun k=>de w i k) (fun k=>ow v j k) z)
 have e3:cb w.length v.length (fun s t=>one (CB (sq w) (fun k=>bq v (-k)) s t/\FG po pi (fun k=>qi (-k)) (fun k=>qo (-k)) s t=true/\ ¬par (sq w) (fun k=>bq v (-k)) s t))=cb w.length v.length (fun i j=>one (y7 w v i j/\iI po pi qo qi i j=true/\ ¬jV w v i j)):=by
  have P: ∀i:Int, ∀k:Int,(fun j=>one (y7 w v i j/\iI po pi qo qi i j=true/\ ¬jV w v i j)) (k+v.length)=(fun j=>one (y7 w v i j/\iI po pi qo qi i j=true/\ ¬jV w v i j)) k:=fun i k=>by
   show one (y7 w v i (k+v.length)/\iI po pi qo qi i (k+v.length)=true/\ ¬jV w v i (k+v.length))=_
   unfold y7 iI jV
   rw[show k+(v.length:Int) - 1=k - 1+v.length by omega,eV,eV,Q1,Q2,i3]
  refine aI fun i _=>(aI fun k _=>?_).trans (JD (P i))
  refine bo ?_
  rw[FI]
  have ec:FG po pi (fun k=>qi (-k)) (fun k=>qo (-k)) i k=iI po pi qo qi i (1 - k):=by
   unfold FG iI
   rw[i0]
   show mW (pi ((i:Int) - 1)) (po i) (qi (-(k:Int))) (qo (-((k:Int) - 1)))=_
   rw[show -((k:Int) - 1)=1 - k by omega,show (1:Int) - k - 1= -k by omega]
  have ep:par (sq w) (fun k=>bq v (-k)) i k↔jV w v i (1 - k):=by
   unfold par jV
   rw[show (1:Int) - k - 1= -k by omega]
  rw[ec,ep]
 rw[e1]at s1
 rw[e2,e3]at s2
 rw[<-s1, <-s2, <-cB, <-cB, <-cB, <-cB]
 refine bp fun i j _ _=>?_
 have hc:FG po pi qo qi i j=iI po pi qo qi i j:=rfl
 have et:=FH w v i j
 have pS:bP w v i j->K3 w v i j:=fun z=> .inl (by have:=z 0;unfold sq at this;rwa [show (i:Int)+0=i by omega,show (j:Int)+0=j by omega]at this)
 have pO:jV w v i j->y7 w v i j:=fun z=> .inl (by have:=z 0;unfold sq bq at this;rwa [show (i:Int)+0=i by omega,show (j:Int) - 1 - 0=j - 1 by omega]at this)
 have VS:K3 w v i j-> ¬ac y (ar (rd w (i - 1))) (rd w i) (ar (rd v (j - 1))) (rd v j)=true:=fun z=>by
  unfold ac
  rw[if_pos (z.elim (fun z=> .inr (.inr (.inr z.symm))) fun z=> .inl (by rw[z]))]
  decide
 have VT:y7 w v i j-> ¬ac y (ar (rd w (i - 1))) (rd w i) (ar (rd v (j - 1))) (rd v j)=true:=fun z=>by
  unfold ac
  rw[if_pos (z.elim (fun z=> .inr (.inl z.symm)) fun z=> .inr (.inr (.inl (by rw[z,aF (hy.lt _ (hv.rd _))]))))]
  decide
 have ep:par (sq w) (sq v) i j↔bP w v i j:=Iff.rfl
 by_cases tS:K3 w v i j
 ·have nO: ¬y7 w v i j:=fun z=>RC hy hw hv tS z
  rw[a_ (VS tS),a_ (p:=y7 w v i j/\_) (fun z=>nO z.1),a_ (p:=jV w v i j/\_) (fun z=>nO (pO z.1))]
  by_cases c:iI po pi qo qi i j=true
  ·by_cases q:bP w v i j
   ·rw[fk c,a_ (fun z=>z.2.2 q),fk ⟨q,c⟩];rfl
   ·rw[fk c,fk ⟨et.mpr tS,c,q⟩,a_ (fun z=>q z.1)];rfl
  ·rw[a_ c,a_ (fun z=>c z.2.1),a_ (fun z=>c z.2)];rfl
 ·rw[a_ (p:=CB _ _ _ _/\_) (fun z=>tS (et.mp z.1)),a_ (p:=bP w v i j/\_) (fun z=>tS (pS z.1))]
  by_cases tO:y7 w v i j
  ·rw[a_ (VT tO)]
   by_cases c:iI po pi qo qi i j=true
   ·by_cases q:jV w v i j
    ·rw[fk c,a_ (fun z=>z.2.2 q),fk ⟨q,c⟩];rfl
    ·rw[fk c,fk ⟨tO,c,q⟩,a_ (fun z=>q z.1)];rfl
   ·rw[a_ c,a_ (fun z=>c z.2.1),a_ (fun z=>c z.2)];rfl
  ·rw[a_ (p:=y7 w v i j/\_) (fun z=>tO z.1),a_ (p:=jV w v i j/\_) (fun z=>tO (pO z.1))]
   have l2:=hy.lt _ (hv.rd (j - 1))
   have l3:=hy.lt _ (hv.rd j)
   have l1:=hy.lt _ (hw.rd (i - 1))
   have f0: ∀(u:List Nat) (i:Int),sq u i 0=rd u i:=fun u i=>by unfold sq;rw[show i+0=i by omega]
   have f1: ∀(u:List Nat) (i:Int),sq u i (-1)=rd u (i - 1):=fun u i=>rfl
   have e:=JC hy (bf hw i) (bf hv j) (hS.sep i j) (fun z=>tS (.inl (by rw[f0,f0]at z;exact z))) (fun z=>tS (.inr z)) (fun z=>tO (.inr (by rw[f0,f1]at z;rw[<-z,aF l1]))) (fun z=>tO (.inl (by rw[f0,f1]at z;exact z.symm)))
   rw[f0,f0,f1,f1]at e
   have e':iI po pi qo qi i j=ac y (ar (rd w (i - 1))) (rd w i) (ar (rd v (j - 1))) (rd v j):=e
   rw[e']
   omega
end
section
variable {y w v:List Nat} {po pi qo qi:Int->Nat}
theorem FJ (hy:Yd y) (hw:SW y w) (hv:SW y v) (hS:Hj y (sq w) po pi (sq v) qo qi) (D:Bool)
  (h: ∀i j,bP w v i j->po i≠qo j/\pi i≠qi j/\decide (po i<qo j)=D/\decide (qi j<pi i)=D):cb w.length v.length (fun i j=>one (bP w v i j/\iI po pi qo qi i j=true))=0:=by
 have: ∀i j:Int, ¬(bP w v i j/\iI po pi qo qi i j=true):=fun i j ⟨p,c⟩=>by
  have p1:bP w v (i - 1) (j - 1):=fun k=>by
   have:=p (k - 1)
   unfold sq at this ⊢
   rw[show i - 1+k=i+(k - 1) by omega,show j - 1+k=j+(k - 1) by omega]
   exact this
  have h0:=h i j p
  have h1:=h _ _ p1
  have:=(sR hy (bf hw i) (bf hv j) (hS.sep i j) h1.2.1 h0.1 (p (-1)) (p 0)).mp c
  exact this (h1.2.2.2.trans h0.2.2.1.symm)
 rw[show (0:Int)=cb w.length v.length (fun _ _=>0) by unfold cb;rw[show (fun _:Int=>sm v.length fun _=>0)=fun _=>0 from funext fun _=>fQ _,fQ]]
 exact bp fun i j _ _=>a_ (this i j)
theorem FK (hy:Yd y) (hw:SW y w) (hv:SW y v) (hO:Hj y (sq w) po pi (fun k=>bq v (-k)) (fun k=>qi (-k)) (fun k=>qo (-k))) (D:Bool)
  (h: ∀i j,(∀k,sq w i k=bq v j k)->po i≠qi j/\pi i≠qo j/\decide (po i<qi j)=D/\decide (qo j<pi i)=D):cb w.length v.length (fun i j=>one (jV w v i j/\iI po pi qo qi i j=true))=0:=by
 have: ∀i j:Int, ¬(jV w v i j/\iI po pi qo qi i j=true):=fun i j ⟨p,c⟩=>by
  have p1: ∀k,sq w (i - 1) k=bq v j k:=fun k=>by
   have:=p (k - 1)
   unfold sq bq at this ⊢
   rw[show i - 1+k=i+(k - 1) by omega,this]
   congr 2;omega
  have h0:=h i (j - 1) p
  have h1:=h _ _ p1
  have s:=hO.sep i (1 - j)
  simp only[show -(1 - j)=j - 1 by omega,show -(1 - j - 1)=j by omega]at s
  unfold iI at c
  rw[i0]at c
  have:=(sR hy (bf hw i) (fF hy hv (j - 1)) s h1.2.1 h0.1 (p (-1)) (p 0)).mp c
  exact this (h1.2.2.2.trans h0.2.2.1.symm)
 rw[show (0:Int)=cb w.length v.length (fun _ _=>0) by unfold cb;rw[show (fun _:Int=>sm v.length fun _=>0)=fun _=>0 from funext fun _=>fQ _,fQ]]
 exact bp fun i j _ _=>a_ (this i j)
theorem sS (hy:Yd y) (hw:SW y w) (i j:Int): ¬ ∀k,sq w i k=bq w j k:=fun h=>by
 unfold sq bq at h
 rcases (show (j - i)%2=0\/(j - i)%2=1 by omega) with z | z
 ·have:=h ((j - i) / 2)
  rw[show i+(j - i) / 2=j - (j - i) / 2 by omega]at this
  exact fE (hy.lt _ (hw.rd _)) this.symm
 ·have:=h ((j - i) / 2+1)
  rw[show j - ((j - i) / 2+1)=i+((j - i) / 2+1) - 1 by omega]at this
  exact hw.red _ this
theorem vm (h:Int->Int) (n:Nat): ∀m:Nat,sm (n+m) h=sm n h+sm m (fun i=>h (n+i))
 | 0=>by show sm n h=sm n h+0;omega
 | m+1=>by
  show sm (n+m) h+h ((n+m:Nat):Int)=sm n h+(sm m (fun i=>h (n+i))+h (n+m))
  rw[vm h n m,show ((n+m:Nat):Int)=(n:Int)+m by omega]
  omega
theorem i4 {h:Int->Int}: ∀{s:Nat},0<s->(∀i:Nat,0<i->i<s->h i=0)->sm s h=h 0
 | 0,h0,_=>absurd h0 (YK _)
 | 1,_,_=>by show (0:Int)+h 0=h 0;omega
 | s+2,_,g=>by
  show sm (s+1) h+h ((s+1:Nat):Int)=h 0
  rw[i4 (s:=s+1) (by omega) (fun i h1 h2=>g i h1 (by omega)),g (s+1) (by omega) (by omega)]
  omega
theorem y9 {h:Int->Int} {s:Nat} (hs:0<s) (g: ∀i:Nat,h i=if i%s=0 then 1 else 0): ∀k:Nat,sm (k*s) h=k
 | 0=>by rw[Nat.zero_mul];rfl
 | k+1=>by
  rw[ZS,vm,y9 hs g k,i4 hs]
  ·have:=g (k*s)
   rw[if_pos (Nat.mul_mod_left k s)]at this
   show (k:Int)+h (((k*s:Nat):Int)+0)=((k+1:Nat):Int)
   rw[Qay,this]
   omega
  ·intro i h1 h2
   have:=g (k*s+i)
   rw[if_neg (by rw[Zk,Nat.mul_add_mod,Zf h2];omega)]at this
   rw[<-this]
   congr 1
theorem CF (hy:Yd y) (hw:SW y w) (hS:Hj y (sq w) po pi (sq w) po pi) {s k:Nat} (hs:0<s) (hn:w.length=k*s) (hk:0<k) (hr: ∀j:Nat,j<w.length->(bP w w 0 j↔j%s=0))
  (h: ∀i j:Int,bP w w i j->i%w.length≠j%w.length->po i≠po j/\pi i≠pi j/\decide (po i<po j)=decide (i%w.length<j%w.length)/\decide (pi j<pi i)=decide (i%w.length<j%w.length)):
  cb w.length w.length (fun i j=>one (bP w w i j/\iI po pi po pi i j=true))=2*((k:Int) - 1):=by
 have pt: ∀i j:Nat,i<w.length->j<w.length->one (bP w w i j/\iI po pi po pi i j=true)=(if i=0 then one (j≠0/\bP w w 0 j) else 0)+(if j=0 then one (i≠0/\bP w w 0 i) else 0):=fun i j hi hj=>by
  have sym:bP w w 0 i↔bP w w i 0:=⟨fun q k=>(q k).symm,fun q k=>(q k).symm⟩
  by_cases e:i=j
  ·subst e
   rw[a_ (fun q=>by have:=q.2;unfold iI at this;rw[vf]at this;cases this)]
   by_cases z:i=0
   ·rw[if_pos z,a_ (fun q=>q.1 z)];rfl
   ·rw[if_neg z];rfl
  ·have key:bP w w i j->(iI po pi po pi i j=true↔(i=0\/j=0)):=fun p=>by
    have p1:bP w w ((i:Int) - 1) ((j:Int) - 1):=fun k=>by
     have:=p (k - 1)
     unfold sq at this ⊢
     rw[show (i:Int) - 1+k=i+(k - 1) by omega,show (j:Int) - 1+k=j+(k - 1) by omega]
     exact this
    have m0: ∀i:Nat,i<w.length->(i:Int)%w.length=i:=fun i hi=>Yu (by omega) (by omega)
    have m1: ∀i:Nat,i<w.length->((i:Int) - 1)%w.length=if i=0 then (w.length:Int) - 1 else i - 1:=fun i hi=>by
     split
     ·rename_i z
      rw[<-Zy,Yu (by omega) (by omega)];omega
     ·exact Yu (by omega) (by omega)
    have h0:=h i j p (by rw[m0 i hi,m0 j hj];omega)
    have h1:=h _ _ p1 (by rw[m1 i hi,m1 j hj];split<;>split<;>omega)
    have c:=sR hy (bf hw i) (bf hw j) (hS.sep i j) h1.2.1 h0.1 (p (-1)) (p 0)
    rw[h0.2.2.1,h1.2.2.2,m0 i hi,m0 j hj,m1 i hi,m1 j hj]at c
    have c':iI po pi po pi i j=true↔_:=c
    rw[c',Ne,decide_eq_decide]
    split<;>split<;>omega
   by_cases z:i=0
   ·have j0:j≠0:=fun q=>e (z.trans q.symm)
    rw[if_pos z,if_neg j0]
    rw[z]at key ⊢
    have:one (bP w w ((0:Nat):Int) j/\iI po pi po pi ((0:Nat):Int) j=true)=one (j≠0/\bP w w 0 j):=bo ⟨fun q=>⟨j0,q.1⟩,fun q=>⟨q.2,(key q.2).mpr (.inl rfl)⟩⟩
    rw[this];omega
   ·rw[if_neg z]
    by_cases j0:j=0
    ·rw[if_pos j0]
     rw[j0]at key ⊢
     have:one (bP w w i ((0:Nat):Int)/\iI po pi po pi i ((0:Nat):Int)=true)=one (i≠0/\bP w w 0 i):=bo ⟨fun q=>⟨z,sym.mpr q.1⟩,fun q=>⟨sym.mp q.2,(key (sym.mp q.2)).mpr (.inr rfl)⟩⟩
     rw[this];omega
    ·rw[if_neg j0,a_ (fun q=>by rcases (key q.1).mp q.2 with q | q<;>contradiction)];rfl
 have cnt:sm w.length (fun j=>one (j≠0/\bP w w 0 j))=(k:Int) - 1:=by
  have e1:sm w.length (fun j=>one (bP w w 0 j))=k:=by
   have:sm w.length (fun j=>one (bP w w 0 j))=sm w.length (fun j=>if j.toNat%s=0 then 1 else 0):=aI fun j hj=>by
    rw[bo (hr j hj),Xx]
    by_cases z:j%s=0
    ·rw[fk z,if_pos z]
    ·rw[a_ z,if_neg z]
   rw[this,hn]
   exact y9 hs (fun i=>by rw[Xx]) k
  have e2:sm w.length (fun j=>one (bP w w 0 j))=sm w.length (fun j=>one (j≠0/\bP w w 0 j))+sm w.length (fun j=>if j=0 then 1 else 0):=by
   rw[<-oz]
   refine aI fun j hj=>?_
   by_cases z:j=0
   ·subst z
    rw[fk (show bP w w 0 ((0:Nat):Int) from fun k=>rfl),a_ (fun q=>q.1 rfl)];rfl
   ·rw[if_neg (by omega),Qay]
    exact bo ⟨fun q=>⟨by omega,q⟩,fun q=>q.2⟩
  have e3:sm w.length (fun j=>if j=0 then (1:Int) else 0)=1:=by
   rw[i4 (S3.mpr hw.ne) (fun i h1 _=>by rw[if_neg (by omega)]),if_pos rfl]
  omega
 have lp:0<w.length:=S3.mpr hw.ne
 have e:cb w.length w.length (fun i j=>one (bP w w i j/\iI po pi po pi i j=true))=cb w.length w.length (fun i j=>(if i=0 then one (j≠0/\bP w w 0 j) else 0)+(if j=0 then one (i≠0/\bP w w 0 i) else 0)):=bp fun i j hi hj=>by
  rw[pt i j hi hj]
  congr 1
  ·by_cases z:i=0
   ·rw[if_pos z,if_pos (by omega)]
    exact bo ⟨fun q=>⟨by omega,q.2⟩,fun q=>⟨by omega,q.2⟩⟩
   ·rw[if_neg z,if_neg (by omega)]
  ·by_cases z:j=0
   ·rw[if_pos z,if_pos (by omega)]
    exact bo ⟨fun q=>⟨by omega,q.2⟩,fun q=>⟨by omega,q.2⟩⟩
   ·rw[if_neg z,if_neg (by omega)]
 rw[e,cB]
 have a1:cb w.length w.length (fun i j=>if i=0 then one (j≠0/\bP w w 0 j) else 0)=(k:Int) - 1:=by
  unfold cb
  rw[i4 lp]
  ·rw[<-cnt]
   exact aI fun j _=>if_pos rfl
  ·intro i h1 _
   refine Eq.trans (aI (g:=fun _=>0) fun j _=>?_) (fQ _)
   have: ¬((i:Int)=0):=by omega
   exact if_neg this
 have a2:cb w.length w.length (fun i j=>if j=0 then one (i≠0/\bP w w 0 i) else 0)=(k:Int) - 1:=by
  unfold cb
  rw[<-cnt]
  refine aI fun i _=>?_
  have: ∀j:Nat,0<j-> ¬((j:Int)=0):=fun j h=>by omega
  rw[i4 lp (fun j h1 _=>if_neg (this j h1))]
  exact if_pos rfl
 omega
end
noncomputable def kk (y:List Nat) (f:Int->Nat):Nat->Nat->List Int
 | _,0=>[]
 | k,n+1=>eW y f (k+1)::eW y f (-(k:Int))::kk y f (k+1) n
theorem fq: ∀(l r t:List Int),bJ (l++r) (l++t)=bJ r t
 | [],_,_=>rfl
 | a::l,r,t=>by
  show (if a=a then bJ (l++r) (l++t) else _)=_
  rw[if_pos rfl,fq l r t]
theorem lV {y:List Nat} {f g:Int->Nat} {a b:Nat} (hy:Yd y) (hf:gI y f) (hg:gI y g) (h:Run f g a b) (r t:List Int): ∀(n k:Nat),k<=a->k<=b->a<k+n->b<k+n->bJ (kk y f k n++r) (kk y g k n++t)=if a<=b then gn y f g a else gy y f g b
 | 0,k,h1,_,h3,_=>by omega
 | n+1,k,h1,h2,h3,h4=>by
  show (if eW y f (k+1)=eW y g (k+1) then (if eW y f (-(k:Int))=eW y g (-(k:Int)) then bJ (kk y f (k+1) n++r) (kk y g (k+1) n++t) else decide (eW y f (-(k:Int))<eW y g (-(k:Int)))) else decide (eW y f (k+1)<eW y g (k+1)))=_
  have e0:=h.lU k (by omega) (by omega)
  have e1:=h.lU (-(k:Int)) (by omega) (by omega)
  by_cases z:k=a
  ·subst z
   rw[if_neg (fun q=>h.hi (by
    unfold eW at q
    rw[show (k:Int)+1 - 1=k by omega, <-e0]at q
    exact kM (hy.cl _ (hf.bH _)) (hf.bH _) (hg.bH _) q)),if_pos h2]
   rfl
  ·have e2:=h.lU (k+1) (by omega) (by omega)
   rw[if_pos (by unfold eW;rw[show (k:Int)+1 - 1=k by omega,e0,e2])]
   by_cases z2:k=b
   ·subst z2
    rw[if_neg (fun q=>h.lo (by
     unfold eW at q
     rw[<-e1]at q
     have r1:=hf.red (-(k:Int))
     have r2:=hg.red (-(k:Int))
     have c1:=(eX (hy.cl _ (hf.bH (-(k:Int) - 1))) (hf.bH (-(k:Int))) (Ne.symm r1)).2.2
     have c2:=(eX (hy.cl _ (hg.bH (-(k:Int) - 1))) (hf.bH (-(k:Int))) (by rw[e1];exact Ne.symm r2)).2.2
     have:=kM (hf.bH (-(k:Int))) (hy.cl _ (hf.bH (-(k:Int) - 1))) (hy.cl _ (hg.bH (-(k:Int) - 1))) (by rw[c1,c2,q])
     exact dI (hy.lt _ (hf.bH _)) (hy.lt _ (hg.bH _)) this)),if_neg (by omega)]
    rfl
   ·have e3:=h.lU (-(k:Int) - 1) (by omega) (by omega)
    rw[if_pos (by unfold eW;rw[e1,e3])]
    exact lV hy hf hg h r t n (k+1) (by omega) (by omega) (by omega) (by omega)
noncomputable def lA (w:List Nat) (i:Int):Int->Nat:=if aD (rd w i)=true then sq w i else bq w i
noncomputable def Em (n r:Nat) (l low:Bool) (c i:Nat):List Int:=if low=l then [(c:Int),(((if low=true then i else n - 1 - i) / r:Nat):Int)] else [-(c:Int), -(((if low=true then n - 1 - i else i) / r:Nat):Int)]
noncomputable def cI (y:List Nat) (ws:List (List Nat)) (L:Nat->Bool) (r:Nat->Nat) (M c i:Nat):List Int:=kk y (lA (ws.getD c []) i) 0 M++Em (ws.getD c []).length (r c) (L c) (aD (rd (ws.getD c []) i)) c i
def Dl (w:List Nat) (i:Int) (f:Int->Nat):Prop:=f=sq w i\/f=bq w i
theorem sU {y w:List Nat} {i:Int} {f:Int->Nat} (hy:Yd y) (hw:SW y w) (h:Dl w i f):lA w i=if aD (f 0)=true then f else jw f:=by
 have s0:sq w i 0=rd w i:=by unfold sq;rw[show i+0=i by omega]
 have b0:bq w i 0=ar (rd w i):=by unfold bq;rw[show i - 0=i by omega]
 have lc:=fP _ (hy.lt _ (hw.rd i)).mem
 unfold lA
 rcases h with rfl | rfl
 ·rw[s0,eF]
 ·rw[b0,lc, <-eF,mK hy (bf hw i)]
  cases aD (rd w i)<;>rfl
theorem Dl.xB {y w:List Nat} {i:Int} {f:Int->Nat} (hy:Yd y) (hw:SW y w) (h:Dl w i f):gI y f:=by
 rcases h with rfl | rfl
 ·exact bf hw i
 ·exact fF hy hw i
theorem Run.sy {f g:Int->Nat} {a b:Nat} (h:Run f g a b):Run g f a b:=⟨fun k h1 h2=>(h.lU k h1 h2).symm,Ne.symm h.hi,Ne.symm h.lo⟩
section
variable {y:List Nat} {ws:List (List Nat)} {L:Nat->Bool} {r:Nat->Nat} {M:Nat} {N:Nat->Nat->Nat->Nat}
structure Lies (y:List Nat) (ws:List (List Nat)) (L:Nat->Bool) (r:Nat->Nat) (M:Nat) (N:Nat->Nat->Nat->Nat):Prop where
 sep: ∀c i d j e e',c<ws.length->d<ws.length->i<(ws.getD c []).length->j<(ws.getD d []).length->(e=rd (ws.getD c []) i\/e=ar (rd (ws.getD c []) i))->(e'=rd (ws.getD d []) j\/e'=ar (rd (ws.getD d []) j))->y.idxOf e<y.idxOf e'->N c i e<N d j e'
 low: ∀c i d j x,c<ws.length->d<ws.length->i<(ws.getD c []).length->j<(ws.getD d []).length->(c,i)≠(d,j)->aD x=true->(rd (ws.getD c []) i=x\/rd (ws.getD c []) i=ar x)->(rd (ws.getD d []) j=x\/rd (ws.getD d []) j=ar x)->
  N c i x≠N d j x/\N c i (ar x)≠N d j (ar x)/\decide (N c i x<N d j x)=bJ (cI y ws L r M c i) (cI y ws L r M d j)/\decide (N d j (ar x)<N c i (ar x))=bJ (cI y ws L r M c i) (cI y ws L r M d j)
theorem Lies.at (hy:Yd y) (hN:Lies y ws L r M N) {c i d j:Nat} {f g:Int->Nat} (hc:c<ws.length) (hd:d<ws.length) (hi:i<(ws.getD c []).length) (hj:j<(ws.getD d []).length) (hw:SW y (ws.getD c [])) (hv:SW y (ws.getD d []))
  (hf:Dl (ws.getD c []) i f) (hg:Dl (ws.getD d []) j g) (h0:f 0=g 0) (dG:(c,i)≠(d,j)):
  N c i (f 0)≠N d j (f 0)/\N c i (ar (f 0))≠N d j (ar (f 0))/\decide (N c i (f 0)<N d j (f 0))=(if aD (f 0)=true then bJ (cI y ws L r M c i) (cI y ws L r M d j) else bJ (cI y ws L r M d j) (cI y ws L r M c i))/\decide (N d j (ar (f 0))<N c i (ar (f 0)))=(if aD (f 0)=true then bJ (cI y ws L r M c i) (cI y ws L r M d j) else bJ (cI y ws L r M d j) (cI y ws L r M c i)):=by
 have s0: ∀(w:List Nat) (i:Int),sq w i 0=rd w i:=fun w i=>by unfold sq;rw[show i+0=i by omega]
 have b0: ∀(w:List Nat) (i:Int),bq w i 0=ar (rd w i):=fun w i=>by unfold bq;rw[show i - 0=i by omega]
 have ly:Lt (f 0):=hy.lt _ ((hf.xB hy hw).bH 0)
 have KP:=aF ly
 have ef:rd (ws.getD c []) i=f 0\/rd (ws.getD c []) i=ar (f 0):=by
  rcases hf with rfl | rfl
  ·exact .inl (s0 _ _).symm
  ·exact .inr (by rw[b0,aF (hy.lt _ (hw.rd _))])
 have eg:rd (ws.getD d []) j=f 0\/rd (ws.getD d []) j=ar (f 0):=by
  rw[h0]
  rcases hg with rfl | rfl
  ·exact .inl (s0 _ _).symm
  ·exact .inr (by rw[b0,aF (hy.lt _ (hv.rd _))])
 by_cases z:aD (f 0)=true
 ·rw[if_pos z]
  exact hN.low c i d j (f 0) hc hd hi hj dG z ef eg
 ·rw[if_neg z]
  have z':aD (ar (f 0))=true:=by rw[fP _ ly.mem];simpa using z
  have:=hN.low d j c i (ar (f 0)) hd hc hj hi (Ne.symm dG) z' (by rw[KP];exact eg.symm) (by rw[KP];exact ef.symm)
  rw[KP]at this
  exact ⟨Ne.symm this.2.1,Ne.symm this.1,this.2.2.2,this.2.2.1⟩
theorem Lies.run (hy:Yd y) (hN:Lies y ws L r M N) {c i d j:Nat} {f g:Int->Nat} {a b:Nat} (hc:c<ws.length) (hd:d<ws.length) (hi:i<(ws.getD c []).length) (hj:j<(ws.getD d []).length) (hw:SW y (ws.getD c [])) (hv:SW y (ws.getD d []))
  (hf:Dl (ws.getD c []) i f) (hg:Dl (ws.getD d []) j g) (hr:Run f g a b) (ha:a<M) (hb:b<M) (dG:(c,i)≠(d,j)):
  N c i (f 0)≠N d j (g 0)/\N c i (ar (f 0))≠N d j (ar (g 0))/\decide (N c i (f 0)<N d j (g 0))=xw y f g a b/\decide (N d j (ar (g 0))<N c i (ar (f 0)))=xw y f g a b:=by
 have h0:=hr.zero
 have lf:=hf.xB hy hw
 have lg:=hg.xB hy hv
 have e:(if aD (f 0)=true then bJ (cI y ws L r M c i) (cI y ws L r M d j) else bJ (cI y ws L r M d j) (cI y ws L r M c i))=xw y f g a b:=by
  unfold cI
  rw[sU hy hw hf,sU hy hv hg, <-h0]
  by_cases z:aD (f 0)=true
  ·rw[if_pos z,if_pos z,if_pos z,lV hy lf lg hr _ _ M 0 (Xy _) (Xy _) (by omega) (by omega)]
   unfold xw ud
   by_cases q:a<=b
   ·rw[if_pos q,if_neg (by simp[z];omega)]
   ·rw[if_neg q,if_pos (by simp;omega)]
  ·rw[if_neg z,if_neg z,if_neg z,lV hy (lg.rv hy) (lf.rv hy) (hr.rv hy lf lg).sy _ _ M 0 (Xy _) (Xy _) (by omega) (by omega), <-Jy hy lf lg h0]
   unfold xw ud
   have z':aD (jw g 0)=true:=by
    show aD (ar (g 0))=true
    rw[<-h0,fP _ (hy.lt _ (lf.bH 0)).mem];simpa using z
   by_cases q:b<=a
   ·rw[if_pos q,if_neg (by simp[z'];omega)]
   ·rw[if_neg q,if_pos (by simp;omega)]
 have:=hN.at hy hc hd hi hj hw hv hf hg h0 dG
 rw[e]at this
 rw[<-h0]
 exact this
end
noncomputable def i5 (n:Nat) (k:Int):Nat:=(k%(n:Int)).toNat
theorem bL {n:Nat} (h:0<n) (k:Int):i5 n k<n:=by
 unfold i5
 have h1:=Y3 k (b:=(n:Int)) (by omega)
 have h2:=YV k (b:=(n:Int)) (by omega)
 omega
theorem eG {n:Nat} (h:0<n) (k:Int):((i5 n k:Nat):Int)=k%n:=by
 unfold i5
 have h1:=Y3 k (b:=(n:Int)) (by omega)
 omega
theorem y_ {n:Nat} (k:Int):i5 n (k+n)=i5 n k:=by unfold i5;rw[Zy]
theorem bY {w:List Nat} (h:w≠[]) (k:Int):rd w (i5 w.length k:Nat)=rd w k:=by rw[eG (S3.mpr h),hW]
theorem cJ {w:List Nat} (h:w≠[]) (k:Int):sq w (i5 w.length k:Nat)=sq w k:=by
 funext x
 unfold sq
 rw[eG (S3.mpr h), <-hW w (k%w.length+x),Qbv,hW]
theorem sV {w:List Nat} (h:w≠[]) (k:Int):bq w (i5 w.length k:Nat)=bq w k:=by rw[<-eF, <-eF,cJ h]
noncomputable def pO (ws:List (List Nat)) (N:Nat->Nat->Nat->Nat) (c:Nat) (k:Int):Nat:=N c (i5 (ws.getD c []).length k) (rd (ws.getD c []) k)
noncomputable def pI (ws:List (List Nat)) (N:Nat->Nat->Nat->Nat) (c:Nat) (k:Int):Nat:=N c (i5 (ws.getD c []).length k) (ar (rd (ws.getD c []) k))
theorem JH {x x' p p':Int} (h:x≠x'):bJ [x,p] [x',p']=decide (x<x'):=by
 show (if x=x' then _ else decide (x<x'))=_
 rw[if_neg h]
theorem sW {x p p':Int} (h:p≠p'):bJ [x,p] [x,p']=decide (p<p'):=by
 show (if x=x then (if p=p' then bJ [] [] else decide (p<p')) else _)=_
 rw[if_pos rfl,if_neg h]
section
variable {y:List Nat} {ws:List (List Nat)} {L:Nat->Bool} {r:Nat->Nat} {M:Nat} {N:Nat->Nat->Nat->Nat}
structure eN (y:List Nat) (ws:List (List Nat)) (L:Nat->Bool) (r:Nat->Nat) (M:Nat):Prop where
 yd:Yd y
 sw: ∀c,c<ws.length->SW y (ws.getD c [])
 big: ∀c d,c<ws.length->d<ws.length->(ws.getD c []).length+(ws.getD d []).length<=M
 l1: ∀c d i j,c<ws.length->d<ws.length->bP (ws.getD c []) (ws.getD d []) i j->L c=L d
 l2: ∀c d i j,c<ws.length->d<ws.length->(∀k,sq (ws.getD c []) i k=bq (ws.getD d []) j k)->L d=!L c
 rp: ∀c,c<ws.length->0<r c
 rr: ∀c,c<ws.length-> ∀i j:Int,(bP (ws.getD c []) (ws.getD c []) i j↔(i - j)%(r c:Int)=0)
theorem Lies.two (h:eN y ws L r M) (hN:Lies y ws L r M N) {c d:Nat} (hc:c<ws.length) (hd:d<ws.length):Hj y (sq (ws.getD c [])) (pO ws N c) (pI ws N c) (sq (ws.getD d [])) (pO ws N d) (pI ws N d):=by
 have hw:=h.sw c hc
 have hv:=h.sw d hd
 have lw:=S3.mpr hw.ne
 have lv:=S3.mpr hv.ne
 have s0: ∀(w:List Nat) (i:Int),sq w i 0=rd w i:=fun w i=>by unfold sq;rw[show i+0=i by omega]
 refine ⟨fun s t=>?_,fun s t a b rn=>?_⟩
 ·have key: ∀p∈[(ar (sq (ws.getD c []) s (-1)),pI ws N c (s - 1)),(sq (ws.getD c []) s 0,pO ws N c s),(ar (sq (ws.getD d []) t (-1)),pI ws N d (t - 1)),(sq (ws.getD d []) t 0,pO ws N d t)], ∃e i:Nat,e<ws.length/\i<(ws.getD e []).length/\(p.1=rd (ws.getD e []) i\/p.1=ar (rd (ws.getD e []) i))/\p.2=N e i p.1:=by
   intro p hp
   simp only[Vi,Yl,or_false]at hp
   rcases hp with rfl | rfl | rfl | rfl
   ·exact ⟨c,_,hc,bL lw (s - 1), .inr (by rw[bY hw.ne];rfl),rfl⟩
   ·exact ⟨c,_,hc,bL lw s, .inl (by rw[bY hw.ne,s0]),by rw[s0];rfl⟩
   ·exact ⟨d,_,hd,bL lv (t - 1), .inr (by rw[bY hv.ne];rfl),rfl⟩
   ·exact ⟨d,_,hd,bL lv t, .inl (by rw[bY hv.ne,s0]),by rw[s0];rfl⟩
  intro p hp q hq dB
  obtain ⟨e,i,he,hi,h1,h2⟩:=key p hp
  obtain ⟨e',j,yI,hj,h3,h4⟩:=key q hq
  rw[h2,h4]
  exact hN.sep e i e' j _ _ he yI hi hj h1 h3 dB
 ·obtain ⟨a',b',RD,ha,hb⟩:=dH lw lv (fun k=>de _ s k) (fun k=>de _ t k) rn.zero ⟨_,rn.hi⟩
  obtain ⟨rfl,rfl⟩:=rn.one RD
  have:=h.big c d hc hd
  have key:=hN.run h.yd hc hd (bL lw s) (bL lv t) hw hv (.inl (cJ hw.ne s).symm) (.inl (cJ hv.ne t).symm) rn (by omega) (by omega) (fun z=>rn.hi (by
   obtain ⟨z1,z2⟩:=Prod.mk.inj z
   subst z1
   rw[<-cJ hw.ne s, <-cJ hw.ne t,z2]))
  rw[s0,s0]at key
  exact key
theorem Lies.Tq (h:eN y ws L r M) (hN:Lies y ws L r M N) {c d:Nat} (hc:c<ws.length) (hd:d<ws.length):Hj y (sq (ws.getD c [])) (pO ws N c) (pI ws N c) (fun k=>bq (ws.getD d []) (-k)) (fun k=>pI ws N d (-k)) (fun k=>pO ws N d (-k)):=by
 have hw:=h.sw c hc
 have hv:=h.sw d hd
 have lw:=S3.mpr hw.ne
 have lv:=S3.mpr hv.ne
 have s0: ∀(w:List Nat) (i:Int),sq w i 0=rd w i:=fun w i=>by unfold sq;rw[show i+0=i by omega]
 have b0: ∀(w:List Nat) (i:Int),bq w i 0=ar (rd w i):=fun w i=>by unfold bq;rw[show i - 0=i by omega]
 have bb: ∀t:Int,ar (bq (ws.getD d []) (-t) (-1))=rd (ws.getD d []) (-(t - 1)):=fun t=>by
  unfold bq
  rw[aF (h.yd.lt _ (hv.rd _))]
  congr 1;omega
 refine ⟨fun s t=>?_,fun s t a b rn=>?_⟩
 ·have key: ∀p∈[(ar (sq (ws.getD c []) s (-1)),pI ws N c (s - 1)),(sq (ws.getD c []) s 0,pO ws N c s),(ar (bq (ws.getD d []) (-t) (-1)),pO ws N d (-(t - 1))),(bq (ws.getD d []) (-t) 0,pI ws N d (-t))], ∃e i:Nat,e<ws.length/\i<(ws.getD e []).length/\(p.1=rd (ws.getD e []) i\/p.1=ar (rd (ws.getD e []) i))/\p.2=N e i p.1:=by
   intro p hp
   simp only[Vi,Yl,or_false]at hp
   rcases hp with rfl | rfl | rfl | rfl
   ·exact ⟨c,_,hc,bL lw (s - 1), .inr (by rw[bY hw.ne];rfl),rfl⟩
   ·exact ⟨c,_,hc,bL lw s, .inl (by rw[bY hw.ne,s0]),by rw[s0];rfl⟩
   ·exact ⟨d,_,hd,bL lv (-(t - 1)), .inl (by rw[bY hv.ne];exact bb t),by rw[bb t];rfl⟩
   ·exact ⟨d,_,hd,bL lv (-t), .inr (by rw[bY hv.ne,b0]),by rw[b0];rfl⟩
  intro p hp q hq dB
  obtain ⟨e,i,he,hi,h1,h2⟩:=key p hp
  obtain ⟨e',j,yI,hj,h3,h4⟩:=key q hq
  rw[h2,h4]
  exact hN.sep e i e' j _ _ he yI hi hj h1 h3 dB
 ·obtain ⟨a',b',RD,ha,hb⟩:=dH lw lv (fun k=>de _ s k) (fun k=>ow _ (-t) k) rn.zero ⟨_,rn.hi⟩
  obtain ⟨rfl,rfl⟩:=rn.one RD
  have:=h.big c d hc hd
  have key:=hN.run h.yd hc hd (bL lw s) (bL lv (-t)) hw hv (.inl (cJ hw.ne s).symm) (.inr (sV hv.ne (-t)).symm) rn (by omega) (by omega) (fun z=>by
   obtain ⟨z1,z2⟩:=Prod.mk.inj z
   subst z1
   have z0:=rn.zero
   rw[s0,b0, <-bY hw.ne s, <-bY hw.ne (-t),z2]at z0
   exact fE (h.yd.lt _ (hw.rd _)) z0.symm)
  rw[s0,b0,aF (h.yd.lt _ (hv.rd _))]at key
  exact key
theorem sX {n n' r r' c d i j:Nat} {l low JI:Bool} (h:c≠d):bJ (Em n r l low c i) (Em n' r' (if JI=low then l else !l) JI d j)=if low=l then decide (c<d) else decide (d<c):=by
 unfold Em
 cases low<;>cases JI<;>cases l<;>simp only[Qbj,Bool.not_false,if_true,if_false,Bool.true_eq_false,Zz]<;>rw[JH (by omega)]<;>exact decide_eq_decide.mpr (by omega)
theorem Lies.CG (h:eN y ws L r M) (hN:Lies y ws L r M N) {c d:Nat} (hc:c<ws.length) (hd:d<ws.length) (mO:c≠d) {i j:Nat} {f g:Int->Nat} (hi:i<(ws.getD c []).length) (hj:j<(ws.getD d []).length) (hf:Dl (ws.getD c []) i f) (hg:Dl (ws.getD d []) j g) (hp: ∀k,f k=g k)
  (hl:L d=if aD (rd (ws.getD d []) j)=aD (rd (ws.getD c []) i) then L c else !L c) (hs:f=sq (ws.getD c []) i):
  N c i (f 0)≠N d j (g 0)/\N c i (ar (f 0))≠N d j (ar (g 0))/\decide (N c i (f 0)<N d j (g 0))=(if L c=true then decide (c<d) else decide (d<c))/\decide (N d j (ar (g 0))<N c i (ar (f 0)))=(if L c=true then decide (c<d) else decide (d<c)):=by
 have hw:=h.sw c hc
 have hv:=h.sw d hd
 have e:(if aD (f 0)=true then bJ (cI y ws L r M c i) (cI y ws L r M d j) else bJ (cI y ws L r M d j) (cI y ws L r M c i))=if L c=true then decide (c<d) else decide (d<c):=by
  have es:lA (ws.getD c []) i=lA (ws.getD d []) j:=by
   rw[sU h.yd hw hf,sU h.yd hv hg,show f=g from funext hp]
  have f0:f 0=rd (ws.getD c []) i:=by rw[hs];unfold sq;rw[show (i:Int)+0=i by omega]
  unfold cI
  rw[es,fq,fq,f0]
  have ym:L c=if aD (rd (ws.getD c []) i)=aD (rd (ws.getD d []) j) then L d else !L d:=by
   rw[hl]
   cases aD (rd (ws.getD d []) j)<;>cases aD (rd (ws.getD c []) i)<;>cases L c<;>rfl
  have e1:= @sX (ws.getD c []).length (ws.getD d []).length (r c) (r d) c d i j (L c) (aD (rd (ws.getD c []) i)) (aD (rd (ws.getD d []) j)) mO
  have e2:= @sX (ws.getD d []).length (ws.getD c []).length (r d) (r c) d c j i (L d) (aD (rd (ws.getD d []) j)) (aD (rd (ws.getD c []) i)) (Ne.symm mO)
  rw[<-hl]at e1
  rw[<-ym]at e2
  rw[e1,e2,hl]
  cases aD (rd (ws.getD d []) j)<;>cases aD (rd (ws.getD c []) i)<;>cases L c<;>rfl
 have:=hN.at h.yd hc hd hi hj hw hv hf hg (hp 0) (fun z=>mO (Prod.mk.inj z).1)
 rw[e]at this
 rw[<-hp 0]
 exact this
end
theorem vn {n k r i:Nat} (hr:0<r) (hn:n=k*r) (hi:i<n):(n - 1 - i) / r=k - 1 - i / r:=by
 have h1:=Z3 i r
 have h2:=ZO i hr
 have h3:i / r<k:=by
  rw[Qa5 hr];omega
 rw[Nat.div_eq_iff hr]
 obtain ⟨t,rfl⟩: ∃t,k=i / r+1+t:=⟨k - 1 - i / r,by omega⟩
 generalize hq:i / r=q at*
 rw[Nat.add_mul,Nat.add_mul,Nat.one_mul,Zk q r]at hn
 have e:q+1+t - 1 - q=t:=by omega
 rw[e]
 generalize r*q=A at*
 generalize t*r=B at*
 omega
theorem AE {r i j:Nat} (hr:0<r) (h:i%r=j%r) (dG:i≠j):(i / r<j / r↔i<j)/\i / r≠j / r:=by
 have h1:=Z3 i r
 have h2:=Z3 j r
 have sY:i / r≠j / r:=fun z=>dG (by rw[<-h1, <-h2,z,h])
 refine ⟨⟨fun q=>?_,fun q=>?_⟩,sY⟩
 ·have:r*(i / r+1)<=r*(j / r):=Nat.mul_le_mul_left r q
  rw[Nat.mul_add,Nat.mul_one]at this
  omega
 ·refine Classical.byContradiction fun z=>?_
  have h3:j / r+1<=i / r:=by omega
  have:r*(j / r+1)<=r*(i / r):=Nat.mul_le_mul_left r h3
  rw[Nat.mul_add,Nat.mul_one]at this
  omega
theorem xC {n k r c i j:Nat} {l low:Bool} (hr:0<r) (hn:n=k*r) (hi:i<n) (hj:j<n) (h:i%r=j%r) (dG:i≠j):(if low=true then bJ (Em n r l low c i) (Em n r l low c j) else bJ (Em n r l low c j) (Em n r l low c i))=decide (i<j):=by
 obtain ⟨d1,d2⟩:=AE hr h dG
 have e1:=vn hr hn hi
 have e2:=vn hr hn hj
 have b1:i / r<k:=by rw[Qa5 hr];omega
 have b2:j / r<k:=by rw[Qa5 hr];omega
 unfold Em
 cases low<;>cases l<;>simp only[if_true,if_false,Bool.true_eq_false,Zz]
 ·rw[e1,e2,sW (by omega)];exact decide_eq_decide.mpr (by omega)
 ·rw[sW (by omega)];exact decide_eq_decide.mpr (by omega)
 ·rw[e1,e2,sW (by omega)];exact decide_eq_decide.mpr (by omega)
 ·rw[sW (by omega)];exact decide_eq_decide.mpr (by omega)
noncomputable def fc (y w v:List Nat) (i j:Int):Int:=one (ac y (ar (rd w (i - 1))) (rd w i) (ar (rd v (j - 1))) (rd v j)=true)+one (0<al y (sq w i) (sq v j) (w.length+v.length))+one (0<al y (sq w i) (bq v j) (w.length+v.length))
section
variable {y:List Nat} {ws:List (List Nat)} {L:Nat->Bool} {r:Nat->Nat} {M:Nat} {N:Nat->Nat->Nat->Nat}
theorem sZ (ws:List (List Nat)) (N:Nat->Nat->Nat->Nat) (c:Nat) (k:Int):pO ws N c (k+(ws.getD c []).length)=pO ws N c k:=by unfold pO;rw[y_,eV]
theorem s_ (ws:List (List Nat)) (N:Nat->Nat->Nat->Nat) (c:Nat) (k:Int):pI ws N c (k+(ws.getD c []).length)=pI ws N c k:=by unfold pI;rw[y_,eV]
theorem eN.root (h:eN y ws L r M) {c:Nat} (hc:c<ws.length):(ws.getD c []).length=(ws.getD c []).length / r c*r c/\0<(ws.getD c []).length / r c:=by
 have hp:=h.rp c hc
 have hl:=S3.mpr (h.sw c hc).ne
 have h1:=(h.rr c hc (ws.getD c []).length 0).mp (fun k=>by
  have:=congrFun (jU (ws.getD c []) 0) k
  rwa [Zo]at this)
 rw[ZW]at h1
 have h2:(ws.getD c []).length%r c=0:=by
  have:((((ws.getD c []).length%r c:Nat)):Int)=0:=by rw[<-h1];rfl
  omega
 have h3:=Z3 (ws.getD c []).length (r c)
 rw[h2,Qbn,Zk]at h3
 refine ⟨h3.symm,Nat.pos_of_ne_zero fun z=>?_⟩
 rw[z,Nat.zero_mul]at h3
 omega
theorem AF (h:eN y ws L r M) (hN:Lies y ws L r M N) {c d:Nat} (hc:c<ws.length) (hd:d<ws.length) (mO:c≠d):
  cb (ws.getD c []).length (ws.getD d []).length (fun i j=>one (iI (pO ws N c) (pI ws N c) (pO ws N d) (pI ws N d) i j=true))=cb (ws.getD c []).length (ws.getD d []).length (fc y (ws.getD c []) (ws.getD d [])):=by
 have hw:=h.sw c hc
 have hv:=h.sw d hd
 have lw:=S3.mpr hw.ne
 have lv:=S3.mpr hv.ne
 have s0: ∀(w:List Nat) (i:Int),sq w i 0=rd w i:=fun w i=>by unfold sq;rw[show i+0=i by omega]
 have b0: ∀(w:List Nat) (i:Int),bq w i 0=ar (rd w i):=fun w i=>by unfold bq;rw[show i - 0=i by omega]
 have hS:=hN.two h hc hd
 have hO:=hN.Tq h hc hd
 rw[vh h.yd hw hv (sZ ws N c) (s_ ws N c) (sZ ws N d) (s_ ws N d) hS hO,FJ h.yd hw hv hS (if L c=true then decide (c<d) else decide (d<c)),FK h.yd hw hv hO (if L c=true then decide (c<d) else decide (d<c)), <-cB, <-cB]
 ·unfold fc
  omega
 ·intro i j p
  have p0:=p 0
  rw[s0,b0]at p0
  have lo:=fP _ (h.yd.lt _ (hv.rd j)).mem
  have:=hN.CG h hc hd mO (bL lw i) (bL lv j) (f:=sq (ws.getD c []) i) (g:=bq (ws.getD d []) j) (.inl (cJ hw.ne i).symm) (.inr (sV hv.ne j).symm) p (by
   rw[bY hw.ne,bY hv.ne,p0,lo,h.l2 c d i j hc hd p]
   cases aD (rd (ws.getD d []) j)<;>rfl) (cJ hw.ne i).symm
  rw[s0,b0,aF (h.yd.lt _ (hv.rd _))]at this
  exact this
 ·intro i j p
  have p0:=p 0
  rw[s0,s0]at p0
  have:=hN.CG h hc hd mO (bL lw i) (bL lv j) (f:=sq (ws.getD c []) i) (g:=sq (ws.getD d []) j) (.inl (cJ hw.ne i).symm) (.inl (cJ hv.ne j).symm) p (by
   rw[bY hw.ne,bY hv.ne,p0,if_pos rfl]
   exact (h.l1 c d i j hc hd p).symm) (cJ hw.ne i).symm
  rw[s0,s0]at this
  exact this
theorem xD (h:eN y ws L r M) (hN:Lies y ws L r M N) {c:Nat} (hc:c<ws.length):
  cb (ws.getD c []).length (ws.getD c []).length (fun i j=>one (iI (pO ws N c) (pI ws N c) (pO ws N c) (pI ws N c) i j=true))=cb (ws.getD c []).length (ws.getD c []).length (fc y (ws.getD c []) (ws.getD c []))+2*(((ws.getD c []).length / r c:Nat) - 1):=by
 have hw:=h.sw c hc
 have lw:=S3.mpr hw.ne
 have s0: ∀(w:List Nat) (i:Int),sq w i 0=rd w i:=fun w i=>by unfold sq;rw[show i+0=i by omega]
 have hS:=hN.two h hc hc
 have hO:=hN.Tq h hc hc
 obtain ⟨Hc,NT⟩:=h.root hc
 have Tr:=h.rp c hc
 have e0:cb (ws.getD c []).length (ws.getD c []).length (fun i j=>one (jV (ws.getD c []) (ws.getD c []) i j/\iI (pO ws N c) (pI ws N c) (pO ws N c) (pI ws N c) i j=true))=0:=by
  rw[show (0:Int)=cb (ws.getD c []).length (ws.getD c []).length (fun _ _=>0) by unfold cb;rw[show (fun _:Int=>sm (ws.getD c []).length fun _=>0)=fun _=>0 from funext fun _=>fQ _,fQ]]
  exact bp fun i j _ _=>a_ fun z=>sS h.yd hw _ _ z.1
 rw[vh h.yd hw hw (sZ ws N c) (s_ ws N c) (sZ ws N c) (s_ ws N c) hS hO,e0,CF h.yd hw hS Tr Hc NT, <-cB, <-cB]
 ·unfold fc
  omega
 ·intro j hj
  rw[h.rr c hc]
  constructor
  ·intro q
   have:(j:Int)%(r c:Int)=0:=by
    rw[Int.zero_sub]at q
    exact Int.emod_eq_zero_of_dvd (Int.dvd_neg.mp (Int.dvd_of_emod_eq_zero q))
   have h2:((j%r c:Nat):Int)=0:=by rw[<-this];rfl
   omega
  ·intro q
   have:(j:Int)%(r c:Int)=0:=by
    have h2:((j%r c:Nat):Int)=(j:Int)%(r c:Int):=rfl
    rw[<-h2,q];rfl
   rw[Int.zero_sub]
   exact Int.emod_eq_zero_of_dvd (Int.dvd_neg.mpr (Int.dvd_of_emod_eq_zero this))
 ·intro i j p dG
  have p0:=p 0
  rw[s0,s0]at p0
  have sY:i5 (ws.getD c []).length i≠i5 (ws.getD c []).length j:=fun z=>dG (by rw[<-eG lw, <-eG lw,z])
  have:=hN.at h.yd hc hc (bL lw i) (bL lw j) hw hw (f:=sq (ws.getD c []) i) (g:=sq (ws.getD c []) j) (.inl (cJ hw.ne i).symm) (.inl (cJ hw.ne j).symm) (p 0) (fun z=>sY (Prod.mk.inj z).2)
  have FL:i5 (ws.getD c []).length i%r c=i5 (ws.getD c []).length j%r c:=by
   have p':bP (ws.getD c []) (ws.getD c []) (i5 (ws.getD c []).length i:Nat) (i5 (ws.getD c []).length j:Nat):=fun k=>by rw[cJ hw.ne,cJ hw.ne];exact p k
   have q:=(h.rr c hc _ _).mp p'
   have q2:=Int.emod_eq_emod_iff_emod_sub_eq_zero.mpr q
   have q3:((i5 (ws.getD c []).length i%r c:Nat):Int)=((i5 (ws.getD c []).length j%r c:Nat):Int):=q2
   omega
  have es:lA (ws.getD c []) (i5 (ws.getD c []).length i:Nat)=lA (ws.getD c []) (i5 (ws.getD c []).length j:Nat):=by
   unfold lA
   rw[bY hw.ne,bY hw.ne,p0,cJ hw.ne,cJ hw.ne,sV hw.ne,sV hw.ne,show sq (ws.getD c []) i=sq (ws.getD c []) j from funext p, <-eF, <-eF,show sq (ws.getD c []) i=sq (ws.getD c []) j from funext p]
  have e:= @xC (ws.getD c []).length _ (r c) c _ _ (L c) (aD (rd (ws.getD c []) j)) Tr Hc (bL lw i) (bL lw j) FL sY
  unfold cI at this
  rw[es,fq,fq,s0,bY hw.ne,bY hw.ne,p0,e,decide_eq_decide.mpr (show i5 (ws.getD c []).length i<i5 (ws.getD c []).length j↔i%((ws.getD c []).length:Int)<j%((ws.getD c []).length:Int) by rw[<-eG lw, <-eG lw];omega)]at this
  unfold pO pI
  rw[p0]
  exact this
end
noncomputable def ue:Nat->(Int->Int->Int)->Int
 | 0,_=>0
 | n+1,h=>ue n h+sm n (fun j=>h j n)
theorem tf (n m:Nat) (h:Int->Int->Int):cb (n+1) m h=cb n m h+sm m (fun j=>h n j):=rfl
theorem tm (m:Nat) (h:Int->Int->Int): ∀n:Nat,cb n (m+1) h=cb n m h+sm n (fun i=>h i m)
 | 0=>rfl
 | n+1=>by
  rw[tf,tf,tm m h n]
  show cb n m h+sm n (fun i=>h i m)+(sm m (fun j=>h n j)+h n m)=cb n m h+sm m (fun j=>h n j)+(sm n (fun i=>h i m)+h n m)
  omega
theorem za {h:Int->Int->Int}: ∀{n:Nat},(∀i j:Nat,i<n->j<n->h i j=h j i)->(∀i:Nat,i<n->h i i=0)->cb n n h=2*ue n h
 | 0,_,_=>rfl
 | n+1,sy,dg=>by
  rw[tm,tf,za (n:=n) (fun i j hi hj=>sy i j (by omega) (by omega)) (fun i hi=>dg i (by omega))]
  show 2*ue n h+sm n (fun j=>h n j)+(sm n (fun i=>h i n)+h n n)=2*(ue n h+sm n (fun j=>h j n))
  rw[dg n (by omega),aI (h:=fun j=>h n j) (g:=fun j=>h j n) (fun j hj=>sy n j (by omega) (by omega))]
  omega
theorem lW {h g:Int->Int->Int}: ∀{n:Nat},(∀i j:Nat,i<j->j<n->h i j=g i j)->ue n h=ue n g
 | 0,_=>rfl
 | n+1,e=>by
  show ue n h+_=ue n g+_
  rw[lW (n:=n) fun i j h1 h2=>e i j h1 (by omega),aI (g:=fun j=>g j n) fun j hj=>e j n hj (by omega)]
section
variable {y:List Nat} {ws:List (List Nat)} {L:Nat->Bool} {r:Nat->Nat} {M:Nat} {N:Nat->Nat->Nat->Nat}
theorem Lies.inj (h:eN y ws L r M) (hN:Lies y ws L r M N) {c i d j e e':Nat} (hc:c<ws.length) (hd:d<ws.length) (hi:i<(ws.getD c []).length) (hj:j<(ws.getD d []).length) (he:e=rd (ws.getD c []) i\/e=ar (rd (ws.getD c []) i)) (yI:e'=rd (ws.getD d []) j\/e'=ar (rd (ws.getD d []) j))
  (dG:(c,i,e)≠(d,j,e')):N c i e≠N d j e':=by
 have ly: ∀{c i e:Nat},c<ws.length->(e=rd (ws.getD c []) i\/e=ar (rd (ws.getD c []) i))->e∈y:=fun hc he=>he.elim (fun z=>z▸(h.sw _ hc).rd _) fun z=>z▸h.yd.cl _ ((h.sw _ hc).rd _)
 have ye:=ly hc he
 have VU:=ly hd yI
 by_cases z:e=e'
 ·subst z
  have sY:(c,i)≠(d,j):=fun q=>dG (by rw[(Prod.mk.inj q).1,(Prod.mk.inj q).2])
  have le:=h.yd.lt _ ye
  have lc:=h.yd.lt _ ((h.sw c hc).rd i)
  have ld:=h.yd.lt _ ((h.sw d hd).rd j)
  by_cases l:aD e=true
  ·exact (hN.low c i d j e hc hd hi hj sY l (he.elim (fun z=> .inl z.symm) fun z=> .inr (by rw[z,aF lc])) (yI.elim (fun z=> .inl z.symm) fun z=> .inr (by rw[z,aF ld]))).1
  ·have:=(hN.low c i d j (ar e) hc hd hi hj sY (by rw[fP _ le.mem];simpa using l) (by rw[aF le];exact he.elim (fun z=> .inr z.symm) fun z=> .inl (by rw[z,aF lc])) (by rw[aF le];exact yI.elim (fun z=> .inr z.symm) fun z=> .inl (by rw[z,aF ld]))).2.1
   rwa [aF le]at this
 ·have n:=bW ye VU z
  rcases Zv n with q | q
  ·exact Yk (hN.sep c i d j e e' hc hd hi hj he yI q)
  ·exact Qav (hN.sep d j c i e' e hd hc hj hi yI he q)
theorem zc {n i j:Nat} {k:Int} (hi:i<n) (hj:j<n) (q:i5 n ((i:Int) - k)=i5 n ((j:Int) - k)):i=j:=by
 have lw:0<n:=Yx (Xy _) hi
 have q2:((i:Int) - k)%n=((j:Int) - k)%n:=by rw[<-eG lw, <-eG lw,q]
 have q3:=(Int.emod_sub_cancel_right k).mp q2
 rw[Yu (Qbm _) (Int.ofNat_lt.mpr hi),Yu (Qbm _) (Int.ofNat_lt.mpr hj)]at q3
 exact Qbh q3
theorem eI (h:eN y ws L r M) (hN:Lies y ws L r M N) {c d i j:Nat} (hc:c<ws.length) (hd:d<ws.length) (hi:i<(ws.getD c []).length) (hj:j<(ws.getD d []).length):
  pI ws N c ((i:Int) - 1)≠pO ws N d j/\((c,i)≠(d,j)->pI ws N c ((i:Int) - 1)≠pI ws N d ((j:Int) - 1)/\pO ws N c i≠pO ws N d j):=by
 have hw:=h.sw c hc
 have hv:=h.sw d hd
 have lw:=S3.mpr hw.ne
 have lv:=S3.mpr hv.ne
 have vo: ∀{c:Nat} (hw:SW y (ws.getD c [])) (k:Int),rd (ws.getD c []) k=rd (ws.getD c []) (i5 (ws.getD c []).length k:Nat)\/rd (ws.getD c []) k=ar (rd (ws.getD c []) (i5 (ws.getD c []).length k:Nat)):=fun hw k=> .inl (bY hw.ne k).symm
 have vi: ∀{c:Nat} (hw:SW y (ws.getD c [])) (k:Int),ar (rd (ws.getD c []) k)=rd (ws.getD c []) (i5 (ws.getD c []).length k:Nat)\/ar (rd (ws.getD c []) k)=ar (rd (ws.getD c []) (i5 (ws.getD c []).length k:Nat)):=fun hw k=> .inr (by rw[bY hw.ne k])
 refine ⟨hN.inj h hc hd (bL lw _) (bL lv _) (vi hw _) (vo hv _) fun q=>?_,fun dG=>⟨hN.inj h hc hd (bL lw _) (bL lv _) (vi hw _) (vi hv _) fun q=>?_,hN.inj h hc hd (bL lw _) (bL lv _) (vo hw _) (vo hv _) fun q=>?_⟩⟩
 ·obtain ⟨q1,q⟩:=Prod.mk.inj q
  obtain ⟨q2,q3⟩:=Prod.mk.inj q
  subst q1
  rw[<-bY hw.ne ((i:Int) - 1), <-bY hw.ne (j:Int),q2]at q3
  exact fE (h.yd.lt _ (hw.rd _)) q3
 ·obtain ⟨q1,q⟩:=Prod.mk.inj q
  subst q1
  exact dG (by rw[zc hi hj (Prod.mk.inj q).1])
 ·obtain ⟨q1,q⟩:=Prod.mk.inj q
  subst q1
  exact dG (by rw[zc (k:=0) hi hj (by rw[ZW,ZW];exact (Prod.mk.inj q).1)])
theorem FN (h:eN y ws L r M) (hN:Lies y ws L r M N) {c d:Nat} (hc:c<ws.length) (hd:d<ws.length) {i j:Nat} (hi:i<(ws.getD c []).length) (hj:j<(ws.getD d []).length):iI (pO ws N c) (pI ws N c) (pO ws N d) (pI ws N d) i j=iI (pO ws N d) (pI ws N d) (pO ws N c) (pI ws N c) j i:=by
 by_cases z:(c,i)=(d,j)
 ·obtain ⟨rfl,rfl⟩:=Prod.mk.inj z
  rfl
 have n:=eI h hN hc hd hi hj
 exact kN (eI h hN hc hc hi hi).1 (eI h hN hd hd hj hj).1 (n.2 z).1 n.1 (Ne.symm (eI h hN hd hc hj hi).1) (n.2 z).2
theorem CH (h:eN y ws L r M) (hN:Lies y ws L r M N) {c:Nat} (hc:c<ws.length):
  2*ue (ws.getD c []).length (fun i j=>one (iI (pO ws N c) (pI ws N c) (pO ws N c) (pI ws N c) i j=true))=cb (ws.getD c []).length (ws.getD c []).length (fc y (ws.getD c []) (ws.getD c []))+2*(((ws.getD c []).length / r c:Nat) - 1):=by
 rw[<-xD h hN hc]
 exact (za (fun i j hi hj=>by rw[FN h hN hc hc hi hj]) (fun i hi=>a_ (by unfold iI;rw[vf];decide))).symm
end
theorem CI {y:List Nat} {f g:Int->Nat} {a:Nat} (hy:Yd y) (hf:gI y f) (hg:gI y g) (h:f a=g a) (hn:f (a+1)≠g (a+1)):gn y g f a=!gn y f g a:=by
 have:eW y f (a+1)≠eW y g (a+1):=fun q=>hn (by
  unfold eW at q
  rw[show (a:Int)+1 - 1=a by omega, <-h]at q
  exact kM (hy.cl _ (hf.bH _)) (hf.bH _) (hg.bH _) q)
 unfold gn
 rw[<-decide_not]
 exact decide_eq_decide.mpr (by omega)
theorem xE {y:List Nat} {f g:Int->Nat} {b:Nat} (hy:Yd y) (hf:gI y f) (hg:gI y g) (h:f (-(b:Int))=g (-(b:Int))) (hn:f (-(b:Int) - 1)≠g (-(b:Int) - 1)):gy y g f b=!gy y f g b:=by
 have:eW y f (-(b:Int))≠eW y g (-(b:Int)):=fun q=>hn (by
  unfold eW at q
  rw[<-h]at q
  have r1:=hf.red (-(b:Int))
  have r2:=hg.red (-(b:Int))
  have c1:=(eX (hy.cl _ (hf.bH (-(b:Int) - 1))) (hf.bH (-(b:Int))) (Ne.symm r1)).2.2
  have c2:=(eX (hy.cl _ (hg.bH (-(b:Int) - 1))) (hf.bH (-(b:Int))) (by rw[h];exact Ne.symm r2)).2.2
  have:=kM (hf.bH (-(b:Int))) (hy.cl _ (hf.bH (-(b:Int) - 1))) (hy.cl _ (hg.bH (-(b:Int) - 1))) (by rw[c1,c2,q])
  exact dI (hy.lt _ (hf.bH _)) (hy.lt _ (hg.bH _)) this)
 unfold gy
 rw[<-decide_not]
 exact decide_eq_decide.mpr (by omega)
theorem Hk {y:List Nat} {f g:Int->Nat} (hy:Yd y) (hf:gI y f) (hg:gI y g):gz y f g->gz y g f:=fun ⟨a,r,x⟩=>⟨a,r.sy,by
 rw[CI hy hf hg (r.lU a (by omega) (by omega)) r.hi,xE hy hf hg (r.lU _ (by omega) (by omega)) r.lo]
 exact fun q=>x (by simpa using q)⟩
theorem xF {y:List Nat} {a b p q:Nat} (hy:Yd y) (ha:a∈y) (hb:b∈y) (hp:p∈y) (hq:q∈y) (qT:a≠b) (N2:p≠q):ac y a b p q=ac y p q a b:=by
 unfold ac
 by_cases z:p=a\/p=b\/q=a\/q=b
 ·rw[if_pos z,if_pos (z.elim (fun z=> .inl z.symm) fun z=>z.elim (fun z=> .inr (.inr (.inl z.symm))) fun z=>z.elim (fun z=> .inr (.inl z.symm)) fun z=> .inr (.inr (.inr z.symm)))]
 ·have n1:a≠p:=fun q=>z (.inl q.symm)
  have n2:b≠p:=fun q=>z (.inr (.inl q.symm))
  have n3:a≠q:=fun q=>z (.inr (.inr (.inl q.symm)))
  have n4:b≠q:=fun q=>z (.inr (.inr (.inr q.symm)))
  rw[if_neg z,if_neg (fun z=>z.elim n1 fun z=>z.elim n3 fun z=>z.elim n2 n4)]
  rw[eE hy.nd ha hp hb n1 qT (Ne.symm n2),eE hy.nd ha hq hb n3 qT (Ne.symm n4),eE hy.nd hp ha hq (Ne.symm n1) N2 n3,eE hy.nd hp hb hq (Ne.symm n2) N2 n4]
  exact kN (bW ha hb qT) (bW hp hq N2) (bW ha hp n1) (bW ha hq n3) (bW hb hp n2) (bW hb hq n4)
theorem CJ {Q:Int->Prop} {P:Nat->Bool}: ∀{m:Nat},(∀j:Nat,j<m->(Q j↔P j=true))->sm m (fun j=>one (Q j))=((List.range m).filter P).length
 | 0,_=>rfl
 | m+1,h=>by
  show sm m _+one (Q m)=_
  rw[CJ (m:=m) fun j hj=>h j (by omega),Y_,Zx,KW,bo (h m (by omega))]
  cases e:P m
  ·rw[Yt (by rw[e];decide),a_ (by decide)];simp
  ·rw[YC e,fk rfl];simp
section
variable {y w:List Nat}
end
section
variable {y w:List Nat}
end
section
variable {y:List Nat} {ws:List (List Nat)}
end
theorem ze (n:Nat) (h:Int->Int->Int): ∀m:Nat,sm n (fun i=>sm m fun j=>h i j)=sm m fun j=>sm n fun i=>h i j
 | 0=>fQ n
 | m+1=>by
  show cb n (m+1) h=sm m (fun j=>sm n fun i=>h i j)+sm n (fun i=>h i m)
  rw[tm, <-ze n h m]
  rfl
theorem lX (h:Nat->Int): ∀n:Nat,((List.range n).map h).sum=sm n (fun i=>h i.toNat)
 | 0=>rfl
 | n+1=>by
  rw[Y_,X9,List.sum_append,lX h n]
  show _=sm n _+h (((n:Nat):Int).toNat)
  rw[Xx]
  simp
theorem zf (ws:List (List Nat)) (h:Nat×Nat->Int): ∀n:Nat,((vc ws n).map h).sum=sm n fun c=>sm (ws.getD c.toNat []).length fun i=>h (c.toNat,i.toNat)
 | 0=>rfl
 | n+1=>by
  unfold vc
  rw[X9,List.sum_append,zf ws h n,YT]
  show _+((List.range _).map fun i=>h (n,i)).sum=_
  rw[lX]
  rfl
noncomputable def cl {α:Type} (p:α->α->Bool):List α->Nat
 | []=>0
 | x::r=>(r.filter (p x)).length+cl p r
theorem xG {α:Type} (p:α->α->Bool) (m:List α): ∀l:List α,(cl p (l++m):Int)=cl p l+cl p m+(l.map fun x=>((m.filter (p x)).length:Int)).sum
 | []=>by show (cl p m:Int)=((0:Nat):Int)+cl p m+0;omega
 | a::l=>by
  show ((((l++m).filter (p a)).length+cl p (l++m):Nat):Int)=(((l.filter (p a)).length+cl p l:Nat):Int)+cl p m+(((a::l).map fun x=>((m.filter (p x)).length:Int)).sum)
  rw[Zx,KW,Ym,Zr,YO,YO,xG p m l,YO]
  omega
theorem CK (p:Nat×Nat->Nat×Nat->Bool) (c:Nat): ∀n:Nat,(cl p ((List.range n).map fun i=>(c,i)):Int)=ue n (fun i j=>one (p (c,i.toNat) (c,j.toNat)=true))
 | 0=>rfl
 | n+1=>by
  rw[Y_,X9,xG,CK p c n,YT]
  show _+((0:Nat):Int)+((List.range n).map fun i=>((([(c,n)]:List (Nat×Nat)).filter (p (c,i))).length:Int)).sum=ue n _+sm n _
  rw[lX,Qai]
  congr 1
  rw[show ((0:Nat):Int)=0 from rfl,Zo]
  refine aI fun i _=>?_
  show (((([(c,n)]:List (Nat×Nat)).filter (p (c,i))).length:Int))=one (p (c,((i:Nat):Int).toNat) (c,((n:Nat):Int).toNat)=true)
  rw[Xx,Xx]
  cases e:p (c,i) (c,n)
  ·rw[Yt (by rw[e];decide),a_ (by decide)];rfl
  ·rw[YC e,fk rfl];rfl
theorem FO (P:Nat×Nat->Bool) (c n:Nat):((((List.range n).map fun i=>(c,i)).filter P).length:Int)=sm n (fun j=>one (P (c,j.toNat)=true)):=by
 rw[List.filter_map,Pd,CJ (P:=fun j=>P (c,j)) fun j _=>by rw[Xx]]
 rfl
theorem CL (ws:List (List Nat)) (p:Nat×Nat->Nat×Nat->Bool): ∀n:Nat,(cl p (vc ws n):Int)=sm n (fun c=>ue (ws.getD c.toNat []).length (fun i j=>one (p (c.toNat,i.toNat) (c.toNat,j.toNat)=true)))+ue n (fun c d=>cb (ws.getD c.toNat []).length (ws.getD d.toNat []).length fun i j=>one (p (c.toNat,i.toNat) (d.toNat,j.toNat)=true))
 | 0=>rfl
 | n+1=>by
  unfold vc
  rw[xG,CL ws p n,CK,zf]
  have u:((n:Nat):Int).toNat=n:=Xx n
  show _+_+sm n _=(sm n _+ue (ws.getD ((n:Nat):Int).toNat []).length (fun i j=>one (p (((n:Nat):Int).toNat,i.toNat) (((n:Nat):Int).toNat,j.toNat)=true)))+(ue n _+sm n (fun c=>cb (ws.getD c.toNat []).length (ws.getD ((n:Nat):Int).toNat []).length fun i j=>one (p (c.toNat,i.toNat) (((n:Nat):Int).toNat,j.toNat)=true)))
  rw[u]
  have:sm n (fun c=>sm (ws.getD c.toNat []).length fun i=>(((((List.range (ws.getD n []).length).map fun i=>(n,i)).filter (p (c.toNat,i.toNat))).length:Nat):Int))=sm n (fun c=>cb (ws.getD c.toNat []).length (ws.getD n []).length fun i j=>one (p (c.toNat,i.toNat) (n,j.toNat)=true)):=aI fun c _=>aI fun i _=>FO _ _ _
  rw[this]
  omega
section
variable {y:List Nat} {ws:List (List Nat)} {L:Nat->Bool} {r:Nat->Nat} {M:Nat} {N:Nat->Nat->Nat->Nat}
noncomputable def K4 (ws:List (List Nat)) (N:Nat->Nat->Nat->Nat) (o p:Nat×Nat):Bool:=iI (pO ws N o.1) (pI ws N o.1) (pO ws N p.1) (pI ws N p.1) o.2 p.2
end
def Lx (f g:Int->Nat):Prop:= ∃m:Nat,f m<g m/\ ∀l:Nat,l<m->f l=g l
theorem tu {w:List Nat} (hw:w≠[]) {i k:Nat} (hi:i<=w.length) (hk:k<w.length):(dm w i)[k]? =some (rd w ((i:Int)+k)):=by
 rw[nj hi hk]
 unfold Fw
 have:=eU hw ((i:Int)+k)
 rw[<-this]
 congr 1
 have e:(((k+i)%w.length:Nat):Int)=((i:Int)+k)%w.length:=by rw[Qam,YO,Qbw]
 omega
theorem CM {w u:List Nat} (hw:w≠[]) (hl:u.length=w.length) {i j:Nat} (hi:i<=w.length) (hj:j<=w.length):dm w i<dm u j↔Lx (sq w i) (sq u j):=by
 have hu:u≠[]:=fun z=>hw (by rw[z]at hl;exact Y0.mp hl.symm)
 have g1: ∀{k:Nat} (hk:k<(dm w i).length),(dm w i)[k]=sq w i k:=fun {k} hk=>by
  have:=tu hw hi (k:=k) (by rw[cH]at hk;exact hk)
  rw[IM hk]at this
  exact Yg this
 have g2: ∀{k:Nat} (hk:k<(dm u j).length),(dm u j)[k]=sq u j k:=fun {k} hk=>by
  have:=tu hu (i:=j) (k:=k) (by omega) (by rw[cH]at hk;exact hk)
  rw[IM hk]at this
  exact Yg this
 rw[List.lt_iff_exists]
 constructor
 ·rintro (⟨_,h⟩ | ⟨m,h1,h2,h3,h4⟩)
  ·rw[cH,cH,hl]at h;omega
  ·refine ⟨m,by rw[<-g1 h1, <-g2 h2];exact h4,fun l ym=>?_⟩
   rw[<-g1 (by omega), <-g2 (by omega)]
   exact h3 l ym
 ·rintro ⟨m,h1,h2⟩
  have hp:=S3.mpr hw
  have hm:m<w.length:=by
   refine Classical.byContradiction fun z=>?_
   have d:=Qa1 m w.length
   have c1:=hX (f:=sq w i) (p:=w.length) (fun k=>de w i k) (m%w.length:Nat) (m / w.length)
   have c2:=hX (f:=sq u j) (p:=w.length) (fun k=>by rw[<-hl];exact de u j k) (m%w.length:Nat) (m / w.length)
   have e:((m%w.length:Nat):Int)+((m / w.length:Nat):Int)*(w.length:Nat)=m:=by
    rw[Int.mul_comm];exact_mod_cast d
   rw[e]at c1 c2
   rw[c1,c2,h2 (m%w.length) (by have:=ZO m hp;omega)]at h1
   omega
  refine .inr ⟨m,by rw[cH];exact hm,by rw[cH,hl];exact hm,fun l ym=>?_,?_⟩
  ·rw[g1,g2];exact h2 l ym
  ·rw[g1,g2];exact h1
theorem kO {w:List Nat} (hw:w≠[]): ∃i:Nat,i<w.length/\fK w=dm w i:=by
 have hp:=S3.mpr hw
 rcases jR (kG w (w.length - 1)) w with h | h
 ·exact ⟨0,hp,by unfold fK;rw[h,u9]⟩
 ·unfold kG at h
  obtain ⟨k,hk,e⟩:=Yp.mp h
  have:=Y9.mp hk
  exact ⟨k+1,by omega,by unfold fK;exact e.symm⟩
theorem mL {w:List Nat} {i:Nat} (hi:i<w.length): ¬dm w i<fK w:=by
 unfold fK
 refine jS _ _ _ ?_
 cases i with
 | zero=>rw[u9];exact Vj
 | succ i=>exact SX _ (Yp.mpr ⟨i,Y9.mpr (by omega),rfl⟩)
noncomputable def leads (w:List Nat):Bool:=decide (fK w<fK (cG w))
theorem gp {v:List Nat} (h:v≠[]) (k:Int):sq (cG v) k=bq v (-1 - k):=by
 funext x
 unfold sq bq
 rw[hZ h]
 congr 2;omega
theorem lY {v:List Nat} (h:v≠[]):cG v≠[]:=fun z=>h (Y0.mp (by rw[<-bS v,z];rfl))
theorem qX {w:List Nat} (hw:w≠[]):leads w=true↔ ∃i:Int, ∀j:Int,Lx (sq w i) (bq w j):=by
 have hp:=S3.mpr hw
 have hl:=bS w
 have ht:=lY hw
 unfold leads
 rw[decide_eq_true_iff]
 constructor
 ·intro h
  obtain ⟨i,hi,ei⟩:=kO hw
  refine ⟨i,fun j=>?_⟩
  have hj:=bL (n:=(cG w).length) (by rw[hl];exact hp) (-1 - j)
  have h2:fK w<dm (cG w) (i5 (cG w).length (-1 - j)):=List.not_le.mp fun z=>by
   have:=List.lt_of_le_of_lt z h
   exact mL hj this
  rw[ei]at h2
  have h3:=(CM hw hl (by omega) (by omega)).mp h2
  rw[cJ ht,gp hw,show -1 - (-1 - j)=j by omega]at h3
  exact h3
 ·rintro ⟨i,h⟩
  obtain ⟨j,hj,ej⟩:=kO ht
  have h2:=h (-1 - j)
  rw[show (-1:Int) - (j:Int)= -1 - j by omega, <-gp hw, <-cJ hw]at h2
  have hi:=bL hp i
  have h3:=(CM hw hl (by omega) (by omega)).mpr h2
  rw[<-ej]at h3
  exact List.lt_of_le_of_lt (List.not_lt.mp (mL hi)) h3
theorem qY {w v:List Nat} (hw:w≠[]) (hv:v≠[]) {i j:Int} (h:bP w v i j):leads w=leads v:=by
 have e1: ∀k,sq w k=sq v (k - i+j):=fun k=>by
  funext x
  have:=h (k - i+x)
  unfold sq at this ⊢
  rw[show k+x=i+(k - i+x) by omega,this]
  congr 1;omega
 have e2: ∀k,bq w k=bq v (k - i+j):=fun k=>by rw[<-eF, <-eF,e1]
 rw[Z5,qX hw,qX hv]
 constructor
 ·rintro ⟨a,h⟩
  refine ⟨a - i+j,fun b=>?_⟩
  have:=h (b - j+i)
  rwa [e1,e2,show b - j+i - i+j=b by omega]at this
 ·rintro ⟨a,h⟩
  refine ⟨a - j+i,fun b=>?_⟩
  rw[e1,e2,show a - j+i - i+j=a by omega]
  exact h _
theorem qZ {y w:List Nat} (hy:Yd y) (hw:SW y w):leads (cG w)=!leads w:=by
 have hl:AllLt w:=fun c hc=>hy.lt c (hw.bH c hc)
 have ne:fK w≠fK (cG w):=fun z=>by
  obtain ⟨i,hi,ei⟩:=kO hw.ne
  obtain ⟨j,hj,ej⟩:=kO (lY hw.ne)
  rw[bS]at hj
  have: ∀k:Nat,k<w.length->sq w i k=sq (cG w) j k:=fun k hk=>by
   have h1:=tu hw.ne (i:=i) (k:=k) (by omega) hk
   have h2:=tu (lY hw.ne) (i:=j) (k:=k) (by rw[bS];omega) (by rw[bS];exact hk)
   rw[<-ei,z,ej,h2]at h1
   exact (Yg h1).symm
  refine sS hy hw i (-1 - j) ?_
  rw[<-gp hw.ne]
  have hp:=S3.mpr hw.ne
  refine fw (p:=w.length) (q:=w.length) hp hp (fun k=>de w i k) (fun k=>by rw[<-bS w];exact de (cG w) j k) fun n hn=>?_
  by_cases q:n<w.length
  ·exact this n q
  ·have c1:=de w i ((n - w.length:Nat):Int)
   have c2:=de (cG w) j ((n - w.length:Nat):Int)
   rw[show ((n - w.length:Nat):Int)+w.length=n by omega]at c1
   rw[bS,show ((n - w.length:Nat):Int)+w.length=n by omega]at c2
   rw[c1,c2]
   exact this _ (by omega)
 unfold leads
 rw[Fv hl, <-decide_not]
 refine decide_eq_decide.mpr ⟨fun h z=>?_,fun h=>?_⟩
 ·exact ZT _ (List.lt_trans h z)
 ·exact List.not_le.mp fun z=>ne (List.le_antisymm z (List.not_lt.mp h))
theorem AG {y w v:List Nat} (hy:Yd y) (hw:SW y w) (hv:SW y v) {i j:Int} (h: ∀k,sq w i k=bq v j k):leads v=!leads w:=by
 have:bP w (cG v) i (-1 - j):=fun k=>by rw[gp hv.ne,show -1 - (-1 - j)=j by omega];exact h k
 rw[qY hw.ne (lY hv.ne) this,qZ hy hv,Bool.not_not]
theorem CN {w:List Nat} (hw:w≠[]) {d:Nat}:vY w d↔ ∀k:Int,rd w (k+d)=rd w k:=by
 have hp:=S3.mpr hw
 have fr: ∀i:Nat,Fw w i=some (rd w i):=fun i=>by
  unfold Fw
  rw[<-eU hw (i:Int)]
  congr 1
 constructor
 ·intro h k
  have:=h (i5 w.length k)
  rw[fr,fr]at this
  have:=Yg this
  rw[bY hw]at this
  rw[<-this, <-hW w (k+d), <-hW w (((i5 w.length k+d:Nat)):Int),YO,eG hp,Qbv]
 ·intro h i
  rw[fr,fr,YO,h]
theorem ft {w:List Nat} (hw:w≠[]) {s:Nat} (h:bK w s):0<s/\ ∀i j:Int,bP w w i j↔(i - j)%(s:Int)=0:=by
 rcases h with ⟨z,_⟩ | h'
 ·exact absurd z hw
 have h:bK w s:= .inr h'
 obtain ⟨h1,h2,h3,_⟩:=h'
 have ps: ∀k:Int,rd w (k+s)=rd w k:=(CN hw).mp ((gm hw h2).mp (sF h1 h2 h3))
 have pm: ∀(k t:Int),rd w (k+t*s)=rd w k:=fun k t=>by
  rcases Int.le_total 0 t with q | q
  ·obtain ⟨n,rfl⟩: ∃n:Nat,t=n:=⟨t.toNat,by omega⟩
   exact hX ps k n
  ·obtain ⟨n,rfl⟩: ∃n:Nat,t= -(n:Int):=⟨(-t).toNat,by omega⟩
   have:=hX ps (k+ -(n:Int)*s) n
   rw[<-this]
   congr 1
   rw[Int.neg_mul];omega
 refine ⟨h1,fun i j=>⟨fun p=>?_,fun p k=>?_⟩⟩
 ·have pd: ∀k:Int,rd w (k+(i - j))=rd w k:=fun k=>by
   have:=p (k - j)
   unfold sq at this
   rw[show i+(k - j)=k+(i - j) by omega,show j+(k - j)=k by omega]at this
   exact this
  have e:=Qa9 (i - j) s
  have hn:=Y3 (i - j) (b:=(s:Int)) (by omega)
  have dB:=YV (i - j) (b:=(s:Int)) (by omega)
  refine Classical.byContradiction fun z=>?_
  obtain ⟨d,hd⟩: ∃d:Nat,(i - j)%(s:Int)=d:=⟨((i - j)%(s:Int)).toNat,by omega⟩
  refine bK.least h (j:=d) (by omega) (by omega) ((CN hw).mpr fun k=>?_)
  have q:=pd k
  rw[<-e,hd,Int.mul_comm, <-Qai,pm]at q
  exact q
 ·unfold sq
  have e:=Qa9 (i - j) s
  rw[p,Zo,Int.mul_comm]at e
  rw[show i+k=j+k+(i - j) by omega, <-e,pm]
theorem CO {y:List Nat} {ws:List (List Nat)} {r:Nat->Nat} {M:Nat} (hy:Yd y) (hw: ∀c,c<ws.length->SW y (ws.getD c [])) (hr: ∀c,c<ws.length->bK (ws.getD c []) (r c)) (hM: ∀c d,c<ws.length->d<ws.length->(ws.getD c []).length+(ws.getD d []).length<=M):eN y ws (fun c=>leads (ws.getD c [])) r M:=
 ⟨hy,hw,hM,fun c d i j hc hd h=>qY (hw c hc).ne (hw d hd).ne h,fun c d i j hc hd h=>AG hy (hw c hc) (hw d hd) h,fun c hc=>(ft (hw c hc).ne (hr c hc)).1,fun c hc=>(ft (hw c hc).ne (hr c hc)).2⟩
noncomputable def bs (y w v:List Nat) (i j:Int):Int:=one (ac y (ar (rd w (i - 1))) (rd w i) (ar (rd v (j - 1))) (rd v j)=true)+one (gz y (sq w i) (sq v j))+one (gz y (sq w i) (bq v j))
noncomputable def SS (y w v:List Nat):Int:=cb w.length v.length (bs y w v)
theorem Hl {y w v:List Nat} (hy:Yd y) (hw:SW y w) (hv:SW y v):cb w.length v.length (fc y w v)=SS y w v:=bp fun i j _ _=>by
 unfold fc bs
 rw[bo (yW (n:=w.length+v.length) hy (bf hw i) (bf hv j) fun z=>jn hw.ne hv.ne (fun k=>de w i k) (fun k=>de v j k) z),bo (yW (n:=w.length+v.length) hy (bf hw i) (fF hy hv j) fun z=>jn hw.ne hv.ne (fun k=>de w i k) (fun k=>ow v j k) z)]
theorem Hm (w:List Nat) (i:Int):rd w (i+w.length - 1)=rd w (i - 1):=by rw[show i+(w.length:Int) - 1=i - 1+w.length by omega,eV]
theorem N6 (y w v:List Nat) (i j:Int):bs y w v (i+w.length) j=bs y w v i j:=by unfold bs;rw[jU,eV,Hm]
def K5 (y:List Nat) (f g:Int->Nat):Prop:= ∃b,Run f g 0 b/\gn y f g 0≠gy y f g b
theorem CP {y:List Nat} {n m:Nat} {F G:Int->Int->Nat} (bF: ∀k,dA (F k)=F (k - 1)) (bG: ∀k,dA (G k)=G (k - 1)) (pF: ∀k,F (k+n)=F k) (pG: ∀k,G (k+m)=G k):cb n m (fun s t=>one (gz y (F s) (G t)))=cb n m fun s t=>one (K5 y (F s) (G t)):=by
 have key: ∀s t:Int,one (gz y (F s) (G t))+one (∃a b,Run (F (s - 1)) (G (t - 1)) (a+1) b/\gn y (F (s - 1)) (G (t - 1)) (a+1)≠gy y (F (s - 1)) (G (t - 1)) b)=one (K5 y (F s) (G t))+one (∃a b,Run (F s) (G t) (a+1) b/\gn y (F s) (G t) (a+1)≠gy y (F s) (G t) b):=fun s t=>by
  rw[<-bF, <-bG]
  generalize F s=f
  generalize G t=g
  by_cases X: ∃a b,Run f g a b/\gn y f g a≠gy y f g b
  ·obtain ⟨a,b,r,x⟩:=X
   have u: ∀{a' b'},Run f g a' b'->a'=a/\b'=b:=fun r'=>r'.one r
   have e1:one (gz y f g)+one (∃a b,Run (dA f) (dA g) (a+1) b/\gn y (dA f) (dA g) (a+1)≠gy y (dA f) (dA g) b)=1:=by
    cases b with
    | zero=>
     rw[fk ⟨a,r,x⟩,a_ (fun ⟨a',b',r',_⟩=>absurd (u r'.fd).2 (ZY _))]
     rfl
    | succ b=>
     rw[a_ (fun ⟨a',r',_⟩=>absurd (u r').2.symm (ZY _)),fk ⟨a,b,r.bk,by rw[kK,kL];exact x⟩]
     rfl
   have e2:one (K5 y f g)+one (∃a b,Run f g (a+1) b/\gn y f g (a+1)≠gy y f g b)=1:=by
    cases a with
    | zero=>
     rw[fk ⟨b,r,x⟩,a_ (fun ⟨a',b',r',_⟩=>absurd (u r').1 (ZY _))]
     rfl
    | succ a=>
     rw[a_ (fun ⟨b',r',_⟩=>absurd (u r').1.symm (ZY _)),fk ⟨a,b,r,x⟩]
     rfl
   rw[e1,e2]
  ·rw[a_ (fun ⟨a,r,x⟩=>X ⟨a,0,r,x⟩),a_ (fun ⟨a,b,r,x⟩=>X ⟨a,b+1,r.fd,by rw[kK,kL]at x;exact x⟩),a_ (fun ⟨b,r,x⟩=>X ⟨0,b,r,x⟩),a_ (fun ⟨a,b,r,x⟩=>X ⟨a+1,b,r,x⟩)]
 have sh:=qW (n:=n) (m:=m) (h:=fun s t=>one (∃a b,Run (F s) (G t) (a+1) b/\gn y (F s) (G t) (a+1)≠gy y (F s) (G t) b)) (fun i j=>by rw[pF]) (fun i j=>by rw[pG])
 refine (Int.add_left_inj (cb n m (fun s t=>one (∃a b,Run (F s) (G t) (a+1) b/\gn y (F s) (G t) (a+1)≠gy y (F s) (G t) b)))).mp ?_
 rw[<-cB n m (fun s t=>one (K5 y (F s) (G t))), <-sh, <-cB]
 exact bp fun i j _ _=>key i j
theorem Hn {y:List Nat} {f g:Int->Nat} (hy:Yd y) (hf:gI y f) (hg:gI y g):K5 y f g↔gz y (jw g) (jw f):=by
 have a1: ∀b:Nat,gn y (jw g) (jw f) b=gy y f g b:=fun b=>by
  unfold gn gy
  rw[iZ hy hf,iZ hy hg]
  exact decide_eq_decide.mpr ⟨fun q=>by omega,fun q=>by omega⟩
 have a2:gy y (jw g) (jw f) 0=gn y f g 0:=by
  unfold gn gy
  have e1:=iZ hy hf (-1)
  have e2:=iZ hy hg (-1)
  rw[show (-1:Int)+1= -((0:Nat):Int) from rfl]at e1 e2
  rw[e1,e2]
  exact decide_eq_decide.mpr ⟨fun q=>by have:(y.length:Int) - eW y g 1<y.length - eW y f 1:=q;show eW y f 1<eW y g 1;omega,fun q=>by have:eW y f 1<eW y g 1:=q;show (y.length:Int) - eW y g 1<y.length - eW y f 1;omega⟩
 constructor
 ·rintro ⟨b,r,x⟩
  exact ⟨b,(r.rv hy hf hg).sy,by rw[a1,a2];exact Ne.symm x⟩
 ·rintro ⟨b,r,x⟩
  have r2:=r.rv hy (hg.rv hy) (hf.rv hy)
  rw[mK hy hf,mK hy hg]at r2
  rw[a1,a2]at x
  exact ⟨b,r2.sy,Ne.symm x⟩
theorem tw {y:List Nat} {f g:Int->Nat} (hy:Yd y) (hf:gI y f) (hg:gI y g):gz y f g↔gz y g f:=⟨Hk hy hf hg,Hk hy hg hf⟩
theorem CQ (w:List Nat) (k:Int):dA (sq w k)=sq w (k - 1):=by
 funext x
 unfold dA sq
 congr 1
 omega
theorem N7 {y w:List Nat} (hy:Yd y) (h:SW y w) (i:Int):jw (bq w i)=sq w i:=by rw[<-eF,mK hy (bf h i)]
theorem FP {y w v:List Nat} (hy:Yd y) (hw:SW y w) (hv:SW y v):cb w.length v.length (fun i j=>one (gz y (bq w i) (bq v j)))=cb w.length v.length fun i j=>one (gz y (sq w i) (sq v j)):=by
 rw[CP (F:=sq w) (G:=sq v) (CQ w) (CQ v) (jU w) (jU v)]
 exact bp fun i j _ _=>bo (by rw[Hn hy (bf hw i) (bf hv j),eF,eF];exact tw hy (fF hy hw i) (fF hy hv j))
theorem CT {y w v:List Nat} (hy:Yd y) (hw:SW y w) (hv:SW y v):cb w.length v.length (fun i j=>one (gz y (bq w i) (sq v j)))=cb w.length v.length fun i j=>one (gz y (sq w i) (bq v j)):=by
 have fb: ∀k,dA (bq v (-k))=bq v (-(k - 1)):=fun k=>by
  funext x
  unfold dA bq
  congr 2
  omega
 have fp: ∀k:Int,bq v (-(k+v.length))=bq v (-k):=fun k=>by rw[show -(k+(v.length:Int))= -k - v.length by omega,JF]
 have e:=CP (y:=y) (n:=w.length) (m:=v.length) (F:=sq w) (G:=fun k=>bq v (-k)) (CQ w) fb (jU w) fp
 have n1: ∀H:Int->Int->Int,(∀i j,H i (j+v.length)=H i j)->cb w.length v.length (fun i j=>H i (-j))=cb w.length v.length H:=fun H P=>aI fun i _=>oB (h:=H i) fun k=>P i k
 rw[n1 (fun i j=>one (gz y (sq w i) (bq v j))) (fun i j=>by rw[i3]),n1 (fun i j=>one (K5 y (sq w i) (bq v j))) (fun i j=>by rw[i3])]at e
 rw[e]
 exact bp fun i j _ _=>bo (by rw[Hn hy (bf hw i) (fF hy hv j),eF,N7 hy hv];exact tw hy (fF hy hw i) (bf hv j))
theorem AH {y w:List Nat} (hy:Yd y) (h:SW y w) (i:Int):ar (rd w (i - 1))∈y/\rd w i∈y/\ar (rd w (i - 1))≠rd w i:=⟨hy.cl _ (h.rd _),h.rd _,Ne.symm (h.red i)⟩
theorem xH {y w v:List Nat} (hy:Yd y) (hw:SW y w) (hv:SW y v):SS y w v=SS y v w:=by
 have sw: ∀H:Int->Int->Int,cb v.length w.length (fun j i=>H i j)=cb w.length v.length H:=fun H=>ze _ _ _
 have e: ∀u z:List Nat,SS y u z=cb u.length z.length (fun i j=>one (ac y (ar (rd u (i - 1))) (rd u i) (ar (rd z (j - 1))) (rd z j)=true))+cb u.length z.length (fun i j=>one (gz y (sq u i) (sq z j)))+cb u.length z.length (fun i j=>one (gz y (sq u i) (bq z j))):=fun u z=>by
  unfold SS bs
  rw[cB,cB]
 rw[e w v,e v w, <-CT hy hw hv, <-sw, <-sw, <-sw]
 congr 1
 ·congr 1
  ·exact bp fun j i _ _=>by
    obtain ⟨a1,a2,a3⟩:=AH hy hw i
    obtain ⟨b1,b2,b3⟩:=AH hy hv j
    rw[xF hy a1 a2 b1 b2 a3 b3]
  ·exact bp fun j i _ _=>bo (tw hy (bf hw i) (bf hv j))
 ·exact bp fun j i _ _=>bo (tw hy (fF hy hw i) (bf hv j))
theorem Ho {h:Int->Int} {n:Nat} (P: ∀k,h (k+n)=h k): ∀k:Nat,sm n (fun i=>h (i+k))=sm n h
 | 0=>aI fun i _=>by rw[show (i:Int)+((0:Nat):Int)=i by omega]
 | k+1=>by
  rw[<-Ho P k, <-nz (h:=fun i=>h (i+k)) (n:=n) (fun j=>by rw[show j+(n:Int)+k=j+k+n by omega,P])]
  exact aI fun i _=>by rw[show (i:Int)+((k+1:Nat):Int)=i+1+k by omega]
theorem JJ {y w v:List Nat} (hw:w≠[]) {k:Nat} (hk:k<=w.length):SS y (dm w k) v=SS y w v:=by
 have r: ∀i,rd (dm w k) i=rd w (i+k):=sI hw hk
 have ls:(dm w k).length=w.length:=by unfold dm;rw[KW,Yc,Xw];omega
 have q: ∀i,sq (dm w k) i=sq w (i+k):=fun i=>by
  funext x
  unfold sq
  rw[r,show i+x+(k:Int)=i+k+x by omega]
 unfold SS
 rw[ls]
 show sm _ (fun i=>sm _ fun j=>bs y (dm w k) v i j)=sm _ fun i=>sm _ fun j=>bs y w v i j
 rw[<-Ho (h:=fun i=>sm v.length fun j=>bs y w v i j) (n:=w.length) (fun i=>aI fun j _=>N6 y w v i j) k]
 exact aI fun i _=>aI fun j _=>by
  unfold bs
  rw[q,r,r,show (i:Int) - 1+k=i+k - 1 by omega]
theorem FQ (y:List Nat) (a b p q:Nat):ac y a b q p=ac y a b p q:=by
 unfold ac
 have e:(q=a\/q=b\/p=a\/p=b)↔(p=a\/p=b\/q=a\/q=b):=⟨fun h=>by rcases h with h | h | h | h<;>simp[h],fun h=>by rcases h with h | h | h | h<;>simp[h]⟩
 by_cases z:p=a\/p=b\/q=a\/q=b
 ·rw[if_pos z,if_pos (e.mpr z)]
 ·rw[if_neg z,if_neg fun g=>z (e.mp g)]
  cases gr y a p b<;>cases gr y a q b<;>rfl
theorem JK {y w v:List Nat} (hy:Yd y) (hw:SW y w) (hv:SW y v):SS y (cG w) v=SS y w v:=by
 have e: ∀u z:List Nat,SS y u z=cb u.length z.length (fun i j=>one (ac y (ar (rd u (i - 1))) (rd u i) (ar (rd z (j - 1))) (rd z j)=true))+cb u.length z.length (fun i j=>one (gz y (sq u i) (sq z j)))+cb u.length z.length (fun i j=>one (gz y (sq u i) (bq z j))):=fun u z=>by
  unfold SS bs
  rw[cB,cB]
 have n1: ∀H:Int->Int->Int,(∀i j,H (i+w.length) j=H i j)->cb w.length v.length (fun i j=>H (-1 - i) j)=cb w.length v.length H:=fun H P=>by
  show sm _ (fun i=>sm _ fun j=>H (-1 - i) j)=sm _ fun i=>sm _ fun j=>H i j
  rw[<-oB (h:=fun i=>sm v.length fun j=>H i j) (n:=w.length) (fun i=>aI fun j _=>P i j), <-nz (h:=fun i=>sm v.length fun j=>H (-i) j) (n:=w.length) (fun i=>aI fun j _=>by rw[<-P (-(i+w.length)),show -(i+(w.length:Int))+w.length= -i by omega])]
  exact aI fun i _=>aI fun j _=>by rw[show -1 - (i:Int)= -((i:Int)+1) by omega]
 rw[e (cG w) v,e w v,bS, <-FP hy hw hv, <-CT hy hw hv, <-n1 (fun i j=>one (gz y (bq w i) (bq v j))) (fun i j=>by rw[i3]), <-n1 (fun i j=>one (gz y (bq w i) (sq v j))) (fun i j=>by rw[i3])]
 rw[show cb w.length v.length (fun i j=>one (gz y (sq (cG w) i) (sq v j)))=cb w.length v.length (fun i j=>one (gz y (bq w (-1 - i)) (sq v j))) from bp fun i j _ _=>by rw[gp hw.ne],show cb w.length v.length (fun i j=>one (gz y (sq (cG w) i) (bq v j)))=cb w.length v.length (fun i j=>one (gz y (bq w (-1 - i)) (bq v j))) from bp fun i j _ _=>by rw[gp hw.ne]]
 have ea:cb w.length v.length (fun i j=>one (ac y (ar (rd (cG w) (i - 1))) (rd (cG w) i) (ar (rd v (j - 1))) (rd v j)=true))=cb w.length v.length (fun i j=>one (ac y (ar (rd w (i - 1))) (rd w i) (ar (rd v (j - 1))) (rd v j)=true)):=by
  show sm _ (fun i=>sm _ fun j=>one (ac y (ar (rd (cG w) (i - 1))) (rd (cG w) i) (ar (rd v (j - 1))) (rd v j)=true))=sm _ fun i=>sm _ fun j=>one (ac y (ar (rd w (i - 1))) (rd w i) (ar (rd v (j - 1))) (rd v j)=true)
  rw[<-oB (h:=fun i=>sm v.length fun j=>one (ac y (ar (rd w (i - 1))) (rd w i) (ar (rd v (j - 1))) (rd v j)=true)) (n:=w.length) (fun i=>aI fun j _=>by rw[Hm,eV])]
  refine aI fun i _=>aI fun j _=>?_
  rw[hZ hw.ne,hZ hw.ne,aF (hy.lt _ (hw.rd _)),show -1 - ((i:Int) - 1)= -(i:Int) by omega,show -1 - (i:Int)= -(i:Int) - 1 by omega]
  obtain ⟨a1,a2,a3⟩:=AH hy hw (-(i:Int))
  obtain ⟨b1,b2,b3⟩:=AH hy hv j
  rw[xF hy a2 a1 b1 b2 (Ne.symm a3) b3,FQ, <-xF hy a1 a2 b1 b2 a3 b3]
 rw[ea,Qai,Qai]
 congr 1
 exact Qbw _ _
theorem jW {w:List Nat} (σ:Nat->Nat) (h:w≠[]) (k:Int):rd (w.map σ) k=σ (rd w k):=by
 have hl:=S3.mpr h
 have h1:=Y3 k (b:=(w.length:Int)) (by omega)
 have h2:=YV k (b:=(w.length:Int)) (by omega)
 have hi:(k%(w.length:Int)).toNat<w.length:=by omega
 unfold rd
 rw[Pd,Xv,Xv,Yb,IM hi]
 rfl
structure pY (y z:List Nat) (σ:Nat->Nat) (neg:Bool):Prop where
 yd:Yd y
 zd:Yd z
 RE: ∀a∈y,σ a∈z
 inj: ∀a∈y, ∀b∈y,σ a=σ b->a=b
 Hq: ∀a∈y,σ (ar a)=ar (σ a)
 gr: ∀a∈y, ∀b∈y, ∀c∈y,a≠b->a≠c->b≠c->gr z (σ a) (σ b) (σ c)=(neg ^^ gr y a b c)
section
variable {y z w v:List Nat} {σ:Nat->Nat} {neg:Bool}
theorem pY.sw (T:pY y z σ neg) (h:SW y w):SW z (w.map σ):=⟨fun q=>h.ne (List.map_eq_nil_iff.mp q),fun c hc=>by
 obtain ⟨a,ha,rfl⟩:=Yp.mp hc
 exact T.RE a (h.bH a ha),fun k=>by
 rw[jW σ h.ne,jW σ h.ne, <-T.Hq _ (h.rd _)]
 exact fun q=>h.red k (T.inj _ (h.rd _) _ (T.yd.cl _ (h.rd _)) q)⟩
theorem pY.bg (T:pY y z σ neg) {f g:Int->Nat} (hf:gI y f) (hg:gI y g) (VV:gI z fun k=>σ (f k)) (E7:gI z fun k=>σ (g k)):gz z (fun k=>σ (f k)) (fun k=>σ (g k))↔gz y f g:=by
 have ne: ∀k,f k≠g k->σ (f k)≠σ (g k):=fun k h q=>h (T.inj _ (hf.bH k) _ (hg.bH k) q)
 have run: ∀{a b},Run (fun k=>σ (f k)) (fun k=>σ (g k)) a b↔Run f g a b:=fun {a b}=>⟨fun r=>⟨fun k h1 h2=>T.inj _ (hf.bH k) _ (hg.bH k) (r.lU k h1 h2),fun q=>r.hi (by show σ _=σ _;rw[q]),fun q=>r.lo (by show σ _=σ _;rw[q])⟩,fun r=>⟨fun k h1 h2=>by show σ _=σ _;rw[r.lU k h1 h2],ne _ r.hi,ne _ r.lo⟩⟩
 have key: ∀a,Run f g a 0->gn z (fun k=>σ (f k)) (fun k=>σ (g k)) a=(neg ^^ gn y f g a)/\gy z (fun k=>σ (f k)) (fun k=>σ (g k)) 0=(neg ^^ gy y f g 0):=fun a r=>by
  have h0:=r.zero
  have ha:=r.lU a (by omega) (by omega)
  have r1:=hf.red (a+1)
  have r2:=hg.red (a+1)
  rw[show (a:Int)+1 - 1=a by omega]at r1 r2
  have lo:f (-1)≠g (-1):=r.lo
  have r3:=hf.red 0
  have r4:=hg.red 0
  rw[Int.zero_sub]at r3 r4
  constructor
  ·rw[sQ (by show σ _=σ _;rw[ha]),sQ ha]
   show My.gr z (ar (σ (f a))) _ _=_
   rw[<-T.Hq _ (hf.bH a)]
   exact T.gr _ (T.yd.cl _ (hf.bH a)) _ (hf.bH _) _ (hg.bH _) (Ne.symm r1) (by rw[ha];exact Ne.symm r2) r.hi
  ·rw[sP T.zd VV E7 (by show σ _=σ _;rw[h0]) (ne _ lo),sP T.yd hf hg h0 lo]
   show (!My.gr z (ar (σ (f (-1)))) (ar (σ (g (-1)))) (σ (f 0)))=_
   rw[<-T.Hq _ (hf.bH _), <-T.Hq _ (hg.bH _),T.gr _ (T.yd.cl _ (hf.bH _)) _ (T.yd.cl _ (hg.bH _)) _ (hf.bH 0) (fun q=>lo (dI (T.yd.lt _ (hf.bH _)) (T.yd.lt _ (hg.bH _)) q)) (Ne.symm r3) (by rw[h0];exact Ne.symm r4)]
   cases neg<;>cases My.gr y (ar (f (-1))) (ar (g (-1))) (f 0)<;>rfl
 constructor
 ·rintro ⟨a,r,x⟩
  have r':=run.mp r
  obtain ⟨k1,k2⟩:=key a r'
  rw[k1,k2]at x
  exact ⟨a,r',fun q=>x (by rw[q])⟩
 ·rintro ⟨a,r,x⟩
  obtain ⟨k1,k2⟩:=key a r
  refine ⟨a,run.mpr r,?_⟩
  rw[k1,k2]
  exact fun q=>x (by cases neg<;>cases h1:gn y f g a<;>cases h2:gy y f g 0<;>simp[h1,h2]at q ⊢)
theorem pY.ac (T:pY y z σ neg) {a b p q:Nat} (ha:a∈y) (hb:b∈y) (hp:p∈y) (hq:q∈y) (ab:a≠b):ac z (σ a) (σ b) (σ p) (σ q)=ac y a b p q:=by
 have e: ∀{a b},a∈y->b∈y->(σ a=σ b↔a=b):=fun {a b} ha hb=>⟨T.inj a ha b hb,fun q=>by rw[q]⟩
 unfold My.ac
 have e4:(σ p=σ a\/σ p=σ b\/σ q=σ a\/σ q=σ b)↔(p=a\/p=b\/q=a\/q=b):=by rw[e hp ha,e hp hb,e hq ha,e hq hb]
 by_cases c:p=a\/p=b\/q=a\/q=b
 ·rw[if_pos c,if_pos (e4.mpr c)]
 ·rw[if_neg c,if_neg fun z=>c (e4.mp z)]
  have n1:a≠p:=fun q=>c (.inl q.symm)
  have n2:p≠b:=fun q=>c (.inr (.inl q))
  have n3:a≠q:=fun q=>c (.inr (.inr (.inl q.symm)))
  have n4:q≠b:=fun q=>c (.inr (.inr (.inr q)))
  rw[T.gr a ha p hp b hb n1 ab n2,T.gr a ha q hq b hb n3 ab n4]
  cases neg<;>cases My.gr y a p b<;>cases My.gr y a q b<;>rfl
theorem pY.same (T:pY y z σ neg) (hw:SW y w) (hv:SW y v):SS z (w.map σ) (v.map σ)=SS y w v:=by
 have K6:=T.sw hw
 have O6:=T.sw hv
 have cm: ∀{u:List Nat} (hu:SW y u) (k:Int),ar (rd (u.map σ) k)=σ (ar (rd u k)):=fun {u} hu k=>by rw[jW σ hu.ne,T.Hq _ (hu.rd k)]
 have es: ∀{u:List Nat} (hu:SW y u) (i:Int),sq (u.map σ) i=fun k=>σ (sq u i k):=fun {u} hu i=>by
  funext k
  unfold sq
  exact jW σ hu.ne _
 have eb: ∀{u:List Nat} (hu:SW y u) (i:Int),bq (u.map σ) i=fun k=>σ (bq u i k):=fun {u} hu i=>by
  funext k
  unfold bq
  exact cm hu _
 unfold SS
 rw[Pd,Pd]
 refine bp fun i j _ _=>?_
 have b1:=T.bg (bf hw i) (bf hv j) (by rw[<-es hw];exact bf K6 i) (by rw[<-es hv];exact bf O6 j)
 have b2:=T.bg (bf hw i) (fF T.yd hv j) (by rw[<-es hw];exact bf K6 i) (by rw[<-eb hv];exact fF T.zd O6 j)
 obtain ⟨a1,a2,a3⟩:=AH T.yd hw i
 obtain ⟨c1,c2,c3⟩:=AH T.yd hv j
 unfold bs
 rw[cm hw,cm hv,jW σ hw.ne,jW σ hv.ne,T.ac a1 a2 c1 c2 a3,es hw,es hv,eb hv,bo b1,bo b2]
end
theorem AI {w v:List Nat} {s t:Nat} (hw:w≠[]) (hv:v≠[]) (h:bK w s) (g:bK v t) (e: ∀d:Int,bP w w d 0↔bP v v d 0):s=t:=by
 obtain ⟨p1,a⟩:=ft hw h
 obtain ⟨p2,b⟩:=ft hv g
 have key: ∀d:Nat,d%s=0↔d%t=0:=fun d=>by
  have k:=e d
  rw[a,b,ZW]at k
  have c1:((d%s:Nat):Int)=(d:Int)%(s:Int):=rfl
  have c2:((d%t:Nat):Int)=(d:Int)%(t:Int):=rfl
  rw[<-c1, <-c2]at k
  exact ⟨fun q=>Qbh (k.mp (by rw[q];rfl)),fun q=>Qbh (k.mpr (by rw[q];rfl))⟩
 exact Qa2 (Qbg p2 (Zw ((key t).mpr (Nat.mod_self t)))) (Qbg p1 (Zw ((key s).mp (Nat.mod_self s))))
theorem fu (w:List Nat) (d:Int):bP w w d 0↔ ∀k,rd w (d+k)=rd w k:=by
 unfold bP sq
 exact ⟨fun h k=>by have:=h k;rwa [Zo]at this,fun h k=>by rw[Zo];exact h k⟩
theorem FR {w:List Nat} (hw:w≠[]) {n:Nat} (hn:n<=w.length) (d:Int):bP (dm w n) (dm w n) d 0↔bP w w d 0:=by
 rw[fu,fu]
 have r: ∀i,rd (dm w n) i=rd w (i+n):=sI hw hn
 constructor
 ·intro h k
  have:=h (k - n)
  rw[r,r,show d+(k - (n:Int))+n=d+k by omega,show k - (n:Int)+n=k by omega]at this
  exact this
 ·intro h k
  rw[r,r,show d+k+(n:Int)=d+(k+n) by omega]
  exact h _
theorem CU {w:List Nat} (hw:w≠[]) {p:Nat} (hp:0<p) (d:Int):bP (fj p w) (fj p w) d 0↔bP w w d 0:=by
 rw[fu,fu]
 simp only[sJ hw hp]
theorem FT {y z w:List Nat} {σ:Nat->Nat} {neg:Bool} (T:pY y z σ neg) (hw:SW y w) (d:Int):bP (w.map σ) (w.map σ) d 0↔bP w w d 0:=by
 rw[fu,fu]
 simp only[jW σ hw.ne]
 exact ⟨fun h k=>T.inj _ (hw.rd _) _ (hw.rd _) (h k),fun h k=>by rw[h k]⟩
theorem FU {y w:List Nat} (hy:Yd y) (hw:SW y w) (d:Int):bP (cG w) (cG w) d 0↔bP w w d 0:=by
 rw[fu,fu]
 simp only[hZ hw.ne]
 constructor
 ·intro h k
  have:=h (-1 - d - k)
  rw[show -1 - (d+(-1 - d - k))=k by omega,show -1 - (-1 - d - k)=d+k by omega]at this
  exact (dI (hy.lt _ (hw.rd _)) (hy.lt _ (hw.rd _)) this).symm
 ·intro h k
  have:=h (-1 - (d+k))
  rw[<-this,show d+(-1 - (d+k))= -1 - k by omega]
theorem tD {y:List Nat} {e:Nat} (hn:y.Nodup) (he:e∈y):y.reverse.idxOf e=y.length - 1 - y.idxOf e:=by
 have hi:=Vh he
 have hr:=Zg.mpr he
 have hj:=Vh hr
 have uv:y.reverse.Nodup:=(Qaa y).nodup_iff.mpr hn
 refine N1 uv hj (by rw[Yo];omega) ?_
 rw[YU,List.getElem_reverse]
 have:y.length - 1 - (y.length - 1 - y.idxOf e)=y.idxOf e:=by omega
 simp only[this]
 exact (YU _).symm
theorem JL {a b:List Nat} {x y z:Nat} (hn:(a++b).Nodup) (hx:x∈a++b) (hy:y∈a++b) (hz:z∈a++b) (xy:x≠y) (xz:x≠z) (yz:y≠z):gr (b++a) x y z=gr (a++b) x y z:=by
 have pm: ∀{e:Nat},e∈a++b->e∈b++a:=fun {e} he=>Qa6.mem_iff.mp he
 rw[eE hn hx hy hz xy xz yz,eE (Qa6.nodup_iff.mp hn) (pm hx) (pm hy) (pm hz) xy xz yz]
 refine decide_eq_decide.mpr ?_
 rw[sN hn hx,sN hn hy,sN hn hz]
 have ix:=Vh hx
 have iy:=Vh hy
 have iz:=Vh hz
 rw[KW]at ix iy iz
 unfold iU
 split<;>split<;>split<;>omega
theorem FV {y:List Nat} {a b c:Nat} (hn:y.Nodup) (ha:a∈y) (hb:b∈y) (hc:c∈y) (qT:a≠b) (Bd:a≠c) (Be:b≠c):gr y.reverse a c b=gr y a b c:=by
 have pm: ∀{e:Nat},e∈y->e∈y.reverse:=fun {e} he=>Zg.mpr he
 rw[eE hn ha hb hc qT Bd Be,eE ((Qaa y).nodup_iff.mpr hn) (pm ha) (pm hc) (pm hb) Bd qT (Ne.symm Be)]
 refine decide_eq_decide.mpr ?_
 rw[tD hn ha,tD hn hb,tD hn hc]
 have ia:=Vh ha
 have ib:=Vh hb
 have ic:=Vh hc
 have n1:=bW ha hb qT
 have n2:=bW ha hc Bd
 have n3:=bW hb hc Be
 unfold iU
 omega
noncomputable def fR (y:List Nat):List Nat:=(y.filter aD).mergeSort fun a b=>decide (a<=b)
theorem jr (y:List Nat):(fR y).Perm (y.filter aD):=List.mergeSort_perm _ _
theorem vp (y:List Nat):(fR y).Pairwise (· <= ·):=
 (List.pairwise_mergeSort (le:=fun a b=>decide (a<=b)) (fun a b c h1 h2=>decide_eq_true (Yv (of_decide_eq_true h1) (of_decide_eq_true h2))) (fun a b=>by
  rcases Nat.le_total a b with z | z
  ·rw[decide_eq_true z];rfl
  ·rw[decide_eq_true z,Bool.or_true]) (y.filter aD)).imp fun z=>of_decide_eq_true z
theorem zg {y l:List Nat} (h:l.Perm (y.filter aD)) (p:l.Pairwise (· <= ·)):l=fR y:=Ax (h.trans (jr y).symm) p (vp y)
theorem CV {y:List Nat} (h:Yd y) {e:Nat} (he:e∈y):PyProof.Rows.lo1 e∈fR y:=by
 refine (jr y).mem_iff.mpr (YI.mpr ?_)
 rcases h.lt e he with z | z
 ·rw[(bj e z).2.1];exact ⟨he,(bj e z).1⟩
 ·rw[(bV e z).2.1];exact ⟨h.cl e he,(bj _ (bV e z).2.2.2).1⟩
theorem i6 {y:List Nat} (h:Yd y):2*(fR y).length=y.length:=by rw[(jr y).length_eq];exact Cs h
structure Pr where
 t:Addr
 c:Nat
 i:Nat
noncomputable def q0 (ps:List Pr):List V:=ps.map fun p=>V.ref p.t
theorem tE (ps:List Pr):(q0 ps).length=ps.length:=by unfold q0;rw[Pd]
theorem CY (a:List Pr) (p:Pr):q0 a++[V.ref p.t]=q0 (a++[p]):=by unfold q0;rw[X9];rfl
theorem FW (a:List Pr):(q0 a).reverse=q0 a.reverse:=by unfold q0;rw[Zt]
theorem CZ {ps:List Pr} {i:Nat} {x:V} (h:(q0 ps)[i]? =some x): ∃p,ps[i]? =some p/\x=V.ref p.t:=by
 unfold q0 at h
 rw[Yb]at h
 cases e:ps[i]? with
 | none=>rw[e]at h;cases h
 | some p=>rw[e]at h;cases h;exact ⟨p,rfl,rfl⟩
structure mX (H:Hp) (p:Pr):Prop where
 tp:H p.t=some (.tup [.int p.c, .int p.i])
 cz:p.c<1000
 iz:p.i<1000
theorem mX.same {H H':Hp} {p:Pr} (h:mX H p) (s:aq H H'):mX H' p:=⟨s _ _ h.tp,h.cz,h.iz⟩
structure Od where
 o:Addr
 ps:List Pr
structure AJ (H:Hp) (o:Od):Prop where
 tp:H o.o=some (.tup (q0 o.ps))
 pr: ∀p∈o.ps,mX H p
 fw:o.ps.length<=100
theorem AJ.same {H H':Hp} {o:Od} (h:AJ H o) (s:aq H H'):AJ H' o:=⟨s _ _ h.tp,fun p hp=>(h.pr p hp).same s,h.fw⟩
noncomputable def FX (os:List Od):List V:=os.map fun o=>V.ref o.o
theorem C0 (a:List Od) (p:Od):FX a++[V.ref p.o]=FX (a++[p]):=by unfold FX;rw[X9];rfl
theorem JM {os:List Od} {i:Nat} {o:Od} (h:os[i]? =some o):(FX os)[i]? =some (V.ref o.o):=by unfold FX;rw[Yb,h];rfl
structure xI (H:Hp) (dr:Addr) (ws:List (List Nat)) (os:List Od):Prop where
 ex: ∃wt ot,H dr=some (.tup [.ref wt, .ref ot])/\H wt=some (.tup (eB ws))/\H ot=some (.tup (FX os))
 od: ∀o∈os,AJ H o
theorem xI.same {H H':Hp} {dr:Addr} {ws:List (List Nat)} {os:List Od} (h:xI H dr ws os) (s:aq H H'):xI H' dr ws os:=by
 obtain ⟨⟨wt,ot,h1,h2,h3⟩,g⟩:=h
 exact ⟨⟨wt,ot,s _ _ h1,s _ _ h2,s _ _ h3⟩,fun o ho=>(g o ho).same s⟩
noncomputable def xJ (y:List Nat) (os:List Od) (e:Nat):List Pr:=((os[(fR y).idxOf (PyProof.Rows.lo1 e)]?).map Od.ps).getD []
noncomputable def nA (y:List Nat) (os:List Od) (e:Nat):List Pr:=if isUp e=true then (xJ y os e).reverse else xJ y os e
theorem i7 {y:List Nat} {os:List Od} {e:Nat} (h:Yd y) (he:e∈y) (ho:2*os.length=y.length): ∃o∈os,os[(fR y).idxOf (PyProof.Rows.lo1 e)]? =some o/\xJ y os e=o.ps:=by
 have hi:=Vh (CV h he)
 have hl:=i6 h
 have N8:(fR y).idxOf (PyProof.Rows.lo1 e)<os.length:=by omega
 exact ⟨os[(fR y).idxOf (PyProof.Rows.lo1 e)],YA N8,IM N8,by unfold xJ;rw[IM N8];rfl⟩
structure Pt where
 t:Addr
 c:Nat
 i:Nat
 e:Nat
noncomputable def En (ps:List Pt):List V:=ps.map fun p=>V.ref p.t
theorem zh (ps:List Pt):(En ps).length=ps.length:=by unfold En;rw[Pd]
theorem C1 (a:List Pt) (p:Pt):En a++[V.ref p.t]=En (a++[p]):=by unfold En;rw[X9];rfl
noncomputable def Pt.is (p:Pt):Nat×Nat×Nat:=(p.c,p.i,p.e)
structure pZ (H:Hp) (p:Pt):Prop where
 tp:H p.t=some (.tup [.int p.c, .int p.i, .str (S [p.e])])
 cz:p.c<1000
 iz:p.i<1000
 ez:p.e<128
theorem pZ.same {H H':Hp} {p:Pt} (h:pZ H p) (s:aq H H'):pZ H' p:=⟨s _ _ h.tp,h.cz,h.iz,h.ez⟩
theorem pZ.upd {H:Hp} {p:Pt} {q:Addr} {o:HO} (h:pZ H p) (n:p.t≠q):pZ (L2.upd H q o) p:=⟨by rw[aC n];exact h.tp,h.cz,h.iz,h.ez⟩
noncomputable def fL (y:List Nat) (os:List Od) (e:Nat):List (Nat×Nat×Nat):=(nA y os e).map fun p=>(p.c,p.i,e)
noncomputable def nB (y:List Nat) (os:List Od):List (Nat×Nat×Nat):=y.flatMap (fL y os)
noncomputable def Pr.pair (p:Pr):Nat×Nat:=(p.c,p.i)
noncomputable def xK (band l:Nat):Bool:=decide (l=band)||decide (l=ar band)
noncomputable def iA (band c:Nat) (w:List Nat) (n:Nat):List (Nat×Nat):=((List.range n).filter fun i=>xK band (w.getD i 0)).map fun i=>(c,i)
noncomputable def dh (band:Nat) (ws:List (List Nat)) (n:Nat):List (Nat×Nat):=(List.range n).flatMap fun c=>iA band c (ws.getD c []) (ws.getD c []).length
theorem xM {band c i l:Nat} {w:List Nat} (h:w[i]? =some l):iA band c w (i+1)=iA band c w i++if xK band l=true then [(c,i)] else []:=by
 have e:w.getD i 0=l:=by rw[Xv,h];rfl
 unfold iA
 rw[Y_,Zx,X9]
 congr 1
 by_cases z:xK band l=true
 ·rw[if_pos z,YC (by rw[e];exact z)];rfl
 ·rw[if_neg z,Yt (by rw[e];exact z)];rfl
theorem vq {band i:Nat} {ws:List (List Nat)} {w:List Nat} (h:ws[i]? =some w):dh band ws (i+1)=dh band ws i++iA band i w w.length:=by
 have e:ws.getD i []=w:=by rw[Xv,h];rfl
 unfold dh
 rw[Y_,YN]
 congr 1
 rw[YB,Qbz,YW,e]
structure N9 (y:List Nat) (ws:List (List Nat)):Prop where
 sr:ws.length<=4
 all: ∀w∈ws,(∀c∈w,c∈y)/\w.length<=12
def vv (y:List Nat) (ws:List (List Nat)) (os:List Od):Prop:=os.length=(fR y).length/\ ∀(j:Nat) (o:Od) (b:Nat),os[j]? =some o->(fR y)[j]? =some b->(o.ps.map Pr.pair).Perm (dh b ws ws.length)
def jD (_:PySem.W.Frag):Sp:=fun vs H Q _=> ∃(y:List Nat) (dr:Addr) (ws:List (List Nat)) (os:List Od) (e:Nat),vs=[.str (S y), .ref dr, .str (S [e])]/\Yd y/\y.length<=8/\e∈y/\2*os.length=y.length/\xI H dr ws os/\ ∀(q:Addr) (H':Hp),H q=none->H' q=some (.lst (q0 (nA y os e)))->aq H H'->Q (.ref q) H'
theorem oE {K:PySem.W.Frag} {vs:List V} {H:Hp} {Q:VK} {E:XK} (h:jD K vs H Q E):vs.length=3:=by obtain ⟨c,_,_,_,_,rfl,_⟩:=h;rfl
def q5 (_:PySem.W.Frag):Sp:=fun vs H Q _=> ∃(y:List Nat) (dr:Addr) (ws:List (List Nat)) (os:List Od),vs=[.str (S y), .ref dr]/\Yd y/\y.length<=8/\2*os.length=y.length/\xI H dr ws os/\ ∀(q:Addr) (ps:List Pt) (H':Hp),H q=none->H' q=some (.lst (En ps))->(∀p∈ps,pZ H' p/\p.t≠q)->ps.map Pt.is=nB y os->ps.length<=800->aq H H'->Q (.ref q) H'
theorem xN {K:PySem.W.Frag} {vs:List V} {H:Hp} {Q:VK} {E:XK} (h:q5 K vs H Q E):vs.length=2:=by obtain ⟨c,_,_,_,rfl,_⟩:=h;rfl
theorem FY {y:List Nat} {os:List Od} {e:Nat} {p:Pr} (h:Yd y) (he:e∈y) (ho:2*os.length=y.length) (hp:p∈nA y os e): ∃o∈os,p∈o.ps:=by
 obtain ⟨o,h1,h2,h3⟩:=i7 h he ho
 refine ⟨o,h1,?_⟩
 unfold nA at hp
 rw[h3]at hp
 split at hp
 ·exact Zg.mp hp
 ·exact hp
theorem FZ {H:Hp} {y:List Nat} {os:List Od} {e:Nat} (h:Yd y) (he:e∈y) (ho:2*os.length=y.length) (hd: ∀o∈os,AJ H o):(nA y os e).length<=100:=by
 obtain ⟨o,h1,h2,h3⟩:=i7 h he ho
 have:=(hd o h1).fw
 unfold nA
 rw[h3]
 split
 ·rw[Yo];exact this
 ·exact this
theorem mX.ts {H H':Hp} {p:Pr} (h:mX H p) (s:fJ H H'):mX H' p:=⟨s _ _ h.tp,h.cz,h.iz⟩
theorem C2 {band l:Nat} (hb:band∈aL) (hl:Lt l):decide (PyProof.Rows.lo1 l=band)=xK band l:=by
 unfold xK
 rcases hl with h | h
 ·have e:=(bj l h).2.1
  have n:l≠ar band:=fun z=>qS _ (bj band hb).2.2 (z▸h)
  rw[e,decide_eq_false n,Qbi]
 ·have e:=(bV l h).2.1
  have n:l≠band:=fun z=>qS l h (z▸hb)
  rw[e,decide_eq_false n,Qbk]
  refine decide_eq_decide.mpr ⟨fun z=>by rw[<-z,aF (.inr h)],fun z=>by rw[z,aF (.inl hb)]⟩
theorem VW {α:Type} {l:List α} (h:l.Nodup) {i j:Nat} (hi:i<l.length) (hj:j<l.length) (e:l[i]=l[j]):i=j:=by
 have hp:=Zi.mp h
 rcases Nat.lt_trichotomy i j with z | z | z
 ·exact absurd e (hp i j hi hj z)
 ·exact z
 ·exact absurd e.symm (hp j i hj hi z)
theorem q8 {l:List (Nat×Nat×Nat)} (h:l.Nodup) {n:Nat} {p:Nat×Nat×Nat} (e:l[n]? =some p):l.idxOf p=n:=by
 obtain ⟨hn,e2⟩:=IQ.mp e
 have hm:p∈l:=Ya e
 have hi:=Vh hm
 exact VW h hi hn ((YU hi).trans e2.symm)
theorem oF {α:Type} {f:Nat->List α} (g:α->Nat): ∀{l:List Nat},l.Nodup->(∀e∈l,(f e).Nodup)->(∀e∈l, ∀p∈f e,g p=e)->(l.flatMap f).Nodup
 | [],_,_,_=>Z_
 | a::l,hn,h1,h2=>by
  obtain ⟨n1,n2⟩:=Yw.mp hn
  rw[YB,YZ]
  refine ⟨h1 a Vj,oF g n2 (fun e he=>h1 e (SX _ he)) (fun e he=>h2 e (SX _ he)),fun x hx y hy z=>?_⟩
  subst z
  obtain ⟨e,he,VX⟩:=YF.mp hy
  have g1:=h2 a Vj x hx
  have g2:=h2 e (SX _ he) x VX
  exact n1 (by rw[<-g1,g2];exact he)
theorem C3 (band c:Nat) (w:List Nat) (n:Nat):(iA band c w n).Nodup:=by
 unfold iA
 show (List.map _ _).Pairwise (· ≠ ·)
 rw[YY]
 exact (List.nodup_range.filter _).imp fun {i j} h z=>h (by cases z;rfl)
theorem q9 (band:Nat) (ws:List (List Nat)) (n:Nat):(dh band ws n).Nodup:=
 oF Prod.fst List.nodup_range (fun c _=>C3 _ _ _ _) fun c _ p hp=>by
  unfold iA at hp
  obtain ⟨i,_,rfl⟩:=Yp.mp hp
  rfl
theorem xO {band c i n:Nat} {ws:List (List Nat)} (hc:c<n) (hi:i<(ws.getD c []).length) (hb:xK band ((ws.getD c []).getD i 0)=true):(c,i)∈dh band ws n:=
 YF.mpr ⟨c,Y9.mpr hc,Yp.mpr ⟨i,YI.mpr ⟨Y9.mpr hi,hb⟩,rfl⟩⟩
theorem vv.at {y:List Nat} {ws:List (List Nat)} {os:List Od} {e:Nat} (h:Yd y) (ho:vv y ws os) (he:e∈y):(((nA y os e).map Pr.pair)).Perm (dh (PyProof.Rows.lo1 e) ws ws.length):=by
 have hl:=i6 h
 have JN:=ho.1
 obtain ⟨o,o1,o2,o3⟩:=i7 (os:=os) h he (by omega)
 have hm:=CV h he
 have hb:(fR y)[(fR y).idxOf (PyProof.Rows.lo1 e)]? =some (PyProof.Rows.lo1 e):=by
  have hi:=Vh hm
  rw[IM hi,YU hi]
 have p:=ho.2 _ o _ o2 hb
 unfold nA
 rw[o3]
 split
 ·rw[Zt]
  exact (Qaa _).trans p
 ·exact p
theorem C5 {y:List Nat} {ws:List (List Nat)} {os:List Od} (h:Yd y) (ho:vv y ws os):(nB y os).Nodup:=by
 refine oF (fun p=>p.2.2) h.nd (fun e he=>?_) fun e _ p hp=>?_
 ·have hn:=(ho.at h he).nodup_iff.mpr (q9 _ _ _)
  have e1:fL y os e=((nA y os e).map Pr.pair).map fun x=>(x.1,x.2,e):=by unfold fL;rw[YT];rfl
  rw[e1]
  show (List.map _ _).Pairwise (· ≠ ·)
  rw[YY]
  exact hn.imp fun {a b} g z=>g (by cases a;cases b;cases z;rfl)
 ·unfold fL at hp
  obtain ⟨x,_,rfl⟩:=Yp.mp hp
  rfl
theorem C6 {y:List Nat} {ws:List (List Nat)} {os:List Od} {c i l e:Nat} {w:List Nat} (h:Yd y) (ho:vv y ws os) (hw:ws[c]? =some w) (hl:w[i]? =some l) (F_:l∈y) (he:e=l\/e=ar l):(c,i,e)∈nB y os:=by
 have dB:=h.lt l F_
 have Eo:e∈y:=by rcases he with rfl | rfl;exact F_;exact h.cl l F_
 have e1:PyProof.Rows.lo1 e=PyProof.Rows.lo1 l:=by
  rcases he with rfl | rfl
  ·rfl
  ·rcases dB with g | g
   ·rw[(bV _ (bj l g).2.2).2.1,(bj l g).2.1,aF (.inl g)]
   ·rw[(bj _ (bV l g).2.2.2).2.1,(bV l g).2.1]
 have hb:PyProof.Rows.lo1 l∈aL:=by
  rcases dB with g | g
  ·rw[(bj l g).2.1];exact g
  ·rw[(bV l g).2.1];exact (bV l g).2.2.2
 have VY:xK (PyProof.Rows.lo1 l) l=true:=by rw[<-C2 hb dB];exact decide_eq_true rfl
 have d1:ws.getD c []=w:=by rw[Xv,hw];rfl
 have d2:w.getD i 0=l:=by rw[Xv,hl];rfl
 have hm:(c,i)∈(nA y os e).map Pr.pair:=by
  rw[(ho.at h Eo).mem_iff,e1]
  exact xO (IQ.mp hw).1 (by rw[d1];exact (IQ.mp hl).1) (by rw[d1,d2];exact VY)
 obtain ⟨p,hp,ep⟩:=Yp.mp hm
 refine YF.mpr ⟨e,Eo,Yp.mpr ⟨p,hp,?_⟩⟩
 have e2:p.c=c:=congrArg Prod.fst ep
 have e3:p.i=i:=congrArg Prod.snd ep
 rw[e2,e3]
noncomputable def tF (p:Nat×Nat×Nat):List Key:=[Sum.inl (p.1:Int),Sum.inl (p.2.1:Int),Sum.inr (S [p.2.2])]
theorem C7 {p q:Nat×Nat×Nat} (h:tF p=tF q):p=q:=by
 unfold tF at h
 injection h with h1 h2
 injection h2 with h2 h3
 injection h3 with h3 _
 have a1:(p.1:Int)=q.1:=Sum.inl.inj h1
 have a2:(p.2.1:Int)=q.2.1:=Sum.inl.inj h2
 have a3:[p.2.2]=[q.2.2]:=by
  have:=Sum.inr.inj h3
  rw[<-eS [p.2.2],this,eS]
 have a4:p.2.2=q.2.2:=by simpa using a3
 exact Prod.ext (by omega) (Prod.ext (by omega) a4)
def Nums (ps:List (Nat×Nat×Nat)) (aQ:List (List Key×V)) (n:Nat):Prop:= ∀p∈ps.take n,dE aQ (tF p)=some (.int (ps.idxOf p:Nat))
theorem Nums.put {ps:List (Nat×Nat×Nat)} {aQ:List (List Key×V)} {n:Nat} {p:Nat×Nat×Nat} (h:Nums ps aQ n) (hn:ps.Nodup) (e:ps[n]? =some p):Nums ps (putK aQ (tF p) (.int (n:Nat))) (n+1):=fun r hr=>by
 rw[B2]
 by_cases z:r=p
 ·rw[if_pos (by rw[z]),z,q8 hn e]
 ·rw[if_neg fun g=>z (C7 g)]
  rw[<-take_snoc e]at hr
  exact h r ((Yi.mp hr).resolve_right fun g=>z (Vk.mp g))
noncomputable def vZ (n i:Nat):Nat:=if i=0 then n - 1 else i - 1
theorem xP {n i:Nat} (h:i<n):vZ n i<n:=by unfold vZ;split<;>omega
theorem zi {n i:Nat} (h:i<n):((i:Int) - 1)%(n:Int)=((vZ n i:Nat):Int):=by
 unfold vZ
 split
 ·rename_i z
  subst z
  have:((0:Nat):Int) - 1+(n:Int)=((n - 1:Nat):Int):=by omega
  rw[<-Zy,this]
  exact Yu (by omega) (by omega)
 ·have:(i:Int) - 1=((i - 1:Nat):Int):=by omega
  rw[this]
  exact Yu (by omega) (by omega)
noncomputable abbrev C4:=Nat×Nat×Nat×Nat
noncomputable def jE (ps:List (Nat×Nat×Nat)) (c:Nat) (w:List Nat) (i:Nat):C4:=(c,i,ps.idxOf (c,vZ w.length i,ar (w.getD (vZ w.length i) 0)),ps.idxOf (c,i,w.getD i 0))
noncomputable def lZ (ps:List (Nat×Nat×Nat)) (c:Nat) (w:List Nat) (n:Nat):List C4:=(List.range n).map (jE ps c w)
noncomputable def gq (ps:List (Nat×Nat×Nat)) (ws:List (List Nat)) (n:Nat):List C4:=(List.range n).flatMap fun c=>lZ ps c (ws.getD c []) (ws.getD c []).length
theorem vw (ps:List (Nat×Nat×Nat)) (c:Nat) (w:List Nat) (n:Nat):lZ ps c w (n+1)=lZ ps c w n++[jE ps c w n]:=by unfold lZ;rw[Y_,X9];rfl
theorem tG {ps:List (Nat×Nat×Nat)} {ws:List (List Nat)} {i:Nat} {w:List Nat} (h:ws[i]? =some w):gq ps ws (i+1)=gq ps ws i++lZ ps i w w.length:=by
 have e:ws.getD i []=w:=by rw[Xv,h];rfl
 unfold gq
 rw[Y_,YN]
 congr 1
 rw[YB,Qbz,YW,e]
structure Q4 where
 t:Addr
 v:C4
noncomputable def AK (qs:List Q4):List V:=qs.map fun q=>V.ref q.t
theorem zj (qs:List Q4):(AK qs).length=qs.length:=by unfold AK;rw[Pd]
theorem C8 (a:List Q4) (q:Q4):AK a++[V.ref q.t]=AK (a++[q]):=by unfold AK;rw[X9];rfl
theorem JO {qs:List Q4} {i:Nat} {x:V} (h:(AK qs)[i]? =some x): ∃q,qs[i]? =some q/\x=V.ref q.t:=by
 unfold AK at h
 rw[Yb]at h
 cases e:qs[i]? with
 | none=>rw[e]at h;cases h
 | some p=>rw[e]at h;cases h;exact ⟨p,rfl,rfl⟩
def p7 (H:Hp) (q:Q4):Prop:=H q.t=some (.tup [.int q.v.1, .int q.v.2.1, .int q.v.2.2.1, .int q.v.2.2.2])
theorem p7.ts {H H':Hp} {q:Q4} (h:p7 H q) (s:fJ H H'):p7 H' q:=s _ _ h
noncomputable def q_ (y:List Nat) (ws:List (List Nat)) (os:List Od):List C4:=gq (nB y os) ws ws.length
theorem N_ {y:List Nat} {os:List Od} {p:Pt} {ps:List Pt} (h:ps.map Pt.is=nB y os) {i:Nat} (hi:ps[i]? =some p):(nB y os)[i]? =some p.is:=by rw[<-h,Yb,hi];rfl
def gR (_:PySem.W.Frag):Sp:=fun vs H Q _=> ∃(w:List Nat) (c i:Nat),vs=[.str (S w), .int c, .int i]/\(∀l∈w,l<128)/\i<w.length/\w.length<=1000/\ ∀(t t1 t2:Addr) (H':Hp),H' t=some (.tup [.ref t1, .ref t2])->H' t1=some (.tup ((tF (c,vZ w.length i,ar (w.getD (vZ w.length i) 0))).map kV))->H' t2=some (.tup ((tF (c,i,w.getD i 0)).map kV))->aq H H'->Q (.ref t) H'
theorem kP {K:PySem.W.Frag} {vs:List V} {H:Hp} {Q:VK} {E:XK} (h:gR K vs H Q E):vs.length=3:=by obtain ⟨c,_,_,rfl,_⟩:=h;rfl
def oG (_:PySem.W.Frag):Sp:=fun vs H Q _=> ∃(y:List Nat) (dr:Addr) (ws:List (List Nat)) (os:List Od),vs=[.str (S y), .ref dr]/\Yd y/\y.length<=8/\N9 y ws/\vv y ws os/\xI H dr ws os/\ ∀(q:Addr) (qs:List Q4) (H':Hp),H q=none->H' q=some (.lst (AK qs))->(∀x∈qs,p7 H' x)->qs.map Q4.v=q_ y ws os->aq H H'->Q (.ref q) H'
theorem vx {K:PySem.W.Frag} {vs:List V} {H:Hp} {Q:VK} {E:XK} (h:oG K vs H Q E):vs.length=2:=by obtain ⟨c,_,_,_,rfl,_⟩:=h;rfl
theorem Ga {y:List Nat} {os:List Od} {i m e:Nat} {p:Pr} (he:y[i]? =some e) (hp:(nA y os e)[m]? =some p):(nB y os)[((y.take i).flatMap (fL y os)).length+m]? =some (p.c,p.i,e):=by
 obtain ⟨hi,e1⟩:=IQ.mp he
 have hy:y=y.take i++e::y.drop (i+1):=by
  rw[<-e1, <-YR hi,YM]
 have h1:nB y os=(y.take i).flatMap (fL y os)++(fL y os e++(y.drop (i+1)).flatMap (fL y os)):=by
  unfold nB
  conv=>lhs;arg 2;rw[hy]
  rw[YN,YB]
 have h2:(fL y os e)[m]? =some (p.c,p.i,e):=by unfold fL;rw[Yb,hp];rfl
 rw[h1,Y1 (Nat.le_add_right _ _),Nat.add_sub_cancel_left,YD (IQ.mp h2).1]
 exact h2
structure C9 (y:List Nat) (ws:List (List Nat)) (L:Nat->Bool) (r:Nat->Nat) (M:Nat) (os:List Od):Prop where
 ok:vv y ws os
 asc: ∀o∈os,(o.ps.map Pr.pair).Pairwise fun s t=>bJ (cI y ws L r M s.1 s.2) (cI y ws L r M t.1 t.2)=true
theorem xQ: ∀c∈aL++jQ,PyProof.Rows.lo1 (ar c)=PyProof.Rows.lo1 c/\isUp c=!aD c:=by decide+kernel
theorem AL {α:Type} {y:List Nat} (F:Nat->List α) {k k' e:Nat} (he:y[k]? =some e) (h:k<k'):((y.take k).flatMap F).length+(F e).length<=((y.take k').flatMap F).length:=by
 have e1:(y.take k').take (k+1)=y.take (k+1):=by rw[List.take_take,Y2 (by omega)]
 have e2:y.take k'=y.take (k+1)++(y.take k').drop (k+1):=by rw[<-e1,YM]
 rw[e2,YN,KW, <-take_snoc he,YN,KW]
 simp
theorem l_ {y:List Nat} {ws:List (List Nat)} {os:List Od} (hy:Yd y) (ho:vv y ws os) (hs: ∀c,c<ws.length->SW y (ws.getD c [])) {c i e:Nat} (hc:c<ws.length) (hi:i<(ws.getD c []).length) (he:e=rd (ws.getD c []) i\/e=ar (rd (ws.getD c []) i)):
  e∈y/\ ∃(m:Nat) (p:Pr),(nA y os e)[m]? =some p/\p.pair=(c,i)/\(nB y os).idxOf (c,i,e)=((y.take (y.idxOf e)).flatMap (fL y os)).length+m:=by
 have hw:=hs c hc
 have ey:e∈y:=he.elim (fun z=>z▸hw.rd _) fun z=>z▸hy.cl _ (hw.rd _)
 have xR:=C6 hy ho (c:=c) (i:=i) (l:=rd (ws.getD c []) i) (e:=e) (w:=ws.getD c []) (by rw[Xv,IM hc];rfl) (lS hi) (hw.rd _) he
 unfold nB at xR
 obtain ⟨e',yI,hp⟩:=YF.mp xR
 unfold fL at hp
 obtain ⟨p,zk,vX⟩:=Yp.mp hp
 obtain ⟨q1,Ts⟩:=Prod.mk.inj vX
 obtain ⟨q2,q3⟩:=Prod.mk.inj Ts
 clear Ts
 subst q3
 obtain ⟨m,hm,em⟩:=Z7 zk
 have K7:(nA y os e')[m]? =some p:=by rw[IM hm,em]
 refine ⟨ey,m,p,K7,by unfold Pr.pair;rw[q1,q2],?_⟩
 have hk:y[y.idxOf e']? =some e':=by rw[IM (Vh ey),YU]
 have:=Ga (os:=os) hk K7
 rw[q1,q2]at this
 exact q8 (C5 hy ho) this
theorem C_ (y:List Nat) (os:List Od) (e:Nat):(fL y os e).length=(nA y os e).length:=by unfold fL;rw[Pd]
theorem Dc {l:List Pr} {y:List Nat} {ws:List (List Nat)} {L:Nat->Bool} {r:Nat->Nat} {M:Nat} (h:(l.map Pr.pair).Pairwise fun s t=>bJ (cI y ws L r M s.1 s.2) (cI y ws L r M t.1 t.2)=true) {m n c i d j:Nat} {p q:Pr} (hp:l[m]? =some p) (hq:l[n]? =some q) (ep:p.pair=(c,i)) (eq:q.pair=(d,j)) (dG:(c,i)≠(d,j)):
  m≠n/\decide (m<n)=bJ (cI y ws L r M c i) (cI y ws L r M d j):=by
 have Pu:m≠n:=fun z=>dG (by rw[z,hq]at hp;rw[<-ep, <-eq,Yg hp])
 obtain ⟨hm,em⟩:=IQ.mp hp
 obtain ⟨hn,en⟩:=IQ.mp hq
 refine ⟨Pu,?_⟩
 have key:=Zi.mp h
 by_cases z:m<n
 ·have:=key m n (by rw[Pd];exact hm) (by rw[Pd];exact hn) z
  rw[Qak,Qak,em,en,ep,eq]at this
  rw[decide_eq_true z]
  exact this.symm
 ·have:=key n m (by rw[Pd];exact hn) (by rw[Pd];exact hm) (by omega)
  rw[Qak,Qak,em,en,ep,eq]at this
  rw[decide_eq_false z]
  exact (lT this).1.symm
theorem zm {α:Type} {l:List α} {m:Nat} {p:α} (h:l.reverse[m]? =some p):m<l.length/\l[l.length - 1 - m]? =some p:=by
 obtain ⟨hm,_⟩:=IQ.mp h
 rw[Yo]at hm
 rw[ZG hm]at h
 exact ⟨hm,h⟩
theorem lies_of {y:List Nat} {ws:List (List Nat)} {L:Nat->Bool} {r:Nat->Nat} {M:Nat} {os:List Od} (hy:Yd y) (hs: ∀c,c<ws.length->SW y (ws.getD c [])) (h:C9 y ws L r M os):Lies y ws L r M fun c i e=>(nB y os).idxOf (c,i,e):=by
 have ol:2*os.length=y.length:=by rw[h.ok.1];exact i6 hy
 refine ⟨fun c i d j e e' hc hd hi hj he yI dB=>?_,fun c i d j x hc hd hi hj dG hx Ni VZ=>?_⟩
 ·obtain ⟨ey,m,p,hm,_,e1⟩:=l_ hy h.ok hs hc hi he
  obtain ⟨XA,m',p',K7,_,e2⟩:=l_ hy h.ok hs hd hj yI
  rw[e1,e2]
  have hk:y[y.idxOf e]? =some e:=by rw[IM (Vh ey),YU]
  have:=AL (fL y os) hk dB
  rw[C_]at this
  have Fj:=(IQ.mp hm).1
  omega
 ·have lc:Lt (rd (ws.getD c []) i):=hy.lt _ ((hs c hc).rd _)
  have ld:Lt (rd (ws.getD d []) j):=hy.lt _ ((hs d hd).rd _)
  have vi:(x=rd (ws.getD c []) i\/x=ar (rd (ws.getD c []) i))/\(ar x=rd (ws.getD c []) i\/ar x=ar (rd (ws.getD c []) i))/\Lt x:=by
   rcases Ni with z | z
   ·exact ⟨.inl z.symm, .inr (by rw[z]),z▸lc⟩
   ·have V0:x<128/\x∈aL:=by
     have h9:97<=x/\x<=122:=by unfold aD at hx;simpa using hx
     refine ⟨by omega,?_⟩
     have: ∀k,k<26->k+97∈aL:=by decide
     have h8:=this (x - 97) (by omega)
     rwa [show x - 97+97=x by omega]at h8
    have lx:Lt x:= .inl V0.2
    exact ⟨.inr (by rw[z,aF lx]), .inl z.symm,lx⟩
  have lx:=vi.2.2
  have vj:(x=rd (ws.getD d []) j\/x=ar (rd (ws.getD d []) j))/\(ar x=rd (ws.getD d []) j\/ar x=ar (rd (ws.getD d []) j)):=by
   rcases VZ with z | z
   ·exact ⟨.inl z.symm, .inr (by rw[z])⟩
   ·exact ⟨.inr (by rw[z,aF lx]), .inl z.symm⟩
  obtain ⟨xy,m,p,hm,ep,e1⟩:=l_ hy h.ok hs hc hi vi.1
  obtain ⟨_,n,q,hn,eq,e2⟩:=l_ hy h.ok hs hd hj vj.1
  obtain ⟨_,m',p',K7,Mv,BM⟩:=l_ hy h.ok hs hc hi vi.2.1
  obtain ⟨_,n',q',O0,V1,JP⟩:=l_ hy h.ok hs hd hj vj.2
  obtain ⟨o,Tt,_,eo⟩:=i7 hy xy ol
  have V2:isUp x=false:=by rw[(xQ x lx.mem).2,hx];rfl
  have up1:isUp (ar x)=true:=by rw[(xQ _ lx.ar.mem).2,fP x lx.mem,hx];rfl
  have s0:nA y os x=o.ps:=by unfold nA;rw[V2,if_neg (by decide),eo]
  have s1:nA y os (ar x)=o.ps.reverse:=by
   unfold nA
   rw[up1,if_pos rfl]
   have:xJ y os (ar x)=xJ y os x:=by unfold xJ;rw[(xQ x lx.mem).1]
   rw[this,eo]
  rw[s0]at hm hn
  rw[s1]at K7 O0
  obtain ⟨b1,Fj⟩:=zm K7
  obtain ⟨b2,uv⟩:=zm O0
  have k1:=Dc (h.asc o Tt) hm hn ep eq dG
  have k2:=Dc (h.asc o Tt) Fj uv Mv V1 dG
  rw[e1,e2,BM,JP]
  refine ⟨by omega,by omega,?_,?_⟩
  ·rw[<-k1.2];exact decide_eq_decide.mpr (by omega)
  ·rw[<-k2.2];exact decide_eq_decide.mpr (by omega)
noncomputable def nC (st:Nat->Nat) (T R:List Nat):List Nat:=T.filter fun x=>R.any fun e=>decide (st e=x)
noncomputable def AM (st:Nat->Nat) (T R:List Nat) (p:Nat):Nat:=if st p=p then 0 else ((nC st T (p::R)).filter fun x=>decide (st p<x)).length
noncomputable def Ep (st:Nat->Nat):List Nat->List Nat->Nat
 | _,[]=>0
 | T,p::R=>AM st T R p+Ep st (T++[p]) R
structure Dd (ch:List (Nat×Nat)) (st:Nat->Nat) (P:List Nat):Prop where
 lt: ∀x∈ch,x.1<x.2
 nd:(ch.flatMap fun x=>[x.1,x.2]).Nodup
 pm:P.Perm (ch.flatMap fun x=>[x.1,x.2])
 up:P.Pairwise (· < ·)
 st: ∀x∈ch,st x.1=x.1/\st x.2=x.1
section
variable {ch:List (Nat×Nat)} {st:Nat->Nat} {P:List Nat}
theorem Dd.pt (h:Dd ch st P) {p:Nat} (hp:p∈P): ∃x∈ch,p=x.1\/p=x.2:=by
 obtain ⟨x,hx,e⟩:=YF.mp (h.pm.mem_iff.mp hp)
 exact ⟨x,hx,by simpa using e⟩
theorem Dd.in1 (h:Dd ch st P) {x:Nat×Nat} (hx:x∈ch):x.1∈P/\x.2∈P:=⟨h.pm.mem_iff.mpr (YF.mpr ⟨x,hx,by simp⟩),h.pm.mem_iff.mpr (YF.mpr ⟨x,hx,by simp⟩)⟩
theorem vy: ∀{ch:List (Nat×Nat)},(ch.flatMap fun x=>[x.1,x.2]).Nodup-> ∀x∈ch, ∀z∈ch,(x.1=z.1\/x.2=z.2\/x.1=z.2)->x=z
 | [],_,x,hx,_,_,_=>absurd hx Yl
 | a::r,nd,x,hx,z,hz,e=>by
  rw[YB,YZ]at nd
  obtain ⟨n1,n2,n3⟩:=nd
  have inr: ∀z∈r,z.1∈r.flatMap (fun x=>[x.1,x.2])/\z.2∈r.flatMap (fun x=>[x.1,x.2]):=fun z hz=>⟨YF.mpr ⟨z,hz,by simp⟩,YF.mpr ⟨z,hz,by simp⟩⟩
  have a12:a.1≠a.2:=by
   rw[Yw]at n1
   simpa using n1.1
  rcases Vi.mp hx with rfl | GX<;>rcases Vi.mp hz with rfl | Fs
  ·rfl
  ·exfalso
   rcases e with e | e | e
   ·exact n3 x.1 (by simp) z.1 (inr z Fs).1 e
   ·exact n3 x.2 (by simp) z.2 (inr z Fs).2 e
   ·exact n3 x.1 (by simp) z.2 (inr z Fs).2 e
  ·exfalso
   rcases e with e | e | e
   ·exact n3 z.1 (by simp) x.1 (inr x GX).1 e.symm
   ·exact n3 z.2 (by simp) x.2 (inr x GX).2 e.symm
   ·exact n3 z.2 (by simp) x.1 (inr x GX).1 e.symm
  ·exact vy n2 x GX z Fs e
theorem De (h:Dd ch st P) {T R:List Nat} {p:Nat} (e:P=T++p::R) (hs:st p=p):nC st (T++[p]) R=nC st T (p::R)++[p]:=by
 obtain ⟨x,hx,hp⟩:=h.pt (p:=p) (by rw[e];simp)
 have JQ:p=x.1:=hp.elim id fun z=>by rw[z,(h.st x hx).2]at hs;rw[z, <-hs]
 have up:=h.up
 rw[e,Zl,Zh]at up
 obtain ⟨u1,⟨u2,u3⟩,u4⟩:=up
 have hR:x.2∈R:=by
  have:=(h.in1 hx).2
  rw[e]at this
  rcases Yi.mp this with q | q
  ·have:=u4 _ q p Vj
   have:=h.lt x hx
   omega
  ·rcases Vi.mp q with q | q
   ·have:=h.lt x hx
    omega
   ·exact q
 unfold nC
 rw[Zx]
 congr 1
 ·refine Qbr fun z hz=>?_
  rw[Ze,decide_eq_false (fun q=>by have:=u4 z hz p Vj;omega),Qbk]
 ·have:(R.any fun e=>decide (st e=p))=true:=List.any_eq_true.mpr ⟨x.2,hR,decide_eq_true (by rw[(h.st x hx).2,JQ])⟩
  rw[YC (p:=fun x=>R.any fun e=>decide (st e=x)) this]
  rfl
theorem erase_filter {s:Nat} {p q:Nat->Bool}: ∀{T:List Nat},T.Nodup->q s=true->p s=false->(∀x,x≠s->q x=p x)->(T.filter q).erase s=T.filter p
 | [],_,_,_,_=>rfl
 | a::T,nd,hq,hp,h=>by
  rw[Yw]at nd
  by_cases z:a=s
  ·subst z
   rw[YC hq,List.erase_cons_head,Yt (by rw[hp];decide)]
   exact Qbr fun x hx=>h x fun q=>nd.1 (q▸hx)
  ·have ih:=erase_filter nd.2 hq hp h
   cases e:p a
   ·rw[Yt (by rw[h a z,e];decide),Yt (by rw[e];decide)]
    exact ih
   ·rw[YC (by rw[h a z,e]),YC e,List.erase_cons_tail (by simpa using z),ih]
theorem JR (h:Dd ch st P) {T R:List Nat} {p:Nat} (e:P=T++p::R) (hs:st p≠p):nC st (T++[p]) R=(nC st T (p::R)).erase (st p)/\st p∈nC st T (p::R):=by
 obtain ⟨x,hx,hp⟩:=h.pt (p:=p) (by rw[e];simp)
 have JQ:p=x.2:=hp.elim (fun z=>absurd (by rw[z,(h.st x hx).1]) hs) id
 have mD:st p=x.1:=by rw[JQ,(h.st x hx).2]
 have up:=h.up
 rw[e,Zl,Zh]at up
 obtain ⟨u1,⟨u2,u3⟩,u4⟩:=up
 have only: ∀z∈R,st z≠x.1:=fun z hz q=>by
  obtain ⟨v,hv,NB⟩:=h.pt (p:=z) (by rw[e];simp[hz])
  have XB:=u2 z hz
  rcases NB with r | r
  ·rw[r,(h.st v hv).1]at q
   have:=vy h.nd v hv x hx (.inl q)
   subst this
   have:=h.lt v hv
   omega
  ·rw[r,(h.st v hv).2]at q
   have:=vy h.nd v hv x hx (.inl q)
   subst this
   omega
 have none: ∀z∈R,st z≠p:=fun z hz q=>by
  obtain ⟨v,hv,NB⟩:=h.pt (p:=z) (by rw[e];simp[hz])
  have:st z=v.1:=NB.elim (fun r=>by rw[r,(h.st v hv).1]) fun r=>by rw[r,(h.st v hv).2]
  rw[this,JQ]at q
  have:=vy h.nd v hv x hx (.inr (.inr q))
  subst this
  have:=h.lt v hv
  omega
 have hT:x.1∈T:=by
  have:=(h.in1 hx).1
  rw[e]at this
  have l:=h.lt x hx
  rcases Yi.mp this with q | q
  ·exact q
  ·rcases Vi.mp q with q | q
   ·omega
   ·have:=u2 _ q
    omega
 have nd:T.Nodup:=Qbt (fun h=>Yk h) u1
 have hq:((p::R).any fun e=>decide (st e=x.1))=true:=by rw[Ze,decide_eq_true mD];rfl
 refine ⟨?_,?_⟩
 ·rw[mD]
  unfold nC
  rw[Zx,Yt (by
   rw[Bool.not_eq_true,Qbs]
   exact fun z hz=>by simpa using none z hz),List.filter_nil,YW]
  refine (erase_filter nd hq ?_ fun z hz=>?_).symm
  ·rw[Qbs]
   exact fun z hz=>by simpa using only z hz
  ·rw[Ze,decide_eq_false (by rw[mD];exact Ne.symm hz),Qbk]
 ·rw[mD]
  exact YI.mpr ⟨hT,hq⟩
noncomputable def lB (x z:Nat×Nat):Bool:=decide (x.1<z.1)&&(decide (z.1<x.2)&&decide (x.2<z.2))
theorem Df (h:Dd ch st P) {T R:List Nat} {x:Nat×Nat} (hx:x∈ch) (e:P=T++x.2::R):AM st T R x.2=(ch.filter (lB x)).length:=by
 have l:=h.lt x hx
 have mD:=(h.st x hx).2
 have up:=h.up
 rw[e,Zl,Zh]at up
 obtain ⟨u1,⟨u2,u3⟩,u4⟩:=up
 unfold AM
 rw[if_neg (by omega),mD, <-Pd (as:=ch.filter (lB x)) (f:=Prod.fst)]
 refine List.Perm.length_eq ((List.perm_ext_iff_of_nodup ?_ ?_).mpr fun a=>?_)
 ·exact (Qbt (fun h=>Yk h) ((u1.filter _).filter _))
 ·have nd:(ch.map Prod.fst).Nodup:=by
   have: ∀{ch:List (Nat×Nat)},(ch.flatMap fun x=>[x.1,x.2]).Nodup->(ch.map Prod.fst).Nodup:=fun {ch}=>by
    induction ch with
    | nil=>exact fun _=>List.Pairwise.nil
    | cons a r ih=>
     intro nd
     rw[YB,YZ]at nd
     rw[Ym,Yw]
     refine ⟨fun q=>?_,ih nd.2.1⟩
     obtain ⟨z,hz,ez⟩:=Yp.mp q
     exact nd.2.2 a.1 (by simp) z.1 (YF.mpr ⟨z,hz,by simp⟩) ez.symm
   exact this h.nd
  exact List.Nodup.sublist (List.Sublist.map _ List.filter_sublist) nd
 ·rw[YI,Yp]
  unfold nC
  rw[YI,decide_eq_true_iff,List.any_eq_true]
  constructor
  ·rintro ⟨⟨a1,p,hp,ep⟩,a2⟩
   have ep:=of_decide_eq_true ep
   obtain ⟨z,hz,RF⟩:=h.pt (p:=p) (by rw[e];exact Yq _ hp)
   have:st p=z.1:=RF.elim (fun r=>by rw[r,(h.st z hz).1]) fun r=>by rw[r,(h.st z hz).2]
   rw[this]at ep
   have ax:=u4 a a1 x.2 Vj
   have pz:p=z.2:=RF.elim (fun r=>by
    have:=u4 a a1 p hp
    omega) id
   have px:x.2<p:=by
    rcases Vi.mp hp with q | q
    ·rw[q]at pz
     have:=vy h.nd x hx z hz (.inr (.inl pz))
     subst this
     omega
    ·exact u2 p q
   refine ⟨z,YI.mpr ⟨hz,?_⟩,ep⟩
   unfold lB
   rw[YH,YH,decide_eq_true_iff,decide_eq_true_iff,decide_eq_true_iff]
   omega
  ·rintro ⟨z,hz,rfl⟩
   obtain ⟨hz,q⟩:=YI.mp hz
   unfold lB at q
   rw[YH,YH,decide_eq_true_iff,decide_eq_true_iff,decide_eq_true_iff]at q
   have i1:=(h.in1 hz).1
   have i2:=(h.in1 hz).2
   rw[e]at i1 i2
   refine ⟨⟨?_,z.2,?_,decide_eq_true (h.st z hz).2⟩,q.1⟩
   ·rcases Yi.mp i1 with r | r
    ·exact r
    ·rcases Vi.mp r with r | r
     ·omega
     ·have:=u2 _ r;omega
   ·rcases Yi.mp i2 with r | r
    ·have:=u4 _ r x.2 Vj;omega
    ·exact r
theorem Dg (h:Dd ch st P): ∀(R T:List Nat),P=T++R->Ep st T R=(R.map fun p=>if st p=p then 0 else (ch.filter (lB (st p,p))).length).sum
 | [],_,_=>rfl
 | p::R,T,e=>by
  rw[Ym,Zr, <-Dg h R (T++[p]) (by rw[e];simp)]
  show AM st T R p+_=_
  congr 1
  by_cases z:st p=p
  ·rw[if_pos z];unfold AM;rw[if_pos z]
  ·rw[if_neg z]
   obtain ⟨x,hx,hp⟩:=h.pt (p:=p) (by rw[e];simp)
   have JQ:p=x.2:=hp.elim (fun q=>absurd (by rw[q,(h.st x hx).1]) z) id
   have mD:st p=x.1:=by rw[JQ,(h.st x hx).2]
   rw[mD]
   subst JQ
   exact Df h hx e
theorem JS (h:Dd ch st P):Ep st [] P=(ch.map fun x=>(ch.filter (lB x)).length).sum:=by
 rw[Dg h P [] rfl,(h.pm.map _).sum_nat]
 have: ∀l:List (Nat×Nat),(∀x∈l,x∈ch)->(((l.flatMap fun x=>[x.1,x.2]).map fun p=>if st p=p then 0 else (ch.filter (lB (st p,p))).length).sum)=(l.map fun x=>(ch.filter (lB x)).length).sum:=fun l hl=>by
  induction l with
  | nil=>rfl
  | cons a r ih=>
   have ha:=h.st a (hl a Vj)
   have la:=h.lt a (hl a Vj)
   rw[YB,X9,List.sum_append_nat,ih fun x hx=>hl x (SX _ hx),Ym,Zr]
   congr 1
   show (if st a.1=a.1 then 0 else _)+((if st a.2=a.2 then 0 else (ch.filter (lB (st a.2,a.2))).length)+0)=_
   rw[if_pos ha.1,if_neg (by omega),ha.2,Qau,Qbn]
 exact this ch fun x hx=>hx
theorem AN {α:Type} (X:α->α->Bool) (hd: ∀x,X x x=false) (ha: ∀x z,X x z=true->X z x=false): ∀l:List α,(l.map fun x=>(l.filter (X x)).length).sum=cl (fun x z=>X x z||X z x) l:=fun l=>by
 have key: ∀(a:α) (l:List α),((l.filter fun z=>X a z||X z a)).length=(l.filter (X a)).length+(l.map fun z=>if X z a=true then 1 else 0).sum:=fun a l=>by
  induction l with
  | nil=>rfl
  | cons b r ih=>
   have:=ha a b
   simp only[List.filter_cons,Ym,Zr]
   cases e1:X a b<;>cases e2:X b a
   ·simp[ih]
   ·simp[ih];omega
   ·simp[ih];omega
   ·rw[this e1]at e2;cases e2
 induction l with
 | nil=>rfl
 | cons a r ih=>
  show (((a::r).map fun x=>((a::r).filter (X x)).length).sum)=(r.filter fun z=>X a z||X z a).length+cl _ r
  rw[Ym,Zr,Yt (by rw[hd a];decide),key a r, <-ih]
  have e: ∀l:List α,(l.map fun x=>((a::r).filter (X x)).length).sum=(l.map fun z=>if X z a=true then 1 else 0).sum+(l.map fun x=>(r.filter (X x)).length).sum:=fun l=>by
   induction l with
   | nil=>rfl
   | cons b l V3=>
    rw[Ym,Zr,V3,Ym,Zr,Ym,Zr]
    cases e1:X b a
    ·rw[Yt (by rw[e1];decide)]
     simp;omega
    ·rw[YC e1]
     simp;omega
  rw[e r]
  omega
theorem Oa (h:Dd ch st P):Ep st [] P=cl (fun x z=>lB x z||lB z x) ch:=by
 rw[JS h,AN]
 ·intro x;unfold lB;rw[decide_eq_false (YK _)];rfl
 ·intro x z q
  unfold lB at q ⊢
  rw[YH,YH,decide_eq_true_iff,decide_eq_true_iff,decide_eq_true_iff]at q
  rw[decide_eq_false (by omega)]
  rfl
end
noncomputable def Hr (p q:Nat):Int:=if (q:Int)<p then q else p
noncomputable def eJ (cs:List C4):List Nat:=cs.flatMap fun x=>[x.2.2.1,x.2.2.2]
noncomputable def gi (cs:List C4):List (Key×V):=cs.flatMap fun x=>[(Sum.inl (x.2.2.1:Int),V.int (Hr x.2.2.1 x.2.2.2)),(Sum.inl (x.2.2.2:Int),V.int (Hr x.2.2.1 x.2.2.2))]
noncomputable def oH (cs:List C4):List (Nat×Nat):=cs.map fun x=>(min x.2.2.1 x.2.2.2,max x.2.2.1 x.2.2.2)
theorem gS: ∀cs:List C4,(gi cs).map (·.1)=(eJ cs).map fun n:Nat=>(Sum.inl (n:Int):Key)
 | []=>rfl
 | x::r=>by
  unfold gi eJ
  rw[YB,YB,X9,X9]
  exact congrArg _ (gS r)
theorem vz {aQ:List (Key×V)} {k:Key} (h:k∉aQ.map (·.1)):dE aQ k=none:=by
 induction aQ with
 | nil=>rfl
 | cons a r ih=>
  rw[Ym,Vi,not_or]at h
  rw[cE (fun e=>h.1 e.symm),ih h.2]
theorem Dh {aQ:List (Key×V)} (nd:(aQ.map (·.1)).Nodup) {k:Key} {v:V} (h:(k,v)∈aQ):dE aQ k=some v:=by
 induction aQ with
 | nil=>exact absurd h Yl
 | cons a r ih=>
  rw[Ym,Yw]at nd
  rcases Vi.mp h with e | e
  ·subst e;exact cP rfl
  ·rw[cE (fun z=>nd.1 (Yp.mpr ⟨_,e,z.symm⟩))]
   exact ih nd.2 e
theorem JT: ∀{l:List Nat},l.Nodup->(l.map fun n:Nat=>(Sum.inl (n:Int):Key)).Nodup:=fun {l} h=>YY.mpr (h.imp fun qT z=>qT (by have:=Sum.inl.inj z;omega))
noncomputable def ins (l:List Nat):List V:=l.map fun n=>V.int (n:Nat)
theorem kQ (l:List Nat):(ins l).length=l.length:=by unfold ins;rw[Pd]
theorem Di (l:List Nat) (n:Nat):ins l++[V.int (n:Nat)]=ins (l++[n]):=by unfold ins;rw[X9];rfl
theorem Dj {l:List Nat} {i n:Nat} (h:l[i]? =some n):(ins l)[i]? =some (V.int (n:Nat)):=by unfold ins;rw[Yb,h];rfl
def iB (_:PySem.W.Frag):Sp:=fun vs H Q _=> ∃(a:Addr) (qs:List Q4),vs=[.ref a]/\H a=some (.lst (AK qs))/\(∀x∈qs,p7 H x)/\qs.length<=1000/\(eJ (qs.map Q4.v)).Nodup/\ ∀d H',H d=none->H' d=some (.dK (gi (qs.map Q4.v)))->aq H H'->Q (.ref d) H'
theorem md {K:PySem.W.Frag} {vs:List V} {H:Hp} {Q:VK} {E:XK} (h:iB K vs H Q E):vs.length=1:=by obtain ⟨_,_,rfl,_⟩:=h;rfl
def kR (_:PySem.W.Frag):Sp:=fun vs H Q _=> ∃(a:Addr) (l:List Nat) (p:Nat),vs=[.ref a, .int p]/\H a=some (.lst (ins l))/\l.Pairwise (· < ·)/\p∈l/\l.length<=100000/\Q (.int (l.idxOf p:Nat)) H
theorem p9 {K:PySem.W.Frag} {vs:List V} {H:Hp} {Q:VK} {E:XK} (h:kR K vs H Q E):vs.length=2:=by obtain ⟨_,_,_,rfl,_⟩:=h;rfl
def gs (_:PySem.W.Frag):Sp:=fun vs H Q _=> ∃(a:Addr) (qs:List Q4),vs=[.ref a]/\H a=some (.lst (AK qs))/\(∀x∈qs,p7 H x)/\qs.length<=24/\(eJ (qs.map Q4.v)).Nodup/\ ∀H',aq H H'->Q (.int (cl (fun x z=>lB x z||lB z x) (oH (qs.map Q4.v)):Nat)) H'
theorem jX {K:PySem.W.Frag} {vs:List V} {H:Hp} {Q:VK} {E:XK} (h:gs K vs H Q E):vs.length=1:=by obtain ⟨_,_,rfl,_⟩:=h;rfl
theorem AO (cs:List C4) (x:C4):eJ (cs++[x])=eJ cs++[x.2.2.1,x.2.2.2]:=by unfold eJ;rw[YN,ZU]
theorem AQ (cs:List C4) (x:C4):gi (cs++[x])=gi cs++[(Sum.inl (x.2.2.1:Int),V.int (Hr x.2.2.1 x.2.2.2)),(Sum.inl (x.2.2.2:Int),V.int (Hr x.2.2.1 x.2.2.2))]:=by unfold gi;rw[YN,ZU]
theorem vA (cs:List C4):(gi cs).length=2*cs.length:=by
 induction cs with
 | nil=>rfl
 | cons x r ih=>
  unfold gi at ih ⊢
  rw[YB,KW,ih,Ys]
  show 2+2*r.length=2*(r.length+1)
  omega
theorem Gb {cs:List C4} {x:C4} (nd:(eJ (cs++[x])).Nodup):putK (putK (gi cs) (Sum.inl (x.2.2.1:Int)) (V.int (Hr x.2.2.1 x.2.2.2))) (Sum.inl (x.2.2.2:Int)) (V.int (Hr x.2.2.1 x.2.2.2))=gi (cs++[x]):=by
 rw[AO,YZ]at nd
 obtain ⟨n1,n2,n3⟩:=nd
 have k: ∀n:Nat,n∉eJ cs->(Sum.inl (n:Int):Key)∉(gi cs).map (·.1):=fun n hn z=>by
  rw[gS]at z
  obtain ⟨m,hm,e⟩:=Yp.mp z
  have:m=n:=by have:=Sum.inl.inj e;omega
  exact hn (this▸hm)
 have h1:x.2.2.1∉eJ cs:=fun z=>n3 _ z _ (by simp) rfl
 have h2:x.2.2.2∉eJ cs:=fun z=>n3 _ z _ (by simp) rfl
 have h3:x.2.2.1≠x.2.2.2:=by
  rw[Yw]at n2
  simpa using n2.1
 rw[uM _ (vz (k _ h1)),uM,AQ,Y5]
 ·rfl
 ·refine vz fun z=>?_
  rw[X9,Yi]at z
  rcases z with z | z
  ·exact k _ h2 z
  ·have:=Sum.inl.inj (Vk.mp z)
   omega
noncomputable def cK (cs:List C4) (p:Nat):Nat:=(((dE (gi cs) (Sum.inl (p:Int))).map fun v=>match v with | .int i=>i.toNat | _=>0).getD 0)
theorem Dk (p q:Nat):Hr p q=(min p q:Nat):=by unfold Hr;split<;>omega
theorem Hs {cs:List C4} (nd:(eJ cs).Nodup) {x:C4} (hx:x∈cs):(dE (gi cs) (Sum.inl (x.2.2.1:Int))=some (.int (min x.2.2.1 x.2.2.2:Nat))/\dE (gi cs) (Sum.inl (x.2.2.2:Int))=some (.int (min x.2.2.1 x.2.2.2:Nat)))/\cK cs x.2.2.1=min x.2.2.1 x.2.2.2/\cK cs x.2.2.2=min x.2.2.1 x.2.2.2:=by
 have kn:((gi cs).map (·.1)).Nodup:=by rw[gS];exact JT nd
 have e1:dE (gi cs) (Sum.inl (x.2.2.1:Int))=some (.int (min x.2.2.1 x.2.2.2:Nat)):=by
  rw[<-Dk]
  exact Dh kn (YF.mpr ⟨x,hx,by simp⟩)
 have e2:dE (gi cs) (Sum.inl (x.2.2.2:Int))=some (.int (min x.2.2.1 x.2.2.2:Nat)):=by
  rw[<-Dk]
  exact Dh kn (YF.mpr ⟨x,hx,by simp⟩)
 refine ⟨⟨e1,e2⟩,?_,?_⟩
 ·unfold cK;rw[e1];exact Xx _
 ·unfold cK;rw[e2];exact Xx _
theorem zo (cs:List C4):((oH cs).flatMap fun x=>[x.1,x.2]).Perm (eJ cs):=by
 induction cs with
 | nil=>exact .nil
 | cons x r ih=>
  unfold oH eJ at ih ⊢
  rw[Ym,YB,YB]
  refine List.Perm.append ?_ ih
  show [min x.2.2.1 x.2.2.2,max x.2.2.1 x.2.2.2].Perm [x.2.2.1,x.2.2.2]
  by_cases z:x.2.2.1<=x.2.2.2
  ·rw[Y2 z,ZJ z]
  ·rw[Y4 (by omega),ZA (by omega)]
   exact List.Perm.swap _ _ _
theorem JU {cs:List C4} {P:List Nat} (nd:(eJ cs).Nodup) (hp:P.Perm (eJ cs)) (up:P.Pairwise (· < ·)):Dd (oH cs) (cK cs) P:=by
 refine ⟨fun x hx=>?_,((zo cs).nodup_iff).mpr nd,hp.trans (zo cs).symm,up,fun x hx=>?_⟩
 ·obtain ⟨c,hc,rfl⟩:=Yp.mp hx
  have dG:c.2.2.1≠c.2.2.2:=fun z=>by
   have: ∀{cs:List C4},(eJ cs).Nodup-> ∀c∈cs,c.2.2.1≠c.2.2.2:=fun {cs}=>by
    induction cs with
    | nil=>exact fun _ _ h=>absurd h Yl
    | cons a r ih=>
     intro nd c hc
     unfold eJ at nd
     rw[YB,YZ]at nd
     rcases Vi.mp hc with e | e
     ·subst e
      have:=nd.1
      rw[Yw]at this
      simpa using this.1
     ·exact ih nd.2.1 c e
   exact this nd c hc z
  show min c.2.2.1 c.2.2.2<max c.2.2.1 c.2.2.2
  omega
 ·obtain ⟨c,hc,rfl⟩:=Yp.mp hx
  obtain ⟨_,e1,e2⟩:=Hs nd hc
  show cK cs (min c.2.2.1 c.2.2.2)=min c.2.2.1 c.2.2.2/\cK cs (max c.2.2.1 c.2.2.2)=min c.2.2.1 c.2.2.2
  by_cases z:c.2.2.1<=c.2.2.2
  ·rw[Y2 z,ZJ z]at*
   exact ⟨e1,e2⟩
  ·rw[Y4 (by omega),ZA (by omega)]at*
   exact ⟨e2,e1⟩
theorem Dm {l:List Nat} {p:Nat} (h:p∈l):l.eraseIdx (l.idxOf p)=l.erase p:=(List.erase_eq_eraseIdx_of_idxOf rfl).symm
theorem behind {l:List Nat} (up:l.Pairwise (· < ·)) {p:Nat} (h:p∈l):(l.erase p).length - l.idxOf p=(l.filter fun x=>decide (p<x)).length:=by
 induction l with
 | nil=>exact absurd h Yl
 | cons a r ih=>
  rw[Zh]at up
  by_cases z:a=p
  ·subst z
   rw[List.erase_cons_head,List.idxOf_cons_self,Yt (by simp),List.filter_eq_self.mpr (fun x hx=>decide_eq_true (up.1 x hx))]
   rfl
  ·have hr:=(Vi.mp h).resolve_left (Ne.symm z)
   rw[List.erase_cons_tail (by simpa using z),Jv,if_neg z,Yt (by
    have:=up.1 p hr
    simp;omega), <-ih up.2 hr,Ys]
   omega
theorem JV {st:Nat->Nat} {P T R:List Nat} (h:P.Pairwise (· < ·)) (e:P=T++R) (R':List Nat):(nC st T R').Pairwise (· < ·):=by
 rw[e,Zl]at h
 exact h.1.filter _
theorem Gd {st:Nat->Nat} {T R:List Nat}:(nC st T R).length<=T.length:=Qa7 _ _
theorem JW {cs:List C4} (nd:(eJ cs).Nodup) {p:Nat} (hp:p∈eJ cs):dE (gi cs) (Sum.inl (p:Int))=some (.int (cK cs p:Nat)):=by
 unfold eJ at hp
 obtain ⟨x,hx,e⟩:=YF.mp hp
 obtain ⟨⟨e1,e2⟩,e3,e4⟩:=Hs nd hx
 have e':p=x.2.2.1\/p=x.2.2.2:=by simpa using e
 rcases e' with rfl | rfl
 ·rw[e1,e3]
 ·rw[e2,e4]
theorem xS {ms:List Int} {l:List Nat} (nd:l.Nodup) (hp:ms.Perm (l.map fun n:Nat=>(n:Int))) (hw:ms.Pairwise fun a b=> ¬b<a): ∃P:List Nat,ms.map V.int=ins P/\P.Perm l/\P.Pairwise (· < ·):=by
 have xR: ∀m∈ms, ∃n:Nat,m=n:=fun m hm=>by
  obtain ⟨n,_,rfl⟩:=Yp.mp (hp.mem_iff.mp hm)
  exact ⟨n,rfl⟩
 have e1:ms=(ms.map Int.toNat).map fun n:Nat=>(n:Int):=by
  rw[YT]
  refine (Qab ms).symm.trans (Z6 fun m hm=>?_)
  obtain ⟨n,rfl⟩:=xR m hm
  exact (congrArg _ (Xx n)).symm
 have p1:(ms.map Int.toNat).Perm l:=by
  have:=hp.map Int.toNat
  rw[YT]at this
  have e2:l.map (Int.toNat ∘ fun n:Nat=>(n:Int))=l:=(Z6 fun n _=>Xx n).trans (Qab l)
  rwa [e2]at this
 refine ⟨ms.map Int.toNat,?_,p1,?_⟩
 ·unfold ins
  conv=>lhs;rw[e1]
  rw[YT]
  rfl
 ·have Po:(ms.map Int.toNat).Nodup:=p1.nodup_iff.mpr nd
  have V4:(ms.map Int.toNat).Pairwise fun a b=> ¬b<a:=by
   rw[e1,YY]at hw
   exact hw.imp fun h z=>h (by omega)
  refine Qbt (fun {a b} h=>?_) (List.Pairwise.and V4 Po)
  have:=h.1
  have:=h.2
  omega
theorem Dp {st:Nat->Nat} {P:List Nat} {k p:Nat} (h:P[k]? =some p):Ep st (P.take k) (P.drop k)=AM st (P.take k) (P.drop (k+1)) p+Ep st (P.take (k+1)) (P.drop (k+1)):=by
 obtain ⟨hk,e⟩:=IQ.mp h
 rw[YR hk,e]
 show AM st _ _ p+Ep st (P.take k++[p]) _=_
 rw[take_snoc h]
theorem Ht {n k:Nat} (h:k<n):seqIndex? (k:Int) n=some k:=by
 unfold seqIndex?
 simp
 omega
theorem rh: ∀(l:List Nat) (k:Nat),(ins l).eraseIdx k=ins (l.eraseIdx k)
 | [],_=>rfl
 | _::_,0=>rfl
 | a::l,k+1=>congrArg (V.int (a:Nat):: ·) (rh l k)
noncomputable def cst (y w:List Nat) (i:Int):Int:=ve y (ar (rd w (i - 1))) (rd w i)
theorem Dq (y w:List Nat) (p k:Int):eW y (sq w p) k=cst y w (p+k):=by
 unfold eW cst sq
 rw[show p+(k - 1)=p+k - 1 by omega]
noncomputable def v_ (n:Int):Nat:=(48+n).toNat
noncomputable def stx (y w:List Nat):List Nat:=(List.range w.length).map fun i:Nat=>v_ (cst y w i)
theorem dq (y w:List Nat):(stx y w).length=w.length:=by unfold stx;rw[Pd,Qac]
theorem JX: ∀n:Nat,n<10->dg n=[48+n]:=by decide+kernel
noncomputable def i8 (lg n:Nat):Nat:=3+lg / max n 1
noncomputable def me (y u:List Nat) (lg r:Nat):List (Str×V):=d_ "backward" (.str (S (dN (i8 lg u.length) (stx y u).reverse))) (d_ "onward" (.str (S (dN (i8 lg u.length) (stx y u)))) (d_ "leads" (.bl (leads u)) (d_ "root_size" (.int r) (d_ "size" (.int u.length) []))))
noncomputable def Hu (t w:Addr) (p:Nat):List (Str×V):=d_ "place" (.int p) (d_ "way" (.ref w) (d_ "strand" (.ref t) []))
section
variable {y u:List Nat} {lg r:Nat} {t w:Addr} {p:Nat}
theorem zp:(me y u lg r).lookup ("size":Str)=some (.int u.length):=by
 unfold me
 rw[aK,if_neg (by decide+kernel),aK,if_neg (by decide+kernel),aK,if_neg (by decide+kernel),aK,if_neg (by decide+kernel),aK,if_pos rfl]
theorem nE:(me y u lg r).lookup ("root_size":Str)=some (.int r):=by
 unfold me
 rw[aK,if_neg (by decide+kernel),aK,if_neg (by decide+kernel),aK,if_neg (by decide+kernel),aK,if_pos rfl]
theorem Dr:(me y u lg r).lookup ("leads":Str)=some (.bl (leads u)):=by
 unfold me
 rw[aK,if_neg (by decide+kernel),aK,if_neg (by decide+kernel),aK,if_pos rfl]
theorem Ob:(me y u lg r).lookup ("onward":Str)=some (.str (S (dN (i8 lg u.length) (stx y u)))):=by
 unfold me
 rw[aK,if_neg (by decide+kernel),aK,if_pos rfl]
theorem Ge:(me y u lg r).lookup ("backward":Str)=some (.str (S (dN (i8 lg u.length) (stx y u).reverse))):=by
 unfold me
 rw[aK,if_pos rfl]
theorem kS:(Hu t w p).lookup ("place":Str)=some (.int p):=by unfold Hu;rw[aK,if_pos rfl]
theorem mf:(Hu t w p).lookup ("way":Str)=some (.ref w):=by unfold Hu;rw[aK,if_neg (by decide+kernel),aK,if_pos rfl]
theorem rj:(Hu t w p).lookup ("strand":Str)=some (.ref t):=by unfold Hu;rw[aK,if_neg (by decide+kernel),aK,if_neg (by decide+kernel),aK,if_pos rfl]
end
theorem di (f:Str) (v:V): ∀fs:List (Str×V),(d_ f v fs).length<=fs.length+1
 | []=>SY _
 |(g,x)::r=>by
  unfold d_
  split
  ·exact Zu _
  ·exact Y7 (di f v r)
structure Sn where
 a:Addr
 t:Addr
 wy:Addr
 c:Nat
 i:Nat
 u:List Nat
 p:Nat
 r:Nat
structure AR (H:Hp) (C a:Addr) (y u:List Nat) (lg r:Nat):Prop where
 ob: ∃dx,H a=some (.ins C dx (me y u lg r))
 sw:SW y u
 uz:u.length<=lg
 lz:lg<=1000
 rt:bK u r
theorem AR.same {H H':Hp} {C a:Addr} {y u:List Nat} {lg r:Nat} (h:AR H C a y u lg r) (s:aq H H'):AR H' C a y u lg r:=by
 obtain ⟨dx,e⟩:=h.ob
 exact ⟨⟨dx,s _ _ e⟩,h.sw,h.uz,h.lz,h.rt⟩
structure i9 (H:Hp) (CW CS:Addr) (y:List Nat) (lg:Nat) (s:Sn):Prop where
 ob: ∃dx,H s.a=some (.ins CS dx (Hu s.t s.wy s.p))
 st:H s.t=some (.tup [.int s.c, .int s.i])
 wy:AR H CW s.wy y s.u lg s.r
 pz:s.p<s.u.length
theorem i9.same {H H':Hp} {CW CS:Addr} {y:List Nat} {lg:Nat} {s:Sn} (h:i9 H CW CS y lg s) (sm:aq H H'):i9 H' CW CS y lg s:=by
 obtain ⟨dx,e⟩:=h.ob
 exact ⟨⟨dx,sm _ _ e⟩,sm _ _ h.st,h.wy.same sm,h.pz⟩
noncomputable def Bf (y:List Nat) (lg:Nat) (s:Sn):List Nat:=(dN (i8 lg s.u.length) (stx y s.u)).drop (s.p+1)
noncomputable def Bg (y:List Nat) (lg:Nat) (s:Sn):List Nat:=(dN (i8 lg s.u.length) (stx y s.u).reverse).drop (s.u.length - 1 - s.p)
noncomputable def seg (l:List Nat) (x z:Nat):List Nat:=(l.drop x).take (z - x)
def iC (_:PySem.W.Frag):Sp:=fun vs H Q _=> ∃(y w:List Nat) (i:Nat),vs=[.str (S y), .str (S w), .int i]/\Yd y/\y.length<=8/\SW y w/\w.length<=1000/\i<w.length/\ ∀(n:Nat) H',cst y w i=n->n<8->aq H H'->Q (.int n) H'
theorem mh {K:PySem.W.Frag} {vs:List V} {H:Hp} {Q:VK} {E:XK} (h:iC K vs H Q E):vs.length=3:=by obtain ⟨_,_,_,rfl,_⟩:=h;rfl
def vB (_:PySem.W.Frag) (C:Addr):Sp:=fun vs H Q _=> ∃(x dx:Addr) (y w:List Nat) (lg:Nat),vs=[.ref x, .str (S y), .str (S w), .int lg]/\H x=some (.ins C dx [])/\Yd y/\y.length<=8/\SW y w/\w.length<=lg/\lg<=1000/\ ∀(r:Nat) H',bK w r->H' x=some (.ins C dx (me y w lg r))->aW x H H'->Q .fH H'
theorem AS {K:PySem.W.Frag} {C:Addr} {vs:List V} {H:Hp} {Q:VK} {E:XK} (h:vB K C vs H Q E):vs.length=4:=by obtain ⟨_,_,_,_,_,rfl,_⟩:=h;rfl
def rk (_:PySem.W.Frag) (C:Addr):Sp:=fun vs H Q _=> ∃(x dx t w:Addr) (p:Nat),vs=[.ref x, .ref t, .ref w, .int p]/\H x=some (.ins C dx [])/\ ∀H',H' x=some (.ins C dx (Hu t w p))->aW x H H'->Q .fH H'
theorem xT {K:PySem.W.Frag} {C:Addr} {vs:List V} {H:Hp} {Q:VK} {E:XK} (h:rk K C vs H Q E):vs.length=4:=by obtain ⟨_,_,_,_,_,rfl,_⟩:=h;rfl
def fZ (_:PySem.W.Frag) (CW CS:Addr):Sp:=fun vs H Q _=> ∃(y:List Nat) (lg:Nat) (s:Sn) (x z:Nat),vs=[.ref s.a, .int x, .int z]/\y.length<=8/\i9 H CW CS y lg s/\x<=z/\Q (.str (S (seg (Bf y lg s) x z))) H
theorem mY {K:PySem.W.Frag} {CW CS:Addr} {vs:List V} {H:Hp} {Q:VK} {E:XK} (h:fZ K CW CS vs H Q E):vs.length=3:=by obtain ⟨_,_,_,_,_,rfl,_⟩:=h;rfl
def gA (_:PySem.W.Frag) (CW CS:Addr):Sp:=fun vs H Q _=> ∃(y:List Nat) (lg:Nat) (s:Sn) (x z:Nat),vs=[.ref s.a, .int x, .int z]/\y.length<=8/\i9 H CW CS y lg s/\x<=z/\Q (.str (S (seg (Bg y lg s) x z))) H
theorem oI {K:PySem.W.Frag} {CW CS:Addr} {vs:List V} {H:Hp} {Q:VK} {E:XK} (h:gA K CW CS vs H Q E):vs.length=3:=by obtain ⟨_,_,_,_,_,rfl,_⟩:=h;rfl
theorem Gf {l:List Nat} {a b:Nat} (h:a<=b):cut l (some (a:Int)) (some (b:Int))=(l.drop a).take (b - a):=by
 unfold cut
 rw[HT.gj,HT.gj]
 by_cases z:a<=l.length
 ·rw[Y2 z]
  by_cases z2:b<=l.length
  ·rw[Y2 z2]
  ·rw[Y4 (by omega),Yn (by rw[Yc];omega),Yn (by rw[Yc];omega)]
 ·rw[Y4 (by omega),Y4 (by omega),Zd (SY _),Zd (by omega)]
  simp
theorem zq {l:List Nat} {f x z:Nat} (h:x<=z):cut l (some ((f:Int)+x)) (some ((f:Int)+z))=seg (l.drop f) x z:=by
 rw[show (f:Int)+x=((f+x:Nat):Int) by omega,show (f:Int)+z=((f+z:Nat):Int) by omega,Gf (by omega)]
 unfold seg
 rw[List.drop_drop,show f+z - (f+x)=z - x by omega]
theorem kT {lg n:Nat} (h:1<=n):n*i8 lg n<=3*n+lg/\2*n+lg<n*i8 lg n:=by
 unfold i8
 rw[ZA h,Nat.mul_add]
 have h1:=Z3 lg n
 have h2:=ZO lg (show 0<n by omega)
 omega
theorem rm (m:Nat) (l:List Nat):(dN m l).length=l.length*m:=by
 unfold dN
 rw[List.length_flatten,List.map_replicate,Qaw,Zk]
theorem SW.dU {y w:List Nat} (hy:Yd y) (h:SW y w):My.dU w=fK w:=by unfold My.dU;rw[h.core hy]
theorem tH (l:List Nat) (x z j:Nat):(seg l x z)[j]? =if j<z - x then l[x+j]? else none:=by
 unfold seg
 rw[ZP]
 split
 ·rw[Zb]
 ·rfl
theorem xU {l m:List Nat} {x z:Nat}:seg l x (x+z)=seg m x (x+z)↔ ∀k,x<=k->k<x+z->l[k]? =m[k]?:= by
 constructor
 ·intro h k h1 h2
  have:=congrArg (·[k - x]?) h
  simp only[tH]at this
  rwa [if_pos (by omega),if_pos (by omega),show x+(k - x)=k by omega]at this
 ·intro h
  refine Qaf fun j=>?_
  rw[tH,tH]
  by_cases z':j<x+z - x
  ·rw[if_pos z',if_pos z',h (x+j) (by omega) (by omega)]
  ·rw[if_neg z',if_neg z']
noncomputable def JY (b:Bool) (y:List Nat) (lg:Nat) (s:Sn):List Nat:=if b=true then Bf y lg s else Bg y lg s
def i_ (l m:List Nat) (n:Nat):Prop:= ∀k,k<n->l[k]? =m[k]?
def oJ (_:PySem.W.Frag) (CW CS fa fb:Addr):Sp:=fun vs H Q _=> ∃(y:List Nat) (lg:Nat) (s t:Sn) (b:Bool) (en:Nat),vs=[.ref (if b=true then fa else fb), .ref s.a, .ref t.a, .int en]/\y.length<=8/\i9 H CW CS y lg s/\i9 H CW CS y lg t/\en<=100000/\ ∀m:Nat,i_ (JY b y lg s) (JY b y lg t) m->(en<=m\/(JY b y lg s)[m]?≠ (JY b y lg t)[m]?)->Q (.int m) H
theorem vC {K:PySem.W.Frag} {CW CS fa fb:Addr} {vs:List V} {H:Hp} {Q:VK} {E:XK} (h:oJ K CW CS fa fb vs H Q E):vs.length=4:=by obtain ⟨_,_,_,_,_,_,rfl,_⟩:=h;rfl
theorem i_.more {l m:List Nat} {x z:Nat} (h:i_ l m x) (e:seg l x (x+z)=seg m x (x+z)):i_ l m (x+z):=fun k hk=>by
 by_cases q:k<x
 ·exact h k q
 ·exact xU.mp e k (by omega) hk
theorem Ds {l m:List Nat} {x z:Nat} (h:seg l x (x+z)≠seg m x (x+z)): ∃k,x<=k/\k<x+z/\l[k]?≠ m[k]?:= Classical.byContradiction fun q=>h (xU.mpr fun k h1 h2=>Classical.byContradiction fun r=>q ⟨k,h1,h2,r⟩)
noncomputable def xV (s:Sn):Int×Int:=if leads s.u=true then ((s.c:Int),((s.p / s.r:Nat):Int)) else (-(s.c:Int), -(((s.u.length - 1 - s.p) / s.r:Nat):Int))
def oK (_:PySem.W.Frag) (CW CS:Addr):Sp:=fun vs H Q _=> ∃(y:List Nat) (lg:Nat) (s:Sn),vs=[.ref s.a]/\i9 H CW CS y lg s/\ ∀p H',H p=none->H' p=some (.tup [.int (xV s).1, .int (xV s).2])->aq H H'->Q (.ref p) H'
theorem vD {K:PySem.W.Frag} {CW CS:Addr} {vs:List V} {H:Hp} {Q:VK} {E:XK} (h:oK K CW CS vs H Q E):vs.length=1:=by obtain ⟨_,_,_,rfl,_⟩:=h;rfl
noncomputable def jx (y:List Nat) (M:Nat) (s:Sn):List Int:=kk y (sq s.u s.p) 0 M++[(xV s).1,(xV s).2]
def ja (_:PySem.W.Frag) (CW CS:Addr):Sp:=fun vs H Q _=> ∃(y:List Nat) (lg:Nat) (s t:Sn),vs=[.ref s.a, .ref t.a]/\Yd y/\y.length<=8/\i9 H CW CS y lg s/\i9 H CW CS y lg t/\rd s.u s.p=rd t.u t.p/\ ∀H',aq H H'->Q (.bl (bJ (jx y (2*lg) s) (jx y (2*lg) t))) H'
theorem mZ {K:PySem.W.Frag} {CW CS:Addr} {vs:List V} {H:Hp} {Q:VK} {E:XK} (h:ja K CW CS vs H Q E):vs.length=2:=by obtain ⟨_,_,_,_,rfl,_⟩:=h;rfl
theorem jb {u:List Nat} {r:Nat} (hn:u≠[]) (h:bK u r):1<=r/\r<=u.length:=by
 rcases h with ⟨z,_⟩ | ⟨h1,h2,_⟩
 ·exact absurd z hn
 ·exact ⟨h1,h2⟩
theorem zr {y u:List Nat} {i:Nat} (h:i<u.length):(stx y u)[i]? =some (v_ (cst y u i)):=by
 unfold stx
 rw[Yb,List.getElem?_range h]
 rfl
theorem tI (y u:List Nat) (i:Int):cst y u (i%u.length)=cst y u i:=by
 unfold cst
 rw[hW, <-hW u (i%u.length - 1),Qbu,Z1 _ (Int.dvd_refl _), <-Qbu,hW]
theorem Dt {y:List Nat} {lg:Nat} {s:Sn} (hn:s.u≠[]) {k:Nat} (h:s.p+1+k<s.u.length*i8 lg s.u.length):(Bf y lg s)[k]? =some (v_ (eW y (sq s.u s.p) (k+1))):=by
 have hp:=S3.mpr hn
 unfold Bf
 rw[Zb,kH _ _ _ (by rw[dq,Zk];exact h),dq,zr (ZO _ hp),Dq,Qam,tI]
 congr 3
 omega
theorem Du {y:List Nat} {lg:Nat} {s:Sn} (hn:s.u≠[]) (hp:s.p<s.u.length) {k:Nat} (h:s.u.length - 1 - s.p+k<s.u.length*i8 lg s.u.length):(Bg y lg s)[k]? =some (v_ (eW y (sq s.u s.p) (-(k:Int)))):=by
 have hl:=S3.mpr hn
 unfold Bg
 rw[Zb,kH _ _ _ (by rw[Yo,dq,Zk];exact h),Yo,dq]
 have hm:=ZO (s.u.length - 1 - s.p+k) hl
 rw[ZG (by rw[dq];exact hm),dq,zr (by omega),Dq]
 congr 2
 rw[<-tI y s.u (s.p+ -(k:Int)), <-tI y s.u ((s.u.length - 1 - (s.u.length - 1 - s.p+k)%s.u.length:Nat):Int)]
 congr 1
 have e:((s.u.length - 1 - (s.u.length - 1 - s.p+k)%s.u.length:Nat):Int)=(s.u.length:Int) - 1 - ((s.u.length:Int) - 1 - s.p+k)%s.u.length:=by
  have:(((s.u.length - 1 - s.p+k)%s.u.length:Nat):Int)=((s.u.length:Int) - 1 - s.p+k)%s.u.length:=by
   rw[Qam];congr 1;omega
  omega
 rw[e,Qbu,Z1 _ (Int.dvd_refl _), <-Qbu]
 congr 1
 omega
theorem rq {lg:Nat} {s:Sn} {en:Nat} (hp:s.p<s.u.length) (he:en<=s.u.length+lg):s.p+1+en<s.u.length*i8 lg s.u.length+1/\s.u.length - 1 - s.p+en<s.u.length*i8 lg s.u.length:=by
 have:=(kT (lg:=lg) (n:=s.u.length) (by omega)).2
 omega
theorem zt {u:List Nat} {r:Nat} (hn:u≠[]) (h:bK u r) (p k:Int):sq u p (k+r)=sq u p k:=by
 have:=((ft hn h).2 (p+r) p).mpr (by rw[show p+(r:Int) - p=r by omega,Int.emod_self])
 have e:=this k
 unfold sq at e ⊢
 rw[show p+(k+r)=p+r+k by omega]
 exact e
theorem zu {a b:Int} (ha:0<=a) (hb:0<=b) (h:v_ a=v_ b):a=b:=by unfold v_ at h;omega
theorem Dv {a b:Int} (ha:0<=a) (hb:0<=b):v_ a<v_ b↔a<b:=by unfold v_;omega
theorem zw {y:List Nat} {f:Int->Nat} (hy:Yd y) (h:gI y f) (k:Int):0<=eW y f k:=by
 have:=(eX (hy.cl _ (h.bH (k - 1))) (h.bH k) (Ne.symm (h.red k))).1
 unfold eW
 omega
theorem zx {l m:List Nat} {en a n:Nat} (ha:a<en) (h1: ∀k,k<a->l[k]? =m[k]?) (h2:l[a]?≠ m[a]?) (g1:i_ l m n) (g2:en<=n\/l[n]?≠ m[n]?):n=a:=by
 by_cases z:a<n
 ·exact absurd (g1 a z) h2
 ·by_cases z2:n<a
  ·rcases g2 with g2 | g2
   ·omega
   ·exact absurd (h1 n z2) g2
  ·omega
theorem zy {l m:List Nat} {en n:Nat} (h1: ∀k,k<en->l[k]? =m[k]?) (g2:en<=n\/l[n]?≠ m[n]?):en<=n:=by
 rcases g2 with g2 | g2
 ·exact g2
 ·exact Classical.byContradiction fun z=>g2 (h1 n (by omega))
theorem nF {l:List Nat} {a x:Nat} (h:l[a]? =some x):seg l a (a+1)=[x]:=by
 obtain ⟨ha,e⟩:=IQ.mp h
 unfold seg
 rw[YR ha,e,show a+1 - a=1 by omega]
 rfl
theorem Dw (x z:Nat):decide ([x]<[z])=decide (x<z):=decide_eq_decide.mpr ⟨fun h=>(Qa8.mp h).elim id fun q=>absurd q.2 (ZT _),fun h=>Qa8.mpr (.inl h)⟩
theorem Gg (a b c d:Int):Ek a b c d=bJ [a,b] [c,d]:=by
 unfold Ek
 show _=if a=c then (if b=d then bJ [] [] else decide (b<d)) else decide (a<c)
 by_cases z:a=c
 ·rw[if_pos z,if_pos z]
  by_cases q:b=d
  ·rw[if_pos q,q];simp[bJ]
  ·rw[if_neg q]
 ·rw[if_neg z,if_neg z]
noncomputable def zA (ss:List Sn):List V:=ss.map fun s=>V.ref s.a
theorem kU (ss:List Sn):(zA ss).length=ss.length:=by unfold zA;rw[Pd]
theorem JZ {ss:List Sn} {i:Nat} {s:Sn} (h:ss[i]? =some s):(zA ss)[i]? =some (V.ref s.a):=by unfold zA;rw[Yb,h];rfl
theorem Gh {ss:List Sn} {i:Nat} {x:V} (h:(zA ss)[i]? =some x): ∃s,ss[i]? =some s/\x=V.ref s.a:=by
 unfold zA at h
 rw[Yb]at h
 cases e:ss[i]? with
 | none=>rw[e]at h;cases h
 | some p=>rw[e]at h;cases h;exact ⟨p,rfl,rfl⟩
def AU (y:List Nat) (M:Nat) (ss:List Sn):Prop:=ss.Pairwise fun s t=>bJ (jx y M t) (jx y M s)=false
def iD (_:PySem.W.Frag) (CW CS:Addr):Sp:=fun vs H Q _=> ∃(y:List Nat) (lg:Nat) (a:Addr) (ss:List Sn) (t:Sn),vs=[.ref a, .ref t.a]/\Yd y/\y.length<=8/\H a=some (.lst (zA ss))/\(∀s∈ss,i9 H CW CS y lg s/\rd s.u s.p=rd t.u t.p)/\i9 H CW CS y lg t/\AU y (2*lg) ss/\ss.length<=100000/\
 ∀(n:Nat) H',n<=ss.length->(∀k s,ss[k]? =some s->k<n->bJ (jx y (2*lg) s) (jx y (2*lg) t)=true)->(∀k s,ss[k]? =some s->n<=k->bJ (jx y (2*lg) s) (jx y (2*lg) t)=false)->aq H H'->Q (.int n) H'
theorem mi {K:PySem.W.Frag} {CW CS:Addr} {vs:List V} {H:Hp} {Q:VK} {E:XK} (h:iD K CW CS vs H Q E):vs.length=2:=by obtain ⟨_,_,_,_,_,rfl,_⟩:=h;rfl
structure Wp where
 t:Addr
 a:Addr
 b:Addr
 r:Nat
 q:Nat
noncomputable def Er (l:List Wp):List V:=l.map fun p=>V.ref p.t
theorem Dx {l:List Wp} {i:Nat} {p:Wp} (h:l[i]? =some p):(Er l)[i]? =some (V.ref p.t):=by unfold Er;rw[Yb,h];rfl
theorem Dy (l:List Wp) (p:Wp):Er l++[V.ref p.t]=Er (l++[p]):=by unfold Er;rw[X9];rfl
structure tJ (H:Hp) (C:Addr) (y:List Nat) (lg:Nat) (w:List Nat) (p:Wp):Prop where
 tp:H p.t=some (.tup [.ref p.a, .ref p.b])
 on:AR H C p.a y w lg p.r
 bk:AR H C p.b y (cG w) lg p.q
theorem tJ.same {H H':Hp} {C:Addr} {y:List Nat} {lg:Nat} {w:List Nat} {p:Wp} (h:tJ H C y lg w p) (s:aq H H'):tJ H' C y lg w p:=⟨s _ _ h.tp,h.on.same s,h.bk.same s⟩
structure xW (w:List Nat) (c i:Nat) (s:Sn):Prop where
 ec:s.c=c
 ei:s.i=i
 eu:s.u=if aD (rd w i)=true then w else cG w
 ep:s.p=if aD (rd w i)=true then i else w.length - 1 - i
def jc (_:PySem.W.Frag) (CW CS:Addr):Sp:=fun vs H Q _=> ∃(y:List Nat) (lg:Nat) (wt vt st:Addr) (w:List Nat) (ws:List (List Nat)) (lC:List Wp) (p:Wp) (c i:Nat),vs=[.ref wt, .ref vt, .ref st]/\Yd y/\H wt=some (.tup (eB ws))/\H vt=some (.lst (Er lC))/\H st=some (.tup [.int c, .int i])/\ws[c]? =some w/\lC[c]? =some p/\tJ H CW y lg w p/\i<w.length/\
 ∀(s:Sn) H',xW w c i s->s.t=st->i9 H' CW CS y lg s->H s.a=none->aq H H'->Q (.ref s.a) H'
theorem m3 {K:PySem.W.Frag} {CW CS:Addr} {vs:List V} {H:Hp} {Q:VK} {E:XK} (h:jc K CW CS vs H Q E):vs.length=3:=by obtain ⟨_,_,_,_,_,_,_,_,_,_,_,rfl,_⟩:=h;rfl
def jF (_:PySem.W.Frag):Sp:=fun vs H Q _=> ∃(wt:Addr) (ws:List (List Nat)) (band:Nat),vs=[.ref wt, .str (S [band])]/\H wt=some (.tup (eB ws))/\ws.length<=4/\(∀w∈ws,(∀c∈w,Lt c)/\w.length<=12)/\band∈aL/\ ∀(q:Addr) (ps:List Pr) (H':Hp),H q=none->H' q=some (.lst (q0 ps))->(∀p∈ps,mX H' p)->ps.map Pr.pair=dh band ws ws.length->aq H H'->Q (.ref q) H'
theorem oM {K:PySem.W.Frag} {vs:List V} {H:Hp} {Q:VK} {E:XK} (h:jF K vs H Q E):vs.length=2:=by obtain ⟨c,_,_,rfl,_⟩:=h;rfl
open Classical in
noncomputable def K8 (w:List Nat):Nat:=if h: ∃s,bK w s then choose h else 0
theorem jY {w:List Nat} (hn:w≠[]):bK w (K8 w):=by
 have h:=yV hn
 unfold K8
 rw[dif_pos h]
 exact Classical.choose_spec h
theorem Dz {y w:List Nat} {r q:Nat} (hy:Yd y) (hw:SW y w) (h:bK w r) (g:bK (cG w) q):q=r:=by
 have hn:=hw.ne
 have ht:=lY hn
 have p1:=jb hn h
 have p2:=jb ht g
 have key: ∀d:Nat,(d:Int)%(r:Int)=0↔(d:Int)%(q:Int)=0:=fun d=>by
  have a:=(ft hn h).2 d 0
  have b:=(ft ht g).2 d 0
  rw[ZW]at a b
  rw[<-a, <-b]
  constructor
  ·intro p k
   rw[gp hn,gp hn]
   unfold bq
   have:=p (-1 - (d:Int) - k)
   unfold sq at this
   have e1:rd w (-1 - (0:Int) - k)=rd w ((d:Int)+(-1 - (d:Int) - k)):=by congr 1;omega
   have e2:rd w (-1 - (d:Int) - k)=rd w (0+(-1 - (d:Int) - k)):=by congr 1;omega
   rw[e1,e2,this]
  ·intro p k
   have e: ∀x:Int,rd w x=ar (rd (cG w) (-1 - x)):=fun x=>by
    rw[hZ hn,show -1 - (-1 - x)=x by omega,aF (hy.lt _ (hw.rd _))]
   unfold sq
   rw[e,e]
   have:=p (-1 - (d:Int) - k)
   unfold sq at this
   rw[show -1 - ((d:Int)+k)=0+(-1 - (d:Int) - k) by omega, <-this]
   congr 2
   omega
 have a:=(key r).mp (Int.emod_self)
 have b:=(key q).mpr (Int.emod_self)
 have a':r%q=0:=by
  have:((r%q:Nat):Int)=0:=by rw[<-a];rfl
  omega
 have b':q%r=0:=by
  have:((q%r:Nat):Int)=0:=by rw[<-b];rfl
  omega
 exact Qa2 (Qbg (by omega) (Zw a')) (Qbg (by omega) (Zw b'))
noncomputable def Es (ws:List (List Nat)) (c:Nat):Bool:=leads (ws.getD c [])
noncomputable def Et (ws:List (List Nat)) (c:Nat):Nat:=K8 (ws.getD c [])
noncomputable def Pw (y:List Nat) (ws:List (List Nat)) (M:Nat) (x:Nat×Nat):List Int:=cI y ws (Es ws) (Et ws) M x.1 x.2
theorem xW.line {y w:List Nat} {c i:Nat} {s:Sn} (hy:Yd y) (hw:SW y w) (hi:i<w.length) (h:xW w c i s):sq s.u s.p=lA w i:=by
 rw[h.eu,h.ep]
 unfold lA
 by_cases z:aD (rd w i)=true
 ·rw[if_pos z,if_pos z,if_pos z]
 ·rw[if_neg z,if_neg z,if_neg z, <-Jw hw.ne,show ((w.length - 1 - i:Nat):Int)=(w.length:Int) - 1 - i by omega]
theorem zB {y w:List Nat} {ws:List (List Nat)} {c i M:Nat} {s:Sn} (hy:Yd y) (hw:SW y w) (hi:i<w.length) (e:ws.getD c []=w) (h:xW w c i s) (rt:bK s.u s.r):jx y M s=Pw y ws M (c,i):=by
 unfold jx Pw cI
 rw[h.line hy hw hi]
 simp only[e]
 congr 1
 unfold xV Em Es Et
 rw[e,h.ec]
 have rJ:=jY hw.ne
 by_cases z:aD (rd w i)=true
 ·have eu:s.u=w:=by rw[h.eu,if_pos z]
  have ep:s.p=i:=by rw[h.ep,if_pos z]
  rw[eu]at rt ⊢
  have er:=Cu hw.ne rt rJ
  rw[er,ep,z]
  by_cases l:leads w=true
  ·rw[if_pos l,l];rfl
  ·rw[if_neg l,if_neg (fun q=>l q.symm)];rfl
 ·have eu:s.u=cG w:=by rw[h.eu,if_neg z]
  have ep:s.p=w.length - 1 - i:=by rw[h.ep,if_neg z]
  rw[eu]at rt ⊢
  have er:=Dz hy hw rJ rt
  have z':aD (rd w i)=false:=by simpa using z
  rw[er,ep,z',qZ hy hw,bS]
  have ei:w.length - 1 - (w.length - 1 - i)=i:=by omega
  rw[ei]
  cases leads w<;>rfl
theorem xW.band {y w:List Nat} {c i band:Nat} {s:Sn} (hy:Yd y) (hw:SW y w) (hi:i<w.length) (hb:band∈aL) (ho:xK band (rd w i)=true) (h:xW w c i s):rd s.u s.p=band:=by
 have lb:Lt band:= .inl hb
 have lo:aD band=true:=by rw[jm lb];exact decide_eq_true hb
 have ED:rd w i=band\/rd w i=ar band:=by
  unfold xK at ho
  simpa using ho
 rw[h.eu,h.ep]
 rcases ED with e | e
 ·rw[if_pos (by rw[e];exact lo),if_pos (by rw[e];exact lo)]
  exact e
 ·have z: ¬aD (rd w i)=true:=by rw[e,fP _ lb.mem,lo];decide
  rw[if_neg z,if_neg z,hZ hw.ne,show -1 - ((w.length - 1 - i:Nat):Int)=i - w.length by omega,xt,e,aF lb]
def DA (y:List Nat) (ws:List (List Nat)) (M:Nat) (l:List (Nat×Nat)):Prop:=l.Pairwise fun s t=>bJ (Pw y ws M t) (Pw y ws M s)=false
def jG (_:PySem.W.Frag) (CW CS:Addr):Sp:=fun vs H Q _=> ∃(y:List Nat) (lg:Nat) (wt vt:Addr) (ws:List (List Nat)) (lC:List Wp) (band:Nat),vs=[.ref wt, .ref vt, .str (S [band])]/\Yd y/\y.length<=8/\H wt=some (.tup (eB ws))/\ws.length<=4/\(∀w∈ws,SW y w/\w.length<=12)/\band∈aL/\H vt=some (.lst (Er lC))/\lC.length=ws.length/\(∀(c:Nat) (w:List Nat) (p:Wp),ws[c]? =some w->lC[c]? =some p->tJ H CW y lg w p)/\
 ∀(q:Addr) (ps:List Pr) (H':Hp),H q=none->H' q=some (.tup (q0 ps))->(∀p∈ps,mX H' p)->(ps.map Pr.pair).Perm (dh band ws ws.length)->DA y ws (2*lg) (ps.map Pr.pair)->aq H H'->Q (.ref q) H'
theorem oN {K:PySem.W.Frag} {CW CS:Addr} {vs:List V} {H:Hp} {Q:VK} {E:XK} (h:jG K CW CS vs H Q E):vs.length=3:=by obtain ⟨_,_,_,_,_,_,_,rfl,_⟩:=h;rfl
theorem J0 {y:List Nat} {M:Nat} {ss:List Sn} {t:Sn} {n:Nat} (up:AU y M ss) (h1: ∀k s,ss[k]? =some s->k<n->bJ (jx y M s) (jx y M t)=true) (h2: ∀k s,ss[k]? =some s->n<=k->bJ (jx y M s) (jx y M t)=false):AU y M (ss.take n++t::ss.drop n):=by
 have tk: ∀s∈ss.take n,bJ (jx y M s) (jx y M t)=true:=fun s hs=>by
  obtain ⟨k,hk,e⟩:=Z7 hs
  rw[Xw]at hk
  rw[List.getElem_take]at e
  exact h1 k s (by rw[<-e];exact IM (by omega)) (by omega)
 have dr: ∀s∈ss.drop n,bJ (jx y M s) (jx y M t)=false:=fun s hs=>by
  obtain ⟨k,hk,e⟩:=Z7 hs
  rw[Yc]at hk
  rw[List.getElem_drop]at e
  exact h2 (n+k) s (by rw[<-e];exact IM (by omega)) (by omega)
 have RG:AU y M (ss.take n++ss.drop n):=by rw[YM];exact up
 unfold AU at RG ⊢
 rw[Zl]at RG ⊢
 rw[Zh]
 obtain ⟨u1,u2,u3⟩:=RG
 refine ⟨u1,⟨fun s hs=>dr s hs,u2⟩,fun a ha b hb=>?_⟩
 rcases Vi.mp hb with e | e
 ·rw[e];exact (lT (tk a ha)).1
 ·exact u3 a ha b e
theorem jd (band:Nat) {ws:List (List Nat)} (hw: ∀w∈ws,w.length<=12): ∀n,n<=ws.length->(dh band ws n).length<=12*n
 | 0,_=>Xy _
 | n+1,h=>by
  have ih:=jd band hw n (by omega)
  unfold dh at ih ⊢
  rw[Y_,YN,KW,ZU]
  have h1:(iA band n (ws.getD n []) (ws.getD n []).length).length<=12:=by
   unfold iA
   rw[Pd]
   refine Yv (Qa7 _ _) ?_
   rw[Qac]
   exact hw _ (getD_in (by omega))
  omega
theorem xX {band:Nat} {ws:List (List Nat)} {x:Nat×Nat} (h:x∈dh band ws ws.length): ∃w,ws[x.1]? =some w/\x.2<w.length/\xK band (rd w x.2)=true:=by
 unfold dh at h
 obtain ⟨c,hc,h⟩:=YF.mp h
 have lE:=Y9.mp hc
 unfold iA at h
 obtain ⟨i,hi,e⟩:=Yp.mp h
 obtain ⟨i1,i2⟩:=YI.mp hi
 have Tu:=Y9.mp i1
 subst e
 refine ⟨ws.getD c [],by rw[Xv,IM lE];rfl,Tu,?_⟩
 have:(ws.getD c []).getD i 0=rd (ws.getD c []) i:=by
  have:=lS Tu
  rw[Xv,this];rfl
 show xK band (rd (ws.getD c []) i)=true
 rw[<-this]
 exact i2
theorem rz {H H':Hp} {x dx C:Addr} (nx:H x=none) (J1:H dx=none) (sm:aW x (L2.upd (L2.upd H dx (.own x)) x (.ins C dx [])) H'):aq H H':=fun a o e=>by
 refine sm a o ?_ (aA e nx)
 rw[aC (aA e nx),aC (aA e J1)]
 exact e
noncomputable def Gi (ws:List (List Nat)):List Int:=ws.map fun w=>(w.length:Int)
theorem Gj (l:List Int): ∀a:Int,a<=l.foldl (fun x y=>if y>x then y else x) a/\(∀x∈l,x<=l.foldl (fun x y=>if y>x then y else x) a)/\(l.foldl (fun x y=>if y>x then y else x) a=a\/l.foldl (fun x y=>if y>x then y else x) a∈l):=by
 induction l with
 | nil=>exact fun a=>⟨Int.le_refl _,fun _ h=>absurd h Yl, .inl rfl⟩
 | cons b r ih=>
  intro a
  rw[ZC]
  obtain ⟨h1,h2,h3⟩:=ih (if b>a then b else a)
  have h4:a<=(if b>a then b else a)/\b<=(if b>a then b else a):=by split<;>omega
  refine ⟨by omega,fun x hx=>?_,?_⟩
  ·rcases Vi.mp hx with e | e
   ·rw[e];omega
   ·exact h2 x e
  ·rcases h3 with e | e
   ·rw[e]
    split
    ·exact .inr Vj
    ·exact .inl rfl
   ·exact .inr (SX _ e)
theorem xY {ws:List (List Nat)} (h: ∀w∈ws,w.length<=12): ∃lg:Nat,Jm 0 (Gi ws)=lg/\lg<=12/\ ∀w∈ws,w.length<=lg:=by
 cases ws with
 | nil=>exact ⟨0,rfl,by decide,fun _ h=>absurd h Yl⟩
 | cons v r=>
  obtain ⟨h1,h2,h3⟩:=Gj (Gi r) (v.length:Int)
  have e:Jm 0 (Gi (v::r))=(Gi r).foldl (fun x y=>if y>x then y else x) (v.length:Int):=rfl
  rw[e]
  generalize (Gi r).foldl (fun x y=>if y>x then y else x) (v.length:Int)=m at*
  have hm: ∃w∈v::r,m=(w.length:Int):=by
   rcases h3 with q | q
   ·exact ⟨v,Vj,q⟩
   ·obtain ⟨w,hw,e'⟩:=Yp.mp q
    exact ⟨w,SX _ hw,e'.symm⟩
  obtain ⟨w,hw,rfl⟩:=hm
  refine ⟨w.length,rfl,h w hw,fun u hu=>?_⟩
  rcases Vi.mp hu with q | q
  ·rw[q];omega
  ·have:=h2 _ (Yp.mpr ⟨u,q,rfl⟩)
   omega
def tK (y:List Nat) (ws:List (List Nat)) (os:List Od):Prop:= ∃M,(∀w∈ws, ∀v∈ws,w.length+v.length<=M)/\vv y ws os/\ ∀o∈os,DA y ws M (o.ps.map Pr.pair)
def zC (_:PySem.W.Frag):Sp:=fun vs H Q _=> ∃(y:List Nat) (wt:Addr) (ws:List (List Nat)),vs=[.str (S y), .ref wt]/\Yd y/\y.length<=8/\H wt=some (.tup (eB ws))/\ws.length<=4/\(∀w∈ws,SW y w/\w.length<=12)/\ ∀(dr:Addr) (os:List Od) (H':Hp),xI H' dr ws os->tK y ws os->aq H H'->Q (.ref dr) H'
theorem DB {K:PySem.W.Frag} {vs:List V} {H:Hp} {Q:VK} {E:XK} (h:zC K vs H Q E):vs.length=2:=by obtain ⟨_,_,_,rfl,_⟩:=h;rfl
theorem Gk {H:Hp} {C:Addr} {y:List Nat} {lg i:Nat} {ws:List (List Nat)} {lC:List Wp} {w:List Nat} {p:Wp} (hl:lC.length=i) (h: ∀(c:Nat) (w:List Nat) (p:Wp),ws[c]? =some w->lC[c]? =some p->tJ H C y lg w p) (hw:ws[i]? =some w) (hp:tJ H C y lg w p): ∀(c:Nat) (w:List Nat) (q:Wp),ws[c]? =some w->(lC++[p])[c]? =some q->tJ H C y lg w q:=fun c v q hv hq=>by
 by_cases z:c<lC.length
 ·rw[YD z]at hq
  exact h c v q hv hq
 ·rw[Y1 (by omega)]at hq
  have:c=i:=by
   have:=(IQ.mp hq).1
   simp at this
   omega
  subst this
  rw[hl,Nat.sub_self]at hq
  rw[hw]at hv
  cases hv
  cases hq
  exact hp
theorem vE {y:List Nat} (h:Yd y) {b:Nat} (hb:b∈fR y):b∈aL:=by
 obtain ⟨h1,h2⟩:=YI.mp ((jr y).mem_iff.mp hb)
 rw[jm (h.lt b h1)]at h2
 exact of_decide_eq_true h2
theorem DC {y:List Nat} {ws:List (List Nat)} {L:Nat->Bool} {r:Nat->Nat} {M:Nat} (h:eN y ws L r M) {c i d j x:Nat} (hc:c<ws.length) (hd:d<ws.length) (hi:i<(ws.getD c []).length) (hj:j<(ws.getD d []).length) (dG:(c,i)≠(d,j)) (hx:aD x=true) (e1:rd (ws.getD c []) i=x\/rd (ws.getD c []) i=ar x) (e2:rd (ws.getD d []) j=x\/rd (ws.getD d []) j=ar x):
  bJ (cI y ws L r M c i) (cI y ws L r M d j)=true\/bJ (cI y ws L r M d j) (cI y ws L r M c i)=true:=by
 have hw:=h.sw c hc
 have hv:=h.sw d hd
 have hy:=h.yd
 have lw:=S3.mpr hw.ne
 have lv:=S3.mpr hv.ne
 have xs: ∀{w:List Nat} {k:Nat},SW y w->(rd w k=x\/rd w k=ar x)->Lt x:=fun {w k} hw e=>by
  have h9:97<=x/\x<=122:=by unfold aD at hx;simpa using hx
  refine .inl ?_
  have: ∀k,k<26->k+97∈aL:=by decide
  have h8:=this (x - 97) (by omega)
  rwa [show x - 97+97=x by omega]at h8
 have lx:=xs hw e1
 have xB: ∀{w:List Nat} {k:Nat},SW y w->Dl w k (lA w k)/\((rd w k=x\/rd w k=ar x)->lA w k 0=x)/\(lA w k=if aD (rd w k)=true then sq w k else bq w k):=fun {w k} hw=>by
  refine ⟨?_,fun e=>?_,rfl⟩
  ·unfold lA
   by_cases z:aD (rd w k)=true
   ·rw[if_pos z];exact .inl rfl
   ·rw[if_neg z];exact .inr rfl
  ·unfold lA
   rcases e with e | e
   ·rw[if_pos (by rw[e];exact hx)]
    unfold sq
    rw[Qay];exact e
   ·have z: ¬aD (rd w k)=true:=by rw[e,fP _ lx.mem,hx];decide
    rw[if_neg z]
    unfold bq
    rw[ZW,e,aF lx]
 obtain ⟨df,f0,fe⟩:=xB (k:=i) hw
 obtain ⟨V5,g0,ge⟩:=xB (k:=j) hv
 have lf:=df.xB hy hw
 have lg:=V5.xB hy hv
 by_cases par: ∀k,lA (ws.getD c []) i k=lA (ws.getD d []) j k
 ·unfold cI
  rw[show lA (ws.getD c []) i=lA (ws.getD d []) j from funext par,fq,fq]
  by_cases cd:c=d
  ·subst cd
   have ij:i≠j:=fun z=>dG (by rw[z])
   obtain ⟨h1,h2⟩:=h.root hc
   have hr:=h.rp c hc
   -- one and Bn same way
   have low:aD (rd (ws.getD c []) i)=aD (rd (ws.getD c []) j):=by
    by_cases z1:aD (rd (ws.getD c []) i)=true<;>by_cases z2:aD (rd (ws.getD c []) j)=true
    ·rw[z1,z2]
    ·exfalso
     rw[fe,ge,if_pos z1,if_neg z2]at par
     exact sS hy hw _ _ par
    ·exfalso
     rw[fe,ge,if_neg z1,if_pos z2]at par
     exact sS hy hw _ _ fun k=>(par k).symm
    ·rw[show aD (rd (ws.getD c []) i)=false by simpa using z1,show aD (rd (ws.getD c []) j)=false by simpa using z2]
   have ps:bP (ws.getD c []) (ws.getD c []) i j:=by
    by_cases z1:aD (rd (ws.getD c []) i)=true
    ·have z2:aD (rd (ws.getD c []) j)=true:=by rw[<-low];exact z1
     rw[fe,ge,if_pos z1,if_pos z2]at par
     exact par
    ·have z2: ¬aD (rd (ws.getD c []) j)=true:=by rw[<-low];exact z1
     rw[fe,ge,if_neg z1,if_neg z2]at par
     have e:=congrArg jw (funext par)
     rw[<-eF, <-eF,mK hy (bf hw _),mK hy (bf hw _)]at e
     exact fun k=>congrFun e k
   have q:=(h.rr c hc _ _).mp ps
   have FL:i%r c=j%r c:=by
    have q2:=Int.emod_eq_emod_iff_emod_sub_eq_zero.mpr q
    have q3:((i%r c:Nat):Int)=((j%r c:Nat):Int):=q2
    omega
   have k1:= @xC (ws.getD c []).length _ (r c) c i j (L c) (aD (rd (ws.getD c []) j)) hr h1 hi hj FL ij
   have k2:= @xC (ws.getD c []).length _ (r c) c j i (L c) (aD (rd (ws.getD c []) j)) hr h1 hj hi FL.symm (Ne.symm ij)
   rw[low]
   by_cases z:aD (rd (ws.getD c []) j)=true
   ·rw[if_pos z]at k1 k2
    rw[k1,k2,decide_eq_true_iff,decide_eq_true_iff]
    omega
   ·rw[if_neg z]at k1 k2
    rw[k1,k2,decide_eq_true_iff,decide_eq_true_iff]
    omega
  ·have hl:L d=if aD (rd (ws.getD d []) j)=aD (rd (ws.getD c []) i) then L c else !L c:=by
    by_cases z1:aD (rd (ws.getD c []) i)=true<;>by_cases z2:aD (rd (ws.getD d []) j)=true
    ·rw[z1,z2,if_pos rfl]
     rw[fe,ge,if_pos z1,if_pos z2]at par
     exact (h.l1 c d i j hc hd par).symm
    ·rw[if_neg (fun q=>z2 (q.trans z1))]
     rw[fe,ge,if_pos z1,if_neg z2]at par
     exact h.l2 c d i j hc hd par
    ·rw[if_neg (fun q=>z1 (q.symm.trans z2))]
     rw[fe,ge,if_neg z1,if_pos z2]at par
     have:=h.l2 d c j i hd hc fun k=>(par k).symm
     rw[this,Bool.not_not]
    ·rw[show aD (rd (ws.getD c []) i)=false by simpa using z1,show aD (rd (ws.getD d []) j)=false by simpa using z2,if_pos rfl]
     rw[fe,ge,if_neg z1,if_neg z2]at par
     have e:=congrArg jw (funext par)
     rw[<-eF, <-eF,mK hy (bf hw _),mK hy (bf hv _)]at e
     exact (h.l1 c d i j hc hd fun k=>congrFun e k).symm
   have BM:= @sX (ws.getD c []).length (ws.getD d []).length (r c) (r d) c d i j (L c) (aD (rd (ws.getD c []) i)) (aD (rd (ws.getD d []) j)) cd
   have ym:L c=if aD (rd (ws.getD c []) i)=aD (rd (ws.getD d []) j) then L d else !L d:=by
    rw[hl]
    cases aD (rd (ws.getD d []) j)<;>cases aD (rd (ws.getD c []) i)<;>cases L c<;>rfl
   have JP:= @sX (ws.getD d []).length (ws.getD c []).length (r d) (r c) d c j i (L d) (aD (rd (ws.getD d []) j)) (aD (rd (ws.getD c []) i)) (Ne.symm cd)
   rw[<-hl]at BM
   rw[<-ym]at JP
   rw[BM,JP,hl]
   cases aD (rd (ws.getD d []) j)<;>cases aD (rd (ws.getD c []) i)<;>cases L c<;>simp<;>omega
 ·have sY: ∃k,lA (ws.getD c []) i k≠lA (ws.getD d []) j k:=Classical.byContradiction fun z=>par fun k=>Classical.byContradiction fun w=>z ⟨k,w⟩
  have N5: ∀{w:List Nat} {k:Nat} (z:Int),lA w k (z+w.length)=lA w k z:=fun {w k} z=>by
   unfold lA
   split
   ·exact de w k z
   ·exact ow w k z
  obtain ⟨a,b,rn,ha,hb⟩:=dH lw lv N5 N5 ((f0 e1).trans (g0 e2).symm) sY
  have big:=h.big c d hc hd
  unfold cI
  rw[lV hy lf lg rn _ _ M 0 (Xy _) (Xy _) (by omega) (by omega),lV hy lg lf rn.sy _ _ M 0 (Xy _) (Xy _) (by omega) (by omega),CI hy lf lg (rn.lU a (by omega) (by omega)) rn.hi,xE hy lf lg (rn.lU _ (by omega) (by omega)) rn.lo]
  by_cases z:a<=b
  ·rw[if_pos z,if_pos z]
   cases gn y (lA (ws.getD c []) i) (lA (ws.getD d []) j) a
   ·exact .inr rfl
   ·exact .inl rfl
  ·rw[if_neg z,if_neg z]
   cases gy y (lA (ws.getD c []) i) (lA (ws.getD d []) j) b
   ·exact .inr rfl
   ·exact .inl rfl
theorem J2 {y:List Nat} {ws:List (List Nat)} {os:List Od} (hy:Yd y) (hw: ∀w∈ws,SW y w) (h:tK y ws os): ∃M,eN y ws (Es ws) (Et ws) M/\C9 y ws (Es ws) (Et ws) M os:=by
 obtain ⟨M,hM,ok,up⟩:=h
 have hs: ∀c,c<ws.length->SW y (ws.getD c []):=fun c hc=>hw _ (getD_in hc)
 have hC:eN y ws (Es ws) (Et ws) M:=CO hy hs (fun c hc=>jY (hs c hc).ne) fun c d hc hd=>hM _ (getD_in hc) _ (getD_in hd)
 refine ⟨M,hC,ok,fun o ho=>?_⟩
 obtain ⟨j,hj,ej⟩:=Z7 ho
 have Pn:j<(fR y).length:=by rw[<-ok.1];exact hj
 have pm:=ok.2 j o (fR y)[j] (by rw[IM hj,ej]) (IM Pn)
 have bs:=vE hy (YA Pn)
 have lb:Lt (fR y)[j]:= .inl bs
 have lo:aD (fR y)[j]=true:=by rw[jm lb];exact decide_eq_true bs
 have nd:(o.ps.map Pr.pair).Nodup:=pm.nodup_iff.mpr (q9 _ _ _)
 have u:=up o ho
 unfold DA at u
 refine ZN (fun {s t} h1 h2 h=>?_) (List.Pairwise.and u nd)
 obtain ⟨w1,e1,i1,o1⟩:=xX (pm.mem_iff.mp h1)
 obtain ⟨w2,e2,i2,o2⟩:=xX (pm.mem_iff.mp h2)
 have c1:=(IQ.mp e1).1
 have c2:=(IQ.mp e2).1
 have g1:ws.getD s.1 []=w1:=by rw[Xv,e1];rfl
 have g2:ws.getD t.1 []=w2:=by rw[Xv,e2];rfl
 have on: ∀{l:Nat},xK (fR y)[j] l=true->l=(fR y)[j]\/l=ar (fR y)[j]:=fun {l} q=>by unfold xK at q;simpa using q
 have tr:=DC hC (c:=s.1) (i:=s.2) (d:=t.1) (j:=t.2) c1 c2 (by rw[g1];exact i1) (by rw[g2];exact i2) h.2 lo (by rw[g1];exact on o1) (by rw[g2];exact on o2)
 rcases tr with q | q
 ·exact q
 ·have hf:bJ (cI y ws (Es ws) (Et ws) M t.1 t.2) (cI y ws (Es ws) (Et ws) M s.1 s.2)=false:=h.1
  rw[hf]at q
  cases q
theorem DD {α β:Type} (p:β->β->Bool) (f:α->β): ∀l:List α,cl p (l.map f)=cl (fun a b=>p (f a) (f b)) l
 | []=>rfl
 | a::l=>by
  show ((l.map f).filter (p (f a))).length+cl p (l.map f)=(l.filter fun b=>p (f a) (f b)).length+cl _ l
  rw[DD p f l,List.filter_map,Pd]
  rfl
theorem vF {α:Type} {p q:α->α->Bool}: ∀{l:List α},l.Pairwise (fun a b=>p a b=q a b)->cl p l=cl q l
 | [],_=>rfl
 | a::l,h=>by
  rw[Zh]at h
  show (l.filter (p a)).length+cl p l=(l.filter (q a)).length+cl q l
  rw[vF h.2,Qbr fun b hb=>h.1 b hb]
theorem DE {a b a' b':Nat} (h1:a<b) (h2:a'<b') (h4:a<a') (h5:b≠a') (h6:b≠b'):(lB (a,b) (a',b')||lB (a',b') (a,b))=mW a b a' b':=by
 have g4:=ZK h4 h2
 rw[CA (Yk h1) (Yk h4) (Yk g4) h5 h6]
 unfold lB
 rw[decide_eq_true h4,decide_eq_true g4,decide_eq_false (Z8 h4),jq (Ne.symm h6)]
 have k:decide (b'<b)=true->decide (a'<b)=true:=fun q=>decide_eq_true (ZK h2 (of_decide_eq_true q))
 revert k
 generalize decide (a'<b)=p
 generalize decide (b'<b)=q
 revert p q
 decide
theorem tL {a b a' b':Nat} (h1:a<b) (h2:a'<b') (h3:a≠a') (h4:a≠b') (h5:b≠a') (h6:b≠b'):(lB (a,b) (a',b')||lB (a',b') (a,b))=mW a b a' b':=by
 rcases Zv h3 with q | q
 ·exact DE h1 h2 q h5 h6
 ·rw[Bool.or_comm,DE h2 h1 q (Ne.symm h4) (Ne.symm h6),kN (Yk h2) (Yk h1) (Ne.symm h3) (Ne.symm h5) (Ne.symm h4) (Ne.symm h6)]
theorem Gm {a b a' b':Nat} (h1:a≠b) (h2:a'≠b') (h3:a≠a') (h4:a≠b') (h5:b≠a') (h6:b≠b'):(lB (min a b,max a b) (min a' b',max a' b')||lB (min a' b',max a' b') (min a b,max a b))=mW a b a' b':=by
 rcases Zv h1 with q | q<;>rcases Zv h2 with r | r
 ·rw[Y2 (YE q),ZJ (YE q),Y2 (YE r),ZJ (YE r)]
  exact tL q r h3 h4 h5 h6
 ·rw[Y2 (YE q),ZJ (YE q),Y4 (YE r),ZA (YE r),i0]
  exact tL q r h4 h3 h6 h5
 ·rw[Y4 (YE q),ZA (YE q),Y2 (YE r),ZJ (YE r), <-vg h1 h2 h3 h4 h5 h6]
  exact tL q r h5 h6 h3 h4
 ·rw[Y4 (YE q),ZA (YE q),Y4 (YE r),ZA (YE r), <-vg h1 h2 h3 h4 h5 h6,i0]
  exact tL q r h6 h5 h4 h3
section
variable {y:List Nat} {ws:List (List Nat)} {L:Nat->Bool} {r:Nat->Nat} {M:Nat}
noncomputable def m4 (ps:List (Nat×Nat×Nat)) (c i e:Nat):Nat:=ps.idxOf (c,i,e)
theorem Gn {n i:Nat} (h:i<n):i5 n ((i:Int) - 1)=vZ n i/\i5 n (i:Int)=i:=by
 have h1:=eG (n:=n) (by omega) ((i:Int) - 1)
 have h2:=eG (n:=n) (by omega) (i:Int)
 rw[zi h]at h1
 rw[Yu (by omega) (by omega)]at h2
 omega
theorem kW {ps:List (Nat×Nat×Nat)} {c i:Nat} (hi:i<(ws.getD c []).length):(jE ps c (ws.getD c []) i).2.2.1=pI ws (m4 ps) c ((i:Int) - 1)/\(jE ps c (ws.getD c []) i).2.2.2=pO ws (m4 ps) c i:=by
 obtain ⟨e1,e2⟩:=Gn hi
 have g: ∀k,k<(ws.getD c []).length->(ws.getD c []).getD k 0=rd (ws.getD c []) k:=fun k hk=>by
  rw[Xv,lS hk];rfl
 have dG:ws.getD c []≠[]:=fun z=>by rw[z]at hi;exact absurd hi (Qa0 _)
 unfold jE pI pO m4
 rw[e1,e2,g _ (xP hi),g _ hi]
 refine ⟨?_,rfl⟩
 have:rd (ws.getD c []) (vZ (ws.getD c []).length i:Nat)=rd (ws.getD c []) ((i:Int) - 1):=by rw[<-e1,bY dG]
 rw[this]
theorem mj (ps:List (Nat×Nat×Nat)) (ws:List (List Nat)): ∀n,gq ps ws n=(vc ws n).map fun x=>jE ps x.1 (ws.getD x.1 []) x.2
 | 0=>rfl
 | n+1=>by
  have ih:=mj ps ws n
  unfold gq at ih ⊢
  unfold vc
  rw[Y_,YN,ih,X9,ZU,YT]
  rfl
theorem DF (ws:List (List Nat)) (n:Nat):(vc ws n).Nodup:=(yS n).imp fun {a b} h z=>by
 rw[z]at h
 unfold Ek at h
 simp at h
theorem DG (h:eN y ws L r M) {ps:List (Nat×Nat×Nat)} (hN:Lies y ws L r M (m4 ps)) (l:List (Nat×Nat)) (hl:l.Nodup) (xR: ∀x∈l,x.1<ws.length/\x.2<(ws.getD x.1 []).length):(eJ (l.map fun x=>jE ps x.1 (ws.getD x.1 []) x.2)).Nodup:=by
 unfold eJ
 induction l with
 | nil=>exact List.Pairwise.nil
 | cons x t ih=>
  rw[Yw]at hl
  rw[Ym,YB,YZ]
  obtain ⟨x1,x2⟩:=xR x Vj
  have ex:=kW (ps:=ps) (ws:=ws) (c:=x.1) x2
  refine ⟨?_,ih hl.2 fun z hz=>xR z (SX _ hz),fun a ha b hb e=>?_⟩
  ·rw[ex.1,ex.2,Yw]
   exact ⟨by simpa using (eI h hN x1 x1 x2 x2).1,by simp⟩
  ·obtain ⟨c4,V6,Hg⟩:=YF.mp hb
   obtain ⟨z,hz,rfl⟩:=Yp.mp V6
   obtain ⟨z1,z2⟩:=xR z (SX _ hz)
   have ez:=kW (ps:=ps) (ws:=ws) (c:=z.1) z2
   have dG:(x.1,x.2)≠(z.1,z.2):=fun q=>hl.1 (by
    have:x=z:=Prod.ext (Prod.mk.inj q).1 (Prod.mk.inj q).2
    rw[this];exact hz)
   have n1:=eI h hN x1 z1 x2 z2
   have n2:=eI h hN z1 x1 z2 x2
   rw[ex.1,ex.2]at ha
   rw[ez.1,ez.2]at Hg
   have Tv:a=pI ws (m4 ps) x.1 ((x.2:Int) - 1)\/a=pO ws (m4 ps) x.1 x.2:=by simpa using ha
   have lr:b=pI ws (m4 ps) z.1 ((z.2:Int) - 1)\/b=pO ws (m4 ps) z.1 z.2:=by simpa using Hg
   rw[e]at Tv
   rcases Tv with p | p<;>rcases lr with q | q<;>rw[p]at q
   ·exact (n1.2 dG).1 q
   ·exact n1.1 q
   ·exact n2.1 q.symm
   ·exact (n1.2 dG).2 q
theorem DH (h:eN y ws L r M) {ps:List (Nat×Nat×Nat)} (hN:Lies y ws L r M (m4 ps)) (l:List (Nat×Nat)) (hl:l.Nodup) (xR: ∀x∈l,x.1<ws.length/\x.2<(ws.getD x.1 []).length):cl (fun x z=>lB x z||lB z x) (oH (l.map fun x=>jE ps x.1 (ws.getD x.1 []) x.2))=cl (K4 ws (m4 ps)) l:=by
 unfold oH
 rw[YT,DD]
 refine vF (ZN (fun {a b} ha hb qT=>?_) hl)
 obtain ⟨a1,a2⟩:=xR a ha
 obtain ⟨b1,b2⟩:=xR b hb
 have ea:=kW (ps:=ps) (ws:=ws) (c:=a.1) a2
 have eb:=kW (ps:=ps) (ws:=ws) (c:=b.1) b2
 have dG:(a.1,a.2)≠(b.1,b.2):=qT
 have n1:=eI h hN a1 b1 a2 b2
 have n2:=eI h hN b1 a1 b2 a2
 have n3:=eI h hN a1 a1 a2 a2
 have n4:=eI h hN b1 b1 b2 b2
 show (lB (min _ _,max _ _) (min _ _,max _ _)||lB (min _ _,max _ _) (min _ _,max _ _))=K4 ws (m4 ps) a b
 rw[ea.1,ea.2,eb.1,eb.2,Gm n3.1 n4.1 (n1.2 dG).1 n1.1 (Ne.symm n2.1) (n1.2 dG).2]
 rfl
end
noncomputable def kr (w:List Nat):Int:=((w.length / K8 w:Nat):Int)
theorem kX {w v:List Nat} (hw:w≠[]) (hv:v≠[]) (e: ∀d:Int,bP w w d 0↔bP v v d 0):K8 w=K8 v:=AI hw hv (jY hw) (jY hv) e
theorem oO {w:List Nat} {n:Nat} (hn:n<=w.length):(dm w n).length=w.length:=by
 unfold dm
 rw[KW,Yc,Xw,Y2 hn,Nat.sub_add_cancel hn]
theorem J3 {w v:List Nat} (h:w≠[]) (e:v.length=w.length):v≠[]:=fun z=>h (Y0.mp (by rw[<-e,z];rfl))
theorem J4 {w:List Nat} (hw:w≠[]) {n:Nat} (hn:n<=w.length):kr (dm w n)=kr w:=by
 unfold kr
 rw[oO hn,kX (J3 hw (oO hn)) hw (FR hw hn)]
theorem J5 {y w:List Nat} (hy:Yd y) (hw:SW y w):kr (cG w)=kr w:=by
 unfold kr
 rw[bS,kX (lY hw.ne) hw.ne (FU hy hw)]
theorem J6 {y z w:List Nat} {σ:Nat->Nat} {neg:Bool} (T:pY y z σ neg) (hw:SW y w):kr (w.map σ)=kr w:=by
 unfold kr
 rw[Pd,kX (T.sw hw).ne hw.ne (FT T hw)]
theorem J9 {w:List Nat} (hw:w≠[]) {s:Nat} (h:bK w s):0<s/\w.length%s=0:=by
 obtain ⟨p,a⟩:=ft hw h
 refine ⟨p,?_⟩
 have:=(a w.length 0).mp fun k=>by
  unfold sq
  rw[Zo,Qbw,eV]
 rw[ZW]at this
 have c1:((w.length%s:Nat):Int)=(w.length:Int)%(s:Int):=rfl
 rw[<-c1]at this
 exact Qbh this
theorem Gp {w:List Nat} (hw:w≠[]) {p:Nat} (hp:0<p):fj p w≠[]:=fun z=>by
 have:=nk p w
 rw[z]at this
 exact absurd this (Yk (Qb1 hp (S3.mpr hw)))
theorem Gq {w:List Nat} (hw:w≠[]) {p:Nat} (hp:0<p):kr (fj p w)=p*kr w:=by
 unfold kr
 have d:=J9 hw (jY hw)
 rw[nk,kX (Gp hw hp) hw (CU hw hp),Nat.mul_div_assoc _ (Zw d.2),Qa4]
noncomputable def gB (y w:List Nat):Int:=SS y w w+2*(kr w - 1)
noncomputable def xZ (y:List Nat) (ws:List (List Nat)):Int:=sm ws.length (fun c=>gB y (ws.getD c.toNat []))+2*ue ws.length (fun c d=>SS y (ws.getD c.toNat []) (ws.getD d.toNat []))
theorem J_ (h:Int->Int) (n:Nat):2*sm n h=sm n fun i=>2*h i:=by
 rw[show (fun i=>2*h i)=fun i=>h i+h i from funext fun i=>Int.two_mul _,oz,Int.two_mul]
theorem Ka {y:List Nat} {ws:List (List Nat)} {M:Nat} {N:Nat->Nat->Nat->Nat} (h:eN y ws (Es ws) (Et ws) M) (hN:Lies y ws (Es ws) (Et ws) M N):2*(cl (K4 ws N) (places ws):Int)=xZ y ws:=by
 unfold places xZ
 rw[CL,Int.mul_add,J_]
 congr 1
 ·refine aI fun c hc=>?_
  rw[Xx]
  have a:=CH h hN hc
  rw[Hl h.yd (h.sw c hc) (h.sw c hc)]at a
  rw[show ue (ws.getD c []).length (fun i j=>one (K4 ws N (c,i.toNat) (c,j.toNat)=true))=ue (ws.getD c []).length (fun i j=>one (iI (pO ws N c) (pI ws N c) (pO ws N c) (pI ws N c) i j=true)) from lW fun i j _ _=>by
   unfold K4
   rw[Xx,Xx],a]
  rfl
 ·congr 1
  refine lW fun c d mO hd=>?_
  rw[Xx,Xx, <-Hl h.yd (h.sw c (ZK mO hd)) (h.sw d hd), <-AF h hN (c:=c) (d:=d) (ZK mO hd) hd (Yk mO)]
  exact bp fun i j _ _=>by
   unfold K4
   rw[Xx,Xx]
theorem AV {y:List Nat} {ws:List (List Nat)} {os:List Od} (hy:Yd y) (hw: ∀w∈ws,SW y w) (h:tK y ws os):(eJ (q_ y ws os)).Nodup/\2*(cl (fun x z=>lB x z||lB z x) (oH (q_ y ws os)):Int)=xZ y ws:=by
 obtain ⟨M,hC,hT⟩:=J2 hy hw h
 have hN:Lies y ws (Es ws) (Et ws) M (m4 (nB y os)):=lies_of hy hC.sw hT
 have xR: ∀x∈places ws,x.1<ws.length/\x.2<(ws.getD x.1 []).length:=fun x hx=>sH.mp hx
 unfold q_
 rw[mj]
 refine ⟨DG hC hN _ (DF ws _) xR,?_⟩
 rw[DH hC hN _ (DF ws _) xR]
 exact Ka hC hN
theorem vG (y w:List Nat):xZ y [w]=gB y w:=by
 show (0+gB y w)+2*(0+0)=_
 omega
theorem DI (y w v:List Nat):xZ y [w,v]=gB y w+gB y v+2*SS y w v:=by
 show (0+gB y w+gB y v)+2*((0+0)+(0+SS y w v))=_
 omega
theorem Jx.ok {y:List Nat} {ws:List (List Nat)} (h:Jx y ws):N9 y ws:=⟨h.sr,fun w hw=>⟨(h.sw w hw).1.bH,(h.sw w hw).2⟩⟩
theorem AW {y:List Nat} {ws:List (List Nat)} {os:List Od} (h:Jx y ws):(q_ y ws os).length<=24:=by
 unfold q_
 rw[mj,Pd]
 exact h.all
theorem zD {y w:List Nat} (h:SW y w) (hz:w.length<=12):Jx y [w]:=⟨fun v hv=>by rw[Vk.mp hv];exact ⟨h,hz⟩,by show 1<=4;decide,by
 have:=sO (ws:=[w]) (m:=12) (fun v hv=>by rw[Vk.mp hv];exact hz) 1 (SY _)
 unfold places
 show (vc [w] 1).length<=24
 omega⟩
def vH (_:PySem.W.Frag):Sp:=fun vs H Q _=> ∃(y:List Nat) (wt:Addr) (ws:List (List Nat)),vs=[.str (S y), .ref wt]/\Yd y/\y.length<=8/\Jx y ws/\H wt=some (.tup (eB ws))/\ ∀(n:Nat) H',aq H H'->2*(n:Int)=xZ y ws->Q (.int n) H'
theorem AX {K:PySem.W.Frag} {vs:List V} {H:Hp} {Q:VK} {E:XK} (h:vH K vs H Q E):vs.length=2:=by obtain ⟨_,_,_,rfl,_⟩:=h;rfl
def DJ (_:PySem.W.Frag):Sp:=fun vs H Q _=> ∃(y w:List Nat),vs=[.str (S y), .str (S w)]/\Yd y/\y.length<=8/\SW y w/\w.length<=12/\ ∀(n:Nat) H',aq H H'->2*(n:Int)=gB y w->Q (.int n) H'
theorem len_own {K:PySem.W.Frag} {vs:List V} {H:Hp} {Q:VK} {E:XK} (h:DJ K vs H Q E):vs.length=2:=by obtain ⟨_,_,rfl,_⟩:=h;rfl
theorem one_le (p:Prop):0<=one p/\one p<=1:=by
 by_cases z:p
 ·rw[fk z];decide
 ·rw[a_ z];decide
theorem DK {h:Int->Int} {b:Nat} (k: ∀i:Int,0<=h i/\h i<=b): ∀n:Nat,0<=sm n h/\sm n h<=(n*b:Nat)
 | 0=>by rw[Nat.zero_mul];exact ⟨Int.le_refl _,Int.le_refl _⟩
 | n+1=>by
  have a:=DK k n
  have c:=k n
  rw[ZS]
  show 0<=sm n h+h n/\sm n h+h n<=_
  omega
theorem DL (y w v:List Nat):0<=SS y w v/\SS y w v<=(w.length*(v.length*3):Nat):=DK (fun i=>DK (b:=3) (fun j=>by
 unfold bs
 have a:=one_le (ac y (ar (rd w (i - 1))) (rd w i) (ar (rd v (j - 1))) (rd v j)=true)
 have b:=one_le (gz y (sq w i) (sq v j))
 have c:=one_le (gz y (sq w i) (bq v j))
 omega) v.length) w.length
theorem pY.own {y z w:List Nat} {σ:Nat->Nat} {neg:Bool} (T:pY y z σ neg) (hw:SW y w):gB z (w.map σ)=gB y w:=by
 unfold gB
 rw[T.same hw hw,J6 T hw]
theorem zE {y:List Nat} (hy:Yd y) (k:Nat):pY y (y.drop k++y.take k) id false:=by
 have e:y.take k++y.drop k=y:=YM k y
 have hz:Yd (y.drop k++y.take k):=hy.perm ((List.Perm.of_eq e.symm).trans Qa6)
 refine ⟨hy,hz,fun a ha=>?_,fun a _ b _ q=>q,fun a _=>rfl,fun a ha b hb c hc ab ac bc=>?_⟩
 ·rw[<-e]at ha
  exact (Yi.mp ha).elim (fun g=>Yq _ g) fun g=>Zc _ g
 ·have g:=JL (a:=y.take k) (b:=y.drop k) (x:=a) (y:=b) (z:=c) (by rw[e];exact hy.nd) (by rw[e];exact ha) (by rw[e];exact hb) (by rw[e];exact hc) ab ac bc
  rw[e]at g
  show My.gr _ a b c=_
  rw[g]
  cases My.gr y a b c<;>rfl
theorem Gr {y:List Nat} (hy:Yd y):pY y y.reverse id true:=by
 refine ⟨hy,hy.perm (Qaa y).symm,fun a ha=>Zg.mpr ha,fun a _ b _ q=>q,fun a _=>rfl,fun a ha b hb c hc ab ac bc=>?_⟩
 show My.gr _ a b c=_
 rw[FV hy.nd ha hc hb ac ab (Ne.symm bc),Cr hy.nd ha hb hc ab ac bc]
 cases My.gr y a b c<;>rfl
theorem idx_map {f:Nat->Nat}: ∀{y:List Nat} {a:Nat},(∀b∈y,f b=f a->b=a)->a∈y->(y.map f).idxOf (f a)=y.idxOf a
 | [],a,_,h=>absurd h Yl
 | b::y,a,h,ha=>by
  rw[Ym,Qa3,Qa3]
  by_cases z:b=a
  ·rw[z,beq_self_eq_true,beq_self_eq_true]
   rfl
  ·have z2:f b≠f a:=fun q=>z (h b Vj q)
   rw[beq_eq_false_iff_ne.mpr z,beq_eq_false_iff_ne.mpr z2]
   show _+1=_+1
   rw[idx_map (fun c hc=>h c (SX _ hc)) ((Vi.mp ha).elim (fun q=>absurd q.symm z) id)]
theorem DM {y:List Nat} {f:Nat->Nat} (hy:Yd y) (inj: ∀a∈y, ∀b∈y,f a=f b->a=b) (Hq: ∀a∈y,f (ar a)=ar (f a)) (lt: ∀a∈y,Lt (f a)):pY y (y.map f) f false:=by
 have ix: ∀a∈y,(y.map f).idxOf (f a)=y.idxOf a:=fun a ha=>idx_map (fun b hb q=>inj b hb a ha q) ha
 refine ⟨hy,⟨?_,fun c hc=>?_,fun c hc=>?_⟩,fun a ha=>Yp.mpr ⟨a,ha,rfl⟩,inj,Hq,fun a ha b hb c hc _ _ _=>?_⟩
 ·exact YY.mpr (ZN (fun {a b} ha hb q z=>q (inj a ha b hb z)) hy.nd)
 ·obtain ⟨a,ha,rfl⟩:=Yp.mp hc
  exact lt a ha
 ·obtain ⟨a,ha,rfl⟩:=Yp.mp hc
  exact Yp.mpr ⟨_,hy.cl a ha,Hq a ha⟩
 ·unfold My.gr
  rw[ix a ha,ix b hb,ix c hc,Pd]
  simp
structure Lk (y w u:List Nat):Prop where
 sw:SW y u
 len:u.length=w.length
 kr:kr u=My.kr w
 ss: ∀v,SW y v->SS y u v=SS y w v
theorem Lk.own {y w u:List Nat} (hy:Yd y) (hw:SW y w) (h:Lk y w u):gB y u=gB y w:=by
 unfold gB
 rw[h.kr,h.ss u h.sw,xH hy hw h.sw,h.ss w hw]
theorem DN {y w:List Nat} (hy:Yd y) (hw:SW y w) {k:Nat} (hk:k<=w.length):Lk y w (dm w k)/\Lk y w (cG (dm w k)):=by
 have h1:SW y (dm w k):=hw.dm hk
 have a:Lk y w (dm w k):=⟨h1,oO hk,J4 hw.ne hk,fun v hv=>JJ hw.ne hk⟩
 exact ⟨a,h1.cG hy,by rw[bS,a.len],by rw[J5 hy h1,a.kr],fun v hv=>by rw[JK hy h1 hv,a.ss v hv]⟩
structure Sh (y w c:List Nat):Prop where
 lt: ∀l∈w,Lt l
 sr:w.length<=100
 is:core (red w)=c
 sw:SW y c
 len:c.length<=12
noncomputable def uf (y c:List Nat):Bool:=decide (gB y c=0)
noncomputable def vI (y:List Nat) (cs:List (List Nat)):Bool:=decide (xZ y cs=0)
theorem Sh.of {y w:List Nat} (hy:Yd y) (h:SW y w) (hz:w.length<=12):Sh y w w:=⟨fun l hl=>hy.lt l (h.bH l hl),by omega,h.core hy,h,hz⟩
theorem Sh.big {y w:List Nat} (hy:Yd y) (h:SW y w) (hz:w.length<=12) {k x:Nat} (hx:x∈y):Sh y (w.take k++[x]++[ar x]++w.drop k) w:=by
 have lx:=hy.lt x hx
 have lw: ∀l∈w,Lt l:=fun l hl=>hy.lt l (h.bH l hl)
 have e:w.take k++[x]++[ar x]++w.drop k=w.take k++x::ar x::w.drop k:=by simp
 refine ⟨fun l hl=>?_,?_,?_,h,hz⟩
 ·rw[e]at hl
  rcases Yi.mp hl with g | g
  ·exact lw l (Zm g)
  ·rcases Vi.mp g with g | g
   ·rw[g];exact lx
   ·rcases Vi.mp g with g | g
    ·rw[g];exact lx.ar
    ·exact lw l (ZZ g)
 ·rw[e,KW,Ys,Ys,Xw,Yc]
  omega
 ·rw[e,Cg lx.ar (aF lx).symm,YM]
  exact h.core hy
theorem Kb {y w:List Nat} (hw:w≠[]):0<=gB y w/\SS y w w<=gB y w:=by
 have k:1<=kr w:=by
  unfold kr
  have r:=jY hw
  rcases r with g | ⟨h1,h2,_⟩
  ·exact absurd g.1 hw
  ·have:=Nat.div_pos h2 h1
   omega
 have s:=(DL y w w).1
 unfold gB
 omega
theorem jZ (y w v:List Nat):vI y [w,v]=decide (gB y w+gB y v+2*SS y w v=0):=by unfold vI;rw[DI]
theorem Kc (y w:List Nat):vI y [w]=uf y w:=by unfold vI uf;rw[vG]
theorem Gs {y w:List Nat} (hy:Yd y) (hw:SW y w):vI y [w,cG w]=uf y w:=by
 have g:Lk y w (cG w):=(DN hy hw (Xy _)).2 |> fun k=>by
  have e:dm w 0=w:=by unfold dm;simp
  rw[e]at k
  exact k
 have a:=Kb (y:=y) hw.ne
 have s:=(DL y w w).1
 have e1:=g.own hy hw
 have e2:SS y w (cG w)=SS y w w:=by rw[xH hy hw g.sw,g.ss w hw]
 rw[jZ,e1,e2]
 unfold uf
 exact decide_eq_decide.mpr ⟨fun z=>by omega,fun z=>by omega⟩
theorem DO {y w:List Nat} (hw:SW y w):uf y (w++w)=false:=by
 have e:w++w=fj 2 w:=by unfold fj;simp[List.replicate]
 have a:=(DL y (w++w) (w++w)).1
 have k:kr (w++w)=2*kr w:=by rw[e,Gq hw.ne (by decide)];rfl
 have k1:1<=kr w:=by
  unfold kr
  rcases jY hw.ne with g | ⟨h1,h2,_⟩
  ·exact absurd g.1 hw.ne
  ·have:=Nat.div_pos h2 h1
   omega
 unfold uf gB
 rw[k]
 exact decide_eq_false (by omega)
theorem Lk.Gu {y w u v:List Nat} (hy:Yd y) (hw:SW y w) (hv:SW y v) (g:Lk y w u):uf y u=uf y w/\vI y [u,v]=vI y [w,v]/\vI y [v,u]=vI y [w,v]:=by
 have e1:=g.own hy hw
 have e2:=g.ss v hv
 have e3:SS y v u=SS y w v:=by rw[xH hy hv g.sw];exact e2
 refine ⟨by unfold uf;rw[e1],by rw[jZ,jZ,e1,e2],?_⟩
 rw[jZ,jZ,e1,e3]
 exact decide_eq_decide.mpr ⟨fun z=>by omega,fun z=>by omega⟩
theorem Lk.refl {y w:List Nat} (h:SW y w):Lk y w w:=⟨h,rfl,rfl,fun _ _=>rfl⟩
theorem pY.Gu {y z w v:List Nat} {σ:Nat->Nat} {neg:Bool} (T:pY y z σ neg) (hw:SW y w) (hv:SW y v):uf z (w.map σ)=uf y w/\vI z [w.map σ,v.map σ]=vI y [w,v]:=by
 refine ⟨by unfold uf;rw[T.own hw],by rw[jZ,jZ,T.own hw,T.own hv,T.same hw hv]⟩
theorem pY.lid {y z w v:List Nat} {neg:Bool} (T:pY y z id neg) (hw:SW y w) (hv:SW y v):SW z w/\SW z v/\uf z w=uf y w/\vI z [w,v]=vI y [w,v]:=by
 have a:=T.Gu hw hv
 have b:=T.sw hw
 have c:=T.sw hv
 rw[Qab]at a b c
 rw[Qab]at a
 exact ⟨b,c,a⟩
def oP (_:PySem.W.Frag):Sp:=fun vs H Q _=> ∃(y w c:List Nat),vs=[.str (S y), .str (S w)]/\Yd y/\y.length<=8/\Sh y w c/\ ∀H',aq H H'->Q (.bl (uf y c)) H'
theorem vJ {K:PySem.W.Frag} {vs:List V} {H:Hp} {Q:VK} {E:XK} (h:oP K vs H Q E):vs.length=2:=by obtain ⟨_,_,_,rfl,_⟩:=h;rfl
def DP (y:List Nat):List (List Nat)->List (List Nat)->Prop
 | [],[]=>True
 | w::ws,c::cs=>Sh y w c/\DP y ws cs
 | _,_=>False
def kY (_:PySem.W.Frag):Sp:=fun vs H Q _=> ∃(y:List Nat) (wt:Addr) (ws cs:List (List Nat)),vs=[.str (S y), .ref wt]/\Yd y/\y.length<=8/\H wt=some (.tup (eB ws))/\DP y ws cs/\Jx y cs/\ ∀H',aq H H'->Q (.bl (vI y cs)) H'
theorem p_ {K:PySem.W.Frag} {vs:List V} {H:Hp} {Q:VK} {E:XK} (h:kY K vs H Q E):vs.length=2:=by obtain ⟨_,_,_,_,rfl,_⟩:=h;rfl
def mM (_:PySem.W.Frag):Sp:=fun vs H Q _=> ∃(b:Addr),vs=[.ref b, .int 2, .int 4]/\cu H b/\ ∀(t:Addr) (z:List Nat) (x y:Nat) H',Yd z->4<=z.length->z.length<=8->x∈z->y∈z->x∈aL->y∈aL->x≠y->H' t=some (.tup [.str (S z), .str (S [x]), .str (S [y])])->t≠b->cu H' b->aW b H H'->Q (.ref t) H'
theorem tM {K:PySem.W.Frag} {vs:List V} {H:Hp} {Q:VK} {E:XK} (h:mM K vs H Q E):vs.length=3:=by obtain ⟨_,rfl,_⟩:=h;rfl
def vK (_:PySem.W.Frag):Sp:=fun vs H Q _=> ∃(b:Addr) (z:List Nat) (x y:Nat),vs=[.ref b, .str (S [x]), .str (S [y]), .int 12]/\cu H b/\Yd z/\x∈z/\y∈z/\x∈aL/\y∈aL/\x≠y/\ ∀(w:List Nat) H',SW z w->w.length<=12->cu H' b->aW b H H'->Q (.str (S w)) H'
theorem AY {K:PySem.W.Frag} {vs:List V} {H:Hp} {Q:VK} {E:XK} (h:vK K vs H Q E):vs.length=4:=by obtain ⟨_,_,_,_,rfl,_⟩:=h;rfl
def jH (_:PySem.W.Frag):Sp:=fun vs H Q _=> ∃(w:List Nat),vs=[.str (S w)]/\(∀c∈w,Lt c)/\w.length<=1000/\ ∀H',aq H H'->Q (.str (S (w.map ar))) H'
theorem oQ {K:PySem.W.Frag} {vs:List V} {H:Hp} {Q:VK} {E:XK} (h:jH K vs H Q E):vs.length=1:=by obtain ⟨_,rfl,_⟩:=h;rfl
theorem DQ (a:List Nat): ∀ls:List (List Nat),Bz (.str (S a)) (eB ls)=decide (a∈ls)
 | []=>by simp[Bz,eB]
 | l::ls=>by
  have ih:=DQ a ls
  have e:Bz (.str (S a)) (eB (l::ls))=(Bx (.str (S l)) (.str (S a))||Bz (.str (S a)) (eB ls)):=rfl
  rw[e,ih]
  have e2:Bx (.str (S l)) (.str (S a))=decide (a=l):=by
   show (S l==S a)=_
   by_cases z:a=l
   ·subst z;simp
   ·rw[decide_eq_false z]
    exact beq_eq_false_iff_ne.mpr fun q=>z (by rw[<-eS l,q,eS])
  rw[e2]
  by_cases z:a=l
  ·subst z;simp
  ·simp[z]
theorem Kd {y w:List Nat} {x u:Nat} (hy:Yd y) (hx:x∈y) (hu:u∈y) (n1:u≠ar x) (n2:x≠ar u) (hw:w≠[]) (h: ∀c∈w,c=x\/c=u):SW y w:=⟨hw,fun c hc=>(h c hc).elim (fun g=>by rw[g];exact hx) fun g=>by rw[g];exact hu,fun k q=>by
 rcases h _ (gx hw k) with a | a<;>rcases h _ (gx hw (k - 1)) with b | b<;>rw[a,b]at q
 ·exact fE (hy.lt x hx) q.symm
 ·exact n2 q
 ·exact n1 q
 ·exact fE (hy.lt u hu) q.symm⟩
theorem RH {y w:List Nat} {P:List Nat->Prop} {G:Prop} (f:(∀u,Sh y u w->P u)->G) (x: ∀u,Sh y u w->P u):G:=f x
theorem Gv {y:List Nat} (hy:Yd y):pY y (y.map ar) ar false:=DM hy (fun a ha b hb q=>dI (hy.lt a ha) (hy.lt b hb) q) (fun a _=>rfl) fun a ha=>(hy.lt a ha).ar
local macro_rules | `(tactic| walk_at "rd") => `(tactic| repeat (first
 | refine ⟨_,rfl,?_⟩
 | refine ⟨_,_,rfl,rfl,?_⟩
 | refine ⟨rfl,?_⟩
 | refine And.intro (by first | decide | omega | assumption | exact ZF rfl | exact .inl ⟨by decide,by decide⟩ | exact .inr ⟨by decide,by decide⟩ | exact ⟨by decide,by decide⟩ | exact ⟨by omega,by omega⟩) ?_))
local macro_rules | `(tactic| walk_at "wk") => `(tactic| repeat (first
 | refine ⟨_,rfl,?_⟩
 | refine ⟨_,_,rfl,rfl,?_⟩
 | refine ⟨_,_,_,rfl,rfl,by first | assumption | omega,by assumption,?_⟩
 | refine ⟨rfl,?_⟩
 | refine And.intro (by first | decide | omega | assumption | exact ZF rfl | exact .inl ⟨by decide,by decide⟩ | exact .inr ⟨by decide,by decide⟩ | exact ⟨by decide,by decide⟩ | exact ⟨by omega,by omega⟩) ?_))
local macro_rules | `(tactic| walk_at "bd") => `(tactic| first | assumption | exact V7 _ | exact XC (by walk_at "bd") (by walk_at "bd"))
noncomputable def top (i:Nat):Stmt:=PySem.Challenge.pw_mustmeet_k44_whole_told_otherwise.main.body.getD i (.Pass ⟨0,0,0,0⟩)
noncomputable abbrev j4:Stmt:=top 1
noncomputable abbrev oR:Stmt:=top 2
noncomputable abbrev tN:Stmt:=top 4
noncomputable abbrev gC:Stmt:=top 5
noncomputable abbrev h7:Stmt:=top 7
noncomputable abbrev oS:Stmt:=top 8
noncomputable abbrev fG:Stmt:=top 9
noncomputable abbrev mm:Stmt:=top 10
noncomputable abbrev f_:Stmt:=top 11
noncomputable abbrev je:Stmt:=top 12
noncomputable abbrev eY:Stmt:=top 13
noncomputable abbrev h_:Stmt:=top 15
noncomputable abbrev gD:Stmt:=top 17
noncomputable abbrev jf:Stmt:=top 19
noncomputable abbrev j5:Stmt:=top 20
noncomputable abbrev x3:Stmt:=top 21
noncomputable abbrev x4:Stmt:=top 22
noncomputable abbrev gc:Stmt:=top 24
noncomputable abbrev gE:Stmt:=top 27
noncomputable abbrev ie:Stmt:=top 28
noncomputable abbrev mq:Stmt:=top 29
noncomputable abbrev mr:Stmt:=top 30
noncomputable abbrev gF:Stmt:=top 31
noncomputable abbrev gf:Stmt:=top 32
noncomputable abbrev gG:Stmt:=top 33
noncomputable abbrev ig:Stmt:=top 34
noncomputable abbrev x5:Stmt:=top 35
noncomputable abbrev tP:Stmt:=top 37
noncomputable abbrev DR:Stmt:=top 38
noncomputable abbrev mw:Stmt:=top 40
noncomputable abbrev jg:Stmt:=top 42
noncomputable abbrev x6:Stmt:=top 44
noncomputable abbrev tQ:Stmt:=top 45
noncomputable abbrev oT:Stmt:=top 46
noncomputable abbrev tR:Stmt:=top 47
noncomputable abbrev j6:Stmt:=top 48
noncomputable abbrev tT:Stmt:=top 49
noncomputable abbrev oU:Stmt:=top 51
noncomputable abbrev tU:Stmt:=top 52
noncomputable abbrev oV:Stmt:=top 55
noncomputable abbrev ik:Stmt:=top 56
noncomputable abbrev DS:Stmt:=top 57
structure bu (K:PySem.W.Frag) (mg:Str->Option Value) (x:Str) (st:Stmt) (ps:List Str) (f:Addr) (fd:FuncData):Prop where
 fn:EX K x x st f fd
 mg:mg x=some (.ref f)
 bd:Binds K fd ps []
noncomputable abbrev js:Stmt:=Tc (top 25) 0
noncomputable abbrev gT:Stmt:=Tc (top 26) 0
structure Txt (K:PySem.W.Frag) (mg:Str->Option Value) (f0 f1 f2 f3 f4 f5 f6 f7 f8 f9 K9 K_ La Lc Ld Le Lf Lg DT DU Lh Li Lj Ll Lm Ln Lo Lp Lq Lr Ls Lu Lv Lw Ly Lz LA LB LC LD LF LG aO aX jI gH:Addr) (d0 d1 d2 d3 d4 d5 d6 d7 d8 d9 LH LI LJ LK LL LM LN LO LP LQ LR LS LU LV LW LX LY LZ L1 L3 L4 L5 L6 L7 L8 L9 L_ Ma Mb Mc Md Me vL oW:FuncData):Prop where
 F0:bu K mg "contrary" j4 ["letter"] f0 d0
 F1:bu K mg "turned" oR ["word"] f1 d1
 F2:bu K mg "bands" tN ["yard"] f2 d2
 F3:bu K mg "steps_round" gC ["yard","start","end"] f3 d3
 F4:bu K mg "strands_at" h7 ["yard","drawing","end"] f4 d4
 F5:bu K mg "points" oS ["yard","drawing"] f5 d5
 F6:bu K mg "corner_points" fG ["word","cord","place"] f6 d6
 F7:bu K mg "corners" mm ["yard","drawing"] f7 d7
 F8:bu K mg "chord_starts" f_ ["some"] f8 d8
 F9:bu K mg "number_in" je ["rising","point"] f9 d9
 Px:bu K mg "count_meetings" eY ["some"] K9 LH
 Py:bu K mg "strands_in" h_ ["words","band"] K_ LI
 Pz:bu K mg "corner_ends" gD ["word","place"] La LJ
 PB:bu K mg "shortened" jf ["word"] Lc LK
 Eu:bu K mg "shortest" j5 ["word"] Ld LL
 Ew:bu K mg "ring" x3 ["word"] Le LM
 PC:bu K mg "root" x4 ["word"] Lf LN
 PD:bu K mg "corner_steps" gc ["yard","word","place"] Lg LO
 wa:bu K mg "steps_ahead" gE ["seen","start","end"] DT LP
 wb:bu K mg "steps_back" ie ["seen","start","end"] DU LQ
 Ke:bu K mg "parting" mq ["steps","one","other","enough"] Lh LR
 Kf:bu K mg "side_of" mr ["seen"] Li LS
 PH:bu K mg "comes_ahead" gF ["one","other"] Lj LU
 PJ:bu K mg "number_among" gf ["order","seen"] Ll LV
 PK:bu K mg "seen_strand" gG ["words","ways","strand"] Lm LW
 PL:bu K mg "taut_order" ig ["words","ways","band"] Ln LX
 PM:bu K mg "taut" x5 ["yard","words"] Lo LY
 Kg:bu K mg "least" tP ["yard","words"] Lp LZ
 PN:bu K mg "own" DR ["yard","word"] Lq L1
 wc:bu K mg "is_lone" mw ["yard","word"] Lr L3
 pB:bu K mg "lie_apart" jg ["yard","words"] Ls L4
 PQ:bu K mg "_law_box" x6 ["_law_script","_law_k"] Lu L5
 dY:bu K mg "_law_take" tQ ["_law_box_here","_law_many"] Lv L6
 gY:bu K mg "_law_other" oT ["_law_letter"] Lw L7
 PR:bu K mg "_law_yard" tR ["_law_box_here","_law_few","_law_top"] Ly L8
 PU:bu K mg "_law_handled" j6 ["_law_box_here","_law_few","_law_top"] Lz L9
 PV:bu K mg "_law_even" tT ["_law_box_here","_law_x","_law_y","_law_top"] LA L_
 Kh:bu K mg "_law_short" oU ["_law_box_here","_law_yard_here","_law_top"] LB Ma
 PX:bu K mg "_law_near" tU ["_law_box_here","_law_yard_here","_law_word_here","_law_top"] LC Mb
 Ki:bu K mg "_law_about" oV ["_law_word_here"] LD Mc
 Ex:bu K mg "_law_exchanged" ik ["_law_text"] LF Md
 V8:bu K mg "law" DS ["_law_script"] LG Me
 DV:mg "Seen"=some (.ref aO)
 dP:G3 K aO
 n_Seen_strand:eh K aO "strand"
 n_Seen_way:eh K aO "way"
 n_Seen_place:eh K aO "place"
 Hv:mg "Way"=some (.ref aX)
 gu:G3 K aX
 n_Way_size:eh K aX "size"
 n_Way_root_size:eh K aX "root_size"
 n_Way_leads:eh K aX "leads"
 n_Way_onward:eh K aX "onward"
 n_Way_backward:eh K aX "backward"
 Hw:Mk K aX jI
 Oc:EX K "__init__" "Way.__init__" js jI vL
 Hx:Binds K vL ["self","yard","word","longest"] []
 DW:Mk K aO gH
 Kj:EX K "__init__" "Seen.__init__" gT gH oW
 DX:Binds K oW ["self","strand","way","place"] []
 z_enumerate:mg "enumerate"=none
 z_int:mg "int"=none
 z_len:mg "len"=none
 z_list:mg "list"=none
 z_max:mg "max"=none
 z_min:mg "min"=none
 z_range:mg "range"=none
 z_reversed:mg "reversed"=none
 z_sorted:mg "sorted"=none
 z_str:mg "str"=none
 z_tuple:mg "tuple"=none
theorem vM:aG ["letter"] ["letter"] (au j4):=⟨rfl,rfl,rfl,by decide+kernel,rfl,by decide+kernel,by decide+kernel⟩
theorem AZ:aG ["word"] ["word"] (au oR):=⟨rfl,rfl,rfl,by decide+kernel,rfl,by decide+kernel,by decide+kernel⟩
theorem DY:aG ["yard"] ["yard"] (au tN):=⟨rfl,rfl,rfl,by decide+kernel,rfl,by decide+kernel,by decide+kernel⟩
theorem oX:aG ["yard","start","end"] ["yard","start","end"] (au gC):=⟨rfl,rfl,rfl,by decide+kernel,rfl,by decide+kernel,by decide+kernel⟩
theorem jJ:aG ["yard","drawing","end","order"] ["yard","drawing","end"] (au h7):=⟨rfl,rfl,rfl,by decide+kernel,rfl,by decide+kernel,by decide+kernel⟩
theorem jt:aG ["yard","drawing","told","end","strand"] ["yard","drawing"] (au oS):=⟨rfl,rfl,rfl,by decide+kernel,rfl,by decide+kernel,by decide+kernel⟩
theorem gU:aG ["word","cord","place","ahead"] ["word","cord","place"] (au fG):=⟨rfl,rfl,rfl,by decide+kernel,rfl,by decide+kernel,by decide+kernel⟩
theorem cL:aG ["yard","drawing","numbers","number","point","told","cord","word","place","pair"] ["yard","drawing"] (au mm):=⟨rfl,rfl,rfl,by decide+kernel,rfl,by decide+kernel,by decide+kernel⟩
theorem dJ:aG ["some","starts","corner","first"] ["some"] (au f_):=⟨rfl,rfl,rfl,by decide+kernel,rfl,by decide+kernel,by decide+kernel⟩
theorem dv:aG ["rising","point","low","high","middle"] ["rising","point"] (au je):=⟨rfl,rfl,rfl,by decide+kernel,rfl,by decide+kernel,by decide+kernel⟩
theorem bI:aG ["some","starts","begun","many","point","number"] ["some"] (au eY):=⟨rfl,rfl,rfl,by decide+kernel,rfl,by decide+kernel,by decide+kernel⟩
theorem cS:aG ["words","band","found","cord","word","place","letter"] ["words","band"] (au h_):=⟨rfl,rfl,rfl,by decide+kernel,rfl,by decide+kernel,by decide+kernel⟩
theorem oY:aG ["word","place"] ["word","place"] (au gD):=⟨rfl,rfl,rfl,by decide+kernel,rfl,by decide+kernel,by decide+kernel⟩
theorem il:aG ["word","kept","letter"] ["word"] (au jf):=⟨rfl,rfl,rfl,by decide+kernel,rfl,by decide+kernel,by decide+kernel⟩
theorem dW:aG ["word","left","start","end"] ["word"] (au j5):=⟨rfl,rfl,rfl,by decide+kernel,rfl,by decide+kernel,by decide+kernel⟩
theorem ju:aG ["word","whole","least","start","begun"] ["word"] (au x3):=⟨rfl,rfl,rfl,by decide+kernel,rfl,by decide+kernel,by decide+kernel⟩
theorem nG:aG ["word","whole","size","times"] ["word"] (au x4):=⟨rfl,rfl,rfl,by decide+kernel,rfl,by decide+kernel,by decide+kernel⟩
theorem iE:aG ["yard","word","place","ends"] ["yard","word","place"] (au gc):=⟨rfl,rfl,rfl,by decide+kernel,rfl,by decide+kernel,by decide+kernel⟩
theorem jh:aG ["seen","start","end","first"] ["seen","start","end"] (au gE):=⟨rfl,rfl,rfl,by decide+kernel,rfl,by decide+kernel,by decide+kernel⟩
theorem jK:aG ["seen","start","end","first"] ["seen","start","end"] (au ie):=⟨rfl,rfl,rfl,by decide+kernel,rfl,by decide+kernel,by decide+kernel⟩
theorem dQ:aG ["steps","one","other","enough","many","size"] ["steps","one","other","enough"] (au mq):=⟨rfl,rfl,rfl,by decide+kernel,rfl,by decide+kernel,by decide+kernel⟩
theorem j7:aG ["seen","way","cord"] ["seen"] (au mr):=⟨rfl,rfl,rfl,by decide+kernel,rfl,by decide+kernel,by decide+kernel⟩
theorem eK:aG ["one","other","enough","ahead","back"] ["one","other"] (au gF):=⟨rfl,rfl,rfl,by decide+kernel,rfl,by decide+kernel,by decide+kernel⟩
theorem cg:aG ["order","seen","low","high","middle"] ["order","seen"] (au gf):=⟨rfl,rfl,rfl,by decide+kernel,rfl,by decide+kernel,by decide+kernel⟩
theorem gg:aG ["words","ways","strand","word","place"] ["words","ways","strand"] (au gG):=⟨rfl,rfl,rfl,by decide+kernel,rfl,by decide+kernel,by decide+kernel⟩
theorem ff:aG ["words","ways","band","order","strand","seen"] ["words","ways","band"] (au ig):=⟨rfl,rfl,rfl,by decide+kernel,rfl,by decide+kernel,by decide+kernel⟩
theorem tV:aG ["yard","words","longest","ways"] ["yard","words"] (au x5):=⟨rfl,rfl,rfl,by decide+kernel,rfl,by decide+kernel,by decide+kernel⟩
theorem DZ:aG ["yard","words"] ["yard","words"] (au tP):=⟨rfl,rfl,rfl,by decide+kernel,rfl,by decide+kernel,by decide+kernel⟩
theorem Kk:aG ["yard","word"] ["yard","word"] (au DR):=⟨rfl,rfl,rfl,by decide+kernel,rfl,by decide+kernel,by decide+kernel⟩
theorem oZ:aG ["yard","word","short"] ["yard","word"] (au mw):=⟨rfl,rfl,rfl,by decide+kernel,rfl,by decide+kernel,by decide+kernel⟩
theorem kZ:aG ["yard","words","shorts"] ["yard","words"] (au jg):=⟨rfl,rfl,rfl,by decide+kernel,rfl,by decide+kernel,by decide+kernel⟩
theorem k_:aG ["_law_script","_law_k","_law_cell","_law_seed"] ["_law_script","_law_k"] (au x6):=⟨rfl,rfl,rfl,by decide+kernel,rfl,by decide+kernel,by decide+kernel⟩
theorem o4:aG ["_law_box_here","_law_many","_law_digit","_law_one"] ["_law_box_here","_law_many"] (au tQ):=⟨rfl,rfl,rfl,by decide+kernel,rfl,by decide+kernel,by decide+kernel⟩
theorem mz:aG ["_law_letter","_law_small","_law_capital"] ["_law_letter"] (au oT):=⟨rfl,rfl,rfl,by decide+kernel,rfl,by decide+kernel,by decide+kernel⟩
theorem fz:aG ["_law_box_here","_law_few","_law_top","_law_left","_law_ends","_law_k","_law_letter","_law_found"] ["_law_box_here","_law_few","_law_top"] (au tR):=⟨rfl,rfl,rfl,by decide+kernel,rfl,by decide+kernel,by decide+kernel⟩
theorem bZ:aG ["_law_box_here","_law_few","_law_top","_law_left","_law_names","_law_x","_law_y","_law_found","_law_name","_law_end","_law_at"] ["_law_box_here","_law_few","_law_top"] (au j6):=⟨rfl,rfl,rfl,by decide+kernel,rfl,by decide+kernel,by decide+kernel⟩
theorem lh:aG ["_law_box_here","_law_x","_law_y","_law_top","_law_many","_law_few","_law_one"] ["_law_box_here","_law_x","_law_y","_law_top"] (au tT):=⟨rfl,rfl,rfl,by decide+kernel,rfl,by decide+kernel,by decide+kernel⟩
theorem cT:aG ["_law_box_here","_law_yard_here","_law_top","_law_many","_law_form","_law_word_here","_law_letter"] ["_law_box_here","_law_yard_here","_law_top"] (au oU):=⟨rfl,rfl,rfl,by decide+kernel,rfl,by decide+kernel,by decide+kernel⟩
theorem ji:aG ["_law_box_here","_law_yard_here","_law_word_here","_law_top","_law_form","_law_at","_law_letter","_law_some"] ["_law_box_here","_law_yard_here","_law_word_here","_law_top"] (au tU):=⟨rfl,rfl,rfl,by decide+kernel,rfl,by decide+kernel,by decide+kernel⟩
theorem A0:aG ["_law_word_here"] ["_law_word_here"] (au oV):=⟨rfl,rfl,rfl,by decide+kernel,rfl,by decide+kernel,by decide+kernel⟩
theorem qa:aG ["_law_text"] ["_law_text"] (au ik):=⟨rfl,rfl,rfl,by decide+kernel,rfl,by decide+kernel,by decide+kernel⟩
theorem cW:aG ["_law_script","_law_k","_law_box_here","_law_yard_here","_law_word_here","_law_x","_law_y","_law_other_here","_law_at","_law_spot","_law_letter","_law_bigger","_law_due","_law_one","_law_yards","_law_turned_yard","_law_pair","_law_some"] ["_law_script"] (au DS):=⟨rfl,rfl,rfl,by decide+kernel,rfl,by decide+kernel,by decide+kernel⟩
theorem o5:aG ["self","yard","word","longest","steps","rounds"] ["self","yard","word","longest"] (au js):=⟨rfl,rfl,rfl,by decide+kernel,rfl,by decide+kernel,by decide+kernel⟩
theorem A1:aG ["self","strand","way","place"] ["self","strand","way","place"] (au gT):=⟨rfl,rfl,rfl,by decide+kernel,rfl,by decide+kernel,by decide+kernel⟩
section
variable {P:Program} {w:World} {K:PySem.W.Frag} {mg:Str->Option Value} {base:Heap} {f0 f1 f2 f3 f4 f5 f6 f7 f8 f9 K9 K_ La Lc Ld Le Lf Lg DT DU Lh Li Lj Ll Lm Ln Lo Lp Lq Lr Ls Lu Lv Lw Ly Lz LA LB LC LD LF LG aO aX jI gH:Addr} {d0 d1 d2 d3 d4 d5 d6 d7 d8 d9 LH LI LJ LK LL LM LN LO LP LQ LR LS LU LV LW LX LY LZ L1 L3 L4 L5 L6 L7 L8 L9 L_ Ma Mb Mc Md Me vL oW:FuncData}
variable (T:Txt K mg f0 f1 f2 f3 f4 f5 f6 f7 f8 f9 K9 K_ La Lc Ld Le Lf Lg DT DU Lh Li Lj Ll Lm Ln Lo Lp Lq Lr Ls Lu Lv Lw Ly Lz LA LB LC LD LF LG aO aX jI gH d0 d1 d2 d3 d4 d5 d6 d7 d8 d9 LH LI LJ LK LL LM LN LO LP LQ LR LS LU LV LW LX LY LZ L1 L3 L4 L5 L6 L7 L8 L9 L_ Ma Mb Mc Md Me vL oW)
include T
theorem gW:bM P w K mg base fI 1 Lv L6 ["_law_box_here","_law_many"] (uV K):=by
 refine T.dY.fn.ok o4 (fun vs H Q E h=>An h) (fun cR A outer s H vs Q E hr h=>?_)
 refine ⟨_,(ag (b6 (aM nM (aV (bR K rfl) (pv 0) ai (fun _ _=>rfl)) ai (aP _)) (ag (ao (i:=2) o4.nd rfl (Or.inl rfl) (az fB (aV (bR K rfl) (pv 0) ai (fun _ _=>rfl)) (pv 1)))
   (ag (wj (az dF (aV (bR K rfl) (pv 0) ai (fun _ _=>rfl)) (pv 1)) (Bm (pv 0) ai set_list))
   (aj (aH (pv 2))))) bz)
   (ag (ao (i:=3) o4.nd rfl (Or.inl rfl) (az fB (az gw (aV (bR K rfl) (pv 0) ai (fun _ _=>rfl)) ai) ai))
   (ag (wj (az ba (az fB (az ba (az gw (pv 3) ai) ai) ai) ai) (Bm (pv 0) ai set_list))
   (aj (aH (az fB (az dF (az ba (az gw (pv 3) ai) (aV (bR K rfl) (pv 0) ai (fun _ _=>rfl))) ai) (pv 1))))))),?_⟩
 obtain ⟨b,m,rfl,⟨x,y,hb⟩,h1,h2,q⟩:=h
 have fin: ∀(r x' y':Int),0<=r->r<m->Q (.int r) (upd H b (.lst [.int x', .int y'])):=fun r x' y' h3 h4=>by
  have e:r=((r.toNat:Nat):Int):=by omega
  rw[e]
  exact q r.toNat _ (by omega) ⟨x',y',ah⟩ (aW.upd b H _)
 refine ⟨_,rfl,b,_,0,_,rfl,rfl,bN.of hb,rfl,_,_,rfl,rfl,_,rfl,cn (fun e=>?_) (fun e=>?_)⟩
 ·refine ⟨_,rfl,b,_,0,_,rfl,rfl,bN.of hb,rfl,_,rfl,_,_,rfl,rfl,(by omega:0<m),?_⟩
  refine ⟨_,rfl,b,_,0,_,rfl,rfl,bN.of hb,rfl,_,rfl,_,_,rfl,rfl,⟨by omega,by omega⟩,_,rfl,b,_,0,0,rfl,rfl,hb,rfl,_,rfl,?_⟩
  exact fin (x%m) (x / m) y (Y3 _ (by omega)) (YV _ (by omega))
 ·refine ⟨_,rfl,b,_,1,_,rfl,rfl,bN.of hb,rfl,_,_,rfl,rfl, .inr ⟨by decide,by decide⟩,_,_,rfl,rfl,(by decide:(0:Int)<2147483647),?_⟩
  refine ⟨_,rfl,_,_,rfl,rfl, .inr ⟨by decide,by decide⟩,_,_,rfl,rfl,_,_,rfl,rfl,(by decide:(0:Int)<2147483629),_,_,rfl,rfl,_,rfl,b,_,1,1,rfl,rfl,hb,rfl,?_⟩
  refine ⟨_,rfl,_,_,rfl,rfl, .inr ⟨by decide,by decide⟩,_,rfl,b,_,1,_,rfl,rfl,bN.of ah,rfl,_,_,rfl,rfl,_,_,rfl,rfl,⟨by decide,by decide⟩,_,rfl,_,_,rfl,rfl,(by omega:0<m),?_⟩
  exact fin _ _ _ (Y3 _ (by omega)) (YV _ (by omega))
theorem dX:bM P w K mg base fI 1 Lw L7 ["_law_letter"] (qK K):=by
 refine T.gY.fn.ok mz (fun vs H Q E h=>xl h) (fun cR A outer s H vs Q E hr h=>?_)
 refine ⟨_,(ag (ao (i:=1) mz.nd rfl (Or.inl rfl) (g7 [97,98,99,100,101,102,103,104,105,106,107,108,109,110,111,112,113,114,115,116,117,118,119,120,121,122] (by decide+kernel)))
   (ag (ao (i:=2) mz.nd rfl (Or.inl rfl) (g7 [65,66,67,68,69,70,71,72,73,74,75,76,77,78,79,80,81,82,83,84,85,86,87,88,89,90] (by decide+kernel)))
   (ag (b6 (aM IX (pv 0) (pv 1) (by with_unfolding_all rfl)) (aj (aH (aV g8 (pv 2) (b8 K rfl Ye Qas Qaq lL (pv 1) (aa (pv 0) ae)) (fun _ _=>rfl)))) bz)
   (aj (aH (aV g8 (pv 1) (b8 K rfl Ye Qas Qaq lL (pv 2) (aa (pv 0) ae)) (fun _ _=>rfl))))))),?_⟩
 obtain ⟨c,rfl,hc,q⟩:=h
 refine ⟨_,rfl,_,rfl,c,aL,rfl,rfl,_,rfl,cn (fun e=>?_) (fun e=>?_)⟩
 ·have hm:c∈aL:=of_decide_eq_true e
  exact ⟨_,rfl,_,rfl,rfl,_,rfl,aL,c,rfl,rfl,hm,jQ,_,ar c,rfl,rfl,by decide,uU c hm,q⟩
 ·have hm:c∈jQ:=hc.resolve_left fun z=>e (decide_eq_true z)
  exact ⟨_,rfl,_,rfl,rfl,_,rfl,jQ,c,rfl,rfl,hm,aL,_,ar c,rfl,rfl,by decide,Am c hm,q⟩
theorem rA:bM P w K mg base fI 2 LB Ma ["_law_box_here","_law_yard_here","_law_top"] (qV K):=by
 have bB:=gW (P:=P) (w:=w) (base:=base) T
 have bC:=dX (P:=P) (w:=w) (base:=base) T
 refine T.Kh.fn.ok cT (fun vs H Q E h=>xv h) (fun cR A outer s H vs Q E hr h=>?_)
 refine ⟨_,(ag (ao (i:=3) cT.nd rfl (Or.inl rfl) (az ba ai (ak bB (hr.mono (by decide)) rfl T.dY.mg T.dY.fn.kp T.dY.bd .nil aB (aa (pv 0) (aa (pv 2) ae)))))
   (ag (ao (i:=4) cT.nd rfl (Or.inl rfl) (ak bB (hr.mono (by decide)) rfl T.dY.mg T.dY.fn.kp T.dY.bd .nil aB (aa (pv 0) (aa ai ae))))
   (ag (ao (i:=5) cT.nd rfl (Or.inl rfl) (g7 [] (by decide+kernel)))
   (g_ (dR PassesOwn.never (aM kc (aE aN rfl T.z_len X_ (aa (pv 5) ae)) (pv 3) (aP _)) (ag (ao (i:=6) cT.nd rfl (Or.inl rfl) (aV g8 (pv 1) (ak bB (hr.mono (by decide)) rfl T.dY.mg T.dY.fn.kp T.dY.bd .nil aB (aa (pv 0) (aa (aE aN rfl T.z_len X_ (aa (pv 1) ae)) ae))) (fun _ _=>rfl)))
   (g_ (b6 (PW.pt (iK (aM g9 (pv 4) ai (aP _)) (iK (aM nM (aE aN rfl T.z_len X_ (aa (pv 5) ae)) ai (aP _)) (gZ (aM kc (aE aN rfl T.z_len X_ (aa (pv 5) ae)) ai (aP _)))))) (aj (ao (i:=6) cT.nd rfl (Or.inl rfl) (aV g8 (pv 5) (az fB (aE aN rfl T.z_len X_ (aa (pv 5) ae)) ai) (fun _ _=>rfl)))) bz)
   (aj (b6 (PW.pt (GV (aM iS (pv 5) (g7 [] (by decide+kernel)) (aP _)) (Bk (aM BP (pv 6) (ak bC (hr.mono (by decide)) rfl T.gY.mg T.gY.fn.kp T.gY.bd .nil aB (aa (aV g8 (pv 5) (ka g6 ai) (fun _ _=>rfl)) ae)) (aP _))))) (aj (ao (i:=5) cT.nd rfl (Or.inl rfl) (az bX (pv 5) (pv 6)))) (aj (ao (i:=5) cT.nd rfl (Or.inl rfl) (az bX (pv 5) (aV g8 (pv 5) (ka g6 ai) (fun _ _=>rfl))))))))))
   (g_ (dR PassesOwn.never (PW.pt (iK (aM nM (aE aN rfl T.z_len X_ (aa (pv 5) ae)) ai (aP _)) (gZ (aM iS (aV g8 (pv 5) ai (fun _ _=>rfl)) (ak bC (hr.mono (by decide)) rfl T.gY.mg T.gY.fn.kp T.gY.bd .nil aB (aa (aV g8 (pv 5) (ka g6 ai) (fun _ _=>rfl)) ae)) (aP _))))) (aj (ao (i:=5) cT.nd rfl (Or.inl rfl) (aY fU (pv 5) bE (aZ (ka g6 ai))))))
   (g_ (b6 (PW.pt (iK (aM g9 (pv 4) ai (aP _)) (gZ (aM G2 (az gw (aE aN rfl T.z_len X_ (aa (pv 5) ae)) ai) (pv 2) (aP _))))) (aj (ao (i:=5) cT.nd rfl (Or.inl rfl) (az bX (pv 5) (pv 5)))) bz)
   (aj (aH (pv 5))))))))),?_⟩
 obtain ⟨b,y,top,rfl,hb,hy,Oe,Of,Hy,Og,q⟩:=h
 have hs:(100000:Nat)<sizeLine:=by decide
 have Oh:y.length<=sizeLine:=by omega
 refine ⟨_,rfl,_,rfl,b,_,rfl,hb,by omega,by omega,fun n H1 hn xj s1=>?_⟩
 refine ⟨_,_,rfl,rfl,_,rfl,b,5,rfl,xj,by decide,by decide,fun fm H2 V9 lr s2=>?_⟩
 have XD:n+1<=top:=by omega
 have ug:=s1.trans s2
 walk_at "wk"
 refine ⟨fun σ' H'=> ∃(w:List Nat) (lv:Option V),σ'=[some (.ref b),some (.str (S y)),some (.int top),some (.int (1+(n:Int))),some (.int fm),some (.str (S w)),lv]/\Wd y w/\1<=w.length/\w.length<=n+1/\cu H' b/\aW b H H',?_,?_⟩
 ·refine ⟨fun k σ H'=> ∃(w:List Nat) (lv:Option V),σ=[some (.ref b),some (.str (S y)),some (.int top),some (.int (1+(n:Int))),some (.int fm),some (.str (S w)),lv]/\k=n+1 - w.length/\Wd y w/\w.length<=n+1/\cu H' b/\aW b H H',⟨_,[],none,rfl,rfl,⟨Az.nil,fun _ h=>absurd h Yl⟩,Xy _,lr,ug⟩,?_⟩
  rintro k σ H3 ⟨w,lv,rfl,rfl,hw,pE,nH,s3⟩
  have m5:w.length<=sizeLine:=by omega
  refine ⟨_,rfl,w,rfl,m5,_,rfl,_,_,rfl,rfl,_,rfl,cn (fun z=>?_) (fun z=>?_)⟩
  ·have z1:(w.length:Int)<1+(n:Int):=of_decide_eq_true z
   refine ⟨_,rfl,_,rfl,_,rfl,y,rfl,Oh,b,_,rfl,nH,by omega,by omega,fun r H4 Mf x8 s4=>?_⟩
   have hr:r<y.length:=by omega
   refine ⟨y,_,_,rfl,rfl,Oh,ck (IM hr),?_⟩
   have yJ:y[r]∈y:=YA hr
   generalize y[r]=c at yJ ⊢
   refine ⟨fun σ' H'=>H'=H4/\ ∃e,e∈y/\σ'=[some (.ref b),some (.str (S y)),some (.int top),some (.int (1+(n:Int))),some (.int fm),some (.str (S w)),some (.str (S [e]))],?_,?_⟩
   ·refine ⟨_,rfl,_,_,rfl,rfl,_,rfl,cn (fun f1=>?_) (fun f1=>?_)⟩
    ·refine ⟨_,rfl,w,rfl,m5,_,_,rfl,rfl,_,rfl,cn (fun f2=>?_) (fun f2=>?_)⟩
     ·have g2:(1:Int)<w.length:=of_decide_eq_true f2
      have dG:w≠[]:=fun g=>by rw[g]at g2;simp at g2
      refine ⟨_,rfl,w,rfl,m5,_,_,rfl,rfl,_,rfl,cn (fun f3=>?_) (fun f3=>?_)⟩
      ·refine ⟨_,rfl,_,rfl,w,rfl,m5,_,_,rfl,rfl,by show (0:Int)<2;decide,w,_,_,rfl,rfl,m5,kI (by show -(w.length:Int)<=(w.length:Int)%2;omega) (by show (w.length:Int)%2<_;omega),?_⟩
       exact ⟨rfl,_,hw.bH _ (gx dG _),rfl⟩
      ·exact ⟨rfl,c,yJ,rfl⟩
     ·refine z9 ?_
      exact ⟨rfl,c,yJ,rfl⟩
    ·refine z9 ?_
     exact ⟨rfl,c,yJ,rfl⟩
   rintro σ5 H5 ⟨rfl,e,Eo,rfl⟩
   have s5:=s3.trans s4
   refine ⟨_,rfl,w,[],rfl,rfl,_,rfl,cn (fun f=>?_) (fun f=>?_)⟩
   ·have V_:w=[]:=of_decide_eq_true f
    refine Nb ?_
    refine ⟨_,rfl,_,rfl,w,[e],rfl,rfl,by show w.length+1<=_;omega,?_⟩
    exact ⟨n+1 - (w++[e]).length,by rw[KW];show n+1 - (w.length+1)<_;omega,w++[e],_,rfl,rfl,hw.more Eo fun g=>absurd V_ g,by rw[KW];show w.length+1<=_;omega,x8,s5⟩
   ·have dG:w≠[]:=fun g=>f (decide_eq_true g)
    have pU:0<w.length:=S3.mpr dG
    have F_:rd w (-1)∈y:=hw.bH _ (gx dG _)
    have Bh:lq w (-1)=some (rd w (-1)):=kI (by omega) (by omega)
    refine ⟨_,rfl,_,rfl,_,rfl,w,_,_,rfl,rfl,m5,Bh,_,rfl,hy.lt _ F_,[e],_,rfl,rfl,_,rfl,cn (fun f2=>?_) (fun f2=>?_)⟩
    ·have RI:e≠ar (rd w (-1)):=fun g=>by rw[g]at f2;simp at f2
     refine ⟨_,rfl,_,rfl,w,[e],rfl,rfl,by show w.length+1<=_;omega,?_⟩
     exact ⟨n+1 - (w++[e]).length,by rw[KW];show n+1 - (w.length+1)<_;omega,w++[e],_,rfl,rfl,hw.more Eo fun _=>RI,by rw[KW];show w.length+1<=_;omega,x8,s5⟩
    ·refine ⟨_,rfl,_,rfl,_,rfl,w,_,_,rfl,rfl,m5,Bh,w,[rd w (-1)],rfl,rfl,by show w.length+1<=_;omega,?_⟩
     exact ⟨n+1 - (w++[rd w (-1)]).length,by rw[KW];show n+1 - (w.length+1)<_;omega,w++[rd w (-1)],_,rfl,rfl,hw.more F_ fun _ g=>fE (hy.lt _ F_) g.symm,by rw[KW];show w.length+1<=_;omega,x8,s5⟩
  ·have z1: ¬(w.length:Int)<1+(n:Int):=fun g=>z (decide_eq_true g)
   exact ⟨w,lv,rfl,hw,by omega,pE,nH,s3⟩
 rintro σ6 H3 ⟨w,lv,rfl,hw,Mg,pE,nH,s3⟩
 refine ⟨fun σ' H'=>H'=H3/\ ∃w:List Nat,σ'=[some (.ref b),some (.str (S y)),some (.int top),some (.int (1+(n:Int))),some (.int fm),some (.str (S w)),lv]/\SW y w/\w.length<=n+1,?_,?_⟩
 ·refine ⟨fun k σ H'=>H'=H3/\ ∃w:List Nat,σ=[some (.ref b),some (.str (S y)),some (.int top),some (.int (1+(n:Int))),some (.int fm),some (.str (S w)),lv]/\k=w.length/\Wd y w/\1<=w.length/\w.length<=n+1,⟨_,rfl,w,rfl,rfl,hw,Mg,pE⟩,?_⟩
  clear hw pE Mg w
  rintro k σ H4 ⟨rfl,w,rfl,rfl,hw,Mg,pE⟩
  have m5:w.length<=sizeLine:=by omega
  have dG:w≠[]:=fun g=>by rw[g]at Mg;simp at Mg
  have F_: ∀k,rd w k∈y:=fun k=>hw.bH _ (gx dG k)
  refine ⟨_,rfl,w,rfl,m5,_,_,rfl,rfl,_,rfl,cn (fun f=>?_) (fun f=>?_)⟩
  ·have g1:(1:Int)<w.length:=of_decide_eq_true f
   have Bh:lq w (-1)=some (rd w (-1)):=kI (by omega) (by omega)
   refine ⟨_,rfl,w,_,_,rfl,rfl,m5,kI (k:=0) (by omega) (by omega),_,rfl,_,rfl,w,_,_,rfl,rfl,m5,Bh,_,rfl,hy.lt _ (F_ _),[rd w 0],_,rfl,rfl,_,rfl,cn (fun f2=>?_) (fun f2=>?_)⟩
   ·refine ⟨_,rfl,_,rfl,_,rfl,w,rfl,m5,?_⟩
    rw[Cv]
    exact ⟨(w.take (w.length - 1)).length,by rw[Xw];omega,rfl,w.take (w.length - 1),rfl,rfl,⟨hw.El.take _,fun c hc=>hw.bH c (Zm hc)⟩,by rw[Xw];omega,by rw[Xw];omega⟩
   ·have RI:rd w 0≠ar (rd w (-1)):=fun g=>f2 (by simp[g])
    exact ⟨rfl,w,rfl,hw.sw dG RI,pE⟩
  ·have g1: ¬(1:Int)<w.length:=fun g=>f (decide_eq_true g)
   refine z9 ?_
   exact ⟨rfl,w,rfl,hw.one hy (by omega),pE⟩
 rintro σ7 H7 ⟨rfl,w7,rfl,sw,Wa⟩
 clear hw Mg pE w
 refine ⟨fun σ' H'=>H'=H7/\ ∃w:List Nat,σ'=[some (.ref b),some (.str (S y)),some (.int top),some (.int (1+(n:Int))),some (.int fm),some (.str (S w)),lv]/\SW y w/\w.length<=top,?_,?_⟩
 ·refine ⟨_,rfl,_,_,rfl,rfl,_,rfl,cn (fun f=>?_) (fun f=>?_)⟩
  ·refine ⟨_,rfl,w7,rfl,by omega,_,_,rfl,rfl, .inl ⟨by omega,by omega⟩,_,rfl,_,_,rfl,rfl,_,rfl,cn (fun f2=>?_) (fun f2=>?_)⟩
   ·have g2:(w7.length:Int)*2<=top:=of_decide_eq_true f2
    refine ⟨_,rfl,_,rfl,w7,w7,rfl,rfl,by omega,?_⟩
    exact ⟨rfl,_,rfl,sw.twice,by rw[KW];omega⟩
   ·exact ⟨rfl,_,rfl,sw,by omega⟩
  ·refine z9 ?_
   exact ⟨rfl,_,rfl,sw,by omega⟩
 rintro σ8 H8 ⟨rfl,w8,rfl,Wb,RJ⟩
 exact ⟨_,rfl,q w8 _ Wb RJ nH s3⟩
theorem m6:bM P w K mg base fI 1 f8 d8 ["some"] (iB K):=by
 refine T.F8.fn.ok dJ (fun vs H Q E h=>md h) (fun cR A outer s H vs Q E hr h=>?_)
 refine ⟨_,(ag (ao (i:=1) dJ.nd rfl (Or.inl rfl) B8)
   (ag (cU PassesOwn.never rfl (fW K rfl (pv 0)) (aR (i:=2) dJ.nd rfl (Or.inl rfl)) (ag (ao (i:=3) dJ.nd rfl (Or.inl rfl) (aE (qr rfl) rfl T.z_min boot_min (aa (aV (bA K rfl) (pv 2) ai (fun _ _=>rfl)) (aa (aV (bA K rfl) (pv 2) ai (fun _ _=>rfl)) ae))))
   (ag (sd (nR hr) (pv 1) (aV (bA K rfl) (pv 2) ai (fun _ _=>rfl)) (pv 3) rfl)
   (aj (sd (nR hr) (pv 1) (aV (bA K rfl) (pv 2) ai (fun _ _=>rfl)) (pv 3) rfl)))))
   (aj (aH (pv 1))))),?_⟩
 obtain ⟨a,qs,rfl,ha,hq,hn,nd,q⟩:=h
 have hs:(100000:Nat)<sizeLine:=by decide
 walk_at "wk"
 intro d PY
 have Tw:a≠d:=aA ha PY
 refine ⟨_,rfl,a,rfl,⟨_,bN.of (by rw[aC Tw];exact ha)⟩,?_⟩
 refine iN (K:=K) (a:=a) (xs:=AK qs) (fun k σ H'=> ∃(cv fv:Option V),σ=[some (.ref a),some (.ref d),cv,fv]/\H' d=some (.dK (gi ((qs.take k).map Q4.v)))/\aW d H H')
  ⟨none,none,rfl,ah,fun b o e z=>by rw[aC z];exact e⟩ (fun k σ H' _ ⟨_,_,_,_,h⟩=>bN.of (h _ _ ha Tw)) ?_ ?_
 ·rintro k x σ H1 hx ⟨cv,fv,rfl,hd,s1⟩
  obtain ⟨c,hc,rfl⟩:=JO hx
  have hk:k<qs.length:=(IQ.mp hc).1
  have tc:=hq c (Ya hc)
  have mO:c.t≠d:=fun z=>by have h9:H c.t=_:=tc;rw[z,PY]at h9;cases h9
  have PZ:p7 H1 c:=s1 _ _ tc mO
  have lc:(gi ((qs.take k).map Q4.v)).length<=2000:=by rw[vA,Pd,Xw];omega
  have e:(qs.take (k+1)).map Q4.v=(qs.take k).map Q4.v++[c.v]:=by rw[<-take_snoc hc,X9];rfl
  have Tx:(eJ ((qs.take k).map Q4.v++[c.v])).Nodup:=by
   rw[<-e]
   have:qs.map Q4.v=(qs.take (k+1)).map Q4.v++(qs.drop (k+1)).map Q4.v:=by rw[<-X9,YM]
   rw[this]at nd
   unfold eJ at nd ⊢
   rw[YN,YZ]at nd
   exact nd.1
  refine ⟨_,rfl,c.t,_,2,_,rfl,rfl,b_.of PZ,rfl,_,rfl,c.t,_,3,_,rfl,rfl,b_.of PZ,rfl,_,_,rfl,?_⟩
  refine ⟨_,rfl,_,rfl,_,rfl,c.t,_,2,_,rfl,rfl,b_.of PZ,rfl,d,_,rfl,r_.k (k:=Sum.inl (c.v.2.2.1:Int)) hd (by omega),?_⟩
  have Wc: ∀o,p7 (L2.upd H1 d o) c:=fun o=>by show L2.upd H1 d o c.t=_;rw[aC mO];exact PZ
  refine ⟨_,rfl,_,rfl,_,rfl,c.t,_,3,_,rfl,rfl,b_.of (Wc _),rfl,d,_,rfl,r_.k (k:=Sum.inl (c.v.2.2.2:Int)) ah (Yx (gk _ _ _) (by omega)),?_⟩
  refine ⟨_,_,rfl,?_,fun b o eb z=>by rw[aC z,aC z];exact s1 b o eb z⟩
  rw[ah,e, <-Gb Tx]
  rfl
 ·rintro σ H1 ⟨cv,fv,rfl,hd,s1⟩
  rw[zj,Za]at hd
  exact ⟨_,rfl,q d H1 PY hd fun b o eb=>s1 b o eb (aA eb PY)⟩
theorem tW:bM P w K mg base fI 1 f9 d9 ["rising","point"] (kR K):=by
 refine T.F9.fn.ok dv (fun vs H Q E h=>p9 h) (fun cR A outer s H vs Q E hr h=>?_)
 refine ⟨_,(ag (ao (i:=2) dv.nd rfl (Or.inl rfl) ai)
   (ag (ao (i:=3) dv.nd rfl (Or.inl rfl) (az c_ (aE (bD K rfl) rfl T.z_len X_ (aa (pv 0) ae)) ai))
   (ag (dR PassesOwn.never (aM kc (pv 2) (pv 3) (aP _)) (ag (ao (i:=4) dv.nd rfl (Or.inl rfl) (az dF (az ba (pv 2) (pv 3)) ai))
   (aj (b6 (aM kc (aV (bR K rfl) (pv 0) (pv 4) (fun _ _=>rfl)) (pv 1) (aP _)) (aj (ao (i:=2) dv.nd rfl (Or.inl rfl) (az ba (pv 4) ai))) (aj (ao (i:=3) dv.nd rfl (Or.inl rfl) (pv 4)))))))
   (aj (aH (pv 2)))))),?_⟩
 obtain ⟨a,l,p,rfl,ha,up,hp,hn,q⟩:=h
 have hs:(100000:Nat)<sizeLine:=by decide
 have hi:=Vh hp
 have RK:l[l.idxOf p]=p:=YU hi
 have key:=Zi.mp up
 refine ⟨_,rfl,a,_,rfl, .inl (bN.of ha),?_⟩
 rw[kQ]
 walk_at "wk"
 refine ⟨fun m σ H'=> ∃(lo hi:Nat) (mv:Option V),σ=[some (.ref a),some (.int p),some (.int lo),some (.int hi),mv]/\m=hi - lo/\lo<=l.idxOf p/\l.idxOf p<=hi/\hi<l.length/\H'=H,⟨_,0,l.length - 1,none,?_,rfl,Xy _,by omega,by omega,rfl⟩,?_⟩
 ·have:((l.length:Int) - 1)=((l.length - 1:Nat):Int):=by omega
  rw[<-this];rfl
 rintro m σ H2 ⟨lo,nc,mv,rfl,rfl,h1,h2,h3,rfl⟩
 walk_at "wk"
 refine cn (fun z=>?_) (fun z=>?_)
 ·have z1:(lo:Int)<nc:=of_decide_eq_true z
  have em:(((lo:Int)+nc) / 2)=(((lo+nc) / 2:Nat):Int):=by omega
  have hm:(lo+nc) / 2<l.length:=by omega
  walk_at "rd"
  refine ⟨a,_,((lo:Int)+nc) / 2,_,rfl,rfl,bN.of ha,by rw[em];exact ck (Dj (IM hm)),?_⟩
  walk_at "rd"
  refine cn (fun y=>?_) (fun y=>?_)
  ·have y1:((l[(lo+nc) / 2]:Nat):Int)<p:=of_decide_eq_true y
   have lt:(lo+nc) / 2<l.idxOf p:=by
    refine Classical.byContradiction fun w=>?_
    by_cases e:(lo+nc) / 2=l.idxOf p
    ·have:l[(lo+nc) / 2]=p:=by simp only[e];exact RK
     omega
    ·have:=key (l.idxOf p) ((lo+nc) / 2) hi hm (by omega)
     rw[RK]at this
     omega
   walk_at "rd"
   have e1:((lo:Int)+nc) / 2+1=(((lo+nc) / 2+1:Nat):Int):=by omega
   refine ⟨nc - ((lo+nc) / 2+1),by omega,(lo+nc) / 2+1,nc,_,by rw[<-e1];rfl,rfl,by omega,h2,h3,rfl⟩
  ·have y1: ¬((l[(lo+nc) / 2]:Nat):Int)<p:=fun w=>y (decide_eq_true w)
   have le:l.idxOf p<=(lo+nc) / 2:=by
    refine Classical.byContradiction fun w=>?_
    have:=key ((lo+nc) / 2) (l.idxOf p) hm hi (by omega)
    rw[RK]at this
    omega
   walk_at "rd"
   refine ⟨(lo+nc) / 2 - lo,by omega,lo,(lo+nc) / 2,_,by rw[<-em];rfl,rfl,h1,le,by omega,rfl⟩
 ·have z1: ¬(lo:Int)<nc:=fun w=>z (decide_eq_true w)
  have e:lo=l.idxOf p:=by omega
  walk_at "rd"
  rw[e]
  exact q
theorem lj:bM P w K mg base fI 2 K9 LH ["some"] (gs K):=by
 have o6:=m6 (P:=P) (w:=w) (base:=base) T
 have vN:=tW (P:=P) (w:=w) (base:=base) T
 refine T.Px.fn.ok bI (fun vs H Q E h=>jX h) (fun cR A outer s H vs Q E hr h=>?_)
 refine ⟨_,(ag (ao (i:=1) bI.nd rfl (Or.inl rfl) (ak o6 (hr.mono (by decide)) rfl T.F8.mg T.F8.fn.kp T.F8.bd .nil aB (aa (pv 0) ae)))
   (ag (ao (i:=2) bI.nd rfl (Or.inl rfl) (dM ae))
   (ag (ao (i:=3) bI.nd rfl (Or.inl rfl) ai)
   (ag (cU PassesOwn.never rfl (fW K rfl (aE (pV rfl) rfl T.z_sorted boot_sorted (aa (pv 1) ae))) (aR (i:=4) bI.nd rfl (Or.inl rfl)) (aj (b6 (aM g9 (nh (nR hr) (pv 1) (pv 4) (fun _ _=>rfl)) (pv 4) (aP _)) (aj (fM (b8 K rfl Yz Zq Zp gN (pv 2) (aa (pv 4) ae)))) (ag (ao (i:=5) bI.nd rfl (Or.inl rfl) (ak vN (hr.mono (by decide)) rfl T.F9.mg T.F9.fn.kp T.F9.bd .nil aB (aa (pv 2) (aa (nh (nR hr) (pv 1) (pv 4) (fun _ _=>rfl)) ae))))
   (ag (fM (b8 K rfl Yz ZE ZD ki (pv 2) (aa (pv 5) ae)))
   (aj (jO (i:=3) bI.nd rfl (Or.inl rfl) (az c_ (aE (bD K rfl) rfl T.z_len X_ (aa (pv 2) ae)) (pv 5)) rK)))))))
   (aj (aH (pv 3))))))),?_⟩
 obtain ⟨a,qs,rfl,ha,hq,hn,nd,q⟩:=h
 have hs:(100000:Nat)<sizeLine:=by decide
 refine ⟨_,rfl,a,qs,rfl,ha,hq,by omega,nd,fun d H1 Tx hd s1=>?_⟩
 have O9:(qs.map Q4.v).length<=24:=by rw[Pd];exact hn
 generalize qs.map Q4.v=cs at nd hd q O9
 have kl:=vA cs
 have XE:(eJ cs).length=2*cs.length:=by
  have:=congrArg List.length (gS cs)
  rw[Pd,Pd]at this
  omega
 walk_at "wk"
 intro b nb
 have TB:d≠b:=aA hd nb
 have hd2:L2.upd H1 b (.lst []) d=some (.dK (gi cs)):=by rw[aC TB];exact hd
 have sb:=aq.upd (o:= .lst []) nb
 refine ⟨_,rfl,d,_,(eJ cs).map fun n:Nat=>(n:Int),rfl,hd2,by rw[gS,YT];rfl,by rw[Pd];omega,fun p2 ms n2 tX Oi=>?_⟩
 obtain ⟨P,eP,pP,uP⟩:=xS nd tX Oi
 rw[eP]
 have ch:=JU nd pP uP
 have lP:P.length<=2000:=by rw[pP.length_eq];omega
 have TC:p2≠b:=fun z=>by rw[z,ah]at n2;cases n2
 have s2:=sb.trans (aq.upd (o:= .lst (ins P)) n2)
 refine ⟨p2,rfl,⟨_,bN.of ah⟩,?_⟩
 refine iN (K:=K) (a:=p2) (xs:=ins P) (fun k σ H'=> ∃(m:Nat) (pv nv:Option V),σ=[some (.ref a),some (.ref d),some (.ref b),some (.int m),pv,nv]/\H' b=some (.lst (ins (nC (cK cs) (P.take k) (P.drop k))))/\m+Ep (cK cs) (P.take k) (P.drop k)=Ep (cK cs) [] P/\aW b (L2.upd (L2.upd H1 b (.lst [])) p2 (.lst (ins P))) H')
  ⟨0,none,none,rfl,by rw[aC (Ne.symm TC),ah];rfl,by rw[Qau];rfl,aW.refl _ _⟩ (fun k σ H' _ ⟨_,_,_,_,_,_,h⟩=>bN.of (h _ _ ah TC)) ?_ ?_
 ·rintro k x σ H3 hx ⟨m,pv,nv,rfl,hb,hm,s3⟩
  obtain ⟨p,hp,rfl⟩: ∃p,P[k]? =some p/\x=V.int (p:Nat):=by
   unfold ins at hx
   rw[Yb]at hx
   cases e:P[k]? with
   | none=>rw[e]at hx;cases hx
   | some p=>rw[e]at hx;cases hx;exact ⟨p,rfl,rfl⟩
  have hk:k<P.length:=(IQ.mp hp).1
  have We:p∈eJ cs:=pP.mem_iff.mp (Ya hp)
  have TF:=JW nd We
  have TH:H3 d=some (.dK (gi cs)):=s3 _ _ (s2 _ _ hd) TB
  have TJ:P=P.take k++p::P.drop (k+1):=by
   have:=YM k P
   rw[YR hk,(IQ.mp hp).2]at this
   exact this.symm
  have RL:P.drop k=p::P.drop (k+1):=by rw[YR hk,(IQ.mp hp).2]
  have Oj:P.take (k+1)=P.take k++[p]:=(take_snoc hp).symm
  have bl:(nC (cK cs) (P.take k) (P.drop k)).length<=2000:=Yv Gd (by rw[Xw];omega)
  have ve:=Dp (st:=cK cs) hp
  refine ⟨_,rfl,_,rfl,d,_,rfl,by rw[<-TF];exact og.k (k:=Sum.inl (p:Int)) TH,?_⟩
  walk_at "rd"
  refine cn (fun z=>?_) (fun z=>?_)
  ·have z1:cK cs p=p:=by have:=of_decide_eq_true z;omega
   refine ⟨_,rfl, .inl ⟨rfl,_,bN.of hb⟩,_,rfl,b,_,_,rfl,rfl,hb,by rw[kQ];omega,?_⟩
   refine ⟨m,_,_,rfl,?_,?_,s3.trans (aW.upd _ _ _)⟩
   ·rw[ah,Di,Oj,De ch TJ z1, <-RL]
   ·have e0:AM (cK cs) (P.take k) (P.drop (k+1)) p=0:=by unfold AM;rw[if_pos z1]
    omega
  ·have z1:cK cs p≠p:=fun w=>z (decide_eq_true (by rw[w]))
   obtain ⟨en,em⟩:=JR ch TJ z1
   rw[<-RL]at en em
   have up:=JV (st:=cK cs) uP (YM k P).symm (P.drop k)
   have wU:=Vh em
   refine ⟨_,rfl,_,rfl,_,rfl,d,_,rfl,by rw[<-TF];exact og.k (k:=Sum.inl (p:Int)) TH,b,_,cK cs p,rfl,hb,up,em,by omega,?_⟩
   refine ⟨_,rfl, .inl ⟨rfl,_,bN.of hb⟩,_,rfl,b,_,_,_,_,rfl,rfl,hb,by omega,by omega,?_,Dj (IM wU),?_⟩
   ·rw[kQ]
    exact Ht wU
   have ee:(ins (nC (cK cs) (P.take k) (P.drop k))).eraseIdx ((nC (cK cs) (P.take k) (P.drop k)).idxOf (cK cs p))=ins (nC (cK cs) (P.take (k+1)) (P.drop (k+1))):=by
    rw[Oj,en, <-Dm em]
    exact rh _ _
   rw[ee]
   refine ⟨_,rfl,_,rfl,b,_,rfl, .inl (bN.of ah),?_⟩
   walk_at "rd"
   have bh:=behind up em
   have lb:(nC (cK cs) (P.take (k+1)) (P.drop (k+1))).length=((nC (cK cs) (P.take k) (P.drop k)).erase (cK cs p)).length:=by rw[Oj,en]
   have le:((nC (cK cs) (P.take k) (P.drop k)).erase (cK cs p)).length+1=(nC (cK cs) (P.take k) (P.drop k)).length:=by rw[List.length_erase_of_mem em];omega
   have ec:AM (cK cs) (P.take k) (P.drop (k+1)) p=((nC (cK cs) (P.take k) (P.drop k)).filter fun x=>decide (cK cs p<x)).length:=by unfold AM;rw[if_neg z1,RL]
   have ei:(m:Int)+(((ins (nC (cK cs) (P.take (k+1)) (P.drop (k+1)))).length:Nat) - ((nC (cK cs) (P.take k) (P.drop k)).idxOf (cK cs p):Nat))=((m+AM (cK cs) (P.take k) (P.drop (k+1)) p:Nat):Int):=by rw[kQ];omega
   exact ⟨m+AM (cK cs) (P.take k) (P.drop (k+1)) p,some (.int p),some (.int ((nC (cK cs) (P.take k) (P.drop k)).idxOf (cK cs p):Nat)),by rw[<-ei];rfl,ah,by omega,s3.trans (aW.upd _ _ _)⟩
 ·rintro σ H3 ⟨m,pv,nv,rfl,hb,hm,s3⟩
  rw[kQ,List.drop_length,Za]at hm
  have Fj:m=Ep (cK cs) [] P:=hm
  refine ⟨_,rfl,?_⟩
  rw[Fj,Oa ch]
  exact q H3 fun c o e=>s3 c o (s2 c o (s1 c o e)) (aA e (aq.free s1 nb))
theorem vO:bM P w K mg base fI 1 f2 d2 ["yard"] (u_ K):=by
 refine T.F2.fn.ok DY (fun vs H Q E h=>Ay h) (fun cR A outer s H vs Q E hr h=>?_)
 refine ⟨_,(aj (aH (b8 K rfl Ye YJ YX (fg K rfl) (g7 [] (by decide+kernel)) (aa (aE (r9 K rfl) rfl T.z_sorted boot_sorted (aa (cD ["letter"] [none] (n0 (pv 0)) trivial (fun _ _ _ _=>(aR (i:=0) (by decide+kernel:List.Nodup (["letter"]:List Str)) rfl (Or.inl rfl))) (fun _ _ _ _=>(IT (jN (e_ K rfl Ye Qah Qag jP (pv 0))))) (fun _ _ _ _=>(pv 0))) ae)) ae)))),?_⟩
 obtain ⟨l,rfl,hl,hz,q⟩:=h
 have hs:(1000:Nat)<sizeLine:=by decide
 refine ⟨rfl,_,rfl,l,rfl,?_⟩
 refine gO (xs:=cf l) (fun i acc H'=>aq H H'/\acc=cf ((l.take i).filter aD)) (by rw[aU];omega) ⟨aq.refl H,rfl⟩ ?_ ?_
 ·rintro i x acc H1 Nx hi hx uh ⟨s1,rfl⟩ nx
  obtain ⟨c,hc,rfl⟩:=fO hx
  have e:=va (p:=aD) hc
  refine ⟨trivial,?_⟩
  refine ⟨_,rfl,rfl,c,rfl,rfl,hl c (Ya hc),_,rfl,?_⟩
  refine cn (fun z=>?_) (fun z=>?_)
  ·rw[if_pos z]at e
   exact ⟨_,rfl,nx _ _ (by simpa using uh) ⟨s1,by rw[e, <-cQ]⟩⟩
  ·rw[if_neg z,YW]at e
   exact nx _ _ (Nat.le_succ_of_le uh) ⟨s1,by rw[e]⟩
 ·rintro acc H1 D uh ⟨s1,rfl⟩ hD
  rw[uY,dS]
  have XF:(l.filter aD).length<=l.length:=Qa7 _ _
  refine ⟨D,(l.filter aD).map fun c=>[c],rfl,bN.of ah,by rw[Pd];omega,fun p ls hp tX Oi=>?_⟩
  obtain ⟨l',rfl,pl⟩:=Fc tX
  have ym:=pl.length_eq
  refine ⟨p,l'.map fun c=>[c],rfl,rfl,bN.of ah,by rw[sx];omega,?_⟩
  rw[kC]
  exact q l' _ pl (Fd Oi) ((s1.trans (aq.upd hD)).trans (aq.upd hp))
theorem qb:bM P w K mg base fI 2 f4 d4 ["yard","drawing","end"] (jD K):=by
 have tY:=vO (P:=P) (w:=w) (base:=base) T
 refine T.F4.fn.ok jJ (fun vs H Q E h=>oE h) (fun cR A outer s H vs Q E hr h=>?_)
 refine ⟨_,(ag (ao (i:=3) jJ.nd rfl (Or.inl rfl) (cC (pR K rfl) rfl T.z_list boot_list (aa (aV (bA K rfl) (aV (bA K rfl) (pv 1) ai (fun _ _=>rfl)) (b8 K rfl Ye Qas Qaq lL (ak tY (hr.mono (by decide)) rfl T.F2.mg T.F2.fn.kp T.F2.bd .nil aB (aa (pv 0) ae)) (aa (e_ K rfl Ye Qar Qap nW (pv 2)) ae)) (fun _ _=>rfl)) ae)))
   (ag (b6 (jN (e_ K rfl Ye PySem.F.slot_str_isupper PySem.F.type_str_isupper wX (pv 2))) (aj (fM (e_ K rfl Yz PySem.F.slot_list_reverse PySem.F.type_list_reverse wN (pv 3)))) bz)
   (aj (aH (pv 3))))),?_⟩
 obtain ⟨y,dr,ws,os,e,rfl,hy,hz,he,ho,hd,q⟩:=h
 have hs:(100000:Nat)<sizeLine:=by decide
 have P0: ∀c∈y,c<128:=Hd hy.lt
 have TK:=P0 e he
 obtain ⟨⟨wt,ot,d1,d2,d3⟩,dO⟩:=hd
 obtain ⟨o,o1,o2,o3⟩:=i7 hy he ho
 refine ⟨_,rfl,dr,_,1,_,rfl,rfl,b_.of d1,rfl,?_⟩
 refine ⟨_,rfl,y,rfl,P0,by omega,fun l' H1 ym K6 s1=>?_⟩
 have el:=zg ym K6
 subst el
 refine ⟨rfl,_,rfl,rfl,e,rfl,rfl,TK,?_⟩
 refine ⟨fR y,_,rfl,rfl,CV hy he,?_⟩
 refine ⟨ot,_,_,_,rfl,rfl,b_.of (s1 _ _ d3),ck (JM o2),?_⟩
 refine ⟨o.o,_,rfl, .inr (b_.of (s1 _ _ (dO o o1).tp)),fun p1 n1=>?_⟩
 refine ⟨_,rfl,rfl,e,rfl,rfl,TK,_,rfl,cn (fun z=>?_) (fun z=>?_)⟩
 ·refine ⟨_,rfl, .inl ⟨rfl,_,bN.of ah⟩,p1,_,rfl,rfl,ah,?_⟩
  refine ⟨_,rfl,q p1 _ (aq.free s1 n1) ?_ ?_⟩
  ·rw[ah,FW]
   unfold nA
   rw[if_pos z,o3]
  ·exact fun a u ea=>by rw[aC (aA ea (aq.free s1 n1)),aC (aA ea (aq.free s1 n1))];exact s1 a u ea
 ·refine ⟨_,rfl,q p1 _ (aq.free s1 n1) ?_ (s1.trans (aq.upd n1))⟩
  rw[ah]
  unfold nA
  rw[if_neg z,o3]
theorem A2:bM P w K mg base fI 3 f5 d5 ["yard","drawing"] (q5 K):=by
 have tZ:=qb (P:=P) (w:=w) (base:=base) T
 refine T.F5.fn.ok jt (fun vs H Q E h=>xN h) (fun cR A outer s H vs Q E hr h=>?_)
 refine ⟨_,(ag (ao (i:=2) jt.nd rfl (Or.inl rfl) (dM ae))
   (ag (cU PassesOwn.never rfl (n0 (pv 0)) (aR (i:=3) jt.nd rfl (Or.inl rfl)) (aj (cU PassesOwn.never rfl (fW K rfl (ak tZ (hr.mono (by decide)) rfl T.F4.mg T.F4.fn.kp T.F4.bd .nil aB (aa (pv 0) (aa (pv 1) (aa (pv 3) ae))))) (aR (i:=4) jt.nd rfl (Or.inl rfl)) (aj (fM (b8 K rfl Yz Zq Zp gN (pv 2) (aa (bO (aa (aV (bA K rfl) (pv 4) ai (fun _ _=>rfl)) (aa (aV (bA K rfl) (pv 4) ai (fun _ _=>rfl)) (aa (pv 3) ae)))) ae)))))))
   (aj (aH (pv 2))))),?_⟩
 obtain ⟨y,dr,ws,os,rfl,hy,hz,ho,hd,q⟩:=h
 have hs:(100000:Nat)<sizeLine:=by decide
 walk_at "wk"
 intro p1 n1
 refine ⟨_,rfl,y,rfl,?_⟩
 refine yD (xs:=cf y) (fun i σ H'=> ∃(ps:List Pt) (ev sv:Option V),σ=[some (.str (S y)),some (.ref dr),some (.ref p1),ev,sv]/\H' p1=some (.lst (En ps))/\(∀p∈ps,pZ H' p/\p.t≠p1)/\ps.map Pt.is=(y.take i).flatMap (fL y os)/\ps.length<=100*i/\aW p1 H H') ⟨[],none,none,rfl,ah,fun _ h=>absurd h Yl,rfl,Xy _,aW.of (aq.upd n1)⟩ ?_ ?_
 ·rintro i x σ H1 hx ⟨ps,ev,sv,rfl,hp,rB,pH,j8,s1⟩
  obtain ⟨e,he,rfl⟩:=fO hx
  have Eo:=Ya he
  have hi:i<y.length:=(IQ.mp he).1
  have Kl:aq H H1:=fun a u ea=>s1 a u ea (aA ea n1)
  refine ⟨_,rfl,_,rfl,_,rfl,y,dr,ws,os,e,rfl,hy,hz,Eo,ho,hd.same Kl,fun p2 H2 n2 vX s2=>?_⟩
  have Ol:=FZ (H:=H) hy Eo ho hd.od
  refine ⟨p2,rfl,⟨_,bN.of vX⟩,?_⟩
  have Wf:p2≠p1:=fun z=>by rw[z,hp]at n2;cases n2
  refine iN (K:=K) (a:=p2) (xs:=q0 (nA y os e)) (fun j σ H'=> ∃(us:List Pt) (sv:Option V),σ=[some (.str (S y)),some (.ref dr),some (.ref p1),some (.str (S [e])),sv]/\H' p1=some (.lst (En us))/\H' p2=some (.lst (q0 (nA y os e)))/\(∀p∈us,pZ H' p/\p.t≠p1)/\us.map Pt.is=ps.map Pt.is++((nA y os e).take j).map (fun p=>(p.c,p.i,e))/\us.length<=100*i+j/\aW p1 H1 H')
   ⟨ps,sv,rfl,s2 _ _ hp,vX,fun p xx=>⟨(rB p xx).1.same s2,(rB p xx).2⟩,by simp,by omega,aW.of s2⟩ (fun j σ H' _ ⟨_,_,_,_,h,_⟩=>bN.of h) ?_ ?_
  ·rintro j x σ H3 RM ⟨us,Wg,rfl,A3,Om,Oo,A4,Ey,s3⟩
   obtain ⟨p,RN,rfl⟩:=CZ RM
   obtain ⟨o,oo,po⟩:=FY hy Eo ho (Ya RN)
   have hj:j<(nA y os e).length:=(IQ.mp RN).1
   have Hz:aq H H3:=fun a u ea=>s3 a u (Kl a u ea) (aA ea n1)
   have pk:=(hd.od o oo).pr p po
   have tp:=Hz _ _ pk.tp
   refine ⟨_,rfl, .inl ⟨rfl,_,bN.of A3⟩,?_⟩
   refine ⟨_,rfl,p.t,_,0,_,rfl,rfl,b_.of tp,rfl,_,rfl,p.t,_,1,_,rfl,rfl,b_.of tp,rfl,?_⟩
   walk_at "wk"
   intro t nt
   have Hy:t≠p1:=fun z=>by rw[z,A3]at nt;cases nt
   refine ⟨p1,_,_,rfl,rfl,(aq.upd nt) _ _ A3,by rw[zh];omega,?_⟩
   refine ⟨us++[⟨t,p.c,p.i,e⟩],_,rfl,by rw[ah];exact congrArg (fun x=>some (HO.lst x)) (C1 us ⟨t,p.c,p.i,e⟩),by rw[aC Wf];exact (aq.upd nt) _ _ Om,fun r hr=>?_,?_,by rw[KW];show us.length+1<=_;omega,fun a u ea z=>by rw[aC z];exact (aq.upd nt) _ _ (s3 a u ea z)⟩
   ·rcases Yi.mp hr with z | z
    ·exact ⟨((Oo r z).1.same (aq.upd nt)).upd (Oo r z).2,(Oo r z).2⟩
    ·have e2:=Vk.mp z
     subst e2
     exact ⟨pZ.upd ⟨ah,pk.cz,pk.iz,(hy.lt e Eo).lt⟩ Hy,Hy⟩
   ·rw[X9,A4, <-take_snoc RN,X9,Y5]
    rfl
  ·rintro σ H3 ⟨us,Wg,rfl,A3,Om,Oo,A4,Ey,s3⟩
   rw[tE]at Ey A4
   refine ⟨us,_,_,rfl,A3,Oo,?_,by omega,fun a u ea z=>s3 a u (s1 a u ea z) z⟩
   rw[A4,pH, <-take_snoc he,YN,Za,YB,Qbz,YW]
   rfl
 ·rintro σ H1 ⟨ps,ev,sv,rfl,hp,rB,pH,j8,s1⟩
  rw[aU]at j8 pH
  rw[Za]at pH
  exact ⟨_,rfl,q p1 ps H1 n1 hp rB pH (by omega) (fun a u ea=>s1 a u ea (aA ea n1))⟩
theorem fA:bM P w K mg base fI 1 f0 d0 ["letter"] (mI K):=by
 refine T.F0.fn.ok vM (fun vs H Q E h=>sk h) (fun cR A outer s H vs Q E hr h=>?_)
 refine ⟨_,(ag (b6 (jN (e_ K rfl Ye Qah Qag jP (pv 0))) (aj (aH (e_ K rfl Ye PySem.F.slot_str_upper PySem.F.type_str_upper BG (pv 0)))) bz)
   (aj (aH (e_ K rfl Ye Qar Qap nW (pv 0))))),?_⟩
 obtain ⟨c,rfl,hc,q⟩:=h
 refine ⟨_,rfl,rfl,c,rfl,rfl,hc,_,rfl,cn (fun e=>?_) (fun e=>?_)⟩
 ·refine ⟨_,rfl,rfl,c,rfl,rfl,hc,?_⟩
  have z:ar c=PyProof.Rows.up1 c:=if_pos e
  rw[<-z]
  exact q
 ·refine ⟨_,rfl,rfl,c,rfl,rfl,hc,?_⟩
  have z:ar c=PyProof.Rows.lo1 c:=if_neg e
  rw[<-z]
  exact q
theorem mB:bM P w K mg base fI 2 f6 d6 ["word","cord","place"] (gR K):=by
 have cM:=fA (P:=P) (w:=w) (base:=base) T
 refine T.F6.fn.ok gU (fun vs H Q E h=>kP h) (fun cR A outer s H vs Q E hr h=>?_)
 refine ⟨_,(ag (ao (i:=3) gU.nd rfl (Or.inl rfl) (az fB (az c_ (pv 2) ai) (aE aN rfl T.z_len X_ (aa (pv 0) ae))))
   (aj (aH (bO (aa (bO (aa (pv 1) (aa (pv 3) (aa (ak cM (hr.mono (by decide)) rfl T.F0.mg T.F0.fn.kp T.F0.bd .nil aB (aa (aV g8 (pv 0) (pv 3) (fun _ _=>rfl)) ae)) ae)))) (aa (bO (aa (pv 1) (aa (pv 2) (aa (aV g8 (pv 0) (pv 2) (fun _ _=>rfl)) ae)))) ae)))))),?_⟩
 obtain ⟨w,c,i,rfl,RO,hi,hz,q⟩:=h
 have hs:(100000:Nat)<sizeLine:=by decide
 have hp:(0:Int)<(w.length:Int):=by omega
 have Wh:=zi hi
 have j8:=xP hi
 have e1:w.getD (vZ w.length i) 0=w[vZ w.length i]:=by rw[Xv,IM j8];rfl
 have e2:w.getD i 0=w[i]:=by rw[Xv,IM hi];rfl
 rw[e1,e2]at q
 refine ⟨_,rfl,_,_,rfl,rfl,_,rfl,w,rfl,by omega,_,_,rfl,rfl,hp,?_⟩
 show uq 3 (V.int (((i:Int) - 1)%(w.length:Int))) _ _ _
 rw[Wh]
 refine ⟨_,rfl,_,rfl,_,rfl,_,rfl,w,_,_,rfl,rfl,by omega,ck (IM j8),_,rfl,RO _ (YA j8),by show 3<=sizeLine;decide,fun t1 n1=>?_⟩
 refine ⟨_,rfl,_,rfl,_,rfl,_,rfl,w,_,_,rfl,rfl,by omega,ck (IM hi),by show 3<=sizeLine;decide,fun t2 n2=>?_⟩
 refine ⟨by show 2<=sizeLine;decide,fun t nt=>?_⟩
 have RP:=(aq.upd (o:= .tup [.ref t1, .ref t2]) nt)
 refine q t t1 t2 _ ah (RP _ _ ((aq.upd n2) _ _ ah)) (RP _ _ ah) ((aq.upd n1).trans ((aq.upd n2).trans RP))
theorem x9:bM P w K mg base fI 4 f7 d7 ["yard","drawing"] (oG K):=by
 have D0:=A2 (P:=P) (w:=w) (base:=base) T
 have m7:=mB (P:=P) (w:=w) (base:=base) T
 refine T.F7.fn.ok cL (fun vs H Q E h=>vx h) (fun cR A outer s H vs Q E hr h=>?_)
 refine ⟨_,(ag (ao (i:=2) cL.nd rfl (Or.inl rfl) B9)
   (ag (cU PassesOwn.never rfl (BY K rfl rfl T.z_enumerate (aa (ak D0 (hr.mono (by decide)) rfl T.F5.mg T.F5.fn.kp T.F5.bd .nil aB (aa (pv 0) (aa (pv 1) ae))) ae)) (kz (n:=2) K rfl rfl (cZ (aR (i:=3) cL.nd rfl (Or.inl rfl)) (cZ (aR (i:=4) cL.nd rfl (Or.inl rfl)) j_))) (aj (sd (nR hr) (pv 2) (pv 4) (pv 3) rfl)))
   (ag (ao (i:=5) cL.nd rfl (Or.inl rfl) (dM ae))
   (ag (cU PassesOwn.never rfl (uK K rfl rfl T.z_enumerate (aa (aV (bA K rfl) (pv 1) ai (fun _ _=>rfl)) ae)) (kz (n:=2) K rfl rfl (cZ (aR (i:=6) cL.nd rfl (Or.inl rfl)) (cZ (aR (i:=7) cL.nd rfl (Or.inl rfl)) j_))) (aj (cU PassesOwn.never rfl (fS rfl T.z_range (aa (aE aN rfl T.z_len X_ (aa (pv 7) ae)) ae)) (aR (i:=8) cL.nd rfl (Or.inl rfl)) (ag (ao (i:=9) cL.nd rfl (Or.inl rfl) (ak m7 (hr.mono (by decide)) rfl T.F6.mg T.F6.fn.kp T.F6.bd .nil aB (aa (pv 7) (aa (pv 6) (aa (pv 8) ae)))))
   (aj (fM (b8 K rfl Yz Zq Zp gN (pv 5) (aa (bO (aa (pv 6) (aa (pv 8) (aa (nh (nR hr) (pv 2) (aV (bA K rfl) (pv 9) ai (fun _ _=>rfl)) (fun _ _=>rfl)) (aa (nh (nR hr) (pv 2) (aV (bA K rfl) (pv 9) ai (fun _ _=>rfl)) (fun _ _=>rfl)) ae))))) ae))))))))
   (aj (aH (pv 5))))))),?_⟩
 obtain ⟨y,dr,ws,os,rfl,hy,hz,wd,Eh,hd,q⟩:=h
 have hs:(100000:Nat)<sizeLine:=by decide
 have RQ:=C5 hy Eh
 have Wi:=i6 hy
 have JN:=Eh.1
 have XG:=wd.sr
 obtain ⟨⟨wt,ot,d1,d2,d3⟩,dO⟩:=id hd
 walk_at "wk"
 intro d nd
 refine ⟨_,rfl,_,rfl,y,dr,ws,os,rfl,hy,hz,by omega,hd.same (aq.upd nd),fun p1 ps H1 n1 zk rB pH RF s1=>?_⟩
 have HA:=s1 _ _ (ah (H:=H) (a:=d) (o:=HO.dT []))
 have Kl:aq H H1:=(aq.upd nd).trans s1
 have j8:ps.length=(nB y os).length:=by rw[<-pH,Pd]
 refine ⟨p1,rfl,⟨_,bN.of zk⟩,?_⟩
 have Wj:p1≠d:=fun z=>by rw[z,ah]at n1;cases n1
 refine Ad (K:=K) (a:=p1) (xs:=En ps) (fun i σ H'=> ∃(aQ:List (List Key×V)) (nv pv:Option V),σ=[some (.str (S y)),some (.ref dr),some (.ref d),nv,pv,none,none,none,none,none]/\H' d=some (.dT aQ)/\Nums (nB y os) aQ i/\aQ.length<=i/\aW d H1 H')
  ⟨[],none,none,rfl,HA,fun p hp=>absurd hp (by simp),Xy _,aW.refl _ _⟩ (fun i σ H' _ ⟨_,_,_,_,_,_,_,h⟩=>bN.of (h _ _ zk Wj)) ?_ ?_
 ·rintro i x σ H2 T hx ⟨aQ,nv,pv,rfl,hd2,Gw,Wl,s2⟩ nT
  obtain ⟨p,hp,rfl⟩: ∃p,ps[i]? =some p/\x=V.ref p.t:=by
   unfold En at hx
   rw[Yb]at hx
   cases e:ps[i]? with
   | none=>rw[e]at hx;cases hx
   | some p=>rw[e]at hx;cases hx;exact ⟨p,rfl,rfl⟩
  have hi:i<ps.length:=(IQ.mp hp).1
  have pk:=(rB p (Ya hp)).1.tp
  have Wm:p.t≠d:=fun z=>by rw[z,HA]at pk;cases pk
  have Wn:d≠T:=aA hd2 nT
  refine ⟨T,_,rfl,b_.of ah,rfl,_,_,rfl,_,_,rfl,rfl,?_⟩
  refine ⟨_,rfl,_,rfl,_,rfl,d,_,rfl,r_.t (k:=tF p.is) (by rw[aC Wn];exact hd2) ((aq.upd nT) _ _ (s2 _ _ pk Wm)) (by omega),?_⟩
  exact ⟨_,_,_,rfl,ah,Gw.put RQ (N_ pH hp),Yv (gk _ _ _) (by omega),fun a o ea z=>by rw[aC z];exact (aq.upd nT) _ _ (s2 a o ea z)⟩
 ·rintro σ H2 ⟨aQ,nv,pv,rfl,hd2,Gw,Wl,s2⟩
  rw[zh,j8]at Gw
  have HB: ∀p∈nB y os,dE aQ (tF p)=some (.int ((nB y os).idxOf p:Nat)):=fun p hp=>Gw p (by rw[Za];exact hp)
  have ug:aq H H2:=fun a o ea=>s2 a o (Kl a o ea) (aA ea nd)
  walk_at "wk"
  intro p2 n2
  have Gx:=aq.upd (o:= .lst []) n2
  have Wo:H p2=none:=aq.free ug n2
  refine ⟨_,rfl,dr,_,0,_,rfl,rfl,b_.of (Gx _ _ (ug _ _ d1)),rfl,?_⟩
  refine ⟨wt,rfl,⟨_,b_.of (Gx _ _ (ug _ _ d2))⟩,?_⟩
  refine qH (K:=K) (a:=wt) (xs:=eB ws) (fun j σ H'=> ∃(qs:List Q4) (cv wv iv av:Option V),σ=[some (.str (S y)),some (.ref dr),some (.ref d),nv,pv,some (.ref p2),cv,wv,iv,av]/\H' p2=some (.lst (AK qs))/\(∀x∈qs,p7 H' x)/\qs.map Q4.v=gq (nB y os) ws j/\qs.length<=12*j/\aq H2 H')
   ⟨[],none,none,none,none,rfl,ah,fun _ h=>absurd h Yl,rfl,Xy _,Gx⟩ (fun j σ H' _ ⟨_,_,_,_,_,_,_,_,_,_,h⟩=>b_.of (h _ _ (ug _ _ d2))) ?_ ?_
  ·rintro j x σ H3 T hx ⟨qs,cv,wv,iv,av,rfl,A3,Oq,HC,RS,s3⟩ nT
   have hj:j<ws.length:=by
    have:=(IQ.mp hx).1
    rwa [cY]at this
   rw[lQ hj]at hx
   cases hx
   have Km:ws[j]? =some ws[j]:=IM hj
   obtain ⟨P4,pE⟩:=wd.all _ (YA hj)
   generalize ws[j]=w at Km P4 pE ⊢
   have RO: ∀l∈w,l<128:=fun l hl=>(hy.lt l (P4 l hl)).lt
   have sT:=aq.upd (o:= .tup [.int j, .str (S w)]) nT
   refine ⟨T,_,rfl,b_.of ah,rfl,_,_,rfl,_,_,rfl,rfl,?_⟩
   refine ⟨_,rfl,w,rfl,by omega,_,rfl,by omega,by omega,?_⟩
   rw[Xx]
   refine gM (fun i σ H'=> ∃(us:List Q4) (iv av:Option V),σ=[some (.str (S y)),some (.ref dr),some (.ref d),nv,pv,some (.ref p2),some (.int j),some (.str (S w)),iv,av]/\H' p2=some (.lst (AK us))/\(∀x∈us,p7 H' x)/\us.map Q4.v=gq (nB y os) ws j++lZ (nB y os) j w i/\us.length<=12*j+i/\aq H2 H')
    ⟨qs,iv,av,rfl,sT _ _ A3,fun x hx=>(Oq x hx).ts (fJ.of sT),by rw[HC];show _=_++[];rw[YW],by omega,s3.trans sT⟩ ?_ ?_
   ·rintro i σ H4 hi ⟨us,Wq,Wr,rfl,P5,A9,A4,Ey,s4⟩
    have e1:w[vZ w.length i]? =some (w.getD (vZ w.length i) 0):=by rw[Xv,IM (xP hi)];rfl
    have e2:w[i]? =some (w.getD i 0):=by rw[Xv,IM hi];rfl
    have m1:=HB _ (C6 hy Eh Km e1 (P4 _ (Ya e1)) (.inr rfl))
    have m2:=HB _ (C6 hy Eh Km e2 (P4 _ (Ya e2)) (.inl rfl))
    refine ⟨_,rfl,_,rfl,_,rfl,w,j,i,by rw[Zo];rfl,RO,hi,by omega,fun t t1 t2 H5 ht Hy Og s5=>?_⟩
    have P6:=s5 _ _ P5
    have TL:=s5 _ _ (s4 _ _ hd2)
    refine ⟨_,rfl, .inl ⟨rfl,_,bN.of P6⟩,_,rfl,_,rfl,?_⟩
    refine ⟨_,rfl,_,rfl,t,_,0,_,rfl,rfl,b_.of ht,rfl,d,_,rfl,by rw[<-m1];exact og.t TL Hy,?_⟩
    refine ⟨_,rfl,_,rfl,t,_,1,_,rfl,rfl,b_.of ht,rfl,d,_,rfl,by rw[<-m2];exact og.t TL Og,?_⟩
    rw[Zo]
    refine ⟨by show 4<=sizeLine;decide,fun tq Ws=>?_⟩
    have s6:=s5.trans (aq.upd (o:= .tup [.int j, .int i, .int ((nB y os).idxOf (j,vZ w.length i,ar (w.getD (vZ w.length i) 0)):Nat), .int ((nB y os).idxOf (j,i,w.getD i 0):Nat)]) Ws)
    have Gy:=s6 _ _ P5
    refine ⟨p2,_,_,rfl,rfl,Gy,by rw[zj];omega,?_⟩
    refine ⟨us++[⟨tq,jE (nB y os) j w i⟩],_,_,rfl,by rw[ah];exact congrArg (fun x=>some (HO.lst x)) (C8 us ⟨tq,jE (nB y os) j w i⟩),fun x hx=>?_,by rw[X9,A4,vw,Y5];rfl,by rw[KW];show us.length+1<=_;omega,fun a o ea=>by rw[aC (aA ea n2)];exact s6 _ _ (s4 a o ea)⟩
    rcases Yi.mp hx with g | g
    ·exact (A9 x g).ts ((fJ.of s6).trans (fJ.Ff Gy))
    ·have e3:=Vk.mp g
     subst e3
     exact (fJ.Ff Gy) _ _ ah
   ·rintro σ H4 ⟨us,Wq,Wr,rfl,P5,A9,A4,Ey,s4⟩
    exact ⟨us,_,_,_,_,rfl,P5,A9,by rw[A4,tG Km],by omega,s4⟩
  ·rintro σ H3 ⟨qs,cv,wv,iv,av,rfl,A3,Oq,HC,RS,s3⟩
   rw[cY]at HC
   exact ⟨_,rfl,q p2 qs H3 Wo A3 Oq HC (ug.trans s3)⟩
theorem rC:bM P w K mg base fI 2 f1 d1 ["word"] (qL K):=by
 have cM:=fA (P:=P) (w:=w) (base:=base) T
 refine T.F1.fn.ok AZ (fun vs H Q E h=>xm h) (fun cR A outer s H vs Q E hr h=>?_)
 refine ⟨_,(aj (aH (b8 K rfl Ye YJ YX (fg K rfl) (g7 [] (by decide+kernel)) (aa (cD ["letter"] [none] (w4 rfl T.z_reversed (aa (pv 0) ae)) trivial (fun _ _ _ _=>(aR (i:=0) (by decide+kernel:List.Nodup (["letter"]:List Str)) rfl (Or.inl rfl))) (fun _ _ _ _=>eR) (fun _ _ _ _=>(ak cM (hr.mono (by decide)) rfl T.F0.mg T.F0.fn.kp T.F0.bd .nil aB (aa (pv 0) ae)))) ae)))),?_⟩
 obtain ⟨l,rfl,hc,hz,q⟩:=h
 have hs:(1000:Nat)<sizeLine:=by decide
 refine ⟨rfl,_,rfl,l,rfl,by omega,?_⟩
 rw[sC]
 refine gO (xs:=cf l.reverse) (fun i acc H'=>aq H H'/\acc=cf ((l.reverse.take i).map ar)) (by rw[aU,Yo];omega) ⟨aq.refl H,rfl⟩ ?_ ?_
 ·rintro i x acc H1 Nx hi hx hl ⟨s1,rfl⟩ nx
  obtain ⟨c,lE,rfl⟩:=fO hx
  refine ⟨trivial,dk ⟨_,rfl,c,rfl,hc c (Zg.mp (Ya lE)),nx _ _ (by simpa using hl) ⟨s1,?_⟩⟩⟩
  rw[cQ, <-take_snoc lE,X9]
  rfl
 ·rintro acc H1 D hl ⟨s1,rfl⟩ hD
  refine ⟨D,(cG l).map fun c=>[c],rfl,rfl,bN.of ?_,?_,?_⟩
  ·rw[ah, <-dS,aU,Yn (SY _),Zt]
   rfl
  ·rw[sx]
   unfold cG
   rw[Yo,Pd]
   omega
  ·rw[kC]
   exact q _ (s1.trans (aq.upd hD))
theorem qc:bM P w K mg base fI 1 K_ LI ["words","band"] (jF K):=by
 refine T.Py.fn.ok cS (fun vs H Q E h=>oM h) (fun cR A outer s H vs Q E hr h=>?_)
 refine ⟨_,(ag (ao (i:=2) cS.nd rfl (Or.inl rfl) (dM ae))
   (ag (cU PassesOwn.never rfl (uK K rfl rfl T.z_enumerate (aa (pv 0) ae)) (kz (n:=2) K rfl rfl (cZ (aR (i:=3) cS.nd rfl (Or.inl rfl)) (cZ (aR (i:=4) cS.nd rfl (Or.inl rfl)) j_))) (aj (cU PassesOwn.never rfl (BU rfl T.z_enumerate (aa (pv 4) ae)) (kz (n:=2) K rfl rfl (cZ (aR (i:=5) cS.nd rfl (Or.inl rfl)) (cZ (aR (i:=6) cS.nd rfl (Or.inl rfl)) j_))) (aj (b6 (aM iS (e_ K rfl Ye Qar Qap nW (pv 6)) (pv 1) (aP _)) (aj (fM (b8 K rfl Yz Zq Zp gN (pv 2) (aa (bO (aa (pv 3) (aa (pv 5) ae))) ae)))) bz)))))
   (aj (aH (pv 2))))),?_⟩
 obtain ⟨wt,ws,band,rfl,qd,hf,hw,hb,q⟩:=h
 have hs:(100000:Nat)<sizeLine:=by decide
 walk_at "wk"
 intro p1 n1
 refine ⟨_,rfl,wt,rfl,⟨_,b_.of ((aq.upd n1) _ _ qd)⟩,?_⟩
 refine qH (K:=K) (a:=wt) (xs:=eB ws) (fun j σ H'=> ∃(ps:List Pr) (cv wv pv lv:Option V),σ=[some (.ref wt),some (.str (S [band])),some (.ref p1),cv,wv,pv,lv]/\H' p1=some (.lst (q0 ps))/\(∀p∈ps,mX H' p)/\ps.map Pr.pair=dh band ws j/\ps.length<=12*j/\aq H H')
  ⟨[],none,none,none,none,rfl,ah,fun _ h=>absurd h Yl,rfl,Xy _,aq.upd n1⟩ (fun j σ H' _ ⟨_,_,_,_,_,_,_,_,_,_,h⟩=>b_.of (h _ _ qd)) ?_ ?_
 ·rintro j x σ H1 T hx ⟨ps,cv,wv,pv,lv,rfl,hp,rB,pH,j8,s1⟩ nT
  have hj:j<ws.length:=by
   have:=(IQ.mp hx).1
   rwa [cY]at this
  rw[lQ hj]at hx
  cases hx
  have Km:ws[j]? =some ws[j]:=IM hj
  obtain ⟨wO,pE⟩:=hw _ (YA hj)
  generalize ws[j]=w at Km wO pE ⊢
  refine ⟨T,_,rfl,b_.of ah,rfl,_,_,rfl,_,_,rfl,rfl,?_⟩
  have sT:=aq.upd (o:= .tup [.int j, .str (S w)]) nT
  refine ⟨_,rfl,w,rfl,?_⟩
  refine BV (l:=w) (fun m σ H'=> ∃(us:List Pr) (pv lv:Option V),σ=[some (.ref wt),some (.str (S [band])),some (.ref p1),some (.int j),some (.str (S w)),pv,lv]/\H' p1=some (.lst (q0 us))/\(∀p∈us,mX H' p)/\us.map Pr.pair=dh band ws j++iA band j w m/\us.length<=12*j+m/\aq H H')
   ⟨ps,pv,lv,rfl,sT _ _ hp,fun p xx=>(rB p xx).same sT,by rw[pH];show _=_++[];rw[YW],by omega,s1.trans sT⟩ ?_ ?_
  ·rintro m l σ H2 T2 hm ⟨us,Wt,Wu,rfl,vX,A9,A4,Ey,s2⟩ Wv
   have XH:m<w.length:=(IQ.mp hm).1
   have RT:=wO l (Ya hm)
   have es:=xM (band:=band) (c:=j) hm
   have P7:=aq.upd (o:= .tup [.int m, .str (S [l])]) Wv
   refine ⟨T2,_,rfl,b_.of ah,rfl,_,_,rfl,_,_,rfl,rfl,?_⟩
   refine ⟨_,rfl,rfl,l,rfl,rfl,RT.lt,_,rfl,[PyProof.Rows.lo1 l],[band],rfl,rfl,_,rfl,?_⟩
   have ev:decide ([PyProof.Rows.lo1 l]=[band])=xK band l:=by rw[<-C2 hb RT];simp
   rw[ev]
   have Kn:=P7 _ _ vX
   refine cn (fun z=>?_) (fun z=>?_)
   ·rw[if_pos z]at es
    refine ⟨_,rfl, .inl ⟨rfl,_,bN.of Kn⟩,_,rfl,_,rfl,by show 2<=sizeLine;decide,fun t nt=>?_⟩
    have A3:=(aq.upd (o:= .tup [.int j, .int m]) nt) _ _ Kn
    have s3:=P7.trans (aq.upd (o:= .tup [.int j, .int m]) nt)
    refine ⟨p1,_,_,rfl,rfl,A3,by rw[tE];omega,?_⟩
    refine ⟨us++[⟨t,j,m⟩],_,_,rfl,by rw[ah];exact congrArg (fun x=>some (HO.lst x)) (CY us ⟨t,j,m⟩),fun p xx=>?_,by rw[X9,A4,es,Y5];rfl,by rw[KW];show us.length+1<=_;omega,fun a o ea=>by rw[aC (aA ea n1)];exact s3 _ _ (s2 a o ea)⟩
    rcases Yi.mp xx with g | g
    ·exact ((A9 p g).same s3).ts (fJ.Ff A3)
    ·have e2:=Vk.mp g
     subst e2
     exact mX.ts (H:=upd (upd H2 T2 (.tup [.int m, .str (S [l])])) t (.tup [.int j, .int m])) ⟨ah,by show j<1000;omega,by show m<1000;omega⟩ (fJ.Ff A3)
   ·rw[if_neg z,YW]at es
    exact ⟨us,_,_,rfl,Kn,fun p xx=>(A9 p xx).same P7,by rw[A4,es],by omega,s2.trans P7⟩
  ·rintro σ H2 ⟨us,Wt,Wu,rfl,vX,A9,A4,Ey,s2⟩
   exact ⟨us,_,_,_,_,rfl,vX,A9,by rw[A4,vq Km],by omega,s2⟩
 ·rintro σ H1 ⟨ps,cv,wv,pv,lv,rfl,hp,rB,pH,j8,s1⟩
  rw[cY]at pH
  exact ⟨_,rfl,q p1 ps H1 n1 hp rB pH s1⟩
theorem A5:bM P w K mg base fI 1 gH oW ["self","strand","way","place"] (rk K aO):=by
 refine T.Kj.ok A1 (fun vs H Q E h=>xT h) (fun cR A outer s H vs Q E hr h=>?_)
 refine ⟨_,(ag (iO (pv 0) (pv 1) rfl)
   (ag (iO (pv 0) (pv 2) rfl)
   (aj (iO (pv 0) (pv 3) rfl)))),?_⟩
 obtain ⟨x,dx,t,w',p,rfl,hx,q⟩:=h
 refine ⟨_,rfl,_,rfl,x,aO,dx,_,rfl,hx,T.dP,T.n_Seen_strand,by show 0<1000;decide,?_⟩
 refine ⟨_,rfl,_,rfl,x,aO,dx,_,rfl,ah,T.dP,T.n_Seen_way,Yx (di _ _ _) (by show 0+1<1000;decide),?_⟩
 refine ⟨_,rfl,_,rfl,x,aO,dx,_,rfl,ah,T.dP,T.n_Seen_place,Yx (di _ _ _) (Yx (Y7 (di _ _ _)) (by show 0+1+1<1000;decide)),?_⟩
 exact q _ ah fun b o e z=>by rw[aC z,aC z,aC z];exact e
theorem o7:bM P w K mg base fI 3 Lm LW ["words","ways","strand"] (jc K aX aO):=by
 have vP:=A5 (P:=P) (w:=w) (base:=base) T
 refine T.PK.fn.ok gg (fun vs H Q E h=>m3 h) (fun cR A outer s H vs Q E hr h=>?_)
 refine ⟨_,(ag (ao (i:=3) gg.nd rfl (Or.inl rfl) (aV (bA K rfl) (pv 0) (aV (bA K rfl) (pv 2) ai (fun _ _=>rfl)) (fun _ _=>rfl)))
   (ag (ao (i:=4) gg.nd rfl (Or.inl rfl) (aV (bA K rfl) (pv 2) ai (fun _ _=>rfl)))
   (ag (b6 (jN (e_ K rfl Ye Qah Qag jP (aV g8 (pv 3) (pv 4) (fun _ _=>rfl)))) (aj (aH (m_ T.DW vP (hr.mono (by decide)) rfl T.DV T.DX .nil aB (aa (pv 2) (aa (aV (bA K rfl) (aV (bR K rfl) (pv 1) (aV (bA K rfl) (pv 2) ai (fun _ _=>rfl)) (fun _ _=>rfl)) ai (fun _ _=>rfl)) (aa (pv 4) ae)))))) bz)
   (aj (aH (m_ T.DW vP (hr.mono (by decide)) rfl T.DV T.DX .nil aB (aa (pv 2) (aa (aV (bA K rfl) (aV (bR K rfl) (pv 1) (aV (bA K rfl) (pv 2) ai (fun _ _=>rfl)) (fun _ _=>rfl)) ai (fun _ _=>rfl)) (aa (az c_ (az c_ (aE aN rfl T.z_len X_ (aa (pv 3) ae)) ai) (pv 4)) ae))))))))),?_⟩
 obtain ⟨y,lg,wt,vt,st,w',ws,lC,p,c,i,rfl,hy,qd,P8,mD,hw,hp,ok,hi,q⟩:=h
 have hs:(100000:Nat)<sizeLine:=by decide
 have pE:=ok.on.uz
 have TM:=ok.on.lz
 have Nj:=ok.on.sw
 have h8:(rd w' i)<128:=(hy.lt _ (Nj.rd _)).lt
 have hc:(eB ws)[c]? =some (V.str (S w')):=by
  have hl:=(IQ.mp hw).1
  rw[lQ hl,(IQ.mp hw).2]
 refine ⟨_,rfl,_,rfl,st,_,0,_,rfl,rfl,b_.of mD,rfl,wt,_,_,_,rfl,rfl,b_.of qd,ck hc,?_⟩
 refine ⟨_,rfl,st,_,1,_,rfl,rfl,b_.of mD,rfl,?_⟩
 refine ⟨_,rfl,_,rfl,w',_,_,rfl,rfl,by omega,by rw[kI (by omega) (by omega)],?_⟩
 have made: ∀(x dx:Addr) (H':Hp) (t w2:Addr) (pl:Nat),H x=none->H dx=none->dx≠x->aW x (L2.upd (L2.upd H dx (.own x)) x (.ins aO dx [])) H'->aq H H':=fun x dx H' t w2 pl nx J1 ne sm a o e=>by
  refine sm a o ?_ (aA e nx)
  rw[aC (aA e nx),aC (aA e J1)]
  exact e
 refine ⟨rfl,_,rfl,rfl,h8,?_⟩
 walk_at "rd"
 refine cn (fun z=>?_) (fun z=>?_)
 ·refine ⟨_,rfl,_,rfl,_,rfl,st,_,0,_,rfl,rfl,b_.of mD,rfl,vt,_,_,_,rfl,rfl,bN.of P8,ck (Dx hp),p.t,_,0,_,rfl,rfl,b_.of ok.tp,rfl,_,rfl,fun x dx nx J1 ne=>⟨x,dx,st,p.a,i,rfl,ah,fun H' hx sm=>⟨rfl,?_⟩⟩⟩
  have Ko:=made x dx H' st p.a i nx J1 ne sm
  exact q ⟨x,st,p.a,c,i,w',i,p.r⟩ H' ⟨rfl,rfl,by rw[if_pos z],by rw[if_pos z]⟩ rfl ⟨⟨dx,hx⟩,Ko _ _ mD,ok.on.same Ko,hi⟩ nx Ko
 ·have ei:(w'.length:Int) - 1 - i=((w'.length - 1 - i:Nat):Int):=by omega
  refine ⟨_,rfl,_,rfl,_,rfl,st,_,0,_,rfl,rfl,b_.of mD,rfl,vt,_,_,_,rfl,rfl,bN.of P8,ck (Dx hp),p.t,_,1,_,rfl,rfl,b_.of ok.tp,rfl,_,rfl,w',rfl,by omega,_,_,rfl,rfl,_,rfl,_,_,rfl,rfl,fun x dx nx J1 ne=>⟨x,dx,st,p.b,w'.length - 1 - i,by rw[<-ei];rfl,ah,fun H' hx sm=>⟨rfl,?_⟩⟩⟩
  have Ko:=made x dx H' st p.b 0 nx J1 ne sm
  exact q ⟨x,st,p.b,c,i,cG w',w'.length - 1 - i,p.q⟩ H' ⟨rfl,rfl,by rw[if_neg z],by rw[if_neg z]⟩ rfl ⟨⟨dx,hx⟩,Ko _ _ mD,ok.bk.same Ko,by show w'.length - 1 - i<(cG w').length;rw[bS];omega⟩ nx Ko
theorem jj:bM P w K mg base fI 1 DT LP ["seen","start","end"] (fZ K aX aO):=by
 refine T.wa.fn.ok jh (fun vs H Q E h=>mY h) (fun cR A outer s H vs Q E hr h=>?_)
 refine ⟨_,(ag (ao (i:=3) jh.nd rfl (Or.inl rfl) (az ba (bQ K rfl (pv 0) rfl) ai))
   (aj (aH (aY fU (bQ K rfl (bQ K rfl (pv 0) rfl) rfl) (aZ (az ba (pv 3) (pv 1))) (aZ (az ba (pv 3) (pv 2))))))),?_⟩
 obtain ⟨y,lg,s,x,z,rfl,hz,hs,RU,q⟩:=h
 obtain ⟨d1,e1⟩:=hs.ob
 obtain ⟨d2,e2⟩:=hs.wy.ob
 have:=hs.wy.uz
 have:=hs.wy.lz
 have h1:1<=s.u.length:=Yx (Xy _) hs.pz
 have rl:=kT (lg:=lg) h1
 have Ol:(100000:Nat)<sizeLine:=by decide
 refine ⟨_,rfl,s.a,aO,d1,_,_,rfl,e1,T.dP,T.n_Seen_place,kS,?_⟩
 walk_at "rd"
 refine ⟨s.a,aO,d1,_,_,rfl,e1,T.dP,T.n_Seen_way,mf,s.wy,aX,d2,_,_,rfl,e2,T.gu,T.n_Way_onward,Ob,?_⟩
 walk_at "rd"
 refine ⟨by rw[rm,dq];omega,?_⟩
 rw[show (s.p:Int)+1=((s.p+1:Nat):Int) by omega,zq RU]
 exact q
theorem jL:bM P w K mg base fI 1 DU LQ ["seen","start","end"] (gA K aX aO):=by
 refine T.wb.fn.ok jK (fun vs H Q E h=>oI h) (fun cR A outer s H vs Q E hr h=>?_)
 refine ⟨_,(ag (ao (i:=3) jK.nd rfl (Or.inl rfl) (az c_ (az c_ (bQ K rfl (bQ K rfl (pv 0) rfl) rfl) ai) (bQ K rfl (pv 0) rfl)))
   (aj (aH (aY fU (bQ K rfl (bQ K rfl (pv 0) rfl) rfl) (aZ (az ba (pv 3) (pv 1))) (aZ (az ba (pv 3) (pv 2))))))),?_⟩
 obtain ⟨y,lg,s,x,z,rfl,hz,hs,RU,q⟩:=h
 obtain ⟨d1,e1⟩:=hs.ob
 obtain ⟨d2,e2⟩:=hs.wy.ob
 have:=hs.wy.uz
 have:=hs.wy.lz
 have hp:=hs.pz
 have h1:1<=s.u.length:=Yx (Xy _) hs.pz
 have rl:=kT (lg:=lg) h1
 have Ol:(100000:Nat)<sizeLine:=by decide
 refine ⟨_,rfl,s.a,aO,d1,_,_,rfl,e1,T.dP,T.n_Seen_way,mf,s.wy,aX,d2,_,_,rfl,e2,T.gu,T.n_Way_size,zp,?_⟩
 walk_at "rd"
 refine ⟨s.a,aO,d1,_,_,rfl,e1,T.dP,T.n_Seen_place,kS,?_⟩
 walk_at "rd"
 refine ⟨s.a,aO,d1,_,_,rfl,e1,T.dP,T.n_Seen_way,mf,s.wy,aX,d2,_,_,rfl,e2,T.gu,T.n_Way_backward,Ge,?_⟩
 walk_at "rd"
 refine ⟨by rw[rm,Yo,dq];omega,?_⟩
 rw[show (s.u.length:Int) - 1 - s.p=((s.u.length - 1 - s.p:Nat):Int) by omega,zq RU]
 exact q
theorem x_:bM P w K mg base fI 2 Lh LR ["steps","one","other","enough"] (oJ K aX aO DT DU):=by
 have cy:=jj (P:=P) (w:=w) (base:=base) T
 have cO:=jL (P:=P) (w:=w) (base:=base) T
 refine T.Ke.fn.ok dQ (fun vs H Q E h=>vC h) (fun cR A outer s H vs Q E hr h=>?_)
 refine ⟨_,(ag (ao (i:=4) dQ.nd rfl (Or.inl rfl) ai)
   (ag (ao (i:=5) dQ.nd rfl (Or.inl rfl) ai)
   (g_ (dR PassesOwn.never (PW.pt (iK (aM kc (pv 4) (pv 3) (aP _)) (gZ (aM iS (kA (pv 0) cy (hr.mono (by decide)) T.wa.fn.kp T.wa.bd cO (hr.mono (by decide)) T.wb.fn.kp T.wb.bd aB (aa (pv 1) (aa (pv 4) (aa (az ba (pv 4) (pv 5)) ae)))) (kA (pv 0) cy (hr.mono (by decide)) T.wa.fn.kp T.wa.bd cO (hr.mono (by decide)) T.wb.fn.kp T.wb.bd aB (aa (pv 2) (aa (pv 4) (aa (az ba (pv 4) (pv 5)) ae)))) (aP _))))) (ag (jO (i:=4) dQ.nd rfl (Or.inl rfl) (pv 5) rK)
   (aj (jO (i:=5) dQ.nd rfl (Or.inl rfl) ai Jn))))
   (g_ (dR PassesOwn.never (aM nM (pv 5) ai (aP _)) (ag (jO (i:=5) dQ.nd rfl (Or.inl rfl) ai Fp)
   (aj (b6 (aM iS (kA (pv 0) cy (hr.mono (by decide)) T.wa.fn.kp T.wa.bd cO (hr.mono (by decide)) T.wb.fn.kp T.wb.bd aB (aa (pv 1) (aa (pv 4) (aa (az ba (pv 4) (pv 5)) ae)))) (kA (pv 0) cy (hr.mono (by decide)) T.wa.fn.kp T.wa.bd cO (hr.mono (by decide)) T.wb.fn.kp T.wb.bd aB (aa (pv 2) (aa (pv 4) (aa (az ba (pv 4) (pv 5)) ae)))) (aP _)) (aj (jO (i:=4) dQ.nd rfl (Or.inl rfl) (pv 5) rK)) bz))))
   (aj (aH (pv 4))))))),?_⟩
 obtain ⟨y,lg,s1,t1,b,en,rfl,hz,hs,ht,XI,q⟩:=h
 have call: ∀(u:Sn) (x d:Nat) (t:TA) (σ:L2.St) (Q':VK),σ[0]? =some (some (V.ref (if b=true then DT else DU)))->i9 H aX aO y lg u->(∀R:List V->Hp->Prop,R [V.ref u.a,V.int x,V.int ((x:Int)+d)] H->t σ H R)->Q' (V.str (S (seg (JY b y lg u) x (x+d)))) H->Cb DT DU (fZ K aX aO) (gA K aX aO) E0 (Ib 0) t σ H Q':=by
  intro u x d t σ Q' h0 hu TN hq
  refine ⟨_,h0,?_⟩
  cases b
  ·exact .inr ⟨rfl,TN _ ⟨y,lg,u,x,x+d,by rw[YO],hz,hu,by omega,hq⟩⟩
  ·exact .inl ⟨rfl,TN _ ⟨y,lg,u,x,x+d,by rw[YO],hz,hu,by omega,hq⟩⟩
 generalize (if b=true then DT else DU)=fx at call ⊢
 generalize el:JY b y lg s1=l at q
 generalize em:JY b y lg t1=m at q
 walk_at "rd"
 refine ⟨fun σ H'=> ∃(mn sz e:Nat),σ=[some (.ref fx),some (.ref s1.a),some (.ref t1.a),some (.int en),some (.int mn),some (.int sz)]/\H'=H/\sz=2 ^ e/\sz<=1000000/\mn<=1000000/\i_ l m mn/\(en<=mn\/ ∃k,mn<=k/\k<mn+sz/\l[k]?≠ m[k]?),?_,?_⟩
 ·refine ⟨fun w σ H'=> ∃(mn sz e:Nat),σ=[some (.ref fx),some (.ref s1.a),some (.ref t1.a),some (.int en),some (.int mn),some (.int sz)]/\H'=H/\w=en - mn/\sz=2 ^ e/\mn+1=sz/\mn<=2*en/\i_ l m mn,⟨_,0,1,0,rfl,rfl,rfl,rfl,rfl,Xy _,fun k hk=>absurd hk (Qa0 _)⟩,?_⟩
  rintro w' σ H2 ⟨mn,sz,e,rfl,rfl,rfl,he,XJ,Pu,ha⟩
  walk_at "rd"
  refine cn (fun z=>?_) (fun z=>?_)
  ·have z1:(mn:Int)<en:=of_decide_eq_true z
   refine call s1 mn sz _ _ _ rfl hs (fun R hR=>⟨_,rfl,_,rfl,_,rfl,_,rfl,_,_,rfl,rfl,hR⟩) ?_
   refine call t1 mn sz _ _ _ rfl ht (fun R hR=>⟨_,rfl,_,rfl,_,rfl,_,rfl,_,_,rfl,rfl,hR⟩) ?_
   rw[el,em]
   walk_at "rd"
   refine cn (fun y1=>?_) (fun y1=>?_)
   ·have y2:seg l mn (mn+sz)=seg m mn (mn+sz):=by simpa using of_decide_eq_true y1
    refine ⟨_,rfl,_,rfl,_,_,rfl,rfl,_,rfl,_,_,rfl,rfl, .inl ⟨by omega,by omega⟩,?_⟩
    refine ⟨en - (mn+sz),by omega,mn+sz,sz*2,e+1,by rw[YO,Qa4];rfl,rfl,rfl,by rw[he,Nat.pow_succ],by omega,by omega,ha.more y2⟩
   ·have y2:seg l mn (mn+sz)≠seg m mn (mn+sz):=fun w=>y1 (decide_eq_true (by rw[w]))
    exact ⟨mn,sz,e,rfl,rfl,he,by omega,by omega,ha, .inr (Ds y2)⟩
  ·have z1: ¬(mn:Int)<en:=fun w=>z (decide_eq_true w)
   exact ⟨mn,sz,e,rfl,rfl,he,by omega,by omega,ha, .inl (by omega)⟩
 ·rintro σ H2 ⟨mn,sz,e,rfl,rfl,he,hsz,Pu,ha,hb⟩
  refine ⟨fun σ H'=> ∃mn:Nat,σ=[some (.ref fx),some (.ref s1.a),some (.ref t1.a),some (.int en),some (.int mn),some (.int 1)]/\H'=H2/\i_ l m mn/\(en<=mn\/l[mn]?≠ m[mn]?),?_,?_⟩
  ·refine ⟨fun w σ H'=> ∃(mn sz e:Nat),σ=[some (.ref fx),some (.ref s1.a),some (.ref t1.a),some (.int en),some (.int mn),some (.int sz)]/\H'=H2/\sz=w/\sz=2 ^ e/\sz<=1000000/\mn<=3000000 - 2*sz/\i_ l m mn/\(en<=mn\/ ∃k,mn<=k/\k<mn+sz/\l[k]?≠ m[k]?),⟨_,mn,sz,e,rfl,rfl,rfl,he,hsz,by omega,ha,hb⟩,?_⟩
   rintro w' σ H3 ⟨mn,sz,e,rfl,rfl,rfl,he,hsz,Pu,ha,hb⟩
   walk_at "rd"
   refine cn (fun z=>?_) (fun z=>?_)
   ·have z1:(1:Int)<sz:=of_decide_eq_true z
    obtain ⟨e',rfl⟩: ∃e',e=e'+1:=⟨e - 1,by
     cases e with
     | zero=>rw[he]at z1;simp at z1
     | succ e=>rfl⟩
    have hh:sz=2*2 ^ e':=by rw[he,Nat.pow_succ,Zk]
    have hp:0<2 ^ e':=Nat.pow_pos (by decide)
    generalize Ot:2 ^ e'=h2 at hh hp
    have RV:=Ot.symm
    have ed:(sz:Int) / 2=(h2:Nat):=by omega
    refine ⟨_,rfl,_,_,rfl,rfl,⟨by decide,by decide⟩,?_⟩
    refine call s1 mn h2 _ _ _ rfl hs (fun R hR=>⟨_,rfl,_,rfl,_,rfl,_,rfl,_,_,rfl,rfl,by rw[ed];exact hR⟩) ?_
    refine call t1 mn h2 _ _ _ rfl ht (fun R hR=>⟨_,rfl,_,rfl,_,rfl,_,rfl,_,_,rfl,rfl,by rw[ed];exact hR⟩) ?_
    rw[el,em]
    walk_at "rd"
    have Oi: ∃e2,h2=2 ^ e2:=⟨e',RV⟩
    obtain ⟨e2,TQ⟩:=Oi
    refine cn (fun y1=>?_) (fun y1=>?_)
    ·have y2:seg l mn (mn+h2)=seg m mn (mn+h2):=by simpa using of_decide_eq_true y1
     refine ⟨_,rfl,_,rfl,_,_,rfl,rfl,?_⟩
     refine ⟨h2,by omega,mn+h2,h2,e2,by rw[YO, <-ed];rfl,rfl,rfl,TQ,by omega,by omega,ha.more y2,?_⟩
     rcases hb with hb | ⟨k,k1,k2,k3⟩
     ·exact .inl (by omega)
     ·refine .inr ⟨k,Classical.byContradiction fun w=>k3 (xU.mp y2 k k1 (by omega)),by omega,k3⟩
    ·have y2:seg l mn (mn+h2)≠seg m mn (mn+h2):=fun w=>y1 (decide_eq_true (by rw[w]))
     exact ⟨h2,by omega,mn,h2,e2,by rw[<-ed];rfl,rfl,rfl,TQ,by omega,by omega,ha, .inr (Ds y2)⟩
   ·have z1: ¬(1:Int)<sz:=fun w=>z (decide_eq_true w)
    have hp:0<2 ^ e:=Nat.pow_pos (by decide)
    have e1:sz=1:=by omega
    subst e1
    exact ⟨mn,rfl,rfl,ha,hb.imp id fun ⟨k,k1,k2,k3⟩=>by rwa [show k=mn by omega]at k3⟩
  ·rintro σ H3 ⟨mn,rfl,rfl,ha,hb⟩
   exact ⟨_,rfl,q mn ha hb⟩
theorem yf:bM P w K mg base fI 1 Li LS ["seen"] (oK K aX aO):=by
 refine T.Kf.fn.ok j7 (fun vs H Q E h=>vD h) (fun cR A outer s H vs Q E hr h=>?_)
 refine ⟨_,(ag (ao (i:=1) j7.nd rfl (Or.inl rfl) (bQ K rfl (pv 0) rfl))
   (ag (ao (i:=2) j7.nd rfl (Or.inl rfl) (aV (bA K rfl) (bQ K rfl (pv 0) rfl) ai (fun _ _=>rfl)))
   (ag (b6 (jN (bQ K rfl (pv 1) rfl)) (aj (aH (bO (aa (pv 2) (aa (az dF (bQ K rfl (pv 0) rfl) (bQ K rfl (pv 1) rfl)) ae))))) bz)
   (aj (aH (bO (aa (ka g6 (pv 2)) (aa (ka g6 (az dF (az c_ (az c_ (bQ K rfl (pv 1) rfl) ai) (bQ K rfl (pv 0) rfl)) (bQ K rfl (pv 1) rfl))) ae)))))))),?_⟩
 obtain ⟨y,lg,s1,rfl,hs,q⟩:=h
 obtain ⟨d1,e1⟩:=hs.ob
 obtain ⟨d2,e2⟩:=hs.wy.ob
 have hp:=hs.pz
 have rp:=jb hs.wy.sw.ne hs.wy.rt
 have u1:=hs.wy.uz
 have u2:=hs.wy.lz
 refine ⟨_,rfl,s1.a,aO,d1,_,_,rfl,e1,T.dP,T.n_Seen_way,mf,?_⟩
 refine ⟨_,rfl,s1.a,aO,d1,_,_,rfl,e1,T.dP,T.n_Seen_strand,rj,s1.t,_,0,_,rfl,rfl,b_.of hs.st,rfl,?_⟩
 refine ⟨_,rfl,s1.wy,aX,d2,_,_,rfl,e2,T.gu,T.n_Way_leads,Dr,?_⟩
 walk_at "rd"
 have Ww:(s1.p:Int) / (s1.r:Int)=((s1.p / s1.r:Nat):Int):=(Qan _ _).symm
 have Wx:((s1.u.length:Int) - 1 - s1.p) / (s1.r:Int)=(((s1.u.length - 1 - s1.p) / s1.r:Nat):Int):=by
  rw[Qan];congr 1;omega
 refine cn (fun z=>?_) (fun z=>?_)
 ·refine ⟨_,rfl,_,rfl,s1.a,aO,d1,_,_,rfl,e1,T.dP,T.n_Seen_place,kS,_,rfl,s1.wy,aX,d2,_,_,rfl,e2,T.gu,T.n_Way_root_size,nE,_,_,rfl,rfl,⟨by omega,by omega⟩,by show 2<=sizeLine;decide,fun p np=>?_⟩
  refine q p _ np ?_ (aq.upd np)
  rw[ah]
  unfold xV
  rw[if_pos z, <-Ww]
 ·refine ⟨_,rfl,_,rfl,_,rfl,s1.wy,aX,d2,_,_,rfl,e2,T.gu,T.n_Way_size,zp,_,_,rfl,rfl,_,rfl,s1.a,aO,d1,_,_,rfl,e1,T.dP,T.n_Seen_place,kS,_,_,rfl,rfl,_,rfl,s1.wy,aX,d2,_,_,rfl,e2,T.gu,T.n_Way_root_size,nE,_,_,rfl,rfl,⟨by omega,by omega⟩,_,rfl,by show 2<=sizeLine;decide,fun p np=>?_⟩
  refine q p _ np ?_ (aq.upd np)
  rw[ah]
  unfold xV
  rw[if_neg z, <-Wx]
theorem o8:bM P w K mg base fI 3 Lj LU ["one","other"] (ja K aX aO):=by
 have rD:=x_ (P:=P) (w:=w) (base:=base) T
 have rE:=yf (P:=P) (w:=w) (base:=base) T
 have cy:=jj (P:=P) (w:=w) (base:=base) T
 have cO:=jL (P:=P) (w:=w) (base:=base) T
 refine T.PH.fn.ok eK (fun vs H Q E h=>mZ h) (fun cR A outer s H vs Q E hr h=>?_)
 refine ⟨_,(ag (ao (i:=2) eK.nd rfl (Or.inl rfl) (az ba (bQ K rfl (bQ K rfl (pv 0) rfl) rfl) (bQ K rfl (bQ K rfl (pv 1) rfl) rfl)))
   (ag (ao (i:=3) eK.nd rfl (Or.inl rfl) (ak rD (hr.mono (by decide)) rfl T.Ke.mg T.Ke.fn.kp T.Ke.bd .nil aB (aa (yo (v:= .ref DT) rfl T.wa.mg rfl) (aa (pv 0) (aa (pv 1) (aa (pv 2) ae))))))
   (ag (ao (i:=4) eK.nd rfl (Or.inl rfl) (ak rD (hr.mono (by decide)) rfl T.Ke.mg T.Ke.fn.kp T.Ke.bd .nil aB (aa (yo (v:= .ref DU) rfl T.wb.mg rfl) (aa (pv 0) (aa (pv 1) (aa (pv 2) ae))))))
   (ag (b6 (aM Bq (aE (qr rfl) rfl T.z_min boot_min (aa (pv 3) (aa (pv 4) ae))) (pv 2) (aP _)) (aj (aH (dZ (Jl K rfl hr) (ak rE (hr.mono (by decide)) rfl T.Kf.mg T.Kf.fn.kp T.Kf.bd .nil aB (aa (pv 0) ae)) (ak rE (hr.mono (by decide)) rfl T.Kf.mg T.Kf.fn.kp T.Kf.bd .nil aB (aa (pv 1) ae)) (aP _)))) bz)
   (ag (b6 (aM G2 (pv 3) (pv 4) (aP _)) (aj (aH (dZ rY (ak cy (hr.mono (by decide)) rfl T.wa.mg T.wa.fn.kp T.wa.bd .nil aB (aa (pv 0) (aa (pv 3) (aa (az ba (pv 3) ai) ae)))) (ak cy (hr.mono (by decide)) rfl T.wa.mg T.wa.fn.kp T.wa.bd .nil aB (aa (pv 1) (aa (pv 3) (aa (az ba (pv 3) ai) ae)))) (aP _)))) bz)
   (aj (aH (dZ rY (ak cO (hr.mono (by decide)) rfl T.wb.mg T.wb.fn.kp T.wb.bd .nil aB (aa (pv 0) (aa (pv 4) (aa (az ba (pv 4) ai) ae)))) (ak cO (hr.mono (by decide)) rfl T.wb.mg T.wb.fn.kp T.wb.bd .nil aB (aa (pv 1) (aa (pv 4) (aa (az ba (pv 4) ai) ae)))) (aP _))))))))),?_⟩
 obtain ⟨y,lg,s1,t1,rfl,hy,hz,hs,ht,h0,q⟩:=h
 obtain ⟨d1,e1⟩:=hs.ob
 obtain ⟨d2,e2⟩:=hs.wy.ob
 obtain ⟨d3,e3⟩:=ht.ob
 obtain ⟨d4,e4⟩:=ht.wy.ob
 have rp:=jb hs.wy.sw.ne hs.wy.rt
 have XM:=jb ht.wy.sw.ne ht.wy.rt
 have u1:=hs.wy.uz
 have XN:=ht.wy.uz
 have u2:=hs.wy.lz
 have ns:=hs.wy.sw.ne
 have nt:=ht.wy.sw.ne
 have lf:=bf hs.wy.sw (s1.p:Int)
 have P9:=bf ht.wy.sw (t1.p:Int)
 have as:=rq (lg:=lg) (s:=s1) (en:=s1.r+t1.r) hs.pz (by omega)
 have at':=rq (lg:=lg) (s:=t1) (en:=s1.r+t1.r) ht.pz (by omega)
 refine ⟨_,rfl,s1.a,aO,d1,_,_,rfl,e1,T.dP,T.n_Seen_way,mf,s1.wy,aX,d2,_,_,rfl,e2,T.gu,T.n_Way_root_size,nE,_,rfl,t1.a,aO,d3,_,_,rfl,e3,T.dP,T.n_Seen_way,mf,t1.wy,aX,d4,_,_,rfl,e4,T.gu,T.n_Way_root_size,nE,_,_,rfl,rfl,?_⟩
 refine ⟨_,rfl,_,rfl,_,rfl,y,lg,s1,t1,true,s1.r+t1.r,by rw[YO];rfl,hz,hs,ht,by omega,fun m NR Fj=>?_⟩
 refine ⟨_,rfl,_,rfl,_,rfl,y,lg,s1,t1,false,s1.r+t1.r,by rw[YO];rfl,hz,hs,ht,by omega,fun n Wy uv=>?_⟩
 have RW:i_ (Bf y lg s1) (Bf y lg t1) m:=NR
 have Ou:s1.r+t1.r<=m\/(Bf y lg s1)[m]?≠ (Bf y lg t1)[m]?:= Fj
 have RX:i_ (Bg y lg s1) (Bg y lg t1) n:=Wy
 have Ov:s1.r+t1.r<=n\/(Bg y lg s1)[n]?≠ (Bg y lg t1)[n]?:= uv
 have ga: ∀k,k<s1.r+t1.r->(Bf y lg s1)[k]? =some (v_ (eW y (sq s1.u s1.p) (k+1)))/\(Bf y lg t1)[k]? =some (v_ (eW y (sq t1.u t1.p) (k+1))):=fun k hk=>⟨Dt ns (by omega),Dt nt (by omega)⟩
 have gb: ∀k,k<s1.r+t1.r->(Bg y lg s1)[k]? =some (v_ (eW y (sq s1.u s1.p) (-(k:Int))))/\(Bg y lg t1)[k]? =some (v_ (eW y (sq t1.u t1.p) (-(k:Int)))):=fun k hk=>⟨Du ns hs.pz (by omega),Du nt ht.pz (by omega)⟩
 refine ⟨_,rfl,_,rfl,_,_,rfl,?_⟩
 walk_at "rd"
 by_cases par: ∀k,sq s1.u s1.p k=sq t1.u t1.p k
 ·have ef:sq s1.u s1.p=sq t1.u t1.p:=funext par
  have m1:s1.r+t1.r<=m:=zy (fun k hk=>by rw[(ga k hk).1,(ga k hk).2,ef]) Ou
  have n1:s1.r+t1.r<=n:=zy (fun k hk=>by rw[(gb k hk).1,(gb k hk).2,ef]) Ov
  refine cn (fun z=>?_) (fun z=>absurd (decide_eq_true (show ((s1.r:Int)+t1.r)<=(if (n:Int)<m then (n:Int) else m) by split<;>omega)) z)
  refine ⟨_,rfl,y,lg,s1,rfl,hs,fun p1 H1 XO zk Ow=>⟨_,rfl,y,lg,t1,rfl,ht.same Ow,fun p2 H2 RY vX cb=>?_⟩⟩
  refine ⟨p1,p2,_,_,_,_,rfl,rfl,b_.of (cb _ _ zk),b_.of vX,?_⟩
  have e:Ek (xV s1).1 (xV s1).2 (xV t1).1 (xV t1).2=bJ (jx y (2*lg) s1) (jx y (2*lg) t1):=by
   unfold jx
   rw[ef,fq,Gg]
  have kq:=q H2 (Ow.trans cb)
  rw[<-e]at kq
  exact kq
 ·have dG: ∃k,sq s1.u s1.p k≠sq t1.u t1.p k:=Classical.byContradiction fun z=>par fun k=>Classical.byContradiction fun w=>z ⟨k,w⟩
  have z0:sq s1.u s1.p 0=sq t1.u t1.p 0:=by unfold sq;rw[Qay,Qay];exact h0
  obtain ⟨a,b,rn,ha,hb⟩:=dH (p:=s1.r) (q:=t1.r) (by omega) (by omega) (zt ns hs.wy.rt s1.p) (zt nt ht.wy.rt t1.p) z0 dG
  have pf:=zw hy lf
  have pg:=zw hy P9
  have key:=lV hy lf P9 rn [(xV s1).1,(xV s1).2] [(xV t1).1,(xV t1).2] (2*lg) 0 (Xy _) (Xy _) (by omega) (by omega)
  have sa:eW y (sq s1.u s1.p) (a+1)≠eW y (sq t1.u t1.p) (a+1):=fun w=>rn.hi (by
   unfold eW at w
   rw[show (a:Int)+1 - 1=a by omega, <-rn.lU a (by omega) (by omega)]at w
   exact kM (hy.cl _ (lf.bH _)) (lf.bH _) (P9.bH _) w)
  have sb:eW y (sq s1.u s1.p) (-(b:Int))≠eW y (sq t1.u t1.p) (-(b:Int)):=fun w=>by
   have c:=xE hy lf P9 (rn.lU (-(b:Int)) (by omega) (by omega)) rn.lo
   unfold gy at c
   rw[w]at c
   simp at c
  have em:m=a:=zx ha (fun k hk=>by
   rw[(ga k (by omega)).1,(ga k (by omega)).2]
   unfold eW
   rw[show (k:Int)+1 - 1=k by omega,rn.lU k (by omega) (by omega),rn.lU (k+1) (by omega) (by omega)]) (fun w=>sa (zu (pf _) (pg _) (by rw[(ga a ha).1,(ga a ha).2]at w;exact Yg w))) RW Ou
  have en:n=b:=zx hb (fun k hk=>by
   rw[(gb k (by omega)).1,(gb k (by omega)).2]
   unfold eW
   rw[rn.lU (-(k:Int)) (by omega) (by omega),rn.lU (-(k:Int) - 1) (by omega) (by omega)]) (fun w=>sb (zu (pf _) (pg _) (by rw[(gb b hb).1,(gb b hb).2]at w;exact Yg w))) RX Ov
  subst em
  subst en
  refine cn (fun z=>absurd (show ((s1.r:Int)+t1.r)<=(if (n:Int)<m then (n:Int) else m) from of_decide_eq_true z) (by split<;>omega)) (fun z=>?_)
  walk_at "rd"
  have BM:(m:Int)+1=((m+1:Nat):Int):=by omega
  have JP:(n:Int)+1=((n+1:Nat):Int):=by omega
  refine cn (fun z2=>?_) (fun z2=>?_)
  ·have z3:m<=n:=by have:=of_decide_eq_true z2;omega
   refine ⟨_,rfl,_,rfl,_,rfl,_,_,rfl,rfl,y,lg,s1,m,m+1,by rw[<-BM];rfl,hz,hs,by omega,?_⟩
   refine ⟨_,rfl,_,rfl,_,rfl,_,_,rfl,rfl,y,lg,t1,m,m+1,by rw[<-BM];rfl,hz,ht,by omega,?_⟩
   refine ⟨_,_,rfl,rfl,?_⟩
   rw[if_pos z3]at key
   have e:decide (seg (Bf y lg s1) m (m+1)<seg (Bf y lg t1) m (m+1))=bJ (jx y (2*lg) s1) (jx y (2*lg) t1):=by
    rw[nF (ga m ha).1,nF (ga m ha).2,Dw]
    exact (decide_eq_decide.mpr (Dv (pf _) (pg _))).trans key.symm
   have kq:=q H (aq.refl H)
   rw[<-e]at kq
   exact kq
  ·have z3: ¬m<=n:=fun w=>z2 (decide_eq_true (by omega))
   refine ⟨_,rfl,_,rfl,_,rfl,_,_,rfl,rfl,y,lg,s1,n,n+1,by rw[<-JP];rfl,hz,hs,by omega,?_⟩
   refine ⟨_,rfl,_,rfl,_,rfl,_,_,rfl,rfl,y,lg,t1,n,n+1,by rw[<-JP];rfl,hz,ht,by omega,?_⟩
   refine ⟨_,_,rfl,rfl,?_⟩
   rw[if_neg z3]at key
   have e:decide (seg (Bg y lg s1) n (n+1)<seg (Bg y lg t1) n (n+1))=bJ (jx y (2*lg) s1) (jx y (2*lg) t1):=by
    rw[nF (gb n hb).1,nF (gb n hb).2,Dw]
    exact (decide_eq_decide.mpr (Dv (pf _) (pg _))).trans key.symm
   have kq:=q H (aq.refl H)
   rw[<-e]at kq
   exact kq
theorem m8:bM P w K mg base fI 4 Ll LV ["order","seen"] (iD K aX aO):=by
 have qe:=o8 (P:=P) (w:=w) (base:=base) T
 refine T.PJ.fn.ok cg (fun vs H Q E h=>mi h) (fun cR A outer s H vs Q E hr h=>?_)
 refine ⟨_,(ag (ao (i:=2) cg.nd rfl (Or.inl rfl) ai)
   (ag (ao (i:=3) cg.nd rfl (Or.inl rfl) (aE (bD K rfl) rfl T.z_len X_ (aa (pv 0) ae)))
   (ag (dR PassesOwn.never (aM kc (pv 2) (pv 3) (aP _)) (ag (ao (i:=4) cg.nd rfl (Or.inl rfl) (az dF (az ba (pv 2) (pv 3)) ai))
   (aj (b6 (jN (ak qe (hr.mono (by decide)) rfl T.PH.mg T.PH.fn.kp T.PH.bd .nil aB (aa (aV (bR K rfl) (pv 0) (pv 4) (fun _ _=>rfl)) (aa (pv 1) ae)))) (aj (ao (i:=2) cg.nd rfl (Or.inl rfl) (az ba (pv 4) ai))) (aj (ao (i:=3) cg.nd rfl (Or.inl rfl) (pv 4)))))))
   (aj (aH (pv 2)))))),?_⟩
 obtain ⟨y,lg,a,ss,t1,rfl,hy,hz,ha,D1,ht,up,hn,q⟩:=h
 have hs:(100000:Nat)<sizeLine:=by decide
 have key:=Zi.mp up
 refine ⟨_,rfl,a,_,rfl, .inl (bN.of ha),?_⟩
 walk_at "rd"
 refine ⟨fun m σ H'=> ∃(lo hi:Nat) (mv:Option V),σ=[some (.ref a),some (.ref t1.a),some (.int lo),some (.int hi),mv]/\m=hi - lo/\lo<=hi/\hi<=ss.length/\(∀k s,ss[k]? =some s->k<lo->bJ (jx y (2*lg) s) (jx y (2*lg) t1)=true)/\(∀k s,ss[k]? =some s->hi<=k->bJ (jx y (2*lg) s) (jx y (2*lg) t1)=false)/\aq H H',⟨_,0,ss.length,none,by rw[kU];rfl,rfl,Xy _,SY _,fun k s _ hk=>absurd hk (Qa0 _),(fun k s e hk=>by rw[Y6 hk]at e;cases e),aq.refl H⟩,?_⟩
 rintro m σ H2 ⟨lo,hi,mv,rfl,rfl,h1,h2,h3,h4,s2⟩
 walk_at "rd"
 refine cn (fun z=>?_) (fun z=>?_)
 ·have z1:(lo:Int)<hi:=of_decide_eq_true z
  have em:(((lo:Int)+hi) / 2)=(((lo+hi) / 2:Nat):Int):=by omega
  have hm:(lo+hi) / 2<ss.length:=by omega
  have hg:ss[(lo+hi) / 2]? =some ss[(lo+hi) / 2]:=IM hm
  obtain ⟨ok,e0⟩:=D1 _ (YA hm)
  walk_at "rd"
  refine ⟨a,_,((lo:Int)+hi) / 2,_,rfl,rfl,bN.of (s2 _ _ ha),by rw[em];exact ck (JZ hg),_,rfl,y,lg,ss[(lo+hi) / 2],t1,rfl,hy,hz,ok.same s2,ht.same s2,e0,fun H3 s3=>?_⟩
  walk_at "rd"
  refine cn (fun y1=>?_) (fun y1=>?_)
  ·walk_at "rd"
   have e1:((lo:Int)+hi) / 2+1=(((lo+hi) / 2+1:Nat):Int):=by omega
   refine ⟨hi - ((lo+hi) / 2+1),by omega,(lo+hi) / 2+1,hi,_,by rw[<-e1];rfl,rfl,by omega,h2,fun k s e hk=>?_,h4,s2.trans s3⟩
   by_cases q1:k=(lo+hi) / 2
   ·subst q1
    rw[hg]at e
    cases e
    exact y1
   ·obtain ⟨A_,ek⟩:=IQ.mp e
    have Ox:=key k ((lo+hi) / 2) A_ hm (by omega)
    rw[ek]at Ox
    cases r:bJ (jx y (2*lg) s) (jx y (2*lg) t1)
    ·have:=L2.sg _ _ _ r Ox
     rw[this]at y1
     cases y1
    ·rfl
  ·walk_at "rd"
   have y2:bJ (jx y (2*lg) ss[(lo+hi) / 2]) (jx y (2*lg) t1)=false:=by simpa using y1
   refine ⟨(lo+hi) / 2 - lo,by omega,lo,(lo+hi) / 2,_,by rw[<-em];rfl,rfl,by omega,by omega,h3,fun k s e hk=>?_,s2.trans s3⟩
   by_cases q1:k=(lo+hi) / 2
   ·subst q1
    rw[hg]at e
    cases e
    exact y2
   ·obtain ⟨A_,ek⟩:=IQ.mp e
    have Ox:=key ((lo+hi) / 2) k hm A_ (by omega)
    rw[ek]at Ox
    exact L2.sg _ _ _ y2 Ox
 ·have z1: ¬(lo:Int)<hi:=fun w=>z (decide_eq_true w)
  walk_at "rd"
  have e:hi=lo:=by omega
  subst e
  exact q hi H2 h2 h3 h4 s2
theorem qf:bM P w K mg base fI 5 Ln LX ["words","ways","band"] (jG K aX aO):=by
 have t5:=qc (P:=P) (w:=w) (base:=base) T
 have qg:=o7 (P:=P) (w:=w) (base:=base) T
 have o9:=m8 (P:=P) (w:=w) (base:=base) T
 refine T.PL.fn.ok ff (fun vs H Q E h=>oN h) (fun cR A outer s H vs Q E hr h=>?_)
 refine ⟨_,(ag (ao (i:=3) ff.nd rfl (Or.inl rfl) (dM ae))
   (ag (cU PassesOwn.never rfl (fW K rfl (ak t5 (hr.mono (by decide)) rfl T.Py.mg T.Py.fn.kp T.Py.bd .nil aB (aa (pv 0) (aa (pv 2) ae)))) (aR (i:=4) ff.nd rfl (Or.inl rfl)) (ag (ao (i:=5) ff.nd rfl (Or.inl rfl) (ak qg (hr.mono (by decide)) rfl T.PK.mg T.PK.fn.kp T.PK.bd .nil aB (aa (pv 0) (aa (pv 1) (aa (pv 4) ae)))))
   (aj (fM (b8 K rfl Yz PySem.F.slot_list_insert PySem.F.type_list_insert Ak (pv 3) (aa (ak o9 (hr.mono (by decide)) rfl T.PJ.mg T.PJ.fn.kp T.PJ.bd .nil aB (aa (pv 3) (aa (pv 5) ae))) (aa (pv 5) ae)))))))
   (aj (aH (cC (eA K rfl) rfl T.z_tuple boot_tuple (aa (cD ["seen"] [none] (fW K rfl (pv 3)) trivial (fun _ _ _ _=>(aR (i:=0) (by decide+kernel:List.Nodup (["seen"]:List Str)) rfl (Or.inl rfl))) (fun _ _ _ _=>eR) (fun _ _ _ _=>(bQ K rfl (pv 0) rfl))) ae)))))),?_⟩
 obtain ⟨y,lg,wt,vt,ws,lC,band,rfl,hy,hz,qd,RZ,wd,hb,P8,wO,Oy,q⟩:=h
 have hs:(100000:Nat)<sizeLine:=by decide
 walk_at "rd"
 intro a na
 have s0:=aq.upd (o:= .lst []) na
 refine ⟨_,rfl,_,rfl,wt,ws,band,rfl,s0 _ _ qd,RZ,fun w hw=>⟨fun c hc=>hy.lt c ((wd w hw).1.bH c hc),(wd w hw).2⟩,hb,fun b ps H1 nb xj rB pH s1=>?_⟩
 have Kl:=s0.trans s1
 have Wz:b≠a:=fun z=>by rw[z,ah]at nb;cases nb
 have WA:ps.length<=48:=by
  have h1:(ps.map Pr.pair).length<=48:=by
   rw[pH]
   have:=jd band (fun w hw=>(wd w hw).2) ws.length (SY _)
   omega
  rwa [Pd]at h1
 have pin: ∀p∈ps, ∃w,ws[p.c]? =some w/\p.i<w.length/\xK band (rd w p.i)=true:=fun p hp=>by
  have hm:p.pair∈dh band ws ws.length:=by rw[<-pH];exact Yp.mpr ⟨p,hp,rfl⟩
  exact xX hm
 refine ⟨b,rfl,⟨_,bN.of xj⟩,?_⟩
 refine iN (K:=K) (a:=b) (xs:=q0 ps) (fun k σ H'=> ∃(ss:List Sn) (sv nv:Option V),σ=[some (.ref wt),some (.ref vt),some (.str (S [band])),some (.ref a),sv,nv]/\H' a=some (.lst (zA ss))/\(∀s∈ss,i9 H' aX aO y lg s/\rd s.u s.p=band/\ ∃w,ws[s.c]? =some w/\xW w s.c s.i s/\s.i<w.length)/\(ss.map fun s=>(s.c,s.i)).Perm ((ps.take k).map Pr.pair)/\AU y (2*lg) ss/\aW a H1 H')
  ⟨[],none,none,rfl,s1 _ _ ah,fun _ h=>absurd h Yl, .nil,List.Pairwise.nil,aW.refl _ _⟩ (fun k σ H' _ ⟨_,_,_,_,_,_,_,_,h⟩=>bN.of (h _ _ xj Wz)) ?_ ?_
 ·rintro k x σ H2 hx ⟨ss,sv,nv,rfl,ha,D1,tX,Mh,s2⟩
  obtain ⟨p,hp,rfl⟩:=CZ hx
  have hk:k<ps.length:=(IQ.mp hp).1
  have Oz:=Ya hp
  obtain ⟨w,hw,hi,ho⟩:=pin p Oz
  have WB:=Ya hw
  have TR:p.c<lC.length:=by rw[wO];exact (IQ.mp hw).1
  have b5:=Oy p.c w lC[p.c] hw (IM TR)
  have go: ∀c o,H c=some o->H2 c=some o:=fun c o e=>s2 _ _ (Kl c o e) (aA e na)
  have R0:=(rB p Oz).tp
  have WC:p.t≠a:=fun z=>by rw[z,s1 _ _ ah]at R0;cases R0
  have R1:=s2 _ _ R0 WC
  have WD:ss.length=k:=by
   have:=tX.length_eq
   rw[Pd,Pd,Xw]at this
   omega
  refine ⟨_,rfl,_,rfl,_,rfl,y,lg,wt,vt,p.t,w,ws,lC,lC[p.c],p.c,p.i,rfl,hy,go _ _ qd,go _ _ P8,R1,hw,IM TR,b5.same go,hi,fun s H3 HD mD Mi XQ s3=>?_⟩
  have TU:=HD.band hy (wd w WB).1 hi hb ho
  refine ⟨_,rfl, .inl ⟨rfl,_,bN.of (s3 _ _ ha)⟩,_,rfl,_,rfl,y,lg,a,ss,s,rfl,hy,hz,s3 _ _ ha,fun t ht=>⟨(D1 t ht).1.same s3,by rw[(D1 t ht).2.1,TU]⟩,Mi,Mh,by omega,fun n H4 hn h1 h2 s4=>?_⟩
  have TV:=s4 _ _ (s3 _ _ ha)
  refine ⟨_,rfl,a,_,n,_,rfl,rfl,TV,by rw[kU];exact hn,by rw[kU];omega,?_⟩
  have e1:(zA ss).take n++V.ref s.a::(zA ss).drop n=zA (ss.take n++s::ss.drop n):=by
   unfold zA
   rw[X9,List.map_take,Ym,List.map_drop]
  rw[e1]
  have su: ∀t,i9 H4 aX aO y lg t->i9 (L2.upd H4 a (.lst (zA (ss.take n++s::ss.drop n)))) aX aO y lg t:=fun t ot=>by
   have ne: ∀{c:Addr} {o:HO},H4 c=some o->(∀l,o≠ .lst l)->c≠a:=fun {c o} e no z=>by rw[z,TV]at e;exact no _ (Yg e).symm
   obtain ⟨dx,eo⟩:=ot.ob
   obtain ⟨dw,ew⟩:=ot.wy.ob
   exact ⟨⟨dx,by rw[aC (ne eo (fun l z=>by cases z))];exact eo⟩,by rw[aC (ne ot.st (fun l z=>by cases z))];exact ot.st,⟨⟨dw,by rw[aC (ne ew (fun l z=>by cases z))];exact ew⟩,ot.wy.sw,ot.wy.uz,ot.wy.lz,ot.wy.rt⟩,ot.pz⟩
  refine ⟨ss.take n++s::ss.drop n,_,_,rfl,ah,fun t ht=>?_,?_,J0 Mh h1 h2,fun c o e z=>by rw[aC z];exact s4 _ _ (s3 _ _ (s2 c o e z))⟩
  ·have:t=s\/t∈ss:=by
    rcases Yi.mp ht with r | r
    ·exact .inr (Zm r)
    ·rcases Vi.mp r with r | r
     ·exact .inl r
     ·exact .inr (ZZ r)
   rcases this with r | r
   ·subst r
    refine ⟨su _ (Mi.same s4),TU,w,?_,?_,?_⟩
    ·rw[HD.ec];exact hw
    ·rw[HD.ec,HD.ei];exact HD
    ·rw[HD.ei];exact hi
   ·exact ⟨su _ (((D1 t r).1.same s3).same s4),(D1 t r).2⟩
  ·rw[X9,Ym, <-take_snoc hp,X9,HD.ec,HD.ei]
   have p1:(ss.take n).map (fun s=>(s.c,s.i))++(p.c,p.i)::(ss.drop n).map (fun s=>(s.c,s.i)) |>.Perm ((p.c,p.i)::ss.map fun s=>(s.c,s.i)):=by
    refine Qby.trans (List.Perm.cons _ ?_)
    rw[<-X9,YM]
   exact p1.trans ((List.Perm.cons _ tX).trans (List.perm_append_singleton _ _).symm)
 ·rintro σ H2 ⟨ss,sv,nv,rfl,ha,D1,tX,Mh,s2⟩
  rw[tE,Za,pH]at tX
  have WD:ss.length<=48:=by
   have:=tX.length_eq
   rw[Pd, <-pH,Pd]at this
   omega
  have ug:aq H H2:=fun c o e=>s2 _ _ (Kl c o e) (aA e na)
  refine ⟨_,rfl,a,rfl,⟨_,bN.of ha⟩,?_⟩
  refine qD (K:=K) (a:=a) (xs:=zA ss) (fun i acc H'=>H'=H2/\acc=(ss.take i).map fun s=>V.ref s.t) (by rw[kU];omega) (fun i acc H' h=>by rw[h.1];exact bN.of ha) ⟨rfl,rfl⟩ ?_ ?_
  ·rintro i x acc H3 Nx hi hx hl ⟨rfl,rfl⟩ nx
   obtain ⟨t,ht,rfl⟩:=Gh hx
   obtain ⟨dx,e⟩:=(D1 t (Ya ht)).1.ob
   refine ⟨trivial,dk ⟨_,rfl,t.a,aO,dx,_,_,rfl,e,T.dP,T.n_Seen_strand,rj,nx _ _ (by simpa using hl) ⟨rfl,?_⟩⟩⟩
   rw[<-take_snoc ht,X9]
   rfl
  ·rintro acc H3 D hl ⟨rfl,rfl⟩ hD
   rw[kU,Za]
   refine ⟨D,_,rfl, .inl ⟨bN.of ah,fun t nt=>?_⟩⟩
   have sA:=(aq.upd (o:= .lst (ss.map fun s=>V.ref s.t)) hD).trans (aq.upd (o:= .tup (ss.map fun s=>V.ref s.t)) nt)
   have ep:(ss.map fun s=>(⟨s.t,s.c,s.i⟩:Pr)).map Pr.pair=ss.map fun s=>(s.c,s.i):=by rw[YT];rfl
   refine q t (ss.map fun s=>(⟨s.t,s.c,s.i⟩:Pr)) _ (aq.free (ug.trans (aq.upd hD)) nt) (by rw[ah];unfold q0;rw[YT];rfl) (fun p hp=>?_) (by rw[ep];exact tX) ?_ (ug.trans sA)
   ·obtain ⟨s,IW,rfl⟩:=Yp.mp hp
    obtain ⟨ok,_,w,hw,_,hi⟩:=D1 s IW
    have h1:=(IQ.mp hw).1
    have h2:=(wd w (Ya hw)).2
    exact ⟨sA _ _ ok.st,by show s.c<1000;omega,by show s.i<1000;omega⟩
   ·rw[ep]
    unfold DA
    rw[YY]
    refine ZN (fun {s t} h1 h2 h=>?_) Mh
    obtain ⟨o1,_,w1,e1,i1,l1⟩:=D1 s h1
    obtain ⟨o2,_,w2,e2,i2,l2⟩:=D1 t h2
    have g1:ws.getD s.c []=w1:=by rw[Xv,e1];rfl
    have g2:ws.getD t.c []=w2:=by rw[Xv,e2];rfl
    rw[<-zB hy (wd w1 (Ya e1)).1 l1 g1 i1 o1.wy.rt, <-zB hy (wd w2 (Ya e2)).1 l2 g2 i2 o2.wy.rt]
    exact h
theorem t6:bM P w K mg base fI 2 Lc LK ["word"] (kF K):=by
 have cM:=fA (P:=P) (w:=w) (base:=base) T
 refine T.PB.fn.ok il (fun vs H Q E h=>pX h) (fun cR A outer s H vs Q E hr h=>?_)
 refine ⟨_,(ag (ao (i:=1) il.nd rfl (Or.inl rfl) (dM ae))
   (ag (cU PassesOwn.never rfl (n0 (pv 0)) (aR (i:=2) il.nd rfl (Or.inl rfl)) (aj (b6 (PW.pt (iK (E_ K rfl (pv 1)) (gZ (aM iS (aV (bR K rfl) (pv 1) (ka g6 ai) (fun _ _=>rfl)) (ak cM (hr.mono (by decide)) rfl T.F0.mg T.F0.fn.kp T.F0.bd .nil aB (aa (pv 2) ae)) (aP _))))) (aj (fM (e_ K rfl Yz ZE ZD IG (pv 1)))) (aj (fM (b8 K rfl Yz Zq Zp gN (pv 1) (aa (pv 2) ae)))))))
   (aj (aH (b8 K rfl Ye YJ YX (fg K rfl) (g7 [] (by decide+kernel)) (aa (pv 1) ae)))))),?_⟩
 obtain ⟨l,rfl,hl,hz,q⟩:=h
 have hs:(100000:Nat)<sizeLine:=by decide
 walk_at "rd"
 intro p1 n1
 refine ⟨_,rfl,l,rfl,?_⟩
 refine yD (xs:=cf l) (fun i σ H'=> ∃lv,σ=[some (.str (S l)),some (.ref p1),lv]/\H' p1=some (.lst (cf (red (l.take i))))/\aW p1 H H') ⟨none,rfl,ah,aW.of (aq.upd n1)⟩ ?_ ?_
 ·rintro i x σ H1 hx ⟨lv,rfl,hp,s1⟩
  obtain ⟨c,hc,rfl⟩:=fO hx
  have hi:i<l.length:=(IQ.mp hc).1
  have h8:c<128:=(hl c (Ya hc)).lt
  have TX:(red (l.take i)).length<=1000:=Yv (kD _) (by rw[Xw];omega)
  have fin: ∀st,st=dz (red (l.take i)) c-> ∃lv,[some (V.str (S l)),some (V.ref p1),some (V.str (S [c]))]=[some (V.str (S l)),some (.ref p1),lv]/\(upd H1 p1 (.lst (cf st))) p1=some (.lst (cf (red (l.take (i+1)))))/\aW p1 H (upd H1 p1 (.lst (cf st))):=fun st e=>
   ⟨_,rfl,by rw[ah,Cj hc,e],fun b o e z=>by rw[aC z];exact s1 b o e z⟩
  refine ⟨_,rfl,p1,_,rfl,bN.of hp,?_⟩
  rcases snoc_cases (red (l.take i)) with e | ⟨m,a,e⟩
  ·rw[e]at hp ⊢
   refine uX rfl ?_
   refine z9 ?_
   refine ⟨_,rfl, .inl ⟨rfl,_,bN.of hp⟩,_,rfl,p1,_,_,rfl,rfl,hp,by rw[aU];exact (by decide:(0:Nat)<sizeLine),?_⟩
   rw[cQ]
   refine fin _ ?_
   rw[e]
   unfold dz
   rw[if_neg (by simp)]
  ·rw[e]at hp TX ⊢
   have XR:m.length<=1000:=by simp at TX;omega
   rw[<-cQ]at hp ⊢
   refine Jq (by simp) ?_
   refine ⟨_,rfl,_,rfl,p1,_,_,_,rfl,rfl,bN.of hp,Bw _ _,_,rfl,c,rfl,h8,[a],[ar c],rfl,rfl,_,rfl,cn (fun z=>?_) (fun z=>?_)⟩
   ·have ea:a=ar c:=by simpa using of_decide_eq_true z
    refine ⟨_,rfl, .inl ⟨rfl,_,bN.of hp⟩,p1,_,V.str (S [a]),rfl,rfl,hp,by simp,?_⟩
    rw[Zn]
    refine fin _ ?_
    rw[e]
    unfold dz
    rw[if_pos (by simp[ea]),Zn]
   ·have ea:a≠ar c:=fun w=>z (decide_eq_true (by rw[w]))
    refine ⟨_,rfl, .inl ⟨rfl,_,bN.of hp⟩,_,rfl,p1,_,_,rfl,rfl,hp,by rw[KW,aU];show m.length+1<sizeLine;omega,?_⟩
    rw[cQ,cQ]
    refine fin _ ?_
    rw[e]
    unfold dz
    rw[if_neg (by simpa using ea)]
 ·rintro σ H1 ⟨lv,rfl,hp,s1⟩
  rw[uY]at hp
  refine ⟨rfl,_,rfl,p1,(red l).map fun c=>[c],rfl,rfl,bN.of (by rw[<-dS];exact hp),?_,?_⟩
  ·rw[sx]
   have:=kD l
   omega
  ·rw[kC]
   exact q _ (fun b o e=>s1 b o e (aA e n1))
theorem jk:bM P w K mg base fI 3 Ld LL ["word"] (mJ K):=by
 have vQ:=t6 (P:=P) (w:=w) (base:=base) T
 have cM:=fA (P:=P) (w:=w) (base:=base) T
 refine T.Eu.fn.ok dW (fun vs H Q E h=>sE h) (fun cR A outer s H vs Q E hr h=>?_)
 refine ⟨_,(ag (ao (i:=1) dW.nd rfl (Or.inl rfl) (ak vQ (hr.mono (by decide)) rfl T.PB.mg T.PB.fn.kp T.PB.bd .nil aB (aa (pv 0) ae)))
   (ag (ao (i:=2) dW.nd rfl (Or.inl rfl) ai)
   (ag (ao (i:=3) dW.nd rfl (Or.inl rfl) (aE aN rfl T.z_len X_ (aa (pv 1) ae)))
   (ag (dR PassesOwn.never (PW.pt (iK (aM Bq (az c_ (pv 3) (pv 2)) ai (aP _)) (gZ (aM iS (aV g8 (pv 1) (pv 2) (fun _ _=>rfl)) (ak cM (hr.mono (by decide)) rfl T.F0.mg T.F0.fn.kp T.F0.bd .nil aB (aa (aV g8 (pv 1) (az c_ (pv 3) ai) (fun _ _=>rfl)) ae)) (aP _))))) (ag (jO (i:=2) dW.nd rfl (Or.inl rfl) ai rK)
   (aj (jO (i:=3) dW.nd rfl (Or.inl rfl) ai Ii))))
   (aj (aH (aY fU (pv 1) (aZ (pv 2)) (aZ (pv 3))))))))),?_⟩
 obtain ⟨l,rfl,hl,hz,q⟩:=h
 have hs:(100000:Nat)<sizeLine:=by decide
 refine ⟨_,rfl,l,rfl,hl,hz,fun H1 s1=>?_⟩
 have Hc:=kD l
 have dB:=Jr hl
 generalize red l=r at Hc dB q ⊢
 have TY:r.length<=sizeLine:=by omega
 walk_at "rd"
 refine ⟨fun m σ H'=> ∃(a e:Nat),σ=[some (.str (S l)),some (.str (S r)),some (.int a),some (.int e)]/\m=e - a/\a<=e/\e<=r.length/\core (Bc r a e)=core r/\H'=H1,⟨_,0,r.length,rfl,rfl,Xy _,SY _,by rw[Fy],rfl⟩,?_⟩
 rintro m σ H2 ⟨a,e,rfl,rfl,h1,h2,hc,rfl⟩
 have fin:core (Bc r a e)=Bc r a e->Q (.str (S (cut r (some (a:Int)) (some (e:Int))))) H2:=fun z=>by
  have e1:cut r (some (a:Int)) (some (e:Int))=Bc r a e:=by
   unfold cut Bc
   rw[HT.gj,HT.gj]
   have e1:min a r.length=a:=by omega
   have e2:min e r.length=e:=by omega
   rw[e1,e2]
  rw[e1, <-z,hc]
  exact q H2 s1
 walk_at "rd"
 refine cn (fun z=>?_) (fun z=>?_)
 ·have z1:(2:Int)<=(e:Int) - (a:Int):=of_decide_eq_true z
  have ha:a<r.length:=by omega
  have he:e - 1<r.length:=by omega
  have g0:lq r (a:Int)=some r[a]:=ck (IM ha)
  have g1:lq r ((e:Int) - 1)=some r[e - 1]:=by
   have:(e:Int) - 1=((e - 1:Nat):Int):=by omega
   rw[this];exact ck (IM he)
  have h8:r[e - 1]<128:=(dB _ (YA he)).lt
  have hw:=Js (l:=r) (s:=a) (e:=e) (by omega) h2
  refine ⟨_,rfl,_,rfl,r,_,_,rfl,rfl,TY,g0,?_⟩
  walk_at "rd"
  refine ⟨r,_,_,rfl,rfl,TY,g1,?_⟩
  walk_at "rd"
  refine cn (fun y=>?_) (fun y=>?_)
  ·have ey:r[a]=ar r[e - 1]:=by simpa using of_decide_eq_true y
   walk_at "rd"
   refine ⟨(e - 1) - (a+1),by omega,a+1,e - 1,?_,rfl,by omega,by omega,?_,rfl⟩
   ·have e1:(a:Int)+1=((a+1:Nat):Int):=by omega
    have e2:(e:Int) - 1=((e - 1:Nat):Int):=by omega
    rw[<-e1, <-e2]
    rfl
   ·rw[<-hc,hw,yP ey]
  ·have ey:r[a]≠ar r[e - 1]:=fun w=>y (decide_eq_true (by rw[w]))
   walk_at "rd"
   exact fin (by rw[hw,lR ey])
 ·have z1: ¬(2:Int)<=(e:Int) - (a:Int):=fun w=>z (decide_eq_true w)
  walk_at "rd"
  exact fin (hU (by rw[Fx h2];omega))
theorem zF:bM P w K mg base fI 4 Le LM ["word"] (yQ K):=by
 have gh:=jk (P:=P) (w:=w) (base:=base) T
 refine T.Ew.fn.ok ju (fun vs H Q E h=>Cn h) (fun cR A outer s H vs Q E hr h=>?_)
 refine ⟨_,(ag (ao (i:=1) ju.nd rfl (Or.inl rfl) (ak gh (hr.mono (by decide)) rfl T.Eu.mg T.Eu.fn.kp T.Eu.bd .nil aB (aa (pv 0) ae)))
   (ag (ao (i:=2) ju.nd rfl (Or.inl rfl) (pv 1))
   (ag (cU PassesOwn.never rfl (qq rfl T.z_range (aa ai (aa (aE aN rfl T.z_len X_ (aa (pv 1) ae)) ae))) (aR (i:=3) ju.nd rfl (Or.inl rfl)) (ag (ao (i:=4) ju.nd rfl (Or.inl rfl) (az bX (aY fU (pv 1) (aZ (pv 3)) bE) (aY fU (pv 1) bE (aZ (pv 3)))))
   (aj (b6 (aM rY (pv 4) (pv 2) (aP _)) (aj (ao (i:=2) ju.nd rfl (Or.inl rfl) (pv 4))) bz))))
   (aj (aH (pv 2)))))),?_⟩
 obtain ⟨l,rfl,hl,hz,q⟩:=h
 have hs:(100000:Nat)<sizeLine:=by decide
 refine ⟨_,rfl,l,rfl,hl,hz,fun H1 s1=>?_⟩
 have WE:(core (red l)).length<=1000:=Yv (u7 _) (Yv (kD l) hz)
 unfold dU fK at q
 generalize core (red l)=c at WE q ⊢
 have WG:c.length<=sizeLine:=by omega
 walk_at "rd"
 refine ⟨_,_,rfl,⟨by decide,by decide,by omega,by omega⟩,?_⟩
 refine gM (fun i σ H'=>H'=H1/\ ∃sv bv,σ=[some (.str (S l)),some (.str (S c)),some (.str (S (cq c (kG c i)))),sv,bv]) ⟨rfl,none,none,rfl⟩ ?_ ?_
 ·rintro i σ H2 hi ⟨rfl,sv,bv,rfl⟩
  have e1:(1:Int)+(i:Int)=((i+1:Nat):Int):=by omega
  rw[e1]
  have hlen:(cut c (some ((i+1:Nat):Int)) none).length+(cut c none (some ((i+1:Nat):Int))).length<=sizeLine:=by rw[bU,b9,Yc,Xw];omega
  have yg:cut c (some ((i+1:Nat):Int)) none++cut c none (some ((i+1:Nat):Int))=dm c (i+1):=by rw[bU,b9];rfl
  walk_at "rd"
  rw[yg]
  refine cn (fun z=>?_) (fun z=>?_)
  ·have z':dm c (i+1)<cq c (kG c i):=of_decide_eq_true z
   have hle:cq c (kG c (i+1))=dm c (i+1):=by rw[qO,hV];unfold cV;rw[if_pos z']
   refine ⟨_,rfl,?_⟩
   rw[hle]
   exact ⟨rfl,_,_,rfl⟩
  ·have z': ¬dm c (i+1)<cq c (kG c i):=fun y=>z (decide_eq_true y)
   have hle:cq c (kG c (i+1))=cq c (kG c i):=by rw[qO,hV];unfold cV;rw[if_neg z']
   rw[hle]
   exact ⟨rfl,_,_,rfl⟩
 ·rintro σ H2 ⟨rfl,sv,bv,rfl⟩
  have e:((c.length:Int) - 1).toNat=c.length - 1:=by omega
  rw[e]
  exact ⟨_,rfl,q _ s1⟩
theorem Gz:bM P w K mg base fI 5 Lf LN ["word"] (yR K):=by
 have t9:=zF (P:=P) (w:=w) (base:=base) T
 refine T.PC.fn.ok nG (fun vs H Q E h=>Cp h) (fun cR A outer s H vs Q E hr h=>?_)
 refine ⟨_,(ag (ao (i:=1) nG.nd rfl (Or.inl rfl) (ak t9 (hr.mono (by decide)) rfl T.Ew.mg T.Ew.fn.kp T.Ew.bd .nil aB (aa (pv 0) ae)))
   (ag (cU PassesOwn.never rfl (qq rfl T.z_range (aa ai (aa (az ba (aE aN rfl T.z_len X_ (aa (pv 1) ae)) ai) ae))) (aR (i:=2) nG.nd rfl (Or.inl rfl)) (ag (ao (i:=3) nG.nd rfl (Or.inl rfl) (az dF (aE aN rfl T.z_len X_ (aa (pv 1) ae)) (pv 2)))
   (aj (b6 (aM iS (az rZ (aY fU (pv 1) bE (aZ (pv 2))) (pv 3)) (pv 1) (aP _)) (aj (aH (bO (aa (aY fU (pv 1) bE (aZ (pv 2))) (aa (pv 3) ae))))) bz))))
   (aj (aH (bO (aa (g7 [] (by decide+kernel)) (aa ai ae))))))),?_⟩
 obtain ⟨l,rfl,hl,hz,q⟩:=h
 have hs:(100000:Nat)<sizeLine:=by decide
 walk_at "wk"
 intro H1 s1
 have hw:(dU l).length<=1000:=Yv (Au l) hz
 generalize dU l=c at hw q ⊢
 have WG:c.length<=sizeLine:=by omega
 walk_at "wk"
 refine ⟨_,_,rfl,⟨by decide,by decide,by omega,by omega⟩,?_⟩
 refine gM (fun i σ H'=>H'=H1/\(∀j,1<=j->j<=i-> ¬gP c j)/\ ∃sv tv,σ=[some (.str (S l)),some (.str (S c)),sv,tv]) ⟨rfl,fun j h1 h2=>by omega,none,none,rfl⟩ ?_ ?_
 ·rintro i σ H2 hi ⟨rfl,KS,sv,tv,rfl⟩
  have e1:(1:Int)+(i:Int)=((i+1:Nat):Int):=by omega
  rw[e1]
  have e2:(c.length:Int) / ((i+1:Nat):Int)=((c.length / (i+1):Nat):Int):=(Qan _ _).symm
  have hd:=Nat.div_le_self c.length (i+1)
  have hmul:(c.take (i+1)).length*(c.length / (i+1))<=sizeLine:=by
   have h1:(c.take (i+1)).length<=i+1:=by rw[Xw];omega
   have h2:=Nat.mul_div_le c.length (i+1)
   have h3:=Nat.mul_le_mul_right (c.length / (i+1)) h1
   omega
  walk_at "wk"
  refine ⟨⟨by rw[e2];exact Qbm _,by rw[e2];exact Int.ofNat_le.mpr (Yv hd (by omega:c.length<=1000000))⟩,by rw[e2,bU,Xx];exact hmul,?_⟩
  walk_at "wk"
  refine cn (fun z=>?_) (fun z=>?_)
  ·have z1:gP c (i+1):=by
    have:=of_decide_eq_true z
    rw[e2,bU,Xx]at this
    exact this
   walk_at "wk"
   intro p np
   refine q p (i+1) _ (aq.free s1 np) ?_ (.inr ⟨by omega,by omega,z1,fun j j1 j2=>KS j j1 (by omega)⟩) (s1.trans (aq.upd np))
   rw[ah]
   unfold Hf
   rw[<-bU, <-e2]
  ·have z1: ¬gP c (i+1):=fun y=>z (decide_eq_true (by
    rw[e2,bU,Xx]
    exact y))
   refine ⟨rfl,fun j j1 j2=>?_,_,_,rfl⟩
   by_cases y:j=i+1
   ·rw[y];exact z1
   ·exact KS j j1 (by omega)
 ·rintro σ H2 ⟨rfl,KS,sv,tv,rfl⟩
  have hc:c=[]:=by
   by_cases z:c=[]
   ·exact z
   ·have hl:0<c.length:=S3.mpr z
    exact absurd (Av c z) (KS _ hl (by omega))
  subst hc
  walk_at "wk"
  intro p np
  exact q p 0 _ (aq.free s1 np) (by rw[ah];rfl) (.inl ⟨rfl,rfl⟩) (s1.trans (aq.upd np))
theorem o_:bM P w K mg base fI 2 La LJ ["word","place"] (iY K):=by
 have cM:=fA (P:=P) (w:=w) (base:=base) T
 refine T.Pz.fn.ok oY (fun vs H Q E h=>mV h) (fun cR A outer s H vs Q E hr h=>?_)
 refine ⟨_,(aj (aH (bO (aa (ak cM (hr.mono (by decide)) rfl T.F0.mg T.F0.fn.kp T.F0.bd .nil aB (aa (aV g8 (pv 0) (az c_ (pv 1) ai) (fun _ _=>rfl)) ae)) (aa (aV g8 (pv 0) (pv 1) (fun _ _=>rfl)) ae))))),?_⟩
 obtain ⟨w,i,rfl,hl,hz,hi,q⟩:=h
 have hs:(100000:Nat)<sizeLine:=by decide
 have dG:w≠[]:=fun z=>by rw[z]at hi;simp at hi
 refine ⟨_,rfl,_,rfl,_,_,rfl,rfl,w,_,_,rfl,rfl,by omega,kI (by omega) (by omega),_,rfl,(hl _ (gx dG _)).lt,?_⟩
 refine ⟨_,rfl,_,rfl,w,_,_,rfl,rfl,by omega,kI (by omega) (by omega),by show 2<=sizeLine;decide,fun t nt=>?_⟩
 exact q t _ nt ah (aq.upd nt)
theorem pb:bM P w K mg base fI 1 f3 d3 ["yard","start","end"] (iW K):=by
 refine T.F3.fn.ok oX (fun vs H Q E h=>mU h) (fun cR A outer s H vs Q E hr h=>?_)
 refine ⟨_,(aj (aH (az fB (az c_ (b8 K rfl Ye PySem.F.slot_str_find PySem.F.type_str_find uD (pv 0) (aa (pv 2) ae)) (b8 K rfl Ye PySem.F.slot_str_find PySem.F.type_str_find uD (pv 0) (aa (pv 1) ae))) (aE aN rfl T.z_len X_ (aa (pv 0) ae))))),?_⟩
 obtain ⟨y,a,b,rfl,ha,hb,hz,q⟩:=h
 have hs:(1000:Nat)<sizeLine:=by decide
 have hp:(0:Int)<(y.length:Int):=by have:=List.length_pos_of_mem ha;omega
 refine ⟨_,rfl,rfl,_,rfl,y,b,rfl,rfl,?_⟩
 rw[if_pos hb]
 refine ⟨_,rfl,rfl,_,rfl,y,a,rfl,rfl,?_⟩
 rw[if_pos ha]
 exact ⟨_,_,rfl,rfl,_,rfl,y,rfl,by omega,_,_,rfl,rfl,hp,q⟩
theorem m9:bM P w K mg base fI 3 Lg LO ["yard","word","place"] (iC K):=by
 have qh:=o_ (P:=P) (w:=w) (base:=base) T
 have qj:=pb (P:=P) (w:=w) (base:=base) T
 refine T.PD.fn.ok iE (fun vs H Q E h=>mh h) (fun cR A outer s H vs Q E hr h=>?_)
 refine ⟨_,(ag (ao (i:=3) iE.nd rfl (Or.inl rfl) (ak qh (hr.mono (by decide)) rfl T.Pz.mg T.Pz.fn.kp T.Pz.bd .nil aB (aa (pv 1) (aa (pv 2) ae))))
   (aj (aH (ak qj (hr.mono (by decide)) rfl T.F3.mg T.F3.fn.kp T.F3.bd .nil aB (aa (pv 0) (aa (aV (bA K rfl) (pv 3) ai (fun _ _=>rfl)) (aa (aV (bA K rfl) (pv 3) ai (fun _ _=>rfl)) ae))))))),?_⟩
 obtain ⟨y,w,i,rfl,hy,hz,hw,pE,hi,q⟩:=h
 refine ⟨_,rfl,_,rfl,w,i,rfl,fun c hc=>hy.lt c (hw.bH c hc),pE,hi,fun p H1 np hp s1=>?_⟩
 refine ⟨_,rfl,_,rfl,p,_,0,_,rfl,rfl,b_.of hp,rfl,_,rfl,p,_,1,_,rfl,rfl,b_.of hp,rfl,y,_,_,rfl,hy.cl _ (hw.rd _),hw.rd _,by omega,?_⟩
 have rg:=eX (hy.cl _ (hw.rd ((i:Int) - 1))) (hw.rd i) (Ne.symm (hw.red i))
 obtain ⟨n,hn⟩: ∃n:Nat,cst y w i=n:=⟨(cst y w i).toNat,by have:=rg.1;unfold cst;omega⟩
 have:=rg.2.1
 have e:ve y (ar (rd w ((i:Int) - 1))) (rd w i)=n:=hn
 have key:=q n H1 hn (by omega) s1
 rw[<-e]at key
 exact key
theorem D4:bM P w K mg base fI 6 jI vL ["self","yard","word","longest"] (vB K aX):=by
 have Kp:=Gz (P:=P) (w:=w) (base:=base) T
 have t9:=zF (P:=P) (w:=w) (base:=base) T
 have ph:=rC (P:=P) (w:=w) (base:=base) T
 have pj:=m9 (P:=P) (w:=w) (base:=base) T
 refine T.Oc.ok o5 (fun vs H Q E h=>AS h) (fun cR A outer s H vs Q E hr h=>?_)
 refine ⟨_,(ag (iO (pv 0) (aE aN rfl T.z_len X_ (aa (pv 2) ae)) rfl)
   (ag (iO (pv 0) (aE aN rfl T.z_len X_ (aa (aV (bA K rfl) (ak Kp (hr.mono (by decide)) rfl T.PC.mg T.PC.fn.kp T.PC.bd .nil aB (aa (pv 2) ae)) ai (fun _ _=>rfl)) ae)) rfl)
   (ag (iO (pv 0) (dZ rY (ak t9 (hr.mono (by decide)) rfl T.Ew.mg T.Ew.fn.kp T.Ew.bd .nil aB (aa (pv 2) ae)) (ak t9 (hr.mono (by decide)) rfl T.Ew.mg T.Ew.fn.kp T.Ew.bd .nil aB (aa (ak ph (hr.mono (by decide)) rfl T.F1.mg T.F1.fn.kp T.F1.bd .nil aB (aa (pv 2) ae)) ae)) (aP _)) rfl)
   (ag (ao (i:=4) o5.nd rfl (Or.inl rfl) (b8 K rfl Ye YJ YX (fg K rfl) (g7 [] (by decide+kernel)) (aa (cD ["place","yard","word"] [none,some 1,some 2] (fS rfl T.z_range (aa (aE aN rfl T.z_len X_ (aa (pv 2) ae)) ae)) ⟨⟨rfl,rfl,by first | exact .inl rfl | exact .inr rfl⟩,⟨⟨rfl,rfl,by first | exact .inl rfl | exact .inr rfl⟩,trivial⟩⟩ (fun _ _ _ _=>(aR (i:=0) (by decide+kernel:List.Nodup (["place","yard","word"]:List Str)) rfl (Or.inl rfl))) (fun _ _ _ _=>eR) (fun _ _ _ _=>(cC Aj rfl T.z_str boot_str (aa (ak pj (hr.mono (by decide)) rfl T.PD.mg T.PD.fn.kp T.PD.bd .nil aB (aa (pv 1) (aa (pv 2) (aa (pv 0) ae)))) ae)))) ae)))
   (ag (ao (i:=5) o5.nd rfl (Or.inl rfl) (az ba ai (az dF (pv 3) (aE (zS rfl) rfl T.z_max boot_max (aa (aE aN rfl T.z_len X_ (aa (pv 2) ae)) (aa ai ae))))))
   (ag (iO (pv 0) (az rZ (pv 4) (pv 5)) rfl)
   (aj (iO (pv 0) (az rZ (Fm (pv 4) (aZ (ka g6 ai))) (pv 5)) rfl)))))))),?_⟩
 obtain ⟨x,dx,y,w',lg,rfl,hx,hy,hz,hw,wO,P_,q⟩:=h
 have hs:(100000:Nat)<sizeLine:=by decide
 have dB: ∀c∈w',Lt c:=fun c hc=>hy.lt c (hw.bH c hc)
 have h8: ∀c∈w',c<128:=fun c hc=>(dB c hc).lt
 have ht:=hw.cG hy
 have WH: ∀c∈cG w',Lt c:=fun c hc=>hy.lt c (ht.bH c hc)
 have h1:1<=w'.length:=S3.mpr hw.ne
 have rl:=kT (lg:=lg) h1
 obtain ⟨rt,Qa⟩:=yV hw.ne
 refine ⟨_,rfl,w',rfl,by omega,_,rfl,x,aX,dx,_,rfl,hx,T.gu,T.n_Way_size,by show 0<1000;decide,?_⟩
 refine ⟨_,rfl,w',rfl,dB,by omega,fun p1 s1 H1 n1 zk Hc Ow=>?_⟩
 obtain ⟨er,el⟩:=AB hy hw Hc Qa
 subst er
 have et:((dU w').take s1).length=s1:=by
  rw[Xw,el]
  rcases Qa with ⟨z,_⟩ | ⟨_,h2,_⟩
  ·exact absurd z hw.ne
  ·omega
 have WI:s1<=w'.length:=by
  rcases Qa with ⟨z,_⟩ | ⟨_,h2,_⟩
  ·exact absurd z hw.ne
  ·exact h2
 have WJ:=Ow _ _ (ah (H:=H) (a:=x))
 refine ⟨p1,_,0,_,rfl,rfl,b_.of zk,rfl,_,rfl,by rw[et];omega,_,rfl,x,aX,dx,_,rfl,WJ,T.gu,T.n_Way_root_size,Yx (di _ _ _) (by show 0+1<1000;decide),?_⟩
 rw[et]
 refine ⟨_,rfl,w',rfl,dB,by omega,fun H2 s2=>⟨_,rfl,w',rfl,h8,by omega,fun H3 s3=>⟨cG w',rfl,WH,by rw[bS];omega,fun H4 s4=>?_⟩⟩⟩
 have GA:=s2.trans (s3.trans s4)
 have WK:=GA _ _ (ah (a:=x))
 refine ⟨_,_,rfl,rfl,_,rfl,x,aX,dx,_,rfl,WK,T.gu,T.n_Way_leads,Yx (di _ _ _) (Yx (Y7 (di _ _ _)) (by show 0+1+1<1000;decide)),?_⟩
 have WL:decide (dU w'<dU (cG w'))=leads w':=by
  unfold leads
  rw[hw.dU hy,ht.dU hy]
 refine ⟨rfl,_,rfl,w',rfl,by omega,_,rfl,by omega,by omega,?_⟩
 rw[Xx]
 refine n_ (fun i acc H'=>aq _ H'/\acc=cf ((stx y w').take i)) (by omega) ⟨aq.refl _,rfl⟩ ?_ ?_
 ·rintro i acc H5 Nx hi hl ⟨s5,rfl⟩ nx
  refine ⟨⟨rfl,rfl,trivial⟩,dk ⟨_,rfl,_,rfl,_,rfl,y,w',i,by rw[Zo];rfl,hy,hz,hw,by omega,hi,fun n H6 hn XS s6=>⟨n,rfl,by omega,nx _ _ (by simpa using hl) ⟨s5.trans s6,?_⟩⟩⟩⟩
  have eg:(stx y w')[i]? =some (48+n):=by
   unfold stx
   rw[Yb,List.getElem?_range hi]
   show some (v_ (cst y w' i))=_
   rw[hn]
   unfold v_
   congr 1
  rw[JX n (by omega),cQ,take_snoc eg]
 ·rintro acc H5 D hl ⟨s5,rfl⟩ hD
  have Oj:(stx y w').take w'.length=stx y w':=Yn (by rw[dq];exact SY _)
  rw[Oj]at hl ⊢
  refine ⟨D,(stx y w').map fun c=>[c],rfl,rfl,bN.of (by rw[ah, <-dS]),by rw[sx,dq];omega,?_⟩
  rw[kC]
  have TZ:=s5.trans (aq.upd (o:= .lst (cf (stx y w'))) hD)
  have R3:=TZ _ _ (ah (a:=x))
  have R4:(if (1:Int)>(w'.length:Int) then (1:Int) else (w'.length:Int))=(max w'.length 1:Nat):=by split<;>omega
  have Kq:(3:Int)+(lg:Int) / (if (1:Int)>(w'.length:Int) then (1:Int) else (w'.length:Int))=(i8 lg w'.length:Nat):=by
   rw[R4]
   unfold i8
   rw[YO,Qan]
   rfl
  have rb:i8 lg w'.length<=1003:=by unfold i8;have:=Nat.div_le_self lg (max w'.length 1);omega
  refine ⟨_,rfl,_,rfl,w',rfl,by omega,_,_,rfl,_,_,rfl,rfl,⟨by rw[R4];omega,by rw[R4];omega⟩,_,_,rfl,rfl,?_⟩
  have l3: ∀(a b c:V),(d_ "leads" a (d_ "root_size" b (d_ "size" c []))).length<=3:=fun a b c=>Yv (di _ _ _) (Y7 (Yv (di _ _ _) (Y7 (di _ _ _))))
  refine ⟨_,rfl,_,rfl,stx y w',_,rfl,rfl,⟨by rw[Kq];omega,by rw[Kq];omega⟩,by rw[Kq,Xx,dq];omega,_,rfl,x,aX,dx,_,rfl,R3,T.gu,T.n_Way_onward,Yx (l3 _ _ _) (by decide),?_⟩
  refine ⟨_,rfl,1,rfl,_,rfl,rfl,stx y w',rfl,by rw[dq];omega,_,rfl,(stx y w').reverse,_,rfl,rfl,⟨by rw[Kq];omega,by rw[Kq];omega⟩,by rw[Kq,Xx,Yo,dq];omega,_,rfl,x,aX,dx,_,rfl,ah,T.gu,T.n_Way_backward,Yx (di _ _ _) (Yx (Y7 (l3 _ _ _)) (by decide)),?_⟩
  refine q s1 _ Qa ?_ fun b o eb zb=>?_
  ·rw[ah]
   unfold me
   rw[<-WL,Kq,Xx]
  ·rw[aC zb,aC zb]
   refine TZ _ _ ?_
   rw[aC zb]
   refine GA _ _ ?_
   rw[aC zb]
   refine Ow _ _ ?_
   rw[aC zb]
   exact eb
theorem GB:bM P w K mg base fI 8 Lo LY ["yard","words"] (zC K):=by
 have ph:=rC (P:=P) (w:=w) (base:=base) T
 have tY:=vO (P:=P) (w:=w) (base:=base) T
 have t_:=qf (P:=P) (w:=w) (base:=base) T
 have zG:=D4 (P:=P) (w:=w) (base:=base) T
 refine T.PM.fn.ok tV (fun vs H Q E h=>DB h) (fun cR A outer s H vs Q E hr h=>?_)
 refine ⟨_,(ag (ao (i:=2) tV.nd rfl (Or.inr rfl) (Fo K rfl rfl rfl T.z_max (aa (cD ["word"] [none] (ky K rfl (pv 1)) trivial (fun _ _ _ _=>(aR (i:=0) (by decide+kernel:List.Nodup (["word"]:List Str)) rfl (Or.inl rfl))) (fun _ _ _ _=>eR) (fun _ _ _ _=>(aE aN rfl T.z_len X_ (aa (pv 0) ae)))) ae)))
   (ag (ao (i:=3) tV.nd rfl (Or.inr rfl) (cD ["word","yard","longest"] [none,some 0,some 2] (ky K rfl (pv 1)) ⟨⟨rfl,rfl,by first | exact .inl rfl | exact .inr rfl⟩,⟨⟨rfl,rfl,by first | exact .inl rfl | exact .inr rfl⟩,trivial⟩⟩ (fun _ _ _ _=>(aR (i:=0) (by decide+kernel:List.Nodup (["word","yard","longest"]:List Str)) rfl (Or.inl rfl))) (fun _ _ _ _=>eR) (fun _ _ _ _=>(bO (aa (m_ T.Hw zG (hr.mono (by decide)) rfl T.Hv T.Hx .nil aB (aa (pv 1) (aa (pv 0) (aa (pv 2) ae)))) (aa (m_ T.Hw zG (hr.mono (by decide)) rfl T.Hv T.Hx .nil aB (aa (pv 1) (aa (ak ph (hr.mono (by decide)) rfl T.F1.mg T.F1.fn.kp T.F1.bd .nil aB (aa (pv 0) ae)) (aa (pv 2) ae)))) ae))))))
   (aj (aH (bO (aa (cC (eA K rfl) rfl T.z_tuple boot_tuple (aa (pv 1) ae)) (aa (cC (eA K rfl) rfl T.z_tuple boot_tuple (aa (cD ["band","words","ways"] [none,some 1,some 3] (n0 (ak tY (hr.mono (by decide)) rfl T.F2.mg T.F2.fn.kp T.F2.bd .nil aB (aa (pv 0) ae))) ⟨⟨rfl,rfl,by first | exact .inl rfl | exact .inr rfl⟩,⟨⟨rfl,rfl,by first | exact .inl rfl | exact .inr rfl⟩,trivial⟩⟩ (fun _ _ _ _=>(aR (i:=0) (by decide+kernel:List.Nodup (["band","words","ways"]:List Str)) rfl (Or.inl rfl))) (fun _ _ _ _=>eR) (fun _ _ _ _=>(ak t_ (hr.mono (by decide)) rfl T.PL.mg T.PL.fn.kp T.PL.bd .nil aB (aa (pv 1) (aa (pv 2) (aa (pv 0) ae)))))) ae)) ae))))))),?_⟩
 obtain ⟨y,wt,ws,rfl,hy,hz,qd,RZ,wd,q⟩:=h
 have hs:(100000:Nat)<sizeLine:=by decide
 have P0: ∀c∈y,c<128:=Hd hy.lt
 have Wi:=i6 hy
 obtain ⟨lg,WM,WN,P_⟩:=xY fun w hw=>(wd w hw).2
 refine ⟨_,rfl,wt,rfl,⟨_,b_.of qd⟩,?_⟩
 refine oe (K:=K) (a:=wt) (xs:=eB ws) (fun i acc H'=>H'=H/\acc=(Gi (ws.take i)).map V.int) (by rw[cY];omega) (fun i acc H' h=>by rw[h.1];exact b_.of qd) ⟨rfl,rfl⟩ ?_ ?_
 ·rintro i x acc H1 Nx hi hx hl ⟨rfl,rfl⟩ nx
  rw[cY]at hi
  rw[lQ hi]at hx
  cases hx
  have Kr:=wd ws[i] (YA hi)
  refine ⟨trivial,dk ⟨_,rfl,ws[i],rfl,by omega,nx _ _ (by simpa using hl) ⟨rfl,?_⟩⟩⟩
  rw[<-take_snoc (IM hi)]
  unfold Gi
  rw[X9,X9]
  rfl
 ·rintro acc H1 D hl ⟨rfl,rfl⟩ hD
  rw[cY,Za]
  refine ⟨D,Gi ws,rfl,bN.of ah,?_⟩
  rw[WM]
  have sD:=aq.upd (o:= .lst ((Gi ws).map V.int)) hD
  refine ⟨_,rfl,wt,rfl,⟨_,b_.of (sD _ _ qd)⟩,?_⟩
  refine oe (K:=K) (a:=wt) (xs:=eB ws) (fun i acc H'=>aq H1 H'/\ ∃lC:List Wp,acc=Er lC/\lC.length=i/\ ∀(c:Nat) (w:List Nat) (p:Wp),ws[c]? =some w->lC[c]? =some p->tJ H' aX y lg w p) (by rw[cY];omega) (fun i acc H' h=>b_.of (h.1 _ _ qd)) ⟨sD,[],rfl,rfl,fun c w p _ h=>by simp at h⟩ ?_ ?_
  ·rintro i x acc H2 Nx hi hx vV ⟨s2,lC,rfl,wO,Oy⟩ nx
   rw[cY]at hi
   rw[lQ hi]at hx
   cases hx
   have Kr:=wd ws[i] (YA hi)
   have T3:ws[i]? =some ws[i]:=IM hi
   have OA:=P_ ws[i] (YA hi)
   generalize ws[i]=w' at Kr T3 OA ⊢
   have h8: ∀c∈w',c<128:=fun c hc=>(hy.lt c (Kr.1.bH c hc)).lt
   refine ⟨⟨rfl,rfl,trivial⟩,dk ?_⟩
   refine ⟨_,rfl,_,rfl,_,rfl,fun x1 T4 WO R5 ne1=>⟨x1,T4,y,w',lg,rfl,ah,hy,hz,Kr.1,OA,by omega,fun r H3 hr RM WQ=>⟨rfl,?_⟩⟩⟩
   have HE:=rz WO R5 WQ
   refine ⟨_,rfl,_,rfl,w',rfl,h8,by omega,fun H4 R6=>⟨_,rfl,fun x2 T5 WR R7 ne2=>⟨x2,T5,y,cG w',lg,rfl,ah,hy,hz,Kr.1.cG hy,by rw[bS];exact OA,by omega,fun r2 H5 NT R3 WS=>⟨rfl,?_⟩⟩⟩⟩
   have WT:=rz WR R7 WS
   refine ⟨by show 2<=sizeLine;decide,fun t nt=>?_⟩
   have T6:=aq.upd (o:= .tup [.ref x1, .ref x2]) nt
   have T7:=R6.trans (WT.trans T6)
   have all:=HE.trans T7
   refine nx _ _ (by simpa using vV) ⟨s2.trans all,lC++[⟨t,x1,x2,r,r2⟩],Dy lC ⟨t,x1,x2,r,r2⟩,by rw[KW,wO];rfl,Gk wO (fun c w p a b=>(Oy c w p a b).same all) T3 ⟨ah,⟨⟨T4,T7 _ _ RM⟩,Kr.1,OA,by omega,hr⟩,⟨⟨T5,T6 _ _ R3⟩,Kr.1.cG hy,by rw[bS];exact OA,by omega,NT⟩⟩⟩
  ·rintro acc H2 D2 vV ⟨s2,lC,rfl,wO,Oy⟩ WU
   rw[cY]at wO
   have T8:=aq.upd (o:= .lst (Er lC)) WU
   have ug:=s2.trans T8
   refine ⟨_,rfl,wt,_,rfl, .inr ⟨b_.of (ug _ _ qd),?_⟩⟩
   refine ⟨_,rfl,y,rfl,P0,by omega,fun l' H3 ym K6 s3=>?_⟩
   have el:=zg ym K6
   subst el
   refine ⟨_,rfl,?_⟩
   have Hz:=ug.trans s3
   have WV:=s3 _ _ (ah (H:=H2) (a:=D2) (o:=HO.lst (Er lC)))
   refine gO (xs:=cf (fR y)) (fun i acc H'=>aq H3 H'/\ ∃os:List Od,acc=FX os/\(∀o∈os,AJ H' o)/\os.length=i/\(∀(j:Nat) (o:Od) (b:Nat),os[j]? =some o->(fR y)[j]? =some b->(o.ps.map Pr.pair).Perm (dh b ws ws.length))/\ ∀o∈os,DA y ws (2*lg) (o.ps.map Pr.pair)) (by rw[aU];omega) ⟨aq.refl _,[],rfl,fun _ h=>absurd h Yl,rfl,fun j o b h=>by simp at h,fun _ h=>absurd h Yl⟩ ?_ ?_
   ·rintro i x acc H4 Nx hi hx uh ⟨s4,os,rfl,NP,JN,R8,R9⟩ nx
    obtain ⟨b,hb,rfl⟩:=fO hx
    have WW:=vE hy (Ya hb)
    refine ⟨⟨rfl,rfl,trivial⟩,dk ?_⟩
    refine ⟨_,rfl,_,rfl,_,rfl,y,lg,wt,D2,ws,lC,b,rfl,hy,hz,s4 _ _ (Hz _ _ qd),RZ,wd,WW,s4 _ _ WV,wO,fun c w p a1 a2=>(Oy c w p a1 a2).same (T8.trans (s3.trans s4)),fun t ps H5 nt ht rB tX Mh s5=>?_⟩
    have TM:ps.length<=100:=by
     have h1:=tX.length_eq
     have h2:=jd b (fun w hw=>(wd w hw).2) ws.length (SY _)
     rw[Pd]at h1
     omega
    refine nx _ _ (by simpa using uh) ⟨s4.trans s5,os++[⟨t,ps⟩],C0 os ⟨t,ps⟩,fun o ho=>?_,by rw[KW,JN];rfl,fun j o b' ho Hg=>?_,fun o ho=>?_⟩
    ·rcases Yi.mp ho with g | g
     ·exact (NP o g).same s5
     ·rw[Vk.mp g]
      exact ⟨ht,rB,TM⟩
    ·by_cases z:j<os.length
     ·rw[YD z]at ho
      exact R8 j o b' ho Hg
     ·rw[Y1 (by omega)]at ho
      have:j=i:=by
       have:=(IQ.mp ho).1
       simp at this
       omega
      subst this
      rw[JN,Nat.sub_self]at ho
      cases ho
      rw[hb]at Hg
      cases Hg
      exact tX
    ·rcases Yi.mp ho with g | g
     ·exact R9 o g
     ·rw[Vk.mp g]
      exact Mh
   ·rintro acc H4 D3 uh ⟨s4,os,rfl,NP,JN,R8,R9⟩ WX
    rw[aU]at JN
    refine ⟨D3,_,rfl, .inl ⟨bN.of ah,fun t nt=>?_⟩⟩
    refine ⟨by show 2<=sizeLine;decide,fun dr R_=>?_⟩
    have sA:=(aq.upd (o:= .lst (FX os)) WX).trans ((aq.upd (o:= .tup (FX os)) nt).trans (aq.upd (o:= .tup [.ref wt, .ref t]) R_))
    have WY:t≠dr:=fun z=>by rw[<-z,ah]at R_;cases R_
    have Qb:=Hz.trans s4
    exact q dr os _ ⟨⟨wt,t,ah,sA _ _ (Qb _ _ qd),by rw[aC WY,ah]⟩,fun o ho=>(NP o ho).same sA⟩ ⟨2*lg,fun w hw v hv=>by have:=P_ w hw;have:=P_ v hv;omega,⟨JN,R8⟩,R9⟩ (Qb.trans sA)
theorem vR:bM P w K mg base fI 9 Lp LZ ["yard","words"] (vH K):=by
 have mC:=lj (P:=P) (w:=w) (base:=base) T
 have A6:=x9 (P:=P) (w:=w) (base:=base) T
 have Ks:=GB (P:=P) (w:=w) (base:=base) T
 refine T.Kg.fn.ok DZ (fun vs H Q E h=>AX h) (fun cR A outer s H vs Q E hr h=>?_)
 refine ⟨_,(aj (aH (ak mC (hr.mono (by decide)) rfl T.Px.mg T.Px.fn.kp T.Px.bd .nil aB (aa (ak A6 (hr.mono (by decide)) rfl T.F7.mg T.F7.fn.kp T.F7.bd .nil aB (aa (pv 0) (aa (ak Ks (hr.mono (by decide)) rfl T.PM.mg T.PM.fn.kp T.PM.bd .nil aB (aa (pv 0) (aa (pv 1) ae))) ae))) ae)))),?_⟩
 obtain ⟨y,wt,ws,rfl,hy,hz,hk,qd,q⟩:=h
 refine ⟨_,rfl,_,rfl,_,rfl,y,wt,ws,rfl,hy,hz,qd,hk.sr,hk.sw,fun dr os H1 Pm ht s1=>?_⟩
 obtain ⟨nd,e⟩:=AV hy (fun w hw=>(hk.sw w hw).1) ht
 obtain ⟨M,_,ok,_⟩:=id ht
 refine ⟨y,dr,ws,os,rfl,hy,hz,hk.ok,ok,Pm,fun p qs H2 np hp Oq HC s2=>?_⟩
 have hl:=AW (os:=os) hk
 have RS:qs.length<=24:=by rw[<-HC,Pd]at hl;omega
 refine ⟨p,qs,rfl,hp,Oq,RS,by rw[HC];exact nd,fun H3 s3=>?_⟩
 rw[HC]
 exact q _ H3 (s1.trans (s2.trans s3)) e
theorem Kt:bM P w K mg base fI 10 Lq L1 ["yard","word"] (DJ K):=by
 have ua:=vR (P:=P) (w:=w) (base:=base) T
 refine T.PN.fn.ok Kk (fun vs H Q E h=>len_own h) (fun cR A outer s H vs Q E hr h=>?_)
 refine ⟨_,(aj (aH (ak ua (hr.mono (by decide)) rfl T.Kg.mg T.Kg.fn.kp T.Kg.bd .nil aB (aa (pv 0) (aa (bO (aa (pv 1) ae)) ae))))),?_⟩
 obtain ⟨y,w',rfl,hy,hz,hw,pE,q⟩:=h
 refine ⟨_,rfl,_,rfl,by show 1<=sizeLine;decide,fun t nt=>?_⟩
 refine ⟨y,t,[w'],rfl,hy,hz,zD hw pE,ah,fun n H1 s1 e=>?_⟩
 exact q n H1 ((aq.upd nt).trans s1) (e.trans (vG y w'))
theorem qk:bM P w K mg base fI 2 LF Md ["_law_text"] (jH K):=by
 have bC:=dX (P:=P) (w:=w) (base:=base) T
 refine T.Ex.fn.ok qa (fun vs H Q E h=>oQ h) (fun cR A outer s H vs Q E hr h=>?_)
 refine ⟨_,(aj (aH (b8 K rfl Ye YJ YX (fg K rfl) (g7 [] (by decide+kernel)) (aa (cD ["_law_letter"] [none] (n0 (pv 0)) trivial (fun _ _ _ _=>(aR (i:=0) (by decide+kernel:List.Nodup (["_law_letter"]:List Str)) rfl (Or.inl rfl))) (fun _ _ _ _=>eR) (fun _ _ _ _=>(ak bC (hr.mono (by decide)) rfl T.gY.mg T.gY.fn.kp T.gY.bd .nil aB (aa (pv 0) ae)))) ae)))),?_⟩
 obtain ⟨l,rfl,hc,hz,q⟩:=h
 have hs:(1000:Nat)<sizeLine:=by decide
 refine ⟨rfl,_,rfl,l,rfl,?_⟩
 refine gO (xs:=cf l) (fun i acc H'=>aq H H'/\acc=cf ((l.take i).map ar)) (by rw[aU];omega) ⟨aq.refl H,rfl⟩ ?_ ?_
 ·rintro i x acc H1 Nx hi hx hl ⟨s1,rfl⟩ nx
  obtain ⟨c,lE,rfl⟩:=fO hx
  refine ⟨trivial,dk ⟨_,rfl,c,rfl,hc c (Ya lE),nx _ _ (by simpa using hl) ⟨s1,?_⟩⟩⟩
  rw[cQ, <-take_snoc lE,X9]
  rfl
 ·rintro acc H1 D hl ⟨s1,rfl⟩ hD
  rw[aU,Yn (SY _)]
  refine ⟨D,(l.map ar).map fun c=>[c],rfl,rfl,bN.of (by rw[ah, <-dS]),by rw[sx,Pd];omega,?_⟩
  rw[kC]
  exact q _ (s1.trans (aq.upd hD))
theorem GC:bM P w K mg base fI 1 Lu L5 ["_law_script","_law_k"] (yN K):=by
 refine T.PQ.fn.ok k_ (fun vs H Q E h=>Ce h) (fun cR A outer s H vs Q E hr h=>?_)
 refine ⟨_,(ag (ao (i:=2) k_.nd rfl (Or.inl rfl) (az ba (az gw ai (pv 1)) ai))
   (ag (b6 (aM kc (pv 1) (aE (bD K rfl) rfl T.z_len X_ (aa (pv 0) ae)) (aP _)) (aj (ao (i:=2) k_.nd rfl (Or.inl rfl) (aV (bR K rfl) (pv 0) (pv 1) (fun _ _=>rfl)))) (aj (b6 (aM nM (aE (bD K rfl) rfl T.z_len X_ (aa (pv 0) ae)) ai (aP _)) (aj (ao (i:=2) k_.nd rfl (Or.inl rfl) (az ba (pv 2) (az gw (az fB (aV (bR K rfl) (pv 0) (az fB (pv 1) (aE (bD K rfl) rfl T.z_len X_ (aa (pv 0) ae))) (fun _ _=>rfl)) ai) ai)))) bz)))
   (ag (ao (i:=3) k_.nd rfl (Or.inl rfl) (az fB (az Bo (az ba (az ba (az fB (pv 2) ai) (az gw ai (pv 1))) ai) ai) ai))
   (aj (aH (dM (aa (aV (bR K rfl) (dM (aa ai (aa (pv 2) ae))) (cC lF rfl T.z_int boot_int (aa (dZ Bq (pv 2) (az Bo ai ai) (aP _)) ae)) (fun _ _=>rfl)) (aa (az ba (az fB (pv 3) ai) ai) ae)))))))),?_⟩
 obtain ⟨a,ns,k,rfl,hS,hk,q⟩:=h
 have hp:(0:Int)<2147483629:=by decide
 walk_at "rd"
 refine ⟨a,_,rfl, .inl hS,?_⟩
 walk_at "rd"
 refine cn (fun e=>?_) (fun e=>?_)
 ·have e':(k:Int)<((ns.map V.int).length:Nat):=of_decide_eq_true e
  rw[Pd]at e'
  obtain ⟨z,hz⟩:=yO (ns:=ns) (i:=k) (by omega)
  walk_at "rd"
  refine ⟨a,_,k,_,rfl,rfl,hS,ck hz,?_⟩
  walk_at "rd"
  refine fun p1 n1=>?_
  walk_at "rd"
  refine .inr ⟨_,rfl,?_⟩
  obtain ⟨y,hy⟩:=xn _ z
  refine ⟨p1,_,_,_,rfl,rfl,bN.of ah,hy,?_⟩
  walk_at "rd"
  exact fun p2 n2=>q p2 _ (aq.free (aq.upd n1) n2) ⟨_,_,ah⟩ ((aq.upd n1).trans (aq.upd n2))
 ·walk_at "rd"
  refine ⟨a,_,rfl, .inl hS,?_⟩
  walk_at "rd"
  refine cn (fun e2=>?_) (fun e2=>?_)
  ·have e':(0:Int)<((ns.map V.int).length:Nat):=of_decide_eq_true e2
   have hl:(0:Int)<(ns.length:Int):=by rw[Pd]at e';exact e'
   have m1:0<=(k:Int)%(ns.length:Int):=Y3 _ (by omega)
   have m2:(k:Int)%(ns.length:Int)<(ns.length:Int):=YV _ hl
   obtain ⟨z,hz⟩:=yO (ns:=ns) (i:=((k:Int)%(ns.length:Int)).toNat) (by omega)
   have Fs:lq (ns.map V.int) ((k:Int)%((ns.map V.int).length:Nat))=some (V.int z):=by
    have:=ck hz
    rw[Int.toNat_of_nonneg m1]at this
    rw[Pd]
    exact this
   walk_at "rd"
   refine ⟨a,_,rfl, .inl hS,?_⟩
   walk_at "rd"
   refine ⟨a,_,_,_,rfl,rfl,hS,Fs,?_⟩
   walk_at "rd"
   refine fun p1 n1=>?_
   walk_at "rd"
   refine .inr ⟨_,rfl,?_⟩
   obtain ⟨y,hy⟩:=xn _ _
   refine ⟨p1,_,_,_,rfl,rfl,bN.of ah,hy,?_⟩
   walk_at "rd"
   exact fun p2 n2=>q p2 _ (aq.free (aq.upd n1) n2) ⟨_,_,ah⟩ ((aq.upd n1).trans (aq.upd n2))
  ·walk_at "rd"
   refine fun p1 n1=>?_
   walk_at "rd"
   refine .inr ⟨_,rfl,?_⟩
   obtain ⟨y,hy⟩:=xn _ _
   refine ⟨p1,_,_,_,rfl,rfl,bN.of ah,hy,?_⟩
   walk_at "rd"
   exact fun p2 n2=>q p2 _ (aq.free (aq.upd n1) n2) ⟨_,_,ah⟩ ((aq.upd n1).trans (aq.upd n2))
theorem D5:bM P w K mg base fI 2 Ly L8 ["_law_box_here","_law_few","_law_top"] (uW K):=by
 have bB:=gW (P:=P) (w:=w) (base:=base) T
 have bC:=dX (P:=P) (w:=w) (base:=base) T
 refine T.PR.fn.ok fz (fun vs H Q E h=>Ao h) (fun cR A outer s H vs Q E hr h=>?_)
 refine ⟨_,(ag (ao (i:=3) fz.nd rfl (Or.inl rfl) (cC (nU rfl) rfl T.z_list boot_list (aa (g7 [97,98,99,100,101,102,103,104,105,106,107,108,109,110,111,112,113,114,115,116,117,118,119,120,121,122] (by decide+kernel)) ae)))
   (ag (ao (i:=4) fz.nd rfl (Or.inl rfl) (dM ae))
   (ag (cU PassesOwn.never rfl (fS rfl T.z_range (aa (az ba (pv 1) (ak bB (hr.mono (by decide)) rfl T.dY.mg T.dY.fn.kp T.dY.bd .nil aB (aa (pv 0) (aa (az ba (az c_ (pv 2) (pv 1)) ai) ae)))) ae)) (aR (i:=5) fz.nd rfl (Or.inl rfl)) (ag (ao (i:=6) fz.nd rfl (Or.inl rfl) (b8 K rfl Yz ZE ZD ki (pv 3) (aa (ak bB (hr.mono (by decide)) rfl T.dY.mg T.dY.fn.kp T.dY.bd .nil aB (aa (pv 0) (aa (aE (bD K rfl) rfl T.z_len X_ (aa (pv 3) ae)) ae))) ae)))
   (aj (ao (i:=4) fz.nd rfl (Or.inl rfl) (az II (pv 4) (dM (aa (pv 6) (aa (ak bC (hr.mono (by decide)) rfl T.gY.mg T.gY.fn.kp T.gY.bd .nil aB (aa (pv 6) ae)) ae))))))))
   (ag (ao (i:=7) fz.nd rfl (Or.inl rfl) (g7 [] (by decide+kernel)))
   (ag (dR PassesOwn.never (aM nM (aE (bD K rfl) rfl T.z_len X_ (aa (pv 4) ae)) ai (aP _)) (aj (ao (i:=7) fz.nd rfl (Or.inl rfl) (az bX (pv 7) (b8 K rfl Yz ZE ZD ki (pv 4) (aa (ak bB (hr.mono (by decide)) rfl T.dY.mg T.dY.fn.kp T.dY.bd .nil aB (aa (pv 0) (aa (aE (bD K rfl) rfl T.z_len X_ (aa (pv 4) ae)) ae))) ae))))))
   (aj (aH (pv 7)))))))),?_⟩
 obtain ⟨b,sr,top,rfl,hb,h1,h2,h3,q⟩:=h
 have hs:(100000:Nat)<sizeLine:=by decide
 walk_at "rd"
 intro p1 n1
 walk_at "rd"
 intro p2 n2
 have s1:aq H (upd (upd H p1 (.lst (cf aL))) p2 (.lst [])):=(aq.upd n1).trans (aq.upd n2)
 have Qc:p1≠b:=hb.ne n1
 have RY:H p2=none:=aq.free (aq.upd n1) n2
 have WZ:p2≠b:=hb.ne RY
 have T9:p1≠p2:=fun z=>by rw[<-z,ah]at n2;cases n2
 walk_at "rd"
 refine ⟨b,_,rfl,hb.same s1,by omega,by omega,fun n H1 hn xj s2=>?_⟩
 walk_at "rd"
 refine gM (fun i σ H'=> ∃(pe:Addr) (L E:List Nat) (kv lv:Option V),σ=[some (.ref b),some (.int sr),some (.int top),some (.ref p1),some (.ref pe),kv,lv,none]/\Jp i L E/\H' p1=some (.lst (cf L))/\H' pe=some (.lst (cf E))/\p1≠pe/\H pe=none/\cu H' b/\aW b H H')
  ⟨p2,aL,[],none,none,rfl,Jp.start,s2 _ _ (by rw[aC T9,ah];rfl) Qc,s2 _ _ ah WZ,T9,RY,xj,(aW.of s1).trans s2⟩ ?_ ?_
 ·rintro i σ H2 hi ⟨pe,L,E,kv,lv,rfl,yw,zk,pH,T_,Qd,lr,s3⟩
  have N8:i<26:=by simp at hi;omega
  have RT:=yw.ll
  have Qe:=yw.el
  refine ⟨_,rfl, .inl ⟨rfl,_,bN.of zk⟩,?_⟩
  walk_at "rd"
  refine ⟨p1,_,rfl, .inl (bN.of zk),b,_,rfl,lr,by rw[aU];omega,by rw[aU];omega,fun r H3 Sa nH s4=>?_⟩
  rw[aU]at Sa
  have Mf:r<L.length:=by omega
  have Sb:=s4 _ _ zk Qc
  have Sd:=s4 _ _ pH (hb.ne Qd)
  refine ⟨p1,_,_,r,_,rfl,rfl,Sb,by omega,by omega,by rw[aU,seqIndex_of (by omega) (by omega),Xx],xo Mf,?_⟩
  rw[lO]
  have dB:Lt L[r]:= .inl (yw.sm _ (YA Mf))
  have OB:(upd H3 p1 (.lst (cf (L.eraseIdx r)))) pe=some (.lst (cf E)):=by rw[aC (Ne.symm T_)];exact Sd
  walk_at "rd"
  intro p3 n3
  have e3:pe≠p3:=aA OB n3
  refine ⟨pe,p3,_,_,rfl,rfl,by rw[aC e3];exact OB,ah,by rw[aU];show E.length+2<=_;omega,fun p4 n4=>?_⟩
  have Ua:H p3=none:=((s3.trans s4).fX n1).none n3 (nH.fX Qc |>.ne n3)
  have Ub:=(nH.fX (o:= .lst (cf (L.eraseIdx r))) Qc).fX (o:= .lst [V.str (S [L[r]]),V.str (S [ar L[r]])]) (hb.ne Ua)
  have Uc:=((s3.trans s4).fX (o:= .lst (cf (L.eraseIdx r))) n1).fX (o:= .lst [V.str (S [L[r]]),V.str (S [ar L[r]])]) Ua
  have Se:H p4=none:=Uc.none n4 (Ub.ne n4)
  have Ud:p1≠p4:=fun z=>by rw[<-z]at n4;by_cases z3:p1=p3<;>simp[upd,z3]at n4
  have W0:p1≠p3:=fun z=>by rw[<-z,ah]at n3;cases n3
  refine ⟨p4,L.eraseIdx r,E++[L[r],ar L[r]],_,_,rfl,yw.turn N8 Mf,by rw[aC Ud,aC W0,ah],?_,Ud,Se,Ub.fX (hb.ne Se),Uc.fX Se⟩
  rw[ah, <-Fu]
  rfl
 ·rintro σ H2 ⟨pe,L,E,kv,lv,rfl,yw,zk,pH,T_,Qd,lr,s3⟩
  have Qe:=yw.el
  have Ee:=hb.ne Qd
  walk_at "rd"
  refine ⟨fun m σ H'=> ∃F E':List Nat,σ=[some (.ref b),some (.int sr),some (.int top),some (.ref p1),some (.ref pe),kv,lv,some (.str (S F))]/\m=E'.length/\(F++E').Perm E/\H' pe=some (.lst (cf E'))/\cu H' b/\aW b H H',⟨_,[],E,rfl,rfl,Qba _,pH,lr,s3⟩,?_⟩
  rintro m σ H3 ⟨F,E',rfl,rfl,tX,GD,nH,s4⟩
  have hlen:=tX.length_eq
  rw[KW]at hlen
  have uv:(sr:Int)+n<=9:=by omega
  have W2:E.length<=100:=by rw[Qe];omega
  walk_at "rd"
  refine ⟨pe,_,rfl, .inl (bN.of GD),_,_,rfl,rfl,_,rfl,cn (fun e=>?_) (fun e=>?_)⟩
  ·have e':(0:Int)<((cf E').length:Nat):=of_decide_eq_true e
   rw[aU]at e'
   refine ⟨_,rfl,_,rfl, .inl ⟨rfl,_,bN.of GD⟩,?_⟩
   walk_at "rd"
   refine ⟨pe,_,rfl, .inl (bN.of GD),b,_,rfl,nH,by rw[aU];omega,by rw[aU];omega,fun r H4 Mf x8 s5=>?_⟩
   rw[aU]at Mf
   have Ue:r<E'.length:=by omega
   refine ⟨pe,_,_,r,_,rfl,rfl,s5 _ _ GD Ee,by omega,by omega,by rw[aU,seqIndex_of (by omega) (by omega),Xx],xo Ue,?_⟩
   rw[lO]
   have hp:=hJ (IM Ue)
   have j8:=hp.length_eq
   rw[Ys]at j8
   refine ⟨F,_,rfl,rfl,by show F.length+1<=_;omega,(E'.eraseIdx r).length,by omega,F++[E'[r]],E'.eraseIdx r,rfl,rfl,?_,ah,x8.fX Ee,(s4.trans s5).fX Qd⟩
   rw[Y5]
   exact (List.Perm.append_left F hp).trans tX
  ·have e':E'=[]:=by
    cases E' with
    | nil=>rfl
    | cons c r=>exact absurd (decide_eq_true (by rw[aU];show (0:Int)<((r.length+1:Nat):Int);omega)) e
   subst e'
   rw[YW]at tX
   have vV:=tX.length_eq
   refine ⟨_,rfl,q F H3 (yw.yd.perm tX.symm) ?_ ?_ nH s4⟩
   ·rw[vV,Qe];omega
   ·rw[vV,Qe];omega
theorem vS:bM P w K mg base fI 2 Lz L9 ["_law_box_here","_law_few","_law_top"] (mM K):=by
 have bB:=gW (P:=P) (w:=w) (base:=base) T
 have bC:=dX (P:=P) (w:=w) (base:=base) T
 refine T.PU.fn.ok bZ (fun vs H Q E h=>tM h) (fun cR A outer s H vs Q E hr h=>?_)
 refine ⟨_,(ag (ao (i:=3) bZ.nd rfl (Or.inr rfl) (cC (nU rfl) rfl T.z_list boot_list (aa (g7 [97,98,99,100,101,102,103,104,105,106,107,108,109,110,111,112,113,114,115,116,117,118,119,120,121,122] (by decide+kernel)) ae)))
   (ag (BO (i:=4) ["_law_k","_law_left","_law_box_here"] [none,some 3,some 0] bZ.nd rfl (Or.inl rfl) (fS rfl T.z_range (aa (az ba (pv 1) (ak bB (hr.mono (by decide)) rfl T.dY.mg T.dY.fn.kp T.dY.bd .nil aB (aa (pv 0) (aa (az ba (az c_ (pv 2) (pv 1)) ai) ae)))) ae)) ⟨⟨rfl,rfl,by first | exact .inl rfl | exact .inr rfl⟩,⟨⟨rfl,rfl,by first | exact .inl rfl | exact .inr rfl⟩,trivial⟩⟩ (fun _ _ _ _=>(aR (i:=0) (by decide+kernel:List.Nodup (["_law_k","_law_left","_law_box_here"]:List Str)) rfl (Or.inl rfl))) (fun _ _ _ _=>eR) (fun _ _ _ _=>(b8 K rfl Yz ZE ZD ki (pv 1) (aa (ak bB (hr.mono (by decide)) rfl T.dY.mg T.dY.fn.kp T.dY.bd .nil aB (aa (pv 2) (aa (aE (bD K rfl) rfl T.z_len X_ (aa (pv 1) ae)) ae))) ae))))
   (ag (wm (i:=5) (j:=6) rfl bZ.nd rfl rfl (by decide) rfl rfl (aa (aV (bR K rfl) (pv 4) ai (fun _ _=>rfl)) (aa (aV (bR K rfl) (pv 4) ai (fun _ _=>rfl)) ae)) rfl)
   (ag (ao (i:=7) bZ.nd rfl (Or.inl rfl) (az bX (az bX (az bX (pv 5) (pv 6)) (ak bC (hr.mono (by decide)) rfl T.gY.mg T.gY.fn.kp T.gY.bd .nil aB (aa (pv 5) ae))) (ak bC (hr.mono (by decide)) rfl T.gY.mg T.gY.fn.kp T.gY.bd .nil aB (aa (pv 6) ae))))
   (ag (cU PassesOwn.never rfl (fW K rfl (aY (BR K rfl) (pv 4) (aZ ai) bE)) (aR (i:=8) bZ.nd rfl (Or.inl rfl)) (aj (cU PassesOwn.never rfl (ky K rfl (bO (aa (pv 8) (aa (ak bC (hr.mono (by decide)) rfl T.gY.mg T.gY.fn.kp T.gY.bd .nil aB (aa (pv 8) ae)) ae)))) (aR (i:=9) bZ.nd rfl (Or.inl rfl)) (ag (ao (i:=10) bZ.nd rfl (Or.inl rfl) (ak bB (hr.mono (by decide)) rfl T.dY.mg T.dY.fn.kp T.dY.bd .nil aB (aa (pv 0) (aa (az ba (aE aN rfl T.z_len X_ (aa (pv 7) ae)) ai) ae))))
   (aj (ao (i:=7) bZ.nd rfl (Or.inl rfl) (az bX (az bX (aY fU (pv 7) bE (aZ (pv 10))) (pv 9)) (aY fU (pv 7) (aZ (pv 10)) bE))))))))
   (ag (ao (i:=10) bZ.nd rfl (Or.inl rfl) (ak bB (hr.mono (by decide)) rfl T.dY.mg T.dY.fn.kp T.dY.bd .nil aB (aa (pv 0) (aa (aE aN rfl T.z_len X_ (aa (pv 7) ae)) ae))))
   (aj (aH (bO (aa (az bX (aY fU (pv 7) (aZ (pv 10)) bE) (aY fU (pv 7) bE (aZ (pv 10)))) (aa (pv 5) (aa (pv 6) ae)))))))))))),?_⟩
 obtain ⟨b,rfl,hb,q⟩:=h
 have hs:(100000:Nat)<sizeLine:=by decide
 have W3:aL.length=26:=rfl
 have sc: ∀a∈aL,ar a∉aL:=by decide+kernel
 refine ⟨aL,rfl,by rw[W3];omega,fun L0 nL=>?_⟩
 have Lb:=hb.ne nL
 have xj:=hb.fX (o:= .lst (cf aL)) Lb
 have Ug:upd H L0 (.lst (cf aL)) L0=some (.lst (cf aL)):=ah
 have s1:aW b H (upd H L0 (.lst (cf aL))):=aW.of (aq.upd nL)
 generalize upd H L0 (.lst (cf aL))=H1 at xj Ug s1 ⊢
 refine ⟨_,rfl,_,rfl,_,rfl,_,rfl,_,_,rfl,rfl,_,_,rfl,rfl,b,_,rfl,xj,by decide,by decide,fun r H2 hr lr s2=>?_⟩
 have Sa:r<3:=by omega
 refine ⟨_,_,rfl,rfl,_,rfl,by omega,by omega,?_⟩
 rw[show ((2:Int)+(r:Int)).toNat=r+2 by omega]
 refine n_ (fun i acc H'=> ∃(L M:List Nat),acc=cf M/\M.length=i/\H' L0=some (.lst (cf L))/\L.length+i=26/\(M++L).Perm aL/\cu H' b/\aW b H H') (by omega) ⟨aL,[],rfl,rfl,s2 _ _ Ug Lb,rfl,Qba _,lr,s1.trans s2⟩ ?_ ?_
 ·rintro i acc H3 Nx hi uh ⟨L,M,rfl,ml,Qf,ll,pm,nH,s3⟩ nx
  refine ⟨⟨rfl,rfl,trivial⟩,dk ?_⟩
  refine ⟨_,rfl, .inl ⟨rfl,_,bN.of Qf⟩,_,rfl,_,rfl,L0,_,rfl, .inl (bN.of Qf),b,_,rfl,nH,by rw[aU];omega,by rw[aU];omega,fun k H4 hk x8 s4=>?_⟩
  rw[aU]at hk
  have A_:k<L.length:=by omega
  have W4:=s4 _ _ Qf Lb
  refine ⟨L0,_,_,k,_,rfl,rfl,W4,by omega,by omega,Ht (by rw[aU];exact A_),xo A_,?_⟩
  rw[lO]
  refine nx _ _ (by rw[KW];simpa using uh) ⟨L.eraseIdx k,M++[L[k]],by rw[cQ],by rw[KW,ml];rfl,ah,by rw[List.length_eraseIdx_of_lt A_];omega,?_,x8.fX Lb,(s3.trans s4).fX nL⟩
  rw[Y5]
  exact ((hJ (IM A_)).append_left M).trans pm
 ·rintro acc H3 D uh ⟨L,M,rfl,ml,Qf,ll,pm,nH,s3⟩ hD
  have Db:=nH.ne hD
  have nd:M.Nodup:=(YZ.mp (pm.nodup_iff.mpr qM)).1
  have sm: ∀c∈M,c∈aL:=fun c hc=>pm.mem_iff.mp (Zc _ hc)
  have Qg:upd H3 D (.lst (cf M)) D=some (.lst (cf M)):=ah
  have x8:=nH.fX (o:= .lst (cf M)) Db
  have s4:=s3.after (aq.upd (o:= .lst (cf M)) hD)
  generalize upd H3 D (.lst (cf M))=H4 at Qg x8 s4 ⊢
  obtain ⟨x,y,N,rfl⟩: ∃x y N,M=x::y::N:=by
   match M,ml with
   | x::y::N,_=>exact ⟨x,y,N,rfl⟩
  have nl:N.length=r:=by simp at ml;exact ml
  have x1:=sm x Vj
  have y1:=sm y (SX _ Vj)
  have lx:Lt x:= .inl x1
  have ly:Lt y:= .inl y1
  have xy:x≠y:=fun g=>by
   have:=(Yw.mp nd).1
   exact this (by rw[g];exact Vj)
  have ax:lq (cf (x::y::N)) (0:Int)=some (.str (S [x])):=ck (j:=0) rfl
  have ay:lq (cf (x::y::N)) (1:Int)=some (.str (S [y])):=ck (j:=1) rfl
  refine ⟨_,rfl,D,_,_,_,rfl,rfl,bN.of Qg,ax,_,rfl,D,_,_,_,rfl,rfl,bN.of Qg,ay,_,_,rfl,?_⟩
  refine ⟨_,rfl,_,rfl,_,_,rfl,rfl,by show 1+1<=sizeLine;decide,_,rfl,x,rfl,lx,_,_,rfl,rfl,by show 2+1<=sizeLine;decide,_,rfl,y,rfl,ly,_,_,rfl,rfl,by show 3+1<=sizeLine;decide,?_⟩
  have y4:Yd [x,y,ar x,ar y]:=by
   have n2:x≠ar y:=fun g=>sc y y1 (by rw[<-g];exact x1)
   have n3:y≠ar x:=fun g=>sc x x1 (by rw[<-g];exact y1)
   have n4:ar x≠ar y:=fun g=>xy (dI lx ly g)
   have n5:=fE lx
   have n6:=fE ly
   refine ⟨?_,fun a ha=>?_,fun a ha=>?_⟩
   ·simp only[Yw,Vi,Yl,or_false,not_or,Z_,and_true,not_false_eq_true]
    exact ⟨⟨xy,Ne.symm n5,n2⟩,⟨n3,Ne.symm n6⟩,n4⟩
   ·simp only[Vi,Yl,or_false]at ha
    rcases ha with g | g | g | g<;>rw[g]
    ·exact lx
    ·exact ly
    ·exact lx.ar
    ·exact ly.ar
   ·simp only[Vi,Yl,or_false]at ha ⊢
    rcases ha with g | g | g | g<;>rw[g]
    ·exact .inr (.inr (.inl rfl))
    ·exact .inr (.inr (.inr rfl))
    ·exact .inl (aF lx)
    ·exact .inr (.inl (aF ly))
  show MB _ _ _ [some (.ref b),some (.int 2),some (.int 4),some (.ref L0),some (.ref D),some (.str (S [x])),some (.str (S [y])),some (.str (S [x,y,ar x,ar y])),none,none,none] H4
  refine ⟨_,rfl,_,rfl,D,_,rfl,bN.of Qg,fun p2 n2=>?_⟩
  have ec:rM (cf (x::y::N)) (some 2) none=cf N:=by
   show cut (cf (x::y::N)) (some ((2:Nat):Int)) none=_
   rw[b9]
   rfl
  rw[ec]
  have Uh:=x8.ne n2
  have vX:upd H4 p2 (.lst (cf N)) p2=some (.lst (cf N)):=ah
  have Ui:=x8.fX (o:= .lst (cf N)) Uh
  have s5:=s4.after (aq.upd (o:= .lst (cf N)) n2)
  generalize upd H4 p2 (.lst (cf N))=H5 at vX Ui s5 ⊢
  refine ⟨p2,rfl,⟨_,bN.of vX⟩,?_⟩
  refine iN (K:=K) (a:=p2) (xs:=cf N) (fun i σ H'=> ∃(z:List Nat) (v8 v9 v10:Option V),σ=[some (.ref b),some (.int 2),some (.int 4),some (.ref L0),some (.ref D),some (.str (S [x])),some (.str (S [y])),some (.str (S z)),v8,v9,v10]/\Yd z/\z.length=4+2*i/\x∈z/\y∈z/\(∀c∈z,c∈x::y::N.take i\/ar c∈x::y::N.take i)/\H' p2=some (.lst (cf N))/\cu H' b/\aW b H H') ⟨[x,y,ar x,ar y],none,none,none,rfl,y4,rfl,Vj,SX _ Vj,fun c hc=>?_,vX,Ui,s5⟩ (fun i σ H' _ h=>by obtain ⟨_,_,_,_,_,_,_,_,_,_,g,_⟩:=h;exact bN.of g) ?_ ?_
  ·simp only[Vi,Yl,or_false]at hc
   rcases hc with g | g | g | g<;>rw[g]
   ·exact .inl Vj
   ·exact .inl (SX _ Vj)
   ·right;rw[aF lx];exact Vj
   ·right;rw[aF ly];exact SX _ Vj
  ·rintro i e σ H6 he ⟨z,v8,v9,v10,rfl,hz,zl,xz,yz,Sf,Gy,Qh,s6⟩
   obtain ⟨c,hc,rfl⟩:=fO he
   have xR:=(IQ.mp hc).1
   have c1:=sm c (SX _ (SX _ (Ya hc)))
   have lc:Lt c:= .inl c1
   have cN:c∉x::y::N.take i:=by
    have hp:(x::y::N.take i).Sublist (x::y::N):=((Qbp i N).cons₂ y).cons₂ x
    have RQ:(x::y::N.take i++[c]).Nodup:=by
     refine nd.sublist ?_
     have:x::y::N.take i++[c]=x::y::N.take (i+1):=by rw[<-take_snoc hc];rfl
     rw[this]
     exact ((Qbp _ N).cons₂ y).cons₂ x
    intro g
    exact (YZ.mp RQ).2.2 c g c Vj rfl
   have c2:c∉z:=fun g=>(Sf c g).elim cN fun k=>by
    have:ar c∈aL:=sm _ (by
     rcases Vi.mp k with k | k
     ·rw[k];exact Vj
     ·rcases Vi.mp k with k | k
      ·rw[k];exact SX _ Vj
      ·exact SX _ (SX _ (Zm k)))
    exact sc c c1 this
   have c3:ar c∉z:=fun g=>c2 (by have:=hz.cl _ g;rwa [aF lc]at this)
   refine ⟨_,rfl,_,rfl,c,rfl,lc,by show 2<=sizeLine;decide,fun T nT=>?_⟩
   have Tb:=Qh.ne nT
   have hT:upd H6 T (.tup [.str (S [c]), .str (S [ar c])]) T=some (.tup [.str (S [c]), .str (S [ar c])]):=ah
   have OC:=Qh.fX (o:= .tup [.str (S [c]), .str (S [ar c])]) Tb
   have s7:=s6.after (aq.upd (o:= .tup [.str (S [c]), .str (S [ar c])]) nT)
   have Uj:=(aq.upd (o:= .tup [.str (S [c]), .str (S [ar c])]) nT) _ _ Gy
   generalize upd H6 T (.tup [.str (S [c]), .str (S [ar c])])=H7 at hT OC s7 Uj ⊢
   refine ⟨T,rfl,⟨_,b_.of hT⟩,?_⟩
   refine yp (K:=K) (a:=T) (xs:=[.str (S [c]), .str (S [ar c])]) (fun j σ H'=> ∃(z':List Nat) (v9 v10:Option V),σ=[some (.ref b),some (.int 2),some (.int 4),some (.ref L0),some (.ref D),some (.str (S [x])),some (.str (S [y])),some (.str (S z')),some (.str (S [c])),v9,v10]/\z'.Perm ([c,ar c].take j++z)/\H' T=some (.tup [.str (S [c]), .str (S [ar c])])/\H' p2=some (.lst (cf N))/\cu H' b/\aW b H H') ⟨z,_,_,rfl,Qba _,hT,Uj,OC,s7⟩ (fun i σ H' _ h=>by obtain ⟨_,_,_,_,_,g,_⟩:=h;exact b_.of g) ?_ ?_
   ·rintro j e σ H8 he ⟨z',v9,v10,rfl,pz,Uk,Mj,Sg,s8⟩
    obtain ⟨e,rfl,et⟩: ∃d,e= .str (S [d])/\[c,ar c].take (j+1)=[c,ar c].take j++[d]:=by
     match j,he with
     | 0,he=>cases he;exact ⟨c,rfl,rfl⟩
     | 1,he=>cases he;exact ⟨ar c,rfl,rfl⟩
    have XT:z'.length<=20:=by
     have:=pz.length_eq
     rw[KW,Xw]at this
     have h2:[c,ar c].length=2:=rfl
     omega
    refine ⟨_,rfl,_,rfl,z',rfl,by omega,_,_,rfl,rfl,b,_,rfl,Sg,by omega,by omega,fun k H9 hk W5 s9=>?_⟩
    have Bh:(cut z' none (some (k:Int))).length+[e].length<=sizeLine:=by rw[bU,Xw];show _+1<=_;omega
    have vV:(cut z' none (some (k:Int))++[e]).length+(cut z' (some (k:Int)) none).length<=sizeLine:=by rw[bU,b9,KW,Yc,Xw];show _+1+_<=_;omega
    refine ⟨_,rfl,_,rfl,_,rfl,z',rfl,by omega,_,rfl,_,_,rfl,rfl,Bh,_,rfl,_,rfl,_,rfl,z',rfl,by omega,_,_,rfl,rfl,vV,?_⟩
    rw[bU,b9]
    refine ⟨z'.take k++[e]++z'.drop k,_,_,rfl,?_,s9 _ _ Uk Tb,s9 _ _ Mj Uh,W5,s8.trans s9⟩
    rw[et]
    have p1:(z'.take k++[e]++z'.drop k).Perm (e::z'):=by
     rw[Y5]
     show (z'.take k++e::z'.drop k).Perm (e::z')
     refine Qby.trans ?_
     rw[YM]
    refine p1.trans ((pz.cons e).trans ?_)
    rw[Y5]
    exact Qby.symm
   ·rintro σ H8 ⟨z',v9,v10,rfl,pz,Uk,Mj,Sg,s8⟩
    have OD:z'.Perm (c::ar c::z):=pz
    have W6:Yd (c::ar c::z):=⟨by
     refine Yw.mpr ⟨fun g=>?_,Yw.mpr ⟨c3,hz.nd⟩⟩
     rcases Vi.mp g with g | g
     ·exact fE lc g.symm
     ·exact c2 g,fun a ha=>by
     rcases Vi.mp ha with g | g
     ·rw[g];exact lc
     ·rcases Vi.mp g with g | g
      ·rw[g];exact lc.ar
      ·exact hz.lt a g,fun a ha=>by
     rcases Vi.mp ha with g | g
     ·rw[g];simp
     ·rcases Vi.mp g with g | g
      ·rw[g,aF lc];simp
      ·exact SX _ (SX _ (hz.cl a g))⟩
    have Ul: ∀{d},d∈x::y::N.take i->d∈x::y::N.take (i+1):=fun {d} hd=>by
     rcases Vi.mp hd with g | g
     ·rw[g];exact Vj
     ·rcases Vi.mp g with g | g
      ·rw[g];exact SX _ Vj
      ·refine SX _ (SX _ ?_)
       rw[<-take_snoc hc]
       exact Zc _ g
    have cin:c∈x::y::N.take (i+1):=SX _ (SX _ (by rw[<-take_snoc hc];simp))
    refine ⟨z',_,_,_,rfl,W6.perm OD.symm,by rw[OD.length_eq,Ys,Ys,zl];omega,OD.mem_iff.mpr (SX _ (SX _ xz)),OD.mem_iff.mpr (SX _ (SX _ yz)),fun d hd=>?_,Mj,Sg,s8⟩
    rcases Vi.mp (OD.mem_iff.mp hd) with g | g
    ·rw[g];exact .inl cin
    ·rcases Vi.mp g with g | g
     ·rw[g,aF lc];exact .inr cin
     ·exact (Sf d g).imp Ul Ul
  ·rintro σ H6 ⟨z,v8,v9,v10,rfl,hz,zl,xz,yz,Sf,Gy,Qh,s6⟩
   rw[aU,nl]at zl
   refine ⟨_,rfl,_,rfl,z,rfl,by omega,b,_,rfl,Qh,by omega,by omega,fun k H7 hk OC s7=>?_⟩
   have hlen:(cut z (some (k:Int)) none).length+(cut z none (some (k:Int))).length<=sizeLine:=by rw[bU,b9,Yc,Xw];omega
   have yg:cut z (some (k:Int)) none++cut z none (some (k:Int))=z.drop k++z.take k:=by rw[bU,b9]
   refine ⟨_,rfl,_,rfl,_,rfl,z,rfl,by omega,_,rfl,_,rfl,_,rfl,z,rfl,by omega,_,_,rfl,rfl,hlen,?_⟩
   rw[yg]
   have T:=zE hz k
   have ul:(z.drop k++z.take k).length=z.length:=by rw[KW,Yc,Xw];omega
   have xu:=T.RE x xz
   have yu:=T.RE y yz
   have hu:=T.zd
   show G4 _ _ _ _ _
   refine ⟨_,rfl,_,rfl,by show 3<=sizeLine;decide,fun t nt=>?_⟩
   have tb:=OC.ne nt
   exact q t _ x y _ hu (by omega) (by omega) xu yu x1 y1 xy ah tb (OC.fX tb) ((s6.trans s7).after (aq.upd nt))
theorem D6:bM P w K mg base fI 2 LA L_ ["_law_box_here","_law_x","_law_y","_law_top"] (vK K):=by
 have bB:=gW (P:=P) (w:=w) (base:=base) T
 have bC:=dX (P:=P) (w:=w) (base:=base) T
 refine T.PV.fn.ok lh (fun vs H Q E h=>AY h) (fun cR A outer s H vs Q E hr h=>?_)
 refine ⟨_,(ag (ao (i:=4) lh.nd rfl (Or.inr rfl) (az ba ai (ak bB (hr.mono (by decide)) rfl T.dY.mg T.dY.fn.kp T.dY.bd .nil aB (aa (pv 0) (aa (az c_ (pv 3) ai) ae)))))
   (ag (ao (i:=5) lh.nd rfl (Or.inr rfl) (az ba ai (ak bB (hr.mono (by decide)) rfl T.dY.mg T.dY.fn.kp T.dY.bd .nil aB (aa (pv 0) (aa (az c_ (pv 4) ai) ae)))))
   (ag (ao (i:=6) lh.nd rfl (Or.inr rfl) (aV (bR K rfl) (dM (aa (pv 1) (aa (ak bC (hr.mono (by decide)) rfl T.gY.mg T.gY.fn.kp T.gY.bd .nil aB (aa (pv 1) ae)) ae))) (ak bB (hr.mono (by decide)) rfl T.dY.mg T.dY.fn.kp T.dY.bd .nil aB (aa (pv 0) (aa ai ae))) (fun _ _=>rfl)))
   (aj (aH (b8 K rfl Ye YJ YX (fg K rfl) (g7 [] (by decide+kernel)) (aa (cD ["_law_i","_law_one","_law_y","_law_few","_law_many"] [none,some 6,some 2,some 5,some 4] (fS rfl T.z_range (aa (pv 4) ae)) ⟨⟨rfl,rfl,by first | exact .inl rfl | exact .inr rfl⟩,⟨⟨rfl,rfl,by first | exact .inl rfl | exact .inr rfl⟩,⟨⟨rfl,rfl,by first | exact .inl rfl | exact .inr rfl⟩,⟨⟨rfl,rfl,by first | exact .inl rfl | exact .inr rfl⟩,trivial⟩⟩⟩⟩ (fun _ _ _ _=>(aR (i:=0) (by decide+kernel:List.Nodup (["_law_i","_law_one","_law_y","_law_few","_law_many"]:List Str)) rfl (Or.inl rfl))) (fun _ _ _ _=>eR) (fun _ _ _ _=>(aV (bR K rfl) (dM (aa (pv 1) (aa (pv 2) ae))) (cC lF rfl T.z_int boot_int (aa (dZ nM (az dF (az gw (az ba (pv 0) ai) (pv 3)) (pv 4)) (az dF (az gw (pv 0) (pv 3)) (pv 4)) (aP _)) ae)) (fun _ _=>rfl)))) ae))))))),?_⟩
 obtain ⟨b,z,x,y,rfl,hb,hz,hx,hy,x1,y1,ne,q⟩:=h
 have hs:(100000:Nat)<sizeLine:=by decide
 have lx:Lt x:= .inl x1
 have ly:Lt y:= .inl y1
 have sc: ∀a∈aL,ar a∉aL:=by decide+kernel
 refine ⟨_,rfl,_,rfl,_,_,rfl,rfl,b,_,rfl,hb,by decide,by decide,fun m0 H1 XU xj s1=>?_⟩
 have W7:m0<11:=by omega
 refine ⟨_,_,rfl,rfl,?_⟩
 refine ⟨_,rfl,_,rfl,_,_,rfl,rfl,b,_,rfl,xj,by omega,by omega,fun f0 H2 XW lr s2=>?_⟩
 refine ⟨_,_,rfl,rfl,?_⟩
 refine ⟨_,rfl,_,rfl,x,rfl,lx,by show 2<=sizeLine;decide,fun t nt=>?_⟩
 have tb:=lr.ne nt
 have ht:upd H2 t (.lst [.str (S [x]), .str (S [ar x])]) t=some (.lst [.str (S [x]), .str (S [ar x])]):=ah
 have nH:=lr.fX (o:= .lst [.str (S [x]), .str (S [ar x])]) tb
 have s3:=(s1.trans s2).after (aq.upd (o:= .lst [.str (S [x]), .str (S [ar x])]) nt)
 generalize upd H2 t (.lst [.str (S [x]), .str (S [ar x])])=H3 at ht nH s3 ⊢
 refine ⟨_,rfl,b,2,rfl,nH,by decide,by decide,fun g H4 hg x8 s4=>?_⟩
 obtain ⟨u,hu,eu⟩: ∃u,(u=x\/u=ar x)/\lq [V.str (S [x]), .str (S [ar x])] (g:Int)=some (.str (S [u])):=by
  rcases (show g=0\/g=1 by omega) with rfl | rfl
  ·exact ⟨x, .inl rfl,rfl⟩
  ·exact ⟨ar x, .inr rfl,rfl⟩
 refine ⟨t,_,_,_,rfl,rfl,bN.of (s4 _ _ ht tb),eu,?_⟩
 have Qb:=s3.trans s4
 have W8:u∈z:=hu.elim (fun g=>by rw[g];exact hx) fun g=>by rw[g];exact hz.cl x hx
 have n1:y≠ar u:=fun g=>by
  rcases hu with a | a<;>rw[a]at g
  ·exact sc x x1 (by rw[<-g];exact y1)
  ·rw[aF lx]at g;exact ne g.symm
 have n2:u≠ar y:=fun g=>n1 (by rw[g,aF ly])
 refine ⟨rfl,_,rfl,_,rfl,by omega,by omega,?_⟩
 rw[show ((2:Int)+(m0:Int)).toNat=m0+2 by omega]
 refine n_ (fun i acc H'=>aq H4 H'/\ ∃l:List Nat,acc=cf l/\l.length=i/\ ∀c∈l,c=u\/c=y) (by omega) ⟨aq.refl _,[],rfl,rfl,fun _ h=>absurd h Yl⟩ ?_ ?_
 ·rintro i acc H5 Nx hi uh ⟨s5,l,rfl,ll,hl⟩ nx
  refine ⟨⟨rfl,rfl,rfl,rfl,trivial⟩,dk ?_⟩
  refine ⟨_,rfl,_,rfl,by show 2<=sizeLine;decide,fun t2 OE=>?_⟩
  refine ⟨_,rfl,_,_,rfl,rfl,_,rfl,_,_,rfl,rfl, .inl ⟨by omega,by omega⟩,_,rfl,_,_,rfl,rfl,⟨by omega,by omega⟩,_,rfl,_,rfl,_,_,rfl,rfl, .inl ⟨by omega,by omega⟩,_,rfl,_,_,rfl,rfl,⟨by omega,by omega⟩,_,_,rfl,rfl, .inr ⟨_,rfl,?_⟩⟩
  have pick: ∀c:Bool, ∃e,(e=u\/e=y)/\lq [V.str (S [u]), .str (S [y])] (if c=true then 1 else 0)=some (.str (S [e])):=fun c=>by
   cases c with
   | true=>exact ⟨y, .inr rfl,rfl⟩
   | false=>exact ⟨u, .inl rfl,rfl⟩
  obtain ⟨e,he,ee⟩:=pick _
  refine ⟨t2,_,_,_,rfl,rfl,bN.of ah,ee,nx _ _ (by rw[KW];simpa using uh) ⟨s5.trans (aq.upd OE),l++[e],by rw[cQ],by rw[KW,ll];rfl,fun c hc=>?_⟩⟩
  rcases Yi.mp hc with k | k
  ·exact hl c k
  ·rw[Vk.mp k];exact he
 ·rintro acc H5 D uh ⟨s5,l,rfl,ll,hl⟩ hD
  refine ⟨D,l.map fun c=>[c],rfl,rfl,bN.of (by rw[ah, <-dS]),by rw[sx];omega,?_⟩
  rw[kC]
  have a5:=s5.trans (aq.upd (o:= .lst (cf l)) hD)
  exact q l _ (Kd hz W8 hy n1 n2 (fun e=>by rw[e]at ll;exact absurd ll (by simp)) hl) (by omega) (x8.same a5) (Qb.after a5)
theorem D7:bM P w K mg base fI 3 LC Mb ["_law_box_here","_law_yard_here","_law_word_here","_law_top"] (vd K):=by
 have bB:=gW (P:=P) (w:=w) (base:=base) T
 have bC:=dX (P:=P) (w:=w) (base:=base) T
 have pq:=rA (P:=P) (w:=w) (base:=base) T
 refine T.PX.fn.ok ji (fun vs H Q E h=>AD h) (fun cR A outer s H vs Q E hr h=>?_)
 refine ⟨_,(ag (ao (i:=4) ji.nd rfl (Or.inl rfl) (ak bB (hr.mono (by decide)) rfl T.dY.mg T.dY.fn.kp T.dY.bd .nil aB (aa (pv 0) (aa ai ae))))
   (ag (ao (i:=5) ji.nd rfl (Or.inl rfl) (ak bB (hr.mono (by decide)) rfl T.dY.mg T.dY.fn.kp T.dY.bd .nil aB (aa (pv 0) (aa (aE aN rfl T.z_len X_ (aa (pv 2) ae)) ae))))
   (ag (b6 (aM g9 (pv 4) ai (aP _)) (aj (aH (az bX (aY fU (pv 2) (aZ (pv 5)) bE) (aY fU (pv 2) bE (aZ (pv 5)))))) bz)
   (ag (b6 (aM g9 (pv 4) ai (aP _)) (aj (aH (b8 K rfl Ye YJ YX (fg K rfl) (g7 [] (by decide+kernel)) (aa (cD ["_law_letter"] [none] (w4 rfl T.z_reversed (aa (pv 2) ae)) trivial (fun _ _ _ _=>(aR (i:=0) (by decide+kernel:List.Nodup (["_law_letter"]:List Str)) rfl (Or.inl rfl))) (fun _ _ _ _=>eR) (fun _ _ _ _=>(ak bC (hr.mono (by decide)) rfl T.gY.mg T.gY.fn.kp T.gY.bd .nil aB (aa (pv 0) ae)))) ae)))) bz)
   (ag (b6 (aM g9 (pv 4) ai (aP _)) (ag (ao (i:=6) ji.nd rfl (Or.inl rfl) (aV g8 (pv 1) (ak bB (hr.mono (by decide)) rfl T.dY.mg T.dY.fn.kp T.dY.bd .nil aB (aa (pv 0) (aa (aE aN rfl T.z_len X_ (aa (pv 1) ae)) ae))) (fun _ _=>rfl)))
   (ag (ao (i:=7) ji.nd rfl (Or.inl rfl) (az bX (aY fU (pv 2) bE (aZ (pv 5))) (pv 6)))
   (aj (b6 (aM (yE K rfl) (pv 6) (dM (aa (ak bC (hr.mono (by decide)) rfl T.gY.mg T.gY.fn.kp T.gY.bd .nil aB (aa (aV g8 (pv 7) ai (fun _ _=>rfl)) ae)) (aa (ak bC (hr.mono (by decide)) rfl T.gY.mg T.gY.fn.kp T.gY.bd .nil aB (aa (aV g8 (aY fU (pv 7) (aZ (ka g6 ai)) bE) ai (fun _ _=>rfl)) ae)) ae))) (by with_unfolding_all rfl)) (aj (aH (pv 7))) bz)))) bz)
   (aj (aH (ak pq (hr.mono (by decide)) rfl T.Kh.mg T.Kh.fn.kp T.Kh.bd .nil aB (aa (pv 0) (aa (pv 1) (aa (pv 3) ae))))))))))),?_⟩
 obtain ⟨b,y,w,top,rfl,hb,hy,Oe,Of,Hy,Og,sw,qd,q⟩:=h
 have hs:(100000:Nat)<sizeLine:=by decide
 have Oh:y.length<=sizeLine:=by omega
 have pE:w.length<=sizeLine:=by omega
 have pU:0<w.length:=S3.mpr sw.ne
 have lw: ∀c∈w,Lt c:=fun c hc=>hy.lt c (sw.bH c hc)
 refine ⟨_,rfl,b,5,rfl,hb,by decide,by decide,fun fm H1 V9 xj s1=>?_⟩
 refine ⟨_,rfl,_,rfl,w,rfl,pE,b,_,rfl,xj,by omega,by omega,fun at' H2 XX lr s2=>?_⟩
 have ug:=s1.trans s2
 have W9:at'<w.length:=by omega
 refine ⟨_,rfl,_,_,rfl,rfl,_,rfl,cn (fun f0=>?_) (fun f0=>?_)⟩
 ·have hlen:(cut w (some (at':Int)) none).length+(cut w none (some (at':Int))).length<=sizeLine:=by rw[bU,b9,Yc,Xw];omega
  have yg:cut w (some (at':Int)) none++cut w none (some (at':Int))=w.drop at'++w.take at':=by rw[bU,b9]
  refine ⟨_,rfl,_,rfl,_,rfl,w,rfl,pE,_,rfl,_,rfl,_,rfl,w,rfl,pE,_,_,rfl,rfl,hlen,?_⟩
  rw[yg]
  exact q _ _ (sw.dm (by omega)) (by rw[KW,Yc,Xw];omega) lr ug
 ·refine ⟨_,rfl,_,_,rfl,rfl,_,rfl,cn (fun f1=>?_) (fun f1=>?_)⟩
  ·refine ⟨rfl,_,rfl,w,rfl,by omega,?_⟩
   rw[sC]
   refine gO (xs:=cf w.reverse) (fun i acc H'=>aq H2 H'/\acc=cf ((w.reverse.take i).map ar)) (by rw[aU,Yo];omega) ⟨aq.refl H2,rfl⟩ ?_ ?_
   ·rintro i x acc H3 Nx hi hx hl ⟨s3,rfl⟩ nx
    obtain ⟨c,lE,rfl⟩:=fO hx
    refine ⟨trivial,dk ⟨_,rfl,c,rfl,lw c (Zg.mp (Ya lE)),nx _ _ (by simpa using hl) ⟨s3,?_⟩⟩⟩
    rw[cQ, <-take_snoc lE,X9]
    rfl
   ·rintro acc H3 D hl ⟨s3,rfl⟩ hD
    refine ⟨D,(cG w).map fun c=>[c],rfl,rfl,bN.of ?_,?_,?_⟩
    ·rw[ah, <-dS,aU,Yn (SY _),Zt]
     rfl
    ·rw[sx]
     unfold cG
     rw[Yo,Pd]
     omega
    ·rw[kC]
     exact q _ _ (sw.cG hy) (by rw[bS];omega) ((lr.same s3).same (aq.upd hD)) (ug.after (s3.trans (aq.upd hD)))
  ·refine ⟨_,rfl,_,_,rfl,rfl,_,rfl,cn (fun f2=>?_) (fun f2=>?_)⟩
   ·refine ⟨_,rfl,_,rfl,_,rfl,y,rfl,Oh,b,_,rfl,lr,by omega,by omega,fun r H3 Sa nH s3=>?_⟩
    have Hz:=ug.trans s3
    have hr:r<y.length:=by omega
    refine ⟨y,_,_,rfl,rfl,Oh,ck (IM hr),?_⟩
    have yJ:y[r]∈y:=YA hr
    generalize y[r]=c at yJ ⊢
    have XY:=hy.lt c yJ
    have hlen:(cut w none (some (at':Int))).length+[c].length<=sizeLine:=by rw[bU,Xw];show _+1<=_;omega
    refine ⟨_,rfl,_,rfl,_,rfl,w,rfl,pE,_,rfl,_,_,rfl,rfl,hlen,?_⟩
    rw[bU]
    have Ey:(w.take at').length=at':=by rw[Xw];omega
    have OF:=sw.El.take at'
    have Ku: ∀a∈w.take at',a∈y:=fun a ha=>sw.bH a (Zm ha)
    generalize w.take at'=u at Ey OF Ku ⊢
    have Ol:(u++[c]).length=at'+1:=by rw[KW,Ey];rfl
    have OG:u++[c]≠[]:=by simp
    have Um: ∀a∈u++[c],a∈y:=fun a ha=>(Yi.mp ha).elim (Ku a) fun g=>by rw[Vk.mp g];exact yJ
    have g0:lq (u++[c]) (0:Int)=some (rd (u++[c]) 0):=kI (by omega) (by omega)
    have O8:cut (u++[c]) (some (-2)) none=(u++[c]).drop (at'+1 - 2):=by rw[Ju,Ol]
    have Si:((u++[c]).drop (at'+1 - 2)).length=at'+1 - (at'+1 - 2):=by rw[Yc,Ol]
    have OH:(u++[c]).drop (at'+1 - 2)≠[]:=fun z=>by rw[z]at Si;simp at Si;omega
    have g2:lq ((u++[c]).drop (at'+1 - 2)) (0:Int)=some (rd ((u++[c]).drop (at'+1 - 2)) 0):=kI (by omega) (by omega)
    have Uo:=Um _ (gx OG 0)
    have Up:=Um _ (ZZ (gx OH 0))
    have e0: ∀a,u.head? =some a->rd (u++[c]) 0=a:=fun a ha=>by
     have h1:=nq OG
     cases u with
     | nil=>cases ha
     | cons x r=>exact (Yg (h1.symm.trans (show (x::r++[c]).head? =some a from ha)))
    have e2: ∀a,u.getLast? =some a->rd ((u++[c]).drop (at'+1 - 2)) 0=a:=fun a ha=>by
     have h1:=nq OH
     have Jz:u≠[]:=fun z=>by rw[z]at ha;cases ha
     have zk:=S3.mpr Jz
     rw[Qax, Zb,YD (by omega)]at h1
     rw[ZL, Ey]at ha
     rw[show at'+1 - 2+0=at' - 1 by omega]at h1
     exact Yg (h1.symm.trans ha)
    generalize rd (u++[c]) 0=x0 at g0 Uo e0
    generalize rd ((u++[c]).drop (at'+1 - 2)) 0=x2 at g2 Up e2
    refine ⟨_,rfl,_,rfl,_,_,_,rfl,rfl,by omega,g0,_,rfl,hy.lt _ Uo,?_⟩
    refine ⟨_,rfl,_,rfl,_,rfl,u++[c],rfl,by omega,?_⟩
    rw[O8]
    refine ⟨_,_,_,rfl,rfl,by rw[Si];omega,g2,_,rfl,hy.lt _ Up,by show 2<=sizeLine;decide,fun p np=>?_⟩
    have Sj:=nH.ne np
    have Uq:=Hz.none np Sj
    refine ⟨p,_,rfl, .inl (bN.of ah),rfl,rfl,?_⟩
    have iv:=Fe c (ar x0) (ar x2)
    rw[show (if true=true then !Bz (.str (S [c])) [.str (S [ar x0]), .str (S [ar x2])] else Bz (.str (S [c])) [.str (S [ar x0]), .str (S [ar x2])])=!(decide (c=ar x0)||decide (c=ar x2)) by rw[if_pos rfl,iv]]
    refine ⟨_,rfl,cn (fun f3=>?_) (fun f3=>?_)⟩
    ·have hn:c≠ar x0/\c≠ar x2:=by simpa using f3
     refine ⟨_,rfl,q (u++[c]) _ (SW.snoc hy OF Ku yJ (fun a ha=>by rw[<-e2 a ha];exact hn.2) fun a ha=>by rw[<-e0 a ha];exact hn.1) (by omega) (nH.fX Sj) (Hz.fX Uq)⟩
    ·exact ⟨_,rfl,_,rfl,_,rfl,b,y,top,rfl,nH.fX Sj,hy,Oe,Of,Hy,Og,fun l H4 hl Bh x8 s4=>q l H4 hl Bh x8 ((Hz.fX Uq).trans s4)⟩
   ·exact ⟨_,rfl,_,rfl,_,rfl,b,y,top,rfl,lr,hy,Oe,Of,Hy,Og,fun l H3 hl Bh nH s3=>q l H3 hl Bh nH (ug.trans s3)⟩
theorem yh:bM P w K mg base fI 11 Lr L3 ["yard","word"] (oP K):=by
 have gh:=jk (P:=P) (w:=w) (base:=base) T
 have OI:=Kt (P:=P) (w:=w) (base:=base) T
 refine T.wc.fn.ok oZ (fun vs H Q E h=>vJ h) (fun cR A outer s H vs Q E hr h=>?_)
 refine ⟨_,(ag (ao (i:=2) oZ.nd rfl (Or.inl rfl) (ak gh (hr.mono (by decide)) rfl T.Eu.mg T.Eu.fn.kp T.Eu.bd .nil aB (aa (pv 1) ae)))
   (aj (aH (Bl (dZ BP (pv 2) (g7 [] (by decide+kernel)) (aP _)) (wg (dZ g9 (ak OI (hr.mono (by decide)) rfl T.PN.mg T.PN.fn.kp T.PN.bd .nil aB (aa (pv 0) (aa (pv 2) ae))) ai (aP _))))))),?_⟩
 obtain ⟨y,w',c,rfl,hy,hz,hc,q⟩:=h
 have hs:(100000:Nat)<sizeLine:=by decide
 have sr:=hc.sr
 refine ⟨_,rfl,w',rfl,hc.lt,by omega,fun H1 s1=>?_⟩
 rw[hc.is]
 have hn:=hc.sw.ne
 refine ⟨_,rfl,_,_,rfl,rfl,_,rfl,?_⟩
 refine Jq (by rw[decide_eq_false (show ¬c=[] from hn)];rfl) ?_
 refine ⟨_,rfl,_,rfl,y,c,rfl,hy,hz,hc.sw,hc.len,fun n H2 s2 e=>?_⟩
 refine ⟨_,_,rfl,rfl,?_⟩
 have ed:decide ((n:Int)=0)=uf y c:=by
  unfold uf
  exact decide_eq_decide.mpr ⟨fun z=>by omega,fun z=>by omega⟩
 show Q (.bl (decide ((n:Int)=0))) H2
 rw[ed]
 exact q H2 (s1.trans s2)
theorem ub:bM P w K mg base fI 10 Ls L4 ["yard","words"] (kY K):=by
 have gh:=jk (P:=P) (w:=w) (base:=base) T
 have ua:=vR (P:=P) (w:=w) (base:=base) T
 refine T.pB.fn.ok kZ (fun vs H Q E h=>p_ h) (fun cR A outer s H vs Q E hr h=>?_)
 refine ⟨_,(ag (ao (i:=2) kZ.nd rfl (Or.inl rfl) (cC (eA K rfl) rfl T.z_tuple boot_tuple (aa (cD ["word"] [none] (ky K rfl (pv 1)) trivial (fun _ _ _ _=>(aR (i:=0) (by decide+kernel:List.Nodup (["word"]:List Str)) rfl (Or.inl rfl))) (fun _ _ _ _=>eR) (fun _ _ _ _=>(ak gh (hr.mono (by decide)) rfl T.Eu.mg T.Eu.fn.kp T.Eu.bd .nil aB (aa (pv 0) ae)))) ae)))
   (aj (aH (Bl (dZ (yE K rfl) (g7 [] (by decide+kernel)) (pv 2) (by with_unfolding_all rfl)) (wg (dZ g9 (ak ua (hr.mono (by decide)) rfl T.Kg.mg T.Kg.fn.kp T.Kg.bd .nil aB (aa (pv 0) (aa (pv 2) ae))) ai (aP _))))))),?_⟩
 obtain ⟨y,wt,ws,cs,rfl,hy,hz,qd,IJ,hk,q⟩:=h
 have hs:(100000:Nat)<sizeLine:=by decide
 have key: ∀{ws cs:List (List Nat)},DP y ws cs->cs.length=ws.length/\ ∀(i:Nat) (w c:List Nat),ws[i]? =some w->cs[i]? =some c->Sh y w c:=fun {ws}=>by
  induction ws with
  | nil=>intro cs h;cases cs with
   | nil=>exact ⟨rfl,fun i w c h=>by cases h⟩
   | cons c cs=>exact absurd h id
  | cons w ws ih=>intro cs h;cases cs with
   | nil=>exact absurd h id
   | cons c cs=>
    obtain ⟨h1,h2⟩:=h
    obtain ⟨a1,a2⟩:=ih h2
    refine ⟨by rw[Ys,Ys,a1],fun i w' c' e1 e2=>?_⟩
    cases i with
    | zero=>cases e1;cases e2;exact h1
    | succ i=>exact a2 i w' c' e1 e2
 obtain ⟨hl,QY⟩:=key IJ
 have sr:=hk.sr
 refine ⟨_,rfl,wt,rfl,⟨_,b_.of qd⟩,?_⟩
 refine oe (K:=K) (a:=wt) (xs:=eB ws) (fun i acc H'=>aq H H'/\acc=eB (cs.take i)) (by rw[cY];omega) (fun i acc H' h=>b_.of (h.1 _ _ qd)) ⟨aq.refl _,rfl⟩ ?_ ?_
 ·rintro i x acc H1 Nx hi hx uh ⟨s1,rfl⟩ nx
  have hj:i<ws.length:=by rw[cY]at hi;exact hi
  have Ur:i<cs.length:=by rw[hl];exact hj
  rw[lQ hj]at hx
  cases hx
  have sh:=QY i ws[i] cs[i] (IM hj) (IM Ur)
  have fw:=sh.sr
  refine ⟨trivial,dk ⟨_,rfl,_,rfl,sh.lt,by omega,fun H2 s2=>?_⟩⟩
  rw[sh.is]
  refine nx _ _ (by simpa using uh) ⟨s1.trans s2,?_⟩
  rw[List.take_succ,IM Ur]
  exact Cf _ _
 ·rintro acc H1 D uh ⟨s1,rfl⟩ hD
  rw[cY,Yn (by omega)]
  have Ml:upd H1 D (.lst (eB cs)) D=some (.lst (eB cs)):=ah
  have s2:=s1.trans (aq.upd (o:= .lst (eB cs)) hD)
  generalize upd H1 D (.lst (eB cs))=H2 at Ml s2 ⊢
  refine ⟨D,eB cs,rfl, .inl ⟨bN.of Ml,fun u nu=>?_⟩⟩
  have hu:upd H2 u (.tup (eB cs)) u=some (.tup (eB cs)):=ah
  have s3:=s2.trans (aq.upd (o:= .tup (eB cs)) nu)
  generalize upd H2 u (.tup (eB cs))=H3 at hu s3 ⊢
  have fl:(eB cs).all kg=true:=Qal.mpr fun x hx=>by
   obtain ⟨z,_,rfl⟩:=Yp.mp hx
   rfl
  have no:Bz (.str (S [])) (eB cs)=false:=by
   rw[DQ]
   exact decide_eq_false fun g=>(hk.sw _ g).1.ne rfl
  refine ⟨_,rfl,u,_,rfl, .inr (b_.of hu),rfl,fl,_,rfl,Jq (by rw[no];rfl) ?_⟩
  refine ⟨_,rfl,_,rfl,y,u,cs,rfl,hy,hz,hk,hu,fun n H4 s4 e=>?_⟩
  refine ⟨_,_,rfl,rfl,?_⟩
  have ed:decide ((n:Int)=0)=vI y cs:=by
   unfold vI
   exact decide_eq_decide.mpr ⟨fun z=>by omega,fun z=>by omega⟩
  show Q (.bl (decide ((n:Int)=0))) H4
  rw[ed]
  exact q H4 (s3.trans s4)
theorem A7:bM P w K mg base fI 2 LD Mc ["_law_word_here"] (qQ K):=by
 have bC:=dX (P:=P) (w:=w) (base:=base) T
 refine T.Ki.fn.ok A0 (fun vs H Q E h=>xq h) (fun cR A outer s H vs Q E hr h=>?_)
 refine ⟨_,(aj (aH (b8 K rfl Ye YJ YX (fg K rfl) (g7 [] (by decide+kernel)) (aa (cD ["_law_letter"] [none] (w4 rfl T.z_reversed (aa (pv 0) ae)) trivial (fun _ _ _ _=>(aR (i:=0) (by decide+kernel:List.Nodup (["_law_letter"]:List Str)) rfl (Or.inl rfl))) (fun _ _ _ _=>eR) (fun _ _ _ _=>(ak bC (hr.mono (by decide)) rfl T.gY.mg T.gY.fn.kp T.gY.bd .nil aB (aa (pv 0) ae)))) ae)))),?_⟩
 obtain ⟨l,rfl,hc,hz,q⟩:=h
 have hs:(1000:Nat)<sizeLine:=by decide
 refine ⟨rfl,_,rfl,l,rfl,by omega,?_⟩
 rw[sC]
 refine gO (xs:=cf l.reverse) (fun i acc H'=>aq H H'/\acc=cf ((l.reverse.take i).map ar)) (by rw[aU,Yo];omega) ⟨aq.refl H,rfl⟩ ?_ ?_
 ·rintro i x acc H1 Nx hi hx hl ⟨s1,rfl⟩ nx
  obtain ⟨c,lE,rfl⟩:=fO hx
  refine ⟨trivial,dk ⟨_,rfl,c,rfl,hc c (Zg.mp (Ya lE)),nx _ _ (by simpa using hl) ⟨s1,?_⟩⟩⟩
  rw[cQ, <-take_snoc lE,X9]
  rfl
 ·rintro acc H1 D hl ⟨s1,rfl⟩ hD
  refine ⟨D,(cG l).map fun c=>[c],rfl,rfl,bN.of ?_,?_,?_⟩
  ·rw[ah, <-dS,aU,Yn (SY _),Zt]
   rfl
  ·rw[sx]
   unfold cG
   rw[Yo,Pd]
   omega
  ·rw[kC]
   exact q _ (s1.trans (aq.upd hD))
theorem Kv:bM P w K mg base fI 12 LG Me ["_law_script"] (lI K):=by
 have Kw:=GC (P:=P) (w:=w) (base:=base) T
 have GF:=D5 (P:=P) (w:=w) (base:=base) T
 have pq:=rA (P:=P) (w:=w) (base:=base) T
 have bB:=gW (P:=P) (w:=w) (base:=base) T
 have yi:=vS (P:=P) (w:=w) (base:=base) T
 have GG:=D6 (P:=P) (w:=w) (base:=base) T
 have GH:=D7 (P:=P) (w:=w) (base:=base) T
 have bC:=dX (P:=P) (w:=w) (base:=base) T
 have gX:=yh (P:=P) (w:=w) (base:=base) T
 have dj:=ub (P:=P) (w:=w) (base:=base) T
 have vT:=A7 (P:=P) (w:=w) (base:=base) T
 have iq:=qk (P:=P) (w:=w) (base:=base) T
 refine T.V8.fn.ok cW (fun vs H Q E h=>Ft h) (fun cR A outer s H vs Q E hr h=>?_)
 refine ⟨_,(ag (cU PassesOwn.never rfl (fS rfl T.z_range (aa ai ae)) (aR (i:=1) cW.nd rfl (Or.inl rfl)) (ag (ao (i:=2) cW.nd rfl (Or.inl rfl) (ak Kw (hr.mono (by decide)) rfl T.PQ.mg T.PQ.fn.kp T.PQ.bd .nil aB (aa (pv 0) (aa (pv 1) ae))))
   (ag (ao (i:=3) cW.nd rfl (Or.inl rfl) (ak GF (hr.mono (by decide)) rfl T.PR.mg T.PR.fn.kp T.PR.bd .nil aB (aa (pv 2) (aa ai (aa ai ae)))))
   (ag (ao (i:=4) cW.nd rfl (Or.inr rfl) (ak pq (hr.mono (by decide)) rfl T.Kh.mg T.Kh.fn.kp T.Kh.bd .nil aB (aa (pv 2) (aa (pv 3) (aa ai ae)))))
   (g_ (b6 (aM g9 (ak bB (hr.mono (by decide)) rfl T.dY.mg T.dY.fn.kp T.dY.bd .nil aB (aa (pv 2) (aa ai ae))) ai (aP _)) (ag (wj (ak yi (hr.mono (by decide)) rfl T.PU.mg T.PU.fn.kp T.PU.bd .nil aB (aa (pv 2) (aa ai (aa ai ae)))) (kz (n:=3) K rfl rfl (cZ (aR (i:=3) cW.nd rfl (Or.inl rfl)) (cZ (aR (i:=5) cW.nd rfl (Or.inl rfl)) (cZ (aR (i:=6) cW.nd rfl (Or.inl rfl)) j_)))))
   (aj (ao (i:=4) cW.nd rfl (Or.inr rfl) (ak GG (hr.mono (by decide)) rfl T.PV.mg T.PV.fn.kp T.PV.bd .nil aB (aa (pv 2) (aa (pv 5) (aa (pv 6) (aa ai ae)))))))) bz)
   (ag (ao (i:=7) cW.nd rfl (Or.inr rfl) (ak GH (hr.mono (by decide)) rfl T.PX.mg T.PX.fn.kp T.PX.bd .nil aB (aa (pv 2) (aa (pv 3) (aa (pv 4) (aa ai ae))))))
   (ag (wm (i:=8) (j:=9) rfl cW.nd rfl rfl (by decide) rfl rfl (aa (ak bB (hr.mono (by decide)) rfl T.dY.mg T.dY.fn.kp T.dY.bd .nil aB (aa (pv 2) (aa (aE aN rfl T.z_len X_ (aa (pv 4) ae)) ae))) (aa (ak bB (hr.mono (by decide)) rfl T.dY.mg T.dY.fn.kp T.dY.bd .nil aB (aa (pv 2) (aa (aE aN rfl T.z_len X_ (aa (pv 3) ae)) ae))) ae)) rfl)
   (ag (ao (i:=10) cW.nd rfl (Or.inl rfl) (aV g8 (pv 3) (ak bB (hr.mono (by decide)) rfl T.dY.mg T.dY.fn.kp T.dY.bd .nil aB (aa (pv 2) (aa (aE aN rfl T.z_len X_ (aa (pv 3) ae)) ae))) (fun _ _=>rfl)))
   (ag (ao (i:=11) cW.nd rfl (Or.inl rfl) (az bX (az bX (az bX (aY fU (pv 4) bE (aZ (pv 8))) (pv 10)) (ak bC (hr.mono (by decide)) rfl T.gY.mg T.gY.fn.kp T.gY.bd .nil aB (aa (pv 10) ae))) (aY fU (pv 4) (aZ (pv 8)) bE)))
   (ag (ao (i:=12) cW.nd rfl (Or.inl rfl) (bO (aa (ak gX (hr.mono (by decide)) rfl T.wc.mg T.wc.fn.kp T.wc.bd .nil aB (aa (pv 3) (aa (pv 4) ae))) (aa (ak dj (hr.mono (by decide)) rfl T.pB.mg T.pB.fn.kp T.pB.bd .nil aB (aa (pv 3) (aa (bO (aa (pv 4) (aa (pv 7) ae))) ae))) ae))))
   (ag (cU PassesOwn.never rfl (ky K rfl (bO (aa (ak vT (hr.mono (by decide)) rfl T.Ki.mg T.Ki.fn.kp T.Ki.bd .nil aB (aa (pv 4) ae)) (aa (az bX (aY fU (pv 4) (aZ (pv 8)) bE) (aY fU (pv 4) bE (aZ (pv 8)))) (aa (Jo (aY fU (pv 11) bE (aZ (az gw ai (cC lF rfl T.z_int boot_int (aa (dZ kc (aE aN rfl T.z_len X_ (aa (pv 4) ae)) ai (aP _)) ae))))) (wg (pv 4))) ae))))) (aR (i:=13) cW.nd rfl (Or.inl rfl)) (aj (b6 (aM (w5 K rfl hr) (bO (aa (ak gX (hr.mono (by decide)) rfl T.wc.mg T.wc.fn.kp T.wc.bd .nil aB (aa (pv 3) (aa (pv 13) ae))) (aa (ak dj (hr.mono (by decide)) rfl T.pB.mg T.pB.fn.kp T.pB.bd .nil aB (aa (pv 3) (aa (bO (aa (pv 13) (aa (pv 7) ae))) ae))) (aa (ak dj (hr.mono (by decide)) rfl T.pB.mg T.pB.fn.kp T.pB.bd .nil aB (aa (pv 3) (aa (bO (aa (pv 7) (aa (pv 13) ae))) ae))) ae)))) (az (BZ K rfl) (pv 12) (aY (yK K rfl) (pv 12) (aZ ai) bE)) (aP _)) (aj (aH qm)) bz)))
   (ag (ao (i:=14) cW.nd rfl (Or.inl rfl) (dM (aa (az bX (aY fU (pv 3) (aZ (pv 9)) bE) (aY fU (pv 3) bE (aZ (pv 9)))) (aa (xk rfl (g7 [] (by decide+kernel)) rfl T.z_reversed (aa (pv 3) ae)) ae))))
   (ag (b6 (aM (w5 K rfl hr) (cD ["_law_one","_law_word_here","_law_other_here"] [none,some 4,some 7] (fW K rfl (pv 14)) ⟨⟨rfl,rfl,by first | exact .inl rfl | exact .inr rfl⟩,⟨⟨rfl,rfl,by first | exact .inl rfl | exact .inr rfl⟩,trivial⟩⟩ (fun _ _ _ _=>(aR (i:=0) (by decide+kernel:List.Nodup (["_law_one","_law_word_here","_law_other_here"]:List Str)) rfl (Or.inl rfl))) (fun _ _ _ _=>eR) (fun _ _ _ _=>(bO (aa (ak gX (hr.mono (by decide)) rfl T.wc.mg T.wc.fn.kp T.wc.bd .nil aB (aa (pv 0) (aa (pv 1) ae))) (aa (ak dj (hr.mono (by decide)) rfl T.pB.mg T.pB.fn.kp T.pB.bd .nil aB (aa (pv 0) (aa (bO (aa (pv 1) (aa (pv 2) ae))) ae))) ae))))) (dM (aa (pv 12) (aa (pv 12) ae))) (aP _)) (aj (aH qm)) bz)
   (ag (wm (i:=15) (j:=16) rfl cW.nd rfl rfl (by decide) rfl rfl (aa (ak iq (hr.mono (by decide)) rfl T.Ex.mg T.Ex.fn.kp T.Ex.bd .nil aB (aa (pv 3) ae)) (aa (bO (aa (ak iq (hr.mono (by decide)) rfl T.Ex.mg T.Ex.fn.kp T.Ex.bd .nil aB (aa (pv 4) ae)) (aa (ak iq (hr.mono (by decide)) rfl T.Ex.mg T.Ex.fn.kp T.Ex.bd .nil aB (aa (pv 7) ae)) ae))) ae)) rfl)
   (ag (b6 (aM (w5 K rfl hr) (bO (aa (ak gX (hr.mono (by decide)) rfl T.wc.mg T.wc.fn.kp T.wc.bd .nil aB (aa (pv 15) (aa (aV (bA K rfl) (pv 16) ai (fun _ _=>rfl)) ae))) (aa (ak dj (hr.mono (by decide)) rfl T.pB.mg T.pB.fn.kp T.pB.bd .nil aB (aa (pv 15) (aa (pv 16) ae))) ae))) (pv 12) (aP _)) (aj (aH qm)) bz)
   (ag (ao (i:=17) cW.nd rfl (Or.inl rfl) (bO (aa (pv 4) (aa (ak vT (hr.mono (by decide)) rfl T.Ki.mg T.Ki.fn.kp T.Ki.bd .nil aB (aa (pv 4) ae)) ae))))
   (ag (b6 (PW.pt (GV (aM BQ (ak dj (hr.mono (by decide)) rfl T.pB.mg T.pB.fn.kp T.pB.bd .nil aB (aa (pv 3) (aa (aY (yK K rfl) (pv 17) bE (aZ ai)) ae))) (aV (bA K rfl) (pv 12) ai (fun _ _=>rfl)) (aP _)) (Bk (aM BQ (ak dj (hr.mono (by decide)) rfl T.pB.mg T.pB.fn.kp T.pB.bd .nil aB (aa (pv 3) (aa (pv 17) ae))) (aV (bA K rfl) (pv 12) ai (fun _ _=>rfl)) (aP _))))) (aj (aH qm)) bz)
   (aj (b6 (PW.pt (iK (aM kc (aE aN rfl T.z_len X_ (aa (pv 4) ae)) ai (aP _)) (gZ (jN (ak gX (hr.mono (by decide)) rfl T.wc.mg T.wc.fn.kp T.wc.bd .nil aB (aa (pv 3) (aa (az bX (pv 4) (pv 4)) ae))))))) (aj (aH qm)) bz)))))))))))))))))))
   (aj (aH qm))),?_⟩
 obtain ⟨a,ns,rfl,hS,hl,q⟩:=h
 have hs:(100000:Nat)<sizeLine:=by decide
 refine ⟨_,rfl,by decide,by decide,?_⟩
 refine gM (n:=2) (fun i σ H'=> ∃v1 v2 v3 v4 v5 v6 v7 v8 v9 v10 v11 Kx Mm OJ OK OL OM:Option V,σ=[some (.ref a),v1,v2,v3,v4,v5,v6,v7,v8,v9,v10,v11,Kx,Mm,OJ,OK,OL,OM]/\aq H H') ⟨none,none,none,none,none,none,none,none,none,none,none,none,none,none,none,none,none,rfl,aq.refl _⟩ ?_ ?_
 ·rintro i σ H2 hi ⟨v1,v2,v3,v4,v5,v6,v7,v8,v9,v10,v11,Kx,Mm,OJ,OK,OL,OM,rfl,s2⟩
  refine ⟨_,rfl,_,rfl,a,ns,i,by rw[Zo];rfl,s2.seq hS,by omega,fun b H3 nb bx s3=>?_⟩
  refine ⟨_,rfl,b,1,4,rfl,bx,by decide,by decide,by decide,fun y0 H4 Sk Oe Of Us s4=>?_⟩
  refine ⟨_,rfl,_,rfl,b,y0,12,rfl,Us,Sk,by omega,by omega,by decide,by decide,fun w0 H5 Ut Uu Uv s5=>?_⟩
  refine ⟨fun σ H'=> ∃(y w:List Nat) (v5 v6:Option V),σ=[some (.ref a),some (.int (0+(i:Int))),some (.ref b),some (.str (S y)),some (.str (S w)),v5,v6,v7,v8,v9,v10,v11,Kx,Mm,OJ,OK,OL,OM]/\Yd y/\2<=y.length/\y.length<=8/\SW y w/\w.length<=12/\cu H' b/\aW b H3 H',?_,?_⟩
  ·refine ⟨_,rfl,b,2,rfl,Uv,by decide,by decide,fun g H6 hg ON s6=>?_⟩
   refine ⟨_,_,rfl,rfl,_,rfl,cn (fun z=>?_) (fun z=>?_)⟩
   ·refine ⟨_,rfl,b,rfl,ON,fun t z x y H7 hz z4 z8 xz yz x1 y1 xy ht tb Qi s7=>?_⟩
    refine ⟨t,_,rfl,b_.of ht,rfl,_,_,rfl,_,_,rfl,_,_,rfl,rfl,?_⟩
    refine ⟨_,rfl,_,rfl,_,rfl,b,z,x,y,rfl,Qi,hz,xz,yz,x1,y1,xy,fun w H8 sw wl Qj s8=>?_⟩
    exact ⟨z,w,_,_,rfl,hz,by omega,z8,sw,wl,Qj,s4.trans (s5.trans (s6.trans (s7.trans s8)))⟩
   ·exact ⟨y0,w0,_,_,rfl,Sk,by omega,by omega,Ut,Uu,ON,s4.trans (s5.trans s6)⟩
  rintro σ H6 ⟨y,w',v5,v6,rfl,hy,y2,y8,sw,wl,ON,s6⟩
  clear Ut Uu Us Uv s4 s5 Sk Oe Of
  have pw:=S3.mpr sw.ne
  refine ⟨_,rfl,_,rfl,_,rfl,b,y,w',12,rfl,ON,hy,y2,y8,by decide,by decide,sw,wl,fun v H7 sv vl Qi s7=>?_⟩
  refine ⟨_,rfl,_,rfl,w',rfl,by omega,b,_,rfl,Qi,by omega,by omega,fun k H8 hk Qj s8=>?_⟩
  refine ⟨_,rfl,_,rfl,y,rfl,by omega,b,_,rfl,Qj,by omega,by omega,fun sp H9 EL Uw s9=>?_⟩
  refine ⟨_,_,rfl,?_⟩
  refine ⟨_,rfl,_,rfl,_,rfl,y,rfl,by omega,b,_,rfl,Uw,by omega,by omega,fun r XZ hr Sl Ux=>?_⟩
  have Uy:r<y.length:=by omega
  have A_:k<=w'.length:=by omega
  refine ⟨y,_,_,rfl,rfl,by omega,ck (IM Uy),?_⟩
  have xy:=YA Uy
  generalize y[r]=x at xy ⊢
  have lx:=hy.lt x xy
  have Bh:(cut w' none (some (k:Int))).length+[x].length<=sizeLine:=by rw[bU,Xw];show _+1<=_;omega
  have vV:(cut w' none (some (k:Int))++[x]).length+[ar x].length<=sizeLine:=by rw[bU,KW,Xw];show _+1+1<=_;omega
  have W_:(cut w' none (some (k:Int))++[x]++[ar x]).length+(cut w' (some (k:Int)) none).length<=sizeLine:=by rw[bU,b9,KW,KW,Xw,Yc];show _+1+1+_<=_;omega
  refine ⟨_,rfl,_,rfl,_,rfl,w',rfl,by omega,_,rfl,_,_,rfl,rfl,Bh,_,rfl,x,rfl,lx,_,_,rfl,rfl,vV,_,rfl,_,rfl,_,rfl,w',rfl,by omega,_,_,rfl,rfl,W_,?_⟩
  rw[bU,b9]
  have big:=Sh.big (k:=k) hy sw wl xy
  have bl:(w'.take k++[x]++[ar x]++w'.drop k).length=w'.length+2:=by
   rw[KW,KW,KW,Xw,Yc]
   show _+1+1+_=_
   omega
  generalize w'.take k++[x]++[ar x]++w'.drop k=bg at big bl ⊢
  have HF:=Sh.of hy sw wl
  have Qk:=Sh.of hy sv vl
  have OO:=s6.trans (s7.trans (s8.trans (s9.trans Ux)))
  clear s6 s7 s8 s9 Ux ON Qi Qj Uw
  refine ⟨_,rfl,_,rfl,y,w',w',rfl,hy,y8,HF,fun X0 Uz=>?_⟩
  refine ⟨_,rfl,_,rfl,_,rfl,by show 2<=sizeLine;decide,fun t1 UA=>?_⟩
  have UB:=aq.upd (o:= .tup [.str (S w'), .str (S v)]) UA
  refine ⟨y,t1,[w',v],[w',v],rfl,hy,y8,ah,⟨HF,Qk,trivial⟩,jo sw sv wl vl,fun UC UD=>?_⟩
  refine ⟨by show 2<=sizeLine;decide,fun du UE=>?_⟩
  generalize HA:uf y w'=d1
  generalize hd2:vI y [w',v]=d2
  have Sm:=aq.upd (o:= .tup [.bl d1, .bl d2]) UE
  have So:upd UC du (.tup [.bl d1, .bl d2]) du=some (.tup [.bl d1, .bl d2]):=ah
  generalize upd UC du (.tup [.bl d1, .bl d2])=X1 at Sm So ⊢
  have OP:=OO.after (Uz.trans (UB.trans (UD.trans Sm)))
  clear Uz UB UD Sm OO Sl UA UE
  -- Bn three words
  refine ⟨_,rfl,w',rfl,HF.lt,by omega,fun UG UH=>?_⟩
  have hlen:(cut w' (some (k:Int)) none).length+(cut w' none (some (k:Int))).length<=sizeLine:=by rw[bU,b9,Yc,Xw];omega
  have yg:cut w' (some (k:Int)) none++cut w' none (some (k:Int))=dm w' k:=by rw[bU,b9];rfl
  refine ⟨_,rfl,_,rfl,_,rfl,w',rfl,by omega,_,rfl,_,rfl,_,rfl,w',rfl,by omega,_,_,rfl,rfl,hlen,?_⟩
  rw[yg]
  apply RH (y:=y) (w:=w')
  ·intro key
   refine ⟨_,rfl,_,rfl,w',rfl,by omega,_,_,rfl,rfl, .inr ⟨_,rfl,_,_,rfl,rfl, .inl ⟨by decide,by decide⟩,_,rfl,bg,rfl,by omega,?_⟩⟩
   have hc: ∀l,cut bg none (some (12*(if decide ((w'.length:Int)<11)=true then 1 else 0)))=l->(l≠[]->Sh y l w')/\l.length<=1000:=fun l e=>by
    by_cases z:(w'.length:Int)<11
    ·rw[decide_eq_true z,if_pos rfl]at e
     have e2:cut bg none (some ((12:Nat):Int))=l:=e
     rw[bU,Yn (by omega)]at e2
     rw[<-e2]
     exact ⟨fun _=>big,by omega⟩
    ·rw[decide_eq_false z,if_neg (by decide)]at e
     have e2:cut bg none (some ((0:Nat):Int))=l:=e
     rw[bU]at e2
     rw[<-e2]
     exact ⟨fun g=>absurd rfl g,by simp⟩
   obtain ⟨l,el⟩: ∃l,cut bg none (some (12*(if decide ((w'.length:Int)<11)=true then 1 else 0)))=l:=⟨_,rfl⟩
   obtain ⟨c1,c2⟩:=hc l el
   refine ⟨_,rfl,by rw[el];omega,fun dG=>?_,fun he=>?_⟩
   ·rw[el]at dG ⊢
    exact key l (c1 dG)
   ·exact ⟨_,rfl,key w' HF⟩
  intro u3 UI
  refine ⟨by show 3<=sizeLine;decide,fun T nT=>?_⟩
  have Sq:=aq.upd (o:= .tup [.str (S (cG w')), .str (S (dm w' k)), .str (S u3)]) nT
  have hT:upd UG T (.tup [.str (S (cG w')), .str (S (dm w' k)), .str (S u3)]) T=some (.tup [.str (S (cG w')), .str (S (dm w' k)), .str (S u3)]):=ah
  generalize upd UG T (.tup [.str (S (cG w')), .str (S (dm w' k)), .str (S u3)])=Xa at Sq hT ⊢
  have D8:=UH.trans Sq
  have D9:=D8 _ _ So
  obtain ⟨l1,_⟩:=DN hy sw A_
  have lt:Lk y w' (cG w'):=by
   have:=(DN hy sw (Xy _)).2
   have e:dm w' 0=w':=by unfold dm;simp
   rwa [e]at this
  have tl:(cG w').length<=12:=by rw[bS];exact wl
  refine ⟨T,rfl,⟨_,b_.of hT⟩,?_⟩
  refine yp (K:=K) (a:=T) (xs:=[.str (S (cG w')), .str (S (dm w' k)), .str (S u3)]) (fun j σ H'=> ∃Mm:Option V,σ=[some (.ref a),some (.int (0+(i:Int))),some (.ref b),some (.str (S y)),some (.str (S w')),v5,v6,some (.str (S v)),some (.int (k:Int)),some (.int (sp:Int)),some (.str (S [x])),some (.str (S bg)),some (.ref du),Mm,OJ,OK,OL,OM]/\aq Xa H') ⟨_,rfl,aq.refl _⟩ (fun j σ H' _ ⟨_,_,h⟩=>b_.of (h _ _ hT)) ?_ ?_
  ·rintro j e σ Sr he ⟨Ss,rfl,OQ⟩
   obtain ⟨u,c,rfl,OR,lk⟩: ∃u c,e= .str (S u)/\Sh y u c/\Lk y w' c:=by
    match j,he with
    | 0,he=>cases he;exact ⟨cG w',cG w',rfl,Sh.of hy lt.sw tl,lt⟩
    | 1,he=>cases he;exact ⟨dm w' k,dm w' k,rfl,Sh.of hy l1.sw (by rw[l1.len];exact wl),l1⟩
    | 2,he=>cases he;exact ⟨u3,w',rfl,UI,Lk.refl sw⟩
   obtain ⟨e1,e2,e3⟩:=lk.Gu hy sw sv
   rw[HA]at e1
   rw[hd2]at e2 e3
   refine ⟨_,rfl,_,rfl,y,u,c,rfl,hy,y8,OR,fun UJ Mn=>?_⟩
   rw[e1]
   refine ⟨_,rfl,_,rfl,_,rfl,by show 2<=sizeLine;decide,fun t2 OE=>?_⟩
   have Ky:=aq.upd (o:= .tup [.str (S u), .str (S v)]) OE
   refine ⟨y,t2,[u,v],[c,v],rfl,hy,y8,ah,⟨OR,Qk,trivial⟩,jo lk.sw sv OR.len vl,fun Ql Ez=>?_⟩
   rw[e2]
   refine ⟨_,rfl,_,rfl,_,rfl,by show 2<=sizeLine;decide,fun t3 Su=>?_⟩
   have D_:=aq.upd (o:= .tup [.str (S v), .str (S u)]) Su
   refine ⟨y,t3,[v,u],[v,c],rfl,hy,y8,ah,⟨Qk,OR,trivial⟩,jo sv lk.sw vl OR.len,fun Qm Gx=>?_⟩
   rw[e3]
   refine ⟨by show 3<=sizeLine;decide,fun t4 Xb=>?_⟩
   have HE:=aq.upd (o:= .tup [.bl d1, .bl d2, .bl d2]) Xb
   have UK:upd Qm t4 (.tup [.bl d1, .bl d2, .bl d2]) t4=some (.tup [.bl d1, .bl d2, .bl d2]):=ah
   generalize upd Qm t4 (.tup [.bl d1, .bl d2, .bl d2])=Sv at HE UK ⊢
   have HG:=OQ.trans (Mn.trans (Ky.trans (Ez.trans (D_.trans (Gx.trans HE)))))
   have HH:=HG _ _ D9
   refine ⟨_,rfl,_,rfl,_,rfl,du,_,rfl,b_.of HH,fun g=>absurd g.1 (by show ¬HT.da 2 0 (some ((1:Nat):Int))=0;rw[HT.gj];decide),fun p5 Xc=>?_⟩
   have ec:rM [V.bl d1, .bl d2] (some 1) none=[.bl d2]:=rfl
   rw[ec]
   have GA:=aq.upd (o:= .tup [.bl d2]) Xc
   have P6:upd Sv p5 (.tup [.bl d2]) p5=some (.tup [.bl d2]):=ah
   generalize upd Sv p5 (.tup [.bl d2])=OS at GA P6 ⊢
   refine ⟨du,p5,_,_,rfl,rfl,b_.of (GA _ _ HH),b_.of P6,by simp,by show 2+1<=sizeLine;decide,fun g=>absurd g (by simp),fun _ p6 Xd=>?_⟩
   have Mo:=aq.upd (o:= .tup ([V.bl d1, .bl d2]++[.bl d2])) Xd
   have Gy:upd OS p6 (.tup ([V.bl d1, .bl d2]++[.bl d2])) p6=some (.tup [V.bl d1, .bl d2, .bl d2]):=ah
   generalize upd OS p6 (.tup ([V.bl d1, .bl d2]++[.bl d2]))=Xe at Mo Gy ⊢
   refine ⟨.tuple [.bool d1, .bool d2, .bool d2], .tuple [.bool d1, .bool d2, .bool d2], .tup (b_.of (Mo _ _ (GA _ _ UK))) (.cons (.bl _) (.cons (.bl _) (.cons (.bl _) .nil))), .tup (b_.of Gy) (.cons (.bl _) (.cons (.bl _) (.cons (.bl _) .nil))),⟨rfl,rfl⟩,ZF rfl,?_⟩
   refine ⟨_,rfl,uX (by rw[eqv_refl _ rfl];rfl) ?_⟩
   exact ⟨_,rfl,HG.trans (GA.trans Mo)⟩
  rintro σ Sr ⟨Ss,rfl,OQ⟩
  have HI:=OQ _ _ D9
  have OT:=OP.after (D8.trans OQ)
  clear UH Sq OQ OP D8 hT So D9 UI big
  have OU:(cut y (some (sp:Int)) none).length+(cut y none (some (sp:Int))).length<=sizeLine:=by rw[bU,b9,Yc,Xw];omega
  have OV:cut y (some (sp:Int)) none++cut y none (some (sp:Int))=y.drop sp++y.take sp:=by rw[bU,b9]
  refine ⟨_,rfl,_,rfl,_,rfl,y,rfl,by omega,_,rfl,_,rfl,_,rfl,y,rfl,by omega,_,_,rfl,rfl,OU,?_⟩
  rw[OV]
  have T1:=zE hy sp
  have T2:=Gr hy
  have UL:(y.drop sp++y.take sp).length<=8:=by rw[KW,Yc,Xw];omega
  generalize y.drop sp++y.take sp=z1 at T1 UL ⊢
  refine ⟨_,rfl,y,rfl,by omega,by omega,by show 2<=sizeLine;decide,fun ys Xf=>?_⟩
  have Mn:=aq.upd (o:= .lst (eB [z1,y.reverse])) Xf
  have Qn:upd Sr ys (.lst (eB [z1,y.reverse])) ys=some (.lst (eB [z1,y.reverse])):=ah
  have ey:[V.str (S z1), .str (S y.reverse)]=eB [z1,y.reverse]:=rfl
  rw[ey]
  generalize upd Sr ys (.lst (eB [z1,y.reverse]))=UJ at Mn Qn ⊢
  have HJ:=Mn _ _ HI
  refine ⟨_,rfl,ys,rfl,⟨_,bN.of Qn⟩,?_⟩
  refine qD (K:=K) (a:=ys) (xs:=eB [z1,y.reverse]) (fun i acc H'=>aq UJ H'/\ ∃ps:List Addr,acc=ps.map V.ref/\ps.length=i/\ ∀p∈ps,H' p=some (.tup [.bl d1, .bl d2])) (by rw[cY];show 2<sizeLine;decide) (fun i acc H' h=>bN.of (h.1 _ _ Qn)) ⟨aq.refl _,[],rfl,rfl,fun _ h=>absurd h Yl⟩ ?_ ?_
  ·rintro j e acc Sw Nx hj he uh ⟨Ky,ps,rfl,pl,rB⟩ nx
   obtain ⟨z,neg,rfl,Tz,zl⟩: ∃z neg,e= .str (S z)/\pY y z id neg/\z.length<=8:=by
    match j,he with
    | 0,he=>cases he;exact ⟨z1,false,rfl,T1,UL⟩
    | 1,he=>cases he;exact ⟨y.reverse,true,rfl,T2,by rw[Yo];exact y8⟩
   obtain ⟨b1,b2,b3,b4⟩:=Tz.lid sw sv
   rw[HA]at b3
   rw[hd2]at b4
   refine ⟨⟨rfl,rfl,trivial⟩,dk ?_⟩
   refine ⟨_,rfl,_,rfl,z,w',w',rfl,Tz.zd,zl,Sh.of Tz.zd b1 wl,fun Ql Ez=>?_⟩
   rw[b3]
   refine ⟨_,rfl,_,rfl,_,rfl,by show 2<=sizeLine;decide,fun t2 OE=>?_⟩
   have D_:=aq.upd (o:= .tup [.str (S w'), .str (S v)]) OE
   refine ⟨z,t2,[w',v],[w',v],rfl,Tz.zd,zl,ah,⟨Sh.of Tz.zd b1 wl,Sh.of Tz.zd b2 vl,trivial⟩,jo b1 b2 wl vl,fun Qm Gx=>?_⟩
   rw[b4]
   refine ⟨by show 2<=sizeLine;decide,fun t3 Su=>?_⟩
   have HE:=aq.upd (o:= .tup [.bl d1, .bl d2]) Su
   have HK:=Ez.trans (D_.trans (Gx.trans HE))
   refine nx _ _ (by rw[KW];simpa using uh) ⟨Ky.trans HK,ps++[t3],by rw[X9];rfl,by rw[KW,pl];rfl,fun p hp=>?_⟩
   rcases Yi.mp hp with g | g
   ·exact HK _ _ (rB p g)
   ·rw[Vk.mp g];exact ah
  rintro acc Sw D uh ⟨Ky,ps,rfl,pl,rB⟩ hD
  obtain ⟨p1,p2,rfl⟩: ∃p1 p2,ps=[p1,p2]:=by
   match ps,pl with
   | [p1,p2],_=>exact ⟨p1,p2,rfl⟩
  have h1:=rB p1 Vj
  have h2:=rB p2 (SX _ Vj)
  have Ez:=aq.upd (o:= .lst ([p1,p2].map V.ref)) hD
  have Ml:upd Sw D (.lst ([p1,p2].map V.ref)) D=some (.lst [.ref p1, .ref p2]):=ah
  generalize upd Sw D (.lst ([p1,p2].map V.ref))=Ql at Ez Ml ⊢
  have HL:=Ez _ _ (Ky _ _ HJ)
  refine ⟨_,rfl,_,rfl,by show 2<=sizeLine;decide,fun l2 Xg=>?_⟩
  have D_:=aq.upd (o:= .lst [.ref du, .ref du]) Xg
  have vV:upd Ql l2 (.lst [.ref du, .ref du]) l2=some (.lst [.ref du, .ref du]):=ah
  generalize upd Ql l2 (.lst [.ref du, .ref du])=X2 at D_ vV ⊢
  have Ea:=D_ _ _ HL
  refine ⟨.list [.tuple [.bool d1, .bool d2], .tuple [.bool d1, .bool d2]], .list [.tuple [.bool d1, .bool d2], .tuple [.bool d1, .bool d2]], .lst (bN.of (D_ _ _ Ml)) (.cons (.tup (b_.of (D_ _ _ (Ez _ _ h1))) (.cons (.bl _) (.cons (.bl _) .nil))) (.cons (.tup (b_.of (D_ _ _ (Ez _ _ h2))) (.cons (.bl _) (.cons (.bl _) .nil))) .nil)), .lst (bN.of vV) (.cons (.tup (b_.of Ea) (.cons (.bl _) (.cons (.bl _) .nil))) (.cons (.tup (b_.of Ea) (.cons (.bl _) (.cons (.bl _) .nil))) .nil)),⟨rfl,rfl⟩,ZF rfl,?_⟩
  refine ⟨_,rfl,uX (by rw[eqv_refl _ rfl];rfl) ?_⟩
  have Sx:=OT.after (Mn.trans (Ky.trans (Ez.trans D_)))
  clear Mn Ky Ez D_ OT Qn Ml vV h1 h2 rB HI HJ HL T1 T2
  have Xh: ∀c∈y,Lt c:=fun c hc=>hy.lt c hc
  refine ⟨_,rfl,y,rfl,Xh,by omega,fun Qm Gx=>?_⟩
  refine ⟨_,rfl,w',rfl,HF.lt,by omega,fun Sv HE=>?_⟩
  refine ⟨_,rfl,v,rfl,Qk.lt,by omega,fun OS GA=>?_⟩
  refine ⟨by show 2<=sizeLine;decide,fun pp Xi=>?_⟩
  have Mo:=aq.upd (o:= .tup (eB [w'.map ar,v.map ar])) Xi
  have Sy:upd OS pp (.tup (eB [w'.map ar,v.map ar])) pp=some (.tup (eB [w'.map ar,v.map ar])):=ah
  have ep:[V.str (S (w'.map ar)), .str (S (v.map ar))]=eB [w'.map ar,v.map ar]:=rfl
  rw[ep]
  generalize upd OS pp (.tup (eB [w'.map ar,v.map ar]))=Xe at Mo Sy ⊢
  refine ⟨_,_,rfl,?_⟩
  have C:=Gv hy
  obtain ⟨c3,c4⟩:=C.Gu sw sv
  rw[HA]at c3
  rw[hd2]at c4
  have Sz:(w'.map ar).length<=12:=by rw[Pd];exact wl
  have Kx:(v.map ar).length<=12:=by rw[Pd];exact vl
  have UM:(y.map ar).length<=8:=by rw[Pd];exact y8
  have a0:lq (eB [w'.map ar,v.map ar]) (0:Int)=some (.str (S (w'.map ar))):=rfl
  refine ⟨_,rfl,_,rfl,pp,_,_,_,rfl,rfl,b_.of Sy,a0,y.map ar,w'.map ar,w'.map ar,rfl,C.zd,UM,Sh.of C.zd (C.sw sw) Sz,fun X3 UN=>?_⟩
  rw[c3]
  refine ⟨_,rfl,_,rfl,y.map ar,pp,[w'.map ar,v.map ar],[w'.map ar,v.map ar],rfl,C.zd,UM,UN _ _ Sy,⟨Sh.of C.zd (C.sw sw) Sz,Sh.of C.zd (C.sw sv) Kx,trivial⟩,jo (C.sw sw) (C.sw sv) Sz Kx,fun UO Xj=>?_⟩
  rw[c4]
  refine ⟨by show 2<=sizeLine;decide,fun t7 Xk=>?_⟩
  have UP:=aq.upd (o:= .tup [.bl d1, .bl d2]) Xk
  have UQ:upd UO t7 (.tup [.bl d1, .bl d2]) t7=some (.tup [.bl d1, .bl d2]):=ah
  generalize upd UO t7 (.tup [.bl d1, .bl d2])=X4 at UP UQ ⊢
  have HM:=Gx.trans (HE.trans (GA.trans (Mo.trans (UN.trans (Xj.trans UP)))))
  have HN:=HM _ _ Ea
  refine ⟨_,rfl, .tuple [.bool d1, .bool d2], .tuple [.bool d1, .bool d2], .tup (b_.of UQ) (.cons (.bl _) (.cons (.bl _) .nil)), .tup (b_.of HN) (.cons (.bl _) (.cons (.bl _) .nil)),⟨rfl,rfl⟩,ZF rfl,?_⟩
  refine ⟨_,rfl,uX (by rw[eqv_refl _ rfl];rfl) ?_⟩
  refine ⟨_,rfl,_,rfl,w',rfl,HF.lt,by omega,fun UR Xl=>?_⟩
  refine ⟨by show 2<=sizeLine;decide,fun so Xm=>?_⟩
  have US:=aq.upd (o:= .tup (eB [w',cG w'])) Xm
  have Mi:upd UR so (.tup (eB [w',cG w'])) so=some (.tup (eB [w',cG w'])):=ah
  have es:[V.str (S w'), .str (S (cG w'))]=eB [w',cG w']:=rfl
  rw[es]
  generalize upd UR so (.tup (eB [w',cG w']))=UT at US Mi ⊢
  refine ⟨_,rfl,_,rfl,_,rfl,so,_,rfl,b_.of Mi,fun g=>absurd g.2 (by show ¬HT.da 2 2 (some ((1:Nat):Int))=2;rw[HT.gj];decide),fun p8 Xn=>?_⟩
  have Xo:rM (eB [w',cG w']) none (some 1)=eB [w']:=rfl
  rw[Xo]
  have SA:=aq.upd (o:= .tup (eB [w'])) Xn
  have Mj:upd UT p8 (.tup (eB [w'])) p8=some (.tup (eB [w'])):=ah
  generalize upd UT p8 (.tup (eB [w']))=X5 at SA Mj ⊢
  refine ⟨y,p8,[w'],[w'],rfl,hy,y8,Mj,⟨HF,trivial⟩,zD sw wl,fun X6 UU=>?_⟩
  rw[Kc,HA]
  have HP:=Xl.trans (US.trans (SA.trans UU))
  have HQ:=HP _ _ HN
  have ad:lq [V.bl d1, .bl d2] (0:Int)=some (.bl d1):=rfl
  refine ⟨_,rfl,du,_,_,_,rfl,rfl,b_.of HQ,ad,_,_,rfl,rfl,_,rfl,uX (by rw[decide_eq_true rfl];rfl) ?_⟩
  refine ⟨_,rfl,_,rfl,y,so,[w',cG w'],[w',cG w'],rfl,hy,y8,(SA.trans UU) _ _ Mi,⟨HF,Sh.of hy lt.sw tl,trivial⟩,jo sw lt.sw wl tl,fun X7 UW=>?_⟩
  rw[Gs hy sw,HA]
  refine ⟨_,rfl,du,_,_,_,rfl,rfl,b_.of (UW _ _ HQ),ad,_,_,rfl,rfl,_,rfl,uX (by rw[decide_eq_true rfl];rfl) ?_⟩
  have OW:=Sx.after (HM.trans (HP.trans UW))
  refine ⟨_,rfl,w',rfl,by omega,_,_,rfl,rfl,_,rfl,cn (fun z=>?_) (fun z=>?_)⟩
  ·have z7:(w'.length:Int)<7:=of_decide_eq_true z
   have l2:(w'++w').length<=12:=by rw[KW];omega
   refine ⟨_,rfl,_,rfl,_,rfl,_,_,rfl,rfl,by omega,y,w'++w',w'++w',rfl,hy,y8,Sh.of hy sw.twice l2,fun X8 R6=>?_⟩
   rw[DO sw]
   refine ⟨_,rfl,uX rfl ?_⟩
   exact ⟨_,_,_,_,_,_,_,_,_,_,_,_,_,_,_,_,_,rfl,s2.trans (aW.same nb s3 (OW.after R6))⟩
  ·refine uX rfl ?_
   exact ⟨_,_,_,_,_,_,_,_,_,_,_,_,_,_,_,_,_,rfl,s2.trans (aW.same nb s3 OW)⟩
 ·rintro σ H2 ⟨v1,v2,v3,v4,v5,v6,v7,v8,v9,v10,v11,Kx,Mm,OJ,OK,OL,OM,rfl,s2⟩
  exact q H2
end
theorem cw {M:List Value->Prop} (h:M []): ∀us:List Value,us.length=0->M us
 | [],_=>h
theorem aT {M:List Value->Prop} {n:Nat} (h: ∀(a:Value) (us:List Value),us.length=n->M (a::us)): ∀us:List Value,us.length=n+1->M us
 | a::us,e=>h a us (Nat.succ.inj e)
def Dn (K:PySem.W.Frag) (x:Str) (st:Stmt) (f:Addr) (fd:FuncData):Prop:=PySem.W.nsIn K mainGlobals x=some (some (.ref f))/\EX K x x st f fd
theorem dn {K:PySem.W.Frag} {x:Str} {st:Stmt} {f:Addr} {oc:Value} {od an:Option Addr} {Eg:Array (Option Value)} {kV doc pm cR ct:Value} (a:PySem.W.nsIn K mainGlobals x=some (some (.ref f))) (l:K.lookup f=some ⟨oc,od, .func (PySem.W.fnOf x x (fN st) (eZ st) (au st) .none kV doc pm an cR ct),Eg⟩) (c:PySem.W.codeIn K cR x=true) (k:PySem.W.keepIn K (.ref f)=true):Dn K x st f (PySem.W.fnOf x x (fN st) (eZ st) (au st) .none kV doc pm an cR ct):=⟨a,wQ l c k⟩
theorem gJ {K:PySem.W.Frag} {h:Heap} {mg:Str->Option Value} {x:Str} {st:Stmt} {f:Addr} {fd:FuncData} {ps:List Str} (X:K.In h) (G:h.Ns mainGlobals mg) (a:Dn K x st f fd) (b: ∀(kV doc pm:Value) (an:Option Addr) (cR ct:Value) (us:List Value),us.length=ps.length->bindArgs (PySem.W.fnOf x x (fN st) (eZ st) (au st) .none kV doc pm an cR ct) ⟨us,[]⟩=pure (ps.zip us)):bu K mg x st ps f fd:=⟨a.2,Qbf X G a.1,a.2.binds b⟩
theorem all_mk {l:PySem.W.OpenLaw} {w:World} {K:PySem.W.Frag} {h:Heap} {mg:Str->Option Value} {fa f0 f1 f2 f3 f4 f5 f6 f7 f8 f9 K9 K_ La Lc Ld Le Lf Lg DT DU Lh Li Lj Ll Lm Ln Lo Lp Lq Lr Ls Lu Lv Lw Ly Lz LA LB LC LD LF LG aO aX jI gH:Addr} (X:K.In h) (G:h.Ns mainGlobals mg) (Pp:mg "law"=some (.ref fa))
  {d0 d1 d2 d3 d4 d5 d6 d7 d8 d9 LH LI LJ LK LL LM LN LO LP LQ LR LS LU LV LW LX LY LZ L1 L3 L4 L5 L6 L7 L8 L9 L_ Ma Mb Mc Md Me:FuncData}
  {Kz KA GI GJ:Option Addr} {KC GK:Array (Option Value)} {KD KG KH KI Eb KJ GL GN GO GP zH GQ:Value}
  (a0:Dn K "contrary" j4 f0 d0)
  (a1:Dn K "turned" oR f1 d1)
  (a2:Dn K "bands" tN f2 d2)
  (a3:Dn K "steps_round" gC f3 d3)
  (a4:Dn K "strands_at" h7 f4 d4)
  (a5:Dn K "points" oS f5 d5)
  (a6:Dn K "corner_points" fG f6 d6)
  (a7:Dn K "corners" mm f7 d7)
  (a8:Dn K "chord_starts" f_ f8 d8)
  (a9:Dn K "number_in" je f9 d9)
  (a10:Dn K "count_meetings" eY K9 LH)
  (a11:Dn K "strands_in" h_ K_ LI)
  (a12:Dn K "corner_ends" gD La LJ)
  (a13:Dn K "shortened" jf Lc LK)
  (a14:Dn K "shortest" j5 Ld LL)
  (a15:Dn K "ring" x3 Le LM)
  (a16:Dn K "root" x4 Lf LN)
  (a17:Dn K "corner_steps" gc Lg LO)
  (a18:Dn K "steps_ahead" gE DT LP)
  (a19:Dn K "steps_back" ie DU LQ)
  (a20:Dn K "parting" mq Lh LR)
  (a21:Dn K "side_of" mr Li LS)
  (a22:Dn K "comes_ahead" gF Lj LU)
  (a23:Dn K "number_among" gf Ll LV)
  (a24:Dn K "seen_strand" gG Lm LW)
  (a25:Dn K "taut_order" ig Ln LX)
  (a26:Dn K "taut" x5 Lo LY)
  (a27:Dn K "least" tP Lp LZ)
  (a28:Dn K "own" DR Lq L1)
  (a29:Dn K "is_lone" mw Lr L3)
  (a30:Dn K "lie_apart" jg Ls L4)
  (a31:Dn K "_law_box" x6 Lu L5)
  (a32:Dn K "_law_take" tQ Lv L6)
  (a33:Dn K "_law_other" oT Lw L7)
  (a34:Dn K "_law_yard" tR Ly L8)
  (a35:Dn K "_law_handled" j6 Lz L9)
  (a36:Dn K "_law_even" tT LA L_)
  (a38:Dn K "_law_short" oU LB Ma)
  (a39:Dn K "_law_near" tU LC Mb)
  (a42:Dn K "_law_about" oV LD Mc)
  (a43:Dn K "_law_exchanged" ik LF Md)
  (a44:Dn K "law" DS LG Me)
  (q_Seen:PySem.W.nsIn K mainGlobals "Seen"=some (some (.ref aO)))
  (pg_Seen:PySem.W.plainGet K aO Str.empty=true)
  (hd_Seen:PySem.W.hasDictIn K aO=true)
  (po_Seen:PySem.W.plainOver K aO=true)
  (sa_Seen:PySem.W.findIn K (.ref aO) "__setattr__"=some (some (.builtin "object.__setattr__")))
  (n_Seen_strand:PySem.W.findIn K (.ref aO) "strand"=some none)
  (n_Seen_way:PySem.W.findIn K (.ref aO) "way"=some none)
  (n_Seen_place:PySem.W.findIn K (.ref aO) "place"=some none)
  (q_Way:PySem.W.nsIn K mainGlobals "Way"=some (some (.ref aX)))
  (pg_Way:PySem.W.plainGet K aX Str.empty=true)
  (hd_Way:PySem.W.hasDictIn K aX=true)
  (po_Way:PySem.W.plainOver K aX=true)
  (sa_Way:PySem.W.findIn K (.ref aX) "__setattr__"=some (some (.builtin "object.__setattr__")))
  (n_Way_size:PySem.W.findIn K (.ref aX) "size"=some none)
  (n_Way_root_size:PySem.W.findIn K (.ref aX) "root_size"=some none)
  (n_Way_leads:PySem.W.findIn K (.ref aX) "leads"=some none)
  (n_Way_onward:PySem.W.findIn K (.ref aX) "onward"=some none)
  (n_Way_backward:PySem.W.findIn K (.ref aX) "backward"=some none)
  (mk_Way:PySem.W.makesIn K aX=true)
  (qi_Way:PySem.W.findIn K (.ref aX) "__init__"=some (some (.ref jI)))
  (fi_Way:PySem.W.isFn K (.ref jI)=true)
  (kc_Way:PySem.W.keepIn K (.ref aX)=true)
  (li_Way:K.lookup jI=some ⟨KD,Kz, .func (PySem.W.fnOf "__init__" "Way.__init__" (fN js) (eZ js) (au js) .none KG KH KI KA Eb KJ),KC⟩)
  (ci_Way:PySem.W.codeIn K Eb "Way.__init__"=true)
  (ki_Way:PySem.W.keepIn K (.ref jI)=true)
  (mk_Seen:PySem.W.makesIn K aO=true)
  (qi_Seen:PySem.W.findIn K (.ref aO) "__init__"=some (some (.ref gH)))
  (fi_Seen:PySem.W.isFn K (.ref gH)=true)
  (kc_Seen:PySem.W.keepIn K (.ref aO)=true)
  (li_Seen:K.lookup gH=some ⟨GL,GI, .func (PySem.W.fnOf "__init__" "Seen.__init__" (fN gT) (eZ gT) (au gT) .none GN GO GP GJ zH GQ),GK⟩)
  (ci_Seen:PySem.W.codeIn K zH "Seen.__init__"=true)
  (ki_Seen:PySem.W.keepIn K (.ref gH)=true)
  (z_enumerate:PySem.W.nsIn K mainGlobals "enumerate"=some none)
  (z_int:PySem.W.nsIn K mainGlobals "int"=some none)
  (z_len:PySem.W.nsIn K mainGlobals "len"=some none)
  (z_list:PySem.W.nsIn K mainGlobals "list"=some none)
  (z_max:PySem.W.nsIn K mainGlobals "max"=some none)
  (z_min:PySem.W.nsIn K mainGlobals "min"=some none)
  (z_range:PySem.W.nsIn K mainGlobals "range"=some none)
  (z_reversed:PySem.W.nsIn K mainGlobals "reversed"=some none)
  (z_sorted:PySem.W.nsIn K mainGlobals "sorted"=some none)
  (z_str:PySem.W.nsIn K mainGlobals "str"=some none)
  (z_tuple:PySem.W.nsIn K mainGlobals "tuple"=some none):
  ∃fd:FuncData,(∀(s:Shared) (v:Value),BindsTo s fd ⟨[v],[]⟩ [("_law_script",v)])/\ ∀base:Heap,K.In base->base.Ns mainGlobals mg->bM l.prog w K mg base fI 12 fa fd ["_law_script"] (lI K):=by
 have e:=Pp.symm.trans (Qbf X G a44.1)
 cases e
 obtain ⟨_,_,_,_,_,_,_,_,_,rfl,_⟩:=a44.2.ex
 have Ec:=wQ (st:=js) li_Way ci_Way ki_Way
 have KL:=Ec.binds (ps:=["self","yard","word","longest"]) fun _ _ _ _ _ _=>aT fun _=>aT fun _=>aT fun _=>aT fun _=>cw rfl
 have zI:=wQ (st:=gT) li_Seen ci_Seen ki_Seen
 have GR:=zI.binds (ps:=["self","strand","way","place"]) fun _ _ _ _ _ _=>aT fun _=>aT fun _=>aT fun _=>aT fun _=>cw rfl
 have T:Txt K mg _ _ _ _ _ _ _ _ _ _ _ _ _ _ _ _ _ _ _ _ _ _ _ _ _ _ _ _ _ _ _ _ _ _ _ _ _ _ _ _ _ _ _ _ _ _ _ _ _ _ _ _ _ _ _ _ _ _ _ _ _ _ _ _ _ _ _ _ _ _ _ _ _ _ _ _ _ _ _ _ _ _ _ _ _ _ _ _ _ _:=⟨gJ X G a0 fun _ _ _ _ _ _=>aT fun _=>cw rfl,gJ X G a1 fun _ _ _ _ _ _=>aT fun _=>cw rfl,gJ X G a2 fun _ _ _ _ _ _=>aT fun _=>cw rfl,gJ X G a3 fun _ _ _ _ _ _=>aT fun _=>aT fun _=>aT fun _=>cw rfl,gJ X G a4 fun _ _ _ _ _ _=>aT fun _=>aT fun _=>aT fun _=>cw rfl,gJ X G a5 fun _ _ _ _ _ _=>aT fun _=>aT fun _=>cw rfl,gJ X G a6 fun _ _ _ _ _ _=>aT fun _=>aT fun _=>aT fun _=>cw rfl,gJ X G a7 fun _ _ _ _ _ _=>aT fun _=>aT fun _=>cw rfl,gJ X G a8 fun _ _ _ _ _ _=>aT fun _=>cw rfl,gJ X G a9 fun _ _ _ _ _ _=>aT fun _=>aT fun _=>cw rfl,gJ X G a10 fun _ _ _ _ _ _=>aT fun _=>cw rfl,gJ X G a11 fun _ _ _ _ _ _=>aT fun _=>aT fun _=>cw rfl,gJ X G a12 fun _ _ _ _ _ _=>aT fun _=>aT fun _=>cw rfl,gJ X G a13 fun _ _ _ _ _ _=>aT fun _=>cw rfl,gJ X G a14 fun _ _ _ _ _ _=>aT fun _=>cw rfl,gJ X G a15 fun _ _ _ _ _ _=>aT fun _=>cw rfl,gJ X G a16 fun _ _ _ _ _ _=>aT fun _=>cw rfl,gJ X G a17 fun _ _ _ _ _ _=>aT fun _=>aT fun _=>aT fun _=>cw rfl,gJ X G a18 fun _ _ _ _ _ _=>aT fun _=>aT fun _=>aT fun _=>cw rfl,gJ X G a19 fun _ _ _ _ _ _=>aT fun _=>aT fun _=>aT fun _=>cw rfl,gJ X G a20 fun _ _ _ _ _ _=>aT fun _=>aT fun _=>aT fun _=>aT fun _=>cw rfl,gJ X G a21 fun _ _ _ _ _ _=>aT fun _=>cw rfl,gJ X G a22 fun _ _ _ _ _ _=>aT fun _=>aT fun _=>cw rfl,gJ X G a23 fun _ _ _ _ _ _=>aT fun _=>aT fun _=>cw rfl,gJ X G a24 fun _ _ _ _ _ _=>aT fun _=>aT fun _=>aT fun _=>cw rfl,gJ X G a25 fun _ _ _ _ _ _=>aT fun _=>aT fun _=>aT fun _=>cw rfl,gJ X G a26 fun _ _ _ _ _ _=>aT fun _=>aT fun _=>cw rfl,gJ X G a27 fun _ _ _ _ _ _=>aT fun _=>aT fun _=>cw rfl,gJ X G a28 fun _ _ _ _ _ _=>aT fun _=>aT fun _=>cw rfl,gJ X G a29 fun _ _ _ _ _ _=>aT fun _=>aT fun _=>cw rfl,gJ X G a30 fun _ _ _ _ _ _=>aT fun _=>aT fun _=>cw rfl,gJ X G a31 fun _ _ _ _ _ _=>aT fun _=>aT fun _=>cw rfl,gJ X G a32 fun _ _ _ _ _ _=>aT fun _=>aT fun _=>cw rfl,gJ X G a33 fun _ _ _ _ _ _=>aT fun _=>cw rfl,gJ X G a34 fun _ _ _ _ _ _=>aT fun _=>aT fun _=>aT fun _=>cw rfl,gJ X G a35 fun _ _ _ _ _ _=>aT fun _=>aT fun _=>aT fun _=>cw rfl,gJ X G a36 fun _ _ _ _ _ _=>aT fun _=>aT fun _=>aT fun _=>aT fun _=>cw rfl,gJ X G a38 fun _ _ _ _ _ _=>aT fun _=>aT fun _=>aT fun _=>cw rfl,gJ X G a39 fun _ _ _ _ _ _=>aT fun _=>aT fun _=>aT fun _=>aT fun _=>cw rfl,gJ X G a42 fun _ _ _ _ _ _=>aT fun _=>cw rfl,gJ X G a43 fun _ _ _ _ _ _=>aT fun _=>cw rfl,gJ X G a44 fun _ _ _ _ _ _=>aT fun _=>cw rfl,Qbf X G q_Seen,⟨pg_Seen,hd_Seen,po_Seen,sa_Seen⟩,n_Seen_strand,n_Seen_way,n_Seen_place,Qbf X G q_Way,⟨pg_Way,hd_Way,po_Way,sa_Way⟩,n_Way_size,n_Way_root_size,n_Way_leads,n_Way_onward,n_Way_backward,⟨mk_Way,qi_Way,fi_Way,kc_Way⟩,Ec,KL,⟨mk_Seen,qi_Seen,fi_Seen,kc_Seen⟩,zI,GR,YS X G z_enumerate,YS X G z_int,YS X G z_len,YS X G z_list,YS X G z_max,YS X G z_min,YS X G z_range,YS X G z_reversed,YS X G z_sorted,YS X G z_str,YS X G z_tuple⟩
 exact ⟨_,fun s v=> .of_eq rfl,fun base _ _=>Kv T⟩
theorem walk {l:PySem.W.OpenLaw} {q:Program} {loose:List Str} {XP:(Str->Option Value)->Heap->Prop} {YP:World->Heap->Prop} {d:DefRec} {K:Params->PySem.W.Frag} (hn:l.most=some 63) (M_:d.params.defaults=[])
  (hY: ∀(w:World) (h:Heap),YP w h->(K w.params).In h)
  (F: ∀(w:World) (mg:Str->Option Value) (fa:Addr) (h:Heap),(K w.params).In h->h.Ns mainGlobals mg->mg d.name=some (.ref fa)->
   ∃fd:FuncData,(∀(s:Shared) (u:Value),BindsTo s fd ⟨[u],[]⟩ [("_law_script",u)])/\ ∀base:Heap,(K w.params).In base->base.Ns mainGlobals mg->bM l.prog w (K w.params) mg base fI 12 fa fd ["_law_script"] (lI (K w.params))):
  PySem.W.WalkO q loose XP YP l.row.toRowW d [] (fun f vs=>PySem.call f vs):=
 L2.yC (n:=63) (k:=12) (x:="_law_script") (CX:=fun _=>fI) (sp:=fun w=>lI (K w.params)) hn (by decide) M_ ⟨rfl,by decide,by decide,rfl⟩ hY F (fun _ _ a ns hl _ hS=>⟨a,ns,rfl,hS,hl,fun _=>rfl⟩) fun _ _ _ _ _ z=>z
end My
namespace PySem.W.Fast
def tw10178090059981223065:=Nat
def tw1020925996387119509:=Nat
def tw10336651165898847760:=Nat
def tw10361403830947539130:=Nat
def tw10402454185558973419:=Nat
def tw10496262126682054578:=Nat
def tw10539970496732240388:=Nat
def tw10714201950184359327:=Nat
def tw10741882641148615584:=Nat
def tw10814312937000248657:=Nat
def tw10908841980050855443:=Nat
def tw10916632019248100088:=Nat
def tw10946736036427552898:=Nat
def tw10984261035430928057:=Nat
def tw11032404515061893674:=Nat
def tw11153015516656423457:=Nat
def tw1115888503513690000:=Nat
def tw11252264954123208253:=Nat
def tw1139107621844164091:=Nat
def tw1149253730238963159:=Nat
def tw11504514494032727052:=Nat
def tw11679874827771179563:=Nat
def tw11687853488383279593:=Nat
def tw11699662674811325741:=Nat
def tw11769417896845964799:=Nat
def tw12028785939905232285:=Nat
def tw12123259642470370834:=Nat
def tw12135074666858270039:=Nat
def tw12215053614918278906:=Nat
def tw12231721209888672177:=Nat
def tw12303345212593675526:=Nat
def tw12384150637119630869:=Nat
def tw12401723191627024730:=Nat
def tw1257318495300799375:=Nat
def tw12577475483068479591:=Nat
def tw12685137294630429511:=Nat
def tw12815519416545550919:=Nat
def tw12915437023139594681:=Nat
def tw12971386435269208630:=Nat
def tw13025450712939085866:=Nat
def tw13033644566728338459:=Nat
def tw13033650121004534285:=Nat
def tw13091407856587917575:=Nat
def tw13142115614080632712:=Nat
def tw13434843291172069740:=Nat
def tw13487670841354429344:=Nat
def tw13541081296634786953:=Nat
def tw13636668425354811285:=Nat
def tw13657272416810522593:=Nat
def tw13722624217571745698:=Nat
def tw13746015964199101243:=Nat
def tw13825181807929701066:=Nat
def tw14177326929219839595:=Nat
def tw14190686114545946865:=Nat
def tw14317306953141952982:=Nat
def tw14341635089686661363:=Nat
def tw14432369183808941213:=Nat
def tw14551506976482212502:=Nat
def tw14622752828303235777:=Nat
def tw14745801205390511446:=Nat
def tw14795169420638749408:=Nat
def tw14800630305821395546:=Nat
def tw14855909728551207352:=Nat
def tw14876390195729925224:=Nat
def tw1490458152374699944:=Nat
def tw14948715286797845946:=Nat
def tw15033909164473721500:=Nat
def tw15127965634552981752:=Nat
def tw15140200306374973441:=Nat
def tw15166945772655691000:=Nat
def tw15192167469660995621:=Nat
def tw15497461281703288389:=Nat
def tw15625485184060389550:=Nat
def tw15848567799903486704:=Nat
def tw15877765845575583759:=Nat
def tw15896355669500098070:=Nat
def tw15922451327244000598:=Nat
def tw15974518141477286749:=Nat
def tw16042077520626927654:=Nat
def tw16114351600430684233:=Nat
def tw16267718602760381636:=Nat
def tw16364810790024295817:=Nat
def tw16439685532202784751:=Nat
def tw1651316465116472623:=Nat
def tw16774635614518825966:=Nat
def tw16871921915948609333:=Nat
def tw16940841092406803891:=Nat
def tw17175347590284153041:=Nat
def tw17295413423604885367:=Nat
def tw1735696008940614076:=Nat
def tw17447221244193714867:=Nat
def tw17581670942272019712:=Nat
def tw17860512689842166059:=Nat
def tw18008618007180981659:=Nat
def tw18022642843496281544:=Nat
def tw18290856315243587150:=Nat
def tw18349408817382056550:=Nat
def tw18385013259656951120:=Nat
def tw1986765361926098433:=Nat
def tw2013471088354147866:=Nat
def tw214390822395037626:=Nat
def tw2493953894900729776:=Nat
def tw2522745542064943733:=Nat
def tw2704426788821566940:=Nat
def tw2730637134285614135:=Nat
def tw2794955750782383615:=Nat
def tw2878909616339154448:=Nat
def tw2933599016306453430:=Nat
def tw3075638295487971344:=Nat
def tw3150946582021954530:=Nat
def tw3271523738842662914:=Nat
def tw327955745187682656:=Nat
def tw3285488772379414651:=Nat
def tw3412391927353419729:=Nat
def tw3449921290770860794:=Nat
def tw3459006312498133991:=Nat
def tw3522250966468551446:=Nat
def tw3778806771961036496:=Nat
def tw3875223583327546688:=Nat
def tw3892092274403145000:=Nat
def tw3893399292873609305:=Nat
def tw3944092430897764515:=Nat
def tw3952807675301369599:=Nat
def tw4116282038514526200:=Nat
def tw4126266564207988271:=Nat
def tw4134032881345674485:=Nat
def tw431131248962137015:=Nat
def tw4356365888463113473:=Nat
def tw4473424510573060922:=Nat
def tw4503551613241749097:=Nat
def tw4571358268545441002:=Nat
def tw4645419601755928449:=Nat
def tw471703466083694302:=Nat
def tw471896337470765600:=Nat
def tw4728923718111084146:=Nat
def tw487973022337672124:=Nat
def tw4883649856664885484:=Nat
def tw4921433584314055181:=Nat
def tw5109108183632262547:=Nat
def tw5221676219240998216:=Nat
def tw5268865485353921156:=Nat
def tw5479195132980567963:=Nat
def tw5599365909173996569:=Nat
def tw575571731282030920:=Nat
def tw5852781625088455355:=Nat
def tw58649329599364248:=Nat
def tw5972422324496647233:=Nat
def tw5999871960210449766:=Nat
def tw6063721678789036507:=Nat
def tw6092475524091436520:=Nat
def tw613717794276697562:=Nat
def tw61678389569862877:=Nat
def tw6290099739596659817:=Nat
def tw6365337686890027484:=Nat
def tw6396120427925951382:=Nat
def tw6402351253414237385:=Nat
def tw6407851475389302475:=Nat
def tw649550711437647868:=Nat
def tw6498296021402108161:=Nat
def tw6527956214955158725:=Nat
def tw666752967688879717:=Nat
def tw6767203609161328806:=Nat
def tw6834162169986510681:=Nat
def tw6964528066080715931:=Nat
def tw699518539682750170:=Nat
def tw7120332143135831671:=Nat
def tw7180717690687038428:=Nat
def tw7184352691872562283:=Nat
def tw7214974364678355524:=Nat
def tw7283259051057105745:=Nat
def tw7364484764850064040:=Nat
def tw7487622682347457705:=Nat
def tw7590578900025155855:=Nat
def tw7615573473942795291:=Nat
def tw7645391659728652573:=Nat
def tw765954824015791629:=Nat
def tw7734618514879174318:=Nat
def tw778408650765484817:=Nat
def tw7787058261491025079:=Nat
def tw7842151316816761526:=Nat
def tw7882032598595791801:=Nat
def tw7969893662452782680:=Nat
def tw8003641476230837447:=Nat
def tw8049720035241045847:=Nat
def tw806417604691193198:=Nat
def tw8073320229834945028:=Nat
def tw8241299234845647966:=Nat
def tw8394596569241183082:=Nat
def tw8464973136440129081:=Nat
def tw8469164713528147535:=Nat
def tw8547340981410974154:=Nat
def tw8687260997871268648:=Nat
def tw8842381230023387644:=Nat
def tw8904878571420647132:=Nat
def tw89946350801023913:=Nat
def tw9005977061709094497:=Nat
def tw9290309329403733912:=Nat
def tw9336628180233138980:=Nat
def tw9444766544849269074:=Nat
def tw9742841671805496099:=Nat
end PySem.W.Fast
open PySem PySem.W PyProof.Rows
set_option maxRecDepth 100000 in
set_option maxHeartbeats 0 in
theorem PySem.Challenge.cw_mustmeet_k44_whole_told_otherwise_holds : PySem.Challenge.rw_mustmeet_k44_whole_told_otherwise.Holds := by
 w_on;o_law;k_head;(case hw=>w_witness2)
 k_fill
 refine My.walk (l:=PySem.Challenge.rw_mustmeet_k44_whole_told_otherwise) rfl rfl (fun w h Y=>PySem.W.kIn_of Y) ?F
 case F=>
  intro w mg fa h KX G hmg
  refine' My.all_mk KX G hmg (My.dn ?a0 ?l0 ?c0 ?k0) (My.dn ?a1 ?l1 ?c1 ?k1) (My.dn ?a2 ?l2 ?c2 ?k2) (My.dn ?a3 ?l3 ?c3 ?k3) (My.dn ?a4 ?l4 ?c4 ?k4) (My.dn ?a5 ?l5 ?c5 ?k5) (My.dn ?a6 ?l6 ?c6 ?k6) (My.dn ?a7 ?l7 ?c7 ?k7) (My.dn ?a8 ?l8 ?c8 ?k8) (My.dn ?a9 ?l9 ?c9 ?k9) (My.dn ?a10 ?l10 ?c10 ?k10) (My.dn ?a11 ?l11 ?c11 ?k11) (My.dn ?a12 ?l12 ?c12 ?k12) (My.dn ?a13 ?l13 ?c13 ?k13) (My.dn ?a14 ?l14 ?c14 ?k14) (My.dn ?a15 ?l15 ?c15 ?k15) (My.dn ?a16 ?l16 ?c16 ?k16) (My.dn ?a17 ?l17 ?c17 ?k17) (My.dn ?a18 ?l18 ?c18 ?k18) (My.dn ?a19 ?l19 ?c19 ?k19) (My.dn ?a20 ?l20 ?c20 ?k20) (My.dn ?a21 ?l21 ?c21 ?k21) (My.dn ?a22 ?l22 ?c22 ?k22) (My.dn ?a23 ?l23 ?c23 ?k23) (My.dn ?a24 ?l24 ?c24 ?k24) (My.dn ?a25 ?l25 ?c25 ?k25) (My.dn ?a26 ?l26 ?c26 ?k26) (My.dn ?a27 ?l27 ?c27 ?k27) (My.dn ?a28 ?l28 ?c28 ?k28) (My.dn ?a29 ?l29 ?c29 ?k29) (My.dn ?a30 ?l30 ?c30 ?k30) (My.dn ?a31 ?l31 ?c31 ?k31) (My.dn ?a32 ?l32 ?c32 ?k32) (My.dn ?a33 ?l33 ?c33 ?k33) (My.dn ?a34 ?l34 ?c34 ?k34) (My.dn ?a35 ?l35 ?c35 ?k35) (My.dn ?a36 ?l36 ?c36 ?k36) (My.dn ?a38 ?l38 ?c38 ?k38) (My.dn ?a39 ?l39 ?c39 ?k39) (My.dn ?a42 ?l42 ?c42 ?k42) (My.dn ?a43 ?l43 ?c43 ?k43) (My.dn ?a44 ?l44 ?c44 ?k44) ?q_Seen ?pg_Seen ?hd_Seen ?po_Seen ?sa_Seen ?n_Seen_strand ?n_Seen_way ?n_Seen_place ?q_Way ?pg_Way ?hd_Way ?po_Way ?sa_Way ?n_Way_size ?n_Way_root_size ?n_Way_leads ?n_Way_onward ?n_Way_backward ?mk_Way ?qi_Way ?fi_Way ?kc_Way ?li_Way ?ci_Way ?ki_Way ?mk_Seen ?qi_Seen ?fi_Seen ?kc_Seen ?li_Seen ?ci_Seen ?ki_Seen ?z_enumerate ?z_int ?z_len ?z_list ?z_max ?z_min ?z_range ?z_reversed ?z_sorted ?z_str ?z_tuple
  case a0|l0|c0|k0|a1|l1|c1|k1|a2|l2|c2|k2|a3|l3|c3|k3|a4|l4|c4|k4|a5|l5|c5|k5|a6|l6|c6|k6|a7|l7|c7|k7|a8|l8|c8|k8|a9|l9|c9|k9|a10|l10|c10|k10|a11|l11|c11|k11|a12|l12|c12|k12|a13|l13|c13|k13|a14|l14|c14|k14|a15|l15|c15|k15|a16|l16|c16|k16|a17|l17|c17|k17|a18|l18|c18|k18|a19|l19|c19|k19|a20|l20|c20|k20|a21|l21|c21|k21|a22|l22|c22|k22|a23|l23|c23|k23|a24|l24|c24|k24|a25|l25|c25|k25|a26|l26|c26|k26|a27|l27|c27|k27|a28|l28|c28|k28|a29|l29|c29|k29|a30|l30|c30|k30|a31|l31|c31|k31|a32|l32|c32|k32|a33|l33|c33|k33|a34|l34|c34|k34|a35|l35|c35|k35|a36|l36|c36|k36|a38|l38|c38|k38|a39|l39|c39|k39|a42|l42|c42|k42|a43|l43|c43|k43|a44|l44|c44|k44|q_Seen|pg_Seen|hd_Seen|po_Seen|sa_Seen|n_Seen_strand|n_Seen_way|n_Seen_place|q_Way|pg_Way|hd_Way|po_Way|sa_Way|n_Way_size|n_Way_root_size|n_Way_leads|n_Way_onward|n_Way_backward|mk_Way|qi_Way|fi_Way|kc_Way|li_Way|ci_Way|ki_Way|mk_Seen|qi_Seen|fi_Seen|kc_Seen|li_Seen|ci_Seen|ki_Seen|z_enumerate|z_int|z_len|z_list|z_max|z_min|z_range|z_reversed|z_sorted|z_str|z_tuple=>k_is
