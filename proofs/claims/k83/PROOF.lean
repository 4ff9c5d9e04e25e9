import PyProof.Rows.All
import Wide.All
import OpenK.AllK
import Wide.FinOn
import Lean
import PyProof.EqAt
import PyProof.EqKinds
import PyProof.TupleCall
import PySem.Challenge.RW_mustmeet_k83_whole_however_drawn
set_option Elab.async false
set_option linter.all false
set_option maxRecDepth 100000
open List renaming getElem?_eq_getElem→Kq,getElem?_eq_some_iff→Kr,length_map→QW,length_append→UO,mem_of_getElem?→UQ,idxOf_lt_length_of_mem→UR,mem_singleton→Wv,length_pos_iff→Ww,map_append→Wx,getD_eq_getElem?_getD→Wy,mem_cons→Wz,size_toArray→YN,mem_cons_self→YO,mem_cons_of_mem→YQ,map_cons→Zd,mem_append→Zh,length_take→Zi,getElem?_map→Zk,not_mem_nil→Zl,mem_append_right→Zo,take_of_length_le→Zq,length_drop→Zs,mem_map→Zu,length_cons→Zv,filter_cons_of_neg→Zw,mem_flatMap→Zx,append_nil→Zy,length_reverse→Zz,flatMap_cons→ZC,getElem?_append_left→ZE,getElem_mem→ZF,mem_filter→ZH,map_congr_left→ZJ,nodup_cons→ZK,filter_cons_of_pos→ZL,sum_cons→ZM,getElem_idxOf→ZO,lookup_cons→ZQ,getElem?_append_right→ZT,filter_append→ZU,map_map→ZV,take_length→ZX,flatMap_append→Z1,drop_eq_getElem_cons→Z4,take_append_drop→Z5,pairwise_map→Z8,getElem?_eq_none→Z9,length_eq_zero_iff→Qae,nodup_append→Qag,mem_range→Qah,drop_of_length_le→Qai,append_assoc→Qaj,range_succ→Qak,getElem?_drop→Qan,mem_of_mem_take→Qao,any_cons→Qap,pairwise_cons→Qar,find?_cons→Qau,pairwise_append→Qaw,mem_of_mem_drop→Qax,map_reverse→Qaz,forIn_cons→Qa5,length_filter_le→Qa9,length_range→Qba,flatten_cons→Qbb,mem_append_left→Qbc,getElem_map→Qbf,pairwise_iff_getElem→Qbg,getLast?_eq_getElem?→Qbh,getElem_of_mem→Qbj,getElem?_take→Qbl,eraseIdx_cons_succ→Qbm,lt_irrefl→Qbn,flatMap_singleton→Qbo,drop_eq_nil_of_le→Qbp,getElem?_reverse→Qbq,mem_reverse→Qbr,eq_nil_of_length_eq_zero→Qbs,foldl_cons→Qbv,map_nil→Qb0,filter_congr→Qb6,ext_getElem?→Qb7,length_pos_of_mem→Qco,head?_eq_getElem?→Qcp,cons_lt_cons_iff→Qcv,nodup_nil→Qcy,dropLast_concat→Qcz,replicate_succ→Qc0,getElem?_range→Qc1,filterMap_cons→Qc2,map_take→Qc4,map_drop→Qc5,take_add_one→Qdc,reverse_cons→Qdd,any_eq_false→Qde,flatMap_nil→Qdj,filter_cons→Qdk,cons_append→Qdl,all_eq_true→Qdm,map_id→Qdo,sum_append→Qdr,of_mem_zip→Qds,nil_append→Qdt,filter_map→Qdu
open PySem.Heap renaming get?_push_of_some→Mr,get?_push_size→Ze,lt_size→Zj,get?_update_other→ZR,get?_update_self→Qab,size_push→Qal
open Nat renaming le_refl→UP,zero_le→Zg,ne_of_lt→Zp,lt_of_lt_of_le→Zt,le_trans→ZG,lt_of_le_of_lt→ZI,le_of_lt→ZP,lt_irrefl→ZW,min_eq_right→Z7,min_eq_left→Z_,lt_succ_self→Qad,lt_or_gt_of_ne→Qam,succ_le_succ→Qaq,lt_succ_of_lt→Qav,mod_eq_of_lt→Qay,le_succ→Qa0,mul_comm→Qa1,max_eq_left→Qa4,ne_of_gt→Qbd,max_eq_right→Qbe,mod_lt→Qbk,div_add_mod→Qbu,lt_trans→Qby,lt_asymm→Qbz,le_succ_of_le→Qb5,succ_ne_self→Qcc,zero_add→Qcl,succ_mul→Qcm,sub_self→Qcn,not_lt_zero→Qcs,mod_add_div→Qct,div_lt_iff_lt_mul→Qcu,mod_eq_sub_mod→Qc9,add_comm→Qdb,le_antisymm→Qdq
open Int renaming toNat_natCast→YR,emod_eq_of_lt→ZD,natCast_add→Z2,emod_lt_of_pos→Z6,emod_nonneg→Qaa,add_emod_right→Qa2,emod_emod_of_dvd→Qbt,zero_add→Qb1,add_mul_emod_self_left→Qb4,natCast_emod→Qcd,natCast_ediv→Qce,sub_zero→Qcq,emod_add_mul_ediv→Qcx,natCast_nonneg→Qda,sub_emod→Qdg,emod_add_emod→Qdh,add_zero→Qdi,neg_mul→Qdp,natCast_mul→Qdv
open Option.some renaming inj→Zc
open PySem renaming boot_len→Zf,mem_of_lookup→Qbi
open PySem.F renaming plainAttrs_str→Zm,plainAttrs_list→Zr,type_list_append→ZY,slot_list_append→ZZ,plain_max_loop→Qaf,type_str_join→Qas,slot_str_join→Qat,type_list_pop→Qa6,slot_list_pop→Qa7,type_str_islower→Qb9,slot_str_islower→Qca,type_str_lower→Qcg,type_str_index→Qch,slot_str_lower→Qci,slot_str_index→Qcj,entry_max_loop→Qck
open Bool renaming false_ne_true→Zn,and_eq_true→Z3,false_eq_true→Qa3,eq_iff_iff→Qbw,decide_and→Qbx,eq_false_iff→Qb8,or_false→Qc6,not_true→Qc7,false_or→Qc8
open PySem.W renaming mg_none_of→ZN,callWith_K→Qb2,mg_of→Qc3
open PyProof.Rows renaming callWith_type1→Z0,cnt_nil→Qac,cnt_cons→Qa8
open List.Perm renaming refl→Qb3,append_left→Qcw
open List.Pairwise renaming imp_of_mem→Qcb,imp→Qdf
open Array renaming toList_inj→Qcf
open Option renaming map_some→Qcr
open PySem.Heap.SameBut renaming update→Qdn
namespace L2
open PySem PySem.Spec PyProof.Rows
abbrev Key:=Sum Int Str
noncomputable def rN:Key->Value->Bool
 | .inl k,v=>Value.isInt k v
 | .inr x,v=>Value.isStrOf x v
noncomputable def RY (w:World):Key->Int
 | .inl k=>hashInt k
 | .inr x=>hashStr w x
theorem b7: ∀{k:Key} {v:Value},rN k v=true->(∃i t,k=Sum.inl i/\v=Value.int i t)\/(∃x t,k=Sum.inr x/\v=Value.str x t)
 | .inl i,v,h=>by
  obtain ⟨t,e⟩:=Value.isInt_shape (k:=i) (v:=v) h
  exact .inl ⟨i,t,rfl,e⟩
 | .inr x,v,h=>by
  obtain ⟨t,e⟩:=Value.isStrOf_shape (x:=x) (v:=v) h
  exact .inr ⟨x,t,rfl,e⟩
theorem A_ (i:Int) (t:Tok):rN (.inl i) (.int i t)=true:=by simp[rN,Value.isInt]
theorem Ba (x:Str) (t:Tok):rN (.inr x) (.str x t)=true:=by simp[rN,Value.isStrOf]
theorem JE (a b:Int):decide ((Sum.inl a:Key)=Sum.inl b)=(a==b):=by
 by_cases e:a=b
 ·subst e;simp
 ·have h: ¬(Sum.inl a:Key)=Sum.inl b:=fun q=>e (Sum.inl.inj q)
  rw[decide_eq_false h]
  exact (beq_eq_false_iff_ne.mpr e).symm
theorem JF (a b:Str):decide ((Sum.inr a:Key)=Sum.inr b)=decide (a=b):=by
 by_cases e:a=b
 ·subst e;simp
 ·have h: ¬(Sum.inr a:Key)=Sum.inr b:=fun q=>e (Sum.inr.inj q)
  rw[decide_eq_false h,decide_eq_false e]
theorem JG (a:Int) (b:Str):decide ((Sum.inl a:Key)=Sum.inr b)=false:=decide_eq_false (fun q=>nomatch q)
theorem JH (a:Str) (b:Int):decide ((Sum.inr a:Key)=Sum.inl b)=false:=decide_eq_false (fun q=>nomatch q)
noncomputable def cA (prog:Program) (w:World):PySem.KeyKind prog w Key where
 is:=rN
 hash:=RY w
 inj:=fun v a b ha hb=>by
  rcases b7 ha with ⟨i,t,rfl,rfl⟩ | ⟨x,t,rfl,rfl⟩
  ·rcases b7 hb with ⟨j,u,rfl,e⟩ | ⟨y,u,rfl,e⟩
   ·injection e with e1 _;rw[e1]
   ·exact nomatch e
  ·rcases b7 hb with ⟨j,u,rfl,e⟩ | ⟨y,u,rfl,e⟩
   ·exact nomatch e
   ·injection e with e1 _;rw[e1]
 byValue:=fun k v h=>by
  rcases b7 h with ⟨i,t,rfl,rfl⟩ | ⟨x,t,rfl,rfl⟩<;>rfl
 pyHash:=fun hv h=>by
  rcases b7 hv with ⟨i,t,rfl,rfl⟩ | ⟨x,t,rfl,rfl⟩
  ·exact wpAny_pyHash_int h
  ·exact wpAny_pyHash_str h
 eqBool:=fun hu hv h=>by
  rcases b7 hu with ⟨i,t,rfl,rfl⟩ | ⟨x,t,rfl,rfl⟩
  ·rcases b7 hv with ⟨j,u,rfl,rfl⟩ | ⟨y,u,rfl,rfl⟩
   ·rw[JE]at h;exact wpAny_eqBool_int h
   ·rw[JG]at h;exact SeqAt.EqAt.int_str i t y u _ _ _ _ h
  ·rcases b7 hv with ⟨j,u,rfl,rfl⟩ | ⟨y,u,rfl,rfl⟩
   ·rw[JH]at h;exact SeqAt.EqAt.str_int x t j u _ _ _ _ h
   ·rw[JF]at h;exact wpAny_eqBool_str h
 «strs» :=fun k x t v h=>by
  rcases b7 h with ⟨i,u,rfl,e⟩ | ⟨y,u,rfl,e⟩
  ·exact nomatch e
  ·injection e with e1 _
   subst e1
   cases v<;>rfl
theorem vE (prog:Program) (w:World) (i:Int) (t:Tok):(cA prog w).is (.inl i) (.int i t)=true:=A_ i t
theorem vF (prog:Program) (w:World) (x:Str) (t:Tok):(cA prog w).is (.inr x) (.str x t)=true:=Ba x t
inductive V where
 | fH | bl (b:Bool) | int (i:Int) | str (x:Str) | zF (b:Array UInt8) | QK (b:UInt64) | ref (a:Addr) | ty (n:String)
 deriving DecidableEq
def RelV:V->Value->Prop
 | .fH,u=>u=Value.none
 | .bl b,u=>u=Value.bool b
 | .int i,u=> ∃t,u=Value.int i t
 | .str x,u=> ∃t,u=Value.str x t
 | .zF b,u=> ∃t,u=Value.bytes b t
 | .QK b,u=> ∃t,u=Value.float b t
 | .ref a,u=>u=Value.ref a
 | .ty n,u=>u=Value.type n
abbrev Vals:List V->List Value->Prop:=Paired RelV
theorem Vals.length {xs:List V} {us:List Value} (r:Vals xs us):xs.length=us.length:=Paired.length r
theorem Vals.get: ∀{xs:List V} {us:List Value} {i:Nat} {x:V},Vals xs us->xs[i]? =some x-> ∃u,us[i]? =some u/\RelV x u
 | _,_,_,_, .nil,e=>by simp at e
 | _,_,0,_, .cons r _,e=>by simp at e;subst e;exact ⟨_,rfl,r⟩
 | _,_,i+1,x, .cons _ t,e=>by
  obtain ⟨u,h1,h2⟩:=Vals.get (i:=i) (x:=x) t (by simpa using e)
  exact ⟨u,by simpa using h1,h2⟩
theorem Vals.set {x:V} {u:Value} (r:RelV x u): ∀{xs:List V} {us:List Value} (i:Nat),Vals xs us->Vals (xs.set i x) (us.set i u)
 | _,_,_, .nil=> .nil
 | _,_,0, .cons _ t=> .cons r t
 | _,_,i+1, .cons q t=> .cons q (Vals.set r i t)
theorem Vals.append: ∀{xs ys:List V} {us ws:List Value},Vals xs us->Vals ys ws->Vals (xs++ys) (us++ws)
 | _,_,_,_, .nil,s=>s
 | _,_,_,_, .cons r t,s=> .cons r (Vals.append t s)
theorem Vals.take: ∀{xs:List V} {us:List Value} (n:Nat),Vals xs us->Vals (xs.take n) (us.take n)
 | _,_,0,_=> .nil
 | _,_,_+1, .nil=> .nil
 | _,_,n+1, .cons r t=> .cons r (Vals.take n t)
theorem Vals.drop: ∀{xs:List V} {us:List Value} (n:Nat),Vals xs us->Vals (xs.drop n) (us.drop n)
 | _,_,0,r=>r
 | _,_,_+1, .nil=> .nil
 | _,_,n+1, .cons _ t=>Vals.drop n t
def mm:Option V->Option Value->Prop
 | some v,some u=>RelV v u
 | none,none=>True
 | _,_=>False
def KV {κ:Type}:List (κ×V)->List (κ×Value)->Prop:=Paired fun (p:κ×V) (q:κ×Value)=>p.1=q.1/\RelV p.2 q.2
noncomputable def kV:Key->V
 | .inl i=> .int i
 | .inr x=> .str x
inductive HO where
  | lst (xs:List V)
  | tup (xs:List V)
  | dK (aP:List (Key×V)) | dT (aP:List (List Key×V))
  | set (S:Int->Bool) (n:Nat)
  | ins (C dx:Addr) (fs:List (Str×V))
  | own (x:Addr)
  | xd (fs:List (Str×V))
  | met (f x:Addr)
  | RZ (lo hi:Int)
  | FO (o:Obj) (u:HO)
  | JI (ps:Array Value)
  | ext (φ:Heap->Prop)
abbrev Hp:=Addr->Option HO
noncomputable def upd (H:Hp) (a:Addr) (o:HO):Hp:=fun b=>if b=a then some o else H b
theorem ag {H:Hp} {a:Addr} {o:HO}:upd H a o a=some o:=by unfold upd;rw[if_pos rfl]
theorem ar {H:Hp} {a b:Addr} {o:HO} (h:b≠a):upd H a o b=H b:=by unfold upd;rw[if_neg h]
theorem N9 {H:Hp} {a b:Addr} {o u:HO} (h:H a=some o) (h':H b=some u) (d:o≠u):a≠b:=by
 intro e;subst e;rw[h]at h';exact d (Zc h')
theorem au {H:Hp} {a b:Addr} {o:HO} (h:H a=some o) (h':H b=none):a≠b:=by
 intro e;subst e;rw[h]at h';cases h'
section
variable (P:Program) (w:World)
def cQ (H:Hp) (h:Heap) (a:Addr):HO->Prop
 | .lst xs=>xs.length<=sizeLine/\ ∃(aJ:List Value) (n:Nat),Vals xs aJ/\h.get? a=some { cls:= .type "list",data:= .seq aJ.toArray n }
 | .tup xs=>xs.length<=sizeLine/\ ∃aJ:List Value,Vals xs aJ/\IsTup h a aJ.toArray
 | .dK aP=>aP.length<=sizeLine/\(a==sysModules)=false/\ ∃vs,KV aP vs/\h.DictOf (cA P w) a vs
 | .dT aP=>aP.length<=sizeLine/\(a==sysModules)=false/\ ∃xs:List (List Key×Addr×Value),
   Paired (fun (p:List Key×V) (q:List Key×Addr×Value)=>p.1=q.1/\H q.2.1=some (.tup (p.1.map kV))/\RelV p.2 q.2.2) aP xs/\
   ∃o es ep,h.get? a=some o/\o.ExactDict/\o.data= .dict es ep/\es.toList=xs.map (entryOfKey (tupleKind (cA P w)))/\(xs.map (·.1)).Nodup
 | .set S n=>h.SetOf (intKind P w) a S n
 | .ins C dx fs=>H dx=some (.own a)/\fs.length<=1000/\dx≠a/\h.get? a=some (PySem.W.instObj C dx)/\
   ∃mA,h.Ns1 dx mA/\(∀f,mm (fs.lookup f) (mA f))/\PySem.Within mA (fs.map (·.1))
 | .own _=> ∃o,h.get? a=some o
 | .xd fs=> ∃mA,h.Ns1 a mA/\ ∀f,mm (fs.lookup f) (mA f)
 | .RZ lo hi=> ∃t u v,h.get? a=some { cls:= .type "range",data:= .fields #[.int lo t, .int hi u, .int 1 v] }
 | .FO o u=>h.get? a=some o/\cQ H h a u
 | .JI ps=>h.get? a=some { cls:= .none,data:= .fields ps }
 | .met f x=>h.get? a=some (PySem.W.methodObj (.ref f) (.ref x))
 | .ext φ=>φ h/\(∃o,h.get? a=some o)/\ ∀h1 h2:Heap,φ h1->(∀o,h1.get? a=some o->h2.get? a=some o)->φ h2
def kC (H:Hp) (h:Heap):Prop:= ∀a o,H a=some o->cQ P w H h a o
end
section
variable {P:Program} {w:World} {H H':Hp} {h h':Heap} {a:Addr} {o:HO}
theorem cQ.lt (x:cQ P w H h a o):a<h.objs.size:=by
 cases o with
 | lst xs=>obtain ⟨_,_,_,_,e⟩:=x;exact Zj e
 | tup xs=>obtain ⟨_,_,_,p⟩:=x;exact p.lt
 | dK aP=>obtain ⟨_,_,_,_,o,_,_,e,_⟩:=x;exact Zj e
 | dT aP=>obtain ⟨_,_,_,_,o,_,_,e,_⟩:=x;exact Zj e
 | set S n=>obtain ⟨o,_,_,_,e,_⟩:=x;exact Zj e
 | ins C dx fs=>obtain ⟨_,_,_,e,_⟩:=x;exact Zj e
 | own y=>obtain ⟨_,e⟩:=x;exact Zj e
 | xd fs=>obtain ⟨_,⟨_,_,_,e,_⟩,_⟩:=x;exact Zj e
 | RZ lo hi=>obtain ⟨_,_,_,e⟩:=x;exact Zj e
 | FO ob u=>obtain ⟨e,_⟩:=x;exact Zj e
 | JI ps=>exact Zj (show h.get? a=some _ from x)
 | met f y=>exact Zj (show h.get? a=some _ from x)
 | ext φ=>obtain ⟨_,⟨_,e⟩,_⟩:=x;exact Zj e
theorem Paired.JJ {α β:Type} {F G:α->β->Prop}: ∀{l₁:List α} {l₂:List β},Paired F l₁ l₂->(∀a b,F a b->G a b)->Paired G l₁ l₂
 | _,_, .nil,_=> .nil
 | _,_, .cons r t,f=> .cons (f _ _ r) (Paired.JJ t f)
theorem cQ.vG (x:cQ P w H h a o) (k: ∀b u,(b=a\/H b=some (.own a))->h.get? b=some u->h'.get? b=some u)
  (ho: ∀b,H b=some (.own a)->H' b=some (.own a)) (ht: ∀b xs,H b=some (.tup xs)->H' b=some (.tup xs)):cQ P w H' h' a o:=by
 induction o with
 | lst xs=>obtain ⟨z,aJ,n,r,e⟩:=x;exact ⟨z,aJ,n,r,k _ _ (.inl rfl) e⟩
 | tup xs=>obtain ⟨z,aJ,r,ob,e,c⟩:=x;exact ⟨z,aJ,r,ob,k _ _ (.inl rfl) e,c⟩
 | dK aP=>obtain ⟨z,y,vs,r,ob,es,ep,e,c⟩:=x;exact ⟨z,y,vs,r,ob,es,ep,k _ _ (.inl rfl) e,c⟩
 | dT aP=>
  obtain ⟨z,y,xs,r,ob,es,ep,e,c⟩:=x
  exact ⟨z,y,xs,Paired.JJ r fun p q z=>⟨z.1,ht _ _ z.2.1,z.2.2⟩,ob,es,ep,k _ _ (.inl rfl) e,c⟩
 | set S n=>obtain ⟨ob,es,ep,t,e,c⟩:=x;exact ⟨ob,es,ep,t,k _ _ (.inl rfl) e,c⟩
 | ins C dx fs=>
  obtain ⟨d,z,ne,e,mA,⟨od,es,ep,e2,c⟩,r⟩:=x
  exact ⟨ho _ d,z,ne,k _ _ (.inl rfl) e,mA,⟨od,es,ep,k _ _ (.inr d) e2,c⟩,r⟩
 | own y=>obtain ⟨ob,e⟩:=x;exact ⟨ob,k _ _ (.inl rfl) e⟩
 | xd fs=>obtain ⟨mA,⟨od,es,ep,e,c⟩,r⟩:=x;exact ⟨mA,⟨od,es,ep,k _ _ (.inl rfl) e,c⟩,r⟩
 | RZ lo hi=>obtain ⟨t,u,v,e⟩:=x;exact ⟨t,u,v,k _ _ (.inl rfl) e⟩
 | FO ob u ih=>obtain ⟨e,q⟩:=x;exact ⟨k _ _ (.inl rfl) e,ih q⟩
 | JI ps=>
  have e:h.get? a=some { cls:= .none,data:= .fields ps }:=x
  show h'.get? a=some { cls:= .none,data:= .fields ps }
  exact k a _ (.inl rfl) e
 | met f y=>
  have e:h.get? a=some (PySem.W.methodObj (.ref f) (.ref y)):=x
  show h'.get? a=some (PySem.W.methodObj (.ref f) (.ref y))
  exact k a _ (.inl rfl) e
 | ext φ=>obtain ⟨p,⟨o,e⟩,st⟩:=x;exact ⟨st _ _ p fun o q=>k _ _ (.inl rfl) q,⟨o,k _ _ (.inl rfl) e⟩,st⟩
theorem kC.lt (x:kC P w H h) (e:H a=some o):a<h.objs.size:=(x a o e).lt
theorem kC.fresh (x:kC P w H h) (e:h.objs.size<=a):H a=none:=by
 cases q:H a with
 | none=>rfl
 | some u=>exact absurd (Zt (x.lt q) e) (ZW _)
theorem kC.kept (x:kC P w H h) (k: ∀b u,h.get? b=some u->h'.get? b=some u):kC P w H h':=fun a o e=>
 (x a o e).vG (fun b u _ q=>k b u q) (fun _ q=>q) fun _ _ q=>q
theorem kC.laid (x:kC P w H h) (k: ∀b u,h.get? b=some u->h'.get? b=some u) (hp:h.objs.size<=a) (new:cQ P w (upd H a o) h' a o):kC P w (upd H a o) h':=fun b u e=>by
 have hn:=x.fresh hp
 by_cases hb:b=a
 ·subst hb;rw[ag]at e;cases e;exact new
 ·rw[ar hb]at e
  exact (x b u e).vG (fun c v _ q=>k c v q) (fun c q=>by rw[ar (au q hn)];exact q) fun c xs q=>by rw[ar (au q hn)];exact q
end
def Rd (H:Hp) (a:Addr) (u:HO):Prop:=H a=some u\/ ∃o,H a=some (.FO o u)
theorem Rd.ok {P:Program} {w:World} {H:Hp} {h:Heap} {a:Addr} {u:HO} (r:Rd H a u) (x:kC P w H h):cQ P w H h a u:=by
 rcases r with r | ⟨o,r⟩
 ·exact x a u r
 ·obtain ⟨_,q⟩:=x a _ r
  exact q
def N_:Option HO->Prop
 | some (.lst _)=>True
 | some (.dK _)=>True
 | some (.dT _)=>True
 | some (.set _ _)=>True
 | some (.ins _ _ _)=>True
 | some (.ext _)=>True
 | _=>False
section
variable {P:Program} {w:World} {H:Hp} {h h':Heap} {x e:Addr} {o':HO}
theorem kC.write (ok:kC P w H h) (mu:N_ (H x)) (he:e=x\/H e=some (.own x)) (k: ∀b u,b≠e->h.get? b=some u->h'.get? b=some u) (Mm: ∃u,h'.get? e=some u)
  (new:cQ P w (upd H x o') h' x o'):kC P w (upd H x o') h':=fun b u q=>by
 have Oa: ∀c y,H c=some (.own y)->c≠x:=fun c y r z=>by subst z;rw[r]at mu;exact mu
 have R0: ∀c xs,H c=some (.tup xs)->c≠x:=fun c xs r z=>by subst z;rw[r]at mu;exact mu
 by_cases hb:b=x
 ·subst hb;rw[ag]at q;cases q;exact new
 ·rw[ar hb]at q
  by_cases FP:b=e
  ·have q':H b=some (.own x):=by
    rcases he with z | z
    ·exact absurd (FP.trans z) hb
    ·rw[FP];exact z
   rw[q]at q';cases q'
   obtain ⟨v,hv⟩:=Mm
   exact ⟨v,by rw[FP];exact hv⟩
  ·refine (ok b u q).vG (fun c v hc r=>k c v ?_ r) (fun c r=>by rw[ar (Oa c b r)];exact r) fun c xs r=>by rw[ar (R0 c xs r)];exact r
   rcases hc with rfl | hc
   ·exact FP
   ·rintro rfl
    rcases he with z | z
    ·exact Oa c b hc z
    ·rw[hc]at z;cases z;exact hb rfl
end
structure Un (fs ex:List Addr) (H H':Hp) (h h':Heap):Prop where
 keep: ∀b o,h.get? b=some o->H b=none->b∉fs->b∉ex->h'.get? b=some o
 slot: ∀b o,h.get? b=some o->H b=none->b∈fs->b∉ex-> ∃sl,h'.get? b=some { o with slots:=sl }
 free: ∀b o,h.get? b=some o->H b=none->b∉ex->H' b=none
 there: ∀b o,h.get? b=some o->b∉ex-> ∃o',h'.get? b=some o'
 q9: ∀b xs,H b=some (.tup xs)->H' b=some (.tup xs)
 o4: ∀b o u,H b=some (.FO o u)->H' b=some (.FO o u)
 tM: ∀b ps,H b=some (.JI ps)-> ∃more,H' b=some (.JI (ps++more))
section
variable {fs V7 ex YH:List Addr} {H H1 H2:Hp} {h h1 h2 h':Heap} {a x e:Addr} {o:HO}
theorem Un.any (u:Un fs ex H H1 h h1) {b:Addr} {ob:Obj} (q:h.get? b=some ob) (n:H b=none) (hx:b∉ex): ∃sl,h1.get? b=some { ob with slots:=sl }:=by
 by_cases hb:b∈fs
 ·exact u.slot b ob q n hb hx
 ·exact ⟨ob.slots,u.keep b ob q n hb hx⟩
theorem Un.kept (k: ∀b u,h.get? b=some u->h'.get? b=some u):Un fs ex H H h h':=
 ⟨fun b ob q _ _ _=>k b ob q,fun b ob q _ _ _=>⟨ob.slots,k b ob q⟩,fun _ _ _ n _=>n,fun b ob q _=>⟨ob,k b ob q⟩,fun _ _ q=>q,fun _ _ _ q=>q,fun _ ps q=>⟨#[],by rw[q];simp⟩⟩
theorem Un.refl:Un fs ex H H h h:=Un.kept fun _ _ q=>q
theorem Un.laid (k: ∀b u,h.get? b=some u->h'.get? b=some u) (hp:h.objs.size<=a) (hn:H a=none):Un fs ex H (upd H a o) h h' where
 keep:=fun b u q _ _ _=>k b u q
 slot:=fun b u q _ _ _=>⟨u.slots,k b u q⟩
 free:=fun b u q n _=>by rw[ar (Zp (Zt (Zj q) hp))];exact n
 there:=fun b u q _=>⟨u,k b u q⟩
 q9:=fun b xs q=>by rw[ar (au q hn)];exact q
 o4:=fun b u xs q=>by rw[ar (au q hn)];exact q
 tM:=fun b ps q=>⟨#[],by rw[ar (au q hn),q];simp⟩
theorem Un.write (mu:N_ (H x)) (he:e=x\/H e=some (.own x)) (k: ∀b u,b≠e->h.get? b=some u->h'.get? b=some u) (Mm: ∃u,h'.get? e=some u):Un fs ex H (upd H x o) h h':=by
 have hx: ∀b,H b=none->b≠x:=fun b n z=>by subst z;rw[n]at mu;exact mu
 have hb: ∀b,H b=none->b≠e:=fun b n z=>by
  subst z
  rcases he with r | r
  ·exact hx b n r
  ·rw[n]at r;cases r
 have hm: ∀b u,H b=some u-> ¬N_ (some u)->b≠x:=fun b u q nm z=>by subst z;rw[q]at mu;exact nm mu
 refine ⟨fun b u q n _ _=>k b u (hb b n) q,fun b u q n _ _=>⟨u.slots,k b u (hb b n) q⟩,fun b u q n _=>by rw[ar (hx b n)];exact n,fun b u q _=>?_,
  fun b xs q=>by rw[ar (hm b _ q fun z=>z)];exact q,fun b u xs q=>by rw[ar (hm b _ q fun z=>z)];exact q,fun b ps q=>⟨#[],by rw[ar (hm b _ q fun z=>z),q];simp⟩⟩
 by_cases FP:b=e
 ·subst FP;exact Mm
 ·exact ⟨u,k b u FP q⟩
end
noncomputable def QL (h:Heap) (H:Hp):List Addr:=(List.range h.objs.size).filter fun a=>(H a).isSome
noncomputable def tN (h:Heap) (H:Hp):Heap:=PySem.W.hideAll h (QL h H)
theorem Bb (h:Heap) (H:Hp):(tN h H).objs.size=h.objs.size:=PySem.W.hideAll_size _ _
theorem CT {h:Heap} {H:Hp} {b:Addr} {o:Obj} (e:h.get? b=some o) (n:H b=none):(tN h H).get? b=some o:=
 PySem.W.hideAll_get _ e fun hm=>by
  have q:(H b).isSome=true:=(ZH.mp hm).2
  rw[n]at q;simp at q
theorem Gz {h:Heap} {H:Hp} {b:Addr} {o:Obj} (e:(tN h H).get? b=some o):h.get? b=some o/\H b=none:=by
 have e':h.get? b=some o:=PySem.W.of_hideAll (QL h H) e
 refine ⟨e',?_⟩
 cases q:H b with
 | none=>rfl
 | some x=>
  have hm:b∈QL h H:=ZH.mpr ⟨Qah.mpr (Zj e'),by simp[q]⟩
  have z:(tN h H).get? b=none:=PySem.W.hideAll_none (QL h H) hm
  rw[z]at e;cases e
structure Mod (K:PySem.W.Frag) (mg:Str->Option Value) (base:Heap):Prop where
 Mn:K.In base
 glob:base.Ns mainGlobals mg
 blt: ∃mb,base.Ns builtinsNs mb/\ ∀x:Str,x≠"__name__"->mb x=bootBuiltins x
 nolimit:base.NoLimit
structure Cx where
 prog:Program
 w:World
 K:PySem.W.Frag
 mg:Str->Option Value
 base:Heap
 A:Around
 N:List Str
 s₀:Shared
 H₀:Hp
 env:Env
 outer:List Env
 stack:List Env
 ex:List Addr
 fn:Str->Bool
 calm:Bool
 pn:List (Addr×Obj)
 xe:Value->Shared->Prop
noncomputable def zG (l:List Env):List Addr:=l.filterMap (·.frame)
noncomputable abbrev Cx.fs (X:Cx):List Addr:=zG X.outer
def Ob (sc:Scope) (x:Str):Prop:=sc.names.lookup x=some .local\/sc.names.lookup x=some .cell\/sc.names.lookup x=some .free
def Loc (sc:Scope) (x:Str):Prop:=sc.names.lookup x=some .local\/sc.names.lookup x=some .cell
def Look (env:Env) (h:Heap) (m:Str->Option Value) (x:Str) (u:Value):Prop:=
 (env.kindOf x=some .local/\m x=some u)\/((env.kindOf x=some .cell\/env.kindOf x=some .free)/\ ∃c,env.cells.lookup x=some c/\h.IsCell c (some u))
structure Cx.Ok (X:Cx):Prop where
 mod:Mod X.K X.mg X.base
 kind:X.env.scope.kind= .function
 glob:X.env.globals=mainGlobals
 blt:X.env.builtins=builtinsNs
 above:X.s₀.heap.objs.size<=X.env.locals
 inj: ∀x y c,X.env.cells.lookup x=some c->X.env.cells.lookup y=some c->x=y
 has: ∀x,(X.env.kindOf x=some .cell\/X.env.kindOf x=some .free)-> ∃c,X.env.cells.lookup x=some c
 Oc: ∀x c,X.fn x=true->X.env.cells.lookup x=some c->X.s₀.heap.objs.size<=c
 hd:X.calm=true->X.A.handled=none
 frames:X.A.frames=some X.stack
 QM:X.stack=X.outer\/(X.stack=X.env::X.outer/\X.env.frame=some X.env.locals)
 UB: ∀b∈X.ex,b≠X.env.locals/\ ∀x c,X.env.cells.lookup x=some c->c≠b
 bs: ∀b o,X.base.get? b=some o->X.s₀.heap.get? b=some o/\X.H₀ b=none
 GA:X.base.objs.size<=X.s₀.heap.objs.size
 CU: ∀b o,X.base.get? b=some o->b∉X.ex
 GB: ∀b∈X.ex,b∉X.fs
 nQ:X.s₀.heap.FunFrames X.base X.outer
 JK: ∀b∈X.fs,X.H₀ b=none
structure Inv (X:Cx) (pins:List (Addr×Obj)) (σ:List (Option V)) (H:Hp) (s:Shared):Prop where
 ok:X.Ok
 os:s.os=X.s₀.os
 bare:AllBare s.gens
 base:Un X.fs X.ex X.H₀ H X.s₀.heap s.heap
 loc: ∃m,s.heap.Ns X.env.locals m/\ ∀(i:Nat) (x:Str) (v:V),X.N[i]? =some x->σ[i]? =some (some v)->Ob X.env.scope x-> ∃u,RelV v u/\Look X.env s.heap m x u
 cell: ∀x c,X.env.cells.lookup x=some c-> ∃v,s.heap.IsCell c v
 free:H X.env.locals=none
 iV: ∀x c,X.env.cells.lookup x=some c->H c=none
 pin: ∀p∈X.pn++pins,s.heap.get? p.1=some p.2/\H p.1=none/\p.1≠X.env.locals/\p.1∉X.fs/\ ∀v,p.2.data≠ .cell v
 bZ:kC X.prog X.w H s.heap
 len:σ.length=X.N.length
section
variable {X:Cx} {pins:List (Addr×Obj)} {σ:List (Option V)} {H H':Hp} {s:Shared} {h':Heap}
theorem Cx.Ok.R1 (ok:X.Ok) {b:Addr} {o:Obj} (e:X.base.get? b=some o):b∉X.fs:=fun hb=>by
 have:=(ok.nQ.mem hb).1
 rw[e]at this;cases this
theorem Inv.bs (I:Inv X pins σ H s): ∀b o,X.base.get? b=some o->s.heap.get? b=some o/\H b=none:=fun b o e=>
 ⟨I.base.keep b o (I.ok.bs b o e).1 (I.ok.bs b o e).2 (I.ok.R1 e) (I.ok.CU b o e),I.base.free b o (I.ok.bs b o e).1 (I.ok.bs b o e).2 (I.ok.CU b o e)⟩
theorem Inv.bk (I:Inv X pins σ H s): ∀b o,X.base.get? b=some o->s.heap.get? b=some o:=fun b o e=>(I.bs b o e).1
theorem Inv.mod (I:Inv X pins σ H s):Mod X.K X.mg X.base:=I.ok.mod
theorem Inv.Bc (I:Inv X pins σ H s):X.K.In s.heap:=I.ok.mod.Mn.keeps I.bk
theorem Inv.lt (I:Inv X pins σ H s):X.env.locals<s.heap.objs.size:=let ⟨_,hn,_⟩:=I.loc;hn.lt
theorem Inv.sz (I:Inv X pins σ H s):X.s₀.heap.objs.size<=s.heap.objs.size:=ZG I.ok.above (ZP I.lt)
theorem Inv.JL (I:Inv X pins σ H s) {a:Addr} (h:s.heap.objs.size<=a):a∉X.fs:=fun hb=>by
 obtain ⟨_,o,ho,_⟩:=I.ok.nQ.mem hb
 exact absurd (Zt (Zj ho) (ZG I.sz h)) (ZW _)
theorem Inv.JM (I:Inv X pins σ H s): ∀x c,X.env.cells.lookup x=some c->c≠X.env.locals:=fun x c e z=>by
 obtain ⟨v,o,ho,hd⟩:=I.cell x c e
 obtain ⟨m,⟨o',es,ep,CV,R3,_⟩,_⟩:=I.loc
 rw[z,CV]at ho;cases ho;rw[R3]at hd;cases hd
theorem Inv.nQ (I:Inv X pins σ H s):s.heap.FunFrames X.base X.outer:=by
 have all: ∀(l:List Env),(∀b∈zG l,b∈X.fs)->X.s₀.heap.FunFrames X.base l->s.heap.FunFrames X.base l:=by
  intro l
  induction l with
  | nil=>intro _ _;trivial
  | cons env r ih=>
   intro hs hl
   obtain ⟨hk,⟨L,o,hf,hn,ho,hd⟩,hr⟩:=hl
   have hL:L∈X.fs:=hs L (by unfold zG;rw[Qc2,hf];exact YO)
   obtain ⟨sl,e⟩:=I.base.slot L o ho (I.ok.JK L hL) hL fun z=>I.ok.GB L z hL
   exact ⟨hk,⟨L,_,hf,hn,e,hd⟩,ih (fun b hb=>hs b (by unfold zG;rw[Qc2,hf];exact YQ _ hb)) hr⟩
 exact all X.outer (fun _ hb=>hb) I.ok.nQ
theorem Inv.stack (I:Inv X pins σ H s):s.heap.FunFrames X.base X.stack:=by
 rcases I.ok.QM with e | ⟨e,hf⟩
 ·rw[e];exact I.nQ
 ·rw[e]
  obtain ⟨m,hn,_⟩:=I.loc
  refine .cons (by rw[I.ok.kind];decide) hf hn ?_ I.nQ
  exact Heap.get?_none_of_le (ZG I.ok.GA I.ok.above)
theorem Inv.o5 (I:Inv X pins σ H s): ∀b∈zG X.stack,b∈X.env.locals::X.fs:=fun b hb=>by
 rcases I.ok.QM with e | ⟨e,hf⟩
 ·rw[e]at hb;exact YQ _ hb
 ·rw[e]at hb
  unfold zG at hb
  rw[Qc2,hf]at hb
  exact hb
theorem Inv.zH (I:Inv X pins σ H s): ∀b∈zG X.stack,H b=none:=fun b hb=>by
 rcases Wz.mp (I.o5 b hb) with e | hb
 ·rw[e];exact I.free
 ·obtain ⟨_,o,ho,_⟩:=I.ok.nQ.mem hb
  exact I.base.free b o ho (I.ok.JK b hb) fun z=>I.ok.GB b z hb
theorem Inv.step {g':Array GenState} {t':Nat} {d':Drawn} {ch:List Addr} (I:Inv X pins σ H s)
  (FQ: ∀b∈ch,(b∈X.ex\/X.s₀.heap.objs.size<=b)/\b≠X.env.locals/\(∀x c,X.env.cells.lookup x=some c->c≠b)/\ ∀p∈X.pn++pins,p.1≠b)
  (keep: ∀b o,b≠X.env.locals->b∉X.fs->b∉ch->s.heap.get? b=some o->H b=none->h'.get? b=some o)
  (slot: ∀b o,b≠X.env.locals->b∈X.fs->b∉ch->s.heap.get? b=some o->H b=none-> ∃sl,h'.get? b=some { o with slots:=sl }) (free: ∀b o,b∉ch->s.heap.get? b=some o->H b=none->H' b=none)
  (there: ∀b o,b∉ch->s.heap.get? b=some o-> ∃o',h'.get? b=some o')
  (q9: ∀b xs,H b=some (.tup xs)->H' b=some (.tup xs)) (o4: ∀b o u,H b=some (.FO o u)->H' b=some (.FO o u)) (tM: ∀b ps,H b=some (.JI ps)-> ∃more,H' b=some (.JI (ps++more)))
  (ns: ∀m,s.heap.Ns X.env.locals m->h'.Ns X.env.locals m) (bZ:kC X.prog X.w H' h') (hg:AllBare g'):
  Inv X pins σ H' { s with heap:=h',gens:=g',drawn:=d',toks:=t' }:=by
 have UC: ∀b o,X.s₀.heap.get? b=some o->b≠X.env.locals:=fun b o e=>Zp (Zt (Zj e) I.ok.above)
 have JN: ∀b o,X.s₀.heap.get? b=some o->b∉X.ex->b∉ch:=fun b o e hx hb=>by
  rcases (FQ b hb).1 with z | z
  ·exact hx z
  ·exact absurd (Zt (Zj e) z) (ZW _)
 have cellK: ∀x c,X.env.cells.lookup x=some c-> ∀v,s.heap.IsCell c v->h'.IsCell c v:=fun x c e v ⟨o,ho,hd⟩=>by
  have Oe:c∉ch:=fun z=>(FQ c z).2.2.1 x c e rfl
  by_cases hc:c∈X.fs
  ·obtain ⟨sl,q⟩:=slot c o (I.JM x c e) hc Oe ho (I.iV x c e)
   exact ⟨_,q,hd⟩
  ·exact ⟨o,keep c o (I.JM x c e) hc Oe ho (I.iV x c e),hd⟩
 refine ⟨I.ok,I.os,hg,⟨fun b o e n hb hx=>?_,fun b o e n hb hx=>?_,fun b o e n hx=>?_,fun b o e hx=>?_,fun b xs e=>q9 b xs (I.base.q9 b xs e),fun b o xs e=>o4 b o xs (I.base.o4 b o xs e),fun b ps e=>?_⟩,?_,fun x c e=>?_,?_,fun x c e=>?_,fun p hp=>?_,bZ,I.len⟩
 ·exact keep b o (UC b o e) hb (JN b o e hx) (I.base.keep b o e n hb hx) (I.base.free b o e n hx)
 ·obtain ⟨sl,e1⟩:=I.base.slot b o e n hb hx
  obtain ⟨V8,e2⟩:=slot b _ (UC b o e) hb (JN b o e hx) e1 (I.base.free b o e n hx)
  exact ⟨V8,e2⟩
 ·obtain ⟨o',e1⟩:=I.base.there b o e hx
  exact free b o' (JN b o e hx) e1 (I.base.free b o e n hx)
 ·obtain ⟨o',e1⟩:=I.base.there b o e hx
  exact there b o' (JN b o e hx) e1
 ·obtain ⟨m1,e1⟩:=I.base.tM b ps e
  obtain ⟨m2,e2⟩:=tM b _ e1
  exact ⟨m1++m2,by rw[e2,Array.append_assoc]⟩
 ·obtain ⟨m,hn,hl⟩:=I.loc
  refine ⟨m,ns m hn,fun i x v e1 e2 e3=>?_⟩
  obtain ⟨u,r,l⟩:=hl i x v e1 e2 e3
  refine ⟨u,r,?_⟩
  rcases l with l | ⟨k,c,e,z⟩
  ·exact .inl l
  ·exact .inr ⟨k,c,e,cellK x c e _ z⟩
 ·obtain ⟨v,z⟩:=I.cell x c e
  exact ⟨v,cellK x c e v z⟩
 ·obtain ⟨m,⟨o,_,_,ho,_⟩,_⟩:=I.loc
  exact free _ o (fun z=>(FQ _ z).2.1 rfl) ho I.free
 ·obtain ⟨v,o,ho,hd⟩:=I.cell x c e
  exact free c o (fun z=>(FQ c z).2.2.1 x c e rfl) ho (I.iV x c e)
 ·obtain ⟨e,n,ne,nf,d⟩:=I.pin p hp
  have Oe:p.1∉ch:=fun z=>(FQ p.1 z).2.2.2 p hp rfl
  exact ⟨keep p.1 p.2 ne nf Oe e n,free p.1 p.2 Oe e n,ne,nf,d⟩
theorem Inv.un {t':Nat} (I:Inv X pins σ H s) (u:Un X.fs [] H H' s.heap h') (bZ:kC X.prog X.w H' h'):Inv X pins σ H' { s with heap:=h',toks:=t' }:=by
 obtain ⟨m,⟨o,es,ep,ho,r⟩,_⟩:=id I.loc
 obtain ⟨sl,hL⟩:=u.any ho I.free (by simp)
 exact I.step (g':=s.gens) (d':=s.drawn) (ch:=[]) (fun _ z=>nomatch z) (fun b o _ hb _ e n=>u.keep b o e n hb (by simp)) (fun b o _ hb _ e n=>u.slot b o e n hb (by simp)) (fun b o _ e n=>u.free b o e n (by simp)) (fun b o _ e=>u.there b o e (by simp)) u.q9 u.o4 u.tM (fun m' hm=>by
  obtain ⟨o',R4,JO,CV,r'⟩:=hm
  rw[ho]at CV;cases CV
  exact ⟨_,R4,JO,hL,r'⟩) bZ I.bare
theorem Inv.call {g':Array GenState} {t':Nat} {d':Drawn} {ch:List Addr} (I:Inv X pins σ H s) (u:Un (zG X.stack) ch H H' s.heap h') (bZ:kC X.prog X.w H' h') (hg:AllBare g')
  (FQ: ∀b∈ch,(b∈X.ex\/X.s₀.heap.objs.size<=b)/\b≠X.env.locals/\(∀x c,X.env.cells.lookup x=some c->c≠b)/\ ∀p∈X.pn++pins,p.1≠b):
  Inv X pins σ H' { s with heap:=h',gens:=g',drawn:=d',toks:=t' }:=by
 obtain ⟨m,⟨o,es,ep,ho,r⟩,_⟩:=id I.loc
 obtain ⟨sl,hL⟩:=u.any ho I.free fun z=>(FQ _ z).2.1 rfl
 exact I.step (ch:=ch) FQ (fun b o hL hb hc e n=>u.keep b o e n (fun z=>(Wz.mp (I.o5 b z)).elim hL hb) hc) (fun b o _ _ hc e n=>u.any e n hc) (fun b o hc e n=>u.free b o e n hc) (fun b o hc e=>u.there b o e hc) u.q9 u.o4 u.tM (fun m' hm=>by
  obtain ⟨o',R4,JO,CV,r'⟩:=hm
  rw[ho]at CV;cases CV
  exact ⟨_,R4,JO,hL,r'⟩) bZ hg
theorem Inv.turned {t':Nat} {it:Addr} (I:Inv X pins σ H s) (k: ∀b o,b≠it->s.heap.get? b=some o->h'.get? b=some o) (hn:H it=none) (hL:it≠X.env.locals)
  (h1:it∈X.ex\/X.s₀.heap.objs.size<=it) (h2: ∀x c,X.env.cells.lookup x=some c->c≠it) (h3: ∀p∈X.pn++pins,p.1≠it):Inv X pins σ H { s with heap:=h',toks:=t' }:=by
 have IG: ∀b u,H b=some u->b≠it:=fun b u e z=>by rw[z,hn]at e;cases e
 refine I.step (g':=s.gens) (d':=s.drawn) (ch:=[it]) (fun b hb=>?_) (fun b o _ _ hc e _=>k b o (fun z=>hc (by simp[z])) e) (fun b o _ _ hc e _=>⟨o.slots,k b o (fun z=>hc (by simp[z])) e⟩) (fun _ _ _ _ n=>n)
  (fun b o hc e=>⟨o,k b o (fun z=>hc (by simp[z])) e⟩) (fun _ _ e=>e) (fun _ _ _ e=>e) (fun b ps e=>⟨#[],by rw[e];simp⟩) (fun m hm=>?_) (fun b u e=>?_) I.bare
 ·have e:b=it:=by simpa using hb
  subst e
  exact ⟨h1,hL,h2,h3⟩
 ·obtain ⟨o,es,ep,ho,r⟩:=hm
  exact ⟨o,es,ep,k _ o (Ne.symm hL) ho,r⟩
 ·refine (I.bZ b u e).vG (fun c v hc q=>k c v ?_ q) (fun _ q=>q) fun _ _ q=>q
  rcases hc with z | z
  ·rw[z];exact IG b u e
  ·exact IG c _ z
theorem Inv.tok (I:Inv X pins σ H s) (t:Nat):Inv X pins σ H { s with toks:=t }:=I.un (h':=s.heap) (t':=t) Un.refl I.bZ
theorem Inv.kept {t':Nat} (I:Inv X pins σ H s) (k: ∀b u,s.heap.get? b=some u->h'.get? b=some u):Inv X pins σ H { s with heap:=h',toks:=t' }:=I.un (Un.kept k) (I.bZ.kept k)
theorem Inv.laid {a:Addr} {o:HO} {t':Nat} (I:Inv X pins σ H s) (k: ∀b u,s.heap.get? b=some u->h'.get? b=some u) (hp:s.heap.objs.size<=a) (new:cQ X.prog X.w (upd H a o) h' a o):
  Inv X pins σ (upd H a o) { s with heap:=h',toks:=t' }:=I.un (Un.laid k hp (I.bZ.fresh hp)) (I.bZ.laid k hp new)
theorem Inv.write {x e:Addr} {o:HO} {t':Nat} (I:Inv X pins σ H s) (mu:N_ (H x)) (he:e=x\/H e=some (.own x)) (k: ∀b u,b≠e->s.heap.get? b=some u->h'.get? b=some u) (Mm: ∃u,h'.get? e=some u)
  (new:cQ X.prog X.w (upd H x o) h' x o):Inv X pins σ (upd H x o) { s with heap:=h',toks:=t' }:=I.un (Un.write mu he k Mm) (I.bZ.write mu he k Mm new)
theorem Inv.weak {σ':List (Option V)} (I:Inv X pins σ H s) (hl:σ'.length=σ.length) (w: ∀(i:Nat) v,σ'[i]? =some (some v)->σ[i]? =some (some v)):Inv X pins σ' H s:=
 ⟨I.ok,I.os,I.bare,I.base,let ⟨m,hn,iW⟩:=I.loc;⟨m,hn,fun i x v e1 e2 e3=>iW i x v e1 (w i v e2) e3⟩,I.cell,I.free,I.iV,I.pin,I.bZ,hl.trans I.len⟩
theorem Inv.kT {zI:List (Addr×Obj)} (I:Inv X pins σ H s) (h: ∀p∈zI,s.heap.get? p.1=some p.2/\H p.1=none/\p.1≠X.env.locals/\p.1∉X.fs/\ ∀v,p.2.data≠ .cell v):Inv X zI σ H s:=
 ⟨I.ok,I.os,I.bare,I.base,I.loc,I.cell,I.free,I.iV,fun p hp=>(Zh.mp hp).elim (fun z=>I.pin p (Qbc _ z)) (h p),I.bZ,I.len⟩
theorem vH {N:List Str} (hN:N.Nodup) {i j:Nat} {x:Str} (a:N[i]? =some x) (b:N[j]? =some x):i=j:=by
 obtain ⟨h1,e1⟩:=Kr.mp a
 obtain ⟨h2,e2⟩:=Kr.mp b
 exact (List.getElem_inj hN).mp (e1.trans e2.symm)
theorem Bd {M:Model} {A:Around} {E:Value->Shared->Prop} {i:Nat} {x:Str} {v:V} {u:Value} {Q:Unit->Shared->Prop} (I:Inv X pins σ H s) (hN:X.N.Nodup) (hi:X.N[i]? =some x) (hx:Loc X.env.scope x) (r:RelV v u)
  (h: ∀s',Inv X pins (σ.set i (some v)) H s'->(∃a,Heap.SameBut a s.heap s'.heap/\(a=X.env.locals\/X.env.cells.lookup x=some a))->Q () s') (hf:X.fn x=true\/X.env.scope.names.lookup x=some .local:=by first | exact .inl rfl | exact .inr rfl | assumption):wpAny M A (storeName X.env x u) Q E s:=by
 obtain ⟨m,hn,hl⟩:=id I.loc
 have R5:(X.env.scope.kind== .class||(X.env.scope.kind== .module&&X.env.locals != X.env.globals))=false:=by rw[I.ok.kind];rfl
 have UD:i<σ.length:=by rw[I.len];exact (Kr.mp hi).1
 have JM:=I.JM
 have tracked: ∀{a:Addr} {h':Heap},(∃o,s.heap.get? a=some o/\H a=none)->Heap.SameBut a s.heap h'->kC X.prog X.w H h':=fun {a h'} ha hs b ob e=>by
  obtain ⟨_,_,IH⟩:=ha
  refine (I.bZ b ob e).vG (fun c w' hc q=>(hs.2 c ?_).trans q) (fun _ q=>q) fun _ _ q=>q
  rintro rfl
  rcases hc with rfl | hc
  ·rw[IH]at e;cases e
  ·rw[IH]at hc;cases hc
 rcases hx with hk | hk
 ·refine wpAny_storeName_local hk hn (fun h' JP hs=>?_) R5
  obtain ⟨oL,_,_,Of,_⟩:=id hn
  refine h _ ⟨I.ok,I.os,I.bare,⟨fun b o e n hb hx=>?_,fun b o e n hb hx=>?_,I.base.free,fun b o e hx=>?_,I.base.q9,I.base.o4,I.base.tM⟩,⟨_,JP,fun j y v' e1 e2 e3=>?_⟩,fun y c e=>?_,I.free,I.iV,fun p hp=>?_,tracked ⟨oL,Of,I.free⟩ hs,by simpa using I.len⟩ ⟨_,hs, .inl rfl⟩
  ·exact (hs.2 b (Zp (Zt (Zj e) I.ok.above))).trans (I.base.keep b o e n hb hx)
  ·obtain ⟨sl,e1⟩:=I.base.slot b o e n hb hx
   exact ⟨sl,(hs.2 b (Zp (Zt (Zj e) I.ok.above))).trans e1⟩
  ·obtain ⟨o',e1⟩:=I.base.there b o e hx
   exact ⟨o',(hs.2 b (Zp (Zt (Zj e) I.ok.above))).trans e1⟩
  ·by_cases hj:j=i
   ·subst hj
    rw[hi]at e1;cases e1
    rw[List.getElem?_set_self UD]at e2
    cases e2
    exact ⟨u,r, .inl ⟨hk,by simp⟩⟩
   ·rw[List.getElem?_set_ne (Ne.symm hj)]at e2
    obtain ⟨u',r',q⟩:=hl j y v' e1 e2 e3
    refine ⟨u',r',?_⟩
    rcases q with ⟨k,e⟩ | ⟨k,c,e,z⟩
    ·refine .inl ⟨k,?_⟩
     have:y≠x:=fun e=>hj (vH hN e1 (e▸hi))
     simp[this,e]
    ·exact .inr ⟨k,c,e,z.sameBut hs (JM y c e)⟩
  ·obtain ⟨w',z⟩:=I.cell y c e
   exact ⟨w',z.sameBut hs (JM y c e)⟩
  ·obtain ⟨e,n,ne,nf,d⟩:=I.pin p hp
   exact ⟨(hs.2 p.1 ne).trans e,n,ne,nf,d⟩
 ·have R6:X.fn x=true:=by
   rcases hf with z | z
   ·exact z
   ·rw[z]at hk;cases hk
  obtain ⟨c,hc⟩:=I.ok.has x (.inl hk)
  obtain ⟨w',z⟩:=I.cell x c hc
  refine wpAny_storeName_cell I.ok.kind hk hc z (fun h' oE hs=>?_)
  obtain ⟨oc,UE,R7⟩:=id z
  refine h { s with heap:=h' } ⟨I.ok,I.os,I.bare,⟨fun b o e n hb hx=>?_,fun b o e n hb hx=>?_,I.base.free,fun b o e hx=>?_,I.base.q9,I.base.o4,I.base.tM⟩,⟨m,hn.sameBut hs (Ne.symm (JM x c hc)),fun j y v' e1 e2 e3=>?_⟩,fun y c' e=>?_,I.free,I.iV,fun p hp=>?_,tracked ⟨oc,UE,I.iV x c hc⟩ hs,by simpa using I.len⟩ ⟨c,hs, .inr hc⟩
  ·exact (hs.2 b (Zp (Zt (Zj e) (I.ok.Oc x c R6 hc)))).trans (I.base.keep b o e n hb hx)
  ·obtain ⟨sl,e1⟩:=I.base.slot b o e n hb hx
   exact ⟨sl,(hs.2 b (Zp (Zt (Zj e) (I.ok.Oc x c R6 hc)))).trans e1⟩
  ·obtain ⟨o',e1⟩:=I.base.there b o e hx
   exact ⟨o',(hs.2 b (Zp (Zt (Zj e) (I.ok.Oc x c R6 hc)))).trans e1⟩
  ·by_cases hj:j=i
   ·subst hj
    rw[hi]at e1;cases e1
    rw[List.getElem?_set_self UD]at e2
    cases e2
    exact ⟨u,r, .inr ⟨.inl hk,c,hc,oE⟩⟩
   ·rw[List.getElem?_set_ne (Ne.symm hj)]at e2
    obtain ⟨u',r',q⟩:=hl j y v' e1 e2 e3
    refine ⟨u',r',?_⟩
    rcases q with q | ⟨k,c',e,z'⟩
    ·exact .inl q
    ·refine .inr ⟨k,c',e,z'.sameBut hs ?_⟩
     rintro rfl
     exact hj (vH hN e1 (I.ok.inj _ _ _ e hc▸hi))
  ·by_cases Mo:c'=c
   ·subst Mo;exact ⟨_,oE⟩
   ·obtain ⟨w2,z2⟩:=I.cell y c' e
    exact ⟨w2,z2.sameBut hs Mo⟩
  ·obtain ⟨e,n,ne,nf,d⟩:=I.pin p hp
   refine ⟨(hs.2 p.1 ?_).trans e,n,ne,nf,d⟩
   intro q
   rw[q,UE]at e
   have q':oc=p.2:=Zc e
   exact d w' (by rw[<-q'];exact R7)
theorem kU {M:Model} {A:Around} {E:Value->Shared->Prop} {i:Nat} {x:Str} {v:V} {u:Value} {Q:Unit->Shared->Prop} (I:Inv X pins σ H s) (hN:X.N.Nodup) (hi:X.N[i]? =some x) (hx:Loc X.env.scope x) (r:RelV v u)
  (h: ∀s',Inv X pins (σ.set i (some v)) H s'->Q () s') (hf:X.fn x=true\/X.env.scope.names.lookup x=some .local:=by first | exact .inl rfl | exact .inr rfl | assumption):wpAny M A (storeName X.env x u) Q E s:=
 Bd I hN hi hx r (fun s' I' _=>h s' I') hf
theorem Inv.Og {s':Shared} {ch:List Addr} (I:Inv X pins σ H s) (ho:s'.os=s.os) (u:Un (zG X.stack) ch H H' s.heap s'.heap) (bZ:kC X.prog X.w H' s'.heap) (hg:AllBare s'.gens)
  (FQ: ∀b∈ch,(b∈X.ex\/X.s₀.heap.objs.size<=b)/\b≠X.env.locals/\(∀x c,X.env.cells.lookup x=some c->c≠b)/\ ∀p∈X.pn++pins,p.1≠b):Inv X pins σ H' s':=by
 obtain ⟨h',g',d',t',o'⟩:=s'
 have e:o'=s.os:=ho
 subst e
 exact I.call (g':=g') (t':=t') (d':=d') u bZ hg FQ
end
abbrev XK:=Value->Option Addr->Hp->Prop
abbrev St:=List (Option V)
abbrev VK:=V->Hp->Prop
abbrev TE:=St->Hp->VK->Prop
abbrev TT:=St->Hp->(Bool->Hp->Prop)->Prop
abbrev TA:=St->Hp->(List V->Hp->Prop)->Prop
structure Ends where
 nx:St->Hp->Prop
 rt:VK
 bk:St->Hp->Prop:=fun _ _=>False
 ct:St->Hp->Prop:=fun _ _=>False
abbrev TS:=Ends->St->Hp->Prop
def EP (X:Cx) (pins:List (Addr×Obj)) (σ:St) (Q:VK) (u:Value) (s':Shared):Prop:= ∃v H',Inv X pins σ H' s'/\RelV v u/\Q v H'
def TP (X:Cx) (pins:List (Addr×Obj)) (σ:St) (Q:Bool->Hp->Prop) (b:Bool) (s':Shared):Prop:= ∃H',Inv X pins σ H' s'/\Q b H'
def AP (X:Cx) (pins:List (Addr×Obj)) (σ:St) (Q:List V->Hp->Prop) (us:List Value) (s':Shared):Prop:= ∃vs H',Inv X pins σ H' s'/\Vals vs us/\Q vs H'
def SP (X:Cx) (pins:List (Addr×Obj)) (D:Ends) (f:Flow) (s':Shared):Prop:=
 match f with
 | .next=> ∃σ' H',Inv X pins σ' H' s'/\D.nx σ' H'
 | .brk=> ∃σ' H',Inv X pins σ' H' s'/\D.bk σ' H'
 | .cont=> ∃σ' H',Inv X pins σ' H' s'/\D.ct σ' H'
 | .ret u=> ∃v σ' H',Inv X pins σ' H' s'/\RelV v u/\D.rt v H'
def PE (X:Cx) (e:Expr) (t:TE):Prop:=
 ∀(pins:List (Addr×Obj)) (s:Shared) (σ:St) (H:Hp) (Q:VK),Inv X pins σ H s->t σ H Q->wpAny (model X.prog X.w) X.A (eval e X.env) (EP X pins σ Q) X.xe s
def PT (X:Cx) (e:Expr) (t:TT):Prop:=
 ∀(pins:List (Addr×Obj)) (s:Shared) (σ:St) (H:Hp) (Q:Bool->Hp->Prop),Inv X pins σ H s->t σ H Q->wpAny (model X.prog X.w) X.A (isTrue e X.env (eval e X.env)) (TP X pins σ Q) X.xe s
def PW (X:Cx) (e:Expr) (t:TT):Prop:=
 ∀(whole:Sem Value) (pins:List (Addr×Obj)) (s:Shared) (σ:St) (H:Hp) (Q:Bool->Hp->Prop),Inv X pins σ H s->t σ H Q->wpAny (model X.prog X.w) X.A (isTrue e X.env whole) (TP X pins σ Q) X.xe s
theorem PW.pt {X:Cx} {e:Expr} {t:TT} (h:PW X e t):PT X e t:=h _
def PA (X:Cx) (es:List Expr) (t:TA):Prop:=
 ∀(pos:Pos) (pins:List (Addr×Obj)) (s:Shared) (σ:St) (H:Hp) (Q:List V->Hp->Prop),Inv X pins σ H s->t σ H Q->wpAny (model X.prog X.w) X.A (spliced (backTo pos (starEach es X.env))) (AP X pins σ Q) X.xe s
def PS (X:Cx) (st:Stmt) (t:TS):Prop:=
 ∀(pins:List (Addr×Obj)) (s:Shared) (σ:St) (H:Hp) (D:Ends),Inv X pins σ H s->t D σ H->wpAny (model X.prog X.w) X.A (exec st X.env) (SP X pins D) X.xe s
def xU (X:Cx) (st:List Stmt) (t:TS):Prop:=
 ∀(pins:List (Addr×Obj)) (s:Shared) (σ:St) (H:Hp) (D:Ends),Inv X pins σ H s->t D σ H->wpAny (model X.prog X.w) X.A (execs st X.env) (SP X pins D) X.xe s
theorem cg {α:Type} {t:Sem α} {Q Q':α->Shared->Prop} {M:Model} {A:Around} {E:Value->Shared->Prop} {s:Shared} (h:wpAny M A t Q E s) (hQ: ∀a s,Q a s->Q' a s):wpAny M A t Q' E s:=wpAny_mono h hQ fun _ _ x=>x
section
variable {X:Cx}
def JQ (i:Nat):TE:=fun σ H Q=> ∃v,σ[i]? =some (some v)/\Q v H
def tC (v:V):TE:=fun _ H Q=>Q v H
theorem JR {i:Nat} {x:Str} {pos:Pos} (hN:X.N[i]? =some x) (hv:Ob X.env.scope x) (hd:(x==("__debug__":Str))=false:=by decide) (jZ:(x==("__classdict__":Str))=false:=by decide):PE X (.Name x pos) (JQ i):=by
 intro pins s σ H Q I h
 obtain ⟨v,e,h⟩:=h
 obtain ⟨m,hn,hl⟩:=I.loc
 obtain ⟨u,r,l⟩:=hl i x v hN e hv
 have fin:EP X pins σ Q u s:=⟨v,H,I,r,h⟩
 rcases l with ⟨hk,hm⟩ | ⟨hk,c,hc,gH⟩
 ·exact wpAny_Name (wpAny_loadName_local I.ok.kind hk hn hm fin) hd
 ·rcases hk with hk | hk
  ·exact wpAny_Name (wpAny_loadName_cell I.ok.kind hk hc gH fin) hd
  ·exact wpAny_Name (wpAny_loadName_free I.ok.kind hk hc gH fin jZ) hd
theorem ah {i j pos}:PE X (.Constant (.int i) j pos) (tC (.int i)):=fun _ _ _ H _ I h=>wpAny_Constant_int ⟨.int i,H,I.tok _,⟨_,rfl⟩,h⟩
theorem vI {b j pos}:PE X (.Constant (.bool b) j pos) (tC (.bl b)):=fun _ _ _ H _ I h=>Constant_bool ⟨.bl b,H,I,rfl,h⟩
theorem JS {x j pos}:PE X (.Constant (.str x) j pos) (tC (.str x)):=fun _ _ _ H _ I h=>Calls.Constant_str ⟨.str x,H,I.tok _,⟨_,rfl⟩,h⟩
def Gl (X:Cx) (x:Str):Prop:=X.env.kindOf x=some .globalImplicit
theorem tP {E:Value->Shared->Prop} {pins:List (Addr×Obj)} {s:Shared} {σ:St} {H:Hp} {x:Str} {u:Value} {pos:Pos} {Q:Value->Shared->Prop} (I:Inv X pins σ H s) (hg:Gl X x) (hm:X.mg x=some u) (h:Q u s)
  (hd:(x==("__debug__":Str))=false:=by decide):wpAny (model X.prog X.w) X.A (eval (.Name x pos) X.env) Q E s:=
 Calls.Name_function_global I.ok.kind hg (Calls.loadGlobal_global (by rw[I.ok.glob];exact I.mod.glob.keeps I.bk) hm h) hd
theorem gv {E:Value->Shared->Prop} {pins:List (Addr×Obj)} {s:Shared} {σ:St} {H:Hp} {x:Str} {u:Value} {pos:Pos} {Q:Value->Shared->Prop} (I:Inv X pins σ H s) (hg:Gl X x) (hm:X.mg x=none) (hv:bootBuiltins x=some u) (h:Q u s)
  (hn:x≠"__name__":=by decide) (hd:(x==("__debug__":Str))=false:=by decide):wpAny (model X.prog X.w) X.A (eval (.Name x pos) X.env) Q E s:=by
 obtain ⟨mb,h1,h2⟩:=I.mod.blt
 exact Calls.Name_function_global I.ok.kind hg (Calls.loadGlobal_builtin (by rw[I.ok.glob];exact I.mod.glob.keeps I.bk) hm (by rw[I.ok.blt];exact h1.keeps I.bk) ((h2 x hn).trans hv) h) hd
theorem zJ {x:Str} {v:V} {u:Value} {pos:Pos} (hg:Gl X x) (hm:X.mg x=some u) (r:RelV v u) (hd:(x==("__debug__":Str))=false:=by decide):PE X (.Name x pos) (tC v):=
 fun _ _ _ H _ I h=>tP I hg hm ⟨v,H,I,r,h⟩ hd
variable {a b:Expr} {ta tb:TE} {pos:Pos}
def tB (t:TE):TT:=fun σ H Q=>t σ H fun x H1=> ∃c,x= .bl c/\Q c H1
theorem g8 {e:Expr} {t:TE} (h:PE X e t) (he: ∀whole,isTrue e X.env whole=(do let v <-whole;standAt e.pos;holding [v] (truthy v)):=by intro _;rfl):PT X e (tB t):=by
 intro pins s σ H Q I hw
 refine isTrue_plain (cg (h pins s σ H _ I hw) fun v s1 ⟨x,H1,I1,r1,q1⟩=>?_) (he _)
 obtain ⟨d,rfl,q⟩:=q1
 cases r1
 exact wpAny_truthy_bool ⟨H1,I1,q⟩
variable {tA QN:TT} {rest:List Expr}
def R8 (t u:TT):TT:=fun σ H Q=>t σ H fun c H1=>if c=true then u σ H1 Q else Q false H1
def V9 (t u:TT):TT:=fun σ H Q=>t σ H fun c H1=>if c=true then Q true H1 else u σ H1 Q
def R9 (t:TT):TT:=fun σ H Q=>t σ H fun c H1=>Q (!c) H1
theorem jG (ha:PT X a tA):PW X (.BoolOp .And [a] pos) tA:=by
 intro wh pins s σ H Q I h
 refine isTrue_and (cg (ha pins s σ H Q I h) fun c s1 e=>?_)
 cases c with
 | true=>exact isTrue_and_nil e
 | false=>exact e
theorem xV (ha:PT X a tA):PW X (.BoolOp .Or [a] pos) tA:=by
 intro wh pins s σ H Q I h
 refine isTrue_or (cg (ha pins s σ H Q I h) fun c s1 e=>?_)
 cases c with
 | false=>exact isTrue_or_nil e
 | true=>exact e
theorem kD (ha:PT X a tA) (hb:PW X (.BoolOp .And (b::rest) pos) QN):PW X (.BoolOp .And (a::b::rest) pos) (R8 tA QN):=by
 intro wh pins s σ H Q I h
 refine isTrue_and (cg (ha pins s σ H _ I h) fun c s1 ⟨H1,I1,q1⟩=>?_)
 cases c with
 | true=>exact hb wh pins s1 σ H1 Q I1 q1
 | false=>exact ⟨H1,I1,q1⟩
theorem zK (ha:PT X a tA) (hb:PW X (.BoolOp .Or (b::rest) pos) QN):PW X (.BoolOp .Or (a::b::rest) pos) (V9 tA QN):=by
 intro wh pins s σ H Q I h
 refine isTrue_or (cg (ha pins s σ H _ I h) fun c s1 ⟨H1,I1,q1⟩=>?_)
 cases c with
 | true=>exact ⟨H1,I1,q1⟩
 | false=>exact hb wh pins s1 σ H1 Q I1 q1
theorem JT (ha:PT X a tA):PT X (.UnaryOp .Not a pos) (R9 tA):=by
 intro pins s σ H Q I h
 exact isTrue_not (ha pins s σ H (fun c H1=>Q (!c) H1) I h)
def V_ (t:TT) (ta tb:TE):TE:=fun σ H Q=>t σ H fun c H1=>if c=true then ta σ H1 Q else tb σ H1 Q
theorem vJ {c:Expr} (hc:PT X c tA) (ha:PE X a ta) (hb:PE X b tb):PE X (.IfExp c a b pos) (V_ tA ta tb):=by
 intro pins s σ H Q I h
 refine wpAny_IfExp (cg (hc pins s σ H _ I h) fun d s1 ⟨H1,I1,q1⟩=>?_)
 cases d with
 | true=>exact ha pins s1 σ H1 Q I1 q1
 | false=>exact hb pins s1 σ H1 Q I1 q1
end
def ba (K:PySem.W.Frag) (H:Hp) (a:Addr) (xs:List V):Prop:=
 Rd H a (.lst xs)\/
  ∃(o:Obj) (aJ:Array Value) (n:Nat),K.lookup a=some o/\o.cls= .type "list"/\o.dict=none/\o.data= .seq aJ n/\aJ.size<=sizeLine/\Vals xs aJ.toList
def bY (K:PySem.W.Frag) (H:Hp) (a:Addr) (xs:List V):Prop:=
 Rd H a (.tup xs)\/
  ∃(o:Obj) (aJ:Array Value) (n:Nat),K.lookup a=some o/\o.cls= .type "tuple"/\o.data= .seq aJ n/\aJ.size<=sizeLine/\Vals xs aJ.toList
noncomputable def R_:Value->Option V
 | .none=>some .fH
 | .bool b=>some (.bl b)
 | .int i _=>some (.int i)
 | .str x _=>some (.str x)
 | .bytes b _=>some (.zF b)
 | .float b _=>some (.QK b)
 | .ref a=>some (.ref a)
 | .type n=>some (.ty n)
 | _=>none
theorem RelV.abs {x:V} {u:Value} (r:RelV x u):R_ u=some x:=by
 cases x with
 | fH=>cases r;rfl
 | bl _=>cases r;rfl
 | int _=>obtain ⟨t,rfl⟩:=r;rfl
 | str _=>obtain ⟨t,rfl⟩:=r;rfl
 | zF _=>obtain ⟨t,rfl⟩:=r;rfl
 | QK _=>obtain ⟨t,rfl⟩:=r;rfl
 | ref _=>cases r;rfl
 | ty _=>cases r;rfl
theorem RelV.inj {x y:V} {u:Value} (r:RelV x u) (q:RelV y u):x=y:=Zc (r.abs.symm.trans q.abs)
theorem Vals.inj: ∀{xs ys:List V} {us:List Value},Vals xs us->Vals ys us->xs=ys
 | _,_,_, .nil, .nil=>rfl
 | _,_,_, .cons r t, .cons r' t'=>by rw[r.inj r',Vals.inj t t']
section
variable {X:Cx} {pins:List (Addr×Obj)} {σ:St} {H:Hp} {s:Shared} {a:Addr} {xs ys:List V}
theorem ba.of {K:PySem.W.Frag} (h:H a=some (.lst xs)):ba K H a xs:= .inl (.inl h)
theorem bY.of {K:PySem.W.Frag} (h:H a=some (.tup xs)):bY K H a xs:= .inl (.inl h)
theorem Inv.list (I:Inv X pins σ H s) (h:ba X.K H a xs): ∃aJ:List Value,Vals xs aJ/\PlainL s.heap a aJ.toArray/\xs.length<=sizeLine:=by
 rcases h with h | ⟨o,aJ,n,hk,hc,hd,hs,hz,r⟩
 ·obtain ⟨z,aJ,n,r,e⟩:=h.ok I.bZ
  exact ⟨aJ,r,⟨_,n,e,rfl,rfl,rfl⟩,z⟩
 ·refine ⟨aJ.toList,r,⟨o,n,I.Bc a o hk,hc,hd,by simpa using hs⟩,?_⟩
  have e:=r.length
  simp only[Array.length_toList]at e
  omega
theorem Inv.tuple (I:Inv X pins σ H s) (h:bY X.K H a xs): ∃aJ:List Value,Vals xs aJ/\IsTup s.heap a aJ.toArray/\xs.length<=sizeLine:=by
 rcases h with h | ⟨o,aJ,n,hk,hc,hs,hz,r⟩
 ·obtain ⟨z,aJ,r,p⟩:=h.ok I.bZ
  exact ⟨aJ,r,p,z⟩
 ·refine ⟨aJ.toList,r,⟨o,I.Bc a o hk,hc,n,by simpa using hs⟩,?_⟩
  have e:=r.length
  simp only[Array.length_toList]at e
  omega
theorem Inv.vK (I:Inv X pins σ H s) (h:ba X.K H a xs) (h':ba X.K H a ys):xs=ys:=by
 obtain ⟨aJ,r,⟨o,n,e,_,_,d⟩,_⟩:=I.list h
 obtain ⟨its',r',⟨o',n',e',_,_,d'⟩,_⟩:=I.list h'
 rw[e]at e';cases e'
 rw[d]at d'
 injection d' with d1 _
 have:aJ=its':=by simpa using congrArg Array.toList d1
 subst this
 exact r.inj r'
theorem Inv.mq (I:Inv X pins σ H s) (h:bY X.K H a xs) (h':bY X.K H a ys):xs=ys:=by
 obtain ⟨aJ,r,⟨o,e,_,n,d⟩,_⟩:=I.tuple h
 obtain ⟨its',r',⟨o',e',_,n',d'⟩,_⟩:=I.tuple h'
 rw[e]at e';cases e'
 rw[d]at d'
 injection d' with d1 _
 have:aJ=its':=by simpa using congrArg Array.toList d1
 subst this
 exact r.inj r'
end
noncomputable abbrev Cx.q_ (X:Cx) (E:Value->Shared->Prop):Cx:={ X with xe:=E }
noncomputable abbrev Cx.QO (X:Cx):Cx:=X.q_ fun _ _=>False
theorem Cx.Ok.q_ {X:Cx} (ok:X.Ok) (E:Value->Shared->Prop):(X.q_ E).Ok:=
 ⟨ok.mod,ok.kind,ok.glob,ok.blt,ok.above,ok.inj,ok.has,ok.Oc,ok.hd,ok.frames,ok.QM,ok.UB,ok.bs,ok.GA,ok.CU,ok.GB,ok.nQ,ok.JK⟩
theorem Cx.Ok.iX {X:Cx} {E:Value->Shared->Prop} (ok:(X.q_ E).Ok):X.Ok:=
 ⟨ok.mod,ok.kind,ok.glob,ok.blt,ok.above,ok.inj,ok.has,ok.Oc,ok.hd,ok.frames,ok.QM,ok.UB,ok.bs,ok.GA,ok.CU,ok.GB,ok.nQ,ok.JK⟩
section
variable {X:Cx} {pins:List (Addr×Obj)} {σ:St} {H:Hp} {s:Shared} {E:Value->Shared->Prop}
theorem Inv.q_ (I:Inv X pins σ H s) (E:Value->Shared->Prop):Inv (X.q_ E) pins σ H s:=⟨I.ok.q_ E,I.os,I.bare,I.base,I.loc,I.cell,I.free,I.iV,I.pin,I.bZ,I.len⟩
theorem Inv.iX (I:Inv (X.q_ E) pins σ H s):Inv X pins σ H s:=⟨I.ok.iX,I.os,I.bare,I.base,I.loc,I.cell,I.free,I.iV,I.pin,I.bZ,I.len⟩
theorem SP.iX {D:Ends} {f:Flow} {s':Shared} (h:SP (X.q_ E) pins D f s'):SP X pins D f s':=by
 cases f with
 | next=>obtain ⟨σ',H',I,q⟩:=h;exact ⟨σ',H',I.iX,q⟩
 | brk=>obtain ⟨σ',H',I,q⟩:=h;exact ⟨σ',H',I.iX,q⟩
 | cont=>obtain ⟨σ',H',I,q⟩:=h;exact ⟨σ',H',I.iX,q⟩
 | ret u=>obtain ⟨v,σ',H',I,r,q⟩:=h;exact ⟨v,σ',H',I.iX,r,q⟩
theorem xU.QO {st:List Stmt} {t:TS} (h:xU X.QO st t):xU X st t:=fun pins s σ H D I hw=>
 wpAny_mono (h pins s σ H D (I.q_ _) hw) (fun _ _ q=>q.iX) fun _ _ z=>False.elim z
end
section
variable {X:Cx} {st:Stmt} {rest:List Stmt} {t u:TS} {e:Expr} {te:TE} {pos:Pos}
def Oh:TS:=fun D σ H=>D.nx σ H
def JU (t u:TS):TS:=fun D σ H=>t { D with nx:=u D } σ H
theorem bf:xU X [] Oh:=fun _ _ σ H _ I h=>wpAny_execs_nil ⟨σ,H,I,h⟩
theorem ae (h1:PS X st t) (h2:xU X rest u):xU X (st::rest) (JU t u):=by
 intro pins s σ H D I h
 refine wpAny_execs_cons (cg (h1 pins s σ H { D with nx:=u D } I h) fun f s1 q=>?_)
 cases f with
 | next=>
  obtain ⟨σ',H',I',q⟩:=q
  exact h2 pins s1 σ' H' D I' q
 | ret v=>exact q
 | brk=>exact q
 | cont=>exact q
theorem ai (h1:PS X st t):xU X [st] t:=by
 intro pins s σ H D I h
 refine wpAny_execs_cons (cg (h1 pins s σ H D I h) fun f s1 q=>?_)
 cases f with
 | next=>exact wpAny_execs_nil q
 | ret v=>exact q
 | brk=>exact q
 | cont=>exact q
theorem Inv.quiet {pins:List (Addr×Obj)} {σ:St} {H:Hp} {s:Shared} (I:Inv X pins σ H s):interactive X.env=false:=by simp[interactive,I.ok.kind]
def Oi (te:TE):TS:=fun D σ H=>te σ H fun _ H1=>D.nx σ H1
theorem cR (he:PE X e te) (hs:swapsWith e none pos.line X.env=pure false:=by rfl):PS X (.Expr e pos) (Oi te):=by
 intro pins s σ H D I h
 exact wpAny_Expr_any (cg (he pins s σ H _ I h) fun v s1 ⟨x,H1,I1,r1,q1⟩=>⟨σ,H1,I1,q1⟩) I.quiet hs
def Sa (te:TE):TS:=fun D σ H=>te σ H D.rt
theorem aE (he:PE X e te):PS X (.Return (some e) pos) (Sa te):=by
 intro pins s σ H D I h
 exact wpAny_Return_some (cg (he pins s σ H _ I h) fun v s1 ⟨x,H1,I1,r1,q1⟩=>⟨x,σ,H1,I1,r1,q1⟩)
def Sb (c:TT) (t u:TS):TS:=fun D σ H=>c σ H fun b H1=>if b=true then t D σ H1 else u D σ H1
theorem bT {c:Expr} {a b:List Stmt} {tc:TT} (hc:PT X c tc) (ha:xU X a t) (hb:xU X b u):PS X (.If c a b pos) (Sb tc t u):=by
 intro pins s σ H D I h
 refine wpAny_If (cg (hc pins s σ H _ I h) fun d s1 ⟨H1,I1,q1⟩=>?_)
 cases d with
 | true=>exact ha pins s1 σ H1 D I1 q1
 | false=>exact hb pins s1 σ H1 D I1 q1
end
abbrev TG:=V->St->Hp->(St->Hp->Prop)->Prop
abbrev II:=List V->St->Hp->(St->Hp->Prop)->Prop
def PG (X:Cx) (target:Expr) (t:TG):Prop:=
 ∀(pins:List (Addr×Obj)) (s:Shared) (σ:St) (H:Hp) (v:V) (u:Value) (Q:St->Hp->Prop),Inv X pins σ H s->RelV v u->t v σ H Q->
  wpAny (model X.prog X.w) X.A (assign target X.env u) (fun _ s'=> ∃σ' H',Inv X pins σ' H' s'/\Q σ' H') X.xe s
def Oj (X:Cx) (ts:List Expr) (t:II):Prop:=
 ∀(pins:List (Addr×Obj)) (s:Shared) (σ:St) (H:Hp) (vs:List V) (us:List Value) (Q:St->Hp->Prop),Inv X pins σ H s->Vals vs us->t vs σ H Q->
  wpAny (model X.prog X.w) X.A (assignInOrder ((assignEach ts X.env).map (·.2)) us) (fun _ s'=> ∃σ' H',Inv X pins σ' H' s'/\Q σ' H') X.xe s
abbrev JV:=V->V->V->Hp->(Hp->Prop)->Prop
def Ol (X:Cx) (t:JV):Prop:=
 ∀(pins:List (Addr×Obj)) (s:Shared) (σ:St) (H:Hp) (o i v:V) (ov iv u:Value) (Q:Hp->Prop),Inv X pins σ H s->RelV o ov->RelV i iv->RelV v u->t o i v H Q->
  wpAny (model X.prog X.w) X.A (setItem ov iv u) (fun _ s'=> ∃H',Inv X pins σ H' s'/\Q H') X.xe s
abbrev QP:=V->V->Hp->VK->Prop
def Om (X:Cx) (op:Operator) (t:QP):Prop:=
 ∀(pins:List (Addr×Obj)) (s:Shared) (σ:St) (H:Hp) (x y:V) (v u:Value) (Q:VK),Inv X pins σ H s->RelV x v->RelV y u->t x y H Q->
  wpAny (model X.prog X.w) X.A (inplaceOp op v u) (EP X pins σ Q) X.xe s
section
variable {X:Cx} {pos:Pos}
def vL (i:Nat):TG:=fun v σ H Q=>Q (σ.set i (some v)) H
theorem aI {i:Nat} {x:Str} (hN:X.N.Nodup) (hi:X.N[i]? =some x) (hx:Loc X.env.scope x) (hf:X.fn x=true\/X.env.scope.names.lookup x=some .local:=by first | exact .inl rfl | exact .inr rfl | assumption):PG X (.Name x pos) (vL i):=by
 intro pins s σ H v u Q I r h
 exact wpAny_assign_Name (kU I hN hi hx r (fun s' I'=>⟨_,H,I',h⟩) hf)
def Sd:II:=fun vs σ H Q=>vs=[]/\Q σ H
def Oo (t:TG) (u:II):II:=fun vs σ H Q=> ∃v r,vs=v::r/\t v σ H fun σ' H'=>u r σ' H' Q
theorem fZ:Oj X [] Sd:=by
 intro pins s σ H vs us Q I r h
 obtain ⟨e,h⟩:=h
 subst e
 cases r
 exact assignInOrder_nil ⟨σ,H,I,h⟩
theorem bU {e:Expr} {es:List Expr} {t:TG} {u:II} (h1:PG X e t) (h2:Oj X es u)
  (hs:(assignEach (e::es) X.env).map (·.2)=assign e X.env::(assignEach es X.env).map (·.2):=by rfl):Oj X (e::es) (Oo t u):=by
 intro pins s σ H vs us Q I r h
 obtain ⟨v,vr,e1,h⟩:=h
 subst e1
 cases r with
 | cons r rr=>
  rw[hs]
  refine assignInOrder_cons (cg (h1 pins s σ H _ _ _ I r h) fun _ s1 ⟨σ1,H1,I1,q1⟩=>?_)
  exact h2 pins s1 σ1 H1 _ _ Q I1 rr q1
def Oq (K:PySem.W.Frag) (n:Nat) (t:II):TG:=fun v σ H Q=> ∃a xs,v= .ref a/\bY K H a xs/\xs.length=n/\t xs σ H Q
theorem JW {es:List Expr} {k:Nat} {t:II} {n:Nat} (hc:X.calm=true) (h:Oj X es t)
  (hn:(assignEach es X.env).length=n:=by rfl) (ny:(assignEach es X.env).findIdx? (·.1)=none:=by rfl):PG X (.Tuple es k pos) (Oq X.K n t):=by
 intro pins s σ H v u Q I r hw
 obtain ⟨a,xs,e1,hq,hl,hw⟩:=hw
 subst e1
 cases r
 obtain ⟨aJ,rv,ht,hz⟩:=I.tuple hq
 refine assign_Tuple_tuple (I.ok.hd hc) ht (by simp[hn, <-hl,rv.length]) ny fun h' hx=>?_
 have I1:Inv X pins σ H { s with heap:=h' }:=I.kept (t':=s.toks) fun b o e=>hx b o (Zp (Zj e)) e
 exact h pins _ σ H xs _ Q I1 (by simpa using rv) hw
def Se (to ti:TE) (t:JV):TG:=fun v σ H Q=>to σ H fun o H1=>ti σ H1 fun i H2=>t o i v H2 fun H3=>Q σ H3
theorem CY {o i:Expr} {to ti:TE} {t:JV} (ho:PE X o to) (hi:PE X i ti) (hs:Ol X t)
  (ha: ∀v,assign (.Subscript o i pos) X.env v=(do
   let ov <-holding [v] (eval o X.env)
   let iv <-holding [v,ov] (eval i X.env)
   standAt pos
   holding [v,ov,iv] (setItem ov iv v)
   release [v,ov,iv] []):=by intro _;rfl):PG X (.Subscript o i pos) (Se to ti t):=by
 intro pins s σ H v u Q I r h
 rw[ha]
 refine wpAny_bind (wpAny_holding (cg (ho pins s σ H _ I h) fun ov s1 ⟨x,H1,I1,r1,q1⟩=>?_))
 refine wpAny_bind (wpAny_holding (cg (hi pins s1 σ H1 _ I1 q1) fun iv s2 ⟨y,H2,I2,r2,q2⟩=>?_))
 refine wpAny_bind (wpAny_standAt (wpAny_bind (wpAny_holding (cg (hs pins s2 σ H2 x y v ov iv u _ I2 r1 r2 r q2) fun _ s3 ⟨H3,I3,q3⟩=>?_))))
 exact wpAny_release ⟨σ,H3,I3,q3⟩
def GC (te:TE) (g:TG):TS:=fun D σ H=>te σ H fun x H1=>g x σ H1 D.nx
theorem CZ {tg e:Expr} {te:TE} {g:TG} (he:PE X e te) (hg:PG X tg g) (hs:swapsWithSole [tg] e pos.line X.env=pure false:=by rfl) (hw:swappedStores [tg] e X.env=pure none:=by rfl)
  (h1:(assignEach [tg] X.env).map (·.2)=[assign tg X.env]:=by rfl):PS X (.Assign [tg] e pos) (GC te g):=by
 intro pins s σ H D I h
 refine wpAny_Assign_stores (cg (he pins s σ H _ I h) fun v s1 ⟨x,H1,I1,r1,q1⟩=>?_) hs hw
 rw[h1]
 exact cg (hg pins s1 σ H1 x v _ I1 r1 q1) fun _ s2 q=>q
theorem ao {i:Nat} {x:Str} {e:Expr} {te:TE} {pos':Pos} (hN:X.N.Nodup) (hi:X.N[i]? =some x) (hx:Loc X.env.scope x) (he:PE X e te) (hs:swapsWith e (some (.Name x pos')) pos.line X.env=pure false:=by rfl) (hf:X.fn x=true\/X.env.scope.names.lookup x=some .local:=by first | exact .inl rfl | exact .inr rfl | assumption):
  PS X (.Assign [.Name x pos'] e pos) (GC te (vL i)):=by
 intro pins s σ H D I h
 refine wpAny_Assign_Name (cg (he pins s σ H _ I h) fun v s1 ⟨y,H1,I1,r1,q1⟩=>?_) hs
 exact kU I1 hN hi hx r1 (fun s2 I2=>⟨_,H1,I2,q1⟩) hf
def Sf (i:Nat) (te:TE) (ti:QP):TS:=fun D σ H=> ∃x,σ[i]? =some (some x)/\te σ H fun y H1=>ti x y H1 fun z H2=>D.nx (σ.set i (some z)) H2
theorem g9 {i:Nat} {x:Str} {e:Expr} {te:TE} {op:Operator} {ti:QP} {pos':Pos} (hN:X.N.Nodup) (hi:X.N[i]? =some x) (hx:Loc X.env.scope x) (he:PE X e te) (ho:Om X op ti) (hf:X.fn x=true\/X.env.scope.names.lookup x=some .local:=by first | exact .inl rfl | exact .inr rfl | assumption):
  PS X (.AugAssign (.Name x pos') op e pos) (Sf i te ti):=by
 intro pins s σ H D I h
 obtain ⟨v,e1,h⟩:=h
 obtain ⟨m,hn,hl⟩:=I.loc
 have Wa:Ob X.env.scope x:=by rcases hx with k | k;exact .inl k;exact .inr (.inl k)
 obtain ⟨u,r,l⟩:=hl i x v hi e1 Wa
 refine wpAny_AugAssign_Name ?_
 have go:wpAny (model X.prog X.w) X.A (eval e X.env) (fun w s₂=>wpAny (model X.prog X.w) X.A (inplaceOp op u w) (fun r s₃=>wpAny (model X.prog X.w) X.A (storeName X.env x r) (fun _=>SP X pins D .next) X.xe s₃) X.xe s₂) X.xe s:=by
  refine cg (he pins s σ H _ I h) fun w s1 ⟨y,H1,I1,r1,q1⟩=>?_
  refine cg (ho pins s1 σ H1 v y u w _ I1 r r1 q1) fun z s2 ⟨zv,H2,I2,r2,q2⟩=>?_
  exact kU I2 hN hi hx r2 (fun s3 I3=>⟨_,H2,I3,q2⟩) hf
 rcases l with ⟨hk,hm⟩ | ⟨hk,c,hc,gH⟩
 ·exact wpAny_loadName_local I.ok.kind hk hn hm go
 ·rcases hk with hk | hk
  ·exact wpAny_loadName_cell I.ok.kind hk hc gH go
  ·rcases hx with k | k
   ·have:X.env.scope.names.lookup x=some .free:=hk
    rw[k]at this;cases this
   ·have:X.env.scope.names.lookup x=some .free:=hk
    rw[k]at this;cases this
def UG (f:Int->Int->Int):QP:=fun x y H Q=> ∃i j,x= .int i/\y= .int j/\Q (.int (f i j)) H
theorem mr:Om X .Add (UG fun i j=>i+j):=by
 intro pins s σ H x y v u Q I r1 r2 h
 obtain ⟨i,j,e1,e2,q⟩:=h
 subst e1;subst e2
 obtain ⟨t,rfl⟩:=r1
 obtain ⟨t',rfl⟩:=r2
 exact iadd_int ⟨.int _,H,I.tok _,⟨_,rfl⟩,q⟩
theorem JX:Om X .Sub (UG fun i j=>i - j):=by
 intro pins s σ H x y v u Q I r1 r2 h
 obtain ⟨i,j,e1,e2,q⟩:=h
 subst e1;subst e2
 obtain ⟨t,rfl⟩:=r1
 obtain ⟨t',rfl⟩:=r2
 exact isub_int ⟨.int _,H,I.tok _,⟨_,rfl⟩,q⟩
end
structure It where
 go:Nat->Hp->Prop
 CD:Nat->Hp->V->Hp->Prop
 stop:Nat->Hp->Prop
def nR (X:Cx) (pins:List (Addr×Obj)) (H:Hp) (b:Addr):Prop:=
 H b=none/\b≠X.env.locals/\b∉X.fs/\(b∈X.ex\/X.s₀.heap.objs.size<=b)/\(∀x c,X.env.cells.lookup x=some c->c≠b)/\ ∀p∈X.pn++pins,p.1≠b
theorem Inv.o6 {X:Cx} {pins:List (Addr×Obj)} {σ:St} {H H':Hp} {s:Shared} {b:Addr} (I:Inv X pins σ H s) (hb:s.heap.objs.size<=b) (hn:H' b=none):nR X pins H' b:=by
 refine ⟨hn,Qbd (Zt I.lt hb),I.JL hb, .inr (ZG I.sz hb),fun x c e z=>?_,fun p hp z=>?_⟩
 ·obtain ⟨v,q⟩:=I.cell x c e
  exact absurd (Zt q.lt (by rw[z];exact hb)) (ZW _)
 ·exact absurd (Zt (Zj (I.pin p hp).1) (by rw[z];exact hb)) (ZW _)
structure Turn (P:Program) (w:World) (K:PySem.W.Frag) (tg:Expr) (J:It) (fp:List Addr) (it:Addr) (tn:Nat->Heap->Prop):Prop where
 mem:it∈fp
 obj: ∀i h,tn i h-> ∀b∈fp, ∃o,h.get? b=some o/\ ∀v,o.data≠ .cell v
 keep: ∀i h h',tn i h->(∀b∈fp, ∀o,h.get? b=some o->h'.get? b=some o)->tn i h'
 item: ∀(X:Cx),X.prog=P->X.w=w->X.K=K->X.calm=true-> ∀(i:Nat) (pins:List (Addr×Obj)) (s:Shared) (σ:St) (H:Hp) (E:Value->Shared->Prop),Inv X pins σ H s->(∀b∈fp,nR X pins H b)->tn i s.heap->J.go i H->
  wpAny (model P w) X.A (pyNext (.ref it)) (fun r s1=> ∃u,r=some u/\
   wpAny (model P w) X.A (letOwnedTupleGo tg (.ref it) u) (fun _ s2=> ∃x H',Inv X pins σ H' s2/\RelV x u/\J.CD i H x H'/\tn (i+1) s2.heap/\ ∀b∈fp,H' b=none) E s1) E s
 done: ∀(X:Cx),X.prog=P->X.w=w->X.K=K->X.calm=true-> ∀(i:Nat) (pins:List (Addr×Obj)) (s:Shared) (σ:St) (H:Hp) (E:Value->Shared->Prop),Inv X pins σ H s->(∀b∈fp,nR X pins H b)->tn i s.heap->J.stop i H->
  wpAny (model P w) X.A (pyNext (.ref it)) (fun r s1=>r=none/\Inv X pins σ H s1) E s
 self: ∀(A:Around) (i:Nat) (s:Shared) (Q:Value->Shared->Prop) (E:Value->Shared->Prop),tn i s.heap->Q (.ref it) s->wpAny (model P w) A (pyIter (.ref it)) Q E s
abbrev TI:=St->Hp->(It->Hp->Prop)->Prop
def UH (X:Cx) (pins:List (Addr×Obj)) (σ:St) (tg:Expr) (R:It->Hp->Prop) (Sg:Value) (s2:Shared):Prop:=
 ∃(it:Addr) (fp:List Addr) (tn:Nat->Heap->Prop) (J:It) (H':Hp),Sg= .ref it/\Inv X pins σ H' s2/\Turn X.prog X.w X.K tg J fp it tn/\tn 0 s2.heap/\(∀b∈fp,nR X pins H' b)/\R J H'
def PI (X:Cx) (tg iter:Expr) (wi:TI):Prop:=
 ∀(pins:List (Addr×Obj)) (s:Shared) (σ:St) (H:Hp) (R:It->Hp->Prop),Inv X pins σ H s->wi σ H R->
  wpAny (model X.prog X.w) X.A (eval iter X.env) (fun v s1=>wpAny (model X.prog X.w) X.A (pyIter v) (UH X pins σ tg R) X.xe s1) X.xe s
theorem vM {M:Model} {A:Around} {E:Value->Shared->Prop} {s:Shared} {tg:Expr} {it:Addr} {u:Value} {o:Obj} {n:String} {vs:Array Value} {Q:Unit->Shared->Prop} (ho:s.heap.get? it=some o) (hc:o.cls= .type n) (hd:o.data= .fields vs)
  (hn:["enumerate","zip","dict_itemiterator","dict_reverseitemiterator","odict_iterator","itertools.zip_longest","itertools.pairwise"].contains n=false) (hQ:Q () s):wpAny M A (letOwnedTupleGo tg (.ref it) u) Q E s:=by
 unfold letOwnedTupleGo
 cases tg<;>first
  | exact wpAny_pure hQ
  |(cases u<;>first
    | exact wpAny_pure hQ
    |(refine wpAny_bind (wpAny_load ho ?_)
      rw[hc,hd]
      show wpAny M A (if (["enumerate","zip","dict_itemiterator","dict_reverseitemiterator","odict_iterator","itertools.zip_longest","itertools.pairwise"].contains n&&vs[0]? ==some (rawInt _))=true then _ else _) Q E s
      rw[if_neg (by intro h;rw[hn,Bool.false_and]at h;cases h)]
      exact wpAny_pure hQ))
noncomputable def Mp (K:PySem.W.Frag) (a:Addr):It:=
 ⟨fun i H=> ∃xs x,ba K H a xs/\xs[i]? =some x,fun i H x H'=>H'=H/\ ∀xs,ba K H a xs->xs[i]? =some x,fun i H=> ∃xs,ba K H a xs/\xs.length<=i⟩
noncomputable def Sh (K:PySem.W.Frag) (a:Addr):It:=
 ⟨fun i H=> ∃xs x,bY K H a xs/\xs[i]? =some x,fun i H x H'=>H'=H/\ ∀xs,bY K H a xs->xs[i]? =some x,fun i H=> ∃xs,bY K H a xs/\xs.length<=i⟩
noncomputable def IJ (lo:Int) (n:Nat):It:=⟨fun i _=>i<n,fun i H x H'=>H'=H/\x= .int (lo+i),fun i _=>n<=i⟩
theorem Be {P:Program} {w:World} {K:PySem.W.Frag} {tg:Expr} (a it:Addr):Turn P w K tg (Mp K a) [it] it (fun i h=>h.IsListIter it a i) where
 mem:=by simp
 obj:=fun i h st b hb=>by
  have e:b=it:=by simpa using hb
  subst e
  obtain ⟨o,e,c,d⟩:=st
  exact ⟨o,e,fun v z=>by rw[d]at z;cases z⟩
 keep:=fun i h h' st k=>st.at fun o e=>k it (by simp) o e
 item:=by
  intro X hP hw hK hc i pins s σ H E I hf st hg
  subst hP hw hK
  obtain ⟨xs,x,hq,hx⟩:=hg
  obtain ⟨aJ,rv,p,hz⟩:=I.list hq
  obtain ⟨u,hu,ru⟩:=rv.get hx
  obtain ⟨f0,f1,f2,f3,f4,f5⟩:=hf it (by simp)
  refine wpAny_pyNext_list_item st p.isList (x:=u) (by simpa using hu) fun h' vv sb=>?_
  have I1:Inv X pins σ H { s with heap:=h' }:=I.turned (t':=s.toks) (fun b o hb e=>(sb.2 b hb).trans e) f0 f1 f3 f4 f5
  obtain ⟨o,e,c,d⟩:=id vv
  exact ⟨u,rfl,vM (s:={ s with heap:=h' }) e c d (by decide) ⟨x,H,I1,ru,⟨rfl,fun ys hy=>by rw[I.vK hy hq];exact hx⟩,vv,fun b hb=>(hf b hb).1⟩⟩
 done:=by
  intro X hP hw hK hc i pins s σ H E I hf st hg
  subst hP hw hK
  obtain ⟨xs,hq,hx⟩:=hg
  obtain ⟨aJ,rv,p,hz⟩:=I.list hq
  obtain ⟨f0,f1,f2,f3,f4,f5⟩:=hf it (by simp)
  have hl:=rv.length
  exact wpAny_pyNext_list_end (I.ok.hd hc) st p.isList (by simp;omega) fun h' eb=>⟨rfl,I.turned (t':=s.toks) (fun b o hb e=>eb b o hb e) f0 f1 f3 f4 f5⟩
 self:=fun _ _ _ _ _ st h=>wpAny_pyIter_listiter st h
theorem xW {P:Program} {w:World} {K:PySem.W.Frag} {tg:Expr} (a it:Addr):Turn P w K tg (Sh K a) [it] it (fun i h=>h.IsTupleIter it a i) where
 mem:=by simp
 obj:=fun i h st b hb=>by
  have e:b=it:=by simpa using hb
  subst e
  obtain ⟨o,e,c,d⟩:=st
  exact ⟨o,e,fun v z=>by rw[d]at z;cases z⟩
 keep:=fun i h h' st k=>st.at fun o e=>k it (by simp) o e
 item:=by
  intro X hP hw hK hc i pins s σ H E I hf st hg
  subst hP hw hK
  obtain ⟨xs,x,hq,hx⟩:=hg
  obtain ⟨aJ,rv,p,hz⟩:=I.tuple hq
  obtain ⟨u,hu,ru⟩:=rv.get hx
  obtain ⟨f0,f1,f2,f3,f4,f5⟩:=hf it (by simp)
  refine wpAny_pyNext_tuple_item st (show s.heap.IsTuple a aJ.toArray from p) (x:=u) (by simpa using hu) fun h' vv sb=>?_
  have I1:Inv X pins σ H { s with heap:=h' }:=I.turned (t':=s.toks) (fun b o hb e=>(sb.2 b hb).trans e) f0 f1 f3 f4 f5
  obtain ⟨o,e,c,d⟩:=id vv
  exact ⟨u,rfl,vM (s:={ s with heap:=h' }) e c d (by decide) ⟨x,H,I1,ru,⟨rfl,fun ys hy=>by rw[I.mq hy hq];exact hx⟩,vv,fun b hb=>(hf b hb).1⟩⟩
 done:=by
  intro X hP hw hK hc i pins s σ H E I hf st hg
  subst hP hw hK
  obtain ⟨xs,hq,hx⟩:=hg
  obtain ⟨aJ,rv,p,hz⟩:=I.tuple hq
  obtain ⟨f0,f1,f2,f3,f4,f5⟩:=hf it (by simp)
  have hl:=rv.length
  exact wpAny_pyNext_tuple_end (I.ok.hd hc) st (show s.heap.IsTuple a aJ.toArray from p) (by simp;omega) fun h' eb=>⟨rfl,I.turned (t':=s.toks) (fun b o hb e=>eb b o hb e) f0 f1 f3 f4 f5⟩
 self:=fun _ _ _ _ _ st h=>wpAny_pyIter_tupleiter st h
theorem xX {P:Program} {w:World} {K:PySem.W.Frag} {tg:Expr} (it:Addr) (lo:Int) (n:Nat):Turn P w K tg (IJ lo n) [it] it (fun i h=>IsRangeIter h it (lo+(i:Nat)*1) ((n:Int) - (i:Nat)) 1) where
 mem:=by simp
 obj:=fun i h st b hb=>by
  have e:b=it:=by simpa using hb
  subst e
  exact ⟨_,st,fun v z=>by
   have z':Data.fields _=Data.cell v:=z
   cases z'⟩
 keep:=fun i h h' st k=>k it (by simp) _ st
 item:=by
  intro X hP hw hK hc i pins s σ H E I hf st hg
  subst hP hw hK
  obtain ⟨f0,f1,f2,f3,f4,f5⟩:=hf it (by simp)
  have W:=Walks.range (prog:=X.prog) (w:=X.w) (I.ok.hd hc) it lo 1 n
  refine W.item i s _ _ hg st fun v h' tk hv vv kk=>?_
  obtain ⟨t,rfl⟩:=hv
  have I1:Inv X pins σ H { s with heap:=h',toks:=tk }:=I.turned (fun b o hb e=>kk b o (by simpa using hb) e) f0 f1 f3 f4 f5
  refine ⟨_,rfl,vM (s:={ s with heap:=h',toks:=tk }) (n:="range_iterator") vv rfl rfl (by decide) ⟨.int (lo+i),H,I1,⟨t,?_⟩,⟨rfl,rfl⟩,vv,fun b hb=>(hf b hb).1⟩⟩
  rw[Int.mul_one]
 done:=by
  intro X hP hw hK hc i pins s σ H E I hf st hg
  subst hP hw hK
  obtain ⟨f0,f1,f2,f3,f4,f5⟩:=hf it (by simp)
  exact wpAny_pyNext_range_end (I.ok.hd hc) st (by have:n<=i:=hg;omega) fun h' eb=>⟨rfl,I.turned (t':=s.toks) (fun b o hb e=>eb b o hb e) f0 f1 f3 f4 f5⟩
 self:=fun _ _ _ _ _ st h=>wpAny_pyIter_rangeiter st h
section
variable {X:Cx} {tg:Expr}
def IK (K:PySem.W.Frag) (tl:TE):TI:=fun σ H R=>tl σ H fun x H1=> ∃a,x= .ref a/\(∃xs,ba K H1 a xs)/\R (Mp K a) H1
def Ot (K:PySem.W.Frag) (tl:TE):TI:=fun σ H R=>tl σ H fun x H1=> ∃a,x= .ref a/\(∃xs,bY K H1 a xs)/\R (Sh K a) H1
theorem GD {l:Expr} {tl:TE} (hl:PE X l tl):PI X tg l (IK X.K tl):=by
 intro pins s σ H R I h
 refine cg (hl pins s σ H _ I h) fun v s1 ⟨x,H1,I1,r1,q1⟩=>?_
 obtain ⟨a,e,⟨xs,hq⟩,q⟩:=q1
 subst e
 cases r1
 obtain ⟨aJ,rv,p,hz⟩:=I1.list hq
 refine wpAny_pyIter_list p.isList ?_
 refine ⟨s1.heap.objs.size,[s1.heap.objs.size],_,_,H1,rfl,I1.kept (t':=s1.toks) fun b o e=>Mr _ e,Be a _,⟨_,Ze _ rfl,rfl,rfl⟩,fun b hb=>?_,q⟩
 have e:b=s1.heap.objs.size:=by simpa using hb
 subst e
 exact I1.o6 (UP _) (I1.bZ.fresh (UP _))
theorem JY {l:Expr} {tl:TE} (hl:PE X l tl):PI X tg l (Ot X.K tl):=by
 intro pins s σ H R I h
 refine cg (hl pins s σ H _ I h) fun v s1 ⟨x,H1,I1,r1,q1⟩=>?_
 obtain ⟨a,e,⟨xs,hq⟩,q⟩:=q1
 subst e
 cases r1
 obtain ⟨aJ,rv,p,hz⟩:=I1.tuple hq
 refine wpAny_pyIter_tuple (show s1.heap.IsTuple a aJ.toArray from p) ?_
 refine ⟨s1.heap.objs.size,[s1.heap.objs.size],_,_,H1,rfl,I1.kept (t':=s1.toks) fun b o e=>Mr _ e,xW a _,⟨_,Ze _ rfl,rfl,rfl⟩,fun b hb=>?_,q⟩
 have e:b=s1.heap.objs.size:=by simpa using hb
 subst e
 exact I1.o6 (UP _) (I1.bZ.fresh (UP _))
theorem vN {pins:List (Addr×Obj)} {σ:St} {H:Hp} {s:Shared} {R:It->Hp->Prop} {E:Value->Shared->Prop} {lo hi:Int} {t u v:Tok} {tk:Nat} (I:Inv X pins σ H s) (h1: -(2 ^ 62)<=lo) (h2:lo<2 ^ 62) (h3: -(2 ^ 62)<=hi) (h4:hi<2 ^ 62)
  (q:R (IJ lo (hi - lo).toNat) H):wpAny (model X.prog X.w) X.A (pyIter (.ref s.heap.objs.size)) (UH X pins σ tg R) E { s with heap:=s.heap.push { cls:= .type "range",data:= .fields #[.int lo t, .int hi u, .int 1 v] },toks:=tk }:=by
 refine wpAny_pyIter_range (IsRange.new ..) (small_one h1 h2 h3 h4) ?_
 have I1:Inv X pins σ H { s with heap:=s.heap.push { cls:= .type "range",data:= .fields #[.int lo t, .int hi u, .int 1 v] },toks:=tk }:=I.kept fun b o e=>Mr _ e
 refine ⟨(s.heap.push { cls:= .type "range",data:= .fields #[.int lo t, .int hi u, .int 1 v] }).objs.size,[(s.heap.push { cls:= .type "range",data:= .fields #[.int lo t, .int hi u, .int 1 v] }).objs.size],_,_,H,rfl,
  I1.kept (t':=tk) fun b o e=>Mr _ e,xX _ lo (hi - lo).toNat,?_,fun b hb=>?_,q⟩
 ·have e1:lo+((0:Nat):Int)*1=lo:=by simp
  have e2:(((hi - lo).toNat:Nat):Int) - ((0:Nat):Int)=Builtin.Range.rangeSize lo hi 1:=by rw[rangeSize_one];split<;>omega
  show IsRangeIter _ _ (lo+((0:Nat):Int)*1) ((((hi - lo).toNat:Nat):Int) - ((0:Nat):Int)) 1
  rw[e1,e2]
  exact Ze _ rfl
 ·have e:b=(s.heap.push { cls:= .type "range",data:= .fields #[.int lo t, .int hi u, .int 1 v] }).objs.size:=by simpa using hb
  subst e
  exact I1.o6 (UP _) (I1.bZ.fresh (UP _))
def Ou (ta:TA):TI:=fun σ H R=>ta σ H fun vs H1=> ∃j:Int,vs=[.int j]/\ -(2 ^ 62)<=j/\j<2 ^ 62/\R (IJ 0 j.toNat) H1
def Ov (ta:TA):TI:=fun σ H R=>ta σ H fun vs H1=> ∃i j:Int,vs=[.int i, .int j]/\(-(2 ^ 62)<=i/\i<2 ^ 62/\ -(2 ^ 62)<=j/\j<2 ^ 62)/\R (IJ i (j - i).toNat) H1
theorem eJ {a:Expr} {ta:TA} {p pos:Pos} (hg:Gl X "range") (hm:X.mg "range"=none) (ha:PA X [a] ta) (hs:starEach [a] X.env=[(false,eval a X.env)]:=by rfl):PI X tg (.Call (.Name "range" p) [a] [] pos) (Ou ta):=by
 intro pins s σ H R I h
 refine Call_ (gv I hg hm boot_range (Z0 (cg (ha pos pins s σ H _ I h) fun us s1 ⟨vs,H1,I1,r1,q1⟩=>?_) hs rfl))
 obtain ⟨j,e,q1,q2,q⟩:=q1
 subst e
 cases r1 with
 | cons r rr=>
  cases rr
  obtain ⟨t,rfl⟩:=r
  exact call_range_1 (vN I1 (by omega) (by omega) q1 q2 (by simpa using q))
theorem rO {a b:Expr} {ta:TA} {p pos:Pos} (hg:Gl X "range") (hm:X.mg "range"=none) (ha:PA X [a,b] ta) (hs:starEach [a,b] X.env=[(false,eval a X.env),(false,eval b X.env)]:=by rfl) (FR:starEach [b] X.env=[(false,eval b X.env)]:=by rfl):
  PI X tg (.Call (.Name "range" p) [a,b] [] pos) (Ov ta):=by
 intro pins s σ H R I h
 refine Call_ (gv I hg hm boot_range (Z0 (cg (ha pos pins s σ H _ I h) fun us s1 ⟨vs,H1,I1,r1,q1⟩=>?_) (by rw[hs,FR]) (by rw[FR];rfl)))
 obtain ⟨i,j,e,⟨q1,q2,q3,q4⟩,q⟩:=q1
 subst e
 cases r1 with
 | cons r rr=>
  cases rr with
  | cons r' rr=>
   cases rr
   obtain ⟨t,rfl⟩:=r
   obtain ⟨t',rfl⟩:=r'
   exact call_range_2 (vN I1 q1 q2 q3 q4 q)
def Si (wi:TI) (g:TG) (tb:TS):TS:=fun D σ H=>wi σ H fun J H1=> ∃W:Nat->Nat->St->Hp->Prop,(∃m,W 0 m σ H1)/\ ∀i m σ H,W i m σ H->
 (J.stop i H/\D.nx σ H)\/(J.go i H/\ ∃N:St->Hp->Prop,(∀σ' H',N σ' H'-> ∃m',m'<m/\W (i+1) m' σ' H')/\ ∀x H',J.CD i H x H'->g x σ H' fun σ2 H2=>tb { D with nx:=N,ct:=N,bk:=D.nx } σ2 H2)
noncomputable def o7 (fp:List Addr) (h:Heap):List (Addr×Obj):=fp.filterMap fun b=>(h.get? b).map fun o=>(b,o)
theorem g_ {fp:List Addr} {h:Heap} {b:Addr} {o:Obj} (hb:b∈fp) (e:h.get? b=some o):(b,o)∈o7 fp h:=List.mem_filterMap.mpr ⟨b,hb,by rw[e];rfl⟩
theorem Bf {fp:List Addr} {h:Heap} {p:Addr×Obj} (hp:p∈o7 fp h):p.1∈fp/\h.get? p.1=some p.2:=by
 obtain ⟨b,hb,e⟩:=List.mem_filterMap.mp hp
 cases q:h.get? b with
 | none=>rw[q]at e;cases e
 | some o=>
  rw[q]at e
  have e':(b,o)=p:=Zc e
  subst e'
  exact ⟨hb,q⟩
theorem Inv.pinned {pins:List (Addr×Obj)} {σ:St} {H:Hp} {s:Shared} {fp:List Addr} (I:Inv X pins σ H s) (hf: ∀b∈fp,nR X pins H b) (ho: ∀b∈fp, ∃o,s.heap.get? b=some o/\ ∀v,o.data≠ .cell v):Inv X (pins++o7 fp s.heap) σ H s:=
 I.kT fun p hp=>(Zh.mp hp).elim (fun z=>I.pin p (Zo _ z)) fun z=>by
  obtain ⟨hb,e⟩:=Bf z
  obtain ⟨f0,f1,f2,_⟩:=hf p.1 hb
  obtain ⟨o,e',d⟩:=ho p.1 hb
  rw[e]at e';cases e'
  exact ⟨e,f0,f1,f2,d⟩
theorem Inv.iY {pins pl:List (Addr×Obj)} {σ:St} {H:Hp} {s:Shared} (I:Inv X (pins++pl) σ H s):Inv X pins σ H s:=I.kT fun p hp=>I.pin p (Zo _ (Qbc _ hp))
theorem b5 {iter:Expr} {body:List Stmt} {wi:TI} {g:TG} {tb:TS} {pos:Pos} (hp:PassesOwn (model X.prog X.w) X.A X.env X.xe) (hc:X.calm=true) (hi:PI X tg iter wi) (hg:PG X tg g) (hb:xU X body tb)
  (hs: ∀x,foldedSetIterable iter X.env x=pure x:=by intro _;rfl):PS X (.For tg iter body [] pos) (Si wi g tb):=by
 intro pins s σ H D I h
 refine wpAny_For (cg (hi pins s σ H _ I h) fun v s1 h1=>cg h1 fun Sg s2 h2=>?_) hs
 obtain ⟨it,fp,tn,J,H2,e,I2,T,vw,f2,W,⟨m0,w0⟩,turn⟩:=h2
 subst e
 -- Wc stays true of FT JZ objects through FT loop
 have J0: ∀{H':Hp},(∀b∈fp,H' b=none)-> ∀b∈fp,nR X pins H' b:=fun hn b hb=>⟨hn b hb,(f2 b hb).2⟩
 refine codeAny_forLoop_any (fun n s'=> ∃i σ' H',Inv X pins σ' H' s'/\tn i s'.heap/\(∀b∈fp,H' b=none)/\W i n σ' H') ?_ m0 ⟨0,σ,H2,I2,vw,fun b hb=>(f2 b hb).1,w0⟩
 rintro n s3 ⟨i,σ3,H3,I3,Ow,Ox,w3⟩
 rcases turn i n σ3 H3 w3 with ⟨stop,qn⟩ | ⟨go,N,hN,step⟩
 ·refine wpAny_passesOwn hp (cg (T.done X rfl rfl rfl hc i pins s3 σ3 H3 X.xe I3 (J0 Ox) Ow stop) fun r s4 ⟨hr,I4⟩=>?_)
  subst hr
  exact wpAny_execs_nil ⟨σ3,H3,I4,qn⟩
 ·refine wpAny_passesOwn hp (cg (T.item X rfl rfl rfl hc i pins s3 σ3 H3 X.xe I3 (J0 Ox) Ow go) fun r s4 ⟨u,hr,h4⟩=>?_)
  subst hr
  refine wpAny_passesOwn hp (cg h4 fun _ s5 ⟨x,H5,I5,r5,y5,J3,Sj⟩=>?_)
  have Sk:=I5.pinned (J0 Sj) (T.obj _ _ J3)
  refine wpAny_passesOwn hp (cg (hg _ s5 σ3 H5 x u _ Sk r5 (step x H5 y5)) fun _ s6 ⟨σ6,H6,I6,q6⟩=>?_)
  refine wpAny_passesOwn hp (cg (hb _ s6 σ6 H6 _ I6 q6) fun f s7 q7=>?_)
  have again: ∀{σ7:St} {H7:Hp},Inv X (pins++o7 fp s5.heap) σ7 H7 s7->N σ7 H7-> ∃m,m<n/\ ∃i σ' H',Inv X pins σ' H' s7/\tn i s7.heap/\(∀b∈fp,H' b=none)/\W i m σ' H':=fun {σ7 H7} I7 n7=>by
   obtain ⟨m',hm,w7⟩:=hN σ7 H7 n7
   refine ⟨m',hm,i+1,σ7,H7,I7.iY,T.keep _ _ _ J3 fun b hb o e=>(I7.pin (b,o) (Zo _ (Zo _ (g_ hb e)))).1,fun b hb=>?_,w7⟩
   obtain ⟨o,e,d⟩:=T.obj _ _ J3 b hb
   exact (I7.pin (b,o) (Zo _ (Zo _ (g_ hb e)))).2.1
  cases f with
  | next=>obtain ⟨σ7,H7,I7,n7⟩:=q7;exact again I7 n7
  | cont=>obtain ⟨σ7,H7,I7,n7⟩:=q7;exact again I7 n7
  | brk=>obtain ⟨σ7,H7,I7,q7⟩:=q7;exact ⟨σ7,H7,I7.iY,q7⟩
  | ret v=>obtain ⟨x7,σ7,H7,I7,r7,q7⟩:=q7;exact ⟨x7,σ7,H7,I7.iY,r7,q7⟩
end
theorem gI {K:PySem.W.Frag} {a:Addr} {xs:List V} {g:TG} {tb:TS} {D:Ends} {σ:St} {H:Hp} (Pv:Nat->St->Hp->Prop) (h0:Pv 0 σ H) (hl: ∀i σ H,i<=xs.length->Pv i σ H->ba K H a xs)
  (hs: ∀i x σ H,xs[i]? =some x->Pv i σ H->g x σ H fun σ2 H2=>tb { D with nx:=Pv (i+1),ct:=Pv (i+1),bk:=D.nx } σ2 H2) (hd: ∀σ H,Pv xs.length σ H->D.nx σ H):
  ∃W:Nat->Nat->St->Hp->Prop,(∃m,W 0 m σ H)/\ ∀i m σ H,W i m σ H->
   ((Mp K a).stop i H/\D.nx σ H)\/((Mp K a).go i H/\ ∃N:St->Hp->Prop,(∀σ' H',N σ' H'-> ∃m',m'<m/\W (i+1) m' σ' H')/\ ∀x H',(Mp K a).CD i H x H'->g x σ H' fun σ2 H2=>tb { D with nx:=N,ct:=N,bk:=D.nx } σ2 H2):=by
 refine ⟨fun i m σ H=>m=xs.length - i/\i<=xs.length/\Pv i σ H,⟨xs.length,by simp,Zg _,h0⟩,?_⟩
 rintro i m σ H ⟨rfl,hi,p⟩
 have q:=hl i σ H hi p
 by_cases cT:i<xs.length
 ·refine .inr ⟨⟨xs,xs[i],q,by simp[cT]⟩,Pv (i+1),fun σ' H' p'=>⟨xs.length - (i+1),by omega,rfl,cT,p'⟩,fun x H' y=>?_⟩
  obtain ⟨e,y⟩:=y
  subst e
  exact hs i x σ _ (y xs q) p
 ·have e:i=xs.length:=by omega
  subst e
  exact .inl ⟨⟨xs,q,UP _⟩,hd σ H p⟩
theorem dM {lo:Int} {n:Nat} {g:TG} {tb:TS} {D:Ends} {σ:St} {H:Hp} (Pv:Nat->St->Hp->Prop) (h0:Pv 0 σ H)
  (hs: ∀i σ H,i<n->Pv i σ H->g (.int (lo+i)) σ H fun σ2 H2=>tb { D with nx:=Pv (i+1),ct:=Pv (i+1),bk:=D.nx } σ2 H2) (hd: ∀σ H,Pv n σ H->D.nx σ H):
  ∃W:Nat->Nat->St->Hp->Prop,(∃m,W 0 m σ H)/\ ∀i m σ H,W i m σ H->
   ((IJ lo n).stop i H/\D.nx σ H)\/((IJ lo n).go i H/\ ∃N:St->Hp->Prop,(∀σ' H',N σ' H'-> ∃m',m'<m/\W (i+1) m' σ' H')/\ ∀x H',(IJ lo n).CD i H x H'->g x σ H' fun σ2 H2=>tb { D with nx:=N,ct:=N,bk:=D.nx } σ2 H2):=by
 refine ⟨fun i m σ H=>m=n - i/\i<=n/\Pv i σ H,⟨n,by simp,Zg _,h0⟩,?_⟩
 rintro i m σ H ⟨rfl,hi,p⟩
 by_cases cT:i<n
 ·refine .inr ⟨cT,Pv (i+1),fun σ' H' p'=>⟨n - (i+1),by omega,rfl,cT,p'⟩,fun x H' y=>?_⟩
  obtain ⟨e,y⟩:=y
  subst e y
  exact hs i σ _ cT p
 ·have e:i=n:=by omega
  subst e
  exact .inl ⟨UP _,hd σ H p⟩
abbrev R2:=V->V->Hp->VK->Prop
def hJ (X:Cx) (f:Value->Value->Sem Value) (r:R2):Prop:=
 ∀(pins:List (Addr×Obj)) (s:Shared) (σ:St) (H:Hp) (x y:V) (v u:Value) (Q:VK),Inv X pins σ H s->RelV x v->RelV y u->r x y H Q->
  wpAny (model X.prog X.w) X.A (f v u) (EP X pins σ Q) X.xe s
def Sl (X:Cx) (f:Value->Sem Value) (r:V->Hp->VK->Prop):Prop:=
 ∀(pins:List (Addr×Obj)) (s:Shared) (σ:St) (H:Hp) (x:V) (v:Value) (Q:VK),Inv X pins σ H s->RelV x v->r x H Q->
  wpAny (model X.prog X.w) X.A (f v) (EP X pins σ Q) X.xe s
def dk (X:Cx) (f:Value) (r:List V->Hp->VK->Prop):Prop:=
 ∀(pins:List (Addr×Obj)) (s:Shared) (σ:St) (H:Hp) (xs:List V) (us:List Value) (Q:VK),Inv X pins σ H s->Vals xs us->r xs H Q->
  wpAny (model X.prog X.w) X.A (call f us) (EP X pins σ Q) X.xe s
def Sm (X:Cx) (r:V->Hp->(Bool->Hp->Prop)->Prop):Prop:=
 ∀(pins:List (Addr×Obj)) (s:Shared) (σ:St) (H:Hp) (x:V) (v:Value) (Q:Bool->Hp->Prop),Inv X pins σ H s->RelV x v->r x H Q->
  wpAny (model X.prog X.w) X.A (truthy v) (TP X pins σ Q) X.xe s
def QQ (r:R2) (ta tb:TE):TE:=fun σ H Q=>ta σ H fun x H1=>tb σ H1 fun y H2=>r x y H2 Q
def We (r:V->Hp->VK->Prop) (ta:TE):TE:=fun σ H Q=>ta σ H fun x H1=>r x H1 Q
def rI (C:Int->Int->Prop) (g:Int->Int->V):R2:=fun x y H Q=> ∃i j,x= .int i/\y= .int j/\C i j/\Q (g i j) H
def FU (g:Int->Int->V):R2:=fun x y H Q=> ∃i j,x= .int i/\y= .int j/\Q (g i j) H
def rU (g:Int->V):V->Hp->VK->Prop:=fun x H Q=> ∃i,x= .int i/\Q (g i) H
section
variable {X:Cx} {a b c:Expr} {ta tb tc:TE} {pos:Pos}
theorem J4 (ha:PE X a ta) (hb:PE X b tb) {pins:List (Addr×Obj)} {s:Shared} {σ:St} {H:Hp} {R:V->V->Hp->Prop} (I:Inv X pins σ H s)
  (h:ta σ H fun x H1=>tb σ H1 fun y H2=>R x y H2) {Q:Value->Shared->Prop} {f:Value->Value->Sem Value}
  (hf: ∀v u s2 x y H2,Inv X pins σ H2 s2->RelV x v->RelV y u->R x y H2->wpAny (model X.prog X.w) X.A (f v u) Q X.xe s2):
  wpAny (model X.prog X.w) X.A (eval a X.env) (fun v s₁=>wpAny (model X.prog X.w) X.A (eval b X.env) (fun u s₂=>wpAny (model X.prog X.w) X.A (f v u) Q X.xe s₂) X.xe s₁) X.xe s:=by
 refine cg (ha pins s σ H _ I h) fun v s1 ⟨x,H1,I1,r1,q1⟩=>?_
 refine cg (hb pins s1 σ H1 _ I1 q1) fun u s2 ⟨y,H2,I2,r2,q2⟩=>?_
 exact hf v u s2 x y H2 I2 r1 r2 q2
theorem aC {op:Operator} {r:R2} (ho:hJ X (binaryOp op) r) (ha:PE X a ta) (hb:PE X b tb):PE X (.BinOp a op b pos) (QQ r ta tb):=by
 intro pins s σ H Q I h
 exact wpAny_BinOp (J4 ha hb I h fun v u s2 x y H2 I2 rx ry q=>ho pins s2 σ H2 x y v u Q I2 rx ry q)
theorem iF {op:UnaryOp} {r:V->Hp->VK->Prop} (ho:Sl X (unaryOp op) r) (ha:PE X a ta):PE X (.UnaryOp op a pos) (We r ta):=by
 intro pins s σ H Q I h
 exact UnaryOp_ (cg (ha pins s σ H _ I h) fun v s1 ⟨x,H1,I1,r1,q1⟩=>ho pins s1 σ H1 x v Q I1 r1 q1)
theorem QR {f:Value->Value->Sem Value} {C:Int->Int->Prop} {g:Int->Int->Int}
  (rule: ∀(i j:Int) (t u:Tok) (s:Shared) (Q:Value->Shared->Prop) (E:Value->Shared->Prop),C i j->Q (.int (g i j) s.toks) { s with toks:=s.toks+1 }->wpAny (model X.prog X.w) X.A (f (.int i t) (.int j u)) Q E s):
  hJ X f (rI C fun i j=> .int (g i j)):=by
 intro pins s σ H x y v u Q I rx ry h
 obtain ⟨i,j,rfl,rfl,hc,q⟩:=h
 obtain ⟨t,rfl⟩:=rx
 obtain ⟨t',rfl⟩:=ry
 exact rule i j t t' s _ _ hc ⟨.int (g i j),H,I.tok _,⟨_,rfl⟩,q⟩
theorem Oy {f:Value->Value->Sem Value} {g:Int->Int->Int}
  (rule: ∀(i j:Int) (t u:Tok) (s:Shared) (Q:Value->Shared->Prop) (E:Value->Shared->Prop),Q (.int (g i j) s.toks) { s with toks:=s.toks+1 }->wpAny (model X.prog X.w) X.A (f (.int i t) (.int j u)) Q E s):
  hJ X f (FU fun i j=> .int (g i j)):=by
 intro pins s σ H x y v u Q I rx ry h
 obtain ⟨i,j,rfl,rfl,q⟩:=h
 obtain ⟨t,rfl⟩:=rx
 obtain ⟨t',rfl⟩:=ry
 exact rule i j t t' s _ _ ⟨.int (g i j),H,I.tok _,⟨_,rfl⟩,q⟩
theorem GF {f:Value->Value->Sem Value} {g:Int->Int->Bool}
  (rule: ∀(i j:Int) (t u:Tok) (s:Shared) (Q:Value->Shared->Prop) (E:Value->Shared->Prop),Q (.bool (g i j)) s->wpAny (model X.prog X.w) X.A (f (.int i t) (.int j u)) Q E s):
  hJ X f (FU fun i j=> .bl (g i j)):=by
 intro pins s σ H x y v u Q I rx ry h
 obtain ⟨i,j,rfl,rfl,q⟩:=h
 obtain ⟨t,rfl⟩:=rx
 obtain ⟨t',rfl⟩:=ry
 exact rule i j t t' s _ _ ⟨.bl (g i j),H,I,rfl,q⟩
def So (i j:Int):Prop:=0<j/\j<1073741824
def Sr (i j:Int):Prop:=0<=j/\j<=1000000/\i.natAbs<2 ^ 64
def Bg (i j:Int):Prop:=(-(2 ^ 64)<i/\i<2 ^ 64)\/(-(2 ^ 64)<j/\j<2 ^ 64)
theorem Bg.ok {i j:Int} (h:Bg i j):IntMulOk i j:=by
 rcases h with ⟨h1,h2⟩ | ⟨h1,h2⟩
 ·exact .of_left (intBits_le_64 h1 h2)
 ·exact .of_right (intBits_le_64 h1 h2)
theorem bc:hJ X (binaryOp .Add) (FU fun i j=> .int (i+j)):=Oy fun _ _ _ _ _ _ _ q=>add_int q
theorem cj:hJ X (binaryOp .Sub) (FU fun i j=> .int (i - j)):=Oy fun _ _ _ _ _ _ _ q=>sub_int q
theorem gw:hJ X (binaryOp .Mult) (rI Bg fun i j=> .int (i*j)):=QR fun _ _ _ _ _ _ _ hc q=>mul_int q hc.ok
theorem dE:hJ X (binaryOp .Mod) (rI (fun _ j=>0<j) fun i j=> .int (i%j)):=QR fun i j _ _ _ _ _ hc q=>by
 have h1:(0:Int)<j:=hc
 exact mod_int' (by omega) (by rw[Int.fmod_eq_emod_of_nonneg i (by omega)];exact q)
theorem C0:hJ X (binaryOp .Pow) (rI Sr fun i j=> .int (i ^ j.toNat)):=QR fun _ _ _ _ _ _ _ hc q=>pow_int_small hc.1 hc.2.1 hc.2.2 q
theorem Wf {f:Value->Sem Value} {g:Int->Int}
  (rule: ∀(i:Int) (t:Tok) (s:Shared) (Q:Value->Shared->Prop) (E:Value->Shared->Prop),Q (.int (g i) s.toks) { s with toks:=s.toks+1 }->wpAny (model X.prog X.w) X.A (f (.int i t)) Q E s):
  Sl X f (rU fun i=> .int (g i)):=by
 intro pins s σ H x v Q I rx h
 obtain ⟨i,rfl,q⟩:=h
 obtain ⟨t,rfl⟩:=rx
 exact rule i t s _ _ ⟨.int (g i),H,I.tok _,⟨_,rfl⟩,q⟩
theorem ft:Sl X (unaryOp .USub) (rU fun i=> .int (-i)):=Wf fun _ _ _ _ _ q=>neg_int q
end
noncomputable def Oz:V->V->Bool
 | .fH, .fH=>true | .fH, .int _=>true | .int _, .fH=>true | .fH, .bl _=>true | .bl _, .fH=>true | .fH, .str _=>true | .str _, .fH=>true
 | .int _, .int _=>true | .bl _, .bl _=>true | .str _, .str _=>true | .zF _, .zF _=>true
 | .int _, .str _=>true | .str _, .int _=>true | .bl _, .str _=>true | .str _, .bl _=>true
 | _,_=>false
def Wg:R2:=fun x y H Q=>Oz x y=true/\Q (.bl (decide (x=y))) H
def Wh:R2:=fun x y H Q=>Oz x y=true/\Q (.bl (!decide (x=y))) H
theorem zL {i j:Int}:decide (V.int i=V.int j)=(i==j):=by
 rw[Qbw]
 simp
theorem C1 {i j:Bool}:decide (V.bl i=V.bl j)=(i==j):=by
 rw[Qbw]
 simp
theorem zM {i j:Str}:decide (V.str i=V.str j)=(i==j):=by
 rw[Qbw]
 simp
theorem zN {i j:Array UInt8}:decide (V.zF i=V.zF j)=(i.toList==j.toList):=by
 rw[Qbw]
 cases i
 cases j
 simp
section
variable {X:Cx} {a b c:Expr} {ta tb tc:TE} {pos:Pos}
theorem bj {pins:List (Addr×Obj)} {σ:St} {H:Hp} {s:Shared} {Q:VK} {k k':Bool} (I:Inv X pins σ H s) (q:Q (.bl k) H) (e:k=k'):EP X pins σ Q (.bool k') s:=by
 subst e
 exact ⟨.bl k,H,I,rfl,q⟩
theorem C2:hJ X (compareOp .Eq) Wg:=by
 intro pins s σ H x y v u Q I rx ry h
 obtain ⟨hs,q⟩:=h
 cases x with
 | fH=>
  cases rx
  cases y with
  | fH=>cases ry;exact PySem.EqNone.eq_none_none (bj I q (by simp))
  | bl j=>cases ry;exact PySem.EqNone.eq_none_bool (bj I q (by simp))
  | int j=>obtain ⟨t',rfl⟩:=ry;exact PySem.EqNone.eq_none_int (bj I q (by simp))
  | str j=>obtain ⟨t',rfl⟩:=ry;exact PySem.EqNone.eq_none_str (bj I q (by simp))
  | _=>exact absurd (show false=true from hs) Zn
 | bl i=>
  cases rx
  cases y with
  | fH=>cases ry;exact PySem.EqNone.eq_bool_none (bj I q (by simp))
  | bl j=>cases ry;exact eq_bool (bj I q C1)
  | str j=>obtain ⟨t',rfl⟩:=ry;exact PySem.EqMixed.eq_bool_str (bj I q (by simp))
  | _=>exact absurd (show false=true from hs) Zn
 | int i=>
  obtain ⟨t,rfl⟩:=rx
  cases y with
  | fH=>cases ry;exact PySem.EqNone.eq_int_none (bj I q (by simp))
  | int j=>obtain ⟨t',rfl⟩:=ry;exact eq_int (bj I q zL)
  | str j=>obtain ⟨t',rfl⟩:=ry;exact PySem.EqMixed.eq_int_str (bj I q (by simp))
  | _=>exact absurd (show false=true from hs) Zn
 | str i=>
  obtain ⟨t,rfl⟩:=rx
  cases y with
  | fH=>cases ry;exact PySem.EqNone.eq_str_none (bj I q (by simp))
  | bl j=>cases ry;exact PySem.EqMixed.eq_str_bool (bj I q (by simp))
  | int j=>obtain ⟨t',rfl⟩:=ry;exact PySem.EqMixed.eq_str_int (bj I q (by simp))
  | str j=>obtain ⟨t',rfl⟩:=ry;exact eq_str (bj I q zM)
  | _=>exact absurd (show false=true from hs) Zn
 | zF i=>
  obtain ⟨t,rfl⟩:=rx
  cases y with
  | zF j=>obtain ⟨t',rfl⟩:=ry;exact PySem.W.eq_bytes (bj I q zN)
  | _=>exact absurd (show false=true from hs) Zn
 | _=>cases y<;>exact absurd (show false=true from hs) Zn
theorem C3:hJ X (compareOp .NotEq) Wh:=by
 intro pins s σ H x y v u Q I rx ry h
 obtain ⟨hs,q⟩:=h
 cases x with
 | fH=>
  cases rx
  cases y with
  | fH=>cases ry;exact PySem.EqNone.ne_none_none (bj I q (by simp))
  | bl j=>cases ry;exact PySem.EqNone.ne_none_bool (bj I q (by simp))
  | int j=>obtain ⟨t',rfl⟩:=ry;exact PySem.EqNone.ne_none_int (bj I q (by simp))
  | str j=>obtain ⟨t',rfl⟩:=ry;exact PySem.EqNone.ne_none_str (bj I q (by simp))
  | _=>exact absurd (show false=true from hs) Zn
 | bl i=>
  cases rx
  cases y with
  | fH=>cases ry;exact PySem.EqNone.ne_bool_none (bj I q (by simp))
  | bl j=>cases ry;exact ne_bool (bj I q (congrArg not C1))
  | str j=>obtain ⟨t',rfl⟩:=ry;exact PySem.EqMixed.ne_bool_str (bj I q (by simp))
  | _=>exact absurd (show false=true from hs) Zn
 | int i=>
  obtain ⟨t,rfl⟩:=rx
  cases y with
  | fH=>cases ry;exact PySem.EqNone.ne_int_none (bj I q (by simp))
  | int j=>obtain ⟨t',rfl⟩:=ry;exact ne_int (bj I q (congrArg not zL))
  | str j=>obtain ⟨t',rfl⟩:=ry;exact PySem.EqMixed.ne_int_str (bj I q (by simp))
  | _=>exact absurd (show false=true from hs) Zn
 | str i=>
  obtain ⟨t,rfl⟩:=rx
  cases y with
  | fH=>cases ry;exact PySem.EqNone.ne_str_none (bj I q (by simp))
  | bl j=>cases ry;exact PySem.EqMixed.ne_str_bool (bj I q (by simp))
  | int j=>obtain ⟨t',rfl⟩:=ry;exact PySem.EqMixed.ne_str_int (bj I q (by simp))
  | str j=>obtain ⟨t',rfl⟩:=ry;exact ne_str (bj I q (congrArg not zM))
  | _=>exact absurd (show false=true from hs) Zn
 | zF i=>
  obtain ⟨t,rfl⟩:=rx
  cases y with
  | zF j=>obtain ⟨t',rfl⟩:=ry;exact PySem.W.ne_bytes (bj I q (congrArg not zN))
  | _=>exact absurd (show false=true from hs) Zn
 | _=>cases y<;>exact absurd (show false=true from hs) Zn
theorem gJ:hJ X (compareOp .Lt) (FU fun i j=> .bl (decide (i<j))):=GF fun _ _ _ _ _ _ _ q=>lt_int q
theorem IL:hJ X (compareOp .LtE) (FU fun i j=> .bl (decide (i<=j))):=GF fun _ _ _ _ _ _ _ q=>le_int q
theorem nz:hJ X (compareOp .Gt) (FU fun i j=> .bl (decide (j<i))):=GF fun _ _ _ _ _ _ _ q=>gt_int q
theorem C5:hJ X (compareOp .GtE) (FU fun i j=> .bl (decide (j<=i))):=GF fun _ _ _ _ _ _ _ q=>ge_int q
theorem Bh:hJ X (compareOp .Lt) (fun x y H Q=> ∃i j,x= .str i/\y= .str j/\Q (.bl (decide (i.cps.toList<j.cps.toList))) H):=by
 intro pins s σ H x y v u Q I rx ry h
 obtain ⟨i,j,rfl,rfl,q⟩:=h
 obtain ⟨t,rfl⟩:=rx
 obtain ⟨t',rfl⟩:=ry
 exact lt_str (bj I q rfl)
theorem Bi:hJ X (compareOp .In) (fun x y H Q=> ∃i j,x= .str i/\y= .str j/\Q (.bl (!(Builtin.Str.occurrences j i 0 j.length 1).isEmpty)) H):=by
 intro pins s σ H x y v u Q I rx ry h
 obtain ⟨i,j,rfl,rfl,q⟩:=h
 obtain ⟨t,rfl⟩:=rx
 obtain ⟨t',rfl⟩:=ry
 exact in_str (bj I q rfl)
theorem aK (b:Expr) {op:CmpOp} (h:op≠ .In:=by decide) (h2:op≠ .NotIn:=by decide):behindInMarks op b=false:=by
 have e1:(op==CmpOp.In)=false:=by cases op<;>first | rfl | exact absurd rfl h
 have e2:(op==CmpOp.NotIn)=false:=by cases op<;>first | rfl | exact absurd rfl h2
 cases b<;>simp[behindInMarks,e1,e2]
theorem f_ {op:CmpOp} {r:R2} (ho:hJ X (compareOp op) r) (ha:PE X a ta) (hb:PE X b tb) (hm:behindInMarks op b=false):PE X (.Compare a [op] [b] pos) (QQ r ta tb):=by
 intro pins s σ H Q I h
 exact wpAny_Compare1 (J4 ha hb I h fun v u s2 x y H2 I2 rx ry q=>ho pins s2 σ H2 x y v u Q I2 rx ry q) hm
def OA (t:TE):TT:=fun σ H Q=>t σ H fun x H'=> ∃k,x= .bl k/\Q k H'
theorem aG {op:CmpOp} {r:R2} (ho:hJ X (compareOp op) r) (ha:PE X a ta) (hb:PE X b tb) (hm:behindInMarks op b=false):PT X (.Compare a [op] [b] pos) (OA (QQ r ta tb)):=by
 intro pins s σ H Q I h
 refine wpAny_isTrue_Compare1 (cg (ha pins s σ H _ I h) fun v s1 ⟨x,H1,I1,r1,q1⟩=>cg (hb pins s1 σ H1 _ I1 q1) fun u s2 ⟨y,H2,I2,r2,q2⟩=>
  cg (ho pins s2 σ H2 x y v u _ I2 r1 r2 q2) fun c s3 ⟨z,H3,I3,r3,k,e,q3⟩=>?_) hm
 subst e
 cases r3
 exact wpAny_truthy_bool ⟨H3,I3,q3⟩
def J5 (r r':R2) (ta tb tc:TE):TE:=fun σ H Q=>ta σ H fun x H1=>tb σ H1 fun y H2=>r x y H2 fun z H3=> ∃k,z= .bl k/\
 (if k=true then tc σ H3 fun w' H4=>r' y w' H4 Q else Q (.bl false) H3)
theorem vO {op Ss:CmpOp} {r r':R2} (ho:hJ X (compareOp op) r) (CV:hJ X (compareOp Ss) r') (ha:PE X a ta) (hb:PE X b tb) (hc:PE X c tc)
  (hm:lastMarks [op,Ss] [b,c]=false:=by with_unfolding_all rfl):PE X (.Compare a [op,Ss] [b,c] pos) (J5 r r' ta tb tc):=by
 intro pins s σ H Q I h
 refine Compare_chain (cg (ha pins s σ H _ I h) fun v s1 ⟨x,H1,I1,r1,q1⟩=>chain_link (cg (hb pins s1 σ H1 _ I1 q1) fun u s2 ⟨y,H2,I2,r2,q2⟩=>
  cg (ho pins s2 σ H2 x y v u _ I2 r1 r2 q2) fun d s3 ⟨z,H3,I3,r3,k,e,q3⟩=>?_)) hm
 subst e
 cases r3
 refine wpAny_truthy_bool ?_
 cases k with
 | false=>exact ite_ff ⟨.bl false,H3,I3,rfl,q3⟩
 | true=>exact ite_tt (chain_last (cg (hc pins s3 σ H3 _ I3 q3) fun w' s4 ⟨z',H4,I4,r4,q4⟩=>CV pins s4 σ H4 y z' u w' Q I4 r2 r4 q4))
def Su (K:PySem.W.Frag) (x:V) (H:Hp) (k:Bool):Prop:=
 match x with
 | .fH=>k=false
 | .bl b=>k=b
 | .int i=>k=(i != 0)
 | .str y=>y.length<=sizeLine/\k=((y.length:Int) != 0)
 | .zF y=>y.size<=sizeLine/\k=((y.size:Int) != 0)
 | .ref p=>(∃xs,ba K H p xs/\k=!xs.isEmpty)\/(∃xs,bY K H p xs/\k=!xs.isEmpty)\/ ∃aP,H p=some (.dK aP)/\k=!aP.isEmpty
 | _=>False
theorem xY {κ:Type} {aP:List (κ×V)} {vs:List (κ×Value)} (r:KV aP vs):(!vs.isEmpty)=!aP.isEmpty:=by
 cases r<;>rfl
theorem o8 {xs:List V} {aJ:List Value} (r:Vals xs aJ):(!aJ.toArray.isEmpty)=!xs.isEmpty:=by
 cases r<;>simp
theorem fL:(sizeLine:Nat)<2 ^ 63:=by rw[sizeLine_eq];decide
theorem J6:Sm X (fun x H Q=> ∃k,Su X.K x H k/\Q k H):=by
 intro pins s σ H x v Q I rx h
 obtain ⟨k,e,q⟩:=h
 have hl:=fL
 have hs:sizeLine=16777216:=sizeLine_eq
 cases x with
 | fH=>
  cases rx
  have e':k=false:=e
  subst e'
  exact truthy_none ⟨H,I,q⟩
 | bl b=>
  cases rx
  have e':k=b:=e
  subst e'
  exact wpAny_truthy_bool ⟨H,I,q⟩
 | int i=>
  obtain ⟨t,rfl⟩:=rx
  have e':k=(i != 0):=e
  subst e'
  exact PySem.P.truthy_int ⟨H,I,q⟩
 | str y=>
  obtain ⟨t,rfl⟩:=rx
  obtain ⟨hy,e'⟩:y.length<=sizeLine/\k=((y.length:Int) != 0):=e
  subst e'
  exact PySem.P.truthy_str (by omega) ⟨H,I.tok _,q⟩
 | zF y=>
  obtain ⟨t,rfl⟩:=rx
  obtain ⟨hy,e'⟩:y.size<=sizeLine/\k=((y.size:Int) != 0):=e
  subst e'
  exact PySem.W.truthy_bytes (by omega) ⟨H,I.tok _,q⟩
 | ref p=>
  cases rx
  have e':(∃xs,ba X.K H p xs/\k=!xs.isEmpty)\/(∃xs,bY X.K H p xs/\k=!xs.isEmpty)\/ ∃aP,H p=some (.dK aP)/\k=!aP.isEmpty:=e
  rcases e' with ⟨xs,hx,e'⟩ | ⟨xs,hx,e'⟩ | ⟨aP,hx,e'⟩
  ·subst e'
   obtain ⟨aJ,r,pl,hz⟩:=I.list hx
   have hlen:=r.length
   exact wpAny_truthy_list pl.isList (by simp only[YN];omega) ⟨H,I.tok _,by rw[o8 r];exact q⟩
  ·subst e'
   obtain ⟨aJ,r,pl,hz⟩:=I.tuple hx
   have hlen:=r.length
   exact truthy_tuple pl (by simp only[YN];omega) ⟨H,I.tok _,by rw[o8 r];exact q⟩
  ·subst e'
   obtain ⟨hz,hS,vs,r,m⟩:aP.length<=sizeLine/\(p==sysModules)=false/\ ∃vs,KV aP vs/\s.heap.DictOf (cA X.prog X.w) p vs:=I.bZ p _ hx
   have hlen:aP.length=vs.length:=Paired.length r
   exact wpAny_truthy_dict hS m (by omega) ⟨H,I.tok _,by rw[xY r];exact q⟩
 | _=>exact (show False from e).elim
theorem xZ:hJ X (binaryOp .Add) (fun x y H Q=> ∃i j,x= .str i/\y= .str j/\i.length+j.length<=sizeLine/\Q (.str (i++j)) H):=by
 intro pins s σ H x y v u Q I rx ry h
 obtain ⟨i,j,rfl,rfl,hz,q⟩:=h
 obtain ⟨t,rfl⟩:=rx
 obtain ⟨t',rfl⟩:=ry
 exact add_str (fun t' tk=>⟨.str (i++j),H,I.tok _,⟨_,rfl⟩,q⟩) hz
theorem vals1 {x:V} {us:List Value} (r:Vals [x] us): ∃u,us=[u]/\RelV x u:=by
 cases r with
 | cons r1 r2=>cases r2;exact ⟨_,rfl,r1⟩
theorem vals2 {x y:V} {us:List Value} (r:Vals [x,y] us): ∃u w',us=[u,w']/\RelV x u/\RelV y w':=by
 cases r with
 | cons r1 r2=>
  cases r2 with
  | cons r3 r4=>cases r4;exact ⟨_,_,rfl,r1,r3⟩
theorem C6:dk X (.builtin "abs") (fun xs H Q=> ∃i,xs=[.int i]/\Q (.int (if i<0 then -i else i)) H):=by
 intro pins s σ H xs us Q I r h
 obtain ⟨i,rfl,q⟩:=h
 obtain ⟨u,rfl,t,rfl⟩:=vals1 r
 exact call_abs_int fun u tk=>⟨.int (if i<0 then -i else i),H,I.tok _,⟨_,rfl⟩,q⟩
theorem rP (hc:X.calm=true):dk X (.builtin "max") (fun xs H Q=> ∃i j,xs=[.int i, .int j]/\Q (.int (if j>i then j else i)) H):=by
 intro pins s σ H xs us Q I r h
 obtain ⟨i,j,rfl,q⟩:=h
 obtain ⟨u,w',rfl,⟨t,rfl⟩,⟨t',rfl⟩⟩:=vals2 r
 refine max_two_ints (I.ok.hd hc) fun h' tk k=>⟨_,H,I.kept k,?_,q⟩
 by_cases hj:j>i
 ·rw[if_pos hj,if_pos hj];exact ⟨_,rfl⟩
 ·rw[if_neg hj,if_neg hj];exact ⟨_,rfl⟩
theorem mw (hc:X.calm=true):dk X (.builtin "min") (fun xs H Q=> ∃i j,xs=[.int i, .int j]/\Q (.int (if j<i then j else i)) H):=by
 intro pins s σ H xs us Q I r h
 obtain ⟨i,j,rfl,q⟩:=h
 obtain ⟨u,w',rfl,⟨t,rfl⟩,⟨t',rfl⟩⟩:=vals2 r
 refine min_two_ints (I.ok.hd hc) fun h' tk k=>⟨_,H,I.kept k,?_,q⟩
 by_cases hj:j<i
 ·rw[if_pos hj,if_pos hj];exact ⟨_,rfl⟩
 ·rw[if_neg hj,if_neg hj];exact ⟨_,rfl⟩
theorem Bj:dk X (.type "int") (fun xs H Q=>(∃i,xs=[.int i]/\Q (.int i) H)\/ ∃k,xs=[.bl k]/\Q (.int (if k then 1 else 0)) H):=by
 intro pins s σ H xs us Q I r h
 rcases h with ⟨i,rfl,q⟩ | ⟨k,rfl,q⟩
 ·obtain ⟨u,rfl,t,rfl⟩:=vals1 r
  exact call_int_int ⟨.int i,H,I,⟨_,rfl⟩,q⟩
 ·obtain ⟨u,rfl,r1⟩:=vals1 r
  cases r1
  exact call_int_bool ⟨.int (if k then 1 else 0),H,I.tok _,⟨_,rfl⟩,q⟩
theorem tQ:dk X (.type "str") (fun xs H Q=> ∃i,xs=[.int i]/\i.natAbs.log2<1920/\Q (.str (toString i)) H):=by
 intro pins s σ H xs us Q I r h
 obtain ⟨i,rfl,hz,q⟩:=h
 obtain ⟨u,rfl,t,rfl⟩:=vals1 r
 exact PySem.P.str_of_int hz ⟨.str _,H,I.tok _,⟨_,rfl⟩,q⟩
end
structure Bk (h:Heap) (x dx C:Addr) (mA:Str->Option Value):Prop where
 obj:h.get? x=some (PySem.W.instObj C dx)
 ns:h.Ns1 dx mA
 ne:dx≠x
theorem Bl {h:Heap} {dx:Addr} {mA:Str->Option Value} (n:h.Ns1 dx mA): ∃od,h.get? dx=some od/\ ∀name,PySem.W.lookIn name od=some (mA name):=by
 obtain ⟨o,es,ep,ho,hd,hk,_,hm⟩:=n
 refine ⟨o,ho,fun name=>?_⟩
 have e:=hm name
 unfold nsFind findBy at e
 rw[<-Array.find?_toList]at e
 unfold PySem.W.lookIn
 rw[hd]
 dsimp only
 split
 ·rename_i y q
  rw[q]at e
  exact congrArg some e
 ·rename_i q
  rw[q]at e
  have a:es.toList.any (·.refKey)=false:=by
   rw[Qde]
   intro y hy
   obtain ⟨z,t,Sv⟩:=hk y (Array.mem_toList_iff.mp hy)
   simp[DictEntry.refKey,Sv]
  have a': ¬es.toList.any (·.refKey)=true:=by rw[a];exact Zn
  rw[if_neg a']
  exact congrArg some e
theorem Bk.look {h:Heap} {x dx C:Addr} {mA:Str->Option Value} (I:Bk h x dx C mA): ∃od,PySem.W.InstAt h x (PySem.W.instObj C dx) C (some od)/\ ∀name,PySem.W.lookIn name od=some (mA name):=
 let ⟨od,ho,hl⟩:=Bl I.ns
 ⟨od,⟨I.obj,rfl,rfl,ho⟩,hl⟩
section
variable {prog:Program} {w:World} {A:Around} {E:Value->Shared->Prop} {s:Shared} {K:PySem.W.Frag} {x dx C f:Addr} {mA:Str->Option Value} {name:Str} {v:Value}
theorem get_map {expr:Bool} {Q:Value->Shared->Prop} (X:K.In s.heap) (I:Bk s.heap x dx C mA) (hg:PySem.W.plainGet K C name=true) (hh:PySem.W.hasDictIn K C=true)
  (ha:PySem.W.findIn K (.ref C) name=some none) (hv:mA name=some v) (Wi:PySem.W.handedIn v=true) (h:Q v { s with toks:=s.toks+1 }):
  wpAny (model prog w) A (getAttr (.ref x) name expr) Q E s:=by
 obtain ⟨od,J,hl⟩:=I.look
 exact PySem.W.get_value X J (PySem.W.plainGet_of hg).1 (PySem.W.findObj_own hh ha rfl (by rw[hl,hv])) Wi h
theorem GG {ns:List Str} {Q:Unit->Shared->Prop} (X:K.In s.heap) (I:Bk s.heap x dx C mA)
  (hs:PySem.W.findIn K (.ref C) "__setattr__"=some (some (.builtin "object.__setattr__"))) (hp:PySem.W.plainOver K C=true) (ht:PySem.W.takerIn K C name=some none) (hh:PySem.W.hasDictIn K C=true)
  (hw:PySem.Within mA ns) (hsz:ns.length<=sizeLine)
  (h: ∀h',Bk h' x dx C (fun y=>if y=name then some v else mA y)->Heap.SameBut dx s.heap h'->Q () { s with heap:=h',toks:=s.toks+2 }):
  wpAny (model prog w) A (setAttr (.ref x) name v) Q E s:=by
 obtain ⟨od,J,hl⟩:=I.look
 refine PySem.W.set_plain X J hs (PySem.W.osa_open (s:={ s with toks:=s.toks+1 }) (r:=none) X J hp ht fun b=>?_)
 obtain ⟨cd,hc,R3⟩:=PySem.W.any_some hh
 have hx:s.heap.get? x=some ⟨.ref C,some dx, .plain, #[]⟩:=I.obj
 refine wpAny_bind (wpAny_pure (wpAny_bind (wpAny_bind (wpAny_loadPart hx (wpAny_bind (PySem.W.Looks.here (s:={ s with toks:=s.toks+1 }) (PySem.W.looks_clsIn X hc) ?_))))))
 rw[R3]
 refine wpAny_pure (a:=some dx) (wpAny_bind (wpAny_pure (wpAny_bind ?_)))
 refine wpAny_nsSet1 (s:={ s with toks:=s.toks+1 }) I.ns fun h' vP FR=>?_
 obtain ⟨oD,YI,YJ,Wj,Wl,Wm⟩:=vP.count (PySem.Within.cons name v hw)
 refine wpAny_bind (wpAny_lookBehind Wj (by rw[Wl];exact pastItsLine_dict (ZG Wm (by rw[Zv];omega))) ?_)
 exact wpAny_pure (h _ ⟨(FR.2 _ (Ne.symm I.ne)).trans I.obj,vP,I.ne⟩ FR)
theorem C7 {R:Result->Shared->Prop} {vs:List Value} {kw:List (Str×Value)} (X:K.In s.heap) (hm:PySem.W.makesIn K C=true)
  (hi:PySem.W.findIn K (.ref C) "__init__"=some (some (.ref f))) (hf:PySem.W.typeIn K (.ref f)=some (.type "function"))
  (h:codeAny (model prog w) (A.under (.builtin "type.__call__" ⟨.ref C::vs,kw⟩)) (.call (.ref f) ⟨.ref (s.heap.objs.size+1)::vs,kw⟩) (PySem.W.InitBack (s.heap.objs.size+1) R)
   { s with heap:=(s.heap.push PySem.W.emptyDict).push (PySem.W.instObj C s.heap.objs.size) }):
  codeAny (model prog w) A (.call (.ref C) ⟨vs,kw⟩) R s:=by
 obtain ⟨hh,g,d,t,os⟩:=s
 exact PySem.W.make_core (PySem.W.makes_of X hm) (PySem.W.looks_findIn X hi) (fun self=>PySem.W.bind_fn X self hf) (.inl rfl) h
end
noncomputable def dX (f:Str) (v:V):List (Str×V)->List (Str×V)
 | []=>[(f,v)]
 |(g,x)::r=>if g=f then (g,v)::r else (g,x)::dX f v r
theorem aL (f g:Str) (v:V): ∀fs:List (Str×V),(dX f v fs).lookup g=if g=f then some v else fs.lookup g
 | []=>by
  show List.lookup g [(f,v)]=_
  by_cases h:g=f
  ·have hb:(g==f)=true:=beq_iff_eq.mpr h
   simp only[List.lookup,hb,if_pos h]
  ·have hb:(g==f)=false:=beq_eq_false_iff_ne.mpr h
   simp only[List.lookup,hb,if_neg h]
 |(k,x)::r=>by
  have ih:=aL f g v r
  rw[show dX f v ((k,x)::r)=(if k=f then (k,v)::r else (k,x)::dX f v r) from rfl]
  by_cases hk:k=f
  ·rw[if_pos hk]
   by_cases h:g=k
   ·have hb:(g==k)=true:=beq_iff_eq.mpr h
    simp only[List.lookup,hb,if_pos (h.trans hk)]
   ·have hb:(g==k)=false:=beq_eq_false_iff_ne.mpr h
    simp only[List.lookup,hb,if_neg (fun e:g=f=>h (e.trans hk.symm))]
  ·rw[if_neg hk]
   by_cases h:g=k
   ·have hb:(g==k)=true:=beq_iff_eq.mpr h
    simp only[List.lookup,hb,if_neg (fun e:g=f=>hk (h.symm.trans e))]
   ·have hb:(g==k)=false:=beq_eq_false_iff_ne.mpr h
    simp only[List.lookup,hb]
    exact ih
theorem mB (f:Str) (v:V): ∀fs:List (Str×V),f∈(dX f v fs).map (·.1)/\ ∀g,g∈fs.map (·.1)->g∈(dX f v fs).map (·.1)
 | []=>⟨by simp[dX],fun g h=>by simp at h⟩
 |(k,x)::r=>by
  obtain ⟨i1,i2⟩:=mB f v r
  rw[show dX f v ((k,x)::r)=(if k=f then (k,v)::r else (k,x)::dX f v r) from rfl]
  by_cases hk:k=f
  ·rw[if_pos hk]
   subst hk
   exact ⟨by simp,fun g h=>by simpa using h⟩
  ·rw[if_neg hk]
   refine ⟨?_,fun g h=>?_⟩
   ·rw[Zd]
    exact YQ _ i1
   ·rw[Zd]at h ⊢
    rcases Wz.mp h with e | e
    ·exact Wz.mpr (.inl e)
    ·exact YQ _ (i2 g e)
theorem nA (f:Str) (v:V): ∀fs:List (Str×V),(dX f v fs).length<=fs.length+1
 | []=>by simp[dX]
 |(k,x)::r=>by
  have ih:=nA f v r
  rw[show dX f v ((k,x)::r)=(if k=f then (k,v)::r else (k,x)::dX f v r) from rfl]
  by_cases hk:k=f
  ·rw[if_pos hk,Zv,Zv];omega
  ·rw[if_neg hk,Zv,Zv];omega
theorem mm.some_of {v:V} {o:Option Value} (r:mm (some v) o): ∃u,o=some u/\RelV v u:=by
 cases o with
 | none=>exact (show False from r).elim
 | some u=>exact ⟨u,rfl,r⟩
theorem Bm {v:V} {u:Value} (r:RelV v u):PySem.W.handedIn u=true:=by
 cases v with
 | fH=>cases (show u=Value.none from r);rfl
 | bl b=>cases (show u=Value.bool b from r);rfl
 | int i=>obtain ⟨t,e⟩:=(show ∃t,u=Value.int i t from r);cases e;rfl
 | str x=>obtain ⟨t,e⟩:=(show ∃t,u=Value.str x t from r);cases e;rfl
 | zF b=>obtain ⟨t,e⟩:=(show ∃t,u=Value.bytes b t from r);cases e;rfl
 | QK b=>obtain ⟨t,e⟩:=(show ∃t,u=Value.float b t from r);cases e;rfl
 | ref a=>cases (show u=Value.ref a from r);rfl
 | ty n=>cases (show u=Value.type n from r);rfl
section
variable {P:Program} {w:World} {H H':Hp} {h h':Heap} {a C dx:Addr} {fs V7:List (Str×V)}
theorem zO (bZ:kC P w H h) (e:H a=some (.ins C dx fs)): ∃mA,Bk h a dx C mA/\(∀f,mm (fs.lookup f) (mA f))/\PySem.Within mA (fs.map (·.1))/\fs.length<=1000/\H dx=some (.own a):=by
 obtain ⟨d,z,ne,ob,mA,n,r,q⟩:=(show cQ P w H h a (.ins C dx fs) from bZ a _ e)
 exact ⟨mA,⟨ob,n,ne⟩,r,q,z,d⟩
end
structure IM (K:PySem.W.Frag) (C:Addr):Prop where
 pg:PySem.W.plainGet K C Str.empty=true
 hd:PySem.W.hasDictIn K C=true
 po:PySem.W.plainOver K C=true
 sa:PySem.W.findIn K (.ref C) "__setattr__"=some (some (.builtin "object.__setattr__"))
theorem IM.get {K:PySem.W.Frag} {C:Addr} (c:IM K C) (f:Str):PySem.W.plainGet K C f=true:=c.pg
def dY (K:PySem.W.Frag) (C:Addr) (f:Str):Prop:=PySem.W.findIn K (.ref C) f=some none
theorem dY.OB {K:PySem.W.Frag} {C:Addr} {f:Str} (n:dY K C f):PySem.W.takerIn K C f=some none:=by
 unfold PySem.W.takerIn
 rw[show PySem.W.findIn K (.ref C) f=some none from n]
 rfl
section
variable {X:Cx} {pins:List (Addr×Obj)} {σ:St} {H:Hp} {s:Shared} {a C dx:Addr} {fs:List (Str×V)} {f:Str} {v:V} {A:Around} {E:Value->Shared->Prop}
theorem x3 {b:Bool} {Q:Value->Shared->Prop} (I:Inv X pins σ H s) (e:H a=some (.ins C dx fs)) (c:IM X.K C) (n:dY X.K C f) (l:fs.lookup f=some v)
  (h: ∀u s',Inv X pins σ H s'->RelV v u->Q u s'):wpAny (model X.prog X.w) A (getAttr (.ref a) f b) Q E s:=by
 obtain ⟨mA,O,r,_,_,_⟩:=zO I.bZ e
 obtain ⟨u,hu,ru⟩:=mm.some_of (v:=v) (o:=mA f) (by rw[<-l];exact r f)
 exact get_map I.Bc O (c.get f) c.hd n hu (Bm ru) (h u _ (I.tok _) ru)
theorem x4 {y:V} {u:Value} {Q:Unit->Shared->Prop} (I:Inv X pins σ H s) (e:H a=some (.ins C dx fs)) (c:IM X.K C) (n:dY X.K C f) (hl:fs.length<1000) (ry:RelV y u)
  (h: ∀s',Inv X pins σ (upd H a (.ins C dx (dX f y fs))) s'->Q () s'):wpAny (model X.prog X.w) A (setAttr (.ref a) f u) Q E s:=by
 obtain ⟨mA,O,r,wi,_,ho⟩:=zO I.bZ e
 have hz:(fs.map (·.1)).length<=sizeLine:=by rw[QW,sizeLine_eq];omega
 refine GG I.Bc O c.sa c.po n.OB c.hd wi hz fun h' O' sb=>h _ ?_
 have hd: ∃o,h'.get? dx=some o:=let ⟨o,_,_,e',_⟩:=O'.ns;⟨o,e'⟩
 refine I.write (x:=a) (e:=dx) (by rw[e];exact True.intro) (.inr ho) (fun b q hb z=>(sb.2 b hb).trans z) hd ?_
 refine ⟨by rw[ar O.ne];exact ho,?_,O.ne,O'.obj,_,O'.ns,fun g=>?_,fun g hg=>?_⟩
 ·have:=nA f y fs;omega
 ·show mm ((dX f y fs).lookup g) (if g=f then some u else mA g)
  rw[aL]
  by_cases q:g=f
  ·rw[if_pos q,if_pos q];exact ry
  ·rw[if_neg q,if_neg q];exact r g
 ·by_cases q:g=f
  ·rw[q];exact (mB f y fs).1
  ·refine (mB f y fs).2 g (wi g fun z=>hg ?_)
   show (if g=f then some u else mA g)=none
   rw[if_neg q];exact z
theorem Inv.made (I:Inv X pins σ H s):Inv X pins σ (upd (upd H s.heap.objs.size (.own (s.heap.objs.size+1))) (s.heap.objs.size+1) (.ins C s.heap.objs.size []))
  { s with heap:=(s.heap.push PySem.W.emptyDict).push (PySem.W.instObj C s.heap.objs.size) }:=by
 have e1:(s.heap.push PySem.W.emptyDict).get? s.heap.objs.size=some PySem.W.emptyDict:=Ze s.heap rfl
 have e2:((s.heap.push PySem.W.emptyDict).push (PySem.W.instObj C s.heap.objs.size)).get? (s.heap.objs.size+1)=some (PySem.W.instObj C s.heap.objs.size):=by
  have:=Ze (s.heap.push PySem.W.emptyDict) (o:=PySem.W.instObj C s.heap.objs.size) rfl
  rwa [Qal]at this
 have e3:(s.heap.push PySem.W.emptyDict).Ns s.heap.objs.size (fun _=>none):=⟨PySem.W.emptyDict, #[],_,e1,rfl,(fun e he=>absurd he (by simp)),fun _=>rfl⟩
 have I1:=I.laid (a:=s.heap.objs.size) (o:= .own (s.heap.objs.size+1)) (h':=s.heap.push PySem.W.emptyDict) (t':=s.toks) (fun b u q=>Mr _ q) (UP _) ⟨_,e1⟩
 refine I1.laid (a:=s.heap.objs.size+1) (o:= .ins C s.heap.objs.size []) (t':=s.toks) (fun b u q=>Mr _ q) (Nat.le_of_eq (Qal _ _)) ?_
 have ne:s.heap.objs.size≠s.heap.objs.size+1:=Zp (Qad _)
 refine ⟨by rw[ar ne,ag],Zg _,ne,e2,fun _=>none,(Heap.Ns1.of_empty e3).at fun o q=>Mr _ q,fun _=>True.intro,fun y hy=>absurd rfl hy⟩
theorem GH {prog:Program} {w:World} {env:Env} {e:Expr} {f:Str} {pos:Pos} {s:Shared} {Q:Value->Shared->Prop} (hb:attributeBase e f env (eval e env)=eval e env)
  (h:wpAny (model prog w) A (eval e env) (fun o s₁=>wpAny (model prog w) A (getAttr o f true) Q E s₁) E s):wpAny (model prog w) A (eval (.Attribute e f pos) env) Q E s:=
 Attribute_any_ h (by rw[arm_eval_Attribute,hb])
end
def OC (K:PySem.W.Frag) (ta:TE) (f:Str):TE:=fun σ H Q=>ta σ H fun x H1=> ∃a C dx fs v,x= .ref a/\H1 a=some (.ins C dx fs)/\IM K C/\dY K C f/\fs.lookup f=some v/\Q v H1
def Sw (K:PySem.W.Frag) (ta tv:TE) (f:Str):TS:=fun D σ H=>tv σ H fun y H1=>ta σ H1 fun x H2=> ∃a C dx fs,x= .ref a/\H2 a=some (.ins C dx fs)/\IM K C/\dY K C f/\fs.length<1000/\
 D.nx σ (upd H2 a (.ins C dx (dX f y fs)))
section
variable {X:Cx} {o e value:Expr} {f:Str} {pos pos' OD:Pos} {ta tv:TE}
theorem J9 (he:PE X e ta) (hb:attributeBase e f X.env (eval e X.env)=eval e X.env):PE X (.Attribute e f pos) (OC X.K ta f):=by
 intro pins s σ H Q I h
 refine GH hb (cg (he pins s σ H _ I h) fun u s1 ⟨x,H1,I1,rx,a,C,dx,fs,v,ex,ea,c,n,l,q⟩=>?_)
 subst ex
 obtain rfl:u=Value.ref a:=rx
 exact x3 I1 ea c n l fun u' s2 I2 ru=>⟨v,H1,I2,ru,q⟩
theorem iZ (ha:PE X o ta) (hv:PE X value tv) (hs:swapsWith value (some (.Attribute o f pos')) pos.line X.env=pure false):PS X (.Assign [.Attribute o f pos'] value pos) (Sw X.K ta tv f):=by
 intro pins s σ H D I h
 refine plainObj_wpAny_Assign_Attribute (cg (hv pins s σ H _ I h) fun u s1 ⟨y,H1,I1,ry,q⟩=>cg (ha pins s1 σ H1 _ I1 q) fun ov s2 ⟨x,H2,I2,rx,a,C,dx,fs,ex,ea,c,n,l,q2⟩=>?_) hs
 subst ex
 obtain rfl:ov=Value.ref a:=rx
 exact x4 I2 ea c n l ry fun s3 I3=>⟨σ,_,I3,q2⟩
end
structure ff (k:Nat) (A:Around):Prop where
 hd:A.handled=none
 dp:A.depth+3*k+5<recursionLimit
 un:A.units+16*k+200<cLine
 gd:A.guards=some []
theorem ff.mono {j k:Nat} {A:Around} (r:ff k A) (h:j<=k):ff j A:=⟨r.hd,by have:=r.dp;omega,by have:=r.un;omega,r.gd⟩
theorem ff.deeper {k:Nat} {A:Around} (r:ff (k+1) A) (env:Env):ff k (A.deeper env):=
 ⟨r.hd,by have:=r.dp;show A.depth+1+3*k+5<_;omega,by have:=r.un;show A.units+3+16*k+200<_;omega,r.gd⟩
theorem x5 {A:Around} {C:Addr} {us:List Value} {kw:List (Str×Value)}:(A.under (.builtin "type.__call__" ⟨.ref C::us,kw⟩)).depth=A.depth+1:=by
 first | rfl | simp[Around.under,Code.weight,Code.isCreation,Code.isGuard,Code.isCaller,Code.frames,Code.isFrame,guardIds]
theorem x6 {A:Around} {C:Addr} {us:List Value} {kw:List (Str×Value)}:(A.under (.builtin "type.__call__" ⟨.ref C::us,kw⟩)).units=A.units+1:=by
 first | rfl | simp[Around.under,Code.cUnits,Code.frames,Code.isFrame]
theorem ff.make {k:Nat} {A:Around} (r:ff (k+1) A) (C:Addr) (us:List Value) (kw:List (Str×Value)):ff k (A.under (.builtin "type.__call__" ⟨.ref C::us,kw⟩)):=
 ⟨r.hd,by have:=r.dp;rw[x5];omega,by have:=r.un;rw[x6];omega,by first | exact r.gd | (simpa [Around.under,Code.guards,Code.isGuard,pushGuards,guardIds]using r.gd)⟩
theorem ff.depth {k:Nat} {A:Around} (r:ff k A):A.depth<recursionLimit:=by have:=r.dp;omega
theorem ff.units {k:Nat} {A:Around} (r:ff k A):A.units+64<cLine:=by have:=r.un;omega
def Sx:TA:=fun _ H Q=>Q [] H
def OE (ta:TE) (tr:TA):TA:=fun σ H Q=>ta σ H fun x H1=>tr σ H1 fun xs H2=>Q (x::xs) H2
section
variable {X:Cx} {e:Expr} {es:List Expr} {te:TE} {t:TA} {pos:Pos}
theorem ab:PA X [] Sx:=fun _ _ _ _ H Q I h=>Calls.spliced_nil ⟨[],H,I, .nil,h⟩
theorem aa (ha:PE X e te) (hr:PA X es t) (hs:starEach (e::es) X.env=(false,eval e X.env)::starEach es X.env:=by rfl):PA X (e::es) (OE te t):=by
 intro pos pins s σ H Q I h
 rw[hs]
 show wpAny _ _ (spliced ((false,eval e X.env)::backTo pos (starEach es X.env))) _ _ s
 refine Calls.spliced_cons (cg (ha pins s σ H _ I h) fun u s1 ⟨x,H1,I1,r1,q1⟩=>?_)
 exact cg (hr pos pins s1 σ H1 _ I1 q1) fun us s2 ⟨xs,H2,I2,r2,q2⟩=>⟨x::xs,H2,I2, .cons r1 r2,q2⟩
def Sy (t:TA):TE:=fun σ H Q=>t σ H fun xs H1=>xs.length<=sizeLine/\ ∀p,H1 p=none->Q (.ref p) (upd H1 p (.tup xs))
def Sz (t:TA):TE:=fun σ H Q=>t σ H fun xs H1=>xs.length<=sizeLine/\ ∀p,H1 p=none->Q (.ref p) (upd H1 p (.lst xs))
theorem cO {x1} (h:PA X es t):PE X (.Tuple es x1 pos) (Sy t):=by
 intro pins s σ H Q I hq
 refine wpAny_Tuple_spliced (cg (h pos pins s σ H _ I hq) fun us s1 ⟨xs,H1,I1,r,z,q⟩=>⟨by rw[<-r.length];exact z,?_⟩)
 have hf:H1 s1.heap.objs.size=none:=I1.bZ.fresh (UP _)
 refine ⟨.ref s1.heap.objs.size,upd H1 s1.heap.objs.size (.tup xs),I1.laid (t':=s1.toks) (fun b u e=>Mr _ e) (UP _) ?_,rfl,q _ hf⟩
 exact ⟨z,us,r,⟨_,Ze _ rfl,rfl,_,rfl⟩⟩
theorem dj (h:PA X es t):PE X (.List es pos) (Sz t):=by
 intro pins s σ H Q I hq
 refine wpAny_List_spliced (cg (h pos pins s σ H _ I hq) fun us s1 ⟨xs,H1,I1,r,z,q⟩=>⟨by rw[<-r.length];exact z,?_⟩)
 have hf:H1 s1.heap.objs.size=none:=I1.bZ.fresh (UP _)
 refine ⟨.ref s1.heap.objs.size,upd H1 s1.heap.objs.size (.lst xs),I1.laid (t':=s1.toks) (fun b u e=>Mr _ e) (UP _) ?_,rfl,q _ hf⟩
 exact ⟨z,us,0,r,Ze _ rfl⟩
end
abbrev Sp:=List V->Hp->VK->XK->Prop
abbrev Bn:=List Env->Hp->Shared->XK->Value->Shared->Prop
structure x8 (P:Program) (w:World) (K:PySem.W.Frag) (mg:Str->Option Value) (base:Heap) (A:Around) (outer:List Env) (s:Shared) (H:Hp):Prop where
 frames:A.frames=some outer
 mod:Mod K mg base
 bs: ∀b o,base.get? b=some o->s.heap.get? b=some o/\H b=none
 GA:base.objs.size<=s.heap.objs.size
 nQ:s.heap.FunFrames base outer
 JK: ∀b∈zG outer,H b=none
 bZ:kC P w H s.heap
 bare:AllBare s.gens
def CE (outer:List Env) (P:Program) (w:World) (H:Hp) (s:Shared) (Q:VK) (u:Value) (s':Shared):Prop:=
 ∃v H',s'.os=s.os/\AllBare s'.gens/\Un (zG outer) [] H H' s.heap s'.heap/\kC P w H' s'.heap/\RelV v u/\Q v H'
def CR (CX:Bn) (outer:List Env) (P:Program) (w:World) (H:Hp) (s:Shared) (Q:VK) (E:XK) (r:Result) (s':Shared):Prop:=
 match r with
 | .ok (.ret u)=>CE outer P w H s Q u s'
 | .ok _=>False
 | .error e=>CX outer H s E e s'
structure br (P:Program) (w:World) (K:PySem.W.Frag) (mg:Str->Option Value) (base:Heap) (CX:Bn) (k:Nat) (f:Addr) (fd:FuncData) (ps:List Str) (sp:Sp):Prop where
 len: ∀vs H Q E,sp vs H Q E->vs.length=ps.length
 run: ∀(A:Around) (outer:List Env) (s:Shared) (H:Hp) (args:Args) (us:List Value) (vs:List V) (Q:VK) (E:XK),ff k A->x8 P w K mg base A outer s H->BindsTo s fd args (ps.zip us)->Vals vs us->sp vs H Q E->
  codeAny (model P w) A (.call (.ref f) args) (CR CX outer P w H s Q E) s
theorem x8.make {P:Program} {w:World} {K:PySem.W.Frag} {mg:Str->Option Value} {base:Heap} {A:Around} {outer:List Env} {s:Shared} {H:Hp} (e:x8 P w K mg base A outer s H) (C:Addr) (us:List Value) (kw:List (Str×Value)):
  x8 P w K mg base (A.under (.builtin "type.__call__" ⟨.ref C::us,kw⟩)) outer s H:=⟨by first | exact e.frames | (simpa [Around.under,Code.envs,Code.isFrame,pushEnvs]using e.frames),e.mod,e.bs,e.GA,e.nQ,e.JK,e.bZ,e.bare⟩
section
variable {X:Cx} {pins:List (Addr×Obj)} {σ:St} {H:Hp} {s s':Shared}
theorem Inv.OF (I:Inv X pins σ H s):x8 X.prog X.w X.K X.mg X.base X.A X.stack s H:=
 ⟨I.ok.frames,I.ok.mod,I.bs,ZG I.ok.GA I.sz,I.stack,I.zH,I.bZ,I.bare⟩
theorem Inv.after {Q:VK} {u:Value} (I:Inv X pins σ H s) (h:CE X.stack X.prog X.w H s Q u s'):EP X pins σ Q u s':=by
 obtain ⟨v,H',os,bare,un,bZ,r,q⟩:=h
 obtain ⟨hh,g,d,t,Wn⟩:=s'
 obtain rfl:Wn=s.os:=os
 exact ⟨v,H',I.call (h':=hh) (g':=g) (d':=d) (t':=t) (ch:=[]) un bZ bare (fun b z=>absurd z (by simp)),r,q⟩
end
def OG (sp:Sp) (dvs:List V) (E:XK) (t:TA):TE:=fun σ H Q=>t σ H fun vs H1=>sp (vs++dvs) H1 Q E
def OH (C:Addr) (sp:Sp) (dvs:List V) (E:XK) (t:TA):TE:=fun σ H Q=>t σ H fun vs H1=> ∀x dx,H1 x=none->H1 dx=none->dx≠x->
 sp (.ref x::(vs++dvs)) (upd (upd H1 dx (.own x)) x (.ins C dx [])) (fun v H2=>v= .fH/\Q (.ref x) H2) E
def Binds (K:PySem.W.Frag) (fd:FuncData) (ps:List Str) (ds:List Value):Prop:=
 ∀(s:Shared) (us:List Value),K.In s.heap->(us++ds).length=ps.length->BindsTo s fd ⟨us,[]⟩ (ps.zip (us++ds))
theorem Binds.all {K:PySem.W.Frag} {fd:FuncData} {ps:List Str} (h: ∀us:List Value,us.length=ps.length->bindArgs fd ⟨us,[]⟩=pure (ps.zip us)):Binds K fd ps []:=fun s us _ hl=>by
 rw[Zy]at hl ⊢
 exact .of_eq (h us hl)
def Passes (CX:Bn) (X:Cx) (E:XK):Prop:= ∀(pins:List (Addr×Obj)) (σ:St) (H:Hp) (s:Shared) (e:Value) (s':Shared),Inv X pins σ H s->CX X.stack H s E e s'->X.xe e s'
section
variable {X:Cx} {CX:Bn} {k:Nat} {f C:Addr} {fd:FuncData} {ps:List Str} {sp:Sp} {dvs:List V} {ds:List Value} {E:XK} {x m:Str} {p pos apos:Pos} {e o:Expr} {es:List Expr} {ta:TE} {t:TA}
theorem x9 {pins:List (Addr×Obj)} {σ:St} {H:Hp} {s:Shared} {Q:VK} {us:List Value} {vs:List V} (F:br X.prog X.w X.K X.mg X.base CX k f fd ps sp) (hr:ff k X.A) (hb:Binds X.K fd ps ds) (hd:Vals dvs ds) (hx:Passes CX X E)
  (I:Inv X pins σ H s) (r:Vals vs us) (h:sp (vs++dvs) H Q E):wpAny (model X.prog X.w) X.A (call (.ref f) us) (EP X pins σ Q) X.xe s:=by
 have r2:Vals (vs++dvs) (us++ds):=r.append hd
 have hl:(us++ds).length=ps.length:=by rw[<-r2.length];exact F.len _ _ _ _ h
 refine wpAny_call (codeAny_mono (F.run X.A X.stack s H ⟨us,[]⟩ (us++ds) (vs++dvs) Q E hr I.OF (hb s us I.Bc hl) r2 h) fun r s' hq=>?_)
 cases r with
 | error e=>exact hx pins σ H s e s' I hq
 | ok fl=>
  cases fl with
  | ret u=>exact I.after hq
  | next=>exact False.elim hq
  | brk=>exact False.elim hq
  | cont=>exact False.elim hq
theorem aj (F:br X.prog X.w X.K X.mg X.base CX k f fd ps sp) (hr:ff k X.A) (hg:Gl X x) (hm:X.mg x=some (.ref f)) (hk:PySem.W.keepIn X.K (.ref f)=true) (hb:Binds X.K fd ps ds) (hd:Vals dvs ds) (hx:Passes CX X E)
  (ha:PA X (e::es) t) (J_:(x==("__debug__":Str))=false:=by decide) (he:starEach (e::es) X.env=(false,eval e X.env)::starEach es X.env:=by rfl) (iQ:(backTo pos (starEach es X.env)).any (·.1)=false:=by rfl):
  PE X (.Call (.Name x p) (e::es) [] pos) (OG sp dvs E t):=by
 intro pins s σ H Q I h
 refine wpAny_Call_Name_kw (tP I hg hm ?_ J_)
 refine Qb2 (h₀:=X.base) I.ok.mod.Mn hk (cg (ha pos pins s σ H _ I h) fun us s1 ⟨vs,H1,I1,r,q⟩=>⟨I1.Bc,?_⟩) he iQ
 exact x9 F hr hb hd hx I1 r q
structure Mk (K:PySem.W.Frag) (C f:Addr):Prop where
 makes:PySem.W.makesIn K C=true
 init:PySem.W.findIn K (.ref C) "__init__"=some (some (.ref f))
 fn:PySem.W.isFn K (.ref f)=true
 kp:PySem.W.keepIn K (.ref C)=true
theorem C8 {pins:List (Addr×Obj)} {σ:St} {H:Hp} {s:Shared} {Q:VK} {us:List Value} {vs:List V} (M:Mk X.K C f) (F:br X.prog X.w X.K X.mg X.base CX k f fd ps sp) (hr:ff (k+1) X.A) (hb:Binds X.K fd ps ds) (hd:Vals dvs ds)
  (hx:Passes CX X E) (I:Inv X pins σ H s) (r:Vals vs us)
  (h: ∀x dx,H x=none->H dx=none->dx≠x->sp (.ref x::(vs++dvs)) (upd (upd H dx (.own x)) x (.ins C dx [])) (fun v H2=>v= .fH/\Q (.ref x) H2) E):
  wpAny (model X.prog X.w) X.A (call (.ref C) us) (EP X pins σ Q) X.xe s:=by
 have hq:=h (s.heap.objs.size+1) s.heap.objs.size (I.bZ.fresh (Qa0 _)) (I.bZ.fresh (UP _)) (Zp (Qad _))
 have I2:=Inv.made (C:=C) I
 have r2:Vals (V.ref (s.heap.objs.size+1)::(vs++dvs)) (Value.ref (s.heap.objs.size+1)::(us++ds)):= .cons rfl (r.append hd)
 have hl:(Value.ref (s.heap.objs.size+1)::us++ds).length=ps.length:=by
  have e:=r2.length
  rw[F.len _ _ _ _ hq]at e
  exact e.symm
 refine wpAny_call (C7 (f:=f) I.Bc M.makes M.init (beq_iff_eq.mp M.fn) (codeAny_mono (F.run _ X.stack _ _ ⟨Value.ref (s.heap.objs.size+1)::us,[]⟩ (Value.ref (s.heap.objs.size+1)::(us++ds)) _ _ E (hr.make C us [])
  (I2.OF.make C us []) (hb _ (Value.ref (s.heap.objs.size+1)::us) I2.Bc hl) r2 hq) fun r s' OI=>?_))
 cases r with
 | error e=>exact hx pins σ _ _ e s' I2 OI
 | ok fl=>
  cases fl with
  | ret u=>
   obtain ⟨v,H',I3,rv,ev,q3⟩:=I2.after OI
   subst ev
   exact ⟨rv,⟨V.ref (s.heap.objs.size+1),H',I3,rfl,q3⟩⟩
  | next=>exact False.elim OI
  | brk=>exact False.elim OI
  | cont=>exact False.elim OI
theorem oF (M:Mk X.K C f) (F:br X.prog X.w X.K X.mg X.base CX k f fd ps sp) (hr:ff (k+1) X.A) (hg:Gl X x) (hm:X.mg x=some (.ref C)) (hb:Binds X.K fd ps ds) (hd:Vals dvs ds) (hx:Passes CX X E)
  (ha:PA X (e::es) t) (J_:(x==("__debug__":Str))=false:=by decide) (he:starEach (e::es) X.env=(false,eval e X.env)::starEach es X.env:=by rfl) (iQ:(backTo pos (starEach es X.env)).any (·.1)=false:=by rfl):
  PE X (.Call (.Name x p) (e::es) [] pos) (OH C sp dvs E t):=by
 intro pins s σ H Q I h
 refine wpAny_Call_Name_kw (tP I hg hm ?_ J_)
 refine Qb2 (h₀:=X.base) I.ok.mod.Mn M.kp (cg (ha pos pins s σ H _ I h) fun us s1 ⟨vs,H1,I1,r,q⟩=>⟨I1.Bc,?_⟩) he iQ
 exact C8 M F hr hb hd hx I1 r q
end
structure aD (N P:List Str) (sc:Scope):Prop where
 kind:sc.kind= .function
 co:sc.isCoroutine=false
 gen:sc.isGenerator=false
 nd:N.Nodup
 pre:N.take P.length=P
 par: ∀x∈P,sc.names.lookup x=some .local\/sc.names.lookup x=some .cell
 Ka: ∀y∈sc.names,y.2≠ .free
theorem rQ {kindOf:Str->Option NameKind} {x:Str}: ∀{binds:List (Str×Value)} {m:Str->Option Value},(∀v,(x,v)∉binds)->bindL kindOf binds m x=m x
 | [],_,_=>rfl
 |(n,v)::r,m,h=>by
  unfold bindL
  rw[rQ fun w hw=>h w (YQ _ hw)]
  split
  ·have:x≠n:=by rintro rfl;exact h v YO
   simp[this]
  ·rfl
theorem rR {kindOf:Str->Option NameKind} {x:Str}: ∀{binds:List (Str×Value)} {m:Str->Option Value},(∀v,(x,v)∉binds)->bindC kindOf binds m x=m x
 | [],_,_=>rfl
 |(n,v)::r,m,h=>by
  unfold bindC
  rw[rR fun w hw=>h w (YQ _ hw)]
  split
  ·rfl
  ·have:x≠n:=by rintro rfl;exact h v YO
   simp[this]
theorem rS {kindOf:Str->Option NameKind} {x:Str} {v:Value}: ∀{P:List Str} {vs:List Value} {i:Nat} {m:Str->Option Value},P.Nodup->P[i]? =some x->vs[i]? =some v->kindOf x=some .local->
  bindL kindOf (P.zip vs) m x=some v
 | [],_,_,_,_,h,_,_=>by simp at h
 | _::_,[],_,_,_,_,h,_=>by simp at h
 | p::P,w::vs,0,m,nd,h1,h2,hk=>by
  simp at h1 h2;subst h1;subst h2
  show bindL kindOf ((p,w)::P.zip vs) m p=_
  unfold bindL
  rw[rQ fun v hv=>(ZK.mp nd).1 (Qds hv).1,if_pos hk]
  simp
 | p::P,w::vs,i+1,m,nd,h1,h2,hk=>by
  show bindL kindOf ((p,w)::P.zip vs) m x=_
  unfold bindL
  exact rS (i:=i) (ZK.mp nd).2 (by simpa using h1) (by simpa using h2) hk
theorem rT {kindOf:Str->Option NameKind} {x:Str} {v:Value}: ∀{P:List Str} {vs:List Value} {i:Nat} {m:Str->Option Value},P.Nodup->P[i]? =some x->vs[i]? =some v->kindOf x≠some .local->
  bindC kindOf (P.zip vs) m x=some v
 | [],_,_,_,_,h,_,_=>by simp at h
 | _::_,[],_,_,_,_,h,_=>by simp at h
 | p::P,w::vs,0,m,nd,h1,h2,hk=>by
  simp at h1 h2;subst h1;subst h2
  show bindC kindOf ((p,w)::P.zip vs) m p=_
  unfold bindC
  rw[rR fun v hv=>(ZK.mp nd).1 (Qds hv).1,if_neg hk]
  simp
 | p::P,w::vs,i+1,m,nd,h1,h2,hk=>by
  show bindC kindOf ((p,w)::P.zip vs) m x=_
  unfold bindC
  exact rT (i:=i) (ZK.mp nd).2 (by simpa using h1) (by simpa using h2) hk
noncomputable def start (N:List Str) (vs:List V):St:=vs.map some++List.replicate (N.length - vs.length) none
noncomputable def Bo (CX:Bn) (P:Program) (w:World) (K:PySem.W.Frag) (mg:Str->Option Value) (base:Heap) (N:List Str) (qual:Str) (scope:Scope) (f:Addr) (cd:Value) (A:Around) (outer:List Env) (s:Shared) (H:Hp) (E:XK):Cx where
 prog:=P
 w:=w
 K:=K
 mg:=mg
 base:=base
 A:=A.deeper (envOfC qual scope s.heap.objs.size f cd)
 N:=N
 s₀:=s
 H₀:=H
 env:=envOfC qual scope s.heap.objs.size f cd
 outer:=outer
 stack:=envOfC qual scope s.heap.objs.size f cd::outer
 ex:=[]
 calm:=true
 fn:=fun _=>true
 pn:=[]
 xe:=fun e s'=>wpAny (model P w) (A.deeper (envOfC qual scope s.heap.objs.size f cd)) (leaving (envOfC qual scope s.heap.objs.size f cd) e) (fun _ OJ=>CX outer H s E e OJ) (fun e' OJ=>CX outer H s E e' OJ) s'
theorem vQ {sc:Scope} {n:Nat} {x:Str} (h:sc.names.lookup x=some .cell): ∃c,(cellsFrom n sc.names []).lookup x=some c:=by
 have q:=PySem.W.cellsFrom_some sc.names n [] (.inl h)
 exact Option.isSome_iff_exists.mp q
theorem Bp {CX:Bn} {P:Program} {w:World} {K:PySem.W.Frag} {mg:Str->Option Value} {base:Heap} {N ps:List Str} {qual:Str} {scope:Scope} {f:Addr} {cd:Value} {A:Around} {outer:List Env} {s s1:Shared} {H:Hp} {E:XK} {us:List Value} {vs:List V}
  (S:aD N ps scope) (hd:A.handled=none) (e0:x8 P w K mg base A outer s H) (hl:vs.length=ps.length) (r:Vals vs us)
  (x:InCallC s s.heap.objs.size (bindL (envOfC qual scope s.heap.objs.size f cd).kindOf (ps.zip us) fun _=>none) (cellsFrom (s.heap.objs.size+1) scope.names []) (bindC (envOfC qual scope s.heap.objs.size f cd).kindOf (ps.zip us) fun _=>none) s1):
  Inv (Bo CX P w K mg base N qual scope f cd A outer s H E) [] (start N vs) H s1:=by
 have iQ:ps.length<=N.length:=by have:=congrArg List.length S.pre;rw[Zi]at this;omega
 obtain ⟨h1,tk,rfl,hk⟩:=x.done
 have OK: ∀b:Addr,b∉(Bo CX P w K mg base N qual scope f cd A outer s H E).ex:=fun b z=>absurd (show b∈([]:List Addr) from z) (by simp)
 refine ⟨⟨e0.mod,S.kind,rfl,rfl,UP _,fun y z c h1 h2=>?_,fun y hy=>?_,fun y c _ h=>?_,fun _=>hd,Around.frames_deeper e0.frames, .inr ⟨rfl,rfl⟩,fun b z=>absurd z (OK b),e0.bs,e0.GA,fun b _ _=>OK b,fun b z=>absurd z (OK b),e0.nQ,e0.JK⟩,
  rfl,e0.bare,Un.kept hk,⟨_,x.toInCall.ns,fun i y v h1 h2 h3=>?_⟩,fun y c h=>⟨_,x.cell y c h⟩,e0.bZ.fresh (UP _),fun y c h=>?_,fun p hp=>absurd (show p∈([]:List (Addr×Obj)) from hp) (by simp),e0.bZ.kept hk,?_⟩
 ·exact name_of_addr x.apart (Qbi h1) (Qbi h2)
 ·have hy:scope.names.lookup y=some .cell\/scope.names.lookup y=some .free:=hy
  rcases hy with hy | hy
  ·exact vQ hy
  ·exact absurd rfl (S.Ka _ (Qbi hy))
 ·exact ZP (x.above y c (Qbi h))
 ·have hi:i<vs.length:=by
   unfold start at h2
   by_cases hi:i<vs.length
   ·exact hi
   ·rw[ZT (by simpa using hi)]at h2
    rw[List.getElem?_replicate]at h2
    split at h2<;>cases h2
  have ha:vs[i]? =some v:=by
   unfold start at h2
   rw[ZE (by simpa using hi),Zk]at h2
   cases e:vs[i]? with
   | none=>rw[e]at h2;cases h2
   | some a=>rw[e]at h2;cases h2;rfl
  obtain ⟨u,hu,rv⟩:=r.get ha
  have hp:ps[i]? =some y:=by
   rw[<-S.pre,List.getElem?_take_of_lt (by omega)];exact h1
  have UI:ps.Nodup:=by rw[<-S.pre];exact S.nd.sublist (List.take_sublist _ _)
  refine ⟨u,rv,?_⟩
  rcases S.par y (UQ hp) with k | k
  ·exact .inl ⟨k,rS UI hp hu k⟩
  ·obtain ⟨c,e⟩:=vQ (n:=s.heap.objs.size+1) k
   refine .inr ⟨.inl k,c,e,?_⟩
   have q:=x.cell y c e
   rw[rT UI hp hu (by show scope.names.lookup y≠_;rw[k];decide)]at q
   exact q
 ·exact e0.bZ.fresh (ZP (x.above y c (Qbi h)))
 ·unfold start
  show _=N.length
  rw[UO,QW,List.length_replicate]
  omega
theorem OL {CX:Bn} {P:Program} {w:World} {K:PySem.W.Frag} {mg:Str->Option Value} {base:Heap} {k:Nat} {f:Addr} {name qual:Str} {params:Arguments} {body:List Stmt} {scope:Scope} {dV kV doc pm cu ct oc:Value} {an od:Option Addr}
  {FV:Array (Option Value)} {N ps:List Str} {sp:Sp} (lk:K.lookup f=some ⟨oc,od, .func (PySem.W.fnOf name qual params body scope dV kV doc pm an cu ct),FV⟩) (jZ:PySem.W.codeIn K cu qual=true) (S:aD N ps scope)
  (len: ∀vs H Q E,sp vs H Q E->vs.length=ps.length)
  (C9: ∀(A:Around) (outer:List Env) (s:Shared) (H:Hp) (vs:List V) (Q:VK) (E:XK),ff k (A.deeper (envOfC qual scope s.heap.objs.size f cu))->sp vs H Q E->
   ∃t,xU (Bo CX P w K mg base N qual scope f cu A outer s H E) body t/\t { nx:=fun _ H'=>Q .fH H',rt:=Q } (start N vs) H):
  br P w K mg base CX (k+1) f (PySem.W.fnOf name qual params body scope dV kV doc pm an cu ct) ps sp:=by
 refine ⟨len,fun A outer s H args us vs Q E hr e0 hb r IQ=>?_⟩
 have hl:=len _ _ _ _ IQ
 have KX:K.In s.heap:=e0.mod.Mn.keeps fun b o e=>(e0.bs b o e).1
 have lim:s.heap.NoLimit:=e0.mod.nolimit.keeps fun b o e=>(e0.bs b o e).1
 have iG: ∀y∈ps.zip us,scope.names.lookup y.1=some .local\/(scope.names.lookup y.1=some .cell/\((cellsFrom (s.heap.objs.size+1) scope.names []).lookup y.1).isSome=true):=fun ⟨n,v⟩ hy=>by
  rcases S.par n (Qds hy).1 with q | q
  ·exact .inl q
  ·exact .inr ⟨q,PySem.W.cellsFrom_some _ _ _ (.inl q)⟩
 refine codeAny_call_function hr.depth (KX _ _ lk) rfl S.co S.gen rfl (PySem.W.codeRec_of KX jZ) (hb _ _ _ _ ?_)
 refine wpAny_newFunctionEnv_cells S.kind iG fun env he s1 x=>?_
 subst he
 refine ⟨lim.keeps x.toInCall.keep,codeAny_func ?_⟩
 obtain ⟨t,ht,hq⟩:=C9 A outer s H vs Q E (hr.deeper _) IQ
 have I:Inv (Bo CX P w K mg base N qual scope f cu A outer s H E) [] (start N vs) H s1:=Bp S hr.hd e0 hl r x
 refine wpAny_mono (ht [] s1 (start N vs) H _ I hq) (fun fl s' hs=>?_) fun e s' hs=>hs
 have fin: ∀{σ':St} {H':Hp} {v:V} {u:Value},Inv (Bo CX P w K mg base N qual scope f cu A outer s H E) [] σ' H' s'->RelV v u->Q v H'->CE outer P w H s Q u s':=
  fun {σ' H' v u} J rv q=>⟨v,H',J.os,J.bare,J.base,J.bZ,rv,q⟩
 cases fl with
 | ret u=>
  obtain ⟨v,σ',H',J,rv,q⟩:=hs
  exact fin J rv q
 | next=>
  obtain ⟨σ',H',J,q⟩:=hs
  exact fin (v:=V.fH) (u:=Value.none) J rfl q
 | brk=>
  obtain ⟨_,_,_,q⟩:=hs
  exact False.elim q
 | cont=>
  obtain ⟨_,_,_,q⟩:=hs
  exact False.elim q
section
variable {X:Cx} {x:Str} {p pos:Pos} {e:Expr} {es:List Expr} {t:TA} {id T:String} {r:List V->Hp->VK->Prop}
def UJ (r:List V->Hp->VK->Prop) (t:TA):TE:=fun σ H Q=>t σ H fun vs H1=>r vs H1 Q
theorem aB (hc:dk X (.builtin id) r) (hg:Gl X x) (hm:X.mg x=none) (hv:bootBuiltins x=some (.builtin id)) (ha:PA X (e::es) t) (hn:x≠"__name__":=by decide) (J_:(x==("__debug__":Str))=false:=by decide)
  (he:starEach (e::es) X.env=(false,eval e X.env)::starEach es X.env:=by rfl) (iQ:(backTo pos (starEach es X.env)).any (·.1)=false:=by rfl):PE X (.Call (.Name x p) (e::es) [] pos) (UJ r t):=by
 intro pins s σ H Q I h
 refine wpAny_Call_Name_kw (gv I hg hm hv ?_ hn J_)
 exact PyProof.Rows.callWith_builtin1 (cg (ha pos pins s σ H _ I h) fun us s1 ⟨vs,H1,I1,r1,q1⟩=>hc pins s1 σ H1 vs us Q I1 r1 q1) he iQ
theorem bM (hc:dk X (.type T) r) (hg:Gl X x) (hm:X.mg x=none) (hv:bootBuiltins x=some (.type T)) (ha:PA X (e::es) t) (hn:x≠"__name__":=by decide) (J_:(x==("__debug__":Str))=false:=by decide)
  (he:starEach (e::es) X.env=(false,eval e X.env)::starEach es X.env:=by rfl) (iQ:(backTo pos (starEach es X.env)).any (·.1)=false:=by rfl):PE X (.Call (.Name x p) (e::es) [] pos) (UJ r t):=by
 intro pins s σ H Q I h
 refine wpAny_Call_Name_kw (gv I hg hm hv ?_ hn J_)
 exact Z0 (cg (ha pos pins s σ H _ I h) fun us s1 ⟨vs,H1,I1,r1,q1⟩=>hc pins s1 σ H1 vs us Q I1 r1 q1) he iQ
end
end L2
namespace HT
open PySem PyProof.Rows
section
variable {prog:Program} {w:World} {A:Around} {E:Value->Shared->Prop} {s:Shared}
noncomputable def iH (n d:Nat):Option Int->Nat
 | none=>d
 | some v=>if v<0 then (v+(n:Int)).toNat else min v.toNat n
theorem kW (n d:Nat):iH n d none=d:=rfl
theorem gf (n d k:Nat):iH n d (some (k:Int))=min k n:=by
 show (if (k:Int)<0 then ((k:Int)+(n:Int)).toNat else min (k:Int).toNat n)=min k n
 rw[if_neg (by omega),YR]
theorem Kb (n d:Nat) (hd:d<=n) (o:Option Int):iH n d o<=n:=by
 cases o with
 | none=>exact hd
 | some v=>
  show (if v<0 then (v+(n:Int)).toNat else min v.toNat n)<=n
  by_cases hv:v<0
  ·rw[if_pos hv];omega
  ·rw[if_neg hv];exact Nat.min_le_right _ _
end
end HT
namespace L2
open PySem PySem.Spec PyProof.Rows
abbrev TO:=St->Hp->(Option Int->Hp->Prop)->Prop
def PO (X:Cx) (e:Option Expr) (t:TO):Prop:=
 ∀(pins:List (Addr×Obj)) (s:Shared) (σ:St) (H:Hp) (Q:Option Int->Hp->Prop),Inv X pins σ H s->t σ H Q->
  wpAny (model X.prog X.w) X.A (evalPart e X.env) (fun u s'=> ∃o H',Inv X pins σ H' s'/\IsPart u o/\Q o H') X.xe s
def GI:TO:=fun _ H Q=>Q none H
def OM (t:TE):TO:=fun σ H Q=>t σ H fun x H1=> ∃i,x= .int i/\Q (some i) H1
theorem intsAre_of {ns:List Int}: ∀{us:List Value},Vals (ns.map V.int) us->IntsAre us ns:=by
 induction ns with
 | nil=>intro us r;rw[Qb0]at r;cases r;exact .nil
 | cons n ns ih=>
  intro us r
  rw[Zd]at r
  cases r with
  | cons r1 r2=>
   obtain ⟨t,e⟩:=r1
   subst e
   exact .cons n t (ih r2)
section
variable {X:Cx} {e:Expr} {te:TE} {lo hi:Option Expr} {tl th:TO} {pos p2:Pos}
theorem cB:PO X none GI:=by
 intro pins s σ H Q I h
 rw[evalPart_none]
 exact wpAny_pure ⟨none,H,I, .none,h⟩
theorem bz (h:PE X e te):PO X (some e) (OM te):=by
 intro pins s σ H Q I hw
 rw[evalPart_some]
 refine cg (h pins s σ H _ I hw) fun u s1 ⟨x,H1,I1,r1,q1⟩=>?_
 obtain ⟨i,rfl,q⟩:=q1
 obtain ⟨t,rfl⟩:=r1
 exact ⟨some i,H1,I1, .int i t,q⟩
def QS (X:Cx) (r:V->Option Int->Option Int->Hp->VK->Prop):Prop:=
 ∀(pins:List (Addr×Obj)) (s:Shared) (σ:St) (H:Hp) (x:V) (v vl vu:Value) (lo hi:Option Int) (sl:Addr) (Q:VK),Inv X pins σ H s->RelV x v->s.heap.IsSliceOf sl vl vu .none->IsPart vl lo->IsPart vu hi->r x lo hi H Q->
  ∃T id,typeLookup (.type T) "__getitem__"=pure (some (.builtin id))/\s.TypeIs v T/\wpAny (model X.prog X.w) X.A (getItem v (.ref sl)) (EP X pins σ Q) X.xe s
def Wq (r:V->Option Int->Option Int->Hp->VK->Prop) (te:TE) (tl th:TO):TE:=fun σ H Q=>te σ H fun x H1=>tl σ H1 fun l H2=>th σ H2 fun u H3=>r x l u H3 Q
theorem bA {r:V->Option Int->Option Int->Hp->VK->Prop} (hr:QS X r) (he:PE X e te) (hl:PO X lo tl) (hu:PO X hi th):PE X (.Subscript e (.Slice lo hi none p2) pos) (Wq r te tl th):=by
 intro pins s σ H Q I h
 refine Subscript_ (cg (he pins s σ H _ I h) fun v s1 ⟨x,H1,I1,r1,q1⟩=>?_)
 refine wpAny_Slice (cg (hl pins s1 σ H1 _ I1 q1) fun vl s2 ⟨l,H2,I2,pl,q2⟩=>cg (hu pins s2 σ H2 _ I2 q2) fun vu s3 ⟨u,H3,I3,pu,q3⟩=>?_)
 rw[evalPart_none]
 refine wpAny_pure ?_
 have I4:Inv X pins σ H3 { s3 with heap:=s3.heap.push { cls:= .type "slice",data:= .fields #[vl,vu, .none] } }:=I3.kept (t':=s3.toks) fun b ob q=>Mr _ q
 obtain ⟨T,id,hT,ht,hg⟩:=hr pins { s3 with heap:=s3.heap.push { cls:= .type "slice",data:= .fields #[vl,vu, .none] } } σ H3 x v vl vu l u s3.heap.objs.size Q I4 r1 (Heap.IsSliceOf.new ..) pl pu q3
 show wpAny (model X.prog X.w) X.A (subscriptTail e (.Slice lo hi none p2) v (.ref s3.heap.objs.size)) (EP X pins σ Q) X.xe { s3 with heap:=s3.heap.push { cls:= .type "slice",data:= .fields #[vl,vu, .none] } }
 exact tail_any (ops:=[.ref s3.heap.objs.size,v]) ht hT hg (by with_unfolding_all rfl)
noncomputable def o9 (xs:List V) (lo hi:Option Int):List V:=(xs.drop (HT.iH xs.length 0 lo)).take (HT.iH xs.length xs.length hi - HT.iH xs.length 0 lo)
theorem vR (xs:List V) (lo hi:Option Int):(o9 xs lo hi).length<=xs.length:=by
 unfold o9
 rw[Zi,Zs]
 omega
end
noncomputable def FW (n:Nat) (i:Int):Option Nat:=if 0<=i then (if i<n then some i.toNat else none) else if -(n:Int)<=i then some (i+n).toNat else none
noncomputable def oG {α:Type} (xs:List α) (i:Int):Option α:=(FW xs.length i).bind fun j=>xs[j]?
theorem zP {n:Nat} {i:Int} {j:Nat} (h:FW n i=some j):seqIndex? i n=some j/\j<n/\ -(n:Int)<=i/\i<n:=by
 unfold FW at h
 by_cases h0:0<=i
 ·rw[if_pos h0]at h
  by_cases h1:i<n
  ·rw[if_pos h1]at h
   have e:i.toNat=j:=Zc h
   exact ⟨by rw[seqIndex_of h0 h1,e],by omega,by omega,h1⟩
  ·rw[if_neg h1]at h;cases h
 ·rw[if_neg h0]at h
  by_cases h1: -(n:Int)<=i
  ·rw[if_pos h1]at h
   have e:(i+n).toNat=j:=Zc h
   exact ⟨by rw[seqIndex_neg (by omega) h1,e],by omega,h1,by omega⟩
  ·rw[if_neg h1]at h;cases h
theorem tR {α:Type} {xs:List α} {i:Int} {v:α} (h:oG xs i=some v): ∃j,seqIndex? i xs.length=some j/\xs[j]? =some v/\j<xs.length/\ -(xs.length:Int)<=i/\i<xs.length:=by
 unfold oG at h
 cases e:FW xs.length i with
 | none=>rw[e]at h;cases h
 | some j=>
  rw[e]at h
  obtain ⟨h1,h2,h3,h4⟩:=zP e
  exact ⟨j,h1,h,h2,h3,h4⟩
theorem b8 {α:Type} {xs:List α} {j:Nat} {v:α} (h:xs[j]? =some v):oG xs (j:Int)=some v:=by
 have hj:j<xs.length:=(Kr.mp h).1
 have e:FW xs.length (j:Int)=some j:=by
  unfold FW
  rw[if_pos (by omega),if_pos (by omega)];simp
 unfold oG;rw[e];exact h
theorem vS {α:Type} (xs:List α) (v:α):oG (xs++[v]) (-1)=some v:=by
 have hl:(xs++[v]).length=xs.length+1:=by simp
 have e:FW (xs++[v]).length (-1)=some xs.length:=by
  unfold FW
  rw[hl,if_neg (by decide),if_pos (by omega)]
  congr 1
  omega
 unfold oG
 rw[e]
 show (xs++[v])[xs.length]? =some v
 simp
def GJ (b:Expr):Prop:= ∀o i,subscripted b false o i=operate [o,i] (getItem o i)
def Kc (X:Cx) (r:R2):Prop:=
 ∀(value slice:Expr) (pins:List (Addr×Obj)) (s:Shared) (σ:St) (H:Hp) (x y:V) (v u:Value) (Q:VK),Inv X pins σ H s->RelV x v->RelV y u->r x y H Q->
  subscripted slice false v u=operate [v,u] (getItem v u)->wpAny (model X.prog X.w) X.A (subscriptTail value slice v u) (EP X pins σ Q) X.xe s
def zQ (X:Cx) (id:String) (r:V->List V->Hp->VK->Prop):Prop:=
 ∀(pins:List (Addr×Obj)) (s:Shared) (σ:St) (H:Hp) (x:V) (xs:List V) (v:Value) (us:List Value) (Q:VK),Inv X pins σ H s->RelV x v->Vals xs us->r x xs H Q->
  wpAny (model X.prog X.w) X.A (call (.builtin id) (v::us)) (EP X pins σ Q) X.xe s
section
variable {X:Cx} {a b:Expr} {ta tb:TE} {pos:Pos}
theorem aM {r:R2} (hr:Kc X r) (ha:PE X a ta) (hb:PE X b tb) (hs:GJ b):PE X (.Subscript a b pos) (QQ r ta tb):=by
 intro pins s σ H Q I h
 exact Subscript_ (J4 ha hb I h fun v u s2 x y H2 I2 rx ry q=>hr a b pins s2 σ H2 x y v u Q I2 rx ry q (hs _ _))
def ON (K:PySem.W.Frag):R2:=fun x y H Q=> ∃p xs i v,x= .ref p/\y= .int i/\ba K H p xs/\oG xs i=some v/\Q v H
def OO (K:PySem.W.Frag):R2:=fun x y H Q=> ∃p xs i v,x= .ref p/\y= .int i/\bY K H p xs/\oG xs i=some v/\Q v H
def SA:R2:=fun x y H Q=> ∃z i c,x= .str z/\y= .int i/\z.length<=sizeLine/\oG z.cps.toList i=some c/\Q (.str ⟨#[c]⟩) H
theorem GK:Kc X (ON X.K):=by
 intro value slice pins s σ H x y v u Q I rx ry h hs
 obtain ⟨p,xs,i,z,rfl,rfl,hq,he,q⟩:=h
 cases rx
 obtain ⟨t,rfl⟩:=ry
 obtain ⟨aJ,r,pl,hz⟩:=I.list hq
 obtain ⟨j,h1,h2,h3,h4,h5⟩:=tR he
 obtain ⟨w,ew,vT⟩:=r.get h2
 have hl:=r.length
 have hn:=fL
 have fin:EP X pins σ Q w s:=⟨z,H,I,vT,q⟩
 by_cases h0:0<=i
 ·have hj:i.toNat=j:=by
   rw[seqIndex_of h0 h5]at h1
   exact Zc h1
  exact item_listR pl.isList h0 (by omega) (by rw[hj];simpa using ew) fin hs
 ·have hj:(i+(aJ.toArray.size:Int)).toNat=j:=by
   rw[seqIndex_neg (by omega) h4]at h1
   rw[YN, <-hl]
   exact Zc h1
  exact subscriptTail_builtinR (x:=w) pl.isList.typeIs slot_list_getitem.lookup
   (wpAny_getItem_list_neg (Q:=fun r s'=>r=w/\EP X pins σ Q r s') pl.isList (by omega) (by rw[YN]<;>omega) (by omega) (by rw[hj];simpa using ew) ⟨rfl,fin⟩) hs
theorem Kd:Kc X (OO X.K):=by
 intro value slice pins s σ H x y v u Q I rx ry h hs
 obtain ⟨p,xs,i,z,rfl,rfl,hq,he,q⟩:=h
 cases rx
 obtain ⟨t,rfl⟩:=ry
 obtain ⟨aJ,r,pl,hz⟩:=I.tuple hq
 obtain ⟨j,h1,h2,h3,h4,h5⟩:=tR he
 obtain ⟨w,ew,vT⟩:=r.get h2
 have hl:=r.length
 have hn:=fL
 have fin:EP X pins σ Q w s:=⟨z,H,I,vT,q⟩
 exact subscriptTail_builtinR (x:=w) pl.typeIs slot_tuple_getitem.lookup
  (getItem_tuple (j:=j) (Q:=fun r s'=>r=w/\EP X pins σ Q r s') pl (by omega) (by omega) (by rw[YN, <-hl];exact h1) (by simpa using ew) ⟨rfl,fin⟩) hs
theorem Ke:Kc X SA:=by
 intro value slice pins s σ H x y v u Q I rx ry h hs
 obtain ⟨z,i,c,rfl,rfl,hz,he,q⟩:=h
 obtain ⟨t,rfl⟩:=rx
 obtain ⟨t',rfl⟩:=ry
 obtain ⟨j,h1,h2,h3,h4,h5⟩:=tR he
 have hl:z.cps.toList.length=z.length:=by simp[Str.length]
 rw[hl]at h1 h4 h5
 have hn:=fL
 exact tail_any (typeIs_str s z t) slot_str_getitem.lookup (getItem_str (c:=c) (by
  have e1:decide (i< -(2 ^ 63:Int))=false:=decide_eq_false (by omega)
  have e2:decide (i ≥ 2 ^ 63)=false:=decide_eq_false (by omega)
  rw[e1,e2,Qc6]) (by rw[h1];simpa using h2) ⟨.str ⟨#[c]⟩,H,I.tok _,⟨_,rfl⟩,q⟩) hs
theorem x_ (aJ:List Value) (n j:Nat) (u:Value):Obj.mapSeq (·.setIfInBounds j u) { cls:= .type "list",data:= .seq aJ.toArray n }={ cls:= .type "list",data:= .seq (aJ.set j u).toArray n }:=by
 simp[Obj.mapSeq]
theorem Inv.lst {pins:List (Addr×Obj)} {σ:St} {H:Hp} {s:Shared} {p:Addr} {xs:List V} (I:Inv X pins σ H s) (h:H p=some (.lst xs)):
  ∃(aJ:List Value) (n:Nat),Vals xs aJ/\s.heap.get? p=some { cls:= .type "list",data:= .seq aJ.toArray n }/\xs.length<=sizeLine:=by
 obtain ⟨z,aJ,n,r,e⟩:=I.bZ p _ h
 exact ⟨aJ,n,r,e,z⟩
theorem Inv.Kf {pins:List (Addr×Obj)} {σ:St} {H:Hp} {s:Shared} {p:Addr} {xs ys:List V} {aJ its':List Value} {n n':Nat} {f:Obj->Obj} (I:Inv X pins σ H s) (h:H p=some (.lst xs))
  (ho:s.heap.get? p=some { cls:= .type "list",data:= .seq aJ.toArray n }) (hf:f { cls:= .type "list",data:= .seq aJ.toArray n }={ cls:= .type "list",data:= .seq its'.toArray n' }) (r:Vals ys its') (hz:ys.length<=sizeLine) (t:Nat):
  Inv X pins σ (upd H p (.lst ys)) { s with heap:=s.heap.update p f,toks:=t }:=by
 have e:(s.heap.update p f).get? p=some { cls:= .type "list",data:= .seq its'.toArray n' }:=by
  rw[Qab f ho (by rw[hf]<;>rfl),hf]
 refine I.write (x:=p) (e:=p) (by rw[h];trivial) (.inl rfl) (fun b u hb q=>(ZR _ _ (Ne.symm hb)).trans q) ⟨_,e⟩ ?_
 exact ⟨hz,its',n',r,e⟩
def OP:V->V->V->Hp->(Hp->Prop)->Prop:=fun o i v H Q=> ∃p xs k j,o= .ref p/\i= .int k/\H p=some (.lst xs)/\FW xs.length k=some j/\Q (upd H p (.lst (xs.set j v)))
theorem set_list:Ol X OP:=by
 intro pins s σ H o i v ov iv u Q I ro ri rv h
 obtain ⟨p,xs,k,j,rfl,rfl,hp,hj,q⟩:=h
 cases ro
 obtain ⟨t,rfl⟩:=ri
 obtain ⟨aJ,n,r,ho,hz⟩:=I.lst hp
 obtain ⟨h1,h2,h3,h4⟩:=zP hj
 have hl:=r.length
 have hn:=fL
 have I':Inv X pins σ (upd H p (.lst (xs.set j v))) { s with heap:=s.heap.update p (Obj.mapSeq (·.setIfInBounds j u)) }:=
  I.Kf hp ho (x_ aJ n j u) (r.set rv j) (by rw[List.length_set];exact hz) s.toks
 by_cases h0:0<=k
 ·have hk:k.toNat=j:=by
   rw[seqIndex_of h0 h4]at h1
   exact Zc h1
  exact PySem.W.ki_setAt ho h0 (by omega) (by rw[YN, <-hl];exact h4) (by rw[hk];exact ⟨_,I',q⟩)
 ·have hk:(k+(aJ.toArray.size:Int)).toNat=j:=by
   rw[seqIndex_neg (by omega) h3]at h1
   rw[YN, <-hl]
   exact Zc h1
  exact PySem.W.ki_setBack ho (by omega) (by rw[YN, <-hl];exact h3) (by omega) (by rw[hk];exact ⟨_,I',q⟩)
theorem tT (lo hi:Option Int) (n:Nat):(sliceBounds lo hi none n).1=((HT.iH n 0 lo:Nat):Int)/\(sliceBounds lo hi none n).2.1=((HT.iH n n hi:Nat):Int)/\(sliceBounds lo hi none n).2.2=1:=by
 refine ⟨?_,?_,rfl⟩
 ·cases lo with
  | none=>simp[sliceBounds,HT.iH]
  | some i=>
   simp only[sliceBounds,HT.iH,Option.getD_none,show (1:Int)>0 by decide,if_true]
   by_cases h:i<0
   ·simp only[h,if_true]<;>omega
   ·simp only[h,if_false]<;>omega
 ·cases hi with
  | none=>simp[sliceBounds,HT.iH]
  | some i=>
   simp only[sliceBounds,HT.iH,Option.getD_none,show (1:Int)>0 by decide,if_true]
   by_cases h:i<0
   ·simp only[h,if_true]<;>omega
   ·simp only[h,if_false]<;>omega
theorem ra (aJ:List Value) (lo hi:Option Int):slicePick aJ.toArray lo hi none=((aJ.drop (HT.iH aJ.length 0 lo)).take (HT.iH aJ.length aJ.length hi - HT.iH aJ.length 0 lo)).toArray:=by
 obtain ⟨h1,h2,h3⟩:=tT lo hi aJ.toArray.size
 unfold slicePick
 rw[h1,h2,h3]
 simp only[sliceRange_one,pick_run,YN]<;>rfl
def OQ (K:PySem.W.Frag):V->Option Int->Option Int->Hp->VK->Prop:=fun x lo hi H Q=> ∃a xs,x= .ref a/\ba K H a xs/\ ∀p,H p=none->Q (.ref p) (upd H p (.lst (o9 xs lo hi)))
theorem GL:QS X (OQ X.K):=by
 intro pins s σ H x v vl vu lo hi sl Q I rx hs pl pu h
 obtain ⟨a,xs,rfl,hx,q⟩:=h
 cases rx
 obtain ⟨aJ,r,ht,hz⟩:=I.list hx
 have hlen:=r.length
 refine ⟨"list",_,slot_list_getitem.lookup,ht.isList.typeIs,?_⟩
 refine wpAny_getItem_list_slice ht.isList hs pl pu .none (by simp) ?_ (by rw[YN]<;>omega)
 rw[ra, <-hlen]
 refine ⟨.ref s.heap.objs.size,_,I.laid (t':=s.toks) (o:= .lst (o9 xs lo hi)) (fun b ob q=>Mr _ q) (UP _) ?_,rfl,q _ (I.bZ.fresh (UP _))⟩
 exact ⟨ZG (vR xs lo hi) hz,_,0,(r.drop (HT.iH xs.length 0 lo)).take (HT.iH xs.length xs.length hi - HT.iH xs.length 0 lo),Ze _ rfl⟩
noncomputable def nB:V->Bool
 | .fH=>true
 | .bl _=>true
 | .int _=>true
 | .str _=>true
 | _=>false
noncomputable def GN:V->V->Bool
 | .fH, .fH=>true
 | .bl a, .bl b=>a==b
 | .bl a, .int b=>(if a then 1 else 0)==b
 | .int a, .bl b=>a==(if b then 1 else 0)
 | .int a, .int b=>a==b
 | .str a, .str b=>a==b
 | _,_=>false
theorem Kg {A:Around} {s:Shared} {y x:V} {u v:Value} (ry:RelV y u) (rx:RelV x v) (fy:nB y=true) (fx:nB x=true):SeqAt.EqAt A s u v (GN y x):=by
 cases y with
 | fH=>
  cases ry
  cases x with
  | fH=>cases rx;exact SeqAt.EqAt.same _
  | bl b=>cases rx;exact SeqAt.EqAt.none_bool b
  | int b=>obtain ⟨t,rfl⟩:=rx;exact SeqAt.EqAt.none_int b t
  | str b=>obtain ⟨t,rfl⟩:=rx;exact SeqAt.EqAt.none_str b t
  | _=>exact absurd (show false=true from fx) Zn
 | bl a=>
  cases ry
  cases x with
  | fH=>cases rx;exact SeqAt.EqAt.bool_none a
  | bl b=>cases rx;exact SeqAt.EqAt.bool_bool a b
  | int b=>obtain ⟨t,rfl⟩:=rx;exact SeqAt.EqAt.bool_int a b t
  | str b=>obtain ⟨t,rfl⟩:=rx;exact SeqAt.EqAt.bool_str a b t
  | _=>exact absurd (show false=true from fx) Zn
 | int a=>
  obtain ⟨t',rfl⟩:=ry
  cases x with
  | fH=>cases rx;exact SeqAt.EqAt.int_none a t'
  | bl b=>cases rx;exact SeqAt.EqAt.int_bool a t' b
  | int b=>obtain ⟨t,rfl⟩:=rx;exact SeqAt.EqAt.int_int a t' b t
  | str b=>obtain ⟨t,rfl⟩:=rx;exact SeqAt.EqAt.int_str a t' b t
  | _=>exact absurd (show false=true from fx) Zn
 | str a=>
  obtain ⟨t',rfl⟩:=ry
  cases x with
  | fH=>cases rx;exact SeqAt.EqAt.str_none a t'
  | bl b=>cases rx;exact SeqAt.EqAt.str_bool a t' b
  | int b=>obtain ⟨t,rfl⟩:=rx;exact SeqAt.EqAt.str_int a t' b t
  | str b=>obtain ⟨t,rfl⟩:=rx;exact SeqAt.EqAt.str_str a t' b t
  | _=>exact absurd (show false=true from fx) Zn
 | _=>exact absurd (show false=true from fy) Zn
noncomputable def yf (x:V) (u:Value):Bool:=match u with
 | .none=>GN .fH x
 | .bool b=>GN (.bl b) x
 | .int i _=>GN (.int i) x
 | .str z _=>GN (.str z) x
 | _=>false
theorem C_ {x y:V} {u:Value} (r:RelV y u) (f:nB y=true):yf x u=GN y x:=by
 cases y with
 | fH=>cases r;rfl
 | bl b=>cases r;rfl
 | int i=>obtain ⟨t,rfl⟩:=r;rfl
 | str z=>obtain ⟨t,rfl⟩:=r;rfl
 | _=>exact absurd (show false=true from f) Zn
theorem kX {x:V}: ∀{xs:List V} {us:List Value},Vals xs us->xs.all nB=true->us.any (yf x)=xs.any fun y=>GN y x
 | _,_, .nil,_=>rfl
 | y::xs,u::us, .cons r t,f=>by
  rw[List.all_cons,Z3]at f
  rw[Qap,Qap,C_ r f.1,kX t f.2]
theorem i6 {A:Around} {s:Shared} {x:V} {v:Value} (rx:RelV x v) (fx:nB x=true): ∀{xs:List V} {us:List Value},Vals xs us->xs.all nB=true-> ∀u∈us,SeqAt.EqAt A s u v (yf x u)
 | _,_, .nil,_=>fun u hu=>by cases hu
 | y::xs,u::us, .cons r t,f=>fun u' hu=>by
  rw[List.all_cons,Z3]at f
  rcases Wz.mp hu with rfl | hu
  ·rw[C_ r f.1];exact Kg r rx f.1 fx
  ·exact i6 rx fx t f.2 u' hu
noncomputable def Kh (x:V) (xs:List V):Bool:=xs.any fun y=>GN y x
def QT (K:PySem.W.Frag) (neg:Bool):R2:=fun x y H Q=> ∃p xs,y= .ref p/\(ba K H p xs\/bY K H p xs)/\nB x=true/\xs.all nB=true/\Q (.bl (if neg then !Kh x xs else Kh x xs)) H
theorem Bq:hJ X (compareOp .In) (QT X.K false):=by
 intro pins s σ H x y v u Q I rx ry h
 obtain ⟨p,xs,rfl,hq,fx,fs,q⟩:=h
 cases ry
 rcases hq with hq | hq
 ·obtain ⟨aJ,r,pl,hz⟩:=I.list hq
  refine SeqAt.in_listAt (yf x) pl.isList (fun w hw=>i6 rx fx r fs w (by simpa using hw)) ⟨.bl _,H,I,rfl,?_⟩
  rw[show aJ.toArray.any (yf x)=aJ.any (yf x) by simp,kX r fs]
  exact q
 ·obtain ⟨aJ,r,pl,hz⟩:=I.tuple hq
  refine SeqAt.in_tupleAt (yf x) pl (fun w hw=>i6 rx fx r fs w (by simpa using hw)) ⟨.bl _,H,I,rfl,?_⟩
  rw[show aJ.toArray.any (yf x)=aJ.any (yf x) by simp,kX r fs]
  exact q
theorem tU:hJ X (compareOp .NotIn) (QT X.K true):=by
 intro pins s σ H x y v u Q I rx ry h
 obtain ⟨p,xs,rfl,hq,fx,fs,q⟩:=h
 cases ry
 rcases hq with hq | hq
 ·obtain ⟨aJ,r,pl,hz⟩:=I.list hq
  refine SeqAt.notIn_listAt (yf x) pl.isList (fun w hw=>i6 rx fx r fs w (by simpa using hw)) ⟨.bl _,H,I,rfl,?_⟩
  rw[show aJ.toArray.any (yf x)=aJ.any (yf x) by simp,kX r fs]
  exact q
 ·obtain ⟨aJ,r,pl,hz⟩:=I.tuple hq
  refine SeqAt.notIn_tupleAt (yf x) pl (fun w hw=>i6 rx fx r fs w (by simpa using hw)) ⟨.bl _,H,I,rfl,?_⟩
  rw[show aJ.toArray.any (yf x)=aJ.any (yf x) by simp,kX r fs]
  exact q
theorem tV:dk X (.builtin "len") (fun xs H Q=> ∃p ys,xs=[.ref p]/\(ba X.K H p ys\/bY X.K H p ys)/\Q (.int ys.length) H):=by
 intro pins s σ H xs us Q I r h
 obtain ⟨p,ys,rfl,hq,q⟩:=h
 obtain ⟨u,rfl,rx⟩:=vals1 r
 cases rx
 have hn:=fL
 rcases hq with hq | hq
 ·obtain ⟨aJ,r',pl,hz⟩:=I.list hq
  have hlen:=r'.length
  exact Calls.call_len_list pl.isList (by simp only[YN]<;>omega) ⟨.int ys.length,H,I.tok _,⟨s.toks+1,by rw[YN,hlen]⟩,q⟩
 ·obtain ⟨aJ,r',pl,hz⟩:=I.tuple hq
  have hlen:=r'.length
  exact len_tuple pl (by simp only[YN]<;>omega) ⟨.int ys.length,H,I.tok _,⟨s.toks+1,by rw[YN,hlen]⟩,q⟩
theorem tW:dk X (.builtin "len") (fun xs H Q=> ∃z,xs=[.str z]/\z.length<=sizeLine/\Q (.int z.length) H):=by
 intro pins s σ H xs us Q I r h
 obtain ⟨z,rfl,hz,q⟩:=h
 obtain ⟨u,rfl,t,rfl⟩:=vals1 r
 have hn:=fL
 exact len_str (by omega) ⟨.int z.length,H,I.tok _,⟨_,rfl⟩,q⟩
theorem tX:dk X (.type "list") (fun xs H Q=> ∃p ys,xs=[.ref p]/\(ba X.K H p ys\/bY X.K H p ys)/\ ∀l,H l=none->Q (.ref l) (upd H l (.lst ys))):=by
 intro pins s σ H xs us Q I r h
 obtain ⟨p,ys,rfl,hq,q⟩:=h
 obtain ⟨u,rfl,rx⟩:=vals1 r
 cases rx
 have fin: ∀(aJ:List Value),Vals ys aJ->ys.length<=sizeLine-> ∀(h':Heap) (c':Nat),(∀b o',s.heap.get? b=some o'->h'.get? b=some o')->
   h'.get? s.heap.objs.size=some { cls:= .type "list",dict:=none,data:= .seq aJ.toArray c',slots:= #[] }->EP X pins σ Q (.ref s.heap.objs.size) { s with heap:=h' }:=fun aJ r' hz h' c' kp e=>
  ⟨.ref s.heap.objs.size,_,I.laid (t':=s.toks) kp (UP _) (show cQ X.prog X.w _ h' _ (.lst ys) from ⟨hz,aJ,c',r',e⟩),rfl,q _ (I.bZ.fresh (UP _))⟩
 rcases hq with hq | hq
 ·obtain ⟨aJ,r',pl,hz⟩:=I.list hq
  have hlen:=r'.length
  obtain ⟨o,ho,hc,n,hd⟩:=pl.isList
  exact call_list_seq p (.inl rfl) ho hc hd (fun h' c' kp e=>fin aJ r' hz h' c' kp e) (by simp only[YN]<;>omega)
 ·obtain ⟨aJ,r',pl,hz⟩:=I.tuple hq
  have hlen:=r'.length
  obtain ⟨o,ho,hc,n,hd⟩:=pl
  exact call_list_seq p (.inr rfl) ho hc hd (fun h' c' kp e=>fin aJ r' hz h' c' kp e) (by simp only[YN]<;>omega)
theorem rh:dk X (.type "tuple") (fun xs H Q=> ∃p ys,xs=[.ref p]/\((ba X.K H p ys/\ ∀l,H l=none->Q (.ref l) (upd H l (.tup ys)))\/(bY X.K H p ys/\Q (.ref p) H))):=by
 intro pins s σ H xs us Q I r h
 obtain ⟨p,ys,rfl,h⟩:=h
 obtain ⟨u,rfl,rx⟩:=vals1 r
 cases rx
 rcases h with ⟨hq,q⟩ | ⟨hq,q⟩
 ·obtain ⟨aJ,r',pl,hz⟩:=I.list hq
  have hlen:=r'.length
  refine call_tuple_list pl.isList (fun h' kp=>?_) (by simp only[YN]<;>omega)
  have I1:Inv X pins σ H { s with heap:=h' }:=I.kept (t':=s.toks) kp
  have I2:Inv X pins σ (upd H h'.objs.size (.tup ys)) { s with heap:=h'.push { cls:= .type "tuple",data:= .seq aJ.toArray } }:=
   I1.laid (t':=s.toks) (fun b o e=>Mr _ e) (UP _) (show cQ X.prog X.w _ _ _ (.tup ys) from ⟨hz,aJ,r',IsTup.new _ _⟩)
  exact ⟨.ref h'.objs.size,_,I2,rfl,q _ (I1.bZ.fresh (UP _))⟩
 ·obtain ⟨aJ,r',pl,hz⟩:=I.tuple hq
  exact call_tuple_same pl ⟨.ref p,H,I,rfl,q⟩
def SD (K:PySem.W.Frag) (T:String) (x:V) (H:Hp):Prop:=match x with
 | .str _=>T="str"
 | .int _=>T="int"
 | .ref p=>(T="list"/\ ∃xs,ba K H p xs)\/(T="tuple"/\ ∃o,K.lookup p=some o/\o.cls= .type "tuple"/\o.dict=none)\/
   (T="dict"/\((∃aP,H p=some (.dK aP))\/ ∃aP,H p=some (.dT aP)))\/(T="set"/\ ∃S n,H p=some (.set S n))
 | _=>False
theorem Dc {pins:List (Addr×Obj)} {σ:St} {H:Hp} {s:Shared} {T:String} {x:V} {v:Value} (I:Inv X pins σ H s) (r:RelV x v) (ty:SD X.K T x H):
  s.TypeIs v T/\ ∀a,v= .ref a-> ∃ob,s.heap.get? a=some ob/\ob.dict=none:=by
 cases x with
 | str z=>
  obtain ⟨t,rfl⟩:=r
  cases (show T="str" from ty)
  exact ⟨typeIs_str s z t,fun _ e=>nomatch e⟩
 | int i=>
  obtain ⟨t,rfl⟩:=r
  cases (show T="int" from ty)
  exact ⟨typeIs_int s i t,fun _ e=>nomatch e⟩
 | ref p=>
  cases r
  rcases ty with ⟨rfl,xs,hq⟩ | ⟨rfl,o,hk,hc,hd⟩ | ⟨rfl,hk⟩ | ⟨rfl,S,n,hk⟩
  ·obtain ⟨aJ,_,pl,_⟩:=I.list hq
   refine ⟨pl.isList.typeIs,fun a e=>?_⟩
   cases e
   obtain ⟨o,n,e,c,hd,_⟩:=pl
   exact ⟨o,e,hd⟩
  ·refine ⟨⟨o,I.Bc p o hk,hc⟩,fun a e=>?_⟩
   cases e
   exact ⟨o,I.Bc _ o hk,hd⟩
  ·have z: ∃o,s.heap.get? p=some o/\o.ExactDict:=by
    rcases hk with ⟨aP,hk⟩ | ⟨aP,hk⟩
    ·obtain ⟨_,_,_,_,o,_,_,e,ex,_⟩:=I.bZ p _ hk
     exact ⟨o,e,ex⟩
    ·obtain ⟨_,_,_,_,o,_,_,e,ex,_⟩:=I.bZ p _ hk
     exact ⟨o,e,ex⟩
   obtain ⟨o,e,ex⟩:=z
   refine ⟨⟨o,e,ex.1⟩,fun a e2=>?_⟩
   cases e2
   exact ⟨o,e,ex.2.1⟩
  ·obtain ⟨o,_,_,_,e,ex,_⟩:=I.bZ p _ hk
   refine ⟨⟨o,e,ex.1⟩,fun a e2=>?_⟩
   cases e2
   exact ⟨o,e,ex.2.1⟩
 | _=>exact False.elim ty
def OR (K:PySem.W.Frag) (T:String) (r:V->List V->Hp->VK->Prop) (to:TE):TE:=fun σ H Q=>to σ H fun x H1=>SD K T x H1/\r x [] H1 Q
def UK (K:PySem.W.Frag) (T:String) (r:V->List V->Hp->VK->Prop) (to:TE) (t:TA):TE:=fun σ H Q=>to σ H fun x H1=>SD K T x H1/\t σ H1 fun xs H2=>r x xs H2 Q
variable {o e:Expr} {es:List Expr} {to:TE} {t:TA} {name:Str} {apos iR:Pos} {T id:String} {r:V->List V->Hp->VK->Prop}
theorem Ki (pa:PlainAttrs T) (slot:Slot T name id) (Kj:typeOf (.builtin id)=pure (.type "method_descriptor")) (hm:zQ X id r) (ho:PE X o to)
  (o_:attributeBase o name X.env (eval o X.env)=eval o X.env:=by rfl) (nC:(apos.endLine==iR.line)=true:=by rfl):PE X (.Call (.Attribute o name apos) [] [] iR) (OR X.K T r to):=by
 intro pins s σ H Q I h
 refine wpAny_Call_method0_late o_ nC (cg (ho pins s σ H _ I h) fun v s1 ⟨x,H1,I1,r1,ty,q1⟩=>?_)
 obtain ⟨h1,h2⟩:=Dc I1 r1 ty
 exact ⟨T,id,pa,slot,Kj,h1,h2,Calls.callWith_builtin rfl (PySem.evalArgs_none (hm pins s1 σ H1 x [] v [] Q I1 r1 .nil q1))⟩
theorem OS (pa:PlainAttrs T) (slot:Slot T name id) (Kj:typeOf (.builtin id)=pure (.type "method_descriptor")) (hm:zQ X id r) (ho:PE X o to) (ha:PA X (e::es) t)
  (o_:attributeBase o name X.env (eval o X.env)=eval o X.env:=by rfl)
  (Kk:((backTo iR (starEach (e::es) X.env)).all (fun x=>!x.1)&&(backToKw iR (keywordEach [] X.env)).all (fun x=>x.1.isSome)
   &&decide ((e::es).length+([]:List Keyword).length+(if ([]:List Keyword).isEmpty then 0 else 1)<30))=true:=by rfl)
  (nC:(apos.endLine==iR.line)=true:=by rfl) (hs:starEach (e::es) X.env=(false,eval e X.env)::starEach es X.env:=by rfl) (yg:(backTo iR (starEach es X.env)).any (·.1)=false:=by rfl):
  PE X (.Call (.Attribute o name apos) (e::es) [] iR) (UK X.K T r to t):=by
 intro pins s σ H Q I h
 refine wpAny_Call_method_late o_ Kk nC rfl (cg (ho pins s σ H _ I h) fun v s1 ⟨x,H1,I1,r1,ty,q1⟩=>?_)
 obtain ⟨h1,h2⟩:=Dc I1 r1 ty
 refine ⟨T,id,pa,slot,Kj,h1,h2,?_⟩
 have hA:=ha iR pins s1 σ H1 _ I1 q1
 rw[hs]at hA ⊢
 refine Calls.callWith_builtin (by show (false||(backTo iR (starEach es X.env)).any (·.1))=false;rw[yg]<;>rfl) (Calls.evalArgs_plain ?_)
 exact cg hA fun us s2 ⟨vs,H2,I2,r2,q2⟩=>hm pins s2 σ H2 x vs v us Q I2 r1 r2 q2
end
def Mq (X:Cx) (id:String) (r:V->List V->Hp->VK->Prop):Prop:=
 ∀(pins:List (Addr×Obj)) (s:Shared) (σ:St) (H:Hp) (x:V) (xs:List V) (v:Value) (us:List Value) (Q:VK),Inv X pins σ H s->RelV x v->Vals xs us->r x xs H Q->
  wpAny (model X.prog X.w) X.A (call (.builtin id) (v::us)) (EP X pins σ Q) X.xe s
theorem Vals.one: ∀{x:V} {us:List Value},Vals [x] us-> ∃u,us=[u]/\RelV x u
 | _,_, .cons r .nil=>⟨_,rfl,r⟩
theorem Vals.zero: ∀{us:List Value},Vals [] us->us=[]
 | _, .nil=>rfl
theorem Vals.dropLast {xs:List V} {us:List Value} (h:Vals xs us):Vals xs.dropLast us.dropLast:=by
 induction h with
 | nil=>exact .nil
 | cons r t ih=>
  cases t with
  | nil=>exact .nil
  | cons q t'=>exact .cons r ih
theorem Vals.eraseIdx: ∀{xs:List V} {us:List Value} (i:Nat),Vals xs us->Vals (xs.eraseIdx i) (us.eraseIdx i)
 | _,_,_, .nil=> .nil
 | _,_,0, .cons _ t=>t
 | _,_,i+1, .cons r t=> .cons r (Vals.eraseIdx i t)
theorem Vals.reverse {xs:List V} {us:List Value} (h:Vals xs us):Vals xs.reverse us.reverse:=by
 induction h with
 | nil=>exact .nil
 | cons r t ih=>rw[Qdd,Qdd];exact Vals.append ih (.cons r .nil)
theorem yh {α:Type} (l:List α):l.eraseIdx (l.length - 1)=l.dropLast:=by
 induction l with
 | nil=>rfl
 | cons a r ih=>
  cases r with
  | nil=>rfl
  | cons b r=>
   have e:(a::b::r).length - 1=((b::r).length - 1)+1:=by
    have h1:(a::b::r).length=r.length+2:=rfl
    have h2:(b::r).length=r.length+1:=rfl
    omega
   rw[e,Qbm,ih]
   all_goals rfl
theorem rV {α:Type}: ∀(l:List α) (i:Nat),(l.eraseIdx i).length<=l.length
 | [],_=>UP _
 | _::_,0=>Qa0 _
 | _::r,i+1=>Qaq (rV r i)
section
variable {X:Cx} {pins:List (Addr×Obj)} {σ:St} {H:Hp} {s:Shared} {l b:Addr} {xs ys zs:List V}
theorem Inv.Br {aJ its':List Value} {n:Nat} {f:Array Value->Array Value} {t':Nat} (I:Inv X pins σ H s) (hH:H l=some (.lst xs))
  (e:s.heap.get? l=some { cls:= .type "list",data:= .seq aJ.toArray n }) (hf:f aJ.toArray=its'.toArray) (hv:Vals ys its') (hz:ys.length<=sizeLine):
  Inv X pins σ (upd H l (.lst ys)) { s with heap:=s.heap.update l (Obj.mapSeq f),toks:=t' }:=by
 have q:=PySem.IsL.update e f
 rw[hf]at q
 refine I.write (x:=l) (e:=l) (by rw[hH];exact trivial) (.inl rfl) (fun b' u hb hu=>(ZR s.heap (Obj.mapSeq f) (Ne.symm hb)).trans hu) ⟨_,q⟩ ?_
 exact ⟨hz,its',_,hv,q⟩
theorem Inv.SE {aJ:List Value} {t':Nat} (I:Inv X pins σ H s) (hv:Vals ys aJ) (hz:ys.length<=sizeLine):
  Inv X pins σ (upd H s.heap.objs.size (.lst ys)) { s with heap:=s.heap.push { cls:= .type "list",data:= .seq aJ.toArray },toks:=t' }:=
 I.laid (fun _ _ q=>Mr _ q) (UP _) ⟨hz,aJ,0,hv,Ze _ rfl⟩
theorem Inv.fresh (I:Inv X pins σ H s):H s.heap.objs.size=none:=I.bZ.fresh (UP _)
theorem Inv.tY (I:Inv X pins σ H s) (hH:H l=some (.lst xs)):xs.length<=sizeLine/\ ∃(aJ:List Value) (n:Nat),Vals xs aJ/\xs.length=aJ.length/\s.heap.get? l=some { cls:= .type "list",data:= .seq aJ.toArray n }:=by
 obtain ⟨z,aJ,n,r,e⟩:=I.bZ l _ hH
 exact ⟨z,aJ,n,r,r.length,e⟩
theorem De {n:Nat} (h:n<=sizeLine):Builtin.List.listTooLong n=false:=by
 unfold Builtin.List.listTooLong
 exact decide_eq_false (by omega)
end
section
variable {X:Cx}
def GO:V->List V->Hp->VK->Prop:=fun x vs H Q=> ∃l xs y,x= .ref l/\vs=[y]/\H l=some (.lst xs)/\xs.length<sizeLine/\Q .fH (upd H l (.lst (xs++[y])))
theorem c_:Mq X "list.append" GO:=by
 intro pins s σ H x vs v us Q I rx rv h
 obtain ⟨l,xs,y,rfl,rfl,hH,hz,q⟩:=h
 cases rx
 obtain ⟨u,rfl,ru⟩:=rv.one
 obtain ⟨z,aJ,n,r,hl,e⟩:=I.tY hH
 refine call_meets F.slot_list_append ⟨_,e,rfl⟩ F.entry_list_append (F.args_list_append_2 _ _) (PySem.list_append l aJ.toArray n u (by rw[YN];omega)) ⟨e,?_⟩
 refine ⟨.fH,_,I.Br (its':=aJ++[u]) hH e (by simp) (r.append (.cons ru .nil)) ?_,rfl,q⟩
 rw[UO,List.length_singleton]
 omega
def GP:V->List V->Hp->VK->Prop:=fun x vs H Q=> ∃l b xs zs,x= .ref l/\vs=[.ref b]/\H l=some (.lst xs)/\H b=some (.lst zs)/\xs.length+zs.length<=sizeLine/\Q .fH (upd H l (.lst (xs++zs)))
theorem Bs:Mq X "list.extend" GP:=by
 intro pins s σ H x vs v us Q I rx rv h
 obtain ⟨l,b,xs,zs,rfl,rfl,hH,hB,hz,q⟩:=h
 cases rx
 obtain ⟨u,rfl,ru⟩:=rv.one
 cases ru
 obtain ⟨z,aJ,n,r,hl,e⟩:=I.tY hH
 obtain ⟨z2,yj,n2,r2,zR,e2⟩:=I.tY hB
 have hsz:aJ.toArray.size+yj.toArray.size<=sizeLine:=by rw[YN,YN];omega
 have OT: ¬(!aJ.toArray.isEmpty&&Builtin.List.listTooLong (aJ.toArray.size+yj.toArray.size))=true:=by
  rw[De hsz,Bool.and_false]
  exact Zn
 refine call_meets F.slot_list_extend ⟨_,e,rfl⟩ F.entry_list_extend (F.args_list_extend_2 _ _)
  (AutoSeq1.list_extend_list_list_0 l aJ.toArray n b yj.toArray n2 OT (by rw[YN];omega) (by omega)) ⟨e,e2,?_⟩
 refine ⟨.fH,_,I.Br (its':=aJ++yj) hH e (by simp) (r.append r2) ?_,rfl,q⟩
 rw[UO]
 omega
def SF:V->List V->Hp->VK->Prop:=fun x vs H Q=> ∃l xs y,x= .ref l/\vs=[]/\H l=some (.lst xs)/\xs[xs.length - 1]? =some y/\Q y (upd H l (.lst xs.dropLast))
theorem Kl:Mq X "list.pop" SF:=by
 intro pins s σ H x vs v us Q I rx rv h
 obtain ⟨l,xs,y,rfl,rfl,hH,hy,q⟩:=h
 cases rx
 have CF:=rv.zero
 subst CF
 obtain ⟨z,aJ,n,r,hl,e⟩:=I.tY hH
 obtain ⟨u,hu,ru⟩:=r.get hy
 have Wr:aJ.toArray[aJ.toArray.size - 1]? =some u:=by
  show aJ.toArray[aJ.length - 1]? =some u
  rw[<-Array.getElem?_toList, <-hl]
  exact hu
 refine call_meets F.slot_list_pop ⟨_,e,rfl⟩ F.entry_list_pop (F.args_list_pop_1 _) (MeetsSeq.list_pop_last l aJ.toArray n u Wr (by rw[YN];omega)) ⟨e,?_⟩
 refine ⟨y,_,I.Br (its':=aJ.dropLast) hH e ?_ r.dropLast ?_,ru,q⟩
 ·show aJ.toArray.eraseIdxIfInBounds (aJ.toArray.size - 1)=aJ.dropLast.toArray
  rw[YN,List.eraseIdxIfInBounds_toArray,yh]
 ·rw[List.length_dropLast]
  omega
def Km:V->List V->Hp->VK->Prop:=fun x vs H Q=> ∃l xs i k y,x= .ref l/\vs=[.int i]/\H l=some (.lst xs)/\ -(2 ^ 63)<=i/\i<2 ^ 63/\seqIndex? i xs.length=some k/\xs[k]? =some y/\Q y (upd H l (.lst (xs.eraseIdx k)))
theorem kY:Mq X "list.pop" Km:=by
 intro pins s σ H x vs v us Q I rx rv h
 obtain ⟨l,xs,i,k,y,rfl,rfl,hH,h1,h2,hk,hy,q⟩:=h
 cases rx
 obtain ⟨u,rfl,ru⟩:=rv.one
 obtain ⟨t,rfl⟩:=ru
 obtain ⟨z,aJ,n,r,hl,e⟩:=I.tY hH
 obtain ⟨w,hw,vT⟩:=r.get hy
 refine call_meets F.slot_list_pop ⟨_,e,rfl⟩ F.entry_list_pop (F.args_list_pop_2 _ _)
  (MeetsSeq.list_pop_at l aJ.toArray n i t k w (fitsIndex_both h1 h2) (by rw[YN, <-hl];exact hk) (by rw[<-Array.getElem?_toList];exact hw) (by rw[YN];omega)) ⟨e,?_⟩
 refine ⟨y,_,I.Br (its':=aJ.eraseIdx k) hH e ?_ (r.eraseIdx k) ?_,vT,q⟩
 ·show aJ.toArray.eraseIdxIfInBounds k=(aJ.eraseIdx k).toArray
  rw[List.eraseIdxIfInBounds_toArray]
 ·have:=rV xs k
  omega
def Df:V->List V->Hp->VK->Prop:=fun x vs H Q=> ∃l xs,x= .ref l/\vs=[]/\H l=some (.lst xs)/\Q .fH (upd H l (.lst xs.reverse))
theorem yk:Mq X "list.reverse" Df:=by
 intro pins s σ H x vs v us Q I rx rv h
 obtain ⟨l,xs,rfl,rfl,hH,q⟩:=h
 cases rx
 have CF:=rv.zero
 subst CF
 obtain ⟨z,aJ,n,r,hl,e⟩:=I.tY hH
 refine call_meets F.slot_list_reverse ⟨_,e,rfl⟩ F.entry_list_reverse (F.args_list_reverse_1 _) (AutoSeq1.list_reverse_list_0 l aJ.toArray n (by rw[YN];omega)) ⟨e,?_⟩
 refine ⟨.fH,_,I.Br (its':=aJ.reverse) hH e (by simp) r.reverse ?_,rfl,q⟩
 rw[Zz]
 omega
def SG:R2:=fun x y H Q=> ∃l b xs zs,x= .ref l/\y= .ref b/\H l=some (.lst xs)/\H b=some (.lst zs)/\xs.length+zs.length<=sizeLine/\ ∀p,H p=none->Q (.ref p) (upd H p (.lst (xs++zs)))
theorem Kn:hJ X (binaryOp .Add) SG:=by
 intro pins s σ H x y v u Q I rx ry h
 obtain ⟨l,b,xs,zs,rfl,rfl,hH,hB,hz,q⟩:=h
 cases rx
 cases ry
 obtain ⟨z,aJ,n,r,hl,e⟩:=I.tY hH
 obtain ⟨z2,yj,n2,r2,zR,e2⟩:=I.tY hB
 refine PySem.P.add_list e e2 ?_ (by rw[YN,YN];omega)
 have ea:aJ.toArray++yj.toArray=(aJ++yj).toArray:=by simp
 rw[ea]
 exact ⟨.ref _,_,I.SE (t':=s.toks) (r.append r2) (by rw[UO];omega),rfl,q _ I.fresh⟩
end
end L2
namespace UL
open PySem PySem.W PySem.Calls PyProof.Rows
theorem nS {P:Params} {h:Heap}: ∀(ns:List Int) (vs:List Value),WellAll P h vs (ns.map WData.int)->IntsAre vs ns:=by
 intro ns
 induction ns with
 | nil=>
  intro vs w
  rw[Qb0]at w
  cases w
  exact .nil
 | cons n ns ih=>
  intro vs w
  rw[Zd]at w
  cases w with
  | cons a b=>
   cases a
   exact .cons _ _ (ih _ b)
theorem Bt {l:OpenLaw} {n:Nat} (hn:l.most=some n) {P:Params} {h:Heap} {args:List WData} {vals:List Value}
  (GQ:l.row.toRowW.claim.pre args=true) (vU:WellAll P h vals args):
  ∃a vs ns,vals=[Value.ref a]/\args=[WData.list (ns.map WData.int)]/\h.get? a=some { cls:= .type "list",data:= .seq vs.toArray }/\IntsAre vs ns/\ns.length<=n:=by
 have Ws:WShape.hasAll [] args [.list .int]=true:=(pre_splitW GQ).1
 have hc:l.pre.holds [] { args:=args }=true:=(pre_splitW GQ).2
 obtain ⟨d,r,rfl,h1,h2⟩:=hasAllW_cons Ws
 obtain rfl:=hasAllW_nil h2
 obtain ⟨xs,rfl,h3⟩:=hasW_list h1
 obtain ⟨ns,rfl⟩:=items_int h3
 have hlen:ns.length<=n:=by
  unfold OpenLaw.pre at hc
  have h4:(WTm.not (.lt (.lit (.int (n:Int))) (.len (.arg 0)))).holds [] { args:=[.list (ns.map .int)] }=true:=by
   have h4:=(holds_andW hc).1
   rw[hn]at h4
   exact h4
  have h5:=condW_of h4 (w_not (w_lt w_lit (w_len_list (w_arg rfl))))
  rw[QW]at h5
  refine Nat.le_of_not_lt fun q=>?_
  have q':(n:Int)<((ns.length:Nat):Int):=by omega
  first
   |(rw[decide_eq_true q']at h5;exact absurd h5 (by decide))
   |(simp at h5;omega)
 cases vU with
 | cons w1 w2=>
  cases w2
  cases w1 with
  | list ho SH=>exact ⟨_,_,ns,rfl,rfl,ho,nS ns _ SH,hlen⟩
theorem Bu (l:OpenLaw) (args:List WData):l.row.toRowW.claim.post args (.bool true) args=true:=
 postW_of (r:=l.row.toRowW) (X:=(true==true))
  (show WShape.has [] (.bool true) .bool=true by first | rfl | decide | simp[WShape.has,WShape.arms,WShape.armsAll])
  (show (WTm.eq .res (.lit (.bool true))).value [] { args:=args,res:=some (.bool true),after:=args }=some (.bool (true==true)) from w_eq_bool (w_res rfl) w_lit) rfl
theorem vV {l:OpenLaw} {n:Nat} {q:Program} {loose:List Str} {XP:(Str->Option Value)->Heap->Prop} {YP:World->Heap->Prop} {d:DefRec}
  (hn:l.most=some n) (OU:d.params.defaults=[])
  (call: ∀(w:World) (s₀ s₁:Shared) (mg mb:Str->Option Value) (fa:Addr) (o:Obj) (pm cd doc:Value) (a:Addr) (vs:List Value) (ns:List Int),
   Ground q loose [] XP w s₀ mg mb s₁.heap->YP w s₁.heap->
   s₁.heap.get? fa=some o->o.data= .func (docDef d.name d.params d.body d.scope pm cd doc)->s₁.heap.CodeRec cd d.name->mg d.name=some (.ref fa)->
   s₁.heap.get? a=some { cls:= .type "list",data:= .seq vs.toArray }->IntsAre vs ns->ns.length<=n->s₁.gens= #[]->
   codeAny (model l.prog w) callerA (.call (.ref fa) ⟨[.ref a],[]⟩) (fun r s'=>r= .ok (.ret (.bool true))/\OldK s₁.heap s'.heap/\s'.os=s₁.os/\AllBare s'.gens) s₁):
  WalkO q loose XP YP l.row.toRowW d [] (fun f vs=>PySem.call f vs):=by
 intro w s₀ s₁ mg mb G Y fa o pm cd doc dV kV ho hd jZ hD hmg hg args vals as GQ Wt YL vU YM
 obtain rfl:dV= .none:=Dflts.none hD OU
 obtain rfl:kV= .none:=Dflts.noKw hD
 obtain ⟨a,vs,ns,rfl,rfl,Ko,hints,hlen⟩:=Bt hn GQ vU
 refine enter_call (codeAny_mono (call w s₀ s₁ mg mb fa o pm cd doc a vs ns G Y ho (fd_plain hd) jZ hmg Ko hints hlen hg) fun r s' hq=>?_)
 obtain ⟨rfl,h2,h3,h4⟩:=hq
 exact ⟨.inl ⟨.bool true, .bool true,[],rfl,fun _=>rfl, .bool true,Bu l _,fun _=>⟨List.Pairwise.nil,fun _ hm=>(nomatch hm)⟩⟩,h2,h3,h4⟩
end UL
namespace L2
open PySem PySem.Spec PyProof.Rows
theorem rW: ∀{vs:List Value} {ns:List Int},IntsAre vs ns->Vals (ns.map V.int) vs
 | _,_, .nil=> .nil
 | _,_, .cons n t h=> .cons ⟨t,rfl⟩ (rW h)
def Kp (H:Hp):Prop:= ∀b,H b=none\/ ∃o xs,H b=some (.FO o (.lst xs))
theorem Dg {P:Program} {w:World} {K:PySem.W.Frag} {mg mb:Str->Option Value} {CX:Bn} {k:Nat} {fa a:Addr} {fd:FuncData} {x:Str} {sp:Sp} {s₁:Shared} {vs:List Value} {ns:List Int}
  (KX:K.In s₁.heap) (QU:s₁.heap.Ns mainGlobals mg) (hb:s₁.heap.Ns builtinsNs mb) (Wu: ∀x:Str,x≠"__name__"->mb x=bootBuiltins x) (SI:s₁.heap.NoLimit) (hg:s₁.gens= #[])
  (ha:s₁.heap.get? a=some { cls:= .type "list",data:= .seq vs.toArray }) (hi:IntsAre vs ns) (hl:ns.length<=sizeLine) (hr:ff k callerA)
  (F: ∀base:Heap,K.In base->base.Ns mainGlobals mg->br P w K mg base CX k fa fd [x] sp) (OV: ∀(s:Shared) (u:Value),BindsTo s fd ⟨[u],[]⟩ [(x,u)])
  (IQ: ∀H:Hp,Kp H->ba K H a (ns.map V.int)->sp [.ref a] H (fun v _=>v= .bl true) fun _ _ _=>False)
  (SJ: ∀H e s',CX [] H s₁ (fun _ _ _=>False) e s'->False):
  codeAny (model P w) callerA (.call (.ref fa) ⟨[.ref a],[]⟩) (fun r s'=>r= .ok (.ret (.bool true))/\OldK s₁.heap s'.heap/\s'.os=s₁.os/\AllBare s'.gens) s₁:=by
 have rv:=rW hi
 have SK:=hi.length
 -- from an abstract heap in UM nothing but FT script may be tracked
 have core: ∀H:Hp,Kp H->ba K H a (ns.map V.int)->kC P w H s₁.heap->(∀b,H b≠none->b=a)->(H a≠none->K.lookup a=none)->
   codeAny (model P w) callerA (.call (.ref fa) ⟨[.ref a],[]⟩) (fun r s'=>r= .ok (.ret (.bool true))/\OldK s₁.heap s'.heap/\s'.os=s₁.os/\AllBare s'.gens) s₁:=by
  intro H hO hS bZ hA hK
  have zS: ∀{b:Addr} {o:Obj},s₁.heap.get? b=some o->H b=none->(tN s₁.heap H).get? b=some o:=fun e n=>CT e n
  have OK: ∀{b:Addr} {o:Obj} {es:Array DictEntry} {ep:Nat},s₁.heap.get? b=some o->o.data= .dict es ep->H b=none:=fun {b o es ep} e d=>by
   cases q:H b with
   | none=>rfl
   | some u=>
    have e':b=a:=hA b (by rw[q];simp)
    subst e'
    rw[ha]at e;cases e
    have d':Data.seq vs.toArray _=Data.dict es ep:=d
    cases d'
  have QV: ∀{b:Addr} {m:Str->Option Value},s₁.heap.Ns b m->(tN s₁.heap H).Ns b m:=fun {b m} ⟨o,es,ep,e,d,r⟩=>⟨o,es,ep,zS e (OK e d),d,r⟩
  have UN:K.In (tN s₁.heap H):=fun b o e=>zS (KX b o e) (by
   cases q:H b with
   | none=>rfl
   | some u=>
    have e':b=a:=hA b (by rw[q];simp)
    subst e'
    rw[hK (by rw[q];simp)]at e;cases e)
  have hM:Mod K mg (tN s₁.heap H):=⟨UN,QV QU,⟨mb,QV hb,Wu⟩,let ⟨mc,h1,h2⟩:=SI;⟨mc,QV h1,h2⟩⟩
  have e0:x8 P w K mg (tN s₁.heap H) callerA [] s₁ H:=⟨rfl,hM,fun b o e=>Gz e,Nat.le_of_eq (Bb _ _),trivial,fun b hb=>absurd (show b∈([]:List Addr) from hb) (by simp),bZ, .of_eq hg⟩
  refine codeAny_mono ((F _ UN (QV QU)).run callerA [] s₁ H ⟨[.ref a],[]⟩ [.ref a] [.ref a] _ _ hr e0 (OV s₁ (.ref a)) (.cons rfl .nil) (IQ H hO hS)) fun r s' h=>?_
  cases r with
  | error e=>exact (SJ H e s' h).elim
  | ok fl=>
   cases fl with
   | next=>exact False.elim h
   | brk=>exact False.elim h
   | cont=>exact False.elim h
   | ret u=>
    obtain ⟨v,H',os,bare,un,SM,r',q⟩:=h
    have q':v= .bl true:=q
    subst q'
    obtain rfl:u=Value.bool true:=r'
    refine ⟨rfl,OldK.of_keep fun b o e=>?_,os,bare⟩
    cases q:H b with
    | none=>exact un.keep b o e q (by intro z;exact absurd (show b∈([]:List Addr) from z) (by simp)) (by simp)
    | some u=>
     rcases hO b with z | ⟨ob,xs,z⟩
     ·rw[q]at z;cases z
     ·have z2:=un.o4 b ob _ z
      obtain ⟨e1,_⟩:=bZ b _ z
      obtain ⟨e2,_⟩:=SM b _ z2
      rw[e]at e1;cases e1
      exact e2
 cases hk:K.lookup a with
 | some o=>
  -- FT script is one of FT Dd own objects
  have e:=KX a o hk
  rw[ha]at e
  cases e
  refine core (fun _=>none) (fun _=> .inl rfl) (.inr ⟨_,vs.toArray,_,hk,rfl,rfl,rfl,by rw[YN,SK];exact hl,by simpa using rv⟩) (fun b u z=>by have z':(none:Option HO)=some u:=z;cases z') (fun b z=>absurd rfl z) fun z=>absurd rfl z
 | none=>
  refine core (fun b=>if b=a then some (.FO { cls:= .type "list",data:= .seq vs.toArray } (.lst (ns.map V.int))) else none) (fun b=>?_) (.inl (.inr ⟨{ cls:= .type "list",data:= .seq vs.toArray },if_pos rfl⟩)) (fun b u z=>?_) (fun b z=>?_) fun _=>hk
  ·by_cases hb:b=a
   ·exact .inr ⟨_,_,if_pos hb⟩
   ·exact .inl (if_neg hb)
  ·by_cases hb:b=a
   ·have z':=(if_pos hb).symm.trans z
    cases z'
    subst hb
    exact ⟨ha,by rw[QW];exact hl,vs,_,rv,ha⟩
   ·have z':=(if_neg hb).symm.trans z
    cases z'
  ·by_cases hb:b=a
   ·exact hb
   ·exact absurd (if_neg hb) z
theorem zT {l:PySem.W.OpenLaw} {n k:Nat} {q:Program} {loose:List Str} {XP:(Str->Option Value)->Heap->Prop} {YP:World->Heap->Prop} {d:DefRec} {K:Params->PySem.W.Frag} {CX:World->Bn} {sp:World->Sp} {x:Str}
  (hn:l.most=some n) (vP:n<=sizeLine) (OU:d.params.defaults=[]) (hr:ff k callerA)
  (hY: ∀(w:World) (h:Heap),YP w h->(K w.params).In h)
  (F: ∀(w:World) (mg:Str->Option Value) (fa:Addr) (h:Heap),(K w.params).In h->h.Ns mainGlobals mg->mg d.name=some (.ref fa)->
   ∃fd:FuncData,(∀(s:Shared) (u:Value),BindsTo s fd ⟨[u],[]⟩ [(x,u)])/\
    ∀base:Heap,(K w.params).In base->base.Ns mainGlobals mg->br l.prog w (K w.params) mg base (CX w) k fa fd [x] (sp w))
  (IQ: ∀(w:World) (H:Hp) (a:Addr) (ns:List Int),ns.length<=n->Kp H->ba (K w.params) H a (ns.map V.int)->sp w [.ref a] H (fun v _=>v= .bl true) fun _ _ _=>False)
  (SJ: ∀(w:World) (H:Hp) (s:Shared) (e:Value) (s':Shared),CX w [] H s (fun _ _ _=>False) e s'->False):
  PySem.W.WalkO q loose XP YP l.row.toRowW d [] (fun f vs=>PySem.call f vs):=by
 refine UL.vV hn OU fun w s₀ s₁ mg mb fa o pm cd doc a vs ns G Y ho hd jZ hmg Ko hints hlen hg=>?_
 have KX:=hY w _ Y
 obtain ⟨fd,hb,hF⟩:=F w mg fa _ KX G.T.g hmg
 exact Dg KX G.T.g G.T.b G.T.builtins G.T.nolimit hg Ko hints (ZG hlen vP) hr hF hb (fun H hO hS=>IQ w H a ns hlen hO hS) fun H e s'=>SJ w H s₁ e s'
noncomputable def fI (s:Stmt):Arguments:=match s with
 | .FunctionDef _ a _ _ _ _ _ _ _ _=>a
 | _=>{ posonlyargs:=[],args:=[],vararg:=none,kwonlyargs:=[],kw_defaults:=[],kwarg:=none,defaults:=[] }
noncomputable def eV (s:Stmt):List Stmt:=match s with
 | .FunctionDef _ _ b _ _ _ _ _ _ _=>b
 | _=>[]
noncomputable def aq (s:Stmt):Scope:=match s with
 | .FunctionDef _ _ _ _ _ _ sc _ _ _=>sc
 | _=>{ kind:= .function,names:=[],isGenerator:=false,isCoroutine:=false }
abbrev eG:Bn:=fun _ _ _ _ _ _=>False
abbrev E0:XK:=fun _ _ _=>False
theorem ay {X:Cx}:Passes eG X E0:=fun _ _ _ _ _ _ _ h=>h.elim
structure GR (K:PySem.W.Frag) (x qual:Str) (st:Stmt) (f:Addr) (fd:FuncData):Prop where
 ex: ∃(oc:Value) (od:Option Addr) (kV doc pm:Value) (an:Option Addr) (cu ct:Value) (FV:Array (Option Value)),
  fd=PySem.W.fnOf x qual (fI st) (eV st) (aq st) .none kV doc pm an cu ct/\K.lookup f=some ⟨oc,od, .func fd,FV⟩/\PySem.W.codeIn K cu qual=true
 kp:PySem.W.keepIn K (.ref f)=true
section
variable {P:Program} {w:World} {K:PySem.W.Frag} {mg:Str->Option Value} {base:Heap}
theorem GR.ok {x qual:Str} {st:Stmt} {f:Addr} {fd:FuncData} {N ps:List Str} {k:Nat} {sp:Sp} (F:GR K x qual st f fd) (S:aD N ps (aq st)) (len: ∀vs H Q E,sp vs H Q E->vs.length=ps.length)
  (C9: ∀(cu:Value) (A:Around) (outer:List Env) (s:Shared) (H:Hp) (vs:List V) (Q:VK) (E:XK),ff k (A.deeper (envOfC qual (aq st) s.heap.objs.size f cu))->sp vs H Q E->
   ∃t,xU (Bo eG P w K mg base N qual (aq st) f cu A outer s H E).QO (eV st) t/\t { nx:=fun _ H'=>Q .fH H',rt:=Q } (start N vs) H):br P w K mg base eG (k+1) f fd ps sp:=by
 obtain ⟨oc,od,kV,doc,pm,an,cu,ct,FV,rfl,lk,jZ⟩:=F.ex
 refine OL lk jZ S len fun A outer s H vs Q E hr IQ=>?_
 obtain ⟨t,h,q⟩:=C9 cu A outer s H vs Q E hr IQ
 exact ⟨t,h.QO,q⟩
theorem GR.binds {x qual:Str} {st:Stmt} {f:Addr} {fd:FuncData} {ps:List Str} (F:GR K x qual st f fd)
  (h: ∀(kV doc pm:Value) (an:Option Addr) (cu ct:Value) (us:List Value),us.length=ps.length->bindArgs (PySem.W.fnOf x qual (fI st) (eV st) (aq st) .none kV doc pm an cu ct) ⟨us,[]⟩=pure (ps.zip us)):Binds K fd ps []:=by
 obtain ⟨oc,od,kV,doc,pm,an,cu,ct,FV,rfl,lk,jZ⟩:=F.ex
 exact .all (h kV doc pm an cu ct)
theorem yl {x qual:Str} {st:Stmt} {f:Addr} {oc:Value} {od an:Option Addr} {FV:Array (Option Value)} {kV doc pm cu ct:Value} (l:K.lookup f=some ⟨oc,od, .func (PySem.W.fnOf x qual (fI st) (eV st) (aq st) .none kV doc pm an cu ct),FV⟩)
  (c:PySem.W.codeIn K cu qual=true) (k:PySem.W.keepIn K (.ref f)=true):GR K x qual st f (PySem.W.fnOf x qual (fI st) (eV st) (aq st) .none kV doc pm an cu ct):=⟨⟨oc,od,kV,doc,pm,an,cu,ct,FV,rfl,l,c⟩,k⟩
end
theorem pb {A:Around} {k:Nat} (hr:ff k A):A.units+1<cLine:=ZI (Nat.add_le_add_left (by decide:1<=64) _) hr.units
section
variable {X:Cx}
theorem pv (i:Nat) {x:Str} {pos:Pos} (hN:X.N[i]? =some x:=by rfl) (hv:Ob X.env.scope x:=by first | exact Or.inl rfl | exact Or.inr (Or.inl rfl) | exact Or.inr (Or.inr rfl)) (hd:(x==("__debug__":Str))=false:=by decide)
  (jZ:(x==("__classdict__":Str))=false:=by decide):PE X (.Name x pos) (JQ i):=JR hN hv hd jZ
end
theorem Bv {A B:Prop} (h:B):if false=true then A else B:=by
 rw[if_neg Zn]
 exact h
theorem OW {A B:Prop} (h:A):if true=true then A else B:=by
 rw[if_pos rfl]
 exact h
theorem bJ {c A B:Prop} [Decidable c] (h1:c->A) (h2: ¬c->B):if c then A else B:=by
 by_cases h:c
 ·rw[if_pos h]
  exact h1 h
 ·rw[if_neg h]
  exact h2 h
def ak (H H':Hp):Prop:= ∀b o,H b=some o->H' b=some o
theorem ak.refl (H:Hp):ak H H:=fun _ _ h=>h
theorem ak.trans {H H1 H2:Hp} (a:ak H H1) (b:ak H1 H2):ak H H2:=fun c o h=>b c o (a c o h)
theorem ak.free {H H':Hp} (e:ak H H') {l:Addr} (h:H' l=Option.none):H l=Option.none:=by
 cases q:H l with
 | none=>rfl
 | some o=>
  rw[e l o q]at h
  cases h
theorem ak.seq {K:PySem.W.Frag} {H H':Hp} {a:Addr} {xs:List V} (e:ak H H') (h:ba K H a xs):ba K H' a xs:=by
 rcases h with (h | ⟨o,h⟩) | h
 ·exact .inl (.inl (e _ _ h))
 ·exact .inl (.inr ⟨o,e _ _ h⟩)
 ·exact .inr h
noncomputable def iS (env:Env):List (Str×NameKind)->List (Str×Addr)->List (Str×Addr)
 | [],acc=>acc
 |(n,k)::r,acc=>iS env r (if k== .free then (match env.cells.lookup n with | some a=>(n,a)::acc | none=>acc) else acc)
theorem fu {env:Env}: ∀(names:List (Str×NameKind)) (acc:List (Str×Addr)),(∀y∈names,y.2= .free-> ∃c,env.cells.lookup y.1=some c)->
  (forIn names acc fun (x:Str×NameKind) (cs:List (Str×Addr))=>(if (x.2==NameKind.free)=true then do let a <-cellOf env x.1;pure (ForInStep.yield ((x.1,a)::cs)) else pure (ForInStep.yield cs):Sem (ForInStep (List (Str×Addr)))))=pure (iS env names acc)
 | [],acc,_=>rfl
 |(n,k)::r,acc,h=>by
  rw[Qa5]
  have hr: ∀y∈r,y.2= .free-> ∃c,env.cells.lookup y.1=some c:=fun y hy=>h y (YQ _ hy)
  cases hk:(k==NameKind.free) with
  | false=>
   have e1:iS env ((n,k)::r) acc=iS env r acc:=by
    show iS env r (if (k==NameKind.free)=true then (match env.cells.lookup n with | some a=>(n,a)::acc | none=>acc) else acc)=_
    rw[hk,if_neg Zn]
   rw[e1, <-fu r acc hr]
   simp only[hk,Qa3,if_false,pure_bind]
  | true=>
   obtain ⟨c,hc⟩:=h (n,k) YO (by simpa using hk)
   have e1:iS env ((n,k)::r) acc=iS env r ((n,c)::acc):=by
    have oE:env.cells.lookup n=some c:=hc
    show iS env r (if (k==NameKind.free)=true then (match env.cells.lookup n with | some a=>(n,a)::acc | none=>acc) else acc)=_
    rw[hk,oE,if_pos rfl]
   have e2:cellOf env n=pure c:=by
    have oE:env.cells.lookup n=some c:=hc
    unfold cellOf
    rw[oE]
   rw[e1, <-fu r ((n,c)::acc) hr]
   simp only[hk,if_true,e2,pure_bind]
theorem j_ {scope:Scope} {env:Env} (h: ∀y∈scope.names,y.2= .free-> ∃c,env.cells.lookup y.1=some c):closureFor scope env=pure (iS env scope.names []):=by
 have e:=fu scope.names [] h
 simp only[closureFor]
 rw[e]
 rfl
theorem mD {env:Env} {x:Str} {c:Addr}: ∀(names:List (Str×NameKind)) (acc:List (Str×Addr)),(∀y d,acc.lookup y=some d->env.cells.lookup y=some d)->(iS env names acc).lookup x=some c->env.cells.lookup x=some c
 | [],acc,ha,h=>ha x c h
 |(n,k)::r,acc,ha,h=>by
  refine mD r _ (fun y d q=>?_) h
  by_cases hk:(k==NameKind.free)=true
  ·rw[if_pos hk]at q
   cases e:env.cells.lookup n with
   | none=>rw[e]at q;exact ha y d q
   | some a=>
    rw[e]at q
    have q':List.lookup y ((n,a)::acc)=some d:=q
    rw[ZQ]at q'
    cases hy:(y==n) with
    | true=>
     rw[hy]at q'
     have:y=n:=by simpa using hy
     subst this
     rw[e];exact q'
    | false=>rw[hy]at q';exact ha y d q'
  ·rw[if_neg hk]at q;exact ha y d q
theorem vW {env:Env} {x:Str}: ∀(names:List (Str×NameKind)) (acc:List (Str×Addr)),(∃c,acc.lookup x=some c)-> ∃c,(iS env names acc).lookup x=some c
 | [],acc,h=>h
 |(n,k)::r,acc,⟨c,hc⟩=>by
  refine vW r _ ?_
  by_cases hk:(k==NameKind.free)=true
  ·rw[if_pos hk]
   cases e:env.cells.lookup n with
   | none=>exact ⟨c,hc⟩
   | some a=>
    show ∃c,List.lookup x ((n,a)::acc)=some c
    rw[ZQ]
    cases hy:(x==n) with
    | true=>exact ⟨a,rfl⟩
    | false=>exact ⟨c,hc⟩
  ·rw[if_neg hk];exact ⟨c,hc⟩
theorem ph {env:Env} {x:Str}: ∀(names:List (Str×NameKind)) (acc:List (Str×Addr)),(∀y∈names,y.2= .free-> ∃c,env.cells.lookup y.1=some c)->names.lookup x=some .free-> ∃c,(iS env names acc).lookup x=some c
 | [],acc,_,h=>by simp at h
 |(n,k)::r,acc,hf,h=>by
  have hr: ∀y∈r,y.2= .free-> ∃c,env.cells.lookup y.1=some c:=fun y hy=>hf y (YQ _ hy)
  rw[ZQ]at h
  cases hy:(x==n) with
  | true=>
   rw[hy]at h
   have hk:k= .free:=Zc h
   subst hk
   have hx:x=n:=by simpa using hy
   subst hx
   obtain ⟨c,hc⟩:=hf (x, .free) YO rfl
   have oE:env.cells.lookup x=some c:=hc
   refine vW r _ ⟨c,?_⟩
   rw[if_pos (show (NameKind.free==NameKind.free)=true by decide),oE]
   show List.lookup x ((x,c)::acc)=some c
   rw[ZQ]
   simp
  | false=>
   rw[hy]at h
   exact ph r _ hr h
theorem kZ {env:Env}: ∀{names:List (Str×NameKind)} {x:Str},names.lookup x=some .free->
  ((names.map fun (n,k)=>if (k==NameKind.free&&env.scope.kind== .function&&env.kindOf n==some .cell) then (n,NameKind.cell) else (n,k)).lookup x=some .cell\/
   (names.map fun (n,k)=>if (k==NameKind.free&&env.scope.kind== .function&&env.kindOf n==some .cell) then (n,NameKind.cell) else (n,k)).lookup x=some .free)
 | [],_,h=>by simp at h
 |(n,k)::r,x,h=>by
  have ih:= @kZ env r x
  show (List.lookup x ((if (k==NameKind.free&&env.scope.kind== .function&&env.kindOf n==some .cell)=true then (n,NameKind.cell) else (n,k))::_)=_\/List.lookup x ((if (k==NameKind.free&&env.scope.kind== .function&&env.kindOf n==some .cell)=true then (n,NameKind.cell) else (n,k))::_)=_)
  cases hx:x==n with
  | true=>
   simp only[ZQ,hx]at h
   cases h
   by_cases hc:((NameKind.free==NameKind.free)&&env.scope.kind== .function&&env.kindOf n==some .cell)=true
   ·rw[if_pos hc];simp[ZQ,hx]
   ·rw[if_neg hc];simp[ZQ,hx]
  | false=>
   simp only[ZQ,hx]at h
   by_cases hc:(k==NameKind.free&&env.scope.kind== .function&&env.kindOf n==some .cell)=true
   ·rw[if_pos hc];simp only[ZQ,hx];exact ih h
   ·rw[if_neg hc];simp only[ZQ,hx];exact ih h
theorem k_ {env:Env}: ∀{names:List (Str×NameKind)} {x:Str},(∀y∈names,y.2≠ .cell)->
  ((names.map fun (n,k)=>if (k==NameKind.free&&env.scope.kind== .function&&env.kindOf n==some .cell) then (n,NameKind.cell) else (n,k)).lookup x=some .cell\/
   (names.map fun (n,k)=>if (k==NameKind.free&&env.scope.kind== .function&&env.kindOf n==some .cell) then (n,NameKind.cell) else (n,k)).lookup x=some .free)->names.lookup x=some .free
 | [],_,_,h=>by simp at h
 |(n,k)::r,x,hn,h=>by
  have ih:= @k_ env r x (fun y hy=>hn y (YQ _ hy))
  have hk:=hn (n,k) YO
  have h':(List.lookup x ((if (k==NameKind.free&&env.scope.kind== .function&&env.kindOf n==some .cell)=true then (n,NameKind.cell) else (n,k))::(r.map fun (n,k)=>if (k==NameKind.free&&env.scope.kind== .function&&env.kindOf n==some .cell) then (n,NameKind.cell) else (n,k)))=some .cell\/List.lookup x ((if (k==NameKind.free&&env.scope.kind== .function&&env.kindOf n==some .cell)=true then (n,NameKind.cell) else (n,k))::(r.map fun (n,k)=>if (k==NameKind.free&&env.scope.kind== .function&&env.kindOf n==some .cell) then (n,NameKind.cell) else (n,k)))=some .free):=h
  cases hx:x==n with
  | true=>
   rw[ZQ,hx]
   by_cases hc:(k==NameKind.free&&env.scope.kind== .function&&env.kindOf n==some .cell)=true
   ·have:(k==NameKind.free)=true:=by
     rw[Z3,Z3]at hc;exact hc.1.1
    have CG:k= .free:=by simpa using this
    rw[CG]
   ·rw[if_neg hc]at h'
    simp only[ZQ,hx]at h'
    rcases h' with h' | h'
    ·exact absurd (Zc h') hk
    ·exact h'
  | false=>
   rw[ZQ,hx]
   by_cases hc:(k==NameKind.free&&env.scope.kind== .function&&env.kindOf n==some .cell)=true
   ·rw[if_pos hc]at h';simp only[ZQ,hx]at h';exact ih h'
   ·rw[if_neg hc]at h';simp only[ZQ,hx]at h';exact ih h'
abbrev FX:Value->Shared->Prop:=fun _ _=>False
theorem tZ {prog:Program} {w:World} {A:Around} {R:Result->Shared->Prop} {s:Shared} {elt target iter:Expr} {ifs:List Expr} {scope:Scope} {pos:Pos} {it acc:Value} {env:Env} (I:Nat->Shared->Prop)
  (turn: ∀n s,I n s->wpAny (model prog w) A (pyNext it) (fun r s₁=>match r with
   | none=>R (.ok .next) s₁
   | some v=>wpAny (model prog w) A (letOwnedTupleGo target it v) (fun _ US=>wpAny (model prog w) A (assign target env v) (fun _ s₂=>
     wpAny (model prog w) A (forIn ifs true fun c r=>if r=true then do let ok <-isTrue c env (eval c env);pure (ForInStep.yield ok) else pure (ForInStep.yield r)) (fun ok s₃=>
      if ok=true then wpAny (model prog w) A (eval elt env) (fun x s₄=>
       wpAny (model prog w) A (call (.builtin "list.append") [acc,x]) (fun _ s₅=> ∃m,m<n/\I m s₅) FX s₄) FX s₃
      else ∃m,m<n/\I m s₃) FX s₂) FX US) FX s₁) FX s)
  (n:Nat) (h:I n s):codeAny (model prog w) A (.compLoop (.ListComp elt [⟨target,iter,ifs,0⟩] scope pos) 0 it acc env) R s:=by
 refine codeAny_loop rfl I (fun n s hI=>?_) n h
 show wpAny _ A ((compTurn (.ListComp elt [⟨target,iter,ifs,0⟩] scope pos) 0 it acc env).onRaise (fun x=>do noteFrame x env;theTreesLotGoes x)) _ _ s
 refine wpAny_noted ?_
 rw[compTurn_list]
 have no: ∀{F:Value->Shared->Prop} (e:Value) (s':Shared),FX e s'->F e s':=fun _ _ h=>h.elim
 refine wpAny_bind (wpAny_standAt (wpAny_bind (wpAny_mono (turn n s hI) (fun r s₁ h₁=>?_) no)))
 cases r with
 | none=>exact wpAny_pure h₁
 | some v=>
  refine wpAny_bind (wpAny_mono h₁ (fun _ US WA=>?_) no)
  refine wpAny_bind (wpAny_mono WA (fun _ s₂ h₂=>wpAny_bind (wpAny_mono h₂ (fun ok s₃ h₃=>?_) no)) no)
  cases ok with
  | false=>exact wpAny_pure ⟨rfl,h₃⟩
  | true=>
   exact wpAny_bind (wpAny_bind (wpAny_mono h₃ (fun x s₄ h₄=>wpAny_bind (wpAny_mono h₄ (fun _ s₅ h₅=>wpAny_pure (wpAny_pure ⟨rfl,h₅⟩)) no)) no))
noncomputable def bR (X:Cx) (scope:Scope) (C:Addr) (Nc:List Str) (s:Shared) (H:Hp) (fp:List Addr):Cx where
 prog:=X.prog
 w:=X.w
 K:=X.K
 mg:=X.mg
 base:=X.base
 A:=X.A
 N:=Nc
 s₀:=s
 H₀:=H
 env:=compEnvC scope (iS X.env scope.names []) C X.env
 outer:=X.stack
 stack:=X.stack
 ex:=fp
 fn:=fun _=>false
 calm:=X.calm
 pn:=[]
 xe:=FX
def j0 (X:Cx) (scope:Scope):List Str->List (Option Nat)->Prop
 | [],[]=>True
 | _::ys,none::os=>j0 X scope ys os
 | y::ys,some j::os=>(X.N[j]? =some y/\scope.names.lookup y=some .free/\(X.env.kindOf y=some .cell\/X.env.kindOf y=some .free))/\j0 X scope ys os
 | _,_=>False
noncomputable def lh (σ:St) (ix:List (Option Nat)):St:=ix.map fun o=>match o with | none=>none | some j=>(σ[j]?).getD none
def Wk:St->St->Prop
 | [],[]=>True
 | none::a,_::b=>Wk a b
 | some v::a,w::b=>w=some v/\Wk a b
 | _,_=>False
theorem Wk.len: ∀{a b:St},Wk a b->a.length=b.length
 | [],[],_=>rfl
 | none::a,_::b,h=>congrArg (· +1) (Wk.len (a:=a) (b:=b) h)
 | some _::a,_::b,h=>congrArg (· +1) (Wk.len (a:=a) (b:=b) h.2)
theorem Wk.get: ∀{a b:St} {i:Nat} {v:V},Wk a b->a[i]? =some (some v)->b[i]? =some (some v)
 | [],[],i,v,_,h=>by simp at h
 | none::a,x::b,0,v,_,h=>by simp at h
 | none::a,x::b,i+1,v,k,h=>by
  have:=Wk.get (a:=a) (b:=b) (i:=i) (v:=v) k (by simpa using h)
  simpa using this
 | some y::a,x::b,0,v,k,h=>by
  have e:y=v:=by simpa using h
  subst e
  simp[k.1]
 | some y::a,x::b,i+1,v,k,h=>by
  have:=Wk.get (a:=a) (b:=b) (i:=i) (v:=v) k.2 (by simpa using h)
  simpa using this
theorem j0.len {X:Cx} {scope:Scope}: ∀{N:List Str} {ix:List (Option Nat)},j0 X scope N ix->ix.length=N.length
 | [],[],_=>rfl
 | _::ys,none::os,h=>congrArg (· +1) (j0.len (N:=ys) (ix:=os) h)
 | _::ys,some _::os,h=>congrArg (· +1) (j0.len (N:=ys) (ix:=os) h.2)
theorem j0.get {X:Cx} {scope:Scope}: ∀{N:List Str} {ix:List (Option Nat)} {i j:Nat},j0 X scope N ix->ix[i]? =some (some j)-> ∃y,N[i]? =some y/\X.N[j]? =some y/\scope.names.lookup y=some .free/\(X.env.kindOf y=some .cell\/X.env.kindOf y=some .free)
 | [],[],i,j,_,h=>by simp at h
 | y::ys,none::os,0,j,_,h=>by simp at h
 | y::ys,none::os,i+1,j,k,h=>by
  obtain ⟨z,h1,h2⟩:=j0.get (N:=ys) (ix:=os) (i:=i) (j:=j) k (by simpa using h)
  exact ⟨z,by simpa using h1,h2⟩
 | y::ys,some j'::os,0,j,k,h=>by
  have e:j'=j:=by simpa using h
  subst e
  exact ⟨y,by simp,k.1⟩
 | y::ys,some j'::os,i+1,j,k,h=>by
  obtain ⟨z,h1,h2⟩:=j0.get (N:=ys) (ix:=os) (i:=i) (j:=j) k.2 (by simpa using h)
  exact ⟨z,by simpa using h1,h2⟩
theorem Bw {σ:St} {ix:List (Option Nat)} {i:Nat} {v:V} (h:(lh σ ix)[i]? =some (some v)): ∃j,ix[i]? =some (some j)/\σ[j]? =some (some v):=by
 unfold lh at h
 rw[Zk]at h
 cases e:ix[i]? with
 | none=>rw[e]at h;cases h
 | some o=>
  rw[e]at h
  cases o with
  | none=>cases h
  | some j=>
   refine ⟨j,rfl,?_⟩
   have h':some ((σ[j]?).getD none)=some (some v):=h
   cases q:σ[j]? with
   | none=>rw[q]at h';cases h'
   | some z=>rw[q]at h';cases h';rfl
theorem ym {X:Cx} {pins:List (Addr×Obj)} {σ:St} {H:Hp} {s:Shared} (I:Inv X pins σ H s) {scope:Scope} {Nc:List Str} {ix:List (Option Nat)} (yn:j0 X scope Nc ix) (gH: ∀y∈scope.names,y.2≠ .cell)
  (iG:scope.kind= .function) (GS: ∀y∈scope.names,y.2= .free->X.env.kindOf y.1=some .cell\/X.env.kindOf y.1=some .free) {fp:List Addr} (hf: ∀b∈fp,nR X pins H b) (OX: ∀b∈fp, ∃o,s.heap.get? b=some o)
  {C:Addr} {h':Heap} {t':Nat} {m0:Str->Option Value} (hC:s.heap.objs.size<=C) (QU:h'.Ns C m0) (k: ∀b o,s.heap.get? b=some o->h'.get? b=some o):
  Inv (bR X scope C Nc s H fp) [] (lh σ ix) H { s with heap:=h',toks:=t' }:=by
 have Ms: ∀y∈scope.names,y.2= .free-> ∃c,X.env.cells.lookup y.1=some c:=fun y hy e=>I.ok.has y.1 (GS y hy e)
 have lj: ∀{x:Str} {c:Addr},(iS X.env scope.names []).lookup x=some c->X.env.cells.lookup x=some c:=fun {x c} e=>mD scope.names [] (fun y d q=>by simp at q) e
 refine ⟨⟨I.ok.mod,iG,I.ok.glob,I.ok.blt,hC,fun x y c h1 h2=>I.ok.inj x y c (lj h1) (lj h2),fun x hx=>?_,fun x c h=>?_,I.ok.hd,I.ok.frames, .inl rfl,fun b hb=>?_,I.bs,ZG I.ok.GA I.sz,fun b o e hb=>?_,fun b hb hs=>?_,I.stack,I.zH⟩,
  rfl,I.bare,Un.kept k,⟨m0,QU,fun i x v h1 h2 h3=>?_⟩,fun x c e=>?_,I.bZ.fresh hC,fun x c e=>I.iV x c (lj e),fun p hp=>absurd (show p∈([]:List (Addr×Obj)) from hp) (by simp),I.bZ.kept k,?_⟩
 ·have IS:scope.names.lookup x=some .free:=k_ gH hx
  exact ph scope.names [] Ms IS
 ·exact absurd (show false=true from h) (by decide)
 ·refine ⟨?_,fun x c e=>(hf b hb).2.2.2.2.1 x c (lj e)⟩
  obtain ⟨o,ho⟩:=OX b hb
  exact Zp (Zt (Zj ho) hC)
 ·rcases (hf b hb).2.2.2.1 with z | z
  ·exact I.ok.CU b o e z
  ·exact absurd (Zt (Zj e) (ZG I.ok.GA z)) (ZW _)
 ·rcases Wz.mp (I.o5 b hs) with z | z
  ·exact (hf b hb).2.1 z
  ·exact (hf b hb).2.2.1 z
 ·obtain ⟨j,e1,e2⟩:=Bw h2
  obtain ⟨y,y1,y2,y3,y4⟩:=yn.get e1
  have UT:Nc[i]? =some x:=h1
  rw[y1]at UT
  cases UT
  obtain ⟨m,hn,hl⟩:=I.loc
  have hv:Ob X.env.scope x:=by
   rcases y4 with z | z
   ·exact .inr (.inl z)
   ·exact .inr (.inr z)
  obtain ⟨u,r,l⟩:=hl j x v y2 e2 hv
  refine ⟨u,r, .inr ⟨kZ y3,?_⟩⟩
  rcases l with ⟨l,_⟩ | ⟨_,c,hc,q⟩
  ·rcases y4 with z | z
   ·rw[z]at l;cases l
   ·rw[z]at l;cases l
  ·obtain ⟨c',oE⟩:=ph scope.names [] Ms y3
   have e:=lj oE
   rw[hc]at e
   cases e
   obtain ⟨o,ho,hd⟩:=q
   exact ⟨c,oE,o,k _ _ ho,hd⟩
 ·obtain ⟨v,o,ho,hd⟩:=I.cell x c (lj e)
  exact ⟨v,o,k _ _ ho,hd⟩
 ·show (lh σ ix).length=Nc.length
  unfold lh
  rw[QW]
  exact yn.len
theorem Bx {X:Cx} {pins zI:List (Addr×Obj)} {σ σ':St} {H H':Hp} {s s':Shared} (I:Inv X pins σ H s) {scope:Scope} {Nc:List Str} {fp:List Addr} {C D:Addr} (J:Inv (bR X scope C Nc s H fp) zI σ' H' s')
  (hf: ∀b∈fp,nR X pins H b) (hD:s.heap.objs.size<=D) (hC:s.heap.objs.size<=C) (Ks:D≠C) {aJ:List Value} {n:Nat} {acc:List V} (eD:s'.heap.get? D=some { cls:= .type "list",data:= .seq aJ.toArray n }) (r:Vals acc aJ)
  (hz:acc.length<=sizeLine) (nD:H' D=none) {oC:Obj} (eC:s'.heap.get? C=some oC) (dC: ∀v,oC.data≠ .cell v):Inv X (pins++[(C,oC)]) σ (upd H' D (.lst acc)) s':=by
 have lt: ∀b o,s.heap.get? b=some o->b≠D:=fun b o e=>Zp (Zt (Zj e) hD)
 have U:Un (zG X.stack) fp H H' s.heap s'.heap:=J.base
 have U':Un (zG X.stack) fp H (upd H' D (.lst acc)) s.heap s'.heap:=
  ⟨U.keep,U.slot,fun b o e n hx=>by rw[ar (lt b o e)];exact U.free b o e n hx,U.there,fun b xs e=>by rw[ar (au (U.q9 b xs e) nD)];exact U.q9 b xs e,
   fun b o u e=>by rw[ar (au (U.o4 b o u e) nD)];exact U.o4 b o u e,fun b ps e=>by
    obtain ⟨more,q⟩:=U.tM b ps e
    exact ⟨more,by rw[ar (au q nD)];exact q⟩⟩
 have bZ:kC X.prog X.w (upd H' D (.lst acc)) s'.heap:=fun b u e=>by
  by_cases hb:b=D
  ·subst hb
   rw[ag]at e;cases e
   exact ⟨hz,aJ,n,r,eD⟩
  ·rw[ar hb]at e
   exact (J.bZ b u e).vG (fun c v _ q=>q) (fun c q=>by rw[ar (au q nD)];exact q) fun c xs q=>by rw[ar (au q nD)];exact q
 have I':Inv X pins σ (upd H' D (.lst acc)) s':=I.Og (ch:=fp) J.os U' bZ J.bare fun b hb=>by
  obtain ⟨_,h1,_,h2,h3,h4⟩:=hf b hb
  exact ⟨h2,h1,h3,h4⟩
 refine I'.kT fun p hp=>?_
 rcases Zh.mp hp with z | z
 ·exact I'.pin p (Zo _ z)
 ·have e:p=(C,oC):=Wv.mp z
  subst e
  refine ⟨eC,?_,Qbd (Zt I.lt hC),I.JL hC,dC⟩
  rw[ar (Ne.symm Ks)]
  exact J.free
def PF (Y:Cx) (ifs:List Expr) (tc:TT):Prop:=
 ∀(pins:List (Addr×Obj)) (s:Shared) (σ:St) (H:Hp) (Q:Bool->Hp->Prop),Inv Y pins σ H s->tc σ H Q->
  wpAny (model Y.prog Y.w) Y.A (forIn ifs true fun c r=>if r=true then do let ok <-isTrue c Y.env (eval c Y.env);pure (ForInStep.yield ok) else pure (ForInStep.yield r)) (TP Y pins σ Q) Y.xe s
def OY:TT:=fun _ H Q=>Q true H
theorem fz {Y:Cx}:PF Y [] OY:=fun _ _ _ H _ I h=>wpAny_tests_nil ⟨H,I,h⟩
theorem pj {Y:Cx} {c:Expr} {tc:TT} (h:PT Y c tc):PF Y [c] tc:=fun pins s σ H Q I hw=>wpAny_tests_one (h pins s σ H Q I hw)
def nE (J:It) (σc:St) (g:TG) (tc:TT) (te:TE) (Q:VK) (H1:Hp):Prop:=
 ∃W:Nat->Nat->List V->Hp->Prop,(∃m,W 0 m [] H1)/\ ∀i m acc H,W i m acc H->acc.length<sizeLine/\
 ((J.stop i H/\ ∀D,H D=none->Q (.ref D) (upd H D (.lst acc)))\/
  (J.go i H/\ ∀x H',J.CD i H x H'->g x σc H' fun σ2 H2=>Wk σc σ2/\tc σ2 H2 fun b H3=>if b=true then te σ2 H3 fun v H4=> ∃m',m'<m/\W (i+1) m' (acc++[v]) H4 else ∃m',m'<m/\W (i+1) m' acc H3))
def vX (wi:TI) (ix:List (Option Nat)) (g:TG) (tc:TT) (te:TE):TE:=fun σ H Q=>wi σ H fun J H1=>nE J (lh σ ix) g tc te Q H1
theorem rX {X:Cx} {tg iter elt:Expr} {ifs:List Expr} {scope:Scope} {pos:Pos} {wi:TI} {g:TG} {tc:TT} {te:TE} {Nc:List Str} {ix:List (Option Nat)} (hi:PI X tg iter wi) (ka:X.calm=true) (yn:j0 X scope Nc ix)
  (gH: ∀y∈scope.names,y.2≠ .cell) (iG:scope.kind= .function) (GS: ∀y∈scope.names,y.2= .free->X.env.kindOf y.1=some .cell\/X.env.kindOf y.1=some .free)
  (hG: ∀C s H fp,PG (bR X scope C Nc s H fp) tg g) (hT: ∀C s H fp,PF (bR X scope C Nc s H fp) ifs tc) (hE: ∀C s H fp,PE (bR X scope C Nc s H fp) elt te)
  {pins:List (Addr×Obj)} {s:Shared} {σ:St} {H:Hp} {Q:VK} (I:Inv X pins σ H s) (h:vX wi ix g tc te σ H Q) {RR:Value->Addr->Result->Shared->Prop}
  (WB: ∀(D C:Addr) (oC:Obj) (m:Str->Option Value) (H':Hp) (s':Shared),s'.heap.get? C=some oC->s'.heap.Ns C m->nR X pins H' C->Inv X (pins++[(C,oC)]) σ H' s'->Q (.ref D) H'->RR (.ref D) C (.ok .next) s'):
  wpAny (model X.prog X.w) X.A (eval iter X.env) (fun v s1=>wpAny (model X.prog X.w) X.A (pyIter v) (fun it s2=>wpAny (model X.prog X.w) X.A (newList []) (fun acc s3=>
   wpAny (model X.prog X.w) X.A (newFunctionEnv scope X.env.globals (iS X.env scope.names []) [] X.env.qual none .none (some X.env)) (fun OZ s4=>
    codeAny (model X.prog X.w) X.A (.compStart (.ListComp elt [⟨tg,iter,ifs,0⟩] scope pos) 0 it acc { OZ with scope:=relabel scope X.env }) (RR acc OZ.locals) s4) X.xe s3) X.xe s2) X.xe s1) X.xe s:=by
 refine cg (hi pins s σ H _ I h) fun v s1 h1=>cg h1 fun Sg s2 h2=>?_
 obtain ⟨it,fp,tn,J,H2,e,I2,T,vw,f2,W,⟨m0,w0⟩,turn⟩:=h2
 subst e
 refine wpAny_newObj_type (wpAny_newFunctionEnv gH (by intro y hy;simp at hy) (fun h₁ Kt GU=>?_) iG)
 dsimp only at Kt GU ⊢
 generalize IU:s2.heap.push { cls:= .type "list",dict:=none,data:= .seq ([]:List Value).toArray }=P2 at Kt GU ⊢
 have hC:P2.objs.size=s2.heap.objs.size+1:=by rw[<-IU,Qal]
 have Ks:s2.heap.objs.size≠P2.objs.size:=by rw[hC];exact Zp (Qad _)
 have Ku:s2.heap.objs.size<=P2.objs.size:=by rw[hC];exact Qa0 _
 have JN: ∀b,b<s2.heap.objs.size->b≠P2.objs.size:=fun b hb=>by rw[hC];exact Zp (Qav hb)
 have old: ∀b o,s2.heap.get? b=some o->h₁.get? b=some o:=fun b o e=>GU.extBut b o (JN b (Zj e)) (Mr _ (IU▸Mr _ e))
 have yo:h₁.get? s2.heap.objs.size=some { cls:= .type "list",data:= .seq ([]:List Value).toArray }:=GU.extBut _ _ Ks (Mr _ (IU▸Ze _ rfl))
 have UU:tn 0 h₁:=T.keep 0 _ _ vw fun b _ o e=>old b o e
 have OX: ∀b∈fp, ∃o,s2.heap.get? b=some o:=fun b hb=>let ⟨o,e,_⟩:=T.obj 0 _ vw b hb;⟨o,e⟩
 have UW: ∀b∈fp,s2.heap.objs.size≠b:=fun b hb=>let ⟨o,e⟩:=OX b hb;Qbd (Zj e)
 have IY:=ym I2 yn gH iG GS f2 OX (t':=s2.toks+([]:List (Str×Value)).length) Ku Kt old
 have SN: ∀b,s2.heap.objs.size<=b->b∉zG X.stack:=fun b hb hs=>by
  rcases Wz.mp (I2.o5 b hs) with z | z
  ·exact absurd (Zt I2.lt hb) (by rw[z];exact ZW _)
  ·exact I2.JL hb z
 have lj: ∀{x:Str} {c:Addr},(iS X.env scope.names []).lookup x=some c->X.env.cells.lookup x=some c:=fun {x c} e=>mD scope.names [] (fun y d q=>by simp at q) e
 have O0: ∀x c,(iS X.env scope.names []).lookup x=some c->c≠s2.heap.objs.size:=fun x c e z=>by
  obtain ⟨v,q⟩:=I2.cell x c (lj e)
  exact absurd (q.lt) (by rw[z];exact ZW _)
 have fY: ∀{pl:List (Addr×Obj)} {H':Hp},(∀p∈pl,p.1=s2.heap.objs.size)->(∀b∈fp,H' b=none)-> ∀b∈fp,nR (bR X scope P2.objs.size Nc s2 H2 fp) pl H' b:=fun {pl H'} iQ hn b hb=>by
  refine ⟨hn b hb,?_,?_, .inl hb,fun x c e=>(f2 b hb).2.2.2.2.1 x c (lj e),fun p hp=>?_⟩
  ·obtain ⟨o,e⟩:=OX b hb
   exact JN b (Zj e)
  ·intro hs
   rcases Wz.mp (I2.o5 b hs) with z | z
   ·exact (f2 b hb).2.1 z
   ·exact (f2 b hb).2.2.1 z
  ·rw[iQ p hp]
   exact UW b hb
 have loop: ∀s₃:Shared,s₃={ s2 with heap:=h₁,toks:=s2.toks+([]:List (Str×Value)).length }->
   codeAny (model X.prog X.w) X.A (.compLoop (.ListComp elt [⟨tg,iter,ifs,0⟩] scope pos) 0 (.ref it) (.ref s2.heap.objs.size) (compEnvC scope (iS X.env scope.names []) P2.objs.size X.env)) (RR (.ref s2.heap.objs.size) P2.objs.size) s₃:=by
  rintro s₃ rfl
  refine tZ (fun n s'=> ∃i acc aJ nn H',Inv (bR X scope P2.objs.size Nc s2 H2 fp) [] (lh σ ix) H' s'/\tn i s'.heap/\(∀b∈fp,H' b=none)/\
   s'.heap.get? s2.heap.objs.size=some { cls:= .type "list",data:= .seq (aJ:List Value).toArray nn }/\Vals acc aJ/\H' s2.heap.objs.size=none/\W i n acc H') ?_ m0
   ⟨0,[],[],0,H2,IY,UU,fun b hb=>(f2 b hb).1,yo, .nil,I2.bZ.fresh (UP _),w0⟩
  rintro n s3 ⟨i,acc,aJ,nn,H3,I3,Ow,Ox,eD,rv,nD,w3⟩
  obtain ⟨hz,alt⟩:=turn i n acc H3 w3
  have IP:Inv (bR X scope P2.objs.size Nc s2 H2 fp) [(s2.heap.objs.size,{ cls:= .type "list",data:= .seq aJ.toArray nn })] (lh σ ix) H3 s3:=I3.kT fun p hp=>by
   have e:p=(s2.heap.objs.size,_):=Wv.mp hp
   subst e
   refine ⟨eD,nD,Ks,SN _ (UP _),fun v z=>?_⟩
   have z':Data.seq aJ.toArray nn=Data.cell v:=z
   cases z'
  have iQ: ∀p∈[(s2.heap.objs.size,({ cls:= .type "list",data:= .seq aJ.toArray nn }:Obj))],p.1=s2.heap.objs.size:=fun p hp=>by
   have e:p=(s2.heap.objs.size,_):=Wv.mp hp
   rw[e]
  rcases alt with ⟨stop,fin⟩ | ⟨go,step⟩
  ·refine cg (T.done (bR X scope P2.objs.size Nc s2 H2 fp) rfl rfl rfl ka i _ s3 _ H3 FX IP (fY iQ Ox) Ow stop) fun r s4 zz=>?_
   obtain ⟨hr,I4⟩:=zz
   subst hr
   obtain ⟨m,hn,_⟩:=id I4.loc
   obtain ⟨oC,es,ep,eC,dC,_⟩:=id hn
   have WC:=(I4.pin (s2.heap.objs.size,_) (Zo _ (Wv.mpr rfl))).1
   have SO:=fin _ nD
   refine WB _ _ oC m _ s4 eC hn ?_ (Bx I2 I4 f2 (UP _) Ku Ks WC rv (ZP hz) nD eC fun v z=>?_) SO
   ·refine I2.o6 Ku ?_
    rw[ar (Ne.symm Ks)]
    exact I4.free
   ·rw[dC]at z;cases z
  ·refine cg (T.item (bR X scope P2.objs.size Nc s2 H2 fp) rfl rfl rfl ka i _ s3 _ H3 FX IP (fY iQ Ox) Ow go) fun r s4 zz=>?_
   obtain ⟨u,hr,h4⟩:=zz
   subst hr
   refine cg h4 fun _ s5 zz=>?_
   obtain ⟨x,H5,I5,r5,y5,J3,Sj⟩:=zz
   have Sk:=I5.pinned (fY iQ Sj) (T.obj _ _ J3)
   refine cg (hG _ s2 H2 fp _ s5 _ H5 x u _ Sk r5 (step x H5 y5)) fun _ s6 zz=>?_
   obtain ⟨σ6,H6,I6,wk,q6⟩:=zz
   refine cg (hT _ s2 H2 fp _ s6 σ6 H6 _ I6 q6) fun b s7 zz=>?_
   obtain ⟨H7,I7,q7⟩:=zz
   have again: ∀{H9:Hp} {s9:Shared} {m':Nat},Inv (bR X scope P2.objs.size Nc s2 H2 fp) ([(s2.heap.objs.size,({ cls:= .type "list",data:= .seq aJ.toArray nn }:Obj))]++o7 fp s5.heap) σ6 H9 s9->
     (s9.heap.get? s2.heap.objs.size=some { cls:= .type "list",data:= .seq aJ.toArray nn }/\H9 s2.heap.objs.size=none)/\tn (i+1) s9.heap/\(∀b∈fp,H9 b=none)/\Inv (bR X scope P2.objs.size Nc s2 H2 fp) [] (lh σ ix) H9 s9:=fun {H9 s9 m'} I9=>by
    have pD:=I9.pin (s2.heap.objs.size,_) (Zo _ (Qbc _ (Wv.mpr rfl)))
    refine ⟨⟨pD.1,pD.2.1⟩,T.keep _ _ _ J3 fun b hb o e=>(I9.pin (b,o) (Zo _ (Zo _ (g_ hb e)))).1,fun b hb=>?_,?_⟩
    ·obtain ⟨o,e,d⟩:=T.obj _ _ J3 b hb
     exact (I9.pin (b,o) (Zo _ (Zo _ (g_ hb e)))).2.1
    ·exact (I9.weak wk.len fun i v e=>wk.get e).kT fun p hp=>absurd hp (by simp)
   cases b with
   | false=>
    rw[if_neg Zn]at q7 ⊢
    obtain ⟨m',hm,w7⟩:=q7
    obtain ⟨⟨e7,n7⟩,t7,f7,J7⟩:=again (m':=0) I7
    exact ⟨m',hm,i+1,acc,aJ,nn,H7,J7,t7,f7,e7,rv,n7,w7⟩
   | true=>
    rw[if_pos rfl]at q7 ⊢
    refine cg (hE _ s2 H2 fp _ s7 σ6 H7 _ I7 q7) fun y s8 zz=>?_
    obtain ⟨v,H8,I8,r8,m',hm,w8⟩:=zz
    obtain ⟨⟨e8,n8⟩,t8,f8,J8⟩:=again (m':=0) I8
    refine wpAny_list_append_plain (items:=aJ.toArray) ⟨nn,e8⟩ (fun h9 WD UX=>?_) (by rw[YN, <-rv.length];exact ZP hz)
    obtain ⟨n9,e9⟩:=WD
    refine ⟨m',hm,i+1,acc++[v],aJ++[y],n9,H8,J8.turned (t':=s8.toks) (fun b o hb e=>(UX.2 b hb).trans e) n8 Ks (.inr (UP _)) O0 (fun p hp=>absurd hp (by simp[bR])),?_,f8,?_,rv.append (.cons r8 .nil),n8,w8⟩
    ·exact T.keep _ _ _ t8 fun b hb o e=>(UX.2 b (Ne.symm (UW b hb))).trans e
    ·simpa using e9
 exact codeAny_compStart_list (loop _ rfl) (T.self _ 0 _ _ _ UU (loop _ rfl))
theorem GV {X:Cx} {tg iter elt:Expr} {ifs:List Expr} {scope:Scope} {pos:Pos} {wi:TI} {g:TG} {tc:TT} {te:TE} (Nc:List Str) (ix:List (Option Nat)) (hi:PI X tg iter wi) (ka:X.calm=true) (yn:j0 X scope Nc ix)
  (gH: ∀y∈scope.names,y.2≠ .cell) (iG:scope.kind= .function) (GS: ∀y∈scope.names,y.2= .free->X.env.kindOf y.1=some .cell\/X.env.kindOf y.1=some .free)
  (yp: ∀x∈scope.names,x.2= .local->scope.names.lookup x.1=some .local)
  (hG: ∀C s H fp,PG (bR X scope C Nc s H fp) tg g) (hT: ∀C s H fp,PF (bR X scope C Nc s H fp) ifs tc) (hE: ∀C s H fp,PE (bR X scope C Nc s H fp) elt te)
  (hs: ∀x,foldedSetIterable iter X.env x=pure x:=by intro _;rfl):PE X (.ListComp elt [⟨tg,iter,ifs,0⟩] scope pos) (vX wi ix g tc te):=by
 intro pins s σ H Q I h
 rw[eval_ListComp]
 have Ms: ∀y∈scope.names,y.2= .free-> ∃c,X.env.cells.lookup y.1=some c:=fun y hy e=>I.ok.has y.1 (GS y hy e)
 refine wpAny_comprehension_free (use:=none) rfl hs (j_ Ms) iG yp (rX hi ka yn gH iG GS hG hT hE I h (RR:=fun acc C=>compPost (model X.prog X.w) X.A X.xe none (EP X pins σ Q) acc C) ?_)
 intro D C oC m H' s' eC hn fC I' q
 refine ⟨m,hn,fun h' O1=>⟨.ref D,H',?_,rfl,q⟩⟩
 exact I'.iY.turned (t':=s'.toks) (fun b o hb e=>(O1.2 b hb).trans e) fC.1 fC.2.1 fC.2.2.2.1 fC.2.2.2.2.1 fC.2.2.2.2.2
theorem GW {X:Cx} {i:Nat} {x:Str} {tg iter elt:Expr} {ifs:List Expr} {scope:Scope} {pos Dh pos':Pos} {wi:TI} {g:TG} {tc:TT} {te:TE} (Nc:List Str) (ix:List (Option Nat)) (hN:X.N.Nodup) (O2:X.N[i]? =some x) (hx:Loc X.env.scope x)
  (O3:swapsWith (.ListComp elt [⟨tg,iter,ifs,0⟩] scope pos) (some (.Name x pos')) Dh.line X.env=pure true) (hi:PI X tg iter wi) (ka:X.calm=true) (yn:j0 X scope Nc ix)
  (gH: ∀y∈scope.names,y.2≠ .cell) (iG:scope.kind= .function) (GS: ∀y∈scope.names,y.2= .free->X.env.kindOf y.1=some .cell\/X.env.kindOf y.1=some .free)
  (yp: ∀x∈scope.names,x.2= .local->scope.names.lookup x.1=some .local)
  (hG: ∀C s H fp,PG (bR X scope C Nc s H fp) tg g) (hT: ∀C s H fp,PF (bR X scope C Nc s H fp) ifs tc) (hE: ∀C s H fp,PE (bR X scope C Nc s H fp) elt te)
  (hs: ∀x,foldedSetIterable iter X.env x=pure x:=by intro _;rfl) (hf:X.fn x=true\/X.env.scope.names.lookup x=some .local:=by first | exact .inl rfl | exact .inr rfl | assumption):
  PS X (.Assign [.Name x pos'] (.ListComp elt [⟨tg,iter,ifs,0⟩] scope pos) Dh) (GC (vX wi ix g tc te) (vL i)):=by
 intro pins s σ H E I h
 have Ms: ∀y∈scope.names,y.2= .free-> ∃c,X.env.cells.lookup y.1=some c:=fun y hy e=>I.ok.has y.1 (GS y hy e)
 rw[exec_Assign_Name_used _ _ _ _ O3]
 refine wpAny_bind (wpAny_standAt (wpAny_bind ?_))
 show wpAny _ X.A (do let _ <-comprehension (.ListComp elt [⟨tg,iter,ifs,0⟩] scope pos) scope X.env _ (newList []) false (eval iter X.env) (some (assign (.Name x pos') X.env))) _ _ s
 refine wpAny_bind (wpAny_mono (wpAny_comprehension_free (use:=some (assign (.Name x pos') X.env)) (Q:=fun _ s'=>SP X pins E .next s') rfl hs (j_ Ms) iG yp
  (rX hi ka yn gH iG GS hG hT hE I h (RR:=fun acc C=>compPost (model X.prog X.w) X.A X.xe (some (assign (.Name x pos') X.env)) (fun _ s'=>SP X pins E .next s') acc C) ?_)) (fun _ s' hq=>wpAny_pure (wpAny_pure hq)) fun _ _ e=>e)
 intro D C oC m H' s' eC hn fC I' q
 show wpAny _ X.A (assign (.Name x pos') X.env (.ref D)) _ _ _
 refine wpAny_assign_Name (kU I' hN O2 hx (show RelV (.ref D) _ from rfl) (fun OJ UY=>?_) hf)
 have pC:=UY.pin (C,oC) (Zo _ (Zo _ (Wv.mpr rfl)))
 refine ⟨m,?_,fun h' O1=>?_⟩
 ·obtain ⟨o,es,ep,e,r⟩:=hn
  rw[eC]at e;cases e
  exact ⟨oC,es,ep,pC.1,r⟩
 ·refine ⟨_,H',UY.iY.turned (t':=OJ.toks) (fun b o hb e=>(O1.2 b hb).trans e) fC.1 fC.2.1 fC.2.2.2.1 fC.2.2.2.2.1 fC.2.2.2.2.2,q⟩
noncomputable def S (l:List Nat):Str:=⟨l.toArray⟩
theorem fM (l:List Nat):(S l).cps.toList=l:=by simp[S]
theorem di (l:List Nat):(S l).length=l.length:=by simp[S,Str.length]
theorem mE (l:List Nat):(S l).cps.size=l.length:=by simp[S]
theorem O4 {a b:List Nat} (h:S a=S b):a=b:=by
 have:=congrArg (fun x:Str=>x.cps.toList) h
 simpa [S]using this
theorem O5 (x:Str):x=S x.cps.toList:=by cases x;simp[S]
theorem O6 (a b:List Nat):S a++S b=S (a++b):=by
 apply Str.ext'
 apply Qcf.mp
 simp[S,Str.cps_append]
theorem IV {a b:List Nat}:decide (V.str (S a)=V.str (S b))=decide (a=b):=by
 by_cases h:a=b
 ·subst h;simp
 ·rw[decide_eq_false h,decide_eq_false]
  intro q
  exact h (O4 (V.str.inj q))
noncomputable def cut {α:Type} (xs:List α) (lo hi:Option Int):List α:=(xs.drop (HT.iH xs.length 0 lo)).take (HT.iH xs.length xs.length hi - HT.iH xs.length 0 lo)
theorem vY (n d:Nat) (v:Int):max 0 (min (if v<0 then v+(n:Int) else v) (n:Int))=((HT.iH n d (some v):Nat):Int):=by
 show _=(((if v<0 then (v+(n:Int)).toNat else min v.toNat n):Nat):Int)
 by_cases hv:v<0
 ·simp only[if_pos hv];omega
 ·simp only[if_neg hv];omega
theorem nF (lo hi:Option Int) (n:Nat):Builtin.Str.strSliceIndices lo hi 1 n=(List.range (HT.iH n n hi - HT.iH n 0 lo)).map (HT.iH n 0 lo+ ·):=by
 have h1:(1:Int)>0:=by decide
 rw[<-sliceRange_one]
 unfold Builtin.Str.strSliceIndices
 simp only[h1,if_true]
 congr 1
 ·cases lo with
  | none=>rfl
  | some v=>exact vY n 0 v
 ·cases hi with
  | none=>rfl
  | some v=>exact vY n n v
theorem GX (l:List Nat) (lo hi:Option Int):Txt.slice (S l) lo hi=S (cut l lo hi):=by
 have hx:((Builtin.Str.strSliceIndices lo hi 1 (S l).length).filterMap ((S l).cps[·]?))=cut l lo hi:=by
  rw[di,nF,pick_run,fM]
  rfl
 have hlen:(Builtin.Str.strSliceIndices lo hi 1 (S l).length).length=HT.iH l.length l.length hi - HT.iH l.length 0 lo:=by
  rw[di,nF,QW,Qba]
 unfold Txt.slice
 by_cases hc:((1:Int)==1&&(Builtin.Str.strSliceIndices lo hi 1 (S l).length).length==(S l).length)=true
 ·rw[if_pos hc]
  rw[hlen,di]at hc
  have e:HT.iH l.length l.length hi - HT.iH l.length 0 lo=l.length:=by simpa using hc
  have h2:=HT.Kb l.length l.length (UP _) hi
  have e0:HT.iH l.length 0 lo=0\/l.length=0:=by omega
  unfold cut
  rw[e]
  rcases e0 with z | z
  ·rw[z];simp
  ·have:l=[]:=Qbs z
   subst this
   simp
 ·rw[if_neg hc]
  rw[hx]
  rfl
section
variable {X:Cx}
theorem lp {x:Str} {j pos} (l:List Nat) (h:x=S l):PE X (.Constant (.str x) j pos) (tC (.str (S l))):=by
 subst h
 exact JS
def O7:R2:=fun x y H Q=> ∃a b,x= .str (S a)/\y= .str (S b)/\a.length+b.length<=sizeLine/\Q (.str (S (a++b))) H
theorem dZ:hJ X (binaryOp .Add) O7:=by
 intro pins s σ H x y v u Q I rx ry h
 obtain ⟨a,b,rfl,rfl,hz,q⟩:=h
 exact xZ pins s σ H _ _ v u Q I rx ry ⟨S a,S b,rfl,rfl,by rw[di,di];exact hz,by rw[O6];exact q⟩
def O8:R2:=fun x y H Q=> ∃l i c,x= .str (S l)/\y= .int i/\l.length<=sizeLine/\oG l i=some c/\Q (.str (S [c])) H
theorem hU:Kc X O8:=by
 intro value slice pins s σ H x y v u Q I rx ry h hs
 obtain ⟨l,i,c,rfl,rfl,hz,he,q⟩:=h
 exact Ke value slice pins s σ H _ _ v u Q I rx ry ⟨S l,i,c,rfl,rfl,by rw[di];exact hz,by rw[fM];exact he,q⟩ hs
def SQ:V->Option Int->Option Int->Hp->VK->Prop:=fun x lo hi H Q=> ∃l,x= .str (S l)/\l.length<=sizeLine/\Q (.str (S (cut l lo hi))) H
theorem j4:QS X SQ:=by
 intro pins s σ H x v vl vu lo hi sl Q I rx hs pl pu h
 obtain ⟨l,rfl,hz,q⟩:=h
 obtain ⟨t,rfl⟩:=rx
 refine ⟨"str",_,F.slot_str_getitem.lookup,typeIs_str _ _ _,?_⟩
 have key: ∀(a b:Option (Int×Tok)),vl=partValue a->vu=partValue b->a.map (·.1)=lo->b.map (·.1)=hi->wpAny (model X.prog X.w) X.A (getItem (.str (S l) t) (.ref sl)) (EP X pins σ Q) X.xe s:=by
  rintro a b rfl rfl rfl rfl
  obtain ⟨o,e,c,d⟩:=hs
  refine wpAny_getItem_str_slice (l:=a) (u:=b) (st:=none) ⟨o,e,c,d⟩ rfl (post_val_or_str ⟨?_,fun t' k=>?_⟩)
  ·exact ZG (Txt.slice_le (S l) _ _) (by rw[di];exact hz)
  ·exact ⟨.str (S (cut l _ _)),H,I.tok _,⟨t',congrArg (fun z=>Value.str z t') (GX l _ _)⟩,q⟩
 cases pl with
 | none=>
  cases pu with
  | none=>exact key none none rfl rfl rfl rfl
  | int i ti=>exact key none (some (i,ti)) rfl rfl rfl rfl
 | int i ti=>
  cases pu with
  | none=>exact key (some (i,ti)) none rfl rfl rfl rfl
  | int j tj=>exact key (some (i,ti)) (some (j,tj)) rfl rfl rfl rfl
theorem aT:dk X (.builtin "len") (fun xs H Q=> ∃l,xs=[.str (S l)]/\l.length<=sizeLine/\Q (.int l.length) H):=by
 intro pins s σ H xs us Q I r h
 obtain ⟨l,rfl,hz,q⟩:=h
 exact tW pins s σ H _ us Q I r ⟨S l,rfl,by rw[di];exact hz,by rw[di];exact q⟩
noncomputable def cI (l:List Nat):List V:=l.map fun c=>V.str (S [c])
theorem yq {l:List Nat}: ∀{acc:List Value},acc.length=l.length->(∀j v,acc[j]? =some v->SignAt (S l) j v)->Vals (cI l) acc:=by
 induction l with
 | nil=>intro acc h _;have:acc=[]:=Qbs h;subst this;exact .nil
 | cons c l ih=>
  intro acc h k
  cases acc with
  | nil=>cases h
  | cons a acc=>
   refine .cons ?_ (ih (by simpa using h) fun j v e=>?_)
   ·obtain ⟨c',u,e1,e2⟩:=k 0 a rfl
    have:c=c':=by simpa [S]using e1
    subst this
    exact ⟨u,e2⟩
   ·obtain ⟨c',u,e1,e2⟩:=k (j+1) v (by simpa using e)
    exact ⟨c',u,by simpa [S]using e1,e2⟩
theorem pA (hc:X.calm=true):dk X (.type "list") (fun xs H Q=> ∃l,xs=[.str (S l)]/\l.length<=sizeLine/\ ∀p,H p=none->Q (.ref p) (upd H p (.lst (cI l)))):=by
 intro pins s σ H xs us Q I r h
 obtain ⟨l,rfl,hz,q⟩:=h
 obtain ⟨u,rfl,t,rfl⟩:=vals1 r
 refine call_list_str (I.ok.hd hc) (S l) t (fun h' tk ck c' hk e yo=>?_) (by rw[mE];exact hz)
 obtain ⟨h1,h2⟩:=yo
 rw[mE]at h1
 refine ⟨.ref s.heap.objs.size,_,I.laid (t':=tk) (o:= .lst (cI l)) hk (UP _) ?_,rfl,q _ I.fresh⟩
 exact ⟨by unfold cI;rw[QW];exact hz,ck.toList,c',yq (by simpa using h1) (fun j v e=>h2 j v (by simpa using e)),by simpa using e⟩
def SR:R2:=fun x y H Q=> ∃c l,x= .str (S [c])/\y= .str (S l)/\Q (.bl (decide (c∈l))) H
theorem Di:hJ X (compareOp .In) SR:=by
 intro pins s σ H x y v u Q I rx ry h
 obtain ⟨c,l,rfl,rfl,q⟩:=h
 refine Bi pins s σ H _ _ v u Q I rx ry ⟨S [c],S l,rfl,rfl,?_⟩
 have e:=StrLaws.found_one (S l) c
 rw[fM]at e
 rw[show (S [c])=(⟨#[c]⟩:Str) from rfl,e]
 exact q
end
theorem rY (s sub:Str) (hi:Nat): ∀(l:List Nat) (st:Array Nat×Nat),1<=st.fst.size->(forIn l st (StrLaws.occBody s sub hi 1)).run.fst=st.fst
 | [],st,h=>rfl
 | a::l,st,h=>by
  rw[Qa5]
  unfold StrLaws.occBody
  rw[if_neg (fun z=>absurd z.1.1.1 (Nat.not_lt.mpr h))]
  exact rY s sub hi l _ h
theorem occ_first (s sub:Str) (hi:Nat): ∀(l:List Nat) (free:Nat),(∀i∈l,free<=i)->
  (forIn l ((#[]:Array Nat),free) (StrLaws.occBody s sub hi 1)).run.fst.toList=(l.find? fun i=>decide (i+sub.length<=hi)&&Builtin.Str.subAt s sub i).toList
 | [],free,_=>rfl
 | a::l,free,hf=>by
  rw[Qa5,Qau]
  unfold StrLaws.occBody
  have ha:free<=a:=hf a YO
  by_cases hc:a+sub.length<=hi/\Builtin.Str.subAt s sub a=true
  ·rw[if_pos ⟨⟨⟨by simp,ha⟩,hc.1⟩,hc.2⟩]
   have:(decide (a+sub.length<=hi)&&Builtin.Str.subAt s sub a)=true:=by simp[hc]
   rw[this]
   show (forIn l (#[].push a,a+sub.length) (StrLaws.occBody s sub hi 1)).run.fst.toList=_
   rw[rY s sub hi l _ (by simp)]
   rfl
  ·rw[if_neg (fun z=>hc ⟨z.1.2,z.2⟩)]
   have:(decide (a+sub.length<=hi)&&Builtin.Str.subAt s sub a)=false:=by
    cases h1:decide (a+sub.length<=hi) with
    | false=>rfl
    | true=>
     cases h2:Builtin.Str.subAt s sub a with
     | false=>rfl
     | true=>exact absurd ⟨of_decide_eq_true h1,h2⟩ hc
   rw[this]
   exact occ_first s sub hi l free fun i oH=>hf i (YQ _ oH)
theorem subAt_one (l:List Nat) (c i:Nat):Builtin.Str.subAt (S l) (S [c]) i=(l[i]? ==some c):=by
 unfold Builtin.Str.subAt
 rw[di]
 show ((S l).cps.extract i (i+1)== #[c])=_
 have e:((S l).cps.extract i (i+1))=((l.drop i).take 1).toArray:=by
  apply Qcf.mp
  simp[S,List.take_drop]
 rw[e]
 by_cases h:i<l.length
 ·have e2:(l.drop i).take 1=[l[i]]:=by
   rw[Z4 h];rfl
  rw[e2,Kq h]
  by_cases hc:l[i]=c
  ·rw[hc];simp
  ·have h1:([l[i]].toArray== #[c])=false:=by
    rw[beq_eq_false_iff_ne]
    intro z
    apply hc
    have:=congrArg Array.toList z
    simpa using this
   have h2:(some l[i]==some c)=false:=by simpa using hc
   rw[h1,h2]
 ·have e2:(l.drop i).take 1=[]:=by rw[Qbp (by omega)];rfl
  rw[e2,Z9 (by omega)]
  rfl
theorem pB (l:List Nat) (c:Nat): ∀(k n:Nat),k+n=l.length+1->((List.range' k n).find? fun i=>decide (i+1<=l.length)&&(l[i]? ==some c))=if c∈l.drop k then some (k+(l.drop k).idxOf c) else none
 | k,0,h=>by
  have:l.drop k=[]:=Qbp (by omega)
  rw[this];simp
 | k,n+1,h=>by
  rw[List.range'_succ,Qau]
  by_cases hk:k<l.length
  ·have e:l.drop k=l[k]::l.drop (k+1):=Z4 hk
   rw[Kq hk,e]
   by_cases hc:l[k]=c
   ·have:(decide (k+1<=l.length)&&(some l[k]==some c))=true:=by simp[hc];omega
    rw[this,if_pos (by simp[hc])]
    simp[hc]
   ·have:(decide (k+1<=l.length)&&(some l[k]==some c))=false:=by simp[hc]
    rw[this,pB l c (k+1) n (by omega)]
    have oE: ¬c=l[k]:=fun z=>hc z.symm
    by_cases hm:c∈l.drop (k+1)
    ·rw[if_pos hm,if_pos (YQ _ hm),List.idxOf_cons]
     have:(l[k]==c)=false:=by simpa using hc
     rw[this]
     show some (k+1+List.idxOf c (List.drop (k+1) l))=some (k+(List.idxOf c (List.drop (k+1) l)+1))
     congr 1
     omega
    ·rw[if_neg hm,if_neg (by intro z;rcases Wz.mp z with z | z;exact oE z;exact hm z)]
  ·have:l.drop k=[]:=Qbp (by omega)
   have e1:(decide (k+1<=l.length)&&(l[k]? ==some c))=false:=by
    rw[decide_eq_false (by omega)];rfl
   have e2:l.drop (k+1)=[]:=Qbp (by omega)
   rw[e1,pB l c (k+1) n (by omega),this,e2]
   simp
theorem IW (l:List Nat) (c:Nat):Builtin.Str.occurrences (S l) (S [c]) 0 (S l).length 1=if c∈l then [l.idxOf c] else []:=by
 rw[StrLaws.occ_eq,occ_first _ _ _ _ 0 fun _ _=>Zg _]
 have e:(fun i=>decide (i+(S [c]).length<=(S l).length)&&Builtin.Str.subAt (S l) (S [c]) i)=fun i=>decide (i+1<=l.length)&&(l[i]? ==some c):=by
  funext i
  rw[subAt_one,di,di]
  rfl
 rw[e,di,Nat.sub_zero,pB l c 0 (l.length+1) (by omega),List.drop_zero]
 by_cases h:c∈l
 ·rw[if_pos h,if_pos h,Qcl];rfl
 ·rw[if_neg h,if_neg h];rfl
section
variable {X:Cx}
def GY:V->List V->Hp->VK->Prop:=fun x vs H Q=> ∃l c,x= .str (S l)/\vs=[.str (S [c])]/\c∈l/\Q (.int (l.idxOf c:Nat)) H
theorem mF:zQ X "str.index" GY:=by
 intro pins s σ H x xs v us Q I rx rv h
 obtain ⟨l,c,rfl,rfl,hc,q⟩:=h
 obtain ⟨t,rfl⟩:=rx
 obtain ⟨u,rfl,t',rfl⟩:=vals1 rv
 exact SC.index (i:=l.idxOf c) (rest:=[]) (by rw[IW,if_pos hc]) ⟨.int (l.idxOf c:Nat),H,I.tok _,⟨_,rfl⟩,q⟩
def Kv:V->List V->Hp->VK->Prop:=fun x vs H Q=> ∃l c,x= .str (S l)/\vs=[.str (S [c])]/\Q (.int (if c∈l then (l.idxOf c:Nat) else -1)) H
theorem vZ:zQ X "str.find" Kv:=by
 intro pins s σ H x xs v us Q I rx rv h
 obtain ⟨l,c,rfl,rfl,q⟩:=h
 obtain ⟨t,rfl⟩:=rx
 obtain ⟨u,rfl,t',rfl⟩:=vals1 rv
 refine SC.find ⟨.int _,H,I.tok _,⟨_,rfl⟩,?_⟩
 have e:Txt.find (S l) (S [c])=(if c∈l then ((l.idxOf c:Nat):Int) else -1):=by
  unfold Txt.find
  rw[IW]
  by_cases h:c∈l
  ·rw[if_pos h,if_pos h]
  ·rw[if_neg h,if_neg h]
 rw[e]
 exact q
def IX (f:Nat->Bool):V->List V->Hp->VK->Prop:=fun x vs H Q=> ∃c,x= .str (S [c])/\vs=[]/\c<128/\Q (.bl (f c)) H
def O9 (f:Nat->Nat):V->List V->Hp->VK->Prop:=fun x vs H Q=> ∃c,x= .str (S [c])/\vs=[]/\c<128/\Q (.str (S [f c])) H
noncomputable def aA (c:Nat):Bool:=decide (97<=c)&&decide (c<=122)
noncomputable def isUp (c:Nat):Bool:=decide (65<=c)&&decide (c<=90)
theorem GZ: ∀c,c<128->Txt.islower ⟨#[c]⟩=aA c:=by decide+kernel
theorem Kw: ∀c,c<128->Txt.isupper ⟨#[c]⟩=isUp c:=by decide+kernel
theorem kE:zQ X "str.islower" (IX aA):=by
 intro pins s σ H x xs v us Q I rx rv h
 obtain ⟨c,rfl,rfl,hc,q⟩:=h
 obtain ⟨t,rfl⟩:=rx
 have e:us=[]:=by cases rv;rfl
 subst e
 exact SC.islower ⟨.bl (aA c),H,I,congrArg Value.bool (GZ c hc),q⟩
theorem yr:zQ X "str.isupper" (IX isUp):=by
 intro pins s σ H x xs v us Q I rx rv h
 obtain ⟨c,rfl,rfl,hc,q⟩:=h
 obtain ⟨t,rfl⟩:=rx
 have e:us=[]:=by cases rv;rfl
 subst e
 exact SC.isupper ⟨.bl (isUp c),H,I,congrArg Value.bool (Kw c hc),q⟩
theorem upper_one {c:Nat} (hc:c<128):Txt.upper (S [c])=S [up1 c]:=by
 rw[upper_ascii (by intro d hd;rw[fM]at hd;simp at hd;omega)]
 simp[S]
theorem rZ {c:Nat} (hc:c<128):Txt.lower (S [c])=S [lo1 c]:=by
 rw[lower_ascii (by intro d hd;rw[fM]at hd;simp at hd;omega)]
 simp[S]
theorem IZ (c:Nat):Builtin.Str.tooLong (S [c]).length=false:=by
 rw[di]
 show Builtin.Str.tooLong 1=false
 decide
theorem Dj:zQ X "str.upper" (O9 up1):=by
 intro pins s σ H x xs v us Q I rx rv h
 obtain ⟨c,rfl,rfl,hc,q⟩:=h
 obtain ⟨t,rfl⟩:=rx
 have e:us=[]:=by cases rv;rfl
 subst e
 exact SC.upper (by rw[upper_one hc];exact IZ _) ⟨.str (S [up1 c]),H,I.tok _,⟨_,congrArg (fun z=>Value.str z _) (upper_one hc)⟩,q⟩
theorem pE:zQ X "str.lower" (O9 lo1):=by
 intro pins s σ H x xs v us Q I rx rv h
 obtain ⟨c,rfl,rfl,hc,q⟩:=h
 obtain ⟨t,rfl⟩:=rx
 have e:us=[]:=by cases rv;rfl
 subst e
 exact SC.lower (by rw[rZ hc];exact IZ _) ⟨.str (S [lo1 c]),H,I.tok _,⟨_,congrArg (fun z=>Value.str z _) (rZ hc)⟩,q⟩
theorem Dk: ∀(ls:List (List Nat)) (a:Array Nat),(ls.map S).foldl (fun acc p=>acc++(S []).cps++p.cps) a=a++ls.flatten.toArray
 | [],a=>by simp
 | l::ls,a=>by
  rw[Zd,Qbv,Dk ls]
  simp[S]
theorem Kx (ls:List (List Nat)):Txt.join (S []) (ls.map S)=S ls.flatten:=by
 unfold Txt.join Builtin.Str.glued
 cases ls with
 | nil=>rfl
 | cons l ls=>
  show Str.mk ((List.map S ls).foldl (fun acc p=>acc++(S []).cps++p.cps) (S l).cps)=_
  rw[Dk]
  simp[S]
theorem pF: ∀{ls:List (List Nat)} {us:List Value},Vals (ls.map fun l=>V.str (S l)) us->StrsAre us (ls.map S)
 | [],us,r=>by cases r;exact .nil
 | l::ls,us,r=>by
  cases r with
  | cons r1 r2=>
   obtain ⟨t,rfl⟩:=r1
   exact .cons _ t (pF r2)
def Dm (K:PySem.W.Frag):V->List V->Hp->VK->Prop:=fun x vs H Q=> ∃(p:Addr) (ls:List (List Nat)),x= .str (S [])/\vs=[.ref p]/\ba K H p (ls.map fun l=>V.str (S l))/\(ls.map List.length).sum<=16777216/\Q (.str (S ls.flatten)) H
theorem Dp:zQ X "str.join" (Dm X.K):=by
 intro pins s σ H x xs v us Q I rx rv h
 obtain ⟨p,ls,rfl,rfl,hq,hz,q⟩:=h
 obtain ⟨t,rfl⟩:=rx
 obtain ⟨u,rfl,ru⟩:=vals1 rv
 cases ru
 obtain ⟨aJ,r,pl,_⟩:=I.list hq
 have e:(S []).length=0:=rfl
 refine join_list pl.isList (by simpa using pF r) ?_ fun t' k=>?_
 ·rw[e,Nat.mul_zero,Nat.add_zero,ZV]
  have e2:(Str.length ∘ S)=List.length:=by funext l;exact di l
  have e3:((fun x:Str=>x.length) ∘ S)=List.length:=by funext l;exact di l
  first | (rw[e2];exact hz) | (rw[e3];exact hz)
 ·exact ⟨.str (S ls.flatten),H,I.tok _,⟨t',congrArg (fun z=>Value.str z t') (Kx ls)⟩,q⟩
end
end L2
namespace L2.F2
open PySem PySem.Spec PyProof.Rows
theorem r9:Manifest.owners.lookup (String.ofList ['d','e','s','r','e','v','e','r'].reverse)=some Manifest.sig_reversed:=by kernel_rfl
theorem dm:Slot "reversed" "__next__" "reversed.__next__":=
 .of (owner:="reversed") (n:="__next__") (by rw[typeLookup_type,builtinLookup_eq_fast];kernel_rfl) (by decide+kernel) (by decide+kernel) (by decide+kernel)
  (by first | exact .inl (by decide+kernel) | exact .inr (by decide+kernel)) (by rw[isSubtype_type];kernel_rfl)
theorem i7:entryFor table "reversed.__next__"=some Builtin.«reversed.__next__» :=entryFor_of_tree (by kernel_rfl)
theorem iI (a:Value):argsOk "reversed.__next__" ⟨[a],[]⟩:=by
 unfold argsOk;rw[signature?_of (id:="reversed.__next__") (n:=['_','_','t','x','e','n','_','_']) (o:=['d','e','s','r','e','v','e','r']) (by kernel_rfl) r9];kernel_rfl
theorem kc:Slot "reversed" "__iter__" "reversed.__iter__":=
 .of (owner:="reversed") (n:="__iter__") (by rw[typeLookup_type,builtinLookup_eq_fast];kernel_rfl) (by decide+kernel) (by decide+kernel) (by decide+kernel)
  (by first | exact .inl (by decide+kernel) | exact .inr (by decide+kernel)) (by rw[isSubtype_type];kernel_rfl)
theorem nU (a:Value):argsOk "reversed.__iter__" ⟨[a],[]⟩:=by
 unfold argsOk;rw[signature?_of (id:="reversed.__iter__") (n:=['_','_','r','e','t','i','_','_']) (o:=['d','e','s','r','e','v','e','r']) (by kernel_rfl) r9];kernel_rfl
theorem pG:entryFor table "reversed.__iter__"=some Builtin.«dict_keyiterator.__iter__» :=
 entryFor_alias (id':="dict_keyiterator.__iter__") (by kernel_rfl) (by first | rfl | decide+kernel | (unfold String.splitOn;simp+decide [String.splitOnAux])) (by decide+kernel) (by kernel_rfl)
theorem rj:Slot "reversed" "__init__" "object.__init__":=
 .of (owner:="object") (n:="__init__") (by rw[typeLookup_type,builtinLookup_eq_fast];kernel_rfl) (by decide+kernel) (by decide+kernel) (by decide+kernel)
  (by first | exact .inl (by decide+kernel) | exact .inr (by decide+kernel)) (by rw[isSubtype_type];kernel_rfl)
theorem yt:TypeCalled "reversed" "reversed.__new__" "object.__init__":=
 ⟨by decide+kernel,by decide+kernel,⟨_,_,F.mro_reversed⟩,F.made_reversed,by decide+kernel,by rw[isSubtype_type];kernel_rfl,rj⟩
theorem yu:typeLookup (.type "str") "__reversed__"=pure none:=by rw[typeLookup_type,builtinLookup_eq_fast];kernel_rfl
end L2.F2
namespace L2
open PySem PySem.Spec PyProof.Rows
theorem pH (x:Str) (t:Tok) (hz:x.length<=sizeLine):Meets (Builtin.«reversed.__new__» ⟨[.type "reversed", .str x t],[]⟩) (fun _ R s=> ∀tk,R (.ok (.ret (.ref s.heap.objs.size))) { s with heap:=s.heap.push { cls:= .type "reversed",data:= .fields #[.str x t,rawInt ((x.length:Int) - 1)] },toks:=tk }):=by
 refine Meets.of_wp fun prog w A R s h=>?_
 unfold Builtin.«reversed.__new__»
 refine wpAny_bind (wpAny_of_eq (newClass_reversed _) ?_)
 try dsimp only
 refine wpAny_bind (wpAny_of_eq (a:=()) (by first | rfl | kernel_rfl) ?_)
 refine wpAny_bind (wpAny_of_eq (a:=()) (by first | rfl | kernel_rfl) ?_)
 try dsimp only
 refine wpAny_bind (wpAny_specialOf (typeIs_str s x t) F2.yu ?_)
 try dsimp only
 refine wpAny_bind (wpAny_of_eq (a:=true) (by first | rfl | kernel_rfl) ?_)
 rw[if_neg (by decide)]
 have hn:=fL
 refine wpAny_bind (len_str (by omega) ?_)
 refine wpAny_bind (wpAny_of_eq (a:=some (x.length:Int)) (by first | rfl | kernel_rfl) ?_)
 show wpAny _ _ (Builtin.SmallTypes.newRecord (Value.type "reversed") [Value.str x t,rawInt ((x.length:Int) - 1)] >>= _) _ _ _
 refine wpAny_bind ?_
 unfold Builtin.SmallTypes.newRecord
 refine wpAny_newObj_type ?_ (by size_fits)
 exact wpAny_pure ⟨_,rfl,h _⟩
section
variable {prog:Program} {w:World} {A:Around} {E:Value->Shared->Prop} {s:Shared}
theorem pJ {x:Str} {t:Tok} {Q:Value->Shared->Prop} (hz:x.length<=sizeLine) (h: ∀tk,Q (.ref s.heap.objs.size) { s with heap:=s.heap.push { cls:= .type "reversed",data:= .fields #[.str x t,rawInt ((x.length:Int) - 1)] },toks:=tk }):
  wpAny (model prog w) A (call (.type "reversed") [.str x t]) Q E s:=
 callType_new F2.yt (by decide+kernel) (F.typeCall_reversed_1 _) (F.newCall_reversed_1 _) (fun obj=>by unfold argsOk;kernel_rfl) F.entry_reversed_new (pH x t hz)
  fun tk=>⟨⟨_,Ze _ rfl,rfl⟩,h tk⟩
def i8 (h:Heap) (it:Addr) (x:Str) (t:Tok) (i:Int):Prop:= ∃o,h.get? it=some o/\o.cls= .type "reversed"/\o.data= .fields #[.str x t,rawInt i]
theorem i8.typeIs {it:Addr} {x:Str} {t:Tok} {i:Int} (h:i8 s.heap it x t i):s.TypeIs (.ref it) "reversed":=let ⟨o,ho,hc,_⟩:=h;⟨o,ho,hc⟩
theorem pK {it:Addr} {x:Str} {t:Tok} {i:Int} {Q:Value->Shared->Prop} (hit:i8 s.heap it x t i) (h:Q (.ref it) s):wpAny (model prog w) A (pyIter (.ref it)) Q E s:=by
 refine wpAny_pyIter_slot hit.typeIs F2.kc (wpAny_call_entry F2.kc hit.typeIs F2.pG ?_ (F2.nU _))
 show wpAny _ _ (ret (.ref it)) _ _ s
 exact wpAny_pure ⟨_,rfl,"reversed",_,hit.typeIs,F2.dm.lookup,h⟩
theorem nV {it:Addr} {x:Str} {t:Tok} {i c:Nat} {Q:Option Value->Shared->Prop} (hit:i8 s.heap it x t (i:Int)) (hx:x.cps[i]? =some c) (hz:x.length<=sizeLine)
  (hQ: ∀h' tk u,i8 h' it x t ((i:Int) - 1)->Heap.SameBut it s.heap h'->Q (some (.str ⟨#[c]⟩ u)) { s with heap:=h',toks:=tk }):wpAny (model prog w) A (pyNext (.ref it)) Q E s:=by
 obtain ⟨o,ho,hc,hd⟩:=id hit
 have hn:=fL
 have hi:i<x.length:=(Array.getElem?_eq_some_iff.mp hx).1
 unfold pyNext
 refine wpAny_bind (wpAny_attempt (wpAny_callSpecial?_slot (name:=Str.ofString "__next__") hit.typeIs F2.dm
  (wpAny_call_entry F2.dm hit.typeIs F2.i7 ?_ (F2.iI _))))
 unfold Builtin.«reversed.__next__»
 refine wpAny_bind (wpAny_of_eq (a:=(Value.ref it,[])) rfl ?_)
 try dsimp only
 refine wpAny_bind (wpAny_field ho hd (x:= .str x t) rfl ?_)
 refine wpAny_bind (wpAny_field ho hd (x:=rawInt (i:Int)) rfl ?_)
 show wpAny _ _ (if (i:Int)<0 then _ else _) _ _ s
 rw[if_neg (by omega)]
 refine wpAny_bind (wpAny_specialOf (typeIs_str s x t) F.slot_str_getitem.lookup ?_)
 show wpAny _ _ (if (some (Value.builtin _)).isNone=true then _ else _) _ _ s
 rw[if_neg (by decide)]
 refine wpAny_bind (wpAny_mkInt ?_)
 refine wpAny_bind (wpAny_attempt (getItem_str (c:=c) (by
  have e1:decide ((i:Int)< -(2 ^ 63:Int))=false:=decide_eq_false (by omega)
  have e2:decide ((i:Int) ≥ 2 ^ 63)=false:=decide_eq_false (by omega)
  rw[e1,e2,Qc6]) (by rw[seqIndex_of (by omega) (by omega),YR];exact hx) ?_))
 show wpAny _ _ (field (Value.ref it) 1 >>= _) _ _ _
 refine wpAny_bind (wpAny_field ho hd (x:=rawInt (i:Int)) rfl ?_)
 show wpAny _ _ (setField (Value.ref it) 1 (rawInt ((i:Int) - 1)) >>= _) _ _ _
 refine wpAny_bind (wpAny_setField ho hd (by simp) ?_)
 refine wpAny_pure ⟨_,rfl,wpAny_pure (hQ _ _ _ ?_ (Qdn ..))⟩
 exact ⟨_,Qab _ ho (Obj.isFreed_of_fields (Obj.data_mapFields hd _)),(Obj.cls_mapFields ..).trans hc,by
  rw[Obj.data_mapFields hd];simp⟩
theorem pL {it:Addr} {x:Str} {t:Tok} {Q:Option Value->Shared->Prop} (hh:A.handled=none) (hit:i8 s.heap it x t (-1))
  (hQ: ∀h',Heap.ExtBut it s.heap h'->Q none { s with heap:=h' }):wpAny (model prog w) A (pyNext (.ref it)) Q E s:=by
 obtain ⟨o,ho,hc,hd⟩:=id hit
 unfold pyNext
 refine wpAny_bind (wpAny_attempt (wpAny_callSpecial?_slot (name:=Str.ofString "__next__") hit.typeIs F2.dm
  (wpAny_call_entry F2.dm hit.typeIs F2.i7 ?_ (F2.iI _))))
 unfold Builtin.«reversed.__next__»
 refine wpAny_bind (wpAny_of_eq (a:=(Value.ref it,[])) rfl ?_)
 try dsimp only
 refine wpAny_bind (wpAny_field ho hd (x:= .str x t) rfl ?_)
 refine wpAny_bind (wpAny_field ho hd (x:=rawInt (-1)) rfl ?_)
 show wpAny _ _ (if (-1:Int)<0 then _ else _) _ _ s
 rw[if_pos (by decide)]
 refine wpAny_bind (wpAny_rule ?_)
 refine wpAny_bind ?_
 show wpAny _ _ (setField (Value.ref it) 1 (rawInt (-1)) >>= fun _=>setField (Value.ref it) 0 .none) _ _ _
 refine wpAny_bind (wpAny_setField ho hd (by simp) ?_)
 refine wpAny_setField (Qab _ ho (Obj.isFreed_of_fields (Obj.data_mapFields hd _))) (Obj.data_mapFields hd _) (by simp) ?_
 first
 | show wpAny _ _ (newExc (.type "StopIteration") [] >>= _) _ _ _
 |(refine wpAny_bind ?_;show wpAny _ _ (newExc (.type "StopIteration") [] >>= _) _ _ _)
 refine wpAny_bind ?_
 simp only[newExc,newTuple]
 refine wpAny_bind (wpAny_newObj_type ?_ (by size_fits))
 refine wpAny_bind (m:=firstArgMember _ _) (wpAny_of_eq (a:=Value.none) (by first | rfl | (simp only[firstArgMember];rfl)) ?_)
 refine wpAny_newObj_type ?_ (by size_fits)
 simp only[raiseNew]
 refine wpAny_bind (wpAny_handled ?_)
 first | rw[show A.in1.handled=none from hh] | rw[hh]
 refine wpAny_bind (wpAny_pure (wpAny_throw ?_))
 refine wpAny_bind (wpAny_isInstance (T:="StopIteration") (b:=true) ⟨_,Ze _ rfl,rfl⟩ isSubtype_stop ?_)
 refine wpAny_pure (hQ _ fun b ob hb e=>?_)
 refine Mr _ (Mr _ ?_)
 exact (ZR _ _ (Ne.symm hb)).trans ((ZR _ _ (Ne.symm hb)).trans e)
end
noncomputable def G0 (xs:List V):It:=⟨fun i _=>i<xs.length,fun i H x H'=>H'=H/\xs[i]? =some x,fun i _=>xs.length<=i⟩
theorem dz {l:List Nat} {i:Nat} {x:V} (h:(cI l)[i]? =some x): ∃c,l[i]? =some c/\x= .str (S [c]):=by
 unfold cI at h
 rw[Zk]at h
 cases e:l[i]? with
 | none=>rw[e]at h;cases h
 | some c=>rw[e]at h;cases h;exact ⟨c,rfl,rfl⟩
theorem aU (l:List Nat):(cI l).length=l.length:=by unfold cI;rw[QW]
theorem Dq {P:Program} {w:World} {K:PySem.W.Frag} {tg:Expr} (it:Addr) (l:List Nat) (t:Tok):Turn P w K tg (G0 (cI l)) [it] it (fun i h=>h.IsStrIter it (strIterType (S l)) (S l) t i) where
 mem:=by simp
 obj:=fun i h st b hb=>by
  have e:b=it:=by simpa using hb
  subst e
  obtain ⟨o,e,c,d⟩:=st
  exact ⟨o,e,fun v z=>by rw[d]at z;cases z⟩
 keep:=fun i h h' st k=>let ⟨o,e,r⟩:=st;⟨o,k it (by simp) o e,r⟩
 item:=by
  intro X hP hw hK hc i pins s σ H E I hf st hg
  subst hP hw hK
  have Ky:i<l.length:=by have:i<(cI l).length:=hg;rwa [aU]at this
  obtain ⟨f0,f1,f2,f3,f4,f5⟩:=hf it (by simp)
  have fin: ∀(v:Value) (h':Heap) (tk:Nat),SignAt (S l) i v->h'.IsStrIter it (strIterType (S l)) (S l) t (i+1)->(∀b o,b∉[it]->s.heap.get? b=some o->h'.get? b=some o)->
    ∃u,some v=some u/\wpAny (model X.prog X.w) X.A (letOwnedTupleGo tg (.ref it) u) (fun _ s2=> ∃x H',Inv X pins σ H' s2/\RelV x u/\(G0 (cI l)).CD i H x H'/\s2.heap.IsStrIter it (strIterType (S l)) (S l) t (i+1)/\ ∀b∈[it],H' b=none) E { s with heap:=h',toks:=tk }:=by
   intro v h' tk hv vv kk
   obtain ⟨c,u,e1,e2⟩:=hv
   subst e2
   have I1:Inv X pins σ H { s with heap:=h',toks:=tk }:=I.turned (fun b o hb e=>kk b o (by simpa using hb) e) f0 f1 f3 f4 f5
   obtain ⟨o,e,cc,d⟩:=id vv
   refine ⟨_,rfl,vM (s:={ s with heap:=h',toks:=tk }) e cc d (by unfold strIterType;split<;>decide) ⟨.str (S [c]),H,I1,⟨u,rfl⟩,⟨rfl,?_⟩,vv,fun b hb=>(hf b hb).1⟩⟩
   unfold cI
   rw[Zk]
   have By:l[i]? =some c:=by simpa [S]using e1
   rw[By]
   rfl
  have hsz:i<(S l).cps.size:=by rw[mE];exact Ky
  by_cases ha:(S l).cps.all (· <128)=true
  ·have et:strIterType (S l)="str_ascii_iterator":=by unfold strIterType;rw[if_pos ha]
   rw[et]at st
   exact (Walks.strAscii (prog:=X.prog) (w:=X.w) (I.ok.hd hc) it (S l) t).item i s _ _ hsz st fun v h' tk hv vv kk=>fin v h' tk hv (by rw[et];exact vv) kk
  ·have et:strIterType (S l)="str_iterator":=by unfold strIterType;rw[if_neg ha]
   rw[et]at st
   exact (Walks.strWide (prog:=X.prog) (w:=X.w) (I.ok.hd hc) it (S l) t).item i s _ _ hsz st fun v h' tk hv vv kk=>fin v h' tk hv (by rw[et];exact vv) kk
 done:=by
  intro X hP hw hK hc i pins s σ H E I hf st hg
  subst hP hw hK
  obtain ⟨f0,f1,f2,f3,f4,f5⟩:=hf it (by simp)
  have Ky:l.length<=i:=by have:(cI l).length<=i:=hg;rwa [aU]at this
  have hx:(S l).cps[i]? =none:=by rw[Array.getElem?_eq_none_iff,mE];exact Ky
  by_cases ha:(S l).cps.all (· <128)=true
  ·have et:strIterType (S l)="str_ascii_iterator":=by unfold strIterType;rw[if_pos ha]
   rw[et]at st
   exact wpAny_pyNext_ascii_end (I.ok.hd hc) st hx fun h' eb=>⟨rfl,I.turned (t':=s.toks) (fun b o hb e=>eb b o hb e) f0 f1 f3 f4 f5⟩
  ·have et:strIterType (S l)="str_iterator":=by unfold strIterType;rw[if_neg ha]
   rw[et]at st
   exact wpAny_pyNext_wide_end (I.ok.hd hc) st hx fun h' eb=>⟨rfl,I.turned (t':=s.toks) (fun b o hb e=>eb b o hb e) f0 f1 f3 f4 f5⟩
 self:=fun _ _ s _ _ st h=>by
  by_cases ha:(S l).cps.all (· <128)=true
  ·have et:strIterType (S l)="str_ascii_iterator":=by unfold strIterType;rw[if_pos ha]
   rw[et]at st
   exact wpAny_pyIter_striter_ascii st h
  ·have et:strIterType (S l)="str_iterator":=by unfold strIterType;rw[if_neg ha]
   rw[et]at st
   exact wpAny_pyIter_striter_wide st h
theorem Dr {P:Program} {w:World} {K:PySem.W.Frag} {tg:Expr} (it:Addr) (l:List Nat) (t:Tok) (hz:l.length<=sizeLine):Turn P w K tg (G0 (cI l).reverse) [it] it (fun i h=>i<=l.length/\i8 h it (S l) t ((l.length:Int) - 1 - (i:Int))) where
 mem:=by simp
 obj:=fun i h st b hb=>by
  have e:b=it:=by simpa using hb
  subst e
  obtain ⟨_,o,e,c,d⟩:=st
  exact ⟨o,e,fun v z=>by rw[d]at z;cases z⟩
 keep:=fun i h h' st k=>let ⟨q,o,e,r⟩:=st;⟨q,o,k it (by simp) o e,r⟩
 item:=by
  intro X hP hw hK hc i pins s σ H E I hf st hg
  subst hP hw hK
  have Ky:i<l.length:=by have:i<(cI l).reverse.length:=hg;rwa [Zz,aU]at this
  obtain ⟨f0,f1,f2,f3,f4,f5⟩:=hf it (by simp)
  obtain ⟨_,st⟩:=st
  have e:(l.length:Int) - 1 - (i:Int)=((l.length - 1 - i:Nat):Int):=by omega
  rw[e]at st
  have cT:l.length - 1 - i<l.length:=by omega
  refine nV (c:=l[l.length - 1 - i]) st (by simp[S,cT]) (by rw[di];exact hz) fun h' tk u vv sb=>?_
  have I1:Inv X pins σ H { s with heap:=h',toks:=tk }:=I.turned (fun b o hb e=>(sb.2 b hb).trans e) f0 f1 f3 f4 f5
  obtain ⟨o,e1,cc,d⟩:=id vv
  refine ⟨_,rfl,vM (s:={ s with heap:=h',toks:=tk }) e1 cc d (by decide) ⟨.str (S [l[l.length - 1 - i]]),H,I1,⟨u,rfl⟩,⟨rfl,?_⟩,⟨Ky,?_⟩,fun b hb=>(hf b hb).1⟩⟩
  ·rw[Qbq (by rw[aU];exact Ky),aU]
   unfold cI
   rw[Zk,Kq cT]
   rfl
  ·have e2:(l.length:Int) - 1 - ((i+1:Nat):Int)=((l.length - 1 - i:Nat):Int) - 1:=by omega
   rw[e2]
   exact vv
 done:=by
  intro X hP hw hK hc i pins s σ H E I hf st hg
  subst hP hw hK
  obtain ⟨f0,f1,f2,f3,f4,f5⟩:=hf it (by simp)
  have Ky:l.length<=i:=by have:(cI l).reverse.length<=i:=hg;rwa [Zz,aU]at this
  obtain ⟨hi,st⟩:=st
  have e:(l.length:Int) - 1 - (i:Int)= -1:=by omega
  rw[e]at st
  exact pL (I.ok.hd hc) st fun h' eb=>⟨rfl,I.turned (t':=s.toks) (fun b o hb e=>eb b o hb e) f0 f1 f3 f4 f5⟩
 self:=fun _ _ _ _ _ st h=>pK st.2 h
section
variable {X:Cx} {tg:Expr}
def SU (tl:TE):TI:=fun σ H R=>tl σ H fun x H1=> ∃l,x= .str (S l)/\R (G0 (cI l)) H1
theorem i9 {l:Expr} {tl:TE} (hl:PE X l tl):PI X tg l (SU tl):=by
 intro pins s σ H R I h
 refine cg (hl pins s σ H _ I h) fun v s1 ⟨x,H1,I1,r1,q1⟩=>?_
 obtain ⟨l,rfl,q⟩:=q1
 obtain ⟨t,rfl⟩:=r1
 refine wpAny_pyIter_strU ?_
 refine ⟨s1.heap.objs.size,[s1.heap.objs.size],_,_,H1,rfl,I1.kept (t':=s1.toks) fun b o e=>Mr _ e,Dq _ l t,⟨_,Ze _ rfl,rfl,rfl⟩,fun b hb=>?_,q⟩
 have e:b=s1.heap.objs.size:=by simpa using hb
 subst e
 exact I1.o6 (UP _) (I1.bZ.fresh (UP _))
def SV (ta:TA):TI:=fun σ H R=>ta σ H fun vs H1=> ∃l,vs=[.str (S l)]/\l.length<=sizeLine/\R (G0 (cI l).reverse) H1
theorem yv {a:Expr} {ta:TA} {p pos:Pos} (hg:Gl X "reversed") (hm:X.mg "reversed"=none) (ha:PA X [a] ta) (hs:starEach [a] X.env=[(false,eval a X.env)]:=by rfl):PI X tg (.Call (.Name "reversed" p) [a] [] pos) (SV ta):=by
 intro pins s σ H R I h
 refine Call_ (gv I hg hm boot_reversed (Z0 (cg (ha pos pins s σ H _ I h) fun us s1 ⟨vs,H1,I1,r1,q1⟩=>?_) hs rfl))
 obtain ⟨l,rfl,hz,q⟩:=q1
 obtain ⟨u,rfl,t,rfl⟩:=vals1 r1
 refine pJ (by rw[di];exact hz) fun tk=>?_
 have hit:i8 (s1.heap.push { cls:= .type "reversed",data:= .fields #[.str (S l) t,rawInt (((S l).length:Int) - 1)] }) s1.heap.objs.size (S l) t (((S l).length:Int) - 1):=⟨_,Ze _ rfl,rfl,rfl⟩
 refine pK hit ?_
 refine ⟨s1.heap.objs.size,[s1.heap.objs.size],_,_,H1,rfl,I1.kept (t':=tk) fun b o e=>Mr _ e,Dr _ l t hz,⟨Zg _,?_⟩,fun b hb=>?_,q⟩
 ·have e:(l.length:Int) - 1 - ((0:Nat):Int)=((S l).length:Int) - 1:=by rw[di];simp
  rw[e]
  exact hit
 ·have e:b=s1.heap.objs.size:=by simpa using hb
  subst e
  exact I1.o6 (UP _) (I1.bZ.fresh (UP _))
end
theorem zU {xs:List V} {g:TG} {tb:TS} {D:Ends} {σ:St} {H:Hp} (Pv:Nat->St->Hp->Prop) (h0:Pv 0 σ H)
  (hs: ∀i x σ H,xs[i]? =some x->Pv i σ H->g x σ H fun σ2 H2=>tb { D with nx:=Pv (i+1),ct:=Pv (i+1),bk:=D.nx } σ2 H2) (hd: ∀σ H,Pv xs.length σ H->D.nx σ H):
  ∃W:Nat->Nat->St->Hp->Prop,(∃m,W 0 m σ H)/\ ∀i m σ H,W i m σ H->
   ((G0 xs).stop i H/\D.nx σ H)\/((G0 xs).go i H/\ ∃N:St->Hp->Prop,(∀σ' H',N σ' H'-> ∃m',m'<m/\W (i+1) m' σ' H')/\ ∀x H',(G0 xs).CD i H x H'->g x σ H' fun σ2 H2=>tb { D with nx:=N,ct:=N,bk:=D.nx } σ2 H2):=by
 refine ⟨fun i m σ H=>m=xs.length - i/\i<=xs.length/\Pv i σ H,⟨xs.length,by simp,Zg _,h0⟩,?_⟩
 rintro i m σ H ⟨rfl,hi,p⟩
 by_cases cT:i<xs.length
 ·refine .inr ⟨cT,Pv (i+1),fun σ' H' p'=>⟨xs.length - (i+1),by omega,rfl,cT,p'⟩,fun x H' y=>?_⟩
  obtain ⟨e,y⟩:=y
  subst e
  exact hs i x σ _ y p
 ·have e:i=xs.length:=by omega
  subst e
  exact .inl ⟨UP _,hd σ H p⟩
theorem oI {J:It} {n:Nat} {xs:Nat->V->Prop} {σc:St} {g:TG} {tc:TT} {te:TE} {Q:VK} {H1:Hp} (Pv:Nat->List V->Hp->Prop) (hn:n<sizeLine) (WE: ∀i acc H,i<n->Pv i acc H->J.go i H) (O_: ∀acc H,Pv n acc H->J.stop n H)
  (hy: ∀i acc H x H',i<n->Pv i acc H->J.CD i H x H'->H'=H/\xs i x) (h0:Pv 0 [] H1)
  (hs: ∀(i:Nat) (x:V) (acc:List V) (H:Hp) (Nx:List V->Hp->Prop),i<n->xs i x->acc.length<=i->Pv i acc H->(∀ck H',ck.length<=i+1->Pv (i+1) ck H'->Nx ck H')->
   g x σc H fun σ2 H2=>Wk σc σ2/\tc σ2 H2 fun b H3=>if b=true then te σ2 H3 fun v H4=>Nx (acc++[v]) H4 else Nx acc H3)
  (hd: ∀acc H D,acc.length<=n->Pv n acc H->H D=none->Q (.ref D) (upd H D (.lst acc))):nE J σc g tc te Q H1:=by
 refine ⟨fun i m acc H=>m=n - i/\i<=n/\acc.length<=i/\Pv i acc H,⟨n,by simp,Zg _,UP _,h0⟩,?_⟩
 rintro i m acc H ⟨rfl,hi,hl,p⟩
 refine ⟨by omega,?_⟩
 by_cases cT:i<n
 ·refine .inr ⟨WE i acc H cT p,fun x H' y=>?_⟩
  obtain ⟨rfl,y2⟩:=hy i acc H x H' cT p y
  exact hs i x acc _ (fun ck H'=> ∃m',m'<n - i/\(m'=n - (i+1)/\i+1<=n/\ck.length<=i+1/\Pv (i+1) ck H')) cT y2 hl p fun ck H' h1 h2=>⟨n - (i+1),by omega,rfl,cT,h1,h2⟩
 ·have e:i=n:=by omega
  subst e
  exact .inl ⟨O_ acc H p,fun D hD=>hd acc H D hl p hD⟩
theorem d_ {xs:List V} {σc:St} {g:TG} {tc:TT} {te:TE} {Q:VK} {H1:Hp} (Pv:Nat->List V->Hp->Prop) (hn:xs.length<sizeLine) (h0:Pv 0 [] H1)
  (hs: ∀(i:Nat) (x:V) (acc:List V) (H:Hp) (Nx:List V->Hp->Prop),i<xs.length->xs[i]? =some x->acc.length<=i->Pv i acc H->(∀ck H',ck.length<=i+1->Pv (i+1) ck H'->Nx ck H')->
   g x σc H fun σ2 H2=>Wk σc σ2/\tc σ2 H2 fun b H3=>if b=true then te σ2 H3 fun v H4=>Nx (acc++[v]) H4 else Nx acc H3)
  (hd: ∀acc H D,acc.length<=xs.length->Pv xs.length acc H->H D=none->Q (.ref D) (upd H D (.lst acc))):nE (G0 xs) σc g tc te Q H1:=
 oI (xs:=fun i x=>xs[i]? =some x) Pv hn (fun i _ _ h _=>h) (fun _ _ _=>UP _) (fun i _ H x H' _ _ y=>y) h0 hs hd
theorem Ds {lo:Int} {n:Nat} {σc:St} {g:TG} {tc:TT} {te:TE} {Q:VK} {H1:Hp} (Pv:Nat->List V->Hp->Prop) (hn:n<sizeLine) (h0:Pv 0 [] H1)
  (hs: ∀(i:Nat) (acc:List V) (H:Hp) (Nx:List V->Hp->Prop),i<n->acc.length<=i->Pv i acc H->(∀ck H',ck.length<=i+1->Pv (i+1) ck H'->Nx ck H')->
   g (.int (lo+i)) σc H fun σ2 H2=>Wk σc σ2/\tc σ2 H2 fun b H3=>if b=true then te σ2 H3 fun v H4=>Nx (acc++[v]) H4 else Nx acc H3)
  (hd: ∀acc H D,acc.length<=n->Pv n acc H->H D=none->Q (.ref D) (upd H D (.lst acc))):nE (IJ lo n) σc g tc te Q H1:=
 oI (xs:=fun i x=>x= .int (lo+i)) Pv hn (fun i _ _ h _=>h) (fun _ _ _=>UP _) (fun i _ H x H' _ _ y=>y) h0 (fun i x acc H Nx h1 h2=>by subst h2;exact hs i acc H Nx h1) hd
theorem mG {K:PySem.W.Frag} {a:Addr} {xs:List V} {σc:St} {g:TG} {tc:TT} {te:TE} {Q:VK} {H1:Hp} (Pv:Nat->List V->Hp->Prop) (hn:xs.length<sizeLine) (hl: ∀i acc H,Pv i acc H->ba K H a xs) (h0:Pv 0 [] H1)
  (hs: ∀(i:Nat) (x:V) (acc:List V) (H:Hp) (Nx:List V->Hp->Prop),i<xs.length->xs[i]? =some x->acc.length<=i->Pv i acc H->(∀ck H',ck.length<=i+1->Pv (i+1) ck H'->Nx ck H')->
   g x σc H fun σ2 H2=>Wk σc σ2/\tc σ2 H2 fun b H3=>if b=true then te σ2 H3 fun v H4=>Nx (acc++[v]) H4 else Nx acc H3)
  (hd: ∀acc H D,acc.length<=xs.length->Pv xs.length acc H->H D=none->Q (.ref D) (upd H D (.lst acc))):nE (Mp K a) σc g tc te Q H1:=
 oI (xs:=fun i x=>xs[i]? =some x) Pv hn (fun i acc H h p=>⟨xs,xs[i],hl i acc H p,by simp[h]⟩) (fun acc H p=>⟨xs,hl _ acc H p,UP _⟩) (fun i acc H x H' h p y=>⟨y.1,y.2 xs (hl i acc H p)⟩) h0 hs hd
def G1 (c:TT) (tb:TS):TS:=fun D σ H=> ∃W:Nat->St->Hp->Prop,(∃m,W m σ H)/\ ∀m σ H,W m σ H->
 c σ H fun b H1=>if b=true then tb { D with nx:=fun σ' H'=> ∃m',m'<m/\W m' σ' H',ct:=fun σ' H'=> ∃m',m'<m/\W m' σ' H',bk:=D.nx } σ H1 else D.nx σ H1
theorem da {X:Cx} {c:Expr} {body:List Stmt} {tc:TT} {tb:TS} {pos:Pos} (hp:PassesOwn (model X.prog X.w) X.A X.env X.xe) (hc:PT X c tc) (hb:xU X body tb):PS X (.While c body [] pos) (G1 tc tb):=by
 intro pins s σ H D I h
 obtain ⟨W,⟨m0,w0⟩,turn⟩:=h
 refine wpAny_While (codeAny_whileLoop (fun n s'=> ∃σ' H',Inv X pins σ' H' s'/\W n σ' H') ?_ m0 ⟨σ,H,I,w0⟩)
 rintro n s1 ⟨σ1,H1,I1,w1⟩
 refine wpAny_passesOwn hp (cg (hc pins s1 σ1 H1 _ I1 (turn n σ1 H1 w1)) fun b s2 ⟨H2,I2,q2⟩=>?_)
 cases b with
 | true=>
  rw[if_pos rfl]at q2 ⊢
  refine wpAny_passesOwn hp (cg (hb pins s2 σ1 H2 _ I2 q2) fun f s3 q3=>?_)
  cases f with
  | next=>
   obtain ⟨σ3,H3,I3,m',hm,w3⟩:=q3
   exact ⟨m',hm,σ3,H3,I3,w3⟩
  | cont=>
   obtain ⟨σ3,H3,I3,m',hm,w3⟩:=q3
   exact ⟨m',hm,σ3,H3,I3,w3⟩
  | brk=>exact q3
  | ret v=>exact q3
 | false=>
  rw[if_neg Zn]at q2 ⊢
  exact wpAny_execs_nil ⟨σ1,H2,I2,q2⟩
noncomputable def t5 (X:Cx) (scope:Scope):Bool:=(scope.names.all fun y=>y.2 != .cell)&&(scope.kind== .function)&&(scope.names.all fun y=>y.2 != .free||X.env.kindOf y.1==some .cell||X.env.kindOf y.1==some .free)&&(scope.names.all fun y=>y.2 != .local||scope.names.lookup y.1==some .local)
theorem lq {X:Cx} {scope:Scope} (h:t5 X scope=true):(∀y∈scope.names,y.2≠ .cell)/\scope.kind= .function/\(∀y∈scope.names,y.2= .free->X.env.kindOf y.1=some .cell\/X.env.kindOf y.1=some .free)/\(∀x∈scope.names,x.2= .local->scope.names.lookup x.1=some .local):=by
 unfold t5 at h
 simp only[Z3]at h
 obtain ⟨⟨⟨h1,h2⟩,h3⟩,h4⟩:=h
 refine ⟨fun y hy e=>?_,by simpa using h2,fun y hy e=>?_,fun y hy e=>?_⟩
 ·have:=Qdm.mp h1 y hy
  rw[e]at this;simp at this
 ·have:=Qdm.mp h3 y hy
  rw[e]at this
  simpa using this
 ·have:=Qdm.mp h4 y hy
  rw[e]at this
  simpa using this
theorem bV {X:Cx} {tg iter elt:Expr} {ifs:List Expr} {scope:Scope} {pos:Pos} {wi:TI} {g:TG} {tc:TT} {te:TE} (Nc:List Str) (ix:List (Option Nat)) (hi:PI X tg iter wi) (yn:j0 X scope Nc ix)
  (hG: ∀C s H fp,PG (bR X scope C Nc s H fp) tg g) (hT: ∀C s H fp,PF (bR X scope C Nc s H fp) ifs tc) (hE: ∀C s H fp,PE (bR X scope C Nc s H fp) elt te) (bZ:t5 X scope=true:=by rfl) (ka:X.calm=true:=by rfl)
  (hs: ∀x,foldedSetIterable iter X.env x=pure x:=by intro _;rfl):PE X (.ListComp elt [⟨tg,iter,ifs,0⟩] scope pos) (vX wi ix g tc te):=
 let ⟨h1,h2,h3,h4⟩:=lq bZ
 GV Nc ix hi ka yn h1 h2 h3 h4 hG hT hE hs
theorem Dt {X:Cx} {i:Nat} {x:Str} {tg iter elt:Expr} {ifs:List Expr} {scope:Scope} {pos Dh pos':Pos} {wi:TI} {g:TG} {tc:TT} {te:TE} (Nc:List Str) (ix:List (Option Nat)) (hN:X.N.Nodup) (O2:X.N[i]? =some x) (hx:Loc X.env.scope x)
  (hi:PI X tg iter wi) (yn:j0 X scope Nc ix)
  (hG: ∀C s H fp,PG (bR X scope C Nc s H fp) tg g) (hT: ∀C s H fp,PF (bR X scope C Nc s H fp) ifs tc) (hE: ∀C s H fp,PE (bR X scope C Nc s H fp) elt te)
  (O3:swapsWith (.ListComp elt [⟨tg,iter,ifs,0⟩] scope pos) (some (.Name x pos')) Dh.line X.env=pure true:=by rfl) (bZ:t5 X scope=true:=by rfl) (ka:X.calm=true:=by rfl)
  (hs: ∀x,foldedSetIterable iter X.env x=pure x:=by intro _;rfl) (hf:X.fn x=true\/X.env.scope.names.lookup x=some .local:=by first | exact .inl rfl | exact .inr rfl | assumption):
  PS X (.Assign [.Name x pos'] (.ListComp elt [⟨tg,iter,ifs,0⟩] scope pos) Dh) (GC (vX wi ix g tc te) (vL i)):=
 let ⟨h1,h2,h3,h4⟩:=lq bZ
 GW Nc ix hN O2 hx O3 hi ka yn h1 h2 h3 h4 hG hT hE hs hf
section
variable {X:Cx}
def S0:R2:=fun x y H Q=> ∃a b,x= .str (S a)/\y= .str (S b)/\Q (.bl (decide (a=b))) H
def S3:R2:=fun x y H Q=> ∃a b,x= .str (S a)/\y= .str (S b)/\Q (.bl (!decide (a=b))) H
theorem hV:hJ X (compareOp .Eq) S0:=by
 intro pins s σ H x y v u Q I rx ry h
 obtain ⟨a,b,rfl,rfl,q⟩:=h
 exact C2 pins s σ H _ _ v u Q I rx ry ⟨rfl,by rw[IV];exact q⟩
theorem Kz:hJ X (compareOp .NotEq) S3:=by
 intro pins s σ H x y v u Q I rx ry h
 obtain ⟨a,b,rfl,rfl,q⟩:=h
 exact C3 pins s σ H _ _ v u Q I rx ry ⟨rfl,by rw[IV];exact q⟩
theorem I0 {i j:Int}:decide (V.int i=V.int j)=decide (i=j):=by
 by_cases h:i=j
 ·subst h;simp
 ·rw[decide_eq_false h,decide_eq_false]
  intro q
  exact h (V.int.inj q)
theorem I_ {i j:Bool}:decide (V.bl i=V.bl j)=decide (i=j):=by
 by_cases h:i=j
 ·subst h;simp
 ·rw[decide_eq_false h,decide_eq_false]
  intro q
  exact h (V.bl.inj q)
theorem gz:hJ X (compareOp .Eq) (FU fun i j=> .bl (decide (i=j))):=by
 intro pins s σ H x y v u Q I rx ry h
 obtain ⟨a,b,rfl,rfl,q⟩:=h
 exact C2 pins s σ H _ _ v u Q I rx ry ⟨rfl,by rw[I0];exact q⟩
theorem pM:hJ X (compareOp .NotEq) (FU fun i j=> .bl (!decide (i=j))):=by
 intro pins s σ H x y v u Q I rx ry h
 obtain ⟨a,b,rfl,rfl,q⟩:=h
 exact C3 pins s σ H _ _ v u Q I rx ry ⟨rfl,by rw[I0];exact q⟩
def UZ (g:Bool->Bool->V):R2:=fun x y H Q=> ∃i j,x= .bl i/\y= .bl j/\Q (g i j) H
theorem KA:hJ X (compareOp .Eq) (UZ fun i j=> .bl (decide (i=j))):=by
 intro pins s σ H x y v u Q I rx ry h
 obtain ⟨a,b,rfl,rfl,q⟩:=h
 exact C2 pins s σ H _ _ v u Q I rx ry ⟨rfl,by rw[I_];exact q⟩
theorem KC:hJ X (compareOp .NotEq) (UZ fun i j=> .bl (!decide (i=j))):=by
 intro pins s σ H x y v u Q I rx ry h
 obtain ⟨a,b,rfl,rfl,q⟩:=h
 exact C3 pins s σ H _ _ v u Q I rx ry ⟨rfl,by rw[I_];exact q⟩
def S4 (f:List Nat->List Nat->Bool):R2:=fun x y H Q=> ∃a b,x= .str (S a)/\y= .str (S b)/\Q (.bl (f a b)) H
theorem t6:hJ X (compareOp .Lt) (S4 fun a b=>decide (a<b)):=by
 intro pins s σ H x y v u Q I rx ry h
 obtain ⟨a,b,rfl,rfl,q⟩:=h
 exact Bh pins s σ H _ _ v u Q I rx ry ⟨S a,S b,rfl,rfl,by rw[fM,fM];exact q⟩
end
section
variable {X:Cx} {tg:Expr}
theorem bW (K:PySem.W.Frag) (h:X.K=K):Kc X (ON K):=by subst h;exact GK
theorem aV (K:PySem.W.Frag) (h:X.K=K):Kc X (OO K):=by subst h;exact Kd
def Pa (K:PySem.W.Frag):List V->Hp->VK->Prop:=fun xs H Q=> ∃p ys,xs=[.ref p]/\(ba K H p ys\/bY K H p ys)/\Q (.int ys.length) H
theorem aW (K:PySem.W.Frag) (h:X.K=K):dk X (.builtin "len") (Pa K):=by subst h;exact tV
theorem gK (K:PySem.W.Frag) (h:X.K=K):zQ X "str.join" (Dm K):=by subst h;exact Dp
def zV (K:PySem.W.Frag):List V->Hp->VK->Prop:=fun xs H Q=> ∃p ys,xs=[.ref p]/\(ba K H p ys\/bY K H p ys)/\ ∀l,H l=none->Q (.ref l) (upd H l (.lst ys))
theorem ke (K:PySem.W.Frag) (h:X.K=K):dk X (.type "list") (zV K):=by subst h;exact tX
theorem pN (K:PySem.W.Frag) (h:X.K=K):QS X (OQ K):=by subst h;exact GL
theorem eh (K:PySem.W.Frag) (h:X.K=K) {l:Expr} {tl:TE} (hl:PE X l tl):PI X tg l (IK K tl):=by subst h;exact GD hl
theorem zW (K:PySem.W.Frag) (h:X.K=K) {l:Expr} {tl:TE} (hl:PE X l tl):PI X tg l (Ot K tl):=by subst h;exact JY hl
end
section
variable {X:Cx} {o e:Expr} {es:List Expr} {to:TE} {t:TA} {name:Str} {apos iR:Pos} {T id:String} {r:V->List V->Hp->VK->Prop}
theorem eW (K:PySem.W.Frag) (hK:X.K=K) (pa:PlainAttrs T) (slot:Slot T name id) (Kj:typeOf (.builtin id)=pure (.type "method_descriptor")) (hm:zQ X id r) (ho:PE X o to)
  (o_:attributeBase o name X.env (eval o X.env)=eval o X.env:=by rfl) (nC:(apos.endLine==iR.line)=true:=by rfl):PE X (.Call (.Attribute o name apos) [] [] iR) (OR K T r to):=by
 subst hK
 exact Ki pa slot Kj hm ho o_ nC
theorem bK (K:PySem.W.Frag) (hK:X.K=K) (pa:PlainAttrs T) (slot:Slot T name id) (Kj:typeOf (.builtin id)=pure (.type "method_descriptor")) (hm:zQ X id r) (ho:PE X o to) (ha:PA X (e::es) t)
  (o_:attributeBase o name X.env (eval o X.env)=eval o X.env:=by rfl)
  (Kk:((backTo iR (starEach (e::es) X.env)).all (fun x=>!x.1)&&(backToKw iR (keywordEach [] X.env)).all (fun x=>x.1.isSome)
   &&decide ((e::es).length+([]:List Keyword).length+(if ([]:List Keyword).isEmpty then 0 else 1)<30))=true:=by rfl)
  (nC:(apos.endLine==iR.line)=true:=by rfl) (hs:starEach (e::es) X.env=(false,eval e X.env)::starEach es X.env:=by rfl) (yg:(backTo iR (starEach es X.env)).any (·.1)=false:=by rfl):
  PE X (.Call (.Attribute o name apos) (e::es) [] iR) (UK K T r to t):=by
 subst hK
 exact OS pa slot Kj hm ho ha o_ Kk nC hs yg
end
section
variable {X:Cx}
def Pb (K:PySem.W.Frag) (ta:TE):TT:=fun σ H Q=>ta σ H fun x H'=> ∃p xs,x= .ref p/\ba K H' p xs/\Q (!xs.isEmpty) H'
theorem G2 {a:Expr} {ta:TE} (K:PySem.W.Frag) (h:X.K=K) (ha:PE X a ta) (he: ∀whole,isTrue a X.env whole=(do let v <-whole;standAt a.pos;holding [v] (truthy v)):=by intro _;rfl):PT X a (Pb K ta):=by
 subst h
 intro pins s σ H Q I hw
 refine isTrue_plain (cg (ha pins s σ H _ I hw) fun v s1 ⟨x,H1,I1,r1,q1⟩=>?_) (he _)
 obtain ⟨p,xs,rfl,hq,q⟩:=q1
 exact J6 pins s1 σ H1 _ v Q I1 r1 ⟨_, .inl ⟨xs,hq,rfl⟩,q⟩
theorem gg (K:PySem.W.Frag) (h:X.K=K) {es:List Expr} {k:Nat} {t:II} {n:Nat} {pos:Pos} (hc:X.calm=true) (hs:Oj X es t)
  (hn:(assignEach es X.env).length=n:=by rfl) (ny:(assignEach es X.env).findIdx? (·.1)=none:=by rfl):PG X (.Tuple es k pos) (Oq K n t):=by
 subst h
 exact JW hc hs hn ny
end
noncomputable def cP (a b:List Nat):List Nat:=if b<a then b else a
noncomputable def b9:List Nat->List (List Nat)->List Nat
 | a,[]=>a
 | a,b::r=>b9 (cP a b) r
theorem argBest_lt (bt:Nat->Nat->Bool): ∀n,argBest bt n<=n
 | 0=>UP _
 | n+1=>by
  unfold argBest
  split
  ·exact UP _
  ·exact Qb5 (argBest_lt bt n)
section
variable {X:Cx}
theorem KD (K:PySem.W.Frag) (h:X.K=K):hJ X (compareOp .In) (QT K false):=by subst h;exact Bq
theorem G3 (K:PySem.W.Frag) (h:X.K=K):hJ X (compareOp .NotIn) (QT K true):=by subst h;exact tU
end
noncomputable def dF (n:Nat) (l:List Nat):List Nat:=(List.replicate n l).flatten
theorem eK (n:Nat) (l:List Nat):dF (n+1) l=l++dF n l:=by unfold dF;rw[Qc0,Qbb]
theorem yx (n:Nat) (l:List Nat):dF (n+1) l=dF n l++l:=by unfold dF;rw[List.replicate_succ',List.flatten_append,Qbb,List.flatten_nil,Zy]
theorem v8 (n:Nat) (l:List Nat):(dF n l).length=n*l.length:=by
 induction n with
 | zero=>simp[dF]
 | succ n ih=>rw[eK,UO,ih,Qcm,Qdb]
theorem r_ (l:List Nat): ∀(n:Nat) (acc:Array Nat),((List.replicate n (S l).cps).foldl (· ++ ·) acc).toList=acc.toList++dF n l
 | 0,acc=>by simp[dF]
 | n+1,acc=>by
  rw[Qc0,Qbv,r_ l n,eK]
  simp[S]
def Pc:R2:=fun x y H Q=> ∃(l:List Nat) (i:Int),x= .str (S l)/\y= .int i/\(0<=i/\i<=1000000)/\l.length*i.toNat<=sizeLine/\Q (.str (S (dF i.toNat l))) H
theorem t9 {X:Cx}:hJ X (binaryOp .Mult) Pc:=by
 intro pins s σ H x y v u Q I rx ry h
 obtain ⟨l,i,rfl,rfl,⟨h0,h1⟩,hz,q⟩:=h
 obtain ⟨t,rfl⟩:=rx
 obtain ⟨t',rfl⟩:=ry
 have hn:=fL
 have S5:(S l).length=l.length:=di l
 have S6:(l.length:Int)*i<=2 ^ 63 - 1:=by
  have e:((l.length*i.toNat:Nat):Int)=(l.length:Int)*i:=by rw[Qdv,Int.toNat_of_nonneg h0]
  have:((l.length*i.toNat:Nat):Int)<=(sizeLine:Int):=by exact_mod_cast hz
  rw[<-e];omega
 refine P.mul_str (x:=S l) (n:=i) (t:=t) (u:=t') (by
  have e1:decide (i< -(2 ^ 63:Int))=false:=decide_eq_false (by omega)
  have e2:decide (i ≥ 2 ^ 63)=false:=decide_eq_false (by omega)
  rw[e1,e2];rfl) (fun z _=>?_) (fun z _=>?_) ?_
 ·rw[S5]
  have:(l.length:Int)<=(2 ^ 63 - 1) / i:=(Int.le_ediv_iff_mul_le (by omega)).mpr S6
  omega
 ·rw[S5]
  show Builtin.Str.tooLong _=false
  unfold Builtin.Str.tooLong
  exact decide_eq_false (by omega)
 ·by_cases z:i<1
  ·rw[if_pos z]
   have e:i.toNat=0:=by omega
   rw[e]at q
   exact ⟨by decide, .str _,H,I.tok _,⟨_,rfl⟩,q⟩
  ·rw[if_neg z]
   by_cases z2:(i==1||(S l).length==0)=true
   ·rw[if_pos z2]
    have e:dF i.toNat l=l:=by
     rcases Bool.or_eq_true _ _ |>.mp z2 with e | e
     ·have e:i=1:=by simpa using e
      subst e
      show dF 1 l=l
      rw[eK];simp[dF]
     ·have e:l.length=0:=by rw[S5]at e;simpa using e
      have e:l=[]:=Qae.mp e
      subst e
      unfold dF
      simp
    rw[e]at q
    exact ⟨.str _,H,I,⟨_,rfl⟩,q⟩
   ·rw[if_neg z2]
    have e:(⟨(List.replicate i.toNat (S l).cps).foldl (· ++ ·) #[]⟩:Str)=S (dF i.toNat l):=by
     have:=r_ l i.toNat #[]
     show _=(⟨(dF i.toNat l).toArray⟩:Str)
     congr 1
     apply Qcf.mp
     rw[this]
     simp
    rw[e]
    refine ⟨?_, .str _,H,I.tok _,⟨_,rfl⟩,q⟩
    rw[di,v8,Qa1]
    exact hz
section
variable {X:Cx} {pins:List (Addr×Obj)} {σ:St} {H:Hp} {s:Shared} {h':Heap}
theorem Inv.lr {t':Nat} {ch:List Addr} {T:Addr} {ob:HO} (I:Inv X pins σ H s) (k: ∀b o,b∉ch->s.heap.get? b=some o->h'.get? b=some o) (hf: ∀b∈ch,nR X pins H b)
  (hT:s.heap.objs.size<=T) (new:cQ X.prog X.w (upd H T ob) h' T ob):Inv X pins σ (upd H T ob) { s with heap:=h',toks:=t' }:=by
 have hn:=I.bZ.fresh hT
 have IG: ∀b u,H b=some u->b∉ch:=fun b u e z=>by rw[(hf b z).1]at e;cases e
 have neT: ∀b o,s.heap.get? b=some o->b≠T:=fun b o e z=>absurd (Zt (Zj e) hT) (by rw[z];exact ZW _)
 refine I.step (g':=s.gens) (d':=s.drawn) (ch:=ch) (fun b hb=>?_) (fun b o _ _ hc e _=>k b o hc e) (fun b o _ _ hc e _=>⟨o.slots,k b o hc e⟩) (fun b o _ e n=>by rw[ar (neT b o e)];exact n)
  (fun b o hc e=>⟨o,k b o hc e⟩) (fun b xs e=>by rw[ar (au e hn)];exact e) (fun b o u e=>by rw[ar (au e hn)];exact e) (fun b ps e=>⟨#[],by rw[ar (au e hn),e];simp⟩) (fun m hm=>?_) (fun b u e=>?_) I.bare
 ·obtain ⟨_,h2,_,h4,h5,h6⟩:=hf b hb
  exact ⟨h4,h2,h5,h6⟩
 ·obtain ⟨o,es,ep,ho,r⟩:=hm
  exact ⟨o,es,ep,k _ o (fun z=>(hf _ z).2.1 rfl) ho,r⟩
 ·by_cases hb:b=T
  ·subst hb;rw[ag]at e;cases e;exact new
  ·rw[ar hb]at e
   refine (I.bZ b u e).vG (fun c v hc q=>k c v ?_ q) (fun c q=>by rw[ar (au q hn)];exact q) fun c xs q=>by rw[ar (au q hn)];exact q
   rcases hc with z | z
   ·rw[z];exact IG b u e
   ·exact IG c _ z
theorem Inv.oJ {t':Nat} {ch:List Addr} (I:Inv X pins σ H s) (k: ∀b o,b∉ch->s.heap.get? b=some o->h'.get? b=some o) (hf: ∀b∈ch,nR X pins H b):Inv X pins σ H { s with heap:=h',toks:=t' }:=by
 have IG: ∀b u,H b=some u->b∉ch:=fun b u e z=>by rw[(hf b z).1]at e;cases e
 refine I.step (g':=s.gens) (d':=s.drawn) (ch:=ch) (fun b hb=>?_) (fun b o _ _ hc e _=>k b o hc e) (fun b o _ _ hc e _=>⟨o.slots,k b o hc e⟩) (fun b o _ e n=>n)
  (fun b o hc e=>⟨o,k b o hc e⟩) (fun b xs e=>e) (fun b o u e=>e) (fun b ps e=>⟨#[],by rw[e];simp⟩) (fun m hm=>?_) (fun b u e=>?_) I.bare
 ·obtain ⟨_,h2,_,h4,h5,h6⟩:=hf b hb
  exact ⟨h4,h2,h5,h6⟩
 ·obtain ⟨o,es,ep,ho,r⟩:=hm
  exact ⟨o,es,ep,k _ o (fun z=>(hf _ z).2.1 rfl) ho,r⟩
 ·refine (I.bZ b u e).vG (fun c v hc q=>k c v ?_ q) (fun c q=>q) fun c xs q=>q
  rcases hc with z | z
  ·rw[z];exact IG b u e
  ·exact IG c _ z
end
noncomputable def Mt (l:List Nat):It:=⟨fun i _=>i<l.length,fun i H x H'=> ∃T c,l[i]? =some c/\x= .ref T/\H T=none/\H'=upd H T (.tup [.int i, .str (S [c])]),fun i _=>l.length<=i⟩
theorem sd {prog:Program} {w:World} {A:Around} (hh:A.handled=none) (it:Addr) (x:Str) (t:Tok):
  Draws prog w A it [it] x.cps.size (fun i v=> ∃c u,x.cps[i]? =some c/\v= .str ⟨#[c]⟩ u) (fun i h=>h.IsStrIter it (strIterType x) x t i):=by
 by_cases ha:x.cps.all (· <128)=true
 ·have et:strIterType x="str_ascii_iterator":=by unfold strIterType;rw[if_pos ha]
  rw[et];exact Draws.strAscii hh it x t
 ·have et:strIterType x="str_iterator":=by unfold strIterType;rw[if_neg ha]
  rw[et];exact Draws.strWide hh it x t
theorem yy {P:Program} {w:World} {K:PySem.W.Frag} {elts:List Expr} {k:Nat} {pos:Pos} (e it:Addr) (zX:e≠it) (l:List Nat) (t:Tok):
  Turn P w K (.Tuple elts k pos) (Mt l) [e,it] e (fun i h=>i<=l.length/\(∃old,IsEnum h e it i old)/\h.IsStrIter it (strIterType (S l)) (S l) t i) where
 mem:=by simp
 obj:=fun i h st b hb=>by
  obtain ⟨_,⟨old,he⟩,o,ho,hc,hd⟩:=st
  rcases Wz.mp hb with z | z
  ·rw[z];exact ⟨_,he,fun v z=>by cases z⟩
  ·rw[Wv.mp z];exact ⟨o,ho,fun v z=>by rw[hd]at z;cases z⟩
 keep:=fun i h h' st kp=>by
  obtain ⟨h1,⟨old,he⟩,o,ho,r⟩:=st
  exact ⟨h1,⟨old,kp e (by simp) _ he⟩,o,kp it (by simp) o ho,r⟩
 item:=by
  intro X hP hw hK hc i pins s σ H E I hf st hg
  subst hP hw hK
  obtain ⟨_,xM,vw⟩:=st
  have D:=sd (prog:=X.prog) (w:=X.w) (A:=X.A.in1) (I.ok.hd hc) it (S l) t
  have W:=WalksT.enumerateD D e zX (by simpa using zX) (by simp)
  have hi:i<(S l).cps.size:=by rw[mE];exact hg
  refine W.item i s _ _ hi ⟨xM,vw⟩ fun T vals h' tk Pd hT Du v9 hk=>⟨_,rfl,?_⟩
  refine W.go elts k pos i T { s with heap:=h',toks:=tk } _ _ v9 fun h2 v_ yz=>?_
  obtain ⟨tt,x,⟨c,u,FY,rfl⟩,rfl⟩:=Pd
  have FZ:T∉[e,it]:=W.apart i T h' v9
  have pQ:h2.IsTuple T #[.int i tt, .str ⟨#[c]⟩ u]:=by
   obtain ⟨o,ho,r⟩:=Du
   exact ⟨o,yz T o FZ ho,r⟩
  have hl:l[i]? =some c:=by simpa [S]using FY
  refine ⟨.ref T,upd H T (.tup [.int i, .str (S [c])]),?_,rfl,⟨T,c,hl,rfl,I.bZ.fresh hT,rfl⟩,⟨hg,v_.1,v_.2⟩,fun b hb=>?_⟩
  ·refine I.lr (t':=tk) (h':=h2) (fun b o hb y=>yz b o hb (hk b o hb y)) hf hT ?_
   exact ⟨by show 2<=sizeLine;decide,[.int i tt, .str ⟨#[c]⟩ u], .cons ⟨tt,rfl⟩ (.cons ⟨u,rfl⟩ .nil),pQ⟩
  ·rw[ar (fun z:b=T=>FZ (z▸hb))];exact (hf b hb).1
 done:=by
  intro X hP hw hK hc i pins s σ H E I hf st hg
  subst hP hw hK
  obtain ⟨h1,xM,vw⟩:=st
  have e1:i=l.length:=Qdq h1 hg
  have D:=sd (prog:=X.prog) (w:=X.w) (A:=X.A.in1) (I.ok.hd hc) it (S l) t
  have W:=WalksT.enumerateD D e zX (by simpa using zX) (by simp)
  refine W.done s _ _ ?_ fun h' tk hk=>⟨rfl,I.oJ (t':=tk) hk hf⟩
  rw[mE, <-e1]
  exact ⟨xM,vw⟩
 self:=fun _ _ s _ _ st h=>by
  obtain ⟨_,⟨old,he⟩,_⟩:=st
  exact wpAny_pyIter_enum he h
def KG (ta:TA):TI:=fun σ H R=>ta σ H fun vs H1=> ∃l,vs=[.str (S l)]/\R (Mt l) H1
theorem wa {X:Cx} {elts:List Expr} {k:Nat} {pos':Pos} {a:Expr} {ta:TA} {p pos:Pos} (hg:Gl X "enumerate") (hm:X.mg "enumerate"=none) (ha:PA X [a] ta) (hs:starEach [a] X.env=[(false,eval a X.env)]:=by rfl):PI X (.Tuple elts k pos') (.Call (.Name "enumerate" p) [a] [] pos) (KG ta):=by
 intro pins s σ H R I h
 refine Call_ (gv I hg hm boot_enumerate (Z0 (cg (ha pos pins s σ H _ I h) fun us s1 ⟨vs,H1,I1,r1,q1⟩=>?_) hs rfl))
 obtain ⟨l,rfl,q⟩:=q1
 obtain ⟨u,rfl,t,rfl⟩:=vals1 r1
 refine call_enumerate_str fun h' he hit hsz hk=>?_
 refine wpAny_pyIter_enum he ?_
 refine ⟨s1.heap.objs.size+1,[s1.heap.objs.size+1,s1.heap.objs.size],_,_,H1,rfl,I1.kept (t':=s1.toks) hk,yy _ _ (Qcc _) l t,⟨Zg _,⟨_,he⟩,hit⟩,fun b hb=>?_,q⟩
 have iJ:s1.heap.objs.size<=b:=by
  rcases Wz.mp hb with z | z
  ·rw[z];exact Qa0 _
  ·rw[Wv.mp z];exact UP _
 exact I1.o6 iJ (I1.bZ.fresh iJ)
theorem Dv {l:List Nat} {g:TG} {tb:TS} {D:Ends} {σ:St} {H:Hp} (Pv:Nat->St->Hp->Prop) (h0:Pv 0 σ H)
  (hs: ∀i c σ H T,l[i]? =some c->Pv i σ H->H T=none->g (.ref T) σ (upd H T (.tup [.int i, .str (S [c])])) fun σ2 H2=>tb { D with nx:=Pv (i+1),ct:=Pv (i+1),bk:=D.nx } σ2 H2) (hd: ∀σ H,Pv l.length σ H->D.nx σ H):
  ∃W:Nat->Nat->St->Hp->Prop,(∃m,W 0 m σ H)/\ ∀i m σ H,W i m σ H->
   ((Mt l).stop i H/\D.nx σ H)\/((Mt l).go i H/\ ∃N:St->Hp->Prop,(∀σ' H',N σ' H'-> ∃m',m'<m/\W (i+1) m' σ' H')/\ ∀x H',(Mt l).CD i H x H'->g x σ H' fun σ2 H2=>tb { D with nx:=N,ct:=N,bk:=D.nx } σ2 H2):=by
 refine ⟨fun i m σ H=>m=l.length - i/\i<=l.length/\Pv i σ H,⟨l.length,by simp,Zg _,h0⟩,?_⟩
 rintro i m σ H ⟨rfl,hi,p⟩
 by_cases cT:i<l.length
 ·refine .inr ⟨cT,Pv (i+1),fun σ' H' p'=>⟨l.length - (i+1),by omega,rfl,cT,p'⟩,fun x H' y=>?_⟩
  obtain ⟨T,c,hc,rfl,hn,rfl⟩:=y
  exact hs i c σ _ T hc p hn
 ·have e:i=l.length:=by omega
  subst e
  exact .inl ⟨UP _,hd σ H p⟩
section
variable {X:Cx}
theorem G4 {ls:List (List Nat)}: ∀{aJ:List Value},Vals (ls.map fun l=>V.str (S l)) aJ->StrsAre aJ (ls.map S):=by
 induction ls with
 | nil=>intro aJ r;cases r;exact .nil
 | cons l ls ih=>
  intro aJ r
  cases r with
  | cons r1 r2=>
   obtain ⟨t,rfl⟩:=r1
   exact .cons _ t (ih r2)
theorem zY: ∀{aJ:List Value} {ss:List Str},StrsAre aJ ss->Vals ((ss.map fun x=>x.cps.toList).map fun l=>V.str (S l)) aJ
 | _,_, .nil=> .nil
 | _,_, .cons x t h=> .cons ⟨t,by rw[<-O5]⟩ (zY h)
theorem se: ∀(p:Str) (r:List Str),risingS p r=true->(p::r).Pairwise fun a b=> ¬b.cps.toList<a.cps.toList
 | p,[],_=>List.pairwise_singleton _ _
 | p,x::r,h=>by
  have h':(!ltCps x.cps.toList p.cps.toList&&risingS x r)=true:=h
  rw[Z3,ltCps_eq]at h'
  have h1: ¬x.cps.toList<p.cps.toList:=by simpa using h'.1
  have ih:=se x r h'.2
  refine Qar.mpr ⟨fun y hy=>?_,ih⟩
  rcases Wz.mp hy with z | z
  ·rw[z];exact h1
  ·exact List.le_trans (show p.cps.toList<=x.cps.toList from h1) (show x.cps.toList<=y.cps.toList from List.rel_of_pairwise_cons ih z)
theorem Bz {ss:List Str} (h:sortedS ss=true):(ss.map fun x=>x.cps.toList).Pairwise fun a b=> ¬b<a:=by
 rw[Z8]
 cases ss with
 | nil=>exact List.Pairwise.nil
 | cons x r=>exact se x r h
def KH (K:PySem.W.Frag):List V->Hp->VK->Prop:=fun xs H Q=> ∃(p:Addr) (ls:List (List Nat)),xs=[.ref p]/\ba K H p (ls.map fun l=>V.str (S l))/\ls.length<64/\ ∀(q:Addr) (S7:List (List Nat)),H q=none->S7.Perm ls->(S7.Pairwise fun a b=> ¬b<a)->Q (.ref q) (upd H q (.lst (S7.map fun l=>V.str (S l))))
theorem lA (K:PySem.W.Frag) (h:X.K=K):dk X (.builtin "sorted") (KH K):=by
 subst h
 intro pins s σ H xs us Q I r h
 obtain ⟨p,ls,rfl,hq,hn,q⟩:=h
 obtain ⟨u,rfl,ru⟩:=vals1 r
 cases ru
 obtain ⟨aJ,rv,pl,hz⟩:=I.list hq
 have hlen:aJ.length=ls.length:=by rw[<-rv.length,QW]
 refine sorted_strs (l:=p) (vs:=aJ) (ss:=ls.map S) pl.isList (G4 rv) (by omega) fun out CH h1 h2 h3=>?_
 obtain ⟨e,he⟩:=sortedAll_at s.heap aJ out
 have pR:(CH.map fun x=>x.cps.toList).Perm ls:=by
  have:=h2.map fun x:Str=>x.cps.toList
  rw[ZV]at this
  have e2:ls.map ((fun x:Str=>x.cps.toList) ∘ S)=ls:=by
   have: ∀l∈ls,((fun x:Str=>x.cps.toList) ∘ S) l=l:=fun l _=>fM l
   calc ls.map _=ls.map id:=ZJ this
    _=ls:=Qdo ls
  rwa [e2]at this
 have zR:=pR.length_eq
 have WG:(64:Nat)<sizeLine:=by decide
 have Pe:((CH.map fun x=>x.cps.toList).map fun l=>V.str (S l)).length<=sizeLine:=by rw[QW,zR];omega
 refine ⟨.ref (s.heap.objs.size+1),_,I.laid (t':=s.toks) (a:=s.heap.objs.size+1) (o:= .lst ((CH.map fun x=>x.cps.toList).map fun l=>V.str (S l))) (fun b o e=>sortedAll_old e) (Qa0 _) ⟨Pe,out.toList,e,zY h1,by simpa [seqObj]using he⟩,rfl,q _ _ (I.bZ.fresh (Qa0 _)) pR (Bz h3)⟩
end
section
variable {X:Cx}
theorem zZ {ls:List (List Nat)} {l:List Nat} (h:ls.Perm (l.map fun c=>[c])): ∃l':List Nat,ls=l'.map (fun c=>[c])/\l'.Perm l:=by
 refine ⟨ls.flatten,?_,?_⟩
 ·have hs: ∀x∈ls, ∃c,x=[c]:=fun x hx=>by
   obtain ⟨c,_,e⟩:=Zu.mp (h.mem_iff.mp hx)
   exact ⟨c,e.symm⟩
  clear h
  induction ls with
  | nil=>rfl
  | cons x ls ih=>
   obtain ⟨c,rfl⟩:=hs x YO
   rw[Qbb,Wx, <-ih fun y hy=>hs y (YQ _ hy)]
   rfl
 ·have:=h.flatten
  have e:(l.map fun c=>[c]).flatten=l:=by
   clear h this
   induction l with
   | nil=>rfl
   | cons c l ih=>rw[Zd,Qbb,ih];rfl
  rwa [e]at this
theorem z9 {l:List Nat} (h:(l.map fun c=>[c]).Pairwise fun a b=> ¬b<a):l.Pairwise fun a b=>a<=b:=by
 rw[Z8]at h
 refine h.imp fun {a b} z=>?_
 by_cases y:a<=b
 ·exact y
 ·exact absurd (Qcv.mpr (.inl (by omega))) z
end
section
variable {prog:Program} {w:World} {A:Around} {E:Value->Shared->Prop} {s:Shared}
theorem yA {it tp:Addr} {j:Nat} {xs:Array Value} {y:Value} {Q:Value->Shared->Prop} (hi:s.heap.IsTupleIter it tp j) (ht:s.heap.IsTuple tp xs) (hy:xs[j]? =some y)
  (q: ∀h2,h2.IsTupleIter it tp (j+1)->Heap.SameBut it s.heap h2->Q y { s with heap:=h2 }):wpAny (model prog w) A (Builtin.SmallTypes.nextOf (.ref it)) Q E s:=by
 obtain ⟨oi,eo,ec,ed⟩:=id hi
 obtain ⟨ot,et,_,nt,dt⟩:=ht
 unfold Builtin.SmallTypes.nextOf
 refine wpAny_bind (wpAny_callSpecial?_slot (name:=Str.ofString "__next__") hi.typeIs F.slot_tuple_iterator_next (wpAny_call_entry F.slot_tuple_iterator_next hi.typeIs F.entry_tuple_iterator_next ?_ (F.args_tuple_iterator_next_1 _)))
 refine wpAny_bind (m:=field (.ref it) 0) (wpAny_field eo ed (x:= .ref tp) rfl ?_)
 show wpAny (model prog w) _ (if (Value.ref tp==Value.none)=true then _ else _) _ E s
 rw[if_neg (show ¬(Value.ref tp==Value.none)=true from Zn)]
 refine wpAny_bind (m:=field (.ref it) 1) (wpAny_field eo ed (x:= .int j 0) rfl ?_)
 refine wpAny_bind (m:=seqItems? (.ref tp)) (wpAny_seqItems et dt ?_)
 simp only[YR,hy]
 refine wpAny_bind (wpAny_setField eo ed (by simp) (wpAny_pure ⟨y,rfl,wpAny_pure (q _ ⟨_,Qab _ eo (Obj.isFreed_of_fields (Obj.data_mapFields ed _)),(Obj.cls_mapFields ..).trans ec,by rw[Obj.data_mapFields ed];simp[rawInt]⟩ (Qdn ..))⟩))
theorem BA {it tp:Addr} {j:Nat} {xs:Array Value} {Q:Value->Shared->Prop} (hh:A.handled=none) (hi:s.heap.IsTupleIter it tp j) (ht:s.heap.IsTuple tp xs) (hy:xs[j]? =none)
  (q: ∀h2 e,Heap.ExtBut it s.heap h2->(∃o,h2.get? e=some o/\o.cls= .type "StopIteration")->E (.ref e) { s with heap:=h2 }):wpAny (model prog w) A (Builtin.SmallTypes.nextOf (.ref it)) Q E s:=by
 obtain ⟨oi,eo,ec,ed⟩:=id hi
 obtain ⟨ot,et,_,nt,dt⟩:=ht
 unfold Builtin.SmallTypes.nextOf
 refine wpAny_bind (wpAny_callSpecial?_slot (name:=Str.ofString "__next__") hi.typeIs F.slot_tuple_iterator_next (wpAny_call_entry F.slot_tuple_iterator_next hi.typeIs F.entry_tuple_iterator_next ?_ (F.args_tuple_iterator_next_1 _)))
 refine wpAny_bind (m:=field (.ref it) 0) (wpAny_field eo ed (x:= .ref tp) rfl ?_)
 show wpAny (model prog w) _ (if (Value.ref tp==Value.none)=true then _ else _) _ E s
 rw[if_neg (show ¬(Value.ref tp==Value.none)=true from Zn)]
 refine wpAny_bind (m:=field (.ref it) 1) (wpAny_field eo ed (x:= .int j 0) rfl ?_)
 refine wpAny_bind (m:=seqItems? (.ref tp)) (wpAny_seqItems et dt ?_)
 simp only[YR,hy]
 refine wpAny_bind (wpAny_rule (wpAny_bind (wpAny_setField eo ed (by simp) ?_)))
 refine wpAny_bind (m:=newExc (.type "StopIteration") []) ?_
 simp only[newExc,newTuple]
 refine wpAny_bind (wpAny_newObj_type (wpAny_bind (m:=firstArgMember _ _) (wpAny_of_eq (a:=Value.none) (by first | rfl | (simp only[firstArgMember];rfl)) (wpAny_newObj_type ?_ (by size_fits)))) (by size_fits))
 simp only[raiseNew]
 refine wpAny_bind (wpAny_handled ?_);first | rw[show A.in1.handled=none from hh] | rw[hh]
 exact wpAny_bind (wpAny_pure (wpAny_throw (q _ _ (((Qdn ..).extBut.push _).push _) ⟨_,Ze _ rfl,rfl⟩)))
theorem i_ (hh:A.handled=none) (it tp:Addr) (ne:tp≠it) (xs:Array Value):
  Draws prog w A it [it,tp] xs.size (fun i v=>xs[i]? =some v) (fun i h=>h.IsTupleIter it tp i/\h.IsTuple tp xs) where
 live:=fun _ _ z=>let ⟨o,e,_⟩:=z.1;⟨o,e⟩
 frame:=fun _ _ _ z k=>by
  obtain ⟨⟨o,e,r⟩,o2,e2,r2⟩:=z
  exact ⟨⟨o,k it (by simp) o e,r⟩,o2,k tp (by simp) o2 e2,r2⟩
 item:=fun i s Q E hi z q=>yA z.1 z.2 (y:=xs[i]) (by simp[hi]) fun h2 z2 sb=>q _ h2 s.toks (by simp[hi]) ⟨z2,z.2.extBut sb.extBut ne⟩ sb
 done:=fun s Q E z q=>BA hh z.1 z.2 (by simp) q
theorem wb (l:Addr) (items:Array Value) (n:Nat) (S8:Option Addr) (sl:Array (Option Value)):
  Meets (Builtin.«enumerate.__new__» ⟨[.type "enumerate", .ref l],[]⟩) (fun _ R s=>s.heap.get? l=some { cls:= .type "tuple",dict:=S8,data:= .seq items n,slots:=sl }/\
   R (.ok (.ret (.ref (s.heap.push { cls:= .type "tuple_iterator",data:= .fields #[.ref l, .int 0 0] }).objs.size)))
    { s with heap:=(s.heap.push { cls:= .type "tuple_iterator",data:= .fields #[.ref l, .int 0 0] }).push { cls:= .type "enumerate",data:= .fields #[.none, .bool false, .ref s.heap.objs.size,rawInt 0, .none, .none] } }):=
 .of_wp fun prog w A R s h=>by
  obtain ⟨hp,g,d,tk,os⟩:=s;obtain ⟨hl,q⟩:=h;have KI:=sub_enumerate
  have hT:Heap.IsTuple (Shared.heap ⟨hp,g,d,tk,os⟩) l items:=⟨_,hl,rfl,n,rfl⟩
  wp_walk using AutoSeq1.wpAny_loadPart' hl
  refine wpAny_stack_any fun st=>wpAny_pure ?_
  split
  ·rename_i c _ _ _ _ _
   cases (c==Value.type "enumerate")<;>(wp_walk using AutoSeq1.wpAny_loadPart' hl,wpAny_pyIter_tuple hT;exact ⟨_,rfl,q⟩)
  ·wp_walk using AutoSeq1.wpAny_loadPart' hl,wpAny_pyIter_tuple hT
   exact ⟨_,rfl,q⟩
theorem yB {l:Addr} {items:Array Value} {Q:Value->Shared->Prop} (hL:s.heap.IsTuple l items)
  (h: ∀h',IsEnum h' (s.heap.objs.size+1) s.heap.objs.size 0 .none->h'.IsTupleIter s.heap.objs.size l 0->(∀b o,s.heap.get? b=some o->h'.get? b=some o)->Q (.ref (s.heap.objs.size+1)) { s with heap:=h' }):
  wpAny (model prog w) A (call (.type "enumerate") [.ref l]) Q E s:=by
 obtain ⟨⟨c,S8,dt,sl⟩,hl,hc,n,hd⟩:=hL
 cases (show c= .type "tuple" from hc)
 cases (show dt= .seq items n from hd)
 refine callType_new F.called_enumerate (by decide) (F.typeCall_enumerate_1 _) (F.newCall_enumerate_1 _) (fun ob=>F.args_object_init_2 ob _) F.entry_enumerate_new (wb l items n S8 sl) ⟨hl,?_⟩
 have hz:(s.heap.push { cls:= .type "tuple_iterator",data:= .fields #[.ref l, .int 0 0] }).objs.size=s.heap.objs.size+1:=Qal ..
 show _/\_
 rw[hz]
 have he:IsEnum ((s.heap.push { cls:= .type "tuple_iterator",data:= .fields #[.ref l, .int 0 0] }).push { cls:= .type "enumerate",data:= .fields #[.none, .bool false, .ref s.heap.objs.size,rawInt 0, .none, .none] }) (s.heap.objs.size+1) s.heap.objs.size 0 .none:=by
  have:=Ze (s.heap.push { cls:= .type "tuple_iterator",data:= .fields #[.ref l, .int 0 0] }) (o:={ cls:= .type "enumerate",data:= .fields #[.none, .bool false, .ref s.heap.objs.size,rawInt 0, .none, .none] }) rfl
  rwa [hz]at this
 exact ⟨⟨_,he,rfl⟩,h _ he ⟨_,Mr _ (Ze _ rfl),rfl,rfl⟩ fun b o x=>Mr _ (Mr _ x)⟩
end
noncomputable def Dw (K:PySem.W.Frag) (a:Addr):It:=⟨fun i H=> ∃xs x,bY K H a xs/\xs[i]? =some x,fun i H x H'=> ∃T y,(∀xs,bY K H a xs->xs[i]? =some y)/\x= .ref T/\H T=none/\H'=upd H T (.tup [.int i,y]),fun i H=> ∃xs,bY K H a xs/\xs.length=i⟩
noncomputable def Dy (K:PySem.W.Frag) (a:Addr):It:=⟨fun i H=> ∃xs x,ba K H a xs/\xs[i]? =some x,fun i H x H'=> ∃T y,(∀xs,ba K H a xs->xs[i]? =some y)/\x= .ref T/\H T=none/\H'=upd H T (.tup [.int i,y]),fun i H=> ∃xs,ba K H a xs/\xs.length=i⟩
theorem yC {P:Program} {w:World} {K:PySem.W.Frag} {elts:List Expr} {k:Nat} {pos:Pos} (e it a:Addr) (zX:e≠it) (Ph:a≠e) (Pj:a≠it):
  Turn P w K (.Tuple elts k pos) (Dw K a) [e,it] e (fun i h=>(∃old,IsEnum h e it i old)/\h.IsTupleIter it a i) where
 mem:=by simp
 obj:=fun i h st b hb=>by
  obtain ⟨⟨old,he⟩,o,ho,hc,hd⟩:=st
  rcases Wz.mp hb with z | z
  ·rw[z];exact ⟨_,he,fun v z=>by cases z⟩
  ·rw[Wv.mp z];exact ⟨o,ho,fun v z=>by rw[hd]at z;cases z⟩
 keep:=fun i h h' st kp=>by
  obtain ⟨⟨old,he⟩,o,ho,r⟩:=st
  exact ⟨⟨old,kp e (by simp) _ he⟩,o,kp it (by simp) o ho,r⟩
 item:=by
  intro X hP hw hK hc i pins s σ H E I hf st hg
  subst hP hw hK
  obtain ⟨xM,vw⟩:=st
  obtain ⟨xs,x,hq,hx⟩:=hg
  obtain ⟨aJ,rv,p,hz⟩:=I.tuple hq
  obtain ⟨u0,hu,ru⟩:=rv.get hx
  have D:=i_ (prog:=X.prog) (w:=X.w) (A:=X.A.in1) (I.ok.hd hc) it a Pj aJ.toArray
  have W:=WalksT.enumerateD D e zX (by simp;exact ⟨zX,Ne.symm Ph⟩) (by simp)
  have S9:i<aJ.toArray.size:=by rw[YN];exact (Kr.mp hu).1
  refine W.item i s _ _ S9 ⟨xM,vw,p⟩ fun T vals h' tk Pd hT Du v9 hk=>⟨_,rfl,?_⟩
  refine W.go elts k pos i T { s with heap:=h',toks:=tk } _ _ v9 fun h2 v_ yz=>?_
  obtain ⟨tt,x2,Pk,rfl⟩:=Pd
  have ex:x2=u0:=by
   rw[List.getElem?_toArray]at Pk
   exact Zc (Pk.symm.trans hu)
  subst ex
  have FZ:T∉[e,it]:=W.apart i T h' v9
  have pQ:h2.IsTuple T #[.int i tt,x2]:=by
   obtain ⟨o,ho,r⟩:=Du
   exact ⟨o,yz T o FZ ho,r⟩
  refine ⟨.ref T,upd H T (.tup [.int i,x]),?_,rfl,⟨T,x,fun ys hy=>by rw[I.mq hy hq];exact hx,rfl,I.bZ.fresh hT,rfl⟩,⟨v_.1,v_.2.1⟩,fun b hb=>?_⟩
  ·refine I.lr (t':=tk) (h':=h2) (fun b o hb y=>yz b o hb (hk b o hb y)) hf hT ?_
   exact ⟨by show 2<=sizeLine;decide,[.int i tt,x2], .cons ⟨tt,rfl⟩ (.cons ru .nil),pQ⟩
  ·rw[ar (fun z:b=T=>FZ (z▸hb))];exact (hf b hb).1
 done:=by
  intro X hP hw hK hc i pins s σ H E I hf st hg
  subst hP hw hK
  obtain ⟨xM,vw⟩:=st
  obtain ⟨xs,hq,hx⟩:=hg
  obtain ⟨aJ,rv,p,hz⟩:=I.tuple hq
  have hl:=rv.length
  have D:=i_ (prog:=X.prog) (w:=X.w) (A:=X.A.in1) (I.ok.hd hc) it a Pj aJ.toArray
  have W:=WalksT.enumerateD D e zX (by simp;exact ⟨zX,Ne.symm Ph⟩) (by simp)
  refine W.done s _ _ ?_ fun h' tk hk=>⟨rfl,I.oJ (t':=tk) hk hf⟩
  have e1:aJ.toArray.size=i:=by rw[YN];omega
  rw[e1]
  exact ⟨xM,vw,p⟩
 self:=fun _ _ s _ _ st h=>by
  obtain ⟨⟨old,he⟩,_⟩:=st
  exact wpAny_pyIter_enum he h
theorem yD {P:Program} {w:World} {K:PySem.W.Frag} {elts:List Expr} {k:Nat} {pos:Pos} (e it a:Addr) (zX:e≠it) (Ph:a≠e) (Pj:a≠it):
  Turn P w K (.Tuple elts k pos) (Dy K a) [e,it] e (fun i h=>(∃old,IsEnum h e it i old)/\h.IsListIter it a i) where
 mem:=by simp
 obj:=fun i h st b hb=>by
  obtain ⟨⟨old,he⟩,o,ho,hc,hd⟩:=st
  rcases Wz.mp hb with z | z
  ·rw[z];exact ⟨_,he,fun v z=>by cases z⟩
  ·rw[Wv.mp z];exact ⟨o,ho,fun v z=>by rw[hd]at z;cases z⟩
 keep:=fun i h h' st kp=>by
  obtain ⟨⟨old,he⟩,o,ho,r⟩:=st
  exact ⟨⟨old,kp e (by simp) _ he⟩,o,kp it (by simp) o ho,r⟩
 item:=by
  intro X hP hw hK hc i pins s σ H E I hf st hg
  subst hP hw hK
  obtain ⟨xM,vw⟩:=st
  obtain ⟨xs,x,hq,hx⟩:=hg
  obtain ⟨aJ,rv,p,hz⟩:=I.list hq
  obtain ⟨u0,hu,ru⟩:=rv.get hx
  have D:=Draws.list (prog:=X.prog) (w:=X.w) (A:=X.A.in1) (I.ok.hd hc) it a Pj aJ.toArray
  have W:=WalksT.enumerateD D e zX (by simp;exact ⟨zX,Ne.symm Ph⟩) (by simp)
  have S9:i<aJ.toArray.size:=by rw[YN];exact (Kr.mp hu).1
  refine W.item i s _ _ S9 ⟨xM,vw,p.isList⟩ fun T vals h' tk Pd hT Du v9 hk=>⟨_,rfl,?_⟩
  refine W.go elts k pos i T { s with heap:=h',toks:=tk } _ _ v9 fun h2 v_ yz=>?_
  obtain ⟨tt,x2,Pk,rfl⟩:=Pd
  have ex:x2=u0:=by
   rw[List.getElem?_toArray]at Pk
   exact Zc (Pk.symm.trans hu)
  subst ex
  have FZ:T∉[e,it]:=W.apart i T h' v9
  have pQ:h2.IsTuple T #[.int i tt,x2]:=by
   obtain ⟨o,ho,r⟩:=Du
   exact ⟨o,yz T o FZ ho,r⟩
  refine ⟨.ref T,upd H T (.tup [.int i,x]),?_,rfl,⟨T,x,fun ys hy=>by rw[I.vK hy hq];exact hx,rfl,I.bZ.fresh hT,rfl⟩,⟨v_.1,v_.2.1⟩,fun b hb=>?_⟩
  ·refine I.lr (t':=tk) (h':=h2) (fun b o hb y=>yz b o hb (hk b o hb y)) hf hT ?_
   exact ⟨by show 2<=sizeLine;decide,[.int i tt,x2], .cons ⟨tt,rfl⟩ (.cons ru .nil),pQ⟩
  ·rw[ar (fun z:b=T=>FZ (z▸hb))];exact (hf b hb).1
 done:=by
  intro X hP hw hK hc i pins s σ H E I hf st hg
  subst hP hw hK
  obtain ⟨xM,vw⟩:=st
  obtain ⟨xs,hq,hx⟩:=hg
  obtain ⟨aJ,rv,p,hz⟩:=I.list hq
  have hl:=rv.length
  have D:=Draws.list (prog:=X.prog) (w:=X.w) (A:=X.A.in1) (I.ok.hd hc) it a Pj aJ.toArray
  have W:=WalksT.enumerateD D e zX (by simp;exact ⟨zX,Ne.symm Ph⟩) (by simp)
  refine W.done s _ _ ?_ fun h' tk hk=>⟨rfl,I.oJ (t':=tk) hk hf⟩
  have e1:aJ.toArray.size=i:=by rw[YN];omega
  rw[e1]
  exact ⟨xM,vw,p.isList⟩
 self:=fun _ _ s _ _ st h=>by
  obtain ⟨⟨old,he⟩,_⟩:=st
  exact wpAny_pyIter_enum he h
def KJ (K:PySem.W.Frag) (ta:TA):TI:=fun σ H R=>ta σ H fun vs H1=> ∃a,vs=[.ref a]/\(∃xs,bY K H1 a xs)/\R (Dw K a) H1
def KL (K:PySem.W.Frag) (ta:TA):TI:=fun σ H R=>ta σ H fun vs H1=> ∃a,vs=[.ref a]/\(∃xs,ba K H1 a xs)/\R (Dy K a) H1
theorem wc {X:Cx} (K:PySem.W.Frag) (hK:X.K=K) {elts:List Expr} {k:Nat} {pos':Pos} {a:Expr} {ta:TA} {p pos:Pos} (hg:Gl X "enumerate") (hm:X.mg "enumerate"=none) (ha:PA X [a] ta) (hs:starEach [a] X.env=[(false,eval a X.env)]:=by rfl):PI X (.Tuple elts k pos') (.Call (.Name "enumerate" p) [a] [] pos) (KJ K ta):=by
 subst hK
 intro pins s σ H R I h
 refine Call_ (gv I hg hm boot_enumerate (Z0 (cg (ha pos pins s σ H _ I h) fun us s1 ⟨vs,H1,I1,r1,q1⟩=>?_) hs rfl))
 obtain ⟨b,rfl,⟨xs,hq⟩,q⟩:=q1
 obtain ⟨u,rfl,ru⟩:=vals1 r1
 cases ru
 obtain ⟨aJ,rv,pl,hz⟩:=I1.tuple hq
 obtain ⟨ob,eb,_⟩:=id pl
 have cT:b<s1.heap.objs.size:=Zj eb
 refine yB pl fun h' he hit hk=>wpAny_pyIter_enum he ?_
 refine ⟨s1.heap.objs.size+1,[s1.heap.objs.size+1,s1.heap.objs.size],_,_,H1,rfl,I1.kept (t':=s1.toks) hk,yC _ _ b (Qcc _) (Zp (Qav cT)) (Zp cT),⟨⟨_,he⟩,hit⟩,fun c hb=>?_,q⟩
 have iJ:s1.heap.objs.size<=c:=by
  rcases Wz.mp hb with z | z
  ·rw[z];exact Qa0 _
  ·rw[Wv.mp z];exact UP _
 exact I1.o6 iJ (I1.bZ.fresh iJ)
theorem wd {X:Cx} (K:PySem.W.Frag) (hK:X.K=K) {elts:List Expr} {k:Nat} {pos':Pos} {a:Expr} {ta:TA} {p pos:Pos} (hg:Gl X "enumerate") (hm:X.mg "enumerate"=none) (ha:PA X [a] ta) (hs:starEach [a] X.env=[(false,eval a X.env)]:=by rfl):PI X (.Tuple elts k pos') (.Call (.Name "enumerate" p) [a] [] pos) (KL K ta):=by
 subst hK
 intro pins s σ H R I h
 refine Call_ (gv I hg hm boot_enumerate (Z0 (cg (ha pos pins s σ H _ I h) fun us s1 ⟨vs,H1,I1,r1,q1⟩=>?_) hs rfl))
 obtain ⟨b,rfl,⟨xs,hq⟩,q⟩:=q1
 obtain ⟨u,rfl,ru⟩:=vals1 r1
 cases ru
 obtain ⟨aJ,rv,pl,hz⟩:=I1.list hq
 obtain ⟨ob,eb,_⟩:=id pl.isList
 have cT:b<s1.heap.objs.size:=Zj eb
 refine call_enumerate_list pl.isList fun h' he hit hsz hk=>wpAny_pyIter_enum he ?_
 refine ⟨s1.heap.objs.size+1,[s1.heap.objs.size+1,s1.heap.objs.size],_,_,H1,rfl,I1.kept (t':=s1.toks) hk,yD _ _ b (Qcc _) (Zp (Qav cT)) (Zp cT),⟨⟨_,he⟩,hit⟩,fun c hb=>?_,q⟩
 have iJ:s1.heap.objs.size<=c:=by
  rcases Wz.mp hb with z | z
  ·rw[z];exact Qa0 _
  ·rw[Wv.mp z];exact UP _
 exact I1.o6 iJ (I1.bZ.fresh iJ)
theorem si {K:PySem.W.Frag} {a:Addr} {xs:List V} {g:TG} {tb:TS} {D:Ends} {σ:St} {H:Hp} (Pv:Nat->St->Hp->Prop) (h0:Pv 0 σ H) (hl: ∀i σ H,i<=xs.length->Pv i σ H->bY K H a xs)
  (hs: ∀i x σ H T,xs[i]? =some x->Pv i σ H->H T=none->g (.ref T) σ (upd H T (.tup [.int i,x])) fun σ2 H2=>tb { D with nx:=Pv (i+1),ct:=Pv (i+1),bk:=D.nx } σ2 H2) (hd: ∀σ H,Pv xs.length σ H->D.nx σ H):
  ∃W:Nat->Nat->St->Hp->Prop,(∃m,W 0 m σ H)/\ ∀i m σ H,W i m σ H->
   ((Dw K a).stop i H/\D.nx σ H)\/((Dw K a).go i H/\ ∃N:St->Hp->Prop,(∀σ' H',N σ' H'-> ∃m',m'<m/\W (i+1) m' σ' H')/\ ∀x H',(Dw K a).CD i H x H'->g x σ H' fun σ2 H2=>tb { D with nx:=N,ct:=N,bk:=D.nx } σ2 H2):=by
 refine ⟨fun i m σ H=>m=xs.length - i/\i<=xs.length/\Pv i σ H,⟨xs.length,by simp,Zg _,h0⟩,?_⟩
 rintro i m σ H ⟨rfl,hi,p⟩
 have hq:=hl i σ H hi p
 by_cases cT:i<xs.length
 ·refine .inr ⟨⟨xs,xs[i],hq,by simp[cT]⟩,Pv (i+1),fun σ' H' p'=>⟨xs.length - (i+1),by omega,rfl,cT,p'⟩,fun x H' y=>?_⟩
  obtain ⟨T,z,hz,rfl,hn,rfl⟩:=y
  exact hs i z σ _ T (hz xs hq) p hn
 ·have e:i=xs.length:=by omega
  subst e
  exact .inl ⟨⟨xs,hq,rfl⟩,hd σ H p⟩
theorem sj {K:PySem.W.Frag} {a:Addr} {xs:List V} {g:TG} {tb:TS} {D:Ends} {σ:St} {H:Hp} (Pv:Nat->St->Hp->Prop) (h0:Pv 0 σ H) (hl: ∀i σ H,i<=xs.length->Pv i σ H->ba K H a xs)
  (hs: ∀i x σ H T,xs[i]? =some x->Pv i σ H->H T=none->g (.ref T) σ (upd H T (.tup [.int i,x])) fun σ2 H2=>tb { D with nx:=Pv (i+1),ct:=Pv (i+1),bk:=D.nx } σ2 H2) (hd: ∀σ H,Pv xs.length σ H->D.nx σ H):
  ∃W:Nat->Nat->St->Hp->Prop,(∃m,W 0 m σ H)/\ ∀i m σ H,W i m σ H->
   ((Dy K a).stop i H/\D.nx σ H)\/((Dy K a).go i H/\ ∃N:St->Hp->Prop,(∀σ' H',N σ' H'-> ∃m',m'<m/\W (i+1) m' σ' H')/\ ∀x H',(Dy K a).CD i H x H'->g x σ H' fun σ2 H2=>tb { D with nx:=N,ct:=N,bk:=D.nx } σ2 H2):=by
 refine ⟨fun i m σ H=>m=xs.length - i/\i<=xs.length/\Pv i σ H,⟨xs.length,by simp,Zg _,h0⟩,?_⟩
 rintro i m σ H ⟨rfl,hi,p⟩
 have hq:=hl i σ H hi p
 by_cases cT:i<xs.length
 ·refine .inr ⟨⟨xs,xs[i],hq,by simp[cT]⟩,Pv (i+1),fun σ' H' p'=>⟨xs.length - (i+1),by omega,rfl,cT,p'⟩,fun x H' y=>?_⟩
  obtain ⟨T,z,hz,rfl,hn,rfl⟩:=y
  exact hs i z σ _ T (hz xs hq) p hn
 ·have e:i=xs.length:=by omega
  subst e
  exact .inl ⟨⟨xs,hq,rfl⟩,hd σ H p⟩
theorem BB {l:List Nat} {σc:St} {g:TG} {tc:TT} {te:TE} {Q:VK} {H1:Hp} (Pv:Nat->List V->Hp->Prop) (hn:l.length<sizeLine) (h0:Pv 0 [] H1)
  (hs: ∀(i c:Nat) (acc:List V) (H:Hp) (T:Addr) (Nx:List V->Hp->Prop),l[i]? =some c->acc.length<=i->Pv i acc H->H T=none->(∀ck H',ck.length<=i+1->Pv (i+1) ck H'->Nx ck H')->
   g (.ref T) σc (upd H T (.tup [.int i, .str (S [c])])) fun σ2 H2=>Wk σc σ2/\tc σ2 H2 fun b H3=>if b=true then te σ2 H3 fun v H4=>Nx (acc++[v]) H4 else Nx acc H3)
  (hd: ∀acc H D,acc.length<=l.length->Pv l.length acc H->H D=none->Q (.ref D) (upd H D (.lst acc))):nE (Mt l) σc g tc te Q H1:=by
 refine ⟨fun i m acc H=>m=l.length - i/\i<=l.length/\acc.length<=i/\Pv i acc H,⟨l.length,by simp,Zg _,UP _,h0⟩,?_⟩
 rintro i m acc H ⟨rfl,hi,hl,p⟩
 refine ⟨by omega,?_⟩
 by_cases cT:i<l.length
 ·refine .inr ⟨cT,fun x H' y=>?_⟩
  obtain ⟨T,c,hc,rfl,hT,rfl⟩:=y
  exact hs i c acc _ T (fun ck H'=> ∃m',m'<l.length - i/\(m'=l.length - (i+1)/\i+1<=l.length/\ck.length<=i+1/\Pv (i+1) ck H')) hc hl p hT fun ck H' h1 h2=>⟨l.length - (i+1),by omega,rfl,cT,h1,h2⟩
 ·have e:i=l.length:=by omega
  subst e
  exact .inl ⟨UP _,fun D hD=>hd acc H D hl p hD⟩
section
variable {X:Cx}
def Dz (K:PySem.W.Frag):List V->Hp->VK->Prop:=fun xs H Q=>(∃l:List Nat,xs=[.str (S l)]/\l.length<=sizeLine/\ ∀p,H p=none->Q (.ref p) (upd H p (.lst (cI l))))\/zV K xs H Q
theorem t_ (K:PySem.W.Frag) (h:X.K=K) (hc:X.calm=true):dk X (.type "list") (Dz K):=by
 intro pins s σ H xs us Q I r q
 rcases q with q | q
 ·exact pA hc pins s σ H xs us Q I r q
 ·exact ke K h pins s σ H xs us Q I r q
end
section
variable {X:Cx}
def KN (K:PySem.W.Frag):List V->Hp->VK->Prop:=fun xs H Q=> ∃p ys,xs=[.ref p]/\((ba K H p ys/\ ∀l,H l=none->Q (.ref l) (upd H l (.tup ys)))\/(bY K H p ys/\Q (.ref p) H))
theorem bo (K:PySem.W.Frag) (h:X.K=K):dk X (.type "tuple") (KN K):=by subst h;exact rh
end
theorem we {K:PySem.W.Frag} {a:Addr} {xs:List V} {σc:St} {g:TG} {tc:TT} {te:TE} {Q:VK} {H1:Hp} (Pv:Nat->List V->Hp->Prop) (hn:xs.length<sizeLine) (hl: ∀i acc H,Pv i acc H->bY K H a xs) (h0:Pv 0 [] H1)
  (hs: ∀(i:Nat) (x:V) (acc:List V) (H:Hp) (Nx:List V->Hp->Prop),i<xs.length->xs[i]? =some x->acc.length<=i->Pv i acc H->(∀ck H',ck.length<=i+1->Pv (i+1) ck H'->Nx ck H')->
   g x σc H fun σ2 H2=>Wk σc σ2/\tc σ2 H2 fun b H3=>if b=true then te σ2 H3 fun v H4=>Nx (acc++[v]) H4 else Nx acc H3)
  (hd: ∀acc H D,acc.length<=xs.length->Pv xs.length acc H->H D=none->Q (.ref D) (upd H D (.lst acc))):nE (Sh K a) σc g tc te Q H1:=
 oI (xs:=fun i x=>xs[i]? =some x) Pv hn (fun i acc H h p=>⟨xs,xs[i],hl i acc H p,by simp[h]⟩) (fun acc H p=>⟨xs,hl _ acc H p,UP _⟩) (fun i acc H x H' h p y=>⟨y.1,y.2 xs (hl i acc H p)⟩) h0 hs hd
theorem z_ (l a b:Nat):Kh (.str (S [l])) [.str (S [a]), .str (S [b])]=(decide (l=a)||decide (l=b)):=by
 have key: ∀c:Nat,GN (.str (S [c])) (.str (S [l]))=decide (l=c):=fun c=>by
  show decide (S [c]=S [l])=_
  refine decide_eq_decide.mpr ⟨fun z=>?_,fun z=>by rw[z]⟩
  have:=congrArg (fun x:Str=>x.cps.toList) z
  simpa [S,eq_comm]using this
 unfold Kh
 rw[Qap,Qap,List.any_nil,key,key,Qc6]
def bQ (H H':Hp):Prop:= ∀c xs,H c=some (.tup xs)->H' c=some (.tup xs)
theorem bQ.trans {H H1 H2:Hp} (a:bQ H H1) (b:bQ H1 H2):bQ H H2:=fun c xs h=>b c xs (a c xs h)
theorem bQ.of {H H':Hp} (s:ak H H'):bQ H H':=fun c xs h=>s c _ h
theorem bQ.wg {H:Hp} {p:Addr} {ys:List V} {o:HO} (h:H p=some (.lst ys)):bQ H (upd H p o):=fun c xs e=>by
 rw[ar (fun z=>by rw[z,h]at e;cases e)];exact e
theorem bQ.cU {H:Hp} {p:Addr} {o:HO} (h:H p=none):bQ H (upd H p o):=fun c xs e=>by
 rw[ar (fun z=>by rw[z,h]at e;cases e)];exact e
section
variable {prog:Program} {w:World} {A:Around} {E:Value->Shared->Prop} {s:Shared}
noncomputable def bF:List Int->List Int->Bool
 | [],[]=>false
 | [],_::_=>true
 | _::_,[]=>false
 | a::r,b::t=>if a=b then bF r t else decide (a<b)
end
end L2
namespace HT
open PySem PySem.Spec PyProof.Rows
end HT
namespace L2
open PySem PySem.Spec PyProof.Rows
section
variable {κ:Type} [DecidableEq κ]
noncomputable def dq (aP:List (κ×V)) (k:κ):Option V:=(aP.find? fun kv=>decide (kv.1=k)).map (·.2)
noncomputable def putK (aP:List (κ×V)) (k:κ) (v:V):List (κ×V):=
 if (aP.any fun kv=>decide (kv.1=k))=true then aP.map (fun kv=>if kv.1=k then (kv.1,v) else kv) else aP++[(k,v)]
theorem cJ {p:κ×V} {r:List (κ×V)} {k:κ} (e:p.1=k):dq (p::r) k=some p.2:=by simp[dq,Qau,e]
theorem cw {p:κ×V} {r:List (κ×V)} {k:κ} (e: ¬p.1=k):dq (p::r) k=dq r k:=by simp[dq,Qau,e]
theorem ja (k:κ): ∀aP:List (κ×V),(aP.any fun kv=>decide (kv.1=k))=(dq aP k).isSome
 | []=>rfl
 | p::r=>by
  rw[Qap]
  by_cases e:p.1=k
  ·simp only[cJ e,decide_eq_true e,Bool.true_or,Option.isSome_some]
  ·rw[cw e,decide_eq_false e,Qc8];exact ja k r
theorem wj (k j:κ) (y:V): ∀aP:List (κ×V),dq (aP.map fun kv=>if kv.1=k then (kv.1,y) else kv) j=(dq aP j).map fun x=>if j=k then y else x
 | []=>rfl
 | p::r=>by
  have ih:=wj k j y r
  rw[Zd]
  by_cases h:p.1=k
  ·rw[if_pos h]
   by_cases e:p.1=j
   ·rw[cJ (p:=(p.1,y)) e,cJ e,Qcr,if_pos (e.symm.trans h)]
   ·rw[cw (p:=(p.1,y)) e,cw e,ih]
  ·rw[if_neg h]
   by_cases e:p.1=j
   ·rw[cJ (p:=p) e,cJ e,Qcr,if_neg (fun z=>h (e.trans z))]
   ·rw[cw (p:=p) e,cw e,ih]
theorem sk (k j:κ) (y:V): ∀aP:List (κ×V),dq aP k=none->dq (aP++[(k,y)]) j=if j=k then some y else dq aP j
 | [],_=>by
  by_cases e:k=j
  ·rw[if_pos e.symm];exact cJ (p:=(k,y)) e
  ·rw[if_neg (fun z=>e z.symm)];exact cw (p:=(k,y)) e
 | p::r,hn=>by
  rw[Qdl]
  have hk: ¬p.1=k:=fun z=>by rw[cJ z]at hn;cases hn
  rw[cw hk]at hn
  have ih:=sk k j y r hn
  by_cases e:p.1=j
  ·rw[cJ e,cJ e,if_neg (fun z=>hk (e.trans z))]
  ·rw[cw e,cw e,ih]
theorem DA (aP:List (κ×V)) (k j:κ) (y:V):dq (putK aP k y) j=if j=k then some y else dq aP j:=by
 unfold putK
 by_cases a:(aP.any fun kv=>decide (kv.1=k))=true
 ·rw[if_pos a,wj]
  rw[ja]at a
  by_cases e:j=k
  ·obtain ⟨x,hx⟩:=Option.isSome_iff_exists.mp a
   rw[if_pos e,e,hx,Qcr,if_pos rfl]
  ·rw[if_neg e]
   cases dq aP j with
   | none=>rfl
   | some x=>rw[Qcr,if_neg e]
 ·rw[if_neg a]
  refine sk k j y aP ?_
  rw[ja]at a
  cases q:dq aP k with
  | none=>rfl
  | some x=>rw[q]at a;exact (a rfl).elim
theorem gh (aP:List (κ×V)) (k:κ) (v:V):(putK aP k v).length<=aP.length+1:=by
 unfold putK
 split
 ·rw[QW];omega
 ·rw[UO,Zv,List.length_nil];omega
theorem wm {aP:List (κ×V)} {k:κ} (v:V) (h:dq aP k=none):putK aP k v=aP++[(k,v)]:=by
 unfold putK
 rw[ja,h]
 exact if_neg (by decide)
theorem mm.BC {o:Option V} {u:Option Value} (r:mm o u):o.isSome=u.isSome:=by
 cases o with
 | none=>cases u with
  | none=>rfl
  | some _=>exact (show False from r).elim
 | some _=>cases u with
  | none=>exact (show False from r).elim
  | some _=>rfl
theorem KV.val {aP:List (κ×V)} {vs:List (κ×Value)} (r:KV aP vs) (k:κ):mm (dq aP k) (valueAt vs k):=by
 unfold KV at r
 induction r with
 | nil=>exact True.intro
 | @cons p q ps qs h t ih=>
  obtain ⟨h1,h2⟩:=h
  by_cases e:p.1=k
  ·have e':q.1=k:=h1.symm.trans e
   have b:valueAt (q::qs) k=some q.2:=by simp[valueAt,Qau,e']
   rw[cJ e,b];exact h2
  ·have e': ¬q.1=k:=fun z=>e (h1.trans z)
   have b:valueAt (q::qs) k=valueAt qs k:=by simp[valueAt,Qau,e']
   rw[cw e,b];exact ih
theorem KV.any {aP:List (κ×V)} {vs:List (κ×Value)} (r:KV aP vs) (k:κ):(aP.any fun kv=>decide (kv.1=k))=vs.any fun kv=>decide (kv.1=k):=by
 unfold KV at r
 induction r with
 | nil=>rfl
 | cons h t ih=>rw[Qap,Qap,ih,h.1]
theorem KV.KO {aP:List (κ×V)} {vs:List (κ×Value)} (r:KV aP vs) (k:κ) {y:V} {u:Value} (ry:RelV y u):
  KV (aP.map fun kv=>if kv.1=k then (kv.1,y) else kv) (vs.map fun kv=>if kv.1=k then (kv.1,u) else kv):=by
 unfold KV at r ⊢
 induction r with
 | nil=>exact .nil
 | @cons p q ps qs h t ih=>
  rw[Zd,Zd]
  refine .cons ?_ ih
  obtain ⟨h1,h2⟩:=h
  by_cases e:p.1=k
  ·rw[if_pos e,if_pos (h1.symm.trans e)];exact ⟨h1,ry⟩
  ·rw[if_neg e,if_neg (fun z=>e (h1.trans z))];exact ⟨h1,h2⟩
theorem KV.put {aP:List (κ×V)} {vs:List (κ×Value)} (r:KV aP vs) (k:κ) {y:V} {u:Value} (ry:RelV y u):KV (putK aP k y) (stored vs k u):=by
 unfold putK stored
 rw[r.any k]
 by_cases e:(vs.any fun kv=>decide (kv.1=k))=true
 ·rw[if_pos e,if_pos e];exact r.KO k ry
 ·rw[if_neg e,if_neg e];exact Paired.snoc r ⟨rfl,ry⟩
theorem KV.length {aP:List (κ×V)} {vs:List (κ×Value)} (r:KV aP vs):aP.length=vs.length:=Paired.length r
end
theorem DB {P:Program} {w:World} {k:Key} {u:Value} (r:RelV (kV k) u):(cA P w).is k u=true:=by
 cases k with
 | inl i=>obtain ⟨t,e⟩:=(show ∃t,u=Value.int i t from r);subst e;exact vE P w i t
 | inr x=>obtain ⟨t,e⟩:=(show ∃t,u=Value.str x t from r);subst e;exact vF P w x t
theorem sr {P:Program} {w:World}: ∀{ks:List Key} {us:List Value},Vals (ks.map kV) us->ItemsAre (cA P w) ks us
 | [],_,r=>by rw[Qb0]at r;cases r;exact .nil
 | k::ks,_,r=>by
  rw[Zd]at r
  cases r with
  | cons h t=>exact .cons (DB h) (sr t)
abbrev KT (H:Hp):List (List Key×V)->List (List Key×Addr×Value)->Prop:=Paired fun p q=>p.1=q.1/\H q.2.1=some (.tup (p.1.map kV))/\RelV p.2 q.2.2
theorem KT.val {H:Hp} {aP:List (List Key×V)} {xs:List (List Key×Addr×Value)} (r:KT H aP xs) (k:List Key):mm (dq aP k) ((atKey xs k).map (·.2)):=by
 induction r with
 | nil=>exact True.intro
 | @cons p q ps qs h t ih=>
  obtain ⟨h1,_,h2⟩:=h
  by_cases e:p.1=k
  ·have e':q.1=k:=h1.symm.trans e
   have b:atKey (q::qs) k=some q.2:=by simp[atKey,Qau,e']
   rw[cJ e,b];exact h2
  ·have e': ¬q.1=k:=fun z=>e (h1.trans z)
   have b:atKey (q::qs) k=atKey qs k:=by simp[atKey,Qau,e']
   rw[cw e,b];exact ih
theorem KT.KO {H:Hp} {aP:List (List Key×V)} {xs:List (List Key×Addr×Value)} (r:KT H aP xs) (k:List Key) {y:V} {u:Value} (ry:RelV y u):
  KT H (aP.map fun kv=>if kv.1=k then (kv.1,y) else kv) (xs.map (putAt k u)):=by
 induction r with
 | nil=>exact .nil
 | @cons p q ps qs h t ih=>
  rw[Zd,Zd]
  refine .cons ?_ ih
  obtain ⟨h1,h2,h3⟩:=h
  unfold putAt
  by_cases e:p.1=k
  ·rw[if_pos e,if_pos (h1.symm.trans e)];exact ⟨h1,h2,ry⟩
  ·rw[if_neg e,if_neg (fun z=>e (h1.trans z))];exact ⟨h1,h2,h3⟩
theorem KT.put {H:Hp} {aP:List (List Key×V)} {xs:List (List Key×Addr×Value)} (r:KT H aP xs) (k:List Key) {b:Addr} {y:V} {u:Value} (hb:H b=some (.tup (k.map kV))) (ry:RelV y u):
  KT H (putK aP k y) (storedH xs k b u):=by
 have e:(aP.any fun kv=>decide (kv.1=k))=(atKey xs k).isSome:=by
  rw[ja,(r.val k).BC,Option.isSome_map]
 unfold putK storedH
 rw[e]
 by_cases q:(atKey xs k).isSome=true
 ·rw[if_pos q,if_pos q];exact r.KO k ry
 ·rw[if_neg q,if_neg q];exact Paired.snoc r ⟨rfl,hb,ry⟩
theorem KT.keeps {H H':Hp} {aP:List (List Key×V)} {xs:List (List Key×Addr×Value)} (r:KT H aP xs) (ht: ∀b ys,H b=some (.tup ys)->H' b=some (.tup ys)):KT H' aP xs:=
 Paired.JJ r fun _ _ z=>⟨z.1,ht _ _ z.2.1,z.2.2⟩
section
variable {P:Program} {w:World} {H:Hp} {h:Heap} {a:Addr}
theorem Ja {u:HO} (ok:kC P w H h) (e:Rd H a u):cQ P w H h a u:=e.ok ok
theorem DC {aP:List (Key×V)} (ok:kC P w H h) (e:Rd H a (.dK aP)):aP.length<=sizeLine/\(a==sysModules)=false/\ ∃vs,KV aP vs/\h.DictOf (cA P w) a vs:=
 show cQ P w H h a (.dK aP) from Ja ok e
theorem Pl {aP:List (Key×V)} (ok:kC P w H h) (e:H a=some (.dK aP)):aP.length<=sizeLine/\(a==sysModules)=false/\ ∃vs,KV aP vs/\h.DictOf (cA P w) a vs:=DC ok (.inl e)
theorem yE {ks:List Key} (ok:kC P w H h) (e:H a=some (.tup (ks.map kV))):(tupleKind (cA P w)).is h ks a:=by
 obtain ⟨_,aJ,r,o,h1,h2,n,h3⟩:=(show cQ P w H h a (.tup (ks.map kV)) from ok a _ e)
 exact ⟨o,aJ.toArray,n,h1,h2,h3,by simpa using sr r⟩
theorem DD {aP:List (List Key×V)} (ok:kC P w H h) (e:Rd H a (.dT aP)):aP.length<=sizeLine/\(a==sysModules)=false/\
  ∃xs,KT H aP xs/\h.DictOfH (tupleKind (cA P w)) a xs:=by
 obtain ⟨z,y,xs,r,o,es,ep,h1,h2,h3,h4,h5⟩:=(show cQ P w H h a (.dT aP) from Ja ok e)
 refine ⟨z,y,xs,r,o,es,ep,h1,h2,h3,h4,fun x hx=>?_,h5⟩
 have all: ∀{l:List (List Key×V)} {m:List (List Key×Addr×Value)},KT H l m-> ∀x∈m,(tupleKind (cA P w)).is h x.1 x.2.1:=by
  intro l m q
  induction q with
  | nil=>intro x hx;exact nomatch hx
  | @cons p q ps qs hq t ih=>
   intro x hx
   rcases Wz.mp hx with e | hx
   ·subst e
    exact yE ok (by rw[<-hq.1];exact hq.2.1)
   ·exact ih x hx
 exact all r x hx
theorem Pm {aP:List (List Key×V)} (ok:kC P w H h) (e:H a=some (.dT aP)):aP.length<=sizeLine/\(a==sysModules)=false/\
  ∃xs,KT H aP xs/\h.DictOfH (tupleKind (cA P w)) a xs:=DD ok (.inl e)
end
def pT (H:Hp) (a:Addr) (y:V) (r:Option V):Prop:=
 (∃aP k,Rd H a (.dK aP)/\y=kV k/\r=dq aP k)\/ ∃aP k b,Rd H a (.dT aP)/\y= .ref b/\H b=some (.tup (k.map kV))/\r=dq aP k
def ua (H:Hp) (a:Addr) (y v:V) (H':Hp):Prop:=
 (∃aP k,H a=some (.dK aP)/\y=kV k/\aP.length<sizeLine/\H'=upd H a (.dK (putK aP k v)))\/
 ∃aP k b,H a=some (.dT aP)/\y= .ref b/\H b=some (.tup (k.map kV))/\aP.length<sizeLine/\H'=upd H a (.dT (putK aP k v))
theorem pT.k {H:Hp} {a:Addr} {aP:List (Key×V)} {k:Key} (e:H a=some (.dK aP)):pT H a (kV k) (dq aP k):= .inl ⟨aP,k, .inl e,rfl,rfl⟩
theorem pT.t {H:Hp} {a b:Addr} {aP:List (List Key×V)} {k:List Key} (e:H a=some (.dT aP)) (eb:H b=some (.tup (k.map kV))):pT H a (.ref b) (dq aP k):= .inr ⟨aP,k,b, .inl e,rfl,eb,rfl⟩
theorem ua.k {H:Hp} {a:Addr} {aP:List (Key×V)} {k:Key} {v:V} (e:H a=some (.dK aP)) (hl:aP.length<sizeLine):ua H a (kV k) v (upd H a (.dK (putK aP k v))):= .inl ⟨aP,k,e,rfl,hl,rfl⟩
theorem ua.t {H:Hp} {a b:Addr} {aP:List (List Key×V)} {k:List Key} {v:V} (e:H a=some (.dT aP)) (eb:H b=some (.tup (k.map kV))) (hl:aP.length<sizeLine):
  ua H a (.ref b) v (upd H a (.dT (putK aP k v))):= .inr ⟨aP,k,b,e,rfl,eb,hl,rfl⟩
section
variable {X:Cx} {pins:List (Addr×Obj)} {σ:St} {H:Hp} {s:Shared} {a:Addr} {y v:V} {u r:Value} {o:Option V} {A:Around} {E:Value->Shared->Prop}
theorem Inv.big (I:Inv X pins σ H s):sysModules<s.heap.objs.size:=by
 have h:mainGlobals<s.heap.objs.size:=(I.mod.glob.keeps I.bk).lt
 exact Qby (by decide) h
theorem BD {Q:Value->Shared->Prop} (hu:A.units+1<cLine) (I:Inv X pins σ H s) (g:pT H a y (some v)) (ry:RelV y u) (h: ∀w' s',Inv X pins σ H s'->RelV v w'->Q w' s'):
  wpAny (model X.prog X.w) A (getItem (.ref a) u) Q E s:=by
 rcases g with ⟨aP,k,e,ey,l⟩ | ⟨aP,k,b,e,ey,eb,l⟩
 ·subst ey
  obtain ⟨z,hd,vs,rel,dd⟩:=DC I.bZ e
  obtain ⟨w',hw,vT⟩:=mm.some_of (v:=v) (o:=valueAt vs k) (by rw[l];exact rel.val k)
  exact wpAny_getItem_of (DB ry) dd.mapOf hw (h w' _ (I.tok _) vT)
 ·subst ey
  cases (show u=Value.ref b from ry)
  obtain ⟨z,hd,xs,rel,dd⟩:=DD I.bZ e
  obtain ⟨w',hw,vT⟩:=mm.some_of (v:=v) (o:=(atKey xs k).map (·.2)) (by rw[l];exact rel.val k)
  obtain ⟨p,hp,kS⟩:=Option.map_eq_some_iff.mp hw
  refine wpAny_getItem_heap (tupleKind_room_in1 hu) (yE I.bZ eb) dd hp ?_
  rw[kS]
  exact h w' _ (I.tok _) vT
theorem Aa {h':Heap} {t':Nat} {ob:HO} (I:Inv X pins σ H s) (mu:N_ (H a)) (hs:Heap.SameBut a s.heap h') (he: ∃q,h'.get? a=some q) (new:cQ X.prog X.w (upd H a ob) h' a ob):
  Inv X pins σ (upd H a ob) { s with heap:=h',toks:=t' }:=
 I.write (x:=a) (e:=a) mu (.inl rfl) (fun b q hb z=>(hs.2 b hb).trans z) he new
theorem KP {P:Program} {w:World} {H':Hp} {h':Heap} {aP:List (Key×V)} {vs:List (Key×Value)} (z:aP.length<=sizeLine) (hd:(a==sysModules)=false) (rel:KV aP vs) (dd:h'.DictOf (cA P w) a vs):
  cQ P w H' h' a (.dK aP):=⟨z,hd,vs,rel,dd⟩
theorem BE {H':Hp} {Q:Unit->Shared->Prop} (hu:A.units+1<cLine) (I:Inv X pins σ H s) (g:ua H a y v H') (ry:RelV y u) (rv:RelV v r) (h: ∀s',Inv X pins σ H' s'->Q () s'):
  wpAny (model X.prog X.w) A (setItem (.ref a) u r) Q E s:=by
 rcases g with ⟨aP,k,e,ey,l,eH⟩ | ⟨aP,k,b,e,ey,eb,l,eH⟩
 ·subst ey eH
  obtain ⟨z,hd,vs,rel,dd⟩:=Pl I.bZ e
  have hz:vs.length<=sizeLine:=by rw[<-rel.length];exact z
  have hl:(putK aP k v).length<=sizeLine:=by have:=gh aP k v;omega
  refine wpAny_setItem_pairs (hsz:=hz) (DB ry) dd fun h' QX hs=>h _ ?_
  have he: ∃q,h'.get? a=some q:=let ⟨q,_,_,hq,_⟩:=QX;⟨q,hq⟩
  exact Aa I (by rw[e];exact True.intro) hs he (KP hl hd (rel.put k rv) QX)
 ·subst ey eH
  cases (show u=Value.ref b from ry)
  obtain ⟨z,hd,xs,rel,dd⟩:=Pm I.bZ e
  have hz:xs.length<=sizeLine:=by rw[<-Paired.length rel];exact z
  have hl:(putK aP k v).length<=sizeLine:=by have:=gh aP k v;omega
  refine wpAny_setItem_heap (hsz:=hz) (tupleKind_room_in1 hu) (yE I.bZ eb) dd fun h' QX hs=>h _ ?_
  obtain ⟨q,es,ep,hq,h2,h3,h4,_,h5⟩:=QX
  refine Aa I (by rw[e];exact True.intro) hs ⟨q,hq⟩ ⟨hl,hd,_,(rel.put k eb rv).keeps fun c ys ec=>?_,q,es,ep,hq,h2,h3,h4,h5⟩
  rw[ar (N9 ec e (fun z=>nomatch z))]
  exact ec
end
def Pn (i:Expr):Prop:= ∀ov iv,subscripted i false ov iv=operate [ov,iv] (getItem ov iv)
theorem G5 {prog:Program} {w:World} {A:Around} {E:Value->Shared->Prop} {s:Shared} {env:Env} {value slice:Expr} {pos:Pos} {T id:String} {Q:Value->Shared->Prop}
  (hl:typeLookup (.type T) "__getitem__"=pure (some (.builtin id))) (hs:Pn slice)
  (h:wpAny (model prog w) A (eval value env) (fun o s₁=>wpAny (model prog w) A (eval slice env) (fun i s₂=>s₂.TypeIs o T/\wpAny (model prog w) A (getItem o i) Q E s₂) E s₁) E s):
  wpAny (model prog w) A (eval (.Subscript value slice pos) env) Q E s:=by
 refine Subscript_ (wpAny_mono h (fun o s₁ h₁=>wpAny_mono h₁ (fun i s₂ h₂=>?_) fun _ _ x=>x) fun _ _ x=>x)
 obtain ⟨hT,h₂⟩:=h₂
 unfold subscriptTail
 refine wpAny_bind ?_
 rw[getitemInPython_of_ne hT.not_modules]
 refine wpAny_bind (wpAny_specialOf hT hl ?_)
 have fin:wpAny (model prog w) A (subscripted slice false o i) (fun r s₃=>wpAny (model prog w) A (letTemporaryGo value o r >>= fun _=>pure r) Q E s₃) E s₂:=by
  rw[hs o i]
  exact wpAny_operating (wpAny_mono h₂ (fun r s₃ h₃=>wpAny_bind (wpAny_letTemporaryGo (wpAny_pure h₃))) fun _ _ x=>x)
 first
  | exact wpAny_pure (wpAny_bind fin)
  | exact wpAny_bind (wpAny_pure (wpAny_bind fin))
  | exact wpAny_bind fin
theorem wo {X:Cx} {pins:List (Addr×Obj)} {σ:St} {H:Hp} {s:Shared} {a:Addr} {y:V} {o:Option V} (I:Inv X pins σ H s) (g:pT H a y o):s.TypeIs (.ref a) "dict":=by
 rcases g with ⟨aP,k,e,_,_⟩ | ⟨aP,k,b,e,_,_,_⟩
 ·obtain ⟨_,_,vs,_,dd⟩:=DC I.bZ e
  exact dd.typeIs
 ·obtain ⟨_,_,xs,_,dd⟩:=DD I.bZ e
  exact dd.typeIs
def Po (td ty:TE):TE:=fun σ H Q=>td σ H fun x H1=>ty σ H1 fun y H2=> ∃a v,x= .ref a/\pT H2 a y (some v)/\Q v H2
def Pp (td ty tv:TE):TS:=fun D σ H=>tv σ H fun v H1=>td σ H1 fun x H2=>ty σ H2 fun y H3=> ∃a H4,x= .ref a/\ua H3 a y v H4/\D.nx σ H4
section
variable {X:Cx} {o i e value:Expr} {pos pos' OD:Pos} {td ty tv:TE}
theorem oK (hu:X.A.units+1<cLine) (ho:PE X o td) (hi:PE X i ty) (hs:Pn i):PE X (.Subscript o i pos) (Po td ty):=by
 intro pins s σ H Q I h
 refine G5 PySem.F.slot_dict_getitem.lookup hs (cg (ho pins s σ H _ I h) fun u s1 ⟨x,H1,I1,rx,q1⟩=>cg (hi pins s1 σ H1 _ I1 q1) fun iv s2 ⟨y,H2,I2,ry,a,v,ex,g,q2⟩=>?_)
 subst ex
 obtain rfl:u=Value.ref a:=rx
 exact ⟨wo I2 g,BD hu I2 g ry fun w' s3 I3 vT=>⟨v,H2,I3,vT,q2⟩⟩
theorem uc (hu:X.A.units+1<cLine) (ho:PE X o td) (hi:PE X i ty) (hv:PE X value tv) (hs:swapsWith value (some (.Subscript o i pos')) pos.line X.env=pure false):
  PS X (.Assign [.Subscript o i pos'] value pos) (Pp td ty tv):=by
 intro pins s σ H D I h
 refine wpAny_Assign_Subscript (cg (hv pins s σ H _ I h) fun r s1 ⟨v,H1,I1,rv,q1⟩=>cg (ho pins s1 σ H1 _ I1 q1) fun u s2 ⟨x,H2,I2,rx,q2⟩=>cg (hi pins s2 σ H2 _ I2 q2) fun iv s3 ⟨y,H3,I3,ry,a,H4,ex,g,q3⟩=>?_) hs
 subst ex
 obtain rfl:u=Value.ref a:=rx
 exact BE hu I3 g ry rv fun s4 I4=>⟨σ,H4,I4,q3⟩
end
theorem DE {P:Program} {w:World} {H:Hp} (h:Heap) (hb:sysModules<h.objs.size):cQ P w H (h.push { cls:= .type "dict",data:= .dict #[] }) h.objs.size (.dK []):=
 ⟨Zg _,beq_eq_false_iff_ne.mpr (Ne.symm (Zp hb)),[], .nil,Heap.DictOf.new h⟩
theorem DF {P:Program} {w:World} {H:Hp} (h:Heap) (hb:sysModules<h.objs.size):cQ P w H (h.push { cls:= .type "dict",data:= .dict #[] }) h.objs.size (.dT []):=
 ⟨Zg _,beq_eq_false_iff_ne.mpr (Ne.symm (Zp hb)),[], .nil,_, #[],0,Ze _ rfl,⟨rfl,rfl,rfl⟩,rfl,rfl,Qcy⟩
def KQ:TE:=fun _ H Q=> ∀p,H p=none->Q (.ref p) (upd H p (.dK []))
def KR:TE:=fun _ H Q=> ∀p,H p=none->Q (.ref p) (upd H p (.dT []))
section
variable {X:Cx} {pos:Pos}
theorem DG:PE X (.Dict [] [] pos) KQ:=fun pins s σ H Q I h=>
 wpAny_Dict_empty ⟨.ref s.heap.objs.size,_,I.laid (a:=s.heap.objs.size) (o:= .dK []) (t':=s.toks) (fun _ _ q=>Mr _ q) (UP _) (DE s.heap I.big),rfl,h _ (I.bZ.fresh (UP _))⟩
theorem DH:PE X (.Dict [] [] pos) KR:=fun pins s σ H Q I h=>
 wpAny_Dict_empty ⟨.ref s.heap.objs.size,_,I.laid (a:=s.heap.objs.size) (o:= .dT []) (t':=s.toks) (fun _ _ q=>Mr _ q) (UP _) (DF s.heap I.big),rfl,h _ (I.bZ.fresh (UP _))⟩
end
set_option maxHeartbeats 1000000
end L2
set_option maxHeartbeats 1000000
namespace L2.F2
open PySem PySem.Spec PyProof.Rows
end L2.F2
namespace L2
open PySem PySem.Spec PyProof.Rows
set_option maxHeartbeats 2000000
noncomputable def F_ (a b c d:Int):Bool:=if a=c then decide (b<d) else decide (a<c)
section
variable {prog:Program} {w:World} {A:Around} {E:Value->Shared->Prop} {s:Shared}
theorem G6 {p q:Addr} {ox oy:Obj} {mx my:Nat} {a b c d:Int} {t1 t2 t3 t4:Tok} {P:PySem.Fin->Shared->Prop} (QY:s.heap.get? p=some ox) (S_:ox.data= .seq #[.int a t1, .int b t2] mx)
  (Pq:s.heap.get? q=some oy) (sC:oy.cls= .type "tuple") (Ta:oy.data= .seq #[.int c t3, .int d t4] my) (h:P (.done (.ret (.bool (F_ a b c d)))) s):
  wpAny (model prog w) A (Builtin.«tuple.__lt__» ⟨[.ref p, .ref q],[]⟩) P E s:=by
 have hT:s.TypeIs (.ref q) "tuple":=⟨oy,Pq,sC⟩
 show wpAny _ _ (isInstance (.ref q) (.type "tuple") >>= fun b=>_) _ _ s
 refine wpAny_bind (wpAny_isInstance (b:=true) hT isSubtype_tuple_tuple ?_)
 simp only[Qc7,Qa3,if_false]
 refine wpAny_bind (wpAny_tupleItemsOf QY S_ ?_)
 refine wpAny_bind (wpAny_tupleItemsOf Pq Ta ?_)
 refine wpAny_bind ?_
 show wpAny _ _ (forIn [(Value.int a t1,Value.int c t3),(Value.int b t2,Value.int d t4)] _ _) _ _ _
 rw[Qa5]
 refine wpAny_bind (wpAny_bind (wpAny_eqBool_int ?_))
 unfold F_ at h
 by_cases e:a=c
 ·rw[if_pos e]at h
  rw[show (a==c)=true by simp[e]]
  simp only[Qc7,Qa3,if_false]
  refine wpAny_pure ?_
  dsimp only
  rw[Qa5]
  refine wpAny_bind (wpAny_bind (wpAny_eqBool_int ?_))
  by_cases e2:b=d
  ·rw[show (b==d)=true by simp[e2]]
   simp only[Qc7,Qa3,if_false]
   refine wpAny_pure ?_
   dsimp only
   rw[List.forIn_nil]
   refine wpAny_pure ?_
   dsimp only
   refine wpAny_pure ?_
   rw[decide_eq_false (by omega)]at h
   exact h
  ·rw[show (b==d)=false by simp[e2]]
   simp only[Bool.not_false,if_true]
   refine wpAny_bind (wpAny_rule ?_)
   refine wpAny_bind (lt_int ?_)
   refine wpAny_bind (wpAny_pure ?_)
   refine wpAny_pure ?_
   dsimp only
   refine wpAny_pure ?_
   dsimp only
   exact wpAny_pure h
 ·rw[if_neg e]at h
  rw[show (a==c)=false by simp[e]]
  simp only[Bool.not_false,if_true]
  refine wpAny_bind (wpAny_rule ?_)
  refine wpAny_bind (lt_int ?_)
  refine wpAny_bind (wpAny_pure ?_)
  refine wpAny_pure ?_
  dsimp only
  refine wpAny_pure ?_
  dsimp only
  exact wpAny_pure h
end
section
variable {X:Cx}
def Tb (K:PySem.W.Frag):R2:=fun x y H Q=> ∃p q a b c d,x= .ref p/\y= .ref q/\bY K H p [.int a, .int b]/\bY K H q [.int c, .int d]/\Q (.bl (F_ a b c d)) H
theorem wq {a b:Int} {us:List Value} (r:Vals [.int a, .int b] us): ∃t u,us=[.int a t, .int b u]:=by
 cases r with
 | cons r1 r=>
  cases r with
  | cons r2 r=>
   cases r
   obtain ⟨t,rfl⟩:=r1
   obtain ⟨u,rfl⟩:=r2
   exact ⟨t,u,rfl⟩
theorem KS {k:Nat} (K:PySem.W.Frag) (h:X.K=K) (hr:ff k X.A):hJ X (compareOp .Lt) (Tb K):=by
 subst h
 intro pins s σ H x y v u Q I rx ry h
 obtain ⟨p,q,a,b,c,d,rfl,rfl,hp,hq,r⟩:=h
 cases rx
 cases ry
 obtain ⟨xs,WH,px,_⟩:=I.tuple hp
 obtain ⟨ys,WI,py,_⟩:=I.tuple hq
 obtain ⟨ox,QY,FY,mx,S_⟩:=px
 obtain ⟨oy,Pq,sC,my,Ta⟩:=py
 obtain ⟨t1,t2,rfl⟩:=wq WH
 obtain ⟨t3,t4,rfl⟩:=wq WI
 have hu:=hr.units
 show wpAny _ _ (richCompare .Lt (.ref p) (.ref q)) _ _ s
 have hT:s.TypeIs (.ref p) "tuple":=⟨ox,QY,FY⟩
 refine wpAny_richCompare_same_room hT ⟨oy,Pq,sC⟩ PySem.F.slot_tuple_lt (wpAny_call_entry PySem.F.slot_tuple_lt hT PySem.F.entry_tuple_lt (G6 QY S_ Pq sC Ta ⟨_,rfl,(fun z=>nomatch z),?_⟩) (PySem.F.args_tuple_lt_2 _ _)) (by omega)
 exact ⟨.bl _,H,I,rfl,r⟩
end
section
variable {X:Cx} {st:Stmt} {rest:List Stmt} {t u:TS}
def Tc (t u:TS):TS:=fun D σ H=> ∃P:St->Hp->Prop,t { D with nx:=P } σ H/\ ∀σ' H',P σ' H'->u D σ' H'
theorem jH (h1:PS X st t) (h2:xU X rest u):xU X (st::rest) (Tc t u):=by
 intro pins s σ H D I h
 obtain ⟨P,h,g⟩:=h
 refine wpAny_execs_cons (cg (h1 pins s σ H _ I h) fun f s1 q=>?_)
 cases f with
 | ret v=>exact q
 | brk=>exact q
 | cont=>exact q
 | next=>
  obtain ⟨τ,G,J,p⟩:=q
  exact h2 pins s1 τ G D J (g τ G p)
end
section
variable {X:Cx}
def Pu (K:PySem.W.Frag):List V->Hp->VK->Prop:=fun xs H Q=> ∃(p:Addr) (ns:List Int),xs=[.ref p]/\ba K H p (ns.map V.int)/\Q (.int ns.sum) H
theorem sE (K:PySem.W.Frag) (h:X.K=K) (hc:X.calm=true):dk X (.builtin "sum") (Pu K):=by
 subst h
 intro pins s σ H xs us Q I r h
 obtain ⟨p,ns,rfl,hq,q⟩:=h
 obtain ⟨u,rfl,ru⟩:=vals1 r
 cases ru
 obtain ⟨aJ,rv,pl,_⟩:=I.list hq
 have hi:IntsAre aJ ns:=intsAre_of rv
 obtain ⟨ys,e⟩:=hi.allInts.items
 have hl:s.heap.IsList p (intItems ys):=by rw[<-e];exact pl.isList
 refine sum_intListG (I.ok.hd hc) hl fun h' tk t' hk=>?_
 have e2:preSum (numAt ys) ys.size=ns.sum:=by
  rw[preSum_eq,Zq (by simp), <-nums_intItems, <-e]
  exact congrArg List.sum hi.numsOf
 rw[e2]
 exact ⟨.int ns.sum,H,I.kept (t':=tk) hk,⟨_,rfl⟩,q⟩
end
section
variable {X:Cx}
def G7:V->List V->Hp->VK->Prop:=fun x vs H Q=> ∃l c,x= .str (S l)/\vs=[.str (S [c])]/\Q (.int (PyProof.Rows.cnt c l)) H
theorem sF:zQ X "str.count" G7:=by
 intro pins s σ H x xs v us Q I rx rv h
 obtain ⟨l,c,rfl,rfl,q⟩:=h
 obtain ⟨t,rfl⟩:=rx
 obtain ⟨u,rfl,t',rfl⟩:=vals1 rv
 refine SC.count ⟨.int _,H,I.tok _,⟨_,rfl⟩,?_⟩
 have e:Txt.count (S l) (S [c])=PyProof.Rows.cnt c l:=(PyProof.Rows.count_is (S l) c).trans (by unfold PyProof.Rows.cnt;simp[S])
 rw[e]
 exact q
end
section
variable {prog:Program} {w:World} {A:Around} {E:Value->Shared->Prop} {s:Shared}
structure ZA (z TI TO i1 i2:Addr) (f1 f2:List Addr):Prop where
 m1:i1∈f1
 m2:i2∈f2
 z1:z∉f1
 z2:z∉f2
 o1:TO∉f1
 o2:TO∉f2
 c1:i1∉f2
 c2:i2∉f1
 tz:TI≠z
 tt:TI≠TO
 t1:TI≠i1
 t2:TI≠i2
 oz:TO≠z
theorem nm {a b:Addr} {f:List Addr} (h:a∈f) (n:b∉f):a≠b:=fun z=>n (z▸h)
section
variable {z TI TO i1 i2:Addr} {f1 f2:List Addr} {n1 n2 i:Nat} {P1 P2:Nat->Value->Prop} {S1 S2:Nat->Heap->Prop} {a b:Value}
theorem BF {Q:Value->Shared->Prop} (D1:Draws prog w A i1 f1 n1 P1 S1) (D2:Draws prog w A i2 f2 n2 P2 S2) (Z:ZA z TI TO i1 i2 f1 f2)
  (hz:IsZip s.heap z TI TO .none) (KU:IsPair s.heap TI (.ref i1) (.ref i2)) (Mu:IsPair s.heap TO a b) (h1:S1 i s.heap) (h2:S2 i s.heap) (l1:i<n1) (l2:i<n2)
  (hQ: ∀x y h' tk,P1 i x->P2 i y->IsZip h' z TI TO (rawInt s.heap.objs.size)->IsPair h' TO x y->S1 (i+1) h'->S2 (i+1) h'->IsPair h' s.heap.objs.size x y->h'.objs.size=s.heap.objs.size+1->
   (∀c o,c≠z->c≠TO->c≠i1->c≠i2->s.heap.get? c=some o->h'.get? c=some o)->Q (.ref s.heap.objs.size) { s with heap:=h',toks:=tk }):
  wpAny (model prog w) A (Builtin.«zip.__next__» ⟨[.ref z],[]⟩) (fun fin s'=> ∃v,fin= .done (.ret v)/\Q v s') E s:=by
 obtain ⟨hp,g,d,WJ,os⟩:=s
 have i1z:=nm Z.m1 Z.z1
 have i2z:=nm Z.m2 Z.z2
 have WK:=nm Z.m1 Z.o1
 have WL:=nm Z.m2 Z.o2
 have YS:=nm Z.m2 Z.c1
 refine wpAny_bind (m:=field (.ref z) 2) (wpAny_field hz rfl (x:= .bool false) rfl ?_)
 refine wpAny_bind (m:=field (.ref z) 3) (wpAny_field hz rfl (x:= .ref TI) rfl ?_)
 refine wpAny_bind (m:=seqItems? (.ref TI)) (wpAny_seqItems KU rfl ?_)
 refine wpAny_bind (m:=Builtin.SmallTypes.ownedTupleIsFree (.ref z)) ?_
 (unfold Builtin.SmallTypes.ownedTupleIsFree;refine wpAny_bind (m:=field (.ref z) 0) (wpAny_field hz rfl (x:= .none) rfl (wpAny_pure ?_)))
 simp only[if_true]
 refine wpAny_bind (wpAny_rule ?_);refine wpAny_bind (m:=field (.ref z) 4) (wpAny_field hz rfl (x:= .ref TO) rfl ?_)
 refine wpAny_bind (wpAny_setField_rec hz (by simp) fun k1 KW CI=>?_)
 replace KW:IsZip k1 z TI TO .ellipsis:=KW
 replace CI:Heap.SameBut z hp k1:=CI
 refine wpAny_bind ?_;simp only[List.zipIdx_cons,List.zipIdx_nil,Qa5,List.forIn_nil]
 refine wpAny_bind (wpAny_bind (wpAny_onRaise ?_));refine wpAny_bind (m:=Builtin.SmallTypes.nextOf (.ref i1)) ?_
 refine D1.item i _ _ _ l1 (D1.frame _ _ _ h1 fun c hc o e=>CI.extBut _ _ (nm hc Z.z1) e) fun x k2 Mv px vw Ga=>wpAny_pure ?_
 replace Ga:Heap.SameBut i1 k1 k2:=Ga
 have to2:IsPair k2 TO a b:=Ga.extBut _ _ (Ne.symm WK) (CI.extBut _ _ Z.oz Mu)
 refine wpAny_bind (m:=seqItems? (.ref TO)) (wpAny_seqItems to2 rfl ?_)
 refine wpAny_bind (wpAny_updateSeq_pair to2 fun k3 to3 Gb=>?_)
 replace to3:IsPair k3 TO x b:=to3
 replace Gb:Heap.SameBut TO k2 k3:=Gb
 refine wpAny_bind (wpAny_letGo (wpAny_pure ?_));refine wpAny_bind (wpAny_bind (wpAny_onRaise ?_))
 refine wpAny_bind (m:=Builtin.SmallTypes.nextOf (.ref i2)) ?_
 refine D2.item i _ _ _ l2 (D2.frame _ _ _ h2 fun c hc o e=>Gb.extBut _ _ (nm hc Z.o2) (Ga.extBut _ _ (nm hc Z.c1) (CI.extBut _ _ (nm hc Z.z2) e))) fun y k4 WM py WN KY=>wpAny_pure ?_
 replace KY:Heap.SameBut i2 k3 k4:=KY
 have U0:IsPair k4 TO x b:=KY.extBut _ _ (Ne.symm WL) to3
 refine wpAny_bind (m:=seqItems? (.ref TO)) (wpAny_seqItems U0 rfl ?_)
 refine wpAny_bind (wpAny_updateSeq_pair U0 fun k5 QZ KZ=>?_)
 replace QZ:IsPair k5 TO x y:=QZ
 replace KZ:Heap.SameBut TO k4 k5:=KZ
 refine wpAny_bind (wpAny_letGo (wpAny_pure (wpAny_pure ?_)));refine wpAny_bind (m:=seqItems? (.ref TO)) (wpAny_seqItems QZ rfl ?_)
 refine wpAny_bind (wpAny_newTuple ?_)
 have sz:k5.objs.size=hp.objs.size:=by rw[KZ.1,KY.1,Gb.1,Ga.1,CI.1]
 have z5:IsZip k5 z TI TO .ellipsis:=KZ.extBut _ _ (Ne.symm Z.oz) (KY.extBut _ _ (Ne.symm i2z) (Gb.extBut _ _ (Ne.symm Z.oz) (Ga.extBut _ _ (Ne.symm i1z) KW)))
 have kp: ∀c o,c≠z->c≠TO->c≠i1->c≠i2->hp.get? c=some o->k5.get? c=some o:=fun c o c1 c2 c3 c4 e=>KZ.extBut _ _ c2 (KY.extBut _ _ c4 (Gb.extBut _ _ c2 (Ga.extBut _ _ c3 (CI.extBut _ _ c1 e))))
 have WO:S1 (i+1) k5:=D1.frame _ _ _ vw fun c hc o e=>KZ.extBut _ _ (nm hc Z.o1) (KY.extBut _ _ (nm hc Z.c2) (Gb.extBut _ _ (nm hc Z.o1) e))
 have WQ:S2 (i+1) k5:=D2.frame _ _ _ WN fun c hc o e=>KZ.extBut _ _ (nm hc Z.o2) e
 have zl:z<k5.objs.size:=Zj z5
 refine wpAny_bind (m:=Builtin.SmallTypes.ownedTupleHandOut (.ref z) (.ref k5.objs.size)) ?_
 have z6:IsZip (k5.push { cls:= .type "tuple",data:= .seq #[x,y] }) z TI TO .ellipsis:=Mr _ z5
 (unfold Builtin.SmallTypes.ownedTupleHandOut;refine wpAny_bind (wpAny_setField_rec z6 (by simp) fun k7 z7 s7=>?_))
 replace z7:IsZip k7 z TI TO (rawInt k5.objs.size):=z7
 refine wpAny_setField_rec z7 (by simp) fun k8 z8 s8=>?_
 replace z8:IsZip k8 z TI TO (rawInt k5.objs.size):=z8
 have up: ∀c o,c≠z->k5.get? c=some o->k8.get? c=some o:=fun c o c1 e=>s8.extBut _ _ c1 (s7.extBut _ _ c1 (Mr _ e))
 have t8:IsPair k8 k5.objs.size x y:=s8.extBut _ _ (Qbd zl) (s7.extBut _ _ (Qbd zl) (Ze _ rfl))
 have e8:k8.objs.size=k5.objs.size+1:=by rw[s8.1,s7.1,Qal]
 rw[sz]at z8 t8 e8
 refine wpAny_pure ⟨_,rfl,?_⟩
 show Q (.ref k5.objs.size) _
 rw[sz]
 exact hQ x y k8 WM px py z8 (up _ _ Z.oz QZ) (D1.frame _ _ _ WO fun c hc o e=>up c o (nm hc Z.z1) e) (D2.frame _ _ _ WQ fun c hc o e=>up c o (nm hc Z.z2) e) t8 e8 fun c o c1 c2 c3 c4 e=>up c o c1 (kp c o c1 c2 c3 c4 e)
theorem DI {Q:Fin->Shared->Prop} (D1:Draws prog w A i1 f1 n1 P1 S1) (Z:ZA z TI TO i1 i2 f1 f2)
  (hz:IsZip s.heap z TI TO .none) (KU:IsPair s.heap TI (.ref i1) (.ref i2)) (Mu:IsPair s.heap TO a b) (h1:S1 n1 s.heap)
  (hE: ∀h' e,(∀c o,c≠z->c≠TO->c≠i1->c≠i2->s.heap.get? c=some o->h'.get? c=some o)->(∃o,h'.get? e=some o/\o.cls= .type "StopIteration")->E (.ref e) { s with heap:=h' }):
  wpAny (model prog w) A (Builtin.«zip.__next__» ⟨[.ref z],[]⟩) Q E s:=by
 obtain ⟨hp,g,d,WJ,os⟩:=s
 have i1z:=nm Z.m1 Z.z1
 refine wpAny_bind (m:=field (.ref z) 2) (wpAny_field hz rfl (x:= .bool false) rfl ?_)
 refine wpAny_bind (m:=field (.ref z) 3) (wpAny_field hz rfl (x:= .ref TI) rfl ?_)
 refine wpAny_bind (m:=seqItems? (.ref TI)) (wpAny_seqItems KU rfl ?_)
 refine wpAny_bind (m:=Builtin.SmallTypes.ownedTupleIsFree (.ref z)) ?_
 (unfold Builtin.SmallTypes.ownedTupleIsFree;refine wpAny_bind (m:=field (.ref z) 0) (wpAny_field hz rfl (x:= .none) rfl (wpAny_pure ?_)))
 simp only[if_true]
 refine wpAny_bind (wpAny_rule ?_);refine wpAny_bind (m:=field (.ref z) 4) (wpAny_field hz rfl (x:= .ref TO) rfl ?_)
 refine wpAny_bind (wpAny_setField_rec hz (by simp) fun k1 KW CI=>?_)
 replace KW:IsZip k1 z TI TO .ellipsis:=KW
 replace CI:Heap.SameBut z hp k1:=CI
 refine wpAny_bind ?_;simp only[List.zipIdx_cons,List.zipIdx_nil,Qa5,List.forIn_nil]
 refine wpAny_bind (wpAny_bind (wpAny_onRaise ?_));refine wpAny_bind (m:=Builtin.SmallTypes.nextOf (.ref i1)) ?_
 refine D1.done _ _ _ (D1.frame _ _ _ h1 fun c hc o e=>CI.extBut _ _ (nm hc Z.z1) e) fun k2 e Ga he=>?_
 obtain ⟨oe,Td,U1⟩:=he
 have z2:IsZip k2 z TI TO .ellipsis:=Ga _ _ (Ne.symm i1z) KW
 have ez:e≠z:=fun x=>by subst x;rw[z2]at Td;cases Td;simp at U1
 refine wpAny_setField_rec z2 (by simp) fun k3 _ Gb=>hE k3 e (fun c o c1 _ c3 _ x=>Gb.extBut _ _ c1 (Ga _ _ c3 (CI.extBut _ _ c1 x))) ⟨oe,Gb.extBut _ _ ez Td,U1⟩
theorem yF {Q:Option Value->Shared->Prop} (D1:Draws prog w A.in1 i1 f1 n1 P1 S1) (D2:Draws prog w A.in1 i2 f2 n2 P2 S2) (Z:ZA z TI TO i1 i2 f1 f2)
  (hz:IsZip s.heap z TI TO .none) (KU:IsPair s.heap TI (.ref i1) (.ref i2)) (Mu:IsPair s.heap TO a b) (h1:S1 i s.heap) (h2:S2 i s.heap) (l1:i<n1) (l2:i<n2)
  (hQ: ∀x y h' tk,P1 i x->P2 i y->IsZip h' z TI TO (rawInt s.heap.objs.size)->IsPair h' TO x y->S1 (i+1) h'->S2 (i+1) h'->IsPair h' s.heap.objs.size x y->h'.objs.size=s.heap.objs.size+1->
   (∀c o,c≠z->c≠TO->c≠i1->c≠i2->s.heap.get? c=some o->h'.get? c=some o)->Q (some (.ref s.heap.objs.size)) { s with heap:=h',toks:=tk }):
  wpAny (model prog w) A (pyNext (.ref z)) Q E s:=by
 have hT:s.TypeIs (.ref z) "zip":=⟨_,hz,rfl⟩
 unfold pyNext
 exact wpAny_bind (wpAny_attempt (wpAny_callSpecial?_slot (name:=Str.ofString "__next__") hT F.slot_zip_next (wpAny_call_entry F.slot_zip_next hT F.entry_zip_next
   (BF D1 D2 Z hz KU Mu h1 h2 l1 l2 fun x y h' tk p1 p2 a1 a2 a3 a4 a5 a6 a7=>wpAny_pure (hQ x y h' tk p1 p2 a1 a2 a3 a4 a5 a6 a7)) (F.args_zip_next_1 _))))
theorem BG {Q:Option Value->Shared->Prop} (D1:Draws prog w A.in1 i1 f1 n1 P1 S1) (Z:ZA z TI TO i1 i2 f1 f2)
  (hz:IsZip s.heap z TI TO .none) (KU:IsPair s.heap TI (.ref i1) (.ref i2)) (Mu:IsPair s.heap TO a b) (h1:S1 n1 s.heap)
  (hQ: ∀h',(∀c o,c≠z->c≠TO->c≠i1->c≠i2->s.heap.get? c=some o->h'.get? c=some o)->Q none { s with heap:=h' }):wpAny (model prog w) A (pyNext (.ref z)) Q E s:=by
 have hT:s.TypeIs (.ref z) "zip":=⟨_,hz,rfl⟩
 unfold pyNext
 refine wpAny_bind (wpAny_attempt (wpAny_callSpecial?_slot (name:=Str.ofString "__next__") hT F.slot_zip_next (wpAny_call_entry F.slot_zip_next hT F.entry_zip_next (DI D1 Z hz KU Mu h1 fun h' e hk he=>?_) (F.args_zip_next_1 _))))
 obtain ⟨o,ho,hc⟩:=he
 refine wpAny_bind (wpAny_isInstance (T:="StopIteration") (b:=true) ⟨o,ho,hc⟩ isSubtype_stop (wpAny_pure (hQ _ hk)))
end
structure ZS (P:Program) (w:World) (K:PySem.W.Frag) (a it:Addr) (Sq:Hp->List V->Prop) (IT:Nat->Heap->Prop):Prop where
 obj: ∀i h,IT i h-> ∃o,h.get? it=some o/\ ∀v,o.data≠ .cell v
 keep: ∀i h h',IT i h->(∀o,h.get? it=some o->h'.get? it=some o)->IT i h'
 inj: ∀(X:Cx),X.K=K-> ∀(pins:List (Addr×Obj)) (s:Shared) (σ:St) (H:Hp),Inv X pins σ H s-> ∀xs ys,Sq H xs->Sq H ys->xs=ys
 draws: ∀(X:Cx),X.prog=P->X.w=w->X.K=K->X.calm=true-> ∀(pins:List (Addr×Obj)) (s:Shared) (σ:St) (H:Hp),Inv X pins σ H s-> ∀xs,Sq H xs->a≠it->
  ∃(aJ:List Value) (SS:Nat->Heap->Prop),Vals xs aJ/\Draws P w X.A.in1 it [it,a] aJ.length (fun i v=>aJ[i]? =some v) SS/\(∀i,IT i s.heap->SS i s.heap)/\ ∀i h,SS i h->IT i h
theorem DJ {P:Program} {w:World} {K:PySem.W.Frag} (a it:Addr):ZS P w K a it (fun H xs=>bY K H a xs) (fun i h=>h.IsTupleIter it a i) where
 obj:=fun i h st=>by
  obtain ⟨o,ho,hc,hd⟩:=st
  exact ⟨o,ho,fun v z=>by rw[hd]at z;cases z⟩
 keep:=fun i h h' st k=>by
  obtain ⟨o,ho,r⟩:=st
  exact ⟨o,k o ho,r⟩
 inj:=fun X hK pins s σ H I xs ys h1 h2=>by subst hK;exact I.mq h1 h2
 draws:=fun X hP hw hK hc pins s σ H I xs hq ne=>by
  subst hP hw hK
  obtain ⟨aJ,rv,p,_⟩:=I.tuple hq
  have D:=i_ (prog:=X.prog) (w:=X.w) (A:=X.A.in1) (I.ok.hd hc) it a ne aJ.toArray
  refine ⟨aJ,fun i h=>h.IsTupleIter it a i/\h.IsTuple a aJ.toArray,rv,?_,fun i h=>⟨h,p⟩,fun i h z=>z.1⟩
  have e:aJ.toArray.size=aJ.length:=YN
  rw[<-e]
  refine ⟨D.live,D.frame,fun i s Q E hi st q=>D.item i s Q E hi st fun x h' tk hx=>q x h' tk (by simpa using hx),D.done⟩
noncomputable def Mw (rk rm:Hp->List V->Prop):It:=⟨fun i H=> ∃xs ys x y,rk H xs/\rm H ys/\xs[i]? =some x/\ys[i]? =some y,
 fun i H x H'=> ∃T u v,(∀xs,rk H xs->xs[i]? =some u)/\(∀ys,rm H ys->ys[i]? =some v)/\x= .ref T/\H T=none/\H'=upd H T (.tup [u,v]),
 fun i H=> ∃xs,rk H xs/\(∃ys,rm H ys)/\xs.length=i⟩
theorem DK {P:Program} {w:World} {K:PySem.W.Frag} {elts:List Expr} {k:Nat} {pos:Pos} {a1 a2 z TI TO i1 i2:Addr} {rk rm:Hp->List V->Prop} {I1 I2:Nat->Heap->Prop}
  (W1:ZS P w K a1 i1 rk I1) (W2:ZS P w K a2 i2 rm I2) (Z:ZA z TI TO i1 i2 [i1,a1] [i2,a2]) (n1:a1≠i1) (n2:a2≠i2):
  Turn P w K (.Tuple elts k pos) (Mw rk rm) [z,TI,TO,i1,i2] z (fun i h=>IsZip h z TI TO .none/\IsPair h TI (.ref i1) (.ref i2)/\(∃a b,IsPair h TO a b)/\I1 i h/\I2 i h) where
 mem:=by simp
 obj:=fun i h st b hb=>by
  obtain ⟨q1,q2,⟨a,b',q3⟩,q4,q5⟩:=st
  simp only[Wz,Zl,or_false]at hb
  rcases hb with g | g | g | g | g<;>rw[g]
  ·exact ⟨_,q1,fun v z=>by cases z⟩
  ·exact ⟨_,q2,fun v z=>by cases z⟩
  ·exact ⟨_,q3,fun v z=>by cases z⟩
  ·exact W1.obj i h q4
  ·exact W2.obj i h q5
 keep:=fun i h h' st kp=>by
  obtain ⟨q1,q2,⟨a,b',q3⟩,q4,q5⟩:=st
  exact ⟨kp z (by simp) _ q1,kp TI (by simp) _ q2,⟨a,b',kp TO (by simp) _ q3⟩,W1.keep _ _ _ q4 fun o e=>kp i1 (by simp) o e,W2.keep _ _ _ q5 fun o e=>kp i2 (by simp) o e⟩
 item:=by
  intro X hP hw hK hc i pins s σ H E I hf st hg
  obtain ⟨q1,q2,⟨a,b',q3⟩,q4,q5⟩:=st
  obtain ⟨xs,ys,x,y,hx,hy,gx,gy⟩:=hg
  obtain ⟨xi,SX,rx,DX,ux,vx⟩:=W1.draws X hP hw hK hc pins s σ H I xs hx n1
  obtain ⟨yi,SY,ry,DY,uy,vy⟩:=W2.draws X hP hw hK hc pins s σ H I ys hy n2
  obtain ⟨u0,hu,ru⟩:=rx.get gx
  obtain ⟨w0,Q0,WR⟩:=ry.get gy
  have WS:=W1.inj X hK pins s σ H I
  have WT:=W2.inj X hK pins s σ H I
  subst hP hw hK
  refine yF DX DY Z q1 q2 q3 (ux i q4) (uy i q5) (Kr.mp hu).1 (Kr.mp Q0).1 fun x2 y2 h' tk p1 p2 e1 e2 e3 e4 e5 e6 e7=>⟨_,rfl,?_⟩
  have ex:x2=u0:=Zc (p1.symm.trans hu)
  have ey:y2=w0:=Zc (p2.symm.trans Q0)
  subst ex
  subst ey
  have lt: ∀{c o},s.heap.get? c=some o->s.heap.objs.size≠c:=fun e=>Qbd (Zj e)
  obtain ⟨o1,g1⟩:=DX.live _ _ (ux i q4)
  obtain ⟨o2,g2⟩:=DY.live _ _ (uy i q5)
  have FZ:s.heap.objs.size∉[z,TI,TO,i1,i2]:=by
   simp only[Wz,Zl,or_false,not_or]
   exact ⟨lt q1,lt q2,lt q3,lt g1,lt g2⟩
  refine wpAny_letOwnedTupleGo_zip e1 fun h2 z2 sb=>?_
  have kk: ∀b o,b∉[z,TI,TO,i1,i2]->s.heap.get? b=some o->h2.get? b=some o:=fun b o hb e=>by
   simp only[Wz,Zl,or_false,not_or]at hb
   exact sb.extBut _ _ hb.1 (e7 b o hb.1 hb.2.2.1 hb.2.2.2.1 hb.2.2.2.2 e)
  have pQ:h2.IsTuple s.heap.objs.size #[x2,y2]:=⟨_,sb.extBut _ _ (lt q1) e5,rfl,_,rfl⟩
  refine ⟨.ref s.heap.objs.size,upd H s.heap.objs.size (.tup [x,y]),?_,rfl,⟨s.heap.objs.size,x,y,fun zs Jb=>by rw[WS zs xs Jb hx];exact gx,fun zs Jb=>by rw[WT zs ys Jb hy];exact gy,rfl,I.bZ.fresh (UP _),rfl⟩,
   ⟨z2,sb.extBut _ _ Z.tz (e7 _ _ Z.tz Z.tt Z.t1 Z.t2 q2),⟨_,_,sb.extBut _ _ Z.oz e2⟩,vx _ _ (DX.frame _ _ _ e3 fun c hc o e=>sb.extBut _ _ (nm hc Z.z1) e),vy _ _ (DY.frame _ _ _ e4 fun c hc o e=>sb.extBut _ _ (nm hc Z.z2) e)⟩,fun b hb=>?_⟩
  ·refine I.lr (t':=tk) (h':=h2) kk hf (UP _) ?_
   exact ⟨by show 2<=sizeLine;decide,[x2,y2], .cons ru (.cons WR .nil),pQ⟩
  ·rw[ar (fun q:b=s.heap.objs.size=>FZ (q▸hb))];exact (hf b hb).1
 done:=by
  intro X hP hw hK hc i pins s σ H E I hf st hg
  obtain ⟨q1,q2,⟨a,b',q3⟩,q4,q5⟩:=st
  obtain ⟨xs,hx,⟨ys,hy⟩,el⟩:=hg
  obtain ⟨xi,SX,rx,DX,ux,vx⟩:=W1.draws X hP hw hK hc pins s σ H I xs hx n1
  have hl:=rx.length
  subst hP hw hK
  have e0:i=xi.length:=by omega
  subst e0
  refine BG DX Z q1 q2 q3 (ux _ q4) fun h' hk=>⟨rfl,I.oJ (t':=s.toks) (ch:=[z,TI,TO,i1,i2]) (fun b o hb e=>?_) hf⟩
  simp only[Wz,Zl,or_false,not_or]at hb
  exact hk b o hb.1 hb.2.2.1 hb.2.2.2.1 hb.2.2.2.2 e
 self:=fun _ _ s _ _ st h=>wpAny_pyIter_zip st.1 h
noncomputable abbrev Pw (h:Heap) (c:String) (l:Addr):Heap:=h.push { cls:= .type c,data:= .fields #[.ref l, .int 0 0] }
noncomputable abbrev Q3 (h:Heap) (c d:String) (l m:Addr):Heap:=Pw (Pw h c l) d m
noncomputable abbrev Q5 (h:Heap) (c d:String) (l m:Addr):Heap:=(Q3 h c d l m).push { cls:= .type "tuple",data:= .seq #[.ref h.objs.size, .ref (Pw h c l).objs.size] }
noncomputable abbrev Px (h:Heap) (c d:String) (l m:Addr):Heap:=(Q5 h c d l m).push { cls:= .type "tuple",data:= .seq #[.none, .none] }
noncomputable abbrev K0 (h:Heap) (c d:String) (l m:Addr):Heap:=(Px h c d l m).push { cls:= .type "zip",data:= .fields #[.none, .bool false, .bool false, .ref (Q3 h c d l m).objs.size, .ref (Q5 h c d l m).objs.size] }
theorem wu (l m:Addr) (xs ys:Array Value):Meets (Builtin.«zip.__new__» ⟨[.type "zip", .ref l, .ref m],[]⟩) (fun _ R s=>s.heap.IsTuple l xs/\s.heap.IsTuple m ys/\R (.ok (.ret (.ref (Px s.heap "tuple_iterator" "tuple_iterator" l m).objs.size))) { s with heap:=K0 s.heap "tuple_iterator" "tuple_iterator" l m }):=
 .of_wp fun prog w A R s h=>by
  obtain ⟨hp,g,d,tk,os⟩:=s;obtain ⟨q1,q2,h⟩:=h;have KI:=sub_zip
  have k1:Heap.IsTuple (Shared.heap ⟨hp,g,d,tk,os⟩) l xs:=q1
  have k2:Heap.IsTuple (Shared.heap ⟨hp.push { cls:= .type "tuple_iterator",data:= .fields #[.ref l, .int 0 0] },g,d,tk,os⟩) m ys:=by
   obtain ⟨o,e,r⟩:=q2
   exact ⟨o,Mr _ e,r⟩
  wp_walk using wpAny_pyIter_tuple k1,wpAny_pyIter_tuple k2
  exact ⟨_,rfl,h⟩
def U2 (c d:String) (P1 P2:Heap->Prop) (l m:Addr):Prop:= ∀(prog:Program) (w:World) (A:Around) (E:Value->Shared->Prop) (s:Shared) (Q:Value->Shared->Prop),P1 s.heap->P2 s.heap->
  (∀h',IsZip h' (s.heap.objs.size+4) (s.heap.objs.size+2) (s.heap.objs.size+3) .none->IsPair h' (s.heap.objs.size+2) (.ref s.heap.objs.size) (.ref (s.heap.objs.size+1))->
   IsPair h' (s.heap.objs.size+3) .none .none->h'.get? s.heap.objs.size=some { cls:= .type c,data:= .fields #[.ref l, .int 0 0] }->h'.get? (s.heap.objs.size+1)=some { cls:= .type d,data:= .fields #[.ref m, .int 0 0] }->
   (∀b o,s.heap.get? b=some o->h'.get? b=some o)->Q (.ref (s.heap.objs.size+4)) { s with heap:=h' })->
  wpAny (model prog w) A (call (.type "zip") [.ref l, .ref m]) Q E s
theorem K1 {c d:String} {P1 P2:Heap->Prop} {l m:Addr} (M:Meets (Builtin.«zip.__new__» ⟨[.type "zip", .ref l, .ref m],[]⟩) (fun _ R s=>P1 s.heap/\P2 s.heap/\R (.ok (.ret (.ref (Px s.heap c d l m).objs.size))) { s with heap:=K0 s.heap c d l m })):U2 c d P1 P2 l m:=by
 intro prog w A E s Q p1 p2 h
 refine callType_new F.called_zip (by decide) (F.typeCall_zip_2 _ _) (F.newCall_zip_2 _ _) (fun ob=>F.args_object_init_3 ob _ _) F.entry_zip_new M ⟨p1,p2,?_⟩
 have e1:(Pw s.heap c l).objs.size=s.heap.objs.size+1:=Qal ..
 have e2:(Q3 s.heap c d l m).objs.size=s.heap.objs.size+2:=by rw[Qal,e1]
 have e3:(Q5 s.heap c d l m).objs.size=s.heap.objs.size+3:=by rw[Qal,e2]
 have e4:(Px s.heap c d l m).objs.size=s.heap.objs.size+4:=by rw[Qal,e3]
 have g5:(K0 s.heap c d l m).get? (Px s.heap c d l m).objs.size=some _:=Ze _ rfl
 have g4:(K0 s.heap c d l m).get? (Q5 s.heap c d l m).objs.size=some _:=Mr _ (Ze _ rfl)
 have g3:(K0 s.heap c d l m).get? (Q3 s.heap c d l m).objs.size=some _:=Mr _ (Mr _ (Ze _ rfl))
 have g2:(K0 s.heap c d l m).get? (Pw s.heap c l).objs.size=some _:=Mr _ (Mr _ (Mr _ (Ze _ rfl)))
 have g1:(K0 s.heap c d l m).get? s.heap.objs.size=some _:=Mr _ (Mr _ (Mr _ (Mr _ (Ze _ rfl))))
 show _/\_
 rw[e2,e3,e4]at g5
 rw[e1,e2]at g3
 rw[e3]at g4
 rw[e1]at g2
 rw[e4]
 exact ⟨⟨_,g5,rfl⟩,h _ g5 g3 g4 g1 g2 fun b o x=>Mr _ (Mr _ (Mr _ (Mr _ (Mr _ x))))⟩
theorem Mx {a b c:Nat} (h1:a≠b) (h2:a≠c):(a:Addr)∉([b,c]:List Addr):=fun h=>by
 rcases Wz.mp h with e | e
 ·exact h1 e
 ·exact h2 (Wv.mp e)
theorem Py {a b:Nat} (h:a≠b):(a:Addr)≠(b:Addr):=h
theorem K2 {n l m:Nat} (h1:l<n) (h2:m<n):ZA (n+4:Nat) (n+2:Nat) (n+3:Nat) n (n+1:Nat) [n,l] [(n+1:Nat),m]:=
 ⟨YO,YO,Mx (a:=n+4) (b:=n) (c:=l) (by omega) (by omega),Mx (a:=n+4) (b:=n+1) (c:=m) (by omega) (by omega),Mx (a:=n+3) (b:=n) (c:=l) (by omega) (by omega),Mx (a:=n+3) (b:=n+1) (c:=m) (by omega) (by omega),
  Mx (a:=n) (b:=n+1) (c:=m) (by omega) (by omega),Mx (a:=n+1) (b:=n) (c:=l) (by omega) (by omega),Py (a:=n+2) (b:=n+4) (by omega),Py (a:=n+2) (b:=n+3) (by omega),Py (a:=n+2) (b:=n) (by omega),Py (a:=n+2) (b:=n+1) (by omega),Py (a:=n+3) (b:=n+4) (by omega)⟩
end
def Pz (rk rm:Addr->Hp->List V->Prop) (ta:TA):TI:=fun σ H R=>ta σ H fun vs H1=> ∃a b,vs=[.ref a, .ref b]/\(∃xs,rk a H1 xs)/\(∃ys,rm b H1 ys)/\R (Mw (rk a) (rm b)) H1
abbrev PB (K:PySem.W.Frag):Addr->Hp->List V->Prop:=fun a H xs=>bY K H a xs
section
variable {X:Cx} {elts:List Expr} {k:Nat} {pos':Pos} {a b:Expr} {ta:TA} {p pos:Pos}
theorem G8 {rk rm:Addr->Hp->List V->Prop} (hg:Gl X "zip") (hm:X.mg "zip"=none) (ha:PA X [a,b] ta) (hs:starEach [a,b] X.env=[(false,eval a X.env),(false,eval b X.env)]) (FR:starEach [b] X.env=[(false,eval b X.env)])
  (hk: ∀(pins:List (Addr×Obj)) (s:Shared) (σ:St) (H:Hp),Inv X pins σ H s-> ∀u v xs ys,rk u H xs->rm v H ys->u<s.heap.objs.size/\v<s.heap.objs.size/\ ∃(c d:String) (P1 P2:Heap->Prop) (I1 I2:Nat->Heap->Prop),U2 c d P1 P2 u v/\P1 s.heap/\P2 s.heap/\
   ZS X.prog X.w X.K u s.heap.objs.size (rk u) I1/\ZS X.prog X.w X.K v (s.heap.objs.size+1) (rm v) I2/\(∀h':Heap,h'.get? s.heap.objs.size=some { cls:= .type c,data:= .fields #[.ref u, .int 0 0] }->I1 0 h')/\ ∀h':Heap,h'.get? (s.heap.objs.size+1)=some { cls:= .type d,data:= .fields #[.ref v, .int 0 0] }->I2 0 h'):
  PI X (.Tuple elts k pos') (.Call (.Name "zip" p) [a,b] [] pos) (Pz rk rm ta):=by
 intro pins s σ H R I h
 refine Call_ (gv I hg hm boot_zip (Z0 (cg (ha pos pins s σ H _ I h) fun us s1 ⟨vs,H1,I1,r1,q1⟩=>?_) (by rw[hs,FR]) (by rw[FR];rfl)))
 obtain ⟨u,v,rfl,⟨xs,hx⟩,⟨ys,hy⟩,q⟩:=q1
 obtain ⟨u',v',rfl,ru,rv⟩:=vals2 r1
 cases ru
 cases rv
 obtain ⟨lu,lv,c,d,P1,P2,J1,J2,M,p1,p2,W1,W2,j1,j2⟩:=hk pins s1 σ H1 I1 u v xs ys hx hy
 refine M X.prog X.w X.A X.xe s1 _ p1 p2 fun h' z1 z2 z3 z4 z5 kk=>wpAny_pyIter_zip z1 ?_
 refine ⟨s1.heap.objs.size+4,[s1.heap.objs.size+4,s1.heap.objs.size+2,s1.heap.objs.size+3,s1.heap.objs.size,s1.heap.objs.size+1],_,_,H1,rfl,I1.kept (t':=s1.toks) kk,DK W1 W2 (K2 lu lv) (Zp lu) (Zp (Qav lv)),⟨z1,z2,⟨_,_,z3⟩,j1 h' z4,j2 h' z5⟩,fun e he=>?_,q⟩
 have PC:s1.heap.objs.size<=e:=by
  simp only[Wz,Zl,or_false]at he
  rcases he with g | g | g | g | g<;>rw[g]<;>omega
 exact I1.o6 PC (I1.bZ.fresh PC)
theorem wx (K:PySem.W.Frag) (hK:X.K=K) (hg:Gl X "zip") (hm:X.mg "zip"=none) (ha:PA X [a,b] ta) (hs:starEach [a,b] X.env=[(false,eval a X.env),(false,eval b X.env)]:=by rfl) (FR:starEach [b] X.env=[(false,eval b X.env)]:=by rfl):PI X (.Tuple elts k pos') (.Call (.Name "zip" p) [a,b] [] pos) (Pz (PB K) (PB K) ta):=by
 subst hK
 refine G8 hg hm ha hs FR fun pins s σ H I u v xs ys hx hy=>?_
 obtain ⟨xi,_,px,_⟩:=I.tuple hx
 obtain ⟨yi,_,py,_⟩:=I.tuple hy
 obtain ⟨ox,ex,_⟩:=id px
 obtain ⟨oy,ey,_⟩:=id py
 exact ⟨Zj ex,Zj ey,_,_,(fun h=>h.IsTuple u xi.toArray),(fun h=>h.IsTuple v yi.toArray),_,_,K1 (wu u v xi.toArray yi.toArray),px,py,DJ u _,DJ v _,fun h' e=>⟨_,e,rfl,rfl⟩,fun h' e=>⟨_,e,rfl,rfl⟩⟩
end
theorem G9 {rk rm:Hp->List V->Prop} {xs ys:List V} {g:TG} {tb:TS} {D:Ends} {σ:St} {H:Hp} (Pv:Nat->St->Hp->Prop) (hlen:xs.length=ys.length) (h0:Pv 0 σ H) (hl: ∀i σ H,i<=xs.length->Pv i σ H->rk H xs/\rm H ys)
  (hs: ∀i x y σ H T,xs[i]? =some x->ys[i]? =some y->Pv i σ H->H T=none->g (.ref T) σ (upd H T (.tup [x,y])) fun σ2 H2=>tb { D with nx:=Pv (i+1),ct:=Pv (i+1),bk:=D.nx } σ2 H2) (hd: ∀σ H,Pv xs.length σ H->D.nx σ H):
  ∃W:Nat->Nat->St->Hp->Prop,(∃m,W 0 m σ H)/\ ∀i m σ H,W i m σ H->
   ((Mw rk rm).stop i H/\D.nx σ H)\/((Mw rk rm).go i H/\ ∃N:St->Hp->Prop,(∀σ' H',N σ' H'-> ∃m',m'<m/\W (i+1) m' σ' H')/\ ∀x H',(Mw rk rm).CD i H x H'->g x σ H' fun σ2 H2=>tb { D with nx:=N,ct:=N,bk:=D.nx } σ2 H2):=by
 refine ⟨fun i m σ H=>m=xs.length - i/\i<=xs.length/\Pv i σ H,⟨xs.length,by simp,Zg _,h0⟩,?_⟩
 rintro i m σ H ⟨rfl,hi,p⟩
 obtain ⟨q1,q2⟩:=hl i σ H hi p
 by_cases cT:i<xs.length
 ·have K3:i<ys.length:=by omega
  refine .inr ⟨⟨xs,ys,xs[i],ys[i],q1,q2,by simp[cT],by simp[K3]⟩,Pv (i+1),fun σ' H' p'=>⟨xs.length - (i+1),by omega,rfl,cT,p'⟩,fun x H' y=>?_⟩
  obtain ⟨T,u,v,hu,hv,rfl,hn,rfl⟩:=y
  exact hs i u v σ _ T (hu xs q1) (hv ys q2) p hn
 ·have e:i=xs.length:=by omega
  subst e
  exact .inl ⟨⟨xs,q1,⟨ys,q2⟩,rfl⟩,hd σ H p⟩
theorem DL {rk rm:Hp->List V->Prop} {xs ys:List V} {σc:St} {g:TG} {tc:TT} {te:TE} {Q:VK} {H1:Hp} (Pv:Nat->List V->Hp->Prop) (hlen:xs.length=ys.length) (hn:xs.length<sizeLine) (hl: ∀i acc H,Pv i acc H->rk H xs/\rm H ys) (h0:Pv 0 [] H1)
  (hs: ∀(i:Nat) (x y:V) (acc:List V) (H:Hp) (T:Addr) (Nx:List V->Hp->Prop),xs[i]? =some x->ys[i]? =some y->acc.length<=i->Pv i acc H->H T=none->(∀ck H',ck.length<=i+1->Pv (i+1) ck H'->Nx ck H')->
   g (.ref T) σc (upd H T (.tup [x,y])) fun σ2 H2=>Wk σc σ2/\tc σ2 H2 fun b H3=>if b=true then te σ2 H3 fun v H4=>Nx (acc++[v]) H4 else Nx acc H3)
  (hd: ∀acc H D,acc.length<=xs.length->Pv xs.length acc H->H D=none->Q (.ref D) (upd H D (.lst acc))):nE (Mw rk rm) σc g tc te Q H1:=by
 refine ⟨fun i m acc H=>m=xs.length - i/\i<=xs.length/\acc.length<=i/\Pv i acc H,⟨xs.length,by simp,Zg _,UP _,h0⟩,?_⟩
 rintro i m acc H ⟨rfl,hi,iW,p⟩
 obtain ⟨q1,q2⟩:=hl i acc H p
 refine ⟨by omega,?_⟩
 by_cases cT:i<xs.length
 ·have K3:i<ys.length:=by omega
  refine .inr ⟨⟨xs,ys,xs[i],ys[i],q1,q2,by simp[cT],by simp[K3]⟩,fun x H' y=>?_⟩
  obtain ⟨T,u,v,hu,hv,rfl,hT,rfl⟩:=y
  exact hs i u v acc _ T (fun ck H'=> ∃m',m'<xs.length - i/\(m'=xs.length - (i+1)/\i+1<=xs.length/\ck.length<=i+1/\Pv (i+1) ck H')) (hu xs q1) (hv ys q2) iW p hT fun ck H' h1 h2=>⟨xs.length - (i+1),by omega,rfl,cT,h1,h2⟩
 ·have e:i=xs.length:=by omega
  subst e
  exact .inl ⟨⟨xs,q1,⟨ys,q2⟩,rfl⟩,fun D hD=>hd acc H D iW p hD⟩
end L2
namespace L2
open PySem PySem.Spec PyProof.Rows PySem.MeetsSeq PySem.SeqAt
end L2
set_option maxHeartbeats 4000000
namespace XL
open PySem PySem.Spec PySem.Calls PyProof.Rows PySem.W Builtin Builtin.ObjectAttr
end XL
set_option maxHeartbeats 4000000
namespace XL
open PySem PySem.Spec PySem.Calls PyProof.Rows PySem.W Builtin Builtin.ObjectAttr
end XL
set_option maxHeartbeats 4000000
namespace XL
open PySem PySem.Spec PySem.Calls PyProof.Rows PySem.W
end XL
set_option maxHeartbeats 4000000
namespace L2
open PySem PySem.Spec PyProof.Rows XL
end L2
set_option maxHeartbeats 4000000
namespace L2
open PySem PySem.Spec PyProof.Rows XL
end L2
set_option maxHeartbeats 4000000
namespace L2
open PySem PySem.Spec PyProof.Rows XL
end L2
set_option maxHeartbeats 4000000
namespace L2
open PySem PySem.Spec PyProof.Rows XL
end L2
set_option maxHeartbeats 4000000
namespace L2
open PySem PySem.Spec PyProof.Rows XL
noncomputable def U4 (s:Stmt) (j:Nat):Stmt:=match s with
 | .ClassDef _ _ _ b _ _ _ _ _ _ _=>b.getD j (.Pass ⟨0,0,0,0⟩)
 | _=> .Pass ⟨0,0,0,0⟩
end L2
set_option maxHeartbeats 4000000
namespace L2
open PySem PySem.Spec PyProof.Rows XL
def PD (_ j:Int):Prop:=0<j/\j<18446744073709551616
theorem fg {X:Cx}:hJ X (binaryOp .FloorDiv) (rI PD fun i j=> .int (i / j)):=QR fun i j _ _ _ _ _ hc q=>by
 have h1:(0:Int)<j:=hc.1
 have h2:j<18446744073709551616:=hc.2
 have h3:j.natAbs<2 ^ 64:=by omega
 exact floordiv_int (by omega) (by rw[Int.fdiv_eq_ediv_of_nonneg i (by omega)];exact q) (.inl (PyProof.noPylong_of_log2 (Qby ((Nat.log2_lt (by omega)).mpr h3) (by decide))))
end L2
namespace PySem
end PySem
namespace L2
open PySem PySem.Spec PyProof.Rows
end L2
set_option maxHeartbeats 1000000
namespace L2.F3
open PySem PySem.Spec PyProof.Rows
end L2.F3
namespace L2
open PySem PySem.Spec PyProof.Rows
section
variable {X:Cx}
noncomputable def dg (n:Nat):List Nat:=((toString (n:Int):String):Str).cps.toList
theorem Te (n:Nat):((toString (n:Int):String):Str)=S (dg n):=O5 _
theorem BH {n:Nat} (h:n<2 ^ 60):((n:Int)).natAbs.log2<1920:=by
 rw[Int.natAbs_natCast]
 by_cases z:n=0
 ·subst z;decide
 ·exact (Nat.log2_lt z).mpr (Zt h (Nat.pow_le_pow_right (by decide) (by decide)))
theorem BI:dk X (.type "str") (fun xs H Q=> ∃n:Nat,xs=[.int n]/\n<2 ^ 60/\Q (.str (S (dg n))) H):=by
 intro pins s σ H xs us Q I r h
 obtain ⟨n,rfl,hz,q⟩:=h
 refine tQ pins s σ H _ us Q I r ⟨n,rfl,BH hz,?_⟩
 rw[Te]
 exact q
end
set_option maxHeartbeats 1000000
theorem wz:typeLookup (.type "dict") "__len__"=pure (some (.builtin "dict.__len__")):=PySem.F.slot_dict_len.lookup
section
variable {prog:Program} {w:World} {A:Around} {E:Value->Shared->Prop} {s:Shared} {KK:Type} [DecidableEq KK] {knd:PySem.KeyKind prog w KK}
theorem ud {Q:List Value->Shared->Prop} (hh:A.handled=none) (d:Addr) (aP:List (KK×Value)) (ep:Nat) (hd:(d==sysModules)=false) (hm:s.heap.DictAt knd d aP ep) (hn:aP.length<=sizeLine)
  (hQ: ∀s' acc,(∀b o,s.heap.get? b=some o->s'.heap.get? b=some o)->s'.gens=s.gens->s'.drawn=s.drawn->s'.os=s.os->ItemsOf (fun i v=> ∃k x,aP[i]? =some (k,x)/\knd.is k v=true) acc aP.length->Q acc.toList s'):
  wpAny (model prog w) A (collect (.ref d)) Q E s:=by
 have hT:s.TypeIs (.ref d) "dict":=hm.dictOf.typeIs
 obtain ⟨od,G_,WU⟩:=id hT
 have PH:=Zj G_
 unfold collect
 refine wpAny_bind (wpAny_runValue (codeAny_builtin PySem.F.entry_proto_collect ?_))
 rw[Around.under_plainId PySem.F.plain_proto_collect _]
 show wpAny _ A.in1 (newList [] >>= fun l=>again (.builtin "list.__iadd__" ⟨[l, .ref d],[]⟩)) _ _ s
 refine wpAny_bind (wpAny_newObj_type ?_)
 refine wpAny_pure ⟨plainId_quiet PySem.F.plain_list_iadd _,codeAny_builtin PySem.F.entry_list_iadd ?_⟩
 rw[Around.under_plainId PySem.F.plain_list_iadd _]
 show wpAny _ A.in1 (Builtin.List.listExtendWith (.ref s.heap.objs.size) (.ref d) (.ref s.heap.objs.size)) _ _ _
 generalize hH:s.heap.push { cls:= .type "list",data:= .seq ([]:List Value).toArray }=H
 have Tf:H.objs.size=s.heap.objs.size+1:=by rw[<-hH,Qal]
 have Jc:H.DictAt knd d aP ep:=hm.at' fun o e=>by rw[<-hH];exact Mr _ e
 have WV:Shared.TypeIs { s with heap:=H } (.ref d) "dict":=Jc.dictOf.typeIs
 have Tg:s.heap.objs.size≠d:=Qbd PH
 unfold Builtin.List.listExtendWith
 refine wpAny_bind (wpAny_typeOf WV ?_)
 have h1:Builtin.List.listSameRef (.ref s.heap.objs.size) (.ref d)=false:=by simp[Builtin.List.listSameRef,Tg]
 rw[if_neg (by rw[h1];decide)]
 refine wpAny_bind (wpAny_pyIter_dict (s:={ s with heap:=H }) hd Jc ?_)
 show wpAny _ A.in1 _ _ _ { s with heap:=H.push { cls:= .type "dict_keyiterator",data:= .fields #[.ref d, .int 0 0, .int aP.length 0, .int ep 0] } }
 generalize IU:H.push { cls:= .type "dict_keyiterator",data:= .fields #[.ref d, .int 0 0, .int aP.length 0, .int ep 0] }=H2
 have Ab:H2.DictAt knd d aP ep:=Jc.at' fun o e=>by rw[<-IU];exact Mr _ e
 have Th:Shared.TypeIs { s with heap:=H2 } (.ref d) "dict":=Ab.dictOf.typeIs
 refine wpAny_bind (wpAny_holding ?_)
 unfold Builtin.List.listLengthHint
 refine wpAny_bind (wpAny_specialOf Th wz ?_)
 wp_delta
 refine wpAny_bind (wpAny_isInstance (T:="dict") (b:=true) Th (by rw[isSubtype_type];kernel_rfl) ?_)
 show wpAny _ A.in1 (typeOf (Value.ref d) >>= _) _ _ _
 refine wpAny_bind (wpAny_typeOf Th ?_)
 refine wpAny_pure ?_
 rw[if_pos (by decide+kernel)]
 refine wpAny_bind (wpAny_rule ?_)
 refine wpAny_bind ?_
 unfold Builtin.List.listTouch
 have hS:H2.get? s.heap.objs.size=some { cls:= .type "list",data:= .seq ([]:List Value).toArray }:=by
  rw[<-IU];exact Mr _ (by rw[<-hH];exact Ze _ rfl)
 refine wpAny_bind (wpAny_updateSeq hS rfl ?_ (Zg _) (Qaq (Zg _)))
 have U5:=Qab (Obj.mapSeq (fun l:Array Value=>l.push .none)) hS rfl
 refine wpAny_updateSeq U5 rfl ?_ (by show 1<=sizeLine;decide) (Zg _)
 have WW:=Qab (Obj.mapSeq (fun l:Array Value=>l.pop)) U5 rfl
 have Ti: ∀b o,b≠s.heap.objs.size->H2.get? b=some o->((H2.update s.heap.objs.size (Obj.mapSeq (fun l:Array Value=>l.push .none))).update s.heap.objs.size (Obj.mapSeq (fun l:Array Value=>l.pop))).get? b=some o:=fun b o hb e=>
  (ZR _ _ (Ne.symm hb)).trans ((ZR _ _ (Ne.symm hb)).trans e)
 have hit:H2.get? H.objs.size=some { cls:= .type "dict_keyiterator",data:= .fields #[.ref d, .int 0 0, .int aP.length 0, .int ep 0] }:=by rw[<-IU];exact Ze _ rfl
 have U6:H.objs.size≠s.heap.objs.size:=by rw[Tf];exact Qcc _
 have WX:d≠H.objs.size:=by rw[Tf];exact Zp (Qav PH)
 have WY:s.heap.objs.size∉[H.objs.size,d]:=fun WZ=>by
  rcases Wz.mp WZ with z | z
  ·exact U6 z.symm
  ·exact Tg (Wv.mp z)
 refine wpAny_pure ⟨plainId_quiet PySem.F.plain_extend_loop _,codeAny_extend_loopS (Walks.dictKeys (knd:=knd) (A:=A.in1) hh H.objs.size d WX aP ep).toS hn _ WY _ aP.length 0 _ _ _ rfl (Zg _)
  ⟨⟨_,Ti _ _ U6 hit,rfl,rfl⟩,Ab.at' fun o e=>Ti d o (Ne.symm Tg) e⟩ WW (ItemsOf.nil _) fun s' ck c' Q6 W0 yo=>?_⟩
 show wpAny _ A (load s.heap.objs.size >>= _) _ _ s'
 refine wpAny_bind (wpAny_load W0 ?_)
 refine wpAny_pure (hQ s' ck (fun b ob e=>Q6.heap b ob (fun hb=>?_) (Ti b ob (Zp (Zj e)) (by rw[<-IU];exact Mr _ (by rw[<-hH];exact Mr _ e)))) Q6.gens Q6.drawn Q6.os yo)
 have cT:=Zj e
 rcases Wz.mp hb with h | h
 ·exact absurd cT (h▸ZW _)
 ·rw[Wv.mp h,Tf]at cT;exact absurd cT (Nat.not_lt.mpr (Qa0 _))
end
section
variable {X:Cx}
theorem Ac {aP:List (Key×V)} {vs:List (Key×Value)} (h:KV aP vs):vs.map (·.1)=aP.map (·.1):=by
 induction h with
 | nil=>rfl
 | cons r _ ih=>rw[Zd,Zd,ih,r.1]
end
end L2
set_option maxHeartbeats 4000000
namespace XL
open PySem PySem.Spec PySem.Calls PyProof.Rows PySem.W
end XL
set_option maxHeartbeats 4000000
namespace L2
open PySem PySem.Spec PyProof.Rows XL
set_option maxHeartbeats 1000000
end L2
namespace PySem
open Sem (wp)
end PySem
namespace PySem
open Sem (wp)
namespace F
end F
end PySem
namespace L2
open PySem PySem.Spec PyProof.Rows
end L2
namespace L2.F2
open PySem PySem.Spec PyProof.Rows
end L2.F2
namespace L2
open PySem PySem.Spec PyProof.Rows
set_option maxHeartbeats 1000000
section
variable {X:Cx}
theorem DM {i:Nat} (h:(i:Int)<2 ^ 63):Builtin.List.listFitsIndex (i:Int)=true:=by
 unfold Builtin.List.listFitsIndex
 rw[Z3]
 exact ⟨decide_eq_true (by omega),decide_eq_true (by omega)⟩
def Ha:V->List V->Hp->VK->Prop:=fun x vs H Q=> ∃(l:Addr) (xs:List V) (i:Nat) (y:V),x= .ref l/\vs=[.int i,y]/\H l=some (.lst xs)/\i<=xs.length/\xs.length<sizeLine/\Q .fH (upd H l (.lst (xs.take i++y::xs.drop i)))
theorem BJ:Mq X "list.insert" Ha:=by
 intro pins s σ H x vs v us Q I rx rv h
 obtain ⟨l,xs,i,y,rfl,rfl,hH,hi,hz,q⟩:=h
 cases rx
 obtain ⟨a,b,rfl,⟨t,rfl⟩,rb⟩:=vals2 rv
 obtain ⟨z,aJ,n,r,hl,e⟩:=I.tY hH
 have hn:=fL
 have hf: ¬(!Builtin.List.listFitsIndex (i:Int))=true:=by rw[DM (by omega)];decide
 have hsz:aJ.toArray.size<=sizeLine:=by rw[YN];omega
 generalize hI:(i:Int)=I' at hf
 have hm:=PySem.AutoSeq1.list_insert_list_int_val_1 l aJ.toArray n I' t b hf hsz
 refine call_meets F.slot_list_insert ⟨_,e,rfl⟩ F.entry_list_insert (F.args_list_insert_3 _ _ _) hm ⟨e,?_⟩
 clear hm
 refine ⟨.fH,_,I.Br (its':=aJ.take i++b::aJ.drop i) hH e ?_ ?_ ?_,rfl,q⟩
 ·have e1:(if I'<0 then (I'+(aJ.toArray.size:Int)).toNat else min I'.toNat aJ.toArray.size)=i:=by rw[<-hI,if_neg (by omega),YR,YN];omega
  show ((aJ.toArray.extract 0 (if I'<0 then (I'+(aJ.toArray.size:Int)).toNat else min I'.toNat aJ.toArray.size)).push b++aJ.toArray.extract (if I'<0 then (I'+(aJ.toArray.size:Int)).toNat else min I'.toNat aJ.toArray.size))=_
  rw[e1]
  apply Qcf.mp
  simp
  exact Zq (by rw[Zs];exact UP _)
 ·have h1:Vals (xs.take i) (aJ.take i):=r.take i
  exact h1.append (.cons rb (r.drop i))
 ·rw[UO,Zv,Zi,Zs];omega
end
end L2
namespace L2
open PySem PySem.Spec PyProof.Rows PySem.W
end L2
namespace L2
open PySem PySem.Spec PyProof.Rows PySem.MeetsSeq PySem.SeqAt
end L2
namespace L2
open PySem PySem.Spec PyProof.Rows HT
set_option maxHeartbeats 1000000
theorem ue: ∀a b c:List Int,bF b a=false->bF c b=false->bF c a=false
 | [],[],[],_,_=>rfl
 | [],[],_::_,_,h=>h
 | [],_::_,[],_,_=>rfl
 | [],_::_,_::_,_,_=>rfl
 | _::_,[],_,h,_=>by cases h
 | _::_,_::_,[],_,h=>by cases h
 | x::a,y::b,z::c,h,g=>by
  have h':(if y=x then bF b a else decide (y<x))=false:=h
  have g':(if z=y then bF c b else decide (z<y))=false:=g
  show (if z=x then bF c a else decide (z<x))=false
  by_cases e1:y=x
  ·rw[if_pos e1]at h'
   by_cases e2:z=y
   ·rw[if_pos e2]at g'
    rw[if_pos (e2.trans e1)]
    exact ue a b c h' g'
   ·rw[if_neg e2]at g'
    rw[if_neg fun w=>e2 (w.trans e1.symm), <-e1]
    exact g'
  ·rw[if_neg e1]at h'
   have q1:=of_decide_eq_false h'
   by_cases e2:z=y
   ·rw[if_neg fun w=>e1 (e2.symm.trans w),e2];exact h'
   ·rw[if_neg e2]at g'
    have q2:=of_decide_eq_false g'
    rw[if_neg (by omega)]
    exact decide_eq_false (by omega)
open Classical in
section
variable {X:Cx} {e st:Expr} {te:TE} {ts:TO} {pos p2:Pos}
theorem BK (l:List Nat) (t tk:Tok):sliceMade (S l) t none none (some (-1,tk))= .str (S l.reverse):=by
 unfold sliceMade
 rw[if_neg (by simp)]
 have e:slicePicked (S l) none none (some (-1,tk))=(List.range (S l).cps.size).reverse:=by
  rw[<-PySem.W.krv_range, <-PySem.W.krv_sliceRange]
  rfl
 rw[e,List.filterMap_reverse,PySem.W.krv_all,fM]
 rfl
def PJ (te:TE) (ts:TO):TE:=fun σ H Q=>te σ H fun x H1=>ts σ H1 fun o H2=>o=some (-1)/\ ∃l,x= .str (S l)/\l.length<=sizeLine/\Q (.str (S l.reverse)) H2
theorem Hb (he:PE X e te) (hs:PO X (some st) ts):PE X (.Subscript e (.Slice none none (some st) p2) pos) (PJ te ts):=by
 intro pins s σ H Q I h
 refine Subscript_ (cg (he pins s σ H _ I h) fun v s1 ⟨x,H1,I1,r1,q1⟩=>?_)
 refine wpAny_Slice ?_
 rw[evalPart_none]
 refine wpAny_pure (wpAny_pure (cg (hs pins s1 σ H1 _ I1 q1) fun vk s3 ⟨o,H3,I3,pk,eo,l,ex,hz,q3⟩=>?_))
 subst eo ex
 obtain ⟨t,rfl⟩:=r1
 cases pk with
 | int i tk=>
 have I4:Inv X pins σ H3 { s3 with heap:=s3.heap.push { cls:= .type "slice",data:= .fields #[.none, .none, .int (-1) tk] } }:=I3.kept (t':=s3.toks) fun b ob q=>Mr _ q
 show wpAny (model X.prog X.w) X.A (subscriptTail e (.Slice none none (some st) p2) (.str (S l) t) (.ref s3.heap.objs.size)) (EP X pins σ Q) X.xe { s3 with heap:=s3.heap.push { cls:= .type "slice",data:= .fields #[.none, .none, .int (-1) tk] } }
 refine tail_any (ops:=[.str (S l) t, .ref s3.heap.objs.size]) (typeIs_str _ _ _) F.slot_str_getitem.lookup (wpAny_getItem_str_slice (l:=none) (u:=none) (st:=some (-1,tk)) ⟨_,Ze _ rfl,rfl,rfl⟩ rfl ?_) (by with_unfolding_all rfl)
 rw[BK]
 refine ⟨by rw[di,Zz];exact hz,?_⟩
 exact ⟨.str (S l.reverse),H3,I4.tok _,⟨_,rfl⟩,q3⟩
end
end L2
namespace PySem
open PySem.Spec PyProof.Rows
end PySem
namespace L2
open PySem PySem.Spec PyProof.Rows
set_option maxHeartbeats 4000000
section
variable {X:Cx} {K:PySem.W.Frag} {CX:Bn} {k1 k2:Nat} {f1 f2:Addr} {U7 U8:FuncData} {U9 U_:List Str} {Q7 Q8:Sp} {E:XK} {x f:Str} {p pos pos':Pos} {e o value:Expr} {es:List Expr} {ta tv:TE} {t:TA}
theorem bN (K:PySem.W.Frag) (hK:X.K=K) (he:PE X e ta) (hb:attributeBase e f X.env (eval e X.env)=eval e X.env):PE X (.Attribute e f pos) (OC K ta f):=by subst hK;exact J9 he hb
def DN (f1 f2:Addr) (Q7 Q8:Sp) (E:XK) (ta:TE) (t:TA):TE:=fun σ H Q=>ta σ H fun v H1=>(v= .ref f1/\t σ H1 fun vs H2=>Q7 vs H2 Q E)\/(v= .ref f2/\t σ H1 fun vs H2=>Q8 vs H2 Q E)
theorem lB (hf:PE X (.Name x p) ta) (F1:br X.prog X.w X.K X.mg X.base CX k1 f1 U7 U9 Q7) (PK:ff k1 X.A) (Mz:PySem.W.keepIn X.K (.ref f1)=true) (wA:Binds X.K U7 U9 []) (F2:br X.prog X.w X.K X.mg X.base CX k2 f2 U8 U_ Q8) (Tj:ff k2 X.A) (yz:PySem.W.keepIn X.K (.ref f2)=true) (iJ:Binds X.K U8 U_ []) (hx:Passes CX X E)
  (ha:PA X (e::es) t) (he:starEach (e::es) X.env=(false,eval e X.env)::starEach es X.env:=by rfl) (iQ:(backTo pos (starEach es X.env)).any (·.1)=false:=by rfl):
  PE X (.Call (.Name x p) (e::es) [] pos) (DN f1 f2 Q7 Q8 E ta t):=by
 intro pins s σ H Q I h
 refine wpAny_Call_Name_kw (cg (hf pins s σ H _ I h) fun u s1 ⟨v,H1,I1,r,q⟩=>?_)
 rcases q with ⟨rfl,q⟩ | ⟨rfl,q⟩
 ·obtain rfl:u=Value.ref f1:=r
  refine Qb2 (h₀:=X.base) I1.ok.mod.Mn Mz (cg (ha pos pins s1 σ H1 _ I1 q) fun us s2 ⟨vs,H2,I2,r2,q2⟩=>⟨I2.Bc,?_⟩) he iQ
  exact x9 (dvs:=[]) (ds:=[]) F1 PK wA .nil hx I2 r2 (by rw[Zy];exact q2)
 ·obtain rfl:u=Value.ref f2:=r
  refine Qb2 (h₀:=X.base) I1.ok.mod.Mn yz (cg (ha pos pins s1 σ H1 _ I1 q) fun us s2 ⟨vs,H2,I2,r2,q2⟩=>⟨I2.Bc,?_⟩) he iQ
  exact x9 (dvs:=[]) (ds:=[]) F2 Tj iJ .nil hx I2 r2 (by rw[Zy];exact q2)
end
set_option maxHeartbeats 4000000
section
variable {prog:Program} {w:World} {A:Around} {E:Value->Shared->Prop} {R:Result->Shared->Prop} {I S:Addr} {fp wr:List Addr} {n:Nat} {P:Nat->Value->Prop} {St:Nat->Heap->Prop} {kw:List (Str×Value)} {bt:Nat->Nat->Bool}
theorem Ad:(toString "max"++toString ".loop":String)="max.loop":=by decide
theorem PL (W:Walks prog w A.in1 I fp wr n P St) (cm:CmpOf prog w A.in1 .Gt P bt) (sf:S∉fp): ∀(m j:Nat) (s:Shared) (b:Value) (c:Nat),n=j+1+m->St (j+1) s.heap->P (argBest bt j) b->s.heap.get? S=some { cls:= .type "list",dict:=none,data:= .seq #[b,b] c,slots:= #[] }->
  (∀v h' tk,P (argBest bt (n - 1)) v->(∀a o,a∉wr->a≠S->s.heap.get? a=some o->h'.get? a=some o)->R (.ok (.ret v)) { s with heap:=h',toks:=tk })->
  codeAny (model prog w) A (.builtin "max.loop" ⟨[.ref I, .none, .ref S],kw⟩) R s:=by
 have sw:S∉wr:=fun z=>sf (W.sub _ z)
 intro m
 induction m with
 | zero=>
  intro j s b c en ny hb hS hR
  have e1:n=j+1:=en
  subst e1
  refine codeAny_builtin Qck ?_
  rw[Around.under_plainId Qaf _]
  refine wpAny_bind (m:=seqItems? (.ref S)) (wpAny_seqItems hS rfl ?_)
  refine wpAny_bind (m:=tryCatch (pyNext (.ref I)) _) (wpAny_tryCatch (W.done s _ _ ny fun h1 tk k1=>?_))
  refine wpAny_bind (m:=updateSeq S fun _=> #[]) (wpAny_updateSeq (k1 S _ sw hS) rfl (wpAny_bind (wpAny_letGo (wpAny_pure ?_))))
  exact hR b _ tk hb fun a o aw aS ea=>(ZR _ _ (Ne.symm aS)).trans (k1 a o aw ea)
 | succ m ih=>
  intro j s b c en ny hb hS hR
  refine codeAny_builtin Qck ?_
  rw[Around.under_plainId Qaf _]
  refine wpAny_bind (m:=seqItems? (.ref S)) (wpAny_seqItems hS rfl ?_)
  refine wpAny_bind (m:=tryCatch (pyNext (.ref I)) _) (wpAny_tryCatch (W.item (j+1) s _ _ (by omega) ny fun v h1 tk pv xM k1=>?_))
  have MA:=k1 S _ sw hS
  refine wpAny_bind (m:=tryCatch (holding [v,v] (richCompare .Gt v b >>= _)) _) (wpAny_tryCatch (wpAny_holding (wpAny_bind (cm (j+1) (argBest bt j) v b _ _ _ pv hb (wpAny_bind (wpAny_holding (wpAny_truthy_bool (wpAny_bind (wpAny_letGo (wpAny_pure ?_))))))))))
  cases q:bt (j+1) (argBest bt j)
  ·rw[if_neg (by decide)]
   refine wpAny_bind (wpAny_letGo ?_)
   rw[Ad]
   refine wpAny_pure ⟨plainId_quiet Qaf _,ih (j+1) _ b c (by omega) xM (by rw[argBest,q];exact hb) MA fun v' h2 Mv p2 k2=>?_⟩
   exact hR v' h2 Mv p2 fun a o aw aS ea=>k2 a o aw aS (k1 a o aw ea)
  ·rw[if_pos rfl]
   refine wpAny_bind (wpAny_updateSeq MA rfl (wpAny_bind (wpAny_letGo ?_)))
   rw[Ad]
   refine wpAny_pure ⟨plainId_quiet Qaf _,ih (j+1) _ v _ (by omega) (W.frame _ _ _ xM fun a af o ea=>?_) (by rw[argBest,q];exact pv) (Qab _ MA rfl) fun v' h2 Mv p2 k2=>?_⟩
   ·exact (ZR _ _ (fun z:S=a=>sf (z▸af))).trans ea
   ·exact hR v' h2 Mv p2 fun a o aw aS ea=>k2 a o aw aS ((ZR _ _ (Ne.symm aS)).trans (k1 a o aw ea))
theorem PM (a d:Value):argsOk "max" ⟨[a],[(Str.ofString "default",d)]⟩:=by unfold argsOk;kernel_rfl
theorem Hc {s:Shared} {x d:Value} {Q:Value->Shared->Prop}
  (h:wpAny (model prog w) A.in1 (pyIter x) (fun it s₂=> ∃I fp wr n P St bt,it= .ref I/\Walks prog w A.in1 I fp wr n P St/\St 0 s₂.heap/\(∀b∈fp,b<s₂.heap.objs.size)/\CmpOf prog w A.in1 .Gt P bt/\
   ∀v h' tk,(n=0->v=d)->(0<n->P (argBest bt (n - 1)) v)->(∀b o,b∉wr->s₂.heap.get? b=some o->h'.get? b=some o)->Q v { s₂ with heap:=h',toks:=tk }) E s):
  wpAny (model prog w) A (call (.builtin "max") [x] [(Str.ofString "default",d)]) Q E s:=by
 refine kmk_tree PySem.F.kind_max PySem.F.plain_max PySem.F.entry_max (PM x d) ?_
 refine wpAny_bind (m:=Builtin.Builtins.bindParams "max" ["key","default"] 0 ⟨[],[(Str.ofString "default",d)]⟩) (wpAny_of_eq (a:=[none,some d]) rfl ?_)
 refine wpAny_bind (wpAny_pure (wpAny_bind (wpAny_mono h (fun it s2 h2=>?_) fun _ _ e=>e)))
 obtain ⟨I,fp,wr,n,P,St,bt,rfl,W,ny,W5,cm,hQ⟩:=h2
 refine wpAny_bind (wpAny_newObj_type ?_)
 have sf:s2.heap.objs.size∉fp:=fun z=>ZW _ (W5 _ z)
 have sw:s2.heap.objs.size∉wr:=fun z=>sf (W.sub _ z)
 have hS:(s2.heap.push { cls:= .type "list",data:= .seq #[] }).get? s2.heap.objs.size=some { cls:= .type "list",dict:=none,data:= .seq #[] 0,slots:= #[] }:=Ze _ rfl
 have PN:=W.frame _ _ (s2.heap.push { cls:= .type "list",data:= .seq #[] }) ny fun b _ o e=>Mr _ e
 have lo: ∀{b o},s2.heap.get? b=some o->b≠s2.heap.objs.size:=fun e=>Zp (Zj e)
 rw[Ad]
 refine wpAny_pure ⟨plainId_quiet Qaf _,codeAny_builtin Qck ?_⟩
 rw[Around.under_plainId Qaf _]
 refine wpAny_bind (m:=seqItems? (.ref s2.heap.objs.size)) (wpAny_seqItems hS rfl ?_)
 cases n with
 | zero=>
  refine wpAny_bind (m:=tryCatch (pyNext (.ref I)) _) (wpAny_tryCatch (W.done _ _ _ PN fun h1 tk k1=>?_))
  refine wpAny_bind (wpAny_rule ?_)
  refine wpAny_pure (hQ d h1 tk (fun _=>rfl) (fun z=>absurd z (ZW _)) fun b o bw e=>k1 b o bw (Mr _ e))
 | succ m=>
  refine wpAny_bind (m:=tryCatch (pyNext (.ref I)) _) (wpAny_tryCatch (W.item 0 _ _ _ (Nat.succ_pos _) PN fun v h1 tk pv xM k1=>?_))
  have MA:=k1 _ _ sw hS
  refine wpAny_bind (m:=updateSeq s2.heap.objs.size fun _=> #[v,v]) (wpAny_updateSeq MA rfl ?_)
  rw[Ad]
  refine wpAny_pure ⟨plainId_quiet Qaf _,PL W cm sf m 0 _ v _ (by omega) (W.frame _ _ _ xM fun a af o ea=>?_) pv (Qab _ MA rfl) fun v' h2 Mv p2 k2=>?_⟩
  ·exact (ZR _ _ (fun z:s2.heap.objs.size=a=>sf (z▸af))).trans ea
  ·exact hQ v' h2 Mv (fun z=>by omega) (fun _=>p2) fun b o bw e=>k2 b o bw (lo e) ((ZR _ _ (Ne.symm (lo e))).trans (k1 b o bw (Mr _ e)))
end
noncomputable def K4 (d:Int):List Int->Int
 | []=>d
 | a::r=>r.foldl (fun x y=>if y>x then y else x) a
noncomputable def fh (l:List Int) (i j:Nat):Bool:=decide (l.getD i 0>l.getD j 0)
theorem lC (l:List Int): ∀n:Nat,n<l.length->l.getD (argBest (fh l) n) 0=((l.drop 1).take n).foldl (fun x y=>if y>x then y else x) (l.getD 0 0)
 | 0,_=>by simp[argBest]
 | n+1,h=>by
  have ih:=lC l n (by omega)
  have e:(l.drop 1).take (n+1)=(l.drop 1).take n++[l.getD (n+1) 0]:=by
   rw[Qdc,Qan,show 1+n=n+1 by omega,Wy,Kq h]
   rfl
  rw[e,List.foldl_append, <-ih]
  show l.getD (if fh l (n+1) (argBest (fh l) n)=true then n+1 else argBest (fh l) n) 0=if l.getD (n+1) 0>l.getD (argBest (fh l) n) 0 then l.getD (n+1) 0 else l.getD (argBest (fh l) n) 0
  by_cases z:l.getD (n+1) 0>l.getD (argBest (fh l) n) 0
  ·rw[if_pos (show fh l (n+1) (argBest (fh l) n)=true from decide_eq_true z),if_pos z]
  ·rw[if_neg (show ¬fh l (n+1) (argBest (fh l) n)=true from fun w=>z (of_decide_eq_true w)),if_neg z]
section
variable {X:Cx}
theorem DO {prog:Program} {w:World} {A:Around} {l:List Int} {aJ:List Value} (r:Vals (l.map V.int) aJ):CmpOf prog w A .Gt (fun i v=>aJ.toArray[i]? =some v) (fh l):=by
 intro i j vi vj s Q E hi hj hQ
 have get: ∀{i:Nat} {v:Value},aJ.toArray[i]? =some v-> ∃t,v= .int (l.getD i 0) t:=by
  intro i v h
  have h':aJ[i]? =some v:=by simpa using h
  have hl:i<l.length:=by have:=(Kr.mp h').1;rw[<-r.length,QW]at this;exact this
  obtain ⟨u,hu,ru⟩:=r.get (i:=i) (x:=V.int (l.getD i 0)) (by rw[Zk,Wy,Kq hl];rfl)
  rw[h']at hu;cases hu
  exact ru
 obtain ⟨t,rfl⟩:=get hi
 obtain ⟨u,rfl⟩:=get hj
 exact gt_int hQ
def PQ (K:PySem.W.Frag) (d:Int) (t:TA):TE:=fun σ H Q=>t σ H fun vs H1=> ∃(p:Addr) (l:List Int),vs=[.ref p]/\ba K H1 p (l.map V.int)/\Q (.int (K4 d l)) H1
theorem Hd {e:Expr} {t:TA} {d:Int} {j:Nat} {kp cp p pos:Pos} (K:PySem.W.Frag) (hK:X.K=K) (hc:X.calm=true) (hg:Gl X "max") (hm:X.mg "max"=none) (ha:PA X [e] t)
  (he:backTo pos (starEach [e] X.env)=[(false,eval e X.env)]:=by rfl):PE X (.Call (.Name "max" p) [e] [⟨some "default", .Constant (.int d) j cp,kp⟩] pos) (PQ K d t):=by
 subst hK
 intro pins s σ H Q I h
 refine wpAny_Call_Name_kw (gv I hg hm boot_max ?_)
 refine callWith_kw (cg (ha pos pins s σ H _ I h) fun us s1 ⟨vs,H1,I1,r1,q1⟩=>?_) he (by rw[he];rfl)
 obtain ⟨a,l,rfl,hq,q⟩:=q1
 obtain ⟨u,rfl,ru⟩:=vals1 r1
 cases ru
 refine kws_cons (wpAny_Constant_int (kws_nil ?_))
 obtain ⟨aJ,rv,pl,hz⟩:=I1.list hq
 have hlen:aJ.length=l.length:=by rw[<-rv.length,QW]
 have hp:a<s1.heap.objs.size:=by
  obtain ⟨o,n,e,_⟩:=pl
  exact Zj e
 refine Hc (wpAny_pyIter_list pl.isList ?_)
 refine ⟨_,_,_,_,_,_,fh l,rfl,Walks.list (A:=X.A.in1) (I1.ok.hd hc) s1.heap.objs.size a (Zp hp) aJ.toArray,⟨⟨_,Ze _ rfl,rfl,rfl⟩,?_⟩,fun b hb=>?_,DO rv,fun v h' tk h0 h1 hk=>?_⟩
 ·obtain ⟨o,ho,hr⟩:=pl.isList
  exact ⟨o,Mr _ ho,hr⟩
 ·show b<(s1.heap.push _).objs.size
  rw[Qal]
  exact (Wz.mp hb).elim (fun z=>z▸Qad _) fun z=>(Wv.mp z)▸Qav hp
 ·have ru:RelV (.int (K4 d l)) v:=by
   cases l with
   | nil=>
    have:=h0 (by rw[YN,hlen];rfl)
    subst this
    exact ⟨_,rfl⟩
   | cons b l=>
    have hn:aJ.toArray.size - 1=l.length:=by rw[YN,hlen];rfl
    have hP:=h1 (by rw[YN,hlen];exact Nat.succ_pos _)
    rw[hn]at hP
    have W6:aJ[argBest (fh (b::l)) l.length]? =some v:=by simpa using hP
    have hl:argBest (fh (b::l)) l.length<(b::l).length:=Nat.lt_succ_of_le (argBest_lt _ _)
    have e:=lC (b::l) l.length (Qad _)
    rw[show ((b::l).drop 1).take l.length=l from Zq (UP _),Wy,Kq hl]at e
    have e':(b::l)[argBest (fh (b::l)) l.length]=K4 d (b::l):=e
    obtain ⟨u,hu,ru⟩:=rv.get (i:=argBest (fh (b::l)) l.length) (x:=V.int (K4 d (b::l))) (by rw[Zk,Kq hl,e'];rfl)
    rw[W6]at hu;cases hu
    exact ru
  refine ⟨.int (K4 d l),H1,?_,ru,q⟩
  have I2:Inv X pins σ H1 { s1 with heap:=s1.heap.push { cls:= .type "list_iterator",data:= .fields #[.ref a, .int 0 0] },toks:=s1.toks+1 }:=I1.kept (t':=s1.toks+1) fun b o e=>Mr _ e
  have f:=I1.o6 (H':=H1) (b:=s1.heap.objs.size) (UP _) I1.fresh
  exact I2.turned (h':=h') (t':=tk) (it:=s1.heap.objs.size) (fun b o hb e=>hk b o (by simpa using hb) e) f.1 f.2.1 f.2.2.2.1 f.2.2.2.2.1 f.2.2.2.2.2
end
set_option maxHeartbeats 1000000
section
variable {X:Cx}
theorem K5:Om X .Mult (fun x y H Q=> ∃i j,x= .int i/\y= .int j/\Bg i j/\Q (.int (i*j)) H):=by
 intro pins s σ H x y v u Q I r1 r2 h
 obtain ⟨i,j,rfl,rfl,c,q⟩:=h
 obtain ⟨t,rfl⟩:=r1
 obtain ⟨t',rfl⟩:=r2
 exact imul_int ⟨.int _,H,I.tok _,⟨_,rfl⟩,q⟩ c.ok
theorem He:Om X .FloorDiv (fun x y H Q=> ∃i j,x= .int i/\y= .int j/\So i j/\Q (.int (i / j)) H):=by
 intro pins s σ H x y v u Q I r1 r2 h
 obtain ⟨i,j,rfl,rfl,hc,q⟩:=h
 obtain ⟨t,rfl⟩:=r1
 obtain ⟨t',rfl⟩:=r2
 have h1:(0:Int)<j:=hc.1
 have h2:j<1073741824:=hc.2
 exact ifloordiv_int (by omega) (by rw[Int.fdiv_eq_ediv_of_nonneg i (by omega)];exact ⟨.int _,H,I.tok _,⟨_,rfl⟩,q⟩) (.inl (PyProof.noPylong_small (by omega)))
end
theorem wB: ∀{ls:List Int} {aJ:List Value},Vals (ls.map V.int) aJ->IntsAre aJ ls
 | [],_, .nil=> .nil
 | _::_,_, .cons ⟨t,e⟩ h=>e▸ .cons _ t (wB h)
theorem wC: ∀{ls:List Int} {aJ:List Value},IntsAre aJ ls->Vals (ls.map V.int) aJ
 | _,_, .nil=> .nil
 | _,_, .cons n t h=> .cons ⟨t,rfl⟩ (wC h)
section
variable {prog:Program} {w:World} {A:Around} {E:Value->Shared->Prop} {s:Shared}
theorem uf {Q:Value->Shared->Prop} (hh:A.handled=none) (d:Addr) (aP:List (Key×Value)) (ep:Nat) (ls:List Int) (hk:aP.map (·.1)=ls.map fun l=>Sum.inl l) (hd:(d==sysModules)=false) (hm:s.heap.DictAt (cA prog w) d aP ep) (WG:aP.length<64)
  (h: ∀(h1 h':Heap) (tk:Nat) (a:Addr) (out:Array Value) (CH:List Int) (e:Nat),(∀b o,s.heap.get? b=some o->h1.get? b=some o)->(∀b o,h1.get? b=some o->h'.get? b=some o)->a=h1.objs.size->h'.get? a=some (seqObj "list" out e)->IntsAre out.toList CH->CH.Perm ls->(CH.Pairwise fun a b=> ¬b<a)->Q (.ref a) { s with heap:=h',toks:=tk }):
  wpAny (model prog w) A (call (.builtin "sorted") [.ref d]) Q E s:=by
 refine Calls.call_function_entry kind_sorted plain_sorted entry_sorted (args_sorted1 _) ?_
 unfold Builtin.«sorted»
 refine wpAny_bind (m:=checkCount "sorted" 1 1 _) (wpAny_pure ?_)
 have nC:(10000:Nat)<sizeLine:=by decide
 refine wpAny_bind (ud (A:=A.in1) (show A.in1.handled=none from hh) d aP ep hd hm (by omega) (fun s' acc W7 hg Hf ho yo=>?_))
 obtain ⟨h1,h2⟩:=yo
 have hlen:aP.length=ls.length:=by have:=congrArg List.length hk;simpa using this
 have rv:Vals (ls.map V.int) acc.toList:=by
  have key: ∀(ls:List Int) (vs:List Value),vs.length=ls.length->(∀(j:Nat) (v:Value),vs[j]? =some v-> ∃l t,ls[j]? =some l/\v=Value.int l t)->Vals (ls.map V.int) vs:=by
   intro ls
   induction ls with
   | nil=>intro vs hl _;have:vs=[]:=Qbs hl;subst this;exact .nil
   | cons l ls ih=>
    intro vs hl hv
    cases vs with
    | nil=>simp at hl
    | cons v vs=>
     obtain ⟨l',t,e1,e2⟩:=hv 0 v rfl
     have By:l=l':=by simpa using e1
     subst By
     refine .cons ⟨t,e2⟩ (ih vs (by simpa using hl) fun j v' e=>?_)
     obtain ⟨l',t',g1,g2⟩:=hv (j+1) v' (by simpa using e)
     exact ⟨l',t',by simpa using g1,g2⟩
  refine key ls acc.toList (by simpa [<-hlen]using h1) fun j v e=>?_
  obtain ⟨k,x,e1,e2⟩:=h2 j v (by simpa using e)
  have e3:(aP.map (·.1))[j]? =some k:=by rw[Zk,e1];rfl
  rw[hk,Zk]at e3
  cases e4:ls[j]? with
  | none=>rw[e4]at e3;cases e3
  | some l=>
   rw[e4]at e3
   have e5:k=Sum.inl l:=(Zc e3).symm
   subst e5
   obtain ⟨t,e6⟩:=Value.isInt_shape (k:=l) (v:=v) e2
   exact ⟨l,t,rfl,e6⟩
 have hS:=wB rv
 have hn:acc.toList.length=ls.length:=by rw[<-rv.length,QW]
 refine wpAny_bind (wpAny_newList ?_)
 have Of:(s'.heap.push (seqObj "list" acc.toList.toArray 0)).get? s'.heap.objs.size=some (seqObj "list" acc.toList.toArray 0):=Ze _ rfl
 show wpAny _ _ _ _ _ { s' with heap:=s'.heap.push (seqObj "list" acc.toList.toArray 0) }
 refine wpAny_bind (wpAny_holding (wpAny_call_entry slot_list_sort ⟨_,Of,rfl⟩ entry_list_sort (list_sort_tree Of hS (by omega) fun out CH k1 k2 k3=>⟨_,rfl,?_⟩) (args_list_sort _)))
 obtain ⟨e,he⟩:=sortedHeap_at (out:=out) Of
 refine wpAny_pure ⟨_,rfl,?_⟩
 have es: ∀hh:Heap,({ s' with heap:=hh }:Shared)={ s with heap:=hh,toks:=s'.toks }:=fun hh=>by
  cases s;cases s'
  simp only at hg Hf ho
  subst hg Hf ho
  rfl
 show Q (.ref s'.heap.objs.size) { s' with heap:=sortedHeap (s'.heap.push (seqObj "list" acc.toList.toArray 0)) s'.heap.objs.size acc.toList (out) }
 rw[es]
 refine h s'.heap _ _ _ _ CH e W7 (fun b o hb=>?_) rfl he k1 k2 (k3.imp fun h=>Int.not_lt.mpr h)
 have cT:=Zj hb
 rw[sortedHeap_old (Zp cT) (by rw[size_push'];exact Qav cT)]
 exact Mr _ hb
end
section
variable {X:Cx}
def Hg:List V->Hp->VK->Prop:=fun xs H Q=> ∃(d:Addr) (aP:List (Key×V)) (ls:List Int),xs=[.ref d]/\H d=some (.dK aP)/\aP.map (·.1)=(ls.map fun l=>Sum.inl l)/\ls.length<64/\ ∀(q:Addr) (ms:List Int),H q=none->ms.Perm ls->(ms.Pairwise fun a b=> ¬b<a)->Q (.ref q) (upd H q (.lst (ms.map V.int)))
theorem rq (hc:X.calm=true):dk X (.builtin "sorted") Hg:=by
 intro pins s σ H xs us Q I r h
 obtain ⟨d,aP,ls,rfl,hd,hk,hn,q⟩:=h
 obtain ⟨u,rfl,ru⟩:=vals1 r
 cases ru
 obtain ⟨hz,Tn,vs,kv,o,es,ep,e1,e2,e3,e4,e5,e6⟩:=I.bZ d _ hd
 have hlen:vs.length=ls.length:=by
  have a1:=congrArg List.length (Ac kv)
  have a2:=congrArg List.length hk
  simp only[QW]at a1 a2
  omega
 refine uf (s:=s) (I.ok.hd hc) d vs ep ls ((Ac kv).trans hk) Tn ⟨o,es,e1,e2,e3,e4,e5,e6⟩ (by omega) fun h1 h' tk a out CH e k1 k2 ea he g1 g2 g3=>?_
 have pR:=g2
 have hv:=wC g1
 have pw:=g3
 have I1:Inv X pins σ H { s with heap:=h1,toks:=tk }:=I.kept k1
 have hsz:(10000:Nat)<sizeLine:=by decide
 have I2:Inv X pins σ (upd H a (.lst (CH.map V.int))) { s with heap:=h',toks:=tk }:=
  I1.laid (t':=tk) (a:=a) (o:= .lst (CH.map V.int)) k2 (by rw[ea];exact UP _) ⟨by rw[QW,pR.length_eq];omega,out.toList,e,hv,by simpa [seqObj]using he⟩
 exact ⟨.ref a,_,I2,rfl,q _ _ (I1.bZ.fresh (by rw[ea];exact UP _)) pR pw⟩
end
set_option maxHeartbeats 1000000
end L2
set_option maxHeartbeats 4000000
namespace My
open PySem PySem.Spec PyProof.Rows L2 XL
noncomputable def aQ:List Nat:=[97,98,99,100,101,102,103,104,105,106,107,108,109,110,111,112,113,114,115,116,117,118,119,120,121,122]
noncomputable def jb:List Nat:=[65,66,67,68,69,70,71,72,73,74,75,76,77,78,79,80,81,82,83,84,85,86,87,88,89,90]
def Lt (c:Nat):Prop:=c∈aQ\/c∈jb
noncomputable instance (c:Nat):Decidable (Lt c):=by unfold Lt;infer_instance
noncomputable def az (c:Nat):Nat:=if aA c=true then PyProof.Rows.up1 c else PyProof.Rows.lo1 c
theorem ug: ∀c∈aQ++jb,c<128/\az c∈aQ++jb/\az (az c)=c/\az c≠c:=by decide+kernel
theorem Lt.mem {c:Nat} (h:Lt c):c∈aQ++jb:=Zh.mpr h
theorem Lt.lt {c:Nat} (h:Lt c):c<128:=(ug c h.mem).1
theorem Lt.az {c:Nat} (h:Lt c):Lt (az c):=Zh.mp (ug c h.mem).2.1
theorem aF {c:Nat} (h:Lt c):az (az c)=c:=(ug c h.mem).2.2.1
theorem dG {c:Nat} (h:Lt c):az c≠c:=(ug c h.mem).2.2.2
theorem dA {a b:Nat} (ha:Lt a) (hb:Lt b) (e:My.az a=My.az b):a=b:=by rw[<-aF ha,e,aF hb]
theorem wD: ∀c∈aQ,oG jb ((aQ.idxOf c:Nat):Int)=some (az c):=by decide+kernel
theorem BL: ∀c∈jb,oG aQ ((jb.idxOf c:Nat):Int)=some (az c):=by decide+kernel
noncomputable def eX (l:List Nat):List Nat:=(l.map az).reverse
def aN (b:Addr) (H H':Hp):Prop:= ∀c o,H c=some o->c≠b->H' c=some o
theorem aN.refl (b:Addr) (H:Hp):aN b H H:=fun _ _ h _=>h
theorem aN.trans {b:Addr} {H H1 H2:Hp} (x:aN b H H1) (y:aN b H1 H2):aN b H H2:=fun c o h n=>y c o (x c o h n) n
theorem aN.of {b:Addr} {H H':Hp} (x:ak H H'):aN b H H':=fun c o h _=>x c o h
theorem aN.upd (b:Addr) (H:Hp) (o:HO):aN b H (upd H b o):=fun c o h n=>by rw[ar n];exact h
theorem ak.upd {H:Hp} {p:Addr} {o:HO} (h:H p=none):ak H (L2.upd H p o):=fun c u e=>by rw[ar (au e h)];exact e
def bG (H:Hp) (b:Addr):Prop:= ∃x y:Int,H b=some (.lst [.int x, .int y])
theorem bG.same {H H':Hp} {b:Addr} (h:bG H b) (s:ak H H'):bG H' b:=let ⟨x,y,e⟩:=h;⟨x,y,s _ _ e⟩
structure Yd (y:List Nat):Prop where
 nd:y.Nodup
 lt: ∀c∈y,Lt c
 cl: ∀c∈y,az c∈y
def nG (_:PySem.W.Frag):Sp:=fun vs H Q _=> ∃c,vs=[.str (S [c])]/\c<128/\Q (.str (S [az c])) H
theorem uh {K:PySem.W.Frag} {vs:List V} {H:Hp} {Q:VK} {E:XK} (h:nG K vs H Q E):vs.length=1:=by obtain ⟨c,rfl,_⟩:=h;rfl
def sG (_:PySem.W.Frag):Sp:=fun vs H Q _=> ∃c,vs=[.str (S [c])]/\Lt c/\Q (.str (S [az c])) H
theorem yG {K:PySem.W.Frag} {vs:List V} {H:Hp} {Q:VK} {E:XK} (h:sG K vs H Q E):vs.length=1:=by obtain ⟨c,rfl,_⟩:=h;rfl
def sH (_:PySem.W.Frag):Sp:=fun vs H Q _=> ∃l:List Nat,vs=[.str (S l)]/\(∀c∈l,c<128)/\l.length<=1000/\ ∀H',ak H H'->Q (.str (S (eX l))) H'
theorem yH {K:PySem.W.Frag} {vs:List V} {H:Hp} {Q:VK} {E:XK} (h:sH K vs H Q E):vs.length=1:=by obtain ⟨c,rfl,_⟩:=h;rfl
def Ae (K:PySem.W.Frag):Sp:=fun vs H Q _=> ∃(a:Addr) (ns:List Int) (k:Nat),vs=[.ref a, .int k]/\ba K H a (ns.map V.int)/\k<=1000/\ ∀b H',H b=none->bG H' b->ak H H'->Q (.ref b) H'
theorem DP {K:PySem.W.Frag} {vs:List V} {H:Hp} {Q:VK} {E:XK} (h:Ae K vs H Q E):vs.length=2:=by obtain ⟨a,ns,k,rfl,_⟩:=h;rfl
def wF (_:PySem.W.Frag):Sp:=fun vs H Q _=> ∃(b:Addr) (m:Int),vs=[.ref b, .int m]/\bG H b/\1<=m/\m<1000000/\ ∀(r:Nat) H',(r:Int)<m->bG H' b->aN b H H'->Q (.int r) H'
theorem BM {K:PySem.W.Frag} {vs:List V} {H:Hp} {Q:VK} {E:XK} (h:wF K vs H Q E):vs.length=2:=by obtain ⟨b,m,rfl,_⟩:=h;rfl
def wG (_:PySem.W.Frag):Sp:=fun vs H Q _=> ∃(b:Addr) (xN top:Nat),vs=[.ref b, .int xN, .int top]/\bG H b/\1<=xN/\xN<=top/\top<=8/\ ∀(y:List Nat) H',Yd y->2*xN<=y.length->y.length<=2*top->bG H' b->aN b H H'->Q (.str (S y)) H'
theorem BN {K:PySem.W.Frag} {vs:List V} {H:Hp} {Q:VK} {E:XK} (h:wG K vs H Q E):vs.length=3:=by obtain ⟨b,m,t,rfl,_⟩:=h;rfl
def mC (K:PySem.W.Frag):Sp:=fun vs H Q _=> ∃(a:Addr) (ns:List Int),vs=[.ref a]/\ba K H a (ns.map V.int)/\ns.length<=63/\ ∀H',Q (.bl true) H'
theorem Hh {K:PySem.W.Frag} {vs:List V} {H:Hp} {Q:VK} {E:XK} (h:mC K vs H Q E):vs.length=1:=by obtain ⟨b,m,rfl,_⟩:=h;rfl
theorem pV: ∀l:List Nat,(l.map fun c=>[c]).flatten=l
 | []=>rfl
 | c::l=>by rw[Zd,Qbb,pV l];rfl
theorem yI: ∀l:List Nat,((l.map fun c=>[c]).map List.length).sum=l.length
 | []=>rfl
 | c::l=>by
  rw[Zd,Zd,ZM,yI l]
  show 1+l.length=l.length+1
  omega
theorem dN (l:List Nat):cI l=(l.map fun c=>[c]).map fun l=>V.str (S l):=by unfold cI;rw[ZV];rfl
theorem ui (l:List Nat):(cI l).reverse=cI l.reverse:=by unfold cI;rw[Qaz]
theorem du (l:List Nat) (c:Nat):cI l++[V.str (S [c])]=cI (l++[c]):=by unfold cI;rw[Wx];rfl
theorem take_snoc {α:Type} {l:List α} {i:Nat} {x:α} (h:l[i]? =some x):l.take i++[x]=l.take (i+1):=by rw[Qdc,h];rfl
theorem Af {ns:List Int} {i:Nat} (h:i<ns.length): ∃z,(ns.map V.int)[i]? =some (V.int z):=⟨ns[i],by rw[Zk,Kq h];rfl⟩
theorem dB {σ:L2.St} {H:Hp} {A B:Hp->Prop} (h:A H):OY σ H fun b H3=>if b=true then A H3 else B H3:=by
 show (if true=true then A H else B H)
 rw[if_pos rfl]
 exact h
theorem yJ (b:Bool) (z:Int): ∃y,oG [V.int 0,V.int z] (if b=true then 1 else 0)=some (V.int y):=by
 cases b
 ·exact ⟨0,rfl⟩
 ·exact ⟨z,rfl⟩
theorem fN {α:Type}: ∀{l:List α} {i:Nat} {x:α},l[i]? =some x->(x::l.eraseIdx i).Perm l
 | [],i,x,h=>by simp at h
 | a::l,0,x,h=>by
  have:a=x:=by simpa using h
  subst this
  exact Qb3 _
 | a::l,i+1,x,h=>by
  have ih:=fN (l:=l) (i:=i) (x:=x) (by simpa using h)
  rw[Qbm]
  exact (List.Perm.swap a x _).trans (List.Perm.cons a ih)
theorem sI (l:List Nat) (i:Nat):(cI l).eraseIdx i=cI (l.eraseIdx i):=by
 unfold cI
 induction l generalizing i with
 | nil=>rfl
 | cons a l ih=>
  cases i with
  | zero=>rfl
  | succ i=>rw[Zd,Qbm,ih,Qbm,Zd]
theorem DQ {l:List Nat} {i:Nat} (h:i<l.length):(cI l)[i]? =some (V.str (S [l[i]])):=by unfold cI;rw[Zk,Kq h];rfl
theorem Hi (a b:List Nat):cI a++cI b=cI (a++b):=by unfold cI;rw[Wx]
theorem jI: ∀c∈aQ,az c∉aQ:=by decide+kernel
theorem BO:aQ.Nodup:=by decide+kernel
theorem Yd.perm {a b:List Nat} (h:Yd a) (p:a.Perm b):Yd b:=
 ⟨p.nodup_iff.mp h.nd,fun c hc=>h.lt c (p.mem_iff.mpr hc),fun c hc=>p.mem_iff.mp (h.cl c (p.mem_iff.mpr hc))⟩
structure K6 (i:Nat) (L E:List Nat):Prop where
 yd:Yd E
 nd:L.Nodup
 sm: ∀c∈L,c∈aQ
 ap: ∀c∈L,c∉E
 ll:L.length=26 - i
 el:E.length=2*i
theorem K6.start:K6 0 aQ []:=⟨⟨Qcy,fun _ h=>absurd h Zl,fun _ h=>absurd h Zl⟩,BO,fun _ h=>h,fun _ _ h=>absurd h Zl,rfl,rfl⟩
theorem K6.turn {i r:Nat} {L E:List Nat} (w:K6 i L E) (hi:i<26) (hr:r<L.length):K6 (i+1) (L.eraseIdx r) (E++[L[r],az L[r]]):=by
 have hp:=fN (l:=L) (Kq hr)
 have hm:L[r]∈L:=ZF hr
 have hs:=w.sm _ hm
 have hl:Lt L[r]:= .inl hs
 have Q9:=hp.nodup_iff.mpr w.nd
 have sub: ∀c∈L.eraseIdx r,c∈L:=fun c hc=>hp.mem_iff.mp (YQ _ hc)
 have Va:=w.ap _ hm
 have W8:az L[r]∉E:=fun z=>Va (by have:=w.yd.cl _ z;rwa [aF hl]at this)
 refine ⟨⟨?_,fun c hc=>?_,fun c hc=>?_⟩,(ZK.mp Q9).2,fun c hc=>w.sm c (sub c hc),fun c hc hE=>?_,?_,?_⟩
 ·rw[Qag]
  refine ⟨w.yd.nd,?_,fun a ha b hb z=>?_⟩
  ·rw[ZK]
   refine ⟨fun z=>(dG hl) (Wv.mp z).symm,ZK.mpr ⟨Zl,Qcy⟩⟩
  ·subst z
   rcases Wz.mp hb with z | z
   ·exact Va (z▸ha)
   ·exact W8 (Wv.mp z▸ha)
 ·rcases Zh.mp hc with z | z
  ·exact w.yd.lt c z
  ·rcases Wz.mp z with z | z
   ·rw[z];exact hl
   ·rw[Wv.mp z];exact hl.az
 ·rcases Zh.mp hc with z | z
  ·exact Qbc _ (w.yd.cl c z)
  ·refine Zo _ ?_
   rcases Wz.mp z with z | z
   ·rw[z];exact YQ _ (Wv.mpr rfl)
   ·rw[Wv.mp z,aF hl];exact YO
 ·rcases Zh.mp hE with z | z
  ·exact w.ap c (sub c hc) z
  ·rcases Wz.mp z with z | z
   ·exact (ZK.mp Q9).1 (z▸hc)
   ·have e:c=az L[r]:=Wv.mp z
    exact jI _ hs (e▸w.sm c (sub c hc))
 ·have:=hp.length_eq
  rw[Zv,w.ll]at this
  omega
 ·rw[UO,w.el]
  show 2*i+2=_
  omega
theorem aN.cU {b p:Addr} {H H':Hp} {o:HO} (h:aN b H H') (n:H p=none):aN b H (L2.upd H' p o):=fun c u e z=>by rw[ar (au e n)];exact h c u e z
theorem bG.cU {b p:Addr} {H:Hp} {o:HO} (h:bG H b) (n:p≠b):bG (L2.upd H p o) b:=let ⟨x,y,e⟩:=h;⟨x,y,by rw[ar (Ne.symm n)];exact e⟩
theorem aN.none {b p:Addr} {H H':Hp} (h:aN b H H') (n:H' p=none) (z:p≠b):H p=none:=by
 cases q:H p with
 | none=>rfl
 | some o=>rw[h p o q z]at n;cases n
theorem bG.ne {b p:Addr} {H:Hp} (h:bG H b) (n:H p=none):p≠b:=fun z=>by obtain ⟨x,y,e⟩:=h;rw[<-z,n]at e;cases e
theorem wH {c:Bool} {A B:Prop} (h:c=false) (hB:B):if c=true then A else B:=by rw[h];exact Bv hB
theorem To {c:Bool} {A B:Prop} (h:c=true) (hA:A):if c=true then A else B:=by rw[h];exact OW hA
theorem b_ (l:List Nat):(eX l).length=l.length:=by unfold eX;rw[Zz,QW]
theorem Hj {l:List Nat} (h: ∀c∈l,Lt c):eX (eX l)=l:=by
 unfold eX
 rw[Qaz,List.reverse_reverse,ZV]
 have: ∀c∈l,(az ∘ az) c=c:=fun c hc=>aF (h c hc)
 calc l.map (az ∘ az)=l.map id:=ZJ this
  _=l:=Qdo l
theorem wI {l:List Nat} (h: ∀c∈l,Lt c): ∀c∈l,c<128:=fun c hc=>(h c hc).lt
theorem jc (a:List Nat):a.take (cI a).length=a:=by rw[aU];exact Zq (UP _)
theorem aN.same {b:Addr} {H H2 H3:Hp} (n:H b=Option.none) (s:ak H H2) (t:aN b H2 H3):ak H H3:=fun c o e=>t c o (s c o e) (au e n)
theorem aN.after {p:Addr} {H H1 H2:Hp} (s:aN p H H1) (t:ak H1 H2):aN p H H2:=fun c o e z=>t c o (s c o e z)
noncomputable def g6 (ws:List (List Nat)):List V:=ws.map fun l=>V.str (S l)
theorem cb (ws:List (List Nat)):(g6 ws).length=ws.length:=by unfold g6;rw[QW]
theorem pW (ws:List (List Nat)) (l:List Nat):g6 ws++[V.str (S l)]=g6 (ws++[l]):=by unfold g6;rw[Wx];rfl
theorem jd {ws:List (List Nat)} {i:Nat} (h:i<ws.length):(g6 ws)[i]? =some (V.str (S ws[i])):=by unfold g6;rw[Zk,Kq h];rfl
theorem Jd {s:TS} {D:Ends} {σ:L2.St} {H:Hp} (h: ∀D':Ends,(∀σ' H',D.nx σ' H'->D'.nx σ' H')->s D' σ H):s D σ H:=h D fun _ _ z=>z
noncomputable def fE (st:List Nat) (c:Nat):List Nat:=if st.getLast? =some (az c) then st.dropLast else st++[c]
noncomputable def red (l:List Nat):List Nat:=l.foldl fE []
def yK:List Nat->Prop
 | []=>True
 | [_]=>True
 | a::b::r=>a≠az b/\yK (b::r)
theorem yK.init: ∀{l:List Nat} {c:Nat},yK (l++[c])->yK l/\l.getLast?≠ some (az c)
 | [],_,_=>⟨trivial,by simp⟩
 | [a],c,h=>⟨trivial,fun z=>h.1 (by simpa using z)⟩
 | a::b::r,c,h=>by
  have ih:=yK.init (l:=b::r) (c:=c) h.2
  exact ⟨⟨h.1,ih.1⟩,by simpa using ih.2⟩
theorem snoc_cases (l:List Nat):l=[]\/ ∃m a,l=m++[a]:=by
 by_cases h:l=[]
 ·exact .inl h
 ·exact .inr ⟨l.dropLast,l.getLast h,(List.dropLast_concat_getLast h).symm⟩
theorem yK.left: ∀{m l:List Nat},yK (m++l)->yK m
 | [],_,_=>trivial
 | [_],_,_=>trivial
 | a::b::r,l,h=>⟨h.1,yK.left (m:=b::r) (l:=l) h.2⟩
theorem BP {st:List Nat} {c d:Nat} (h:d∈fE st c):d∈st\/d=c:=by
 unfold fE at h
 by_cases e:st.getLast? =some (az c)
 ·rw[if_pos e]at h
  exact .inl (List.dropLast_subset _ h)
 ·rw[if_neg e]at h
  rcases Zh.mp h with z | z
  ·exact .inl z
  ·exact .inr (Wv.mp z)
theorem fold_same: ∀(l st:List Nat),yK (st++l)->l.foldl fE st=st++l
 | [],st,_=>by simp
 | c::l,st,h=>by
  have h':yK ((st++[c])++l):=by rw[Qaj];exact h
  have h2:=(yK.left h').init.2
  rw[Qbv]
  have:fE st c=st++[c]:=by unfold fE;rw[if_neg h2]
  rw[this,fold_same l (st++[c]) h',Qaj]
  rfl
theorem DR {l:List Nat} (h:yK l):red l=l:=by
 exact fold_same l [] h
theorem fold_lt: ∀(l st:List Nat),(∀c∈l,Lt c)->(∀c∈st,Lt c)-> ∀c∈l.foldl fE st,Lt c
 | [],_,_,h=>h
 | a::l,st,h1,h2=>fold_lt l _ (fun c hc=>h1 c (YQ _ hc)) fun c hc=>(BP hc).elim (h2 c) fun z=>z▸h1 a YO
theorem K7 {l:List Nat} (h: ∀c∈l,Lt c): ∀c∈red l,Lt c:=fold_lt l [] h fun _ h=>absurd h Zl
theorem BQ (st:List Nat) (c:Nat):(fE st c).length<=st.length+1:=by
 unfold fE
 by_cases e:st.getLast? =some (az c)
 ·rw[if_pos e,List.length_dropLast];omega
 ·rw[if_neg e,UO];exact UP _
theorem wJ: ∀(l st:List Nat),(l.foldl fE st).length<=st.length+l.length
 | [],_=>UP _
 | c::l,st=>by
  have:=wJ l (fE st c)
  have h2:=BQ st c
  rw[Qbv,Zv]
  omega
theorem lD (l:List Nat):(red l).length<=l.length:=by
 have:=wJ l []
 rw[List.length_nil,Qcl]at this
 exact this
theorem DS {l:List Nat} {i c:Nat} (h:l[i]? =some c):red (l.take (i+1))=fE (red (l.take i)) c:=by
 unfold red
 rw[<-take_snoc h,List.foldl_append]
 rfl
theorem DT: ∀{l:List Nat},(∀k a b,l[k]? =some a->l[k+1]? =some b->a≠az b)->yK l
 | [],_=>trivial
 | [_],_=>trivial
 | a::b::r,h=>⟨h 0 a b rfl rfl,DT (l:=b::r) fun k x y h1 h2=>h (k+1) x y (by simpa using h1) (by simpa using h2)⟩
noncomputable def CJ (l:List Nat) (s e:Nat):List Nat:=(l.drop s).take (e - s)
noncomputable def strip:Nat->List Nat->List Nat
 | 0,l=>l
 | n+1,l=>match l with
  | []=>[]
  | [a]=>[a]
  | a::b::r=>if a=az ((b::r).getLast (by simp)) then strip n (b::r).dropLast else a::b::r
theorem fi: ∀(n:Nat) {l:List Nat},l.length<2->strip n l=l
 | 0,_,_=>rfl
 | _+1,[],_=>rfl
 | _+1,[_],_=>rfl
 | _+1,_::_::_,h=>by simp at h;omega
theorem lE (l:List Nat) (y:Nat):(l++[y]).getLast (by simp)=y:=by simp
theorem strip_go (n:Nat) {a y:Nat} {m:List Nat} (h:a=az y):strip (n+1) (a::(m++[y]))=strip n m:=by
 cases m with
 | nil=>
  show (if a=az (([y]:List Nat).getLast (by simp)) then strip n ([y]:List Nat).dropLast else _)=strip n []
  rw[if_pos (by simpa using h)]
  rfl
 | cons b r=>
  show (if a=az ((b::(r++[y])).getLast (by simp)) then strip n (b::(r++[y])).dropLast else _)=strip n (b::r)
  have e1:(b::(r++[y])).getLast (by simp)=y:=lE (b::r) y
  have e2:(b::(r++[y])).dropLast=b::r:=by
   have:b::(r++[y])=(b::r)++[y]:=rfl
   rw[this,Qcz]
  rw[if_pos (by rw[e1];exact h),e2]
theorem strip_stop (n:Nat) {a y:Nat} {m:List Nat} (h:a≠az y):strip n (a::(m++[y]))=a::(m++[y]):=by
 cases n with
 | zero=>rfl
 | succ n=>
  cases m with
  | nil=>
   show (if a=az (([y]:List Nat).getLast (by simp)) then _ else _)=_
   rw[if_neg (by simpa using h)]
   rfl
  | cons b r=>
   show (if a=az ((b::(r++[y])).getLast (by simp)) then _ else _)=_
   have e1:(b::(r++[y])).getLast (by simp)=y:=lE (b::r) y
   rw[if_neg (by rw[e1];exact h)]
   rfl
theorem DU {l:List Nat} (h:2<=l.length): ∃a m y,l=a::(m++[y]):=by
 cases l with
 | nil=>simp at h
 | cons a r=>
  rcases snoc_cases r with rfl | ⟨m,y,rfl⟩
  ·simp at h
  ·exact ⟨a,m,y,rfl⟩
theorem pX: ∀(n:Nat) (l:List Nat) (k:Nat),l.length<=n->strip (n+k) l=strip n l
 | 0,l,k,h=>by rw[fi _ (by omega),fi _ (by omega)]
 | n+1,l,k,h=>by
  by_cases h2:l.length<2
  ·rw[fi _ h2,fi _ h2]
  ·obtain ⟨a,m,y,rfl⟩:=DU (l:=l) (by omega)
   have hm:m.length<=n:=by simp at h;omega
   by_cases e:a=az y
   ·have:n+1+k=(n+k)+1:=by omega
    rw[this,strip_go _ e,strip_go _ e,pX n m k hm]
   ·rw[strip_stop _ e,strip_stop _ e]
noncomputable def core (l:List Nat):List Nat:=strip l.length l
theorem Ag {a y:Nat} {m:List Nat} (h:a=az y):core (a::(m++[y]))=core m:=by
 unfold core
 have:(a::(m++[y])).length=(m.length+1)+1:=by simp
 rw[this,strip_go _ h,pX _ _ _ (UP _)]
theorem mH {a y:Nat} {m:List Nat} (h:a≠az y):core (a::(m++[y]))=a::(m++[y]):=strip_stop _ h
theorem hZ {l:List Nat} (h:l.length<2):core l=l:=fi _ h
theorem wK {P:List Nat->List Nat->Prop} (h1: ∀l,l.length<2->P l l) (h2: ∀a m y,a≠az y->P (a::(m++[y])) (a::(m++[y]))) (h3: ∀a m y r,a=az y->P m r->P (a::(m++[y])) r): ∀(n:Nat) (l:List Nat),l.length<=n->P l (core l)
 | 0,l,h=>by rw[hZ (by omega)];exact h1 l (by omega)
 | n+1,l,h=>by
  by_cases hl:l.length<2
  ·rw[hZ hl];exact h1 l hl
  ·obtain ⟨a,m,y,rfl⟩:=DU (l:=l) (by omega)
   by_cases e:a=az y
   ·rw[Ag e]
    exact h3 a m y _ e (wK h1 h2 h3 n m (by simp at h;omega))
   ·rw[mH e];exact h2 a m y e
theorem wL (l:List Nat):(core l).length<=l.length:=
 wK (P:=fun l r=>r.length<=l.length) (fun _ _=>UP _) (fun _ _ _ _=>UP _) (fun a m y r _ k=>by simp;omega) l.length l (UP _)
theorem K8 {l:List Nat} {s e:Nat} (h1:s+2<=e) (h2:e<=l.length):CJ l s e=l[s]::(CJ l (s+1) (e - 1)++[l[e - 1]]):=by
 unfold CJ
 rw[Z4 (by omega)]
 have e1:e - s=(e - 1 - (s+1))+1+1:=by omega
 rw[e1,List.take_succ_cons,Qdc,Qan]
 have e2:s+1+(e - 1 - (s+1))=e - 1:=by omega
 rw[e2,Kq (by omega)]
 rfl
theorem Hk {l:List Nat} {s e:Nat} (h2:e<=l.length):(CJ l s e).length=e - s:=by unfold CJ;rw[Zi,Zs];omega
theorem Hl (l:List Nat):CJ l 0 l.length=l:=by unfold CJ;simp
def lF (_:PySem.W.Frag):Sp:=fun vs H Q _=> ∃l:List Nat,vs=[.str (S l)]/\(∀c∈l,Lt c)/\l.length<=1000/\ ∀H',ak H H'->Q (.str (S (red l))) H'
theorem rz {K:PySem.W.Frag} {vs:List V} {H:Hp} {Q:VK} {E:XK} (h:lF K vs H Q E):vs.length=1:=by obtain ⟨c,rfl,_⟩:=h;rfl
def nH (_:PySem.W.Frag):Sp:=fun vs H Q _=> ∃l:List Nat,vs=[.str (S l)]/\(∀c∈l,Lt c)/\l.length<=1000/\ ∀H',ak H H'->Q (.str (S (core (red l)))) H'
theorem uj {K:PySem.W.Frag} {vs:List V} {H:Hp} {Q:VK} {E:XK} (h:nH K vs H Q E):vs.length=1:=by obtain ⟨c,rfl,_⟩:=h;rfl
theorem cV {α:Type} (l:List α) (k:Nat):cut l none (some (k:Int))=l.take k:=by
 unfold cut
 rw[HT.kW,HT.gf,List.drop_zero,Nat.sub_zero]
 by_cases h:k<=l.length
 ·rw[Z_ h]
 ·rw[Z7 (by omega),Zq (UP _),Zq (by omega)]
theorem eA {α:Type} (l:List α) (k:Nat):cut l (some (k:Int)) none=l.drop k:=by
 unfold cut
 rw[HT.kW,HT.gf]
 by_cases h:k<=l.length
 ·rw[Z_ h,Zq (by rw[Zs];exact UP _)]
 ·rw[Z7 (by omega),Qai (UP _),Qai (by omega)]
  simp
noncomputable def g7 (c:List Nat) (k:Nat):List Nat:=c.drop k++c.take k
noncomputable def lG (c:List Nat) (n:Nat):List (List Nat):=(List.range n).map fun k=>g7 c (k+1)
noncomputable def fF (c:List Nat):List Nat:=b9 c (lG c (c.length - 1))
@[irreducible] noncomputable def dP (w:List Nat):List Nat:=fF (core (red w))
theorem sJ (c:List Nat) (n:Nat):lG c (n+1)=lG c n++[g7 c (n+1)]:=by unfold lG;rw[Qak,Wx];rfl
theorem h7: ∀(r:List (List Nat)) (a b:List Nat),b9 a (r++[b])=cP (b9 a r) b
 | [],_,_=>rfl
 | _::r,_,_=>h7 r _ _
theorem cC (c:List Nat) (k:Nat):(g7 c k).length=c.length:=by unfold g7;rw[UO,Zs,Zi];omega
theorem kF: ∀(r:List (List Nat)) (a:List Nat),b9 a r=a\/b9 a r∈r
 | [],a=> .inl rfl
 | b::r,a=>by
  rcases kF r (cP a b) with h | h
  ·have hl:cP a b=a\/cP a b=b:=by unfold cP;split<;>simp
   rcases hl with e | e
   ·left;show b9 (cP a b) r=a;rw[h,e]
   ·right;show b9 (cP a b) r∈b::r;rw[h,e];exact YO
  ·right;exact YQ _ h
theorem sL (c:List Nat): ∃k,fF c=g7 c k:=by
 rcases kF (lG c (c.length - 1)) c with h | h
 ·exact ⟨0,by show b9 _ _=_;rw[h];unfold g7;simp⟩
 ·unfold lG at h
  obtain ⟨k,_,e⟩:=Zu.mp h
  exact ⟨k+1,e.symm⟩
theorem BR (w:List Nat):(dP w).length<=w.length:=by
 obtain ⟨k,e⟩:=sL (core (red w))
 unfold dP
 rw[e,cC]
 exact ZG (wL _) (lD w)
def Ah (_:PySem.W.Frag):Sp:=fun vs H Q _=> ∃l:List Nat,vs=[.str (S l)]/\(∀c∈l,Lt c)/\l.length<=1000/\ ∀H',ak H H'->Q (.str (S (dP l))) H'
theorem DV {K:PySem.W.Frag} {vs:List V} {H:Hp} {Q:VK} {E:XK} (h:Ah K vs H Q E):vs.length=1:=by obtain ⟨c,rfl,_⟩:=h;rfl
theorem K9 (n d:Nat):HT.iH n d (some (-1))=n - 1:=by
 have e:HT.iH n d (some (-1))=(if (-1:Int)<0 then ((-1:Int)+(n:Int)).toNat else min (-1:Int).toNat n):=rfl
 rw[e,if_pos (by decide)]
 omega
theorem K_ {α:Type} (l:List α):cut l (some (-2)) none=l.drop (l.length - 2):=by
 have e: ∀d,HT.iH l.length d (some (-2))=(if (-2:Int)<0 then ((-2:Int)+(l.length:Int)).toNat else min (-2:Int).toNat l.length):=fun _=>rfl
 have e2: ∀d,HT.iH l.length d (some (-2))=l.length - 2:=fun d=>by rw[e,if_pos (by decide)];omega
 unfold cut
 rw[HT.kW,e2]
 exact Zq (by rw[Zs];exact UP _)
def AllLt (l:List Nat):Prop:= ∀c∈l,Lt c
theorem pY (a b:List Nat): ¬a<cP a b:=by
 unfold cP
 split
 ·rename_i h;exact fun g=>Qbn a (List.lt_trans g h)
 ·exact Qbn a
theorem nX (a b:List Nat): ¬b<cP a b:=by
 unfold cP
 split
 ·exact Qbn b
 ·rename_i h;exact h
theorem Je {a b c:List Nat} (h: ¬b<a) (g: ¬c<b): ¬c<a:=List.le_trans (show a<=b from h) (show b<=c from g)
theorem kG: ∀(r:List (List Nat)) (a:List Nat), ∀x∈a::r, ¬x<b9 a r
 | [],a,x,hx=>by rw[Wv.mp hx];exact Qbn a
 | b::r,a,x,hx=>by
  show ¬x<b9 (cP a b) r
  have h0:=kG r (cP a b) (cP a b) YO
  rcases Wz.mp hx with e | hx
  ·rw[e];exact Je h0 (pY a b)
  ·rcases Wz.mp hx with e | hx
   ·rw[e];exact Je h0 (nX a b)
   ·exact kG r (cP a b) x (YQ _ hx)
theorem wM (c:List Nat):g7 c 0=c:=by unfold g7;simp
theorem lH (u:List Nat): ∀(m i:Nat),i<m*u.length->(dF m u)[i]? =u[i%u.length]?
 | 0,i,h=>by simp at h
 | m+1,i,h=>by
  rw[eK,List.getElem?_append]
  by_cases z:i<u.length
  ·rw[if_pos z,Qay z]
  ·rw[if_neg z,lH u m (i - u.length) (by rw[Qcm]at h;omega), <-Qc9 (by omega)]
def gM (w:List Nat) (s:Nat):Prop:=dF (w.length / s) (w.take s)=w
def gN (w:List Nat) (k:Nat):Prop:=g7 w k=w
noncomputable instance (w:List Nat) (s:Nat):Decidable (gM w s):=by unfold gM;infer_instance
noncomputable instance (w:List Nat) (s:Nat):Decidable (gN w s):=by unfold gN;infer_instance
def bS (w:List Nat) (s:Nat):Prop:=(w=[]/\s=0)\/(1<=s/\s<=w.length/\gM w s/\ ∀j,1<=j->j<s-> ¬gM w j)
def kH (w:List Nat) (s:Nat):Prop:=(w=[]/\s=0)\/(1<=s/\s<=w.length/\gN w s/\ ∀j,1<=j->j<s-> ¬gN w j)
theorem uk {w:List Nat} {s:Nat} (h1:1<=s) (h2:s<=w.length) (h:gM w s):gN w s:=by
 unfold gM at h
 have hm:1<=w.length / s:=Nat.div_pos h2 h1
 obtain ⟨m,e⟩: ∃m,w.length / s=m+1:=⟨w.length / s - 1,by omega⟩
 rw[e]at h
 have hu:(w.take s).length=s:=by rw[Zi];omega
 generalize w.take s=u at h hu
 unfold gN g7
 rw[<-h,eK,List.drop_left' hu,List.take_left' hu, <-yx,eK]
noncomputable def Fw (w:List Nat) (i:Nat):Option Nat:=w[i%w.length]?
theorem oM {w:List Nat} {k i:Nat} (hk:k<=w.length) (hi:i<w.length):(g7 w k)[i]? =Fw w (i+k):=by
 unfold g7 Fw
 rw[List.getElem?_append,Zs]
 by_cases z:i<w.length - k
 ·rw[if_pos z,Qan,Qay (by omega),Qdb]
 ·rw[if_neg z,Qbl,if_pos (by omega),Qc9 (by omega),Qay (by omega)]
  congr 1
  omega
def xO (w:List Nat) (k:Nat):Prop:= ∀i,Fw w (i+k)=Fw w i
theorem DW (w:List Nat) (i k:Nat):Fw w (i%w.length+k)=Fw w (i+k):=by unfold Fw;rw[Nat.mod_add_mod]
theorem gi {w:List Nat} {k:Nat} (hn:w≠[]) (hk:k<=w.length):gN w k↔xO w k:=by
 have hl:0<w.length:=Ww.mpr hn
 constructor
 ·intro h i
  have hi:=Qbk i hl
  rw[<-DW, <-oM hk hi,h]
  rfl
 ·intro h
  refine Qb7 fun i=>?_
  by_cases hi:i<w.length
  ·rw[oM hk hi,h i]
   unfold Fw
   rw[Qay hi]
  ·have hr:(g7 w k).length=w.length:=cC w k
   rw[Z9 (by omega),Z9 (by omega)]
theorem xO.mul {w:List Nat} {k:Nat} (h:xO w k): ∀j i,Fw w (i+k*j)=Fw w i
 | 0,i=>rfl
 | j+1,i=>by rw[Nat.mul_succ, <-Nat.add_assoc,h,xO.mul h j]
theorem xO.whole (w:List Nat):xO w w.length:=fun i=>by unfold Fw;rw[Nat.add_mod_right]
theorem xO.rest {w:List Nat} {k:Nat} (h:xO w k):xO w (w.length%k):=fun i=>by
 rw[<-h.mul (w.length / k) (i+w.length%k),Nat.add_assoc,Qct]
 exact xO.whole w i
theorem sM {w:List Nat} {k:Nat} (hn:w≠[]) (h1:1<=k) (h2:k<=w.length) (h:gN w k) (hl: ∀j,1<=j->j<k-> ¬gN w j):gM w k:=by
 have hp:=(gi hn h2).mp h
 have hr:w.length%k=0:=by
  by_cases z:w.length%k=0
  ·exact z
  ·have cT:=Qbk w.length (show k>0 by omega)
   exact absurd ((gi hn (by omega)).mpr hp.rest) (hl _ (by omega) cT)
 have hm:w.length / k*k=w.length:=by
  have:=Qct w.length k
  rw[hr,Qcl,Qa1]at this
  exact this
 have hu:(w.take k).length=k:=by rw[Zi];omega
 unfold gM
 refine Qb7 fun i=>?_
 by_cases hi:i<w.length
 ·rw[lH _ _ _ (by rw[hu,hm];exact hi),hu,Qbl]
  have W9:=Qbk i (show k>0 by omega)
  rw[if_pos W9]
  have e:=hp.mul (i / k) (i%k)
  rw[Qct]at e
  unfold Fw at e
  rw[Qay hi,Qay (by omega)]at e
  exact e.symm
 ·rw[Z9 (by rw[v8,hu,hm];omega),Z9 (by omega)]
theorem jJ {w:List Nat} {s k:Nat} (h:bS w s) (g:kH w k):s=k:=by
 rcases h with ⟨e,e2⟩ | ⟨h1,h2,h3,h4⟩
 ·rcases g with ⟨_,g2⟩ | ⟨g1,g2,_,_⟩
  ·rw[e2,g2]
  ·rw[e]at g2;simp at g2;omega
 ·rcases g with ⟨e,_⟩ | ⟨g1,g2,g3,g4⟩
  ·rw[e]at h2;simp at h2;omega
  ·have hn:w≠[]:=fun z=>by rw[z]at h2;simp at h2;omega
   by_cases z:s<k
   ·exact absurd (uk h1 h2 h3) (g4 s h1 z)
   ·by_cases z2:k<s
    ·exact absurd (sM hn g1 g2 g3 g4) (h4 k g1 z2)
    ·omega
theorem BS (w:List Nat) (h:w≠[]):gM w w.length:=by
 have hl:0<w.length:=Ww.mpr h
 unfold gM
 rw[Nat.div_self hl,Zq (UP _)]
 show dF (0+1) w=w
 rw[eK]
 simp[dF]
theorem BU (w:List Nat):gN w w.length:=by
 unfold gN g7
 rw[Qai (UP _),Zq (UP _)]
 rfl
noncomputable def Hm (c:List Nat) (n:Nat):List Nat:=((List.range n).map (· +1)).filter fun k=>decide (gN c k)
theorem um {c:List Nat} {n k:Nat}:k∈Hm c n↔(1<=k/\k<=n)/\gN c k:=by
 unfold Hm
 rw[ZH,Zu]
 constructor
 ·rintro ⟨⟨j,hj,rfl⟩,h⟩
  have:=Qah.mp hj
  exact ⟨by omega,of_decide_eq_true h⟩
 ·rintro ⟨h1,h2⟩
  exact ⟨⟨k - 1,Qah.mpr (by omega),by omega⟩,decide_eq_true h2⟩
theorem yL (c:List Nat) (n:Nat):(Hm c n).Pairwise (· < ·):=by
 unfold Hm
 refine List.Pairwise.filter _ ?_
 rw[Z8]
 exact (List.pairwise_lt_range (n:=n)).imp fun h=>Nat.succ_lt_succ h
theorem pZ {c:List Nat} (h:c≠[]): ∃k r,Hm c c.length=k::r/\kH c k:=by
 have hl:0<c.length:=Ww.mpr h
 have hm:c.length∈Hm c c.length:=um.mpr ⟨by omega,BU c⟩
 rcases e:Hm c c.length with _ | ⟨k,r⟩
 ·rw[e]at hm;exact absurd hm Zl
 ·refine ⟨k,r,rfl, .inr ?_⟩
  have hk:k∈Hm c c.length:=by rw[e];exact YO
  obtain ⟨⟨h1,h2⟩,h3⟩:=um.mp hk
  refine ⟨h1,h2,h3,fun j j1 j2 z=>?_⟩
  have hj:j∈Hm c c.length:=um.mpr ⟨by omega,z⟩
  have hs:=yL c c.length
  rw[e]at hj hs
  rcases Wz.mp hj with w | w
  ·omega
  ·have:=List.rel_of_pairwise_cons hs w
   omega
noncomputable def Jf (w:List Nat) (s:Nat):List V:=[.str (S (w.take s)), .int ((w.length / s:Nat):Int)]
def Ai (_:PySem.W.Frag):Sp:=fun vs H Q _=> ∃l:List Nat,vs=[.str (S l)]/\(∀c∈l,Lt c)/\l.length<=1000/\ ∀p s H',H p=none->H' p=some (.tup (Jf (dP l) s))->bS (dP l) s->ak H H'->Q (.ref p) H'
theorem DZ {K:PySem.W.Frag} {vs:List V} {H:Hp} {Q:VK} {E:XK} (h:Ai K vs H Q E):vs.length=1:=by obtain ⟨c,rfl,_⟩:=h;rfl
theorem aY: ∀c∈aQ,aA c=true/\PyProof.Rows.lo1 c=c/\az c∈jb:=by decide+kernel
theorem bB: ∀c∈jb,aA c=false/\PyProof.Rows.lo1 c=az c/\c∉aQ/\az c∈aQ:=by decide+kernel
theorem sN: ∀c∈jb,c∉aQ:=by decide+kernel
theorem dQ {c:Nat} (h:Lt c):aA c=decide (c∈aQ):=by
 rcases h with h | h
 ·rw[(aY c h).1,decide_eq_true h]
 ·rw[(bB c h).1,decide_eq_false (bB c h).2.2.1]
noncomputable def gr (y:List Nat) (a b c:Nat):Bool:=decide ((((y.idxOf b:Nat):Int) - ((y.idxOf a:Nat):Int))%(y.length:Int)<(((y.idxOf c:Nat):Int) - ((y.idxOf a:Nat):Int))%(y.length:Int))
def iK (i j k:Nat):Prop:=(i<j/\j<k)\/(j<k/\k<i)\/(k<i/\i<j)
noncomputable instance (i j k:Nat):Decidable (iK i j k):=by unfold iK;infer_instance
theorem je {i j n:Nat} (hi:i<n) (hj:j<n):((j:Int) - (i:Int))%(n:Int)=if i<=j then (j:Int) - i else (j:Int) - i+n:=by
 split
 ·exact ZD (by omega) (by omega)
 ·rw[<-Qa2]
  exact ZD (by omega) (by omega)
theorem fA {y:List Nat} {a b c:Nat} (hn:y.Nodup) (ha:a∈y) (hb:b∈y) (hc:c∈y) (CK:a≠b) (Jg:a≠c) (Jh:b≠c):gr y a b c=decide (iK (y.idxOf a) (y.idxOf b) (y.idxOf c)):=by
 have ia:=UR ha
 have ib:=UR hb
 have ic:=UR hc
 have inj: ∀{u v:Nat},u∈y->v∈y->u≠v->y.idxOf u≠y.idxOf v:=fun {u v} hu hv h z=>h (by
  have e1:=ZO (UR hu)
  have e2:=ZO (UR hv)
  rw[<-e1, <-e2]
  congr 1)
 have n1:=inj ha hb CK
 have n2:=inj ha hc Jg
 have n3:=inj hb hc Jh
 unfold gr
 rw[je ia ib,je ia ic]
 generalize y.idxOf a=i at*
 generalize y.idxOf b=j at*
 generalize y.idxOf c=k at*
 refine decide_eq_decide.mpr ?_
 unfold iK
 split<;>split<;>omega
theorem D0 {i j k:Nat}:iK j k i↔iK i j k:=by unfold iK;omega
theorem Hn {i j k:Nat} (h1:i≠j) (h2:i≠k) (h3:j≠k):iK i k j↔ ¬iK i j k:=by unfold iK;omega
theorem Ho {y:List Nat} {a b c:Nat} (hn:y.Nodup) (ha:a∈y) (hb:b∈y) (hc:c∈y) (CK:a≠b) (Jg:a≠c) (Jh:b≠c):gr y b c a=gr y a b c:=by
 rw[fA hn ha hb hc CK Jg Jh,fA hn hb hc ha Jh (Ne.symm CK) (Ne.symm Jg)]
 exact decide_eq_decide.mpr D0
theorem bC {y:List Nat} {u v:Nat} (hu:u∈y) (hv:v∈y) (h:u≠v):y.idxOf u≠y.idxOf v:=fun z=>h (by
 have e1:=ZO (UR hu)
 have e2:=ZO (UR hv)
 rw[<-e1, <-e2]
 congr 1)
theorem La {y:List Nat} {a b c:Nat} (hn:y.Nodup) (ha:a∈y) (hb:b∈y) (hc:c∈y) (CK:a≠b) (Jg:a≠c) (Jh:b≠c):gr y a c b=!gr y a b c:=by
 rw[fA hn ha hb hc CK Jg Jh,fA hn ha hc hb Jg CK (Ne.symm Jh)]
 rw[<-decide_not]
 exact decide_eq_decide.mpr (Hn (bC ha hb CK) (bC ha hc Jg) (bC hb hc Jh))
theorem Lb (d:Nat) (t:List Nat) (a:Nat):(d::t).idxOf a=if d=a then 0 else t.idxOf a+1:=by
 by_cases h:d=a
 ·subst h;rw[if_pos rfl,List.idxOf_cons_self]
 ·rw[if_neg h,List.idxOf_cons,show (d==a)=false by simp[h]];rfl
theorem BV {a b:List Nat} (h:a.Perm b) (ha:a.Pairwise (· <= ·)) (hb:b.Pairwise (· <= ·)):a=b:=
 List.Perm.eq_of_pairwise (le:=fun x y=>x<=y) (fun _ _ _ _ h1 h2=>Qdq h1 h2) ha hb h
def wN (_:PySem.W.Frag):Sp:=fun vs H Q _=> ∃l:List Nat,vs=[.str (S l)]/\(∀c∈l,c<128)/\l.length<64/\ ∀l' H',l'.Perm (l.filter aA)->l'.Pairwise (· <= ·)->ak H H'->Q (.str (S l')) H'
theorem BW {K:PySem.W.Frag} {vs:List V} {H:Hp} {Q:VK} {E:XK} (h:wN K vs H Q E):vs.length=1:=by obtain ⟨c,rfl,_⟩:=h;rfl
def jf (_:PySem.W.Frag):Sp:=fun vs H Q _=> ∃(y:List Nat) (a b:Nat),vs=[.str (S y), .str (S [a]), .str (S [b])]/\a∈y/\b∈y/\y.length<=1000/\Q (.int ((((y.idxOf b:Nat):Int) - ((y.idxOf a:Nat):Int))%(y.length:Int))) H
theorem nY {K:PySem.W.Frag} {vs:List V} {H:Hp} {Q:VK} {E:XK} (h:jf K vs H Q E):vs.length=3:=by obtain ⟨c,_,_,rfl,_⟩:=h;rfl
def kf (_:PySem.W.Frag):Sp:=fun vs H Q _=> ∃(y:List Nat) (a b c:Nat),vs=[.str (S y), .str (S [a]), .str (S [b]), .str (S [c])]/\a∈y/\b∈y/\c∈y/\y.length<=1000/\Q (.bl (gr y a b c)) H
theorem p5 {K:PySem.W.Frag} {vs:List V} {H:Hp} {Q:VK} {E:XK} (h:kf K vs H Q E):vs.length=4:=by obtain ⟨c,_,_,_,rfl,_⟩:=h;rfl
def sO (_:PySem.W.Frag):Sp:=fun vs H Q _=> ∃y:List Nat,vs=[.str (S y)]/\y.length<64/\ ∀q l' H',H q=none->H' q=some (.lst (cI l'))->l'.Perm (y.filter fun c=>decide (c∈aQ))->l'.Pairwise (· <= ·)->ak H H'->Q (.ref q) H'
theorem yM {K:PySem.W.Frag} {vs:List V} {H:Hp} {Q:VK} {E:XK} (h:sO K vs H Q E):vs.length=1:=by obtain ⟨c,rfl,_⟩:=h;rfl
theorem nI {p:Nat->Bool} {l:List Nat} {i c:Nat} (h:l[i]? =some c):(l.take (i+1)).filter p=(l.take i).filter p++if p c=true then [c] else []:=by
 rw[<-take_snoc h,ZU]
 congr 1
 by_cases z:p c=true
 ·rw[if_pos z,ZL z];rfl
 ·rw[if_neg z,Zw z];rfl
theorem D4 {y:List Nat} (h:Yd y):2*(y.filter aA).length=y.length:=by
 have key: ∀p q:Nat->Bool,(∀c∈y,p c=true->q (az c)=true)->(y.filter p).length<=(y.filter q).length:=fun p q W_=>by
  have hn:((y.filter p).map az).Nodup:=by
   show ((y.filter p).map az).Pairwise (· ≠ ·)
   rw[Z8]
   refine (h.nd.filter p).imp_of_mem fun {a b} ha hb z e=>z ?_
   exact dA (h.lt a (ZH.mp ha).1) (h.lt b (ZH.mp hb).1) e
  have:=hn.length_le_of_subset (l₂:=y.filter q) fun c hc=>by
   obtain ⟨d,hd,rfl⟩:=Zu.mp hc
   obtain ⟨d1,d2⟩:=ZH.mp hd
   exact ZH.mpr ⟨h.cl d d1,W_ d d1 d2⟩
  rwa [QW]at this
 have k1:=key aA (fun c=>!aA c) fun c hc z=>by
  rw[dQ (h.lt c hc)]at z
  have hs:=of_decide_eq_true z
  rw[(bB _ (aY c hs).2.2).1];rfl
 have k2:=key (fun c=>!aA c) aA fun c hc z=>by
  rcases h.lt c hc with q | q
  ·rw[(aY c q).1]at z;cases z
  ·exact (aY _ (bB c q).2.2.2).1
 have k3:(y.filter aA).length+(y.filter fun c=>!aA c).length=y.length:=by
  clear k1 k2 key h
  induction y with
  | nil=>rfl
  | cons a r ih=>
   cases hq:aA a
   ·rw[Zw (by simp[hq]),ZL (by simp[hq]),Zv,Zv];omega
   ·rw[ZL hq,Zw (by simp[hq]),Zv,Zv];omega
 omega
noncomputable def rd (w:List Nat) (k:Int):Nat:=w.getD (k%(w.length:Int)).toNat 0
theorem PR {w:List Nat} (h:w≠[]) (k:Int):(k%(w.length:Int)).toNat<w.length:=by
 have:0<w.length:=Ww.mpr h
 have h1:=Qaa k (b:=(w.length:Int)) (by omega)
 have h2:=Z6 k (b:=(w.length:Int)) (by omega)
 omega
theorem eL {w:List Nat} (h:w≠[]) (k:Int):w[(k%(w.length:Int)).toNat]? =some (rd w k):=by
 unfold rd
 rw[Wy,Kq (PR h k)]
 rfl
theorem jg {w:List Nat} (h:w≠[]) (k:Int):rd w k∈w:=UQ (eL h k)
theorem h_ (w:List Nat) (k:Int):rd w (k+w.length)=rd w k:=by unfold rd;rw[Qa2]
theorem ie (w:List Nat) (k:Int):rd w (k%w.length)=rd w k:=by unfold rd;rw[Qbt _ (Int.dvd_refl _)]
theorem fO {w:List Nat} {k:Nat} (h:k<w.length):w[k]? =some (rd w k):=by
 have dR:w≠[]:=fun z=>by rw[z]at h;exact absurd h (Qcs _)
 have:=eL dR (k:Int)
 rwa [ZD (by omega) (by omega),YR]at this
theorem wO {w:List Nat} {k:Int} {n:Nat} {c:Nat} (hn:n<w.length) (e:k%(w.length:Int)=n) (h:w[n]? =some c):rd w k=c:=by
 have:=fO hn
 rw[h]at this
 rw[<-ie,e]
 exact (Zc this).symm
theorem lI {w:List Nat} {k:Int} (h1: -(w.length:Int)<=k) (h2:k<w.length):oG w k=some (rd w k):=by
 have dR:w≠[]:=fun z=>by rw[z]at h1 h2;simp at h1 h2;omega
 unfold oG FW
 by_cases h0:0<=k
 ·rw[if_pos h0,if_pos h2]
  have:=eL dR k
  rw[ZD h0 h2]at this
  exact this
 ·rw[if_neg h0,if_pos h1]
  have:=eL dR (k+w.length)
  rw[h_,ZD (by omega) (by omega)]at this
  exact this
theorem ig {f:Int->Nat} {p:Nat} (P: ∀k,f (k+p)=f k) (k:Int): ∀t:Nat,f (k+t*p)=f k
 | 0=>by simp
 | t+1=>by
  have:k+((t+1:Nat):Int)*p=k+t*p+p:=by rw[Z2,Int.add_mul];simp;omega
  rw[this,P,ig P k t]
theorem fw {f g:Int->Nat} {p q:Nat} (hp:0<p) (hq:0<q) (Pf: ∀k,f (k+p)=f k) (Pg: ∀k,g (k+q)=g k) (h: ∀n:Nat,n<p+q->f n=g n) (k:Int):f k=g k:=by
 have up: ∀N n:Nat,n<N->f n=g n:=by
  intro N
  induction N with
  | zero=>intro n hn;omega
  | succ N ih=>
   intro n hn
   by_cases z:n<p+q
   ·exact h n z
   ·have e1:f n=f ((n - p:Nat):Int):=by have:=Pf ((n - p:Nat):Int);rwa [show ((n - p:Nat):Int)+p=n by omega]at this
    have e2:g ((n - p:Nat):Int)=g ((n - p - q:Nat):Int):=by have:=Pg ((n - p - q:Nat):Int);rwa [show ((n - p - q:Nat):Int)+q=((n - p:Nat):Int) by omega]at this
    have e3:f ((n - q:Nat):Int)=f ((n - p - q:Nat):Int):=by have:=Pf ((n - p - q:Nat):Int);rwa [show ((n - p - q:Nat):Int)+p=((n - q:Nat):Int) by omega]at this
    have e4:g n=g ((n - q:Nat):Int):=by have:=Pg ((n - q:Nat):Int);rwa [show ((n - q:Nat):Int)+q=n by omega]at this
    rw[e1,ih (n - p) (by omega),e2, <-ih (n - p - q) (by omega), <-e3,ih (n - q) (by omega), <-e4]
 have pU: ∃m:Nat,k+((k.natAbs*q:Nat):Int)*p=m/\k+((k.natAbs*p:Nat):Int)*q=m:=by
  have e1:((k.natAbs*q:Nat):Int)*p=((k.natAbs*(q*p):Nat):Int):=by rw[Nat.mul_assoc k.natAbs q p |>.symm];simp
  have e2:((k.natAbs*p:Nat):Int)*q=((k.natAbs*(q*p):Nat):Int):=by rw[Qa1 q p,Nat.mul_assoc k.natAbs p q |>.symm];simp
  have hle:k.natAbs<=k.natAbs*(q*p):=Nat.le_mul_of_pos_right _ (Nat.mul_pos hq hp)
  generalize k.natAbs*(q*p)=M at e1 e2 hle
  exact ⟨(k+M).toNat,by omega,by omega⟩
 obtain ⟨m,h1,h2⟩:=pU
 rw[<-ig Pf k (k.natAbs*q),h1, <-ig Pg k (k.natAbs*p),h2]
 exact up (m+1) m (Qad m)
noncomputable def q0 (f g:Int->Nat):Nat->Nat->Nat
 | 0,i=>i
 | n+1,i=>if f i=g i then q0 f g n (i+1) else i
theorem jh (f g:Int->Nat): ∀n i:Nat,i<=q0 f g n i/\q0 f g n i<=i+n/\(∀j:Nat,i<=j->j<q0 f g n i->f j=g j)/\(q0 f g n i<i+n->f (q0 f g n i)≠g (q0 f g n i))
 | 0,i=>⟨UP _,UP _,fun j h1 h2=>absurd (ZI h1 h2) (ZW _),fun h=>absurd h (ZW _)⟩
 | n+1,i=>by
  unfold q0
  by_cases z:f i=g i
  ·rw[if_pos z]
   obtain ⟨h1,h2,h3,h4⟩:=jh f g n (i+1)
   refine ⟨by omega,by omega,fun j g1 g2=>?_,fun g1=>h4 (by omega)⟩
   by_cases e:j=i
   ·rw[e];exact z
   ·exact h3 j (by omega) g2
  ·rw[if_neg z]
   exact ⟨UP _,by omega,fun j g1 g2=>absurd (ZI g1 g2) (ZW _),fun _=>z⟩
noncomputable def al (y:List Nat) (f g:Int->Nat) (n:Nat):Nat:=
 if f 0≠g 0\/f (-1)=g (-1) then 0 else
 if gr y (az (f (-1))) (az (g (-1))) (f 0)=gr y (f (q0 f g n 0)) (g (q0 f g n 0)) (az (f ((q0 f g n 0:Nat) - 1))) then q0 f g n 0 else 0
noncomputable def ac (y:List Nat) (a b p q:Nat):Bool:=if p=a\/p=b\/q=a\/q=b then false else (gr y a p b != gr y a q b)
noncomputable def sq (w:List Nat) (i:Int):Int->Nat:=fun n=>rd w (i+n)
noncomputable def bq (v:List Nat) (j:Int):Int->Nat:=fun n=>az (rd v (j - n))
theorem cW (w:List Nat) (i k:Int):sq w i (k+w.length)=sq w i k:=by unfold sq;rw[<-Int.add_assoc,h_]
theorem yN (w:List Nat) (k:Int):rd w (k - w.length)=rd w k:=by rw[<-h_ w (k - w.length)];congr 1;omega
theorem p6 (w:List Nat) (i k:Int):bq w i (k+w.length)=bq w i k:=by unfold bq;rw[show i - (k+(w.length:Int))=i - k - w.length by omega,yN]
theorem mI {v:List Nat} (h:v≠[]) (k:Int):rd (eX v) k=az (rd v (-1 - k)):=by
 have pU:0<v.length:=Ww.mpr h
 have h1:=Qaa k (b:=(v.length:Int)) (by omega)
 have h2:=Z6 k (b:=(v.length:Int)) (by omega)
 have e:(-1 - k)%(v.length:Int)=v.length - 1 - k%v.length:=by
  have e1:=Qcx k v.length
  have: -1 - k=(v.length - 1 - k%v.length)+v.length*(-(k / v.length) - 1):=by rw[Int.mul_sub,Int.mul_neg];omega
  rw[this,Qb4,ZD (by omega) (by omega)]
 generalize hr:k%(v.length:Int)=r at h1 h2 e
 obtain ⟨n,rfl⟩: ∃n:Nat,r=n:=⟨r.toNat,by omega⟩
 have hn:n<v.length:=by omega
 have e2:rd v (-1 - k)=v[v.length - 1 - n]'(by omega):=wO (n:=v.length - 1 - n) (by omega) (by rw[e];omega) (Kq (by omega))
 rw[e2]
 refine wO (n:=n) (by rw[b_];exact hn) (by rw[b_];exact hr) ?_
 unfold eX
 rw[Qbq (by rw[QW];exact hn),QW,Zk,Kq (by omega)]
 rfl
theorem Lc {v:List Nat} (h:v≠[]) (j:Nat):sq (eX v) ((v.length:Int) - 1 - j)=bq v j:=by
 funext n
 unfold sq bq
 rw[mI h,show -1 - ((v.length:Int) - 1 - j+n)=j - n - v.length by omega,yN]
structure SW (y w:List Nat):Prop where
 ne:w≠[]
 bO: ∀c∈w,c∈y
 red: ∀k:Int,rd w k≠az (rd w (k - 1))
theorem SW.rd {y w:List Nat} (h:SW y w) (k:Int):rd w k∈y:=h.bO _ (jg h.ne k)
theorem jK {w v:List Nat} {f g:Int->Nat} (hw:w≠[]) (hv:v≠[]) (pf: ∀k,f (k+w.length)=f k) (pg: ∀k,g (k+v.length)=g k) (h:f (-1)≠g (-1)):q0 f g (w.length+v.length) 0<w.length+v.length/\f (q0 f g (w.length+v.length) 0)≠g (q0 f g (w.length+v.length) 0):=by
 obtain ⟨_,b,c,d⟩:=jh f g (w.length+v.length) 0
 by_cases z:q0 f g (w.length+v.length) 0<w.length+v.length
 ·exact ⟨z,d (by omega)⟩
 ·exact absurd (fw (Ww.mpr hw) (Ww.mpr hv) pf pg (fun n hn=>c n (Zg _) (by omega)) (-1)) h
noncomputable def CL (ws:List (List Nat)):Nat->List (Nat×Nat)
 | 0=>[]
 | n+1=>CL ws n++(List.range (ws.getD n []).length).map fun i=>(n,i)
noncomputable def places (ws:List (List Nat)):List (Nat×Nat):=CL ws ws.length
theorem uo {ws:List (List Nat)}: ∀{n:Nat} {o:Nat×Nat},o∈CL ws n↔o.1<n/\o.2<(ws.getD o.1 []).length
 | 0,o=>by simp[CL]
 | n+1,o=>by
  unfold CL
  rw[Zh,uo (n:=n),Zu]
  constructor
  ·rintro (⟨h1,h2⟩ | ⟨i,hi,rfl⟩)
   ·exact ⟨by omega,h2⟩
   ·exact ⟨by simp,Qah.mp hi⟩
  ·rintro ⟨h1,h2⟩
   by_cases z:o.1<n
   ·exact .inl ⟨z,h2⟩
   ·have e:o.1=n:=by omega
    exact .inr ⟨o.2,Qah.mpr (by rw[<-e];exact h2),by rw[<-e]⟩
theorem Aj {ws:List (List Nat)}: ∀n:Nat,(CL ws n).Pairwise fun a b=>F_ a.1 a.2 b.1 b.2=true
 | 0=>List.Pairwise.nil
 | n+1=>by
  unfold CL
  rw[Qaw]
  refine ⟨Aj n,?_,fun a ha b hb=>?_⟩
  ·rw[Z8]
   refine List.pairwise_lt_range.imp fun {a b} h=>?_
   unfold F_
   rw[if_pos rfl]
   exact decide_eq_true (by show (a:Int)<b;omega)
  ·obtain ⟨i,hi,rfl⟩:=Zu.mp hb
   have:=(uo.mp ha).1
   unfold F_
   rw[if_neg (by show ¬((a.1:Nat):Int)=(n:Nat);omega)]
   exact decide_eq_true (by show ((a.1:Nat):Int)<(n:Nat);omega)
theorem mJ: ∀{a b:List Int},bF a b=true->bF b a=false/\a≠b
 | [],[],h=>by simp[bF]at h
 | [],_::_,h=>⟨rfl,by simp⟩
 | _::_,[],h=>by simp[bF]at h
 | x::r,z::t,h=>by
  simp only[bF]at h ⊢
  split at h
  ·rename_i e
   obtain ⟨h1,h2⟩:=mJ h
   rw[if_pos e.symm]
   exact ⟨h1,fun q=>h2 (List.cons.inj q).2⟩
  ·rename_i e
   have h':=of_decide_eq_true h
   rw[if_neg (fun q=>e q.symm)]
   exact ⟨decide_eq_false (by omega),fun q=>e (List.cons.inj q).1⟩
noncomputable def ji (n:Nat) (l:List Nat):List Nat:=(List.replicate n l).flatten
def BX (w:List Nat):Prop:= ∀(k a b:Nat),w[k]? =some a->w[k+1]? =some b->b≠az a
theorem BX.nil:BX []:=fun k a b h=>by simp at h
theorem BX.take {w:List Nat} (h:BX w) (n:Nat):BX (w.take n):=fun k a b h1 h2=>by
 rw[Qbl]at h1 h2
 split at h1
 ·split at h2
  ·exact h k a b h1 h2
  ·cases h2
 ·cases h1
theorem BX.snoc {w:List Nat} {c:Nat} (h:BX w) (hc: ∀a,w.getLast? =some a->c≠az a):BX (w++[c]):=fun k a b h1 h2=>by
 by_cases z:k+1<w.length
 ·rw[ZE (by omega)]at h1
  rw[ZE z]at h2
  exact h k a b h1 h2
 ·have yz:k+1<(w++[c]).length:=(Kr.mp h2).1
  rw[UO]at yz
  have e:k+1=w.length:=by simp at yz;omega
  rw[ZE (by omega)]at h1
  rw[e,ZT (UP _),Qcn]at h2
  have e2:c=b:=by simpa using h2
  rw[<-e2]
  refine hc a ?_
  rw[Qbh, show w.length - 1=k by omega]
  exact h1
theorem SW.of {y w:List Nat} (ne:w≠[]) (bO: ∀c∈w,c∈y) (Gd:BX w) (hd: ∀a b,w.head? =some a->w.getLast? =some b->a≠az b):SW y w:=by
 refine ⟨ne,bO,fun k=>?_⟩
 have pU:0<w.length:=Ww.mpr ne
 have h1:=Qaa k (b:=(w.length:Int)) (by omega)
 have h2:=Z6 k (b:=(w.length:Int)) (by omega)
 have hk:=eL ne k
 have Mz:=eL ne (k - 1)
 by_cases z:k%(w.length:Int)=0
 ·have e:(k - 1)%(w.length:Int)=w.length - 1:=by
   rw[<-Int.emod_sub_emod,z]
   have:(0:Int) - 1=(w.length - 1)+w.length*(-1):=by omega
   rw[this,Qb4,ZD (by omega) (by omega)]
  rw[z]at hk
  rw[e]at Mz
  refine hd _ _ ?_ ?_
  ·rw[Qcp];exact hk
  ·rw[Qbh, show w.length - 1=((w.length:Int) - 1).toNat by omega];exact Mz
 ·have e:(k - 1)%(w.length:Int)=k%w.length - 1:=by
   rw[<-Int.emod_sub_emod,ZD (by omega) (by omega)]
  rw[e]at Mz
  refine Gd _ _ _ Mz ?_
  rw[show (k%(w.length:Int) - 1).toNat+1=(k%(w.length:Int)).toNat by omega]
  exact hk
theorem SW.Gd {y w:List Nat} (h:SW y w):BX w:=fun k a b h1 h2=>by
 have hk:=(Kr.mp h2).1
 have e1:=fO (w:=w) (k:=k) (by omega)
 have e2:=fO (w:=w) (k:=k+1) hk
 rw[h1]at e1
 rw[h2]at e2
 rw[Zc e1,Zc e2]
 have:=h.red ((k+1:Nat):Int)
 rwa [show (((k+1:Nat):Int) - 1)=(k:Int) by omega]at this
theorem D5 {w:List Nat} {n:Nat} (h:w≠[]) (hn:n<=w.length) (k:Int):rd (w.drop n++w.take n) k=rd w (k+n):=by
 have pU:0<w.length:=Ww.mpr h
 have hl:(w.drop n++w.take n).length=w.length:=by rw[UO,Zs,Zi];omega
 have h1:=Qaa k (b:=(w.length:Int)) (by omega)
 have h2:=Z6 k (b:=(w.length:Int)) (by omega)
 have e:(k+n)%(w.length:Int)=(k%w.length+n)%w.length:=by rw[Qdh]
 generalize hr:k%(w.length:Int)=r at h1 h2 e
 obtain ⟨m,rfl⟩: ∃m:Nat,r=m:=⟨r.toNat,by omega⟩
 have hm:m<w.length:=by omega
 by_cases z:m+n<w.length
 ·have hg:w[m+n]? =some (rd w (k+n)):=by
   have:=eL h (k+n)
   rwa [e,ZD (by omega) (by omega),show ((m:Int)+n).toNat=m+n by omega]at this
  refine wO (n:=m) (by rw[hl];exact hm) (by rw[hl];exact hr) ?_
  rw[ZE (by rw[Zs];omega),Qan,Qdb]
  exact hg
 ·have hg:w[m+n - w.length]? =some (rd w (k+n)):=by
   have:=eL h (k+n)
   have e2:((m:Int)+n)%w.length=((m+n - w.length:Nat):Int):=by
    have:(m:Int)+n=((m+n - w.length:Nat):Int)+w.length:=by omega
    rw[this,Qa2,ZD (by omega) (by omega)]
   rwa [e,e2,YR]at this
  refine wO (n:=m) (by rw[hl];exact hm) (by rw[hl];exact hr) ?_
  rw[ZT (by rw[Zs];omega),Zs,Qbl,if_pos (by omega),show m - (w.length - n)=m+n - w.length by omega]
  exact hg
theorem SW.g7 {y w:List Nat} {n:Nat} (h:SW y w) (hn:n<=w.length):SW y (w.drop n++w.take n):=by
 refine ⟨fun z=>h.ne ?_,fun c hc=>?_,fun k=>?_⟩
 ·have l0:(w.drop n++w.take n).length=0:=by rw[z];rfl
  rw[UO,Zs,Zi]at l0
  exact Qae.mp (by omega)
 ·exact h.bO c ((Zh.mp hc).elim Qax Qao)
 ·rw[D5 h.ne hn,D5 h.ne hn,show k - 1+n=k+n - 1 by omega]
  exact h.red _
theorem SW.eX {y w:List Nat} (hy:Yd y) (h:SW y w):SW y (eX w):=by
 refine ⟨fun z=>h.ne ?_,fun c hc=>?_,fun k=>?_⟩
 ·have:=b_ w
  rw[z]at this
  exact Qae.mp this.symm
 ·obtain ⟨d,hd,rfl⟩:=Zu.mp (Qbr.mp hc)
  exact hy.cl d (h.bO d hd)
 ·rw[mI h.ne,mI h.ne,show -1 - (k - 1)= -1 - k+1 by omega]
  intro q
  have l1:=hy.lt _ (h.rd (-1 - k))
  have l2:=hy.lt _ (h.rd (-1 - k+1))
  rw[aF l2]at q
  have:=h.red (-1 - k+1)
  rw[show -1 - k+1 - 1= -1 - k by omega]at this
  exact this q.symm
theorem lJ (n:Nat) (l:List Nat):ji (n+1) l=l++ji n l:=by unfold ji;rw[Qc0,Qbb]
theorem Ak (n:Nat) (l:List Nat):(ji n l).length=n*l.length:=by
 induction n with
 | zero=>simp[ji]
 | succ n ih=>rw[lJ,UO,ih,Qcm,Qdb]
theorem Al {l:List Nat}: ∀{n k:Nat},k<n*l.length->(ji n l)[k]? =l[k%l.length]?
 | 0,k,h=>by simp at h
 | n+1,k,h=>by
  rw[lJ]
  by_cases z:k<l.length
  ·rw[ZE z,Qay z]
  ·rw[ZT (by omega),Al (by rw[Qcm]at h;omega),Qc9 (by omega:l.length<=k)]
theorem Am {w:List Nat} {n:Nat} (h:w≠[]) (hn:0<n) (k:Int):rd (ji n w) k=rd w k:=by
 have pU:0<w.length:=Ww.mpr h
 have hl:=Ak n w
 have Vb:0<n*w.length:=Nat.mul_pos hn pU
 have h1:=Qaa k (b:=((n*w.length:Nat):Int)) (by omega)
 have h2:=Z6 k (b:=((n*w.length:Nat):Int)) (by omega)
 have e:k%(w.length:Int)=(k%((n*w.length:Nat):Int))%w.length:=(Qbt k (by rw[Qdv];exact Int.dvd_mul_left _ _)).symm
 generalize hr:k%((n*w.length:Nat):Int)=r at h1 h2 e
 obtain ⟨m,rfl⟩: ∃m:Nat,r=m:=⟨r.toNat,by omega⟩
 have hm:m<n*w.length:=by omega
 refine wO (n:=m) (by rw[hl];exact hm) (by rw[hl];exact hr) ?_
 rw[Al hm]
 have:=eL h k
 rwa [e,show (((m:Int)%w.length).toNat)=m%w.length by rw[<-Qcd,YR]]at this
theorem Hq {w:List Nat} {n c:Nat} (h:c∈ji n w):c∈w:=by
 obtain ⟨l,hl,hc⟩:=List.mem_flatten.mp h
 rwa [List.eq_of_mem_replicate hl]at hc
theorem SW.dF {y w:List Nat} {n:Nat} (h:SW y w) (hn:0<n):SW y (ji n w):=by
 refine ⟨fun z=>?_,fun c hc=>h.bO c (Hq hc),fun k=>by rw[Am h.ne hn,Am h.ne hn];exact h.red k⟩
 have:=Ak n w
 rw[z]at this
 have h2:0<n*w.length:=Nat.mul_pos hn (Ww.mpr h.ne)
 simp at this
 omega
theorem SW.twice {y w:List Nat} (h:SW y w):SW y (w++w):=by
 have:=h.dF (n:=2) (by decide)
 rwa [show ji 2 w=w++w by rw[lJ,lJ];simp[ji]]at this
theorem SW.snoc {y w:List Nat} {c:Nat} (hy:Yd y) (Gd:BX w) (bO: ∀a∈w,a∈y) (hc:c∈y) (h1: ∀a,w.getLast? =some a->c≠az a) (h2: ∀a,w.head? =some a->c≠az a):SW y (w++[c]):=by
 refine SW.of (by simp) (fun a ha=>?_) (Gd.snoc h1) fun a b ha hb=>?_
 ·rcases Zh.mp ha with q | q
  ·exact bO a q
  ·rw[Wv.mp q];exact hc
 ·have eb:b=c:=by simpa using hb.symm
  subst eb
  cases w with
  | nil=>
   have:b=a:=by simpa using ha
   rw[<-this]
   exact fun q=>dG (hy.lt b hc) q.symm
  | cons x r=>
   have:x=a:=by simpa using ha
   subst this
   have hx:x∈y:=bO x YO
   intro q
   exact h2 x rfl (by rw[q,aF (hy.lt b hc)])
theorem uq {w:List Nat} (h:w≠[]):w.getLast? =some (rd w (-1)):=by
 have pU:0<w.length:=Ww.mpr h
 have:=eL h (-1)
 have e:(-1:Int)%(w.length:Int)=w.length - 1:=by
  have e2:(-1:Int)=((w.length:Int) - 1)+w.length*(-1):=by omega
  rw[e2,Qb4,ZD (by omega) (by omega)]
 rw[e]at this
 rw[Qbh, show w.length - 1=((w.length:Int) - 1).toNat by omega]
 exact this
theorem oN {w:List Nat} (h:w≠[]):w.head? =some (rd w 0):=by
 have:=eL h 0
 rw[Qcp]
 simpa using this
theorem BY (w:List Nat): ∃k,kH w k:=by
 by_cases h:w=[]
 ·exact ⟨0, .inl ⟨h,rfl⟩⟩
 ·obtain ⟨k,_,_,t⟩:=pZ h
  exact ⟨k,t⟩
theorem bS.turn {w:List Nat} {s:Nat} (h:bS w s):kH w s:=by
 obtain ⟨k,t⟩:=BY w
 rw[jJ h t];exact t
theorem bS.least {w:List Nat} {s j:Nat} (h:bS w s) (j1:1<=j) (j2:j<s) (hp:xO w j):False:=by
 rcases h.turn with ⟨_,e⟩ | ⟨h1,h2,h3,h4⟩
 ·omega
 ·have hn:w≠[]:=fun z=>by rw[z]at h2;simp at h2;omega
  exact h4 j j1 j2 ((gi hn (by omega)).mpr hp)
theorem SW.Xa {y w:List Nat} (hy:Yd y) (h:SW y w):yK w:=DT fun k a b ha hb e=>by
 have Ji:b∈y:=h.bO b (UQ hb)
 have:=h.Gd k a b ha hb
 rw[e,aF (hy.lt b Ji)]at this
 exact this rfl
theorem SW.core {y w:List Nat} (hy:Yd y) (h:SW y w):My.core (My.red w)=w:=by
 rw[DR (h.Xa hy)]
 by_cases z:w.length<2
 ·exact hZ z
 ·obtain ⟨a,m,e,hw⟩:=DU (l:=w) (by omega)
  have h0:=oN h.ne
  have h1:=uq h.ne
  have hr:=h.red 0
  rw[show (0:Int) - 1= -1 by omega]at hr
  rw[hw]at h0 h1 hr ⊢
  have e0:a=My.rd (a::(m++[e])) 0:=Zc h0
  have e1:e=My.rd (a::(m++[e])) (-1):=by
   have:(a::(m++[e])).getLast? =some e:=by rw[<-Qdl,List.getLast?_append];rfl
   exact Zc (this.symm.trans h1)
  exact mH (by rw[<-e0, <-e1]at hr;exact hr)
theorem ur {w:List Nat} {k:Nat} (hk:k<=w.length) (i:Nat):Fw (g7 w k) i=Fw w (i+k):=by
 by_cases z:w=[]
 ·subst z
  unfold Fw g7
  simp
 ·have hp:0<w.length:=Ww.mpr z
  have e:Fw (g7 w k) i=(g7 w k)[i%w.length]?:= by unfold Fw;rw[cC]
  rw[e,oM hk (Qbk _ hp),DW]
theorem An {w:List Nat} {k s:Nat} (hk:k<=w.length) (hn:w≠[]):xO (g7 w k) s↔xO w s:=by
 constructor
 ·intro h i
  have h1:=h (i+(w.length - k))
  rw[ur hk,ur hk]at h1
  have e1:i+(w.length - k)+s+k=i+s+w.length:=by omega
  have e2:i+(w.length - k)+k=i+w.length:=by omega
  rw[e1,e2,xO.whole w,xO.whole w]at h1
  exact h1
 ·intro h i
  rw[ur hk,ur hk,show i+s+k=i+k+s by omega]
  exact h _
theorem sP {w:List Nat} (hn:w≠[]) {s:Nat} (h:bS w s):kH w s:=by
 obtain ⟨k,r,_,g⟩:=pZ hn
 rw[jJ h g]
 exact g
theorem D6 {w:List Nat} {k s:Nat} (hk:k<=w.length) (hn:w≠[]) (h:kH (g7 w k) s):kH w s:=by
 have vP:g7 w k≠[]:=fun z=>hn (Qae.mp (by have:=cC w k;rw[z]at this;exact this.symm))
 rcases h with ⟨z,_⟩ | ⟨h1,h2,h3,h4⟩
 ·exact absurd z vP
 ·rw[cC]at h2
  refine .inr ⟨h1,h2,(gi hn h2).mpr ((An hk hn).mp ((gi vP (by rw[cC];exact h2)).mp h3)),fun j j1 j2 j3=>h4 j j1 j2 ?_⟩
  exact (gi vP (by rw[cC];omega)).mpr ((An hk hn).mpr ((gi hn (by omega)).mp j3))
theorem BZ {y w:List Nat} {s t:Nat} (hy:Yd y) (h:SW y w) (hr:bS (dP w) s) (hw:bS w t):s=t/\(dP w).length=w.length:=by
 have e:dP w=fF w:=by unfold dP;rw[h.core hy]
 obtain ⟨k,ek⟩:=sL w
 have yz: ∃k,k<=w.length/\fF w=g7 w k:=by
  by_cases z:k<=w.length
  ·exact ⟨k,z,ek⟩
  ·refine ⟨w.length,UP _,?_⟩
   rw[ek]
   unfold g7
   rw[Qai (by omega),Zq (by omega),List.drop_length,ZX]
 obtain ⟨k,hk,ek⟩:=yz
 rw[e,ek]at hr ⊢
 have vP:g7 w k≠[]:=fun z=>h.ne (Qae.mp (by have:=cC w k;rw[z]at this;exact this.symm))
 refine ⟨?_,cC w k⟩
 exact (jJ hw (D6 hk h.ne (sP vP hr))).symm
theorem Ao {w:List Nat} (hn:w≠[]): ∃s,bS w s:=by
 obtain ⟨k,r,_,g⟩:=pZ hn
 rcases g with ⟨z,_⟩ | ⟨h1,h2,h3,h4⟩
 ·exact absurd z hn
 ·exact ⟨k, .inr ⟨h1,h2,sM hn h1 h2 h3 h4,fun j j1 j2 j3=>h4 j j1 j2 (uk j1 (by omega) j3)⟩⟩
theorem D7 {w:List Nat} {s t:Nat} (hn:w≠[]) (h:bS w s) (g:bS w t):s=t:=jJ h (sP hn g)
structure Q_ (y:List Nat) (ws:List (List Nat)):Prop where
 sw: ∀w∈ws,SW y w/\w.length<=12
 xN:ws.length<=4
 all:(places ws).length<=24
theorem getD_at {ws:List (List Nat)} {c:Nat} (h:c<ws.length):(g6 ws)[c]? =some (V.str (S (ws.getD c []))):=by
 rw[jd h,Wy,Kq h];rfl
theorem getD_in {ws:List (List Nat)} {c:Nat} (h:c<ws.length):ws.getD c []∈ws:=by
 rw[Wy,Kq h];exact ZF h
def jj (_:PySem.W.Frag):Sp:=fun vs H Q _=> ∃(w:List Nat) (i:Nat),vs=[.str (S w), .int i]/\(∀c∈w,Lt c)/\w.length<=1000/\i<w.length/\ ∀q H',H q=none->H' q=some (.tup [.str (S [az (rd w ((i:Int) - 1))]), .str (S [rd w i])])->ak H H'->Q (.ref q) H'
theorem nZ {K:PySem.W.Frag} {vs:List V} {H:Hp} {Q:VK} {E:XK} (h:jj K vs H Q E):vs.length=2:=by obtain ⟨_,_,rfl,_⟩:=h;rfl
def sQ (_:PySem.W.Frag):Sp:=fun vs H Q _=> ∃(b:Addr) (y:List Nat) (top:Nat),vs=[.ref b, .str (S y), .int top]/\bG H b/\Yd y/\2<=y.length/\y.length<=8/\1<=top/\top<=100/\ ∀(w:List Nat) H',SW y w->w.length<=top->bG H' b->aN b H H'->Q (.str (S w)) H'
theorem yO {K:PySem.W.Frag} {vs:List V} {H:Hp} {Q:VK} {E:XK} (h:sQ K vs H Q E):vs.length=3:=by obtain ⟨_,_,_,rfl,_⟩:=h;rfl
def wQ (_:PySem.W.Frag):Sp:=fun vs H Q _=> ∃(b:Addr) (y w:List Nat) (top:Nat),vs=[.ref b, .str (S y), .str (S w), .int top]/\bG H b/\Yd y/\2<=y.length/\y.length<=8/\1<=top/\top<=100/\SW y w/\w.length<=top/\ ∀(u:List Nat) H',SW y u->u.length<=top->bG H' b->aN b H H'->Q (.str (S u)) H'
theorem B2 {K:PySem.W.Frag} {vs:List V} {H:Hp} {Q:VK} {E:XK} (h:wQ K vs H Q E):vs.length=4:=by obtain ⟨_,_,_,_,rfl,_⟩:=h;rfl
theorem Ap {ws:List (List Nat)} {m:Nat} (h: ∀w∈ws,w.length<=m): ∀n:Nat,n<=ws.length->(CL ws n).length<=n*m
 | 0,_=>Zg _
 | n+1,hn=>by
  unfold CL
  have:=Ap h n (by omega)
  have h2:=h _ (getD_in (ws:=ws) (c:=n) (by omega))
  rw[UO,QW,Qba,Qcm]
  omega
theorem D8 {α:Type} (w:List α):cut w none (some (-1))=w.take (w.length - 1):=by
 unfold cut
 rw[HT.kW,K9]
 simp
structure Wd (y w:List Nat):Prop where
 Gd:BX w
 bO: ∀c∈w,c∈y
theorem Wd.more {y w:List Nat} {c:Nat} (h:Wd y w) (hc:c∈y) (hn:w≠[]->c≠az (rd w (-1))):Wd y (w++[c]):=
 ⟨h.Gd.snoc fun a ha=>by
  have dR:w≠[]:=fun z=>by rw[z]at ha;simp at ha
  rw[uq dR]at ha
  rw[<-Zc ha]
  exact hn dR,fun a ha=>by
  rcases Zh.mp ha with g | g
  ·exact h.bO a g
  ·rw[Wv.mp g];exact hc⟩
theorem Wd.sw {y w:List Nat} (h:Wd y w) (dR:w≠[]) (he:rd w 0≠az (rd w (-1))):SW y w:=
 SW.of dR h.bO h.Gd fun a b ha hb=>by
  rw[oN dR]at ha
  rw[uq dR]at hb
  rw[<-Zc ha, <-Zc hb]
  exact he
theorem Wd.one {y w:List Nat} (hy:Yd y) (h:Wd y w) (h1:w.length=1):SW y w:=by
 have dR:w≠[]:=fun z=>by rw[z]at h1;simp at h1
 refine h.sw dR ?_
 have e:rd w 0=rd w (-1):=by
  have:=h_ w (-1)
  rw[h1]at this
  exact this
 rw[<-e]
 exact fun q=>dG (hy.lt _ (h.bO _ (jg dR 0))) q.symm
theorem uv {y w u:List Nat} (hw:SW y w) (hu:SW y u) (lw:w.length<=12) (lu:u.length<=12):Q_ y [w,u]:=by
 refine ⟨fun x hx=>?_,by show 2<=4;decide,?_⟩
 ·rcases Wz.mp hx with g | g
  ·rw[g];exact ⟨hw,lw⟩
  ·rw[Wv.mp g];exact ⟨hu,lu⟩
 ·have:=Ap (ws:=[w,u]) (m:=12) (fun x hx=>by
   rcases Wz.mp hx with g | g
   ·rw[g];exact lw
   ·rw[Wv.mp g];exact lu) 2 (UP _)
  exact this
noncomputable def wR (y:List Nat) (a b:Nat):Int:=((y.idxOf b:Int) - (y.idxOf a:Int))%(y.length:Int)
noncomputable def fP (y:List Nat) (f:Int->Nat) (k:Int):Int:=wR y (az (f (k - 1))) (f k)
structure kg (y:List Nat) (f:Int->Nat):Prop where
 bO: ∀k,f k∈y
 red: ∀k,f k≠az (f (k - 1))
structure Run (f g:Int->Nat) (a b:Nat):Prop where
 q8: ∀k:Int, -(b:Int)<=k->k<=a->f k=g k
 hi:f (a+1)≠g (a+1)
 lo:f (-(b:Int) - 1)≠g (-(b:Int) - 1)
noncomputable def nJ (f:Int->Nat):Int->Nat:=fun k=>az (f (-k))
noncomputable def eM (f:Int->Nat):Int->Nat:=fun k=>f (k - 1)
noncomputable def lK (y:List Nat) (f g:Int->Nat) (a:Nat):Bool:=decide (fP y f (a+1)<fP y g (a+1))
noncomputable def mi (y:List Nat) (f g:Int->Nat) (b:Nat):Bool:=decide (fP y f (-(b:Int))<fP y g (-(b:Int)))
noncomputable def vz (x a b:Nat):Bool:=decide (b<a\/(a=b/\aA x=false))
noncomputable def yP (y:List Nat) (f g:Int->Nat) (a b:Nat):Bool:=if vz (f 0) a b=true then mi y f g b else lK y f g a
theorem Run.one {f g:Int->Nat} {a b a' b':Nat} (h:Run f g a b) (h':Run f g a' b'):a=a'/\b=b':=by
 constructor
 ·by_cases z:a<a'
  ·exact absurd (h'.q8 (a+1) (by omega) (by omega)) h.hi
  ·by_cases z2:a'<a
   ·exact absurd (h.q8 (a'+1) (by omega) (by omega)) h'.hi
   ·omega
 ·by_cases z:b<b'
  ·exact absurd (h'.q8 (-(b:Int) - 1) (by omega) (by omega)) h.lo
  ·by_cases z2:b'<b
   ·exact absurd (h.q8 (-(b':Int) - 1) (by omega) (by omega)) h'.lo
   ·omega
theorem Run.bk {f g:Int->Nat} {a b:Nat} (h:Run f g a (b+1)):Run (eM f) (eM g) (a+1) b:=
 ⟨fun k h1 h2=>h.q8 (k - 1) (by omega) (by omega),fun z=>h.hi (by
  unfold eM at z
  rwa [show ((a+1:Nat):Int)+1 - 1=a+1 by omega]at z),fun z=>h.lo (by
  unfold eM at z
  rwa [show -(b:Int) - 1 - 1= -((b+1:Nat):Int) - 1 by omega]at z)⟩
theorem Run.fd {f g:Int->Nat} {a b:Nat} (h:Run (eM f) (eM g) (a+1) b):Run f g a (b+1):=
 ⟨fun k h1 h2=>by
  have:=h.q8 (k+1) (by omega) (by omega)
  unfold eM at this
  rwa [show k+1 - 1=k by omega]at this,fun z=>h.hi (by
  unfold eM
  rwa [show ((a+1:Nat):Int)+1 - 1=a+1 by omega]),fun z=>h.lo (by
  unfold eM
  rwa [show -(b:Int) - 1 - 1= -((b+1:Nat):Int) - 1 by omega])⟩
theorem oO (y:List Nat) (f:Int->Nat) (k:Int):fP y (eM f) k=fP y f (k - 1):=rfl
theorem uw (y:List Nat) (f g:Int->Nat) (a:Nat):lK y (eM f) (eM g) (a+1)=lK y f g a:=by
 unfold lK
 rw[oO,oO,show ((a+1:Nat):Int)+1 - 1=a+1 by omega]
theorem uA (y:List Nat) (f g:Int->Nat) (b:Nat):mi y (eM f) (eM g) b=mi y f g (b+1):=by
 unfold mi
 rw[oO,oO,show -(b:Int) - 1= -((b+1:Nat):Int) by omega]
theorem D9 {x z a b:Nat} (h:vz x a (b+1)=true):vz z (a+1) b=true:=by
 unfold vz at h ⊢
 have:=of_decide_eq_true h
 exact decide_eq_true (by omega)
theorem eN {y:List Nat} {a b:Nat} (ha:a∈y) (hb:b∈y) (h:a≠b):0<wR y a b/\wR y a b<y.length/\wR y b a=y.length - wR y a b:=by
 have ia:=UR ha
 have ib:=UR hb
 have n:=bC ha hb h
 unfold wR
 rw[je ia ib,je ib ia]
 generalize y.idxOf a=i at*
 generalize y.idxOf b=j at*
 split<;>split<;>omega
theorem lL {y:List Nat} {a b c:Nat} (ha:a∈y) (hb:b∈y) (hc:c∈y) (h:wR y a b=wR y a c):b=c:=by
 have ia:=UR ha
 have ib:=UR hb
 have ic:=UR hc
 refine Classical.byContradiction fun z=>bC hb hc z ?_
 unfold wR at h
 rw[je ia ib,je ia ic]at h
 split at h<;>split at h<;>omega
theorem kg.rv {y:List Nat} {f:Int->Nat} (hy:Yd y) (h:kg y f):kg y (nJ f):=⟨fun k=>hy.cl _ (h.bO _),fun k z=>by
 unfold nJ at z
 have e:=aF (hy.lt _ (h.bO (-(k - 1))))
 rw[e]at z
 have:=h.red (-(k - 1))
 rw[show -(k - 1) - 1= -k by omega]at this
 exact this z.symm⟩
theorem wU {y:List Nat} {f:Int->Nat} (hy:Yd y) (h:kg y f):nJ (nJ f)=f:=by
 funext k
 unfold nJ
 rw[aF (hy.lt _ (h.bO _)),Int.neg_neg]
theorem uC {y:List Nat} {f:Int->Nat} (hy:Yd y) (h:kg y f) (k:Int):fP y (nJ f) (k+1)=y.length - fP y f (-k):=by
 unfold fP nJ
 rw[show k+1 - 1=k by omega,aF (hy.lt _ (h.bO _)),show -(k+1)= -k - 1 by omega]
 exact (eN (hy.cl _ (h.bO _)) (h.bO _) (Ne.symm (h.red _))).2.2
theorem Run.rv {y:List Nat} {f g:Int->Nat} {a b:Nat} (hy:Yd y) (hf:kg y f) (hg:kg y g) (h:Run f g a b):Run (nJ f) (nJ g) b a:=
 ⟨fun k h1 h2=>by unfold nJ;rw[h.q8 _ (by omega) (by omega)],fun z=>h.lo (by
  unfold nJ at z
  have:=dA (hy.lt _ (hf.bO _)) (hy.lt _ (hg.bO _)) z
  rwa [show -((b:Int)+1)= -(b:Int) - 1 by omega]at this),fun z=>h.hi (by
  unfold nJ at z
  have:=dA (hy.lt _ (hf.bO _)) (hy.lt _ (hg.bO _)) z
  rwa [show -(-(a:Int) - 1)=a+1 by omega]at this)⟩
theorem dc: ∀c∈aQ++jb,aA (az c)=!aA c:=by decide+kernel
theorem Ld {y:List Nat} {f g:Int->Nat} {a b:Nat} (hy:Yd y) (hf:kg y f) (hg:kg y g) (h0:f 0=g 0):yP y (nJ g) (nJ f) b a=yP y f g a b:=by
 have e1:mi y (nJ g) (nJ f) a=lK y f g a:=by
  unfold mi lK
  have h1:=uC hy hf (-(a:Int) - 1)
  have h2:=uC hy hg (-(a:Int) - 1)
  rw[show -(a:Int) - 1+1= -a by omega,show -(-(a:Int) - 1)=a+1 by omega]at h1 h2
  rw[h1,h2]
  exact decide_eq_decide.mpr (by omega)
 have e2:lK y (nJ g) (nJ f) b=mi y f g b:=by
  unfold mi lK
  rw[uC hy hf,uC hy hg]
  exact decide_eq_decide.mpr (by omega)
 unfold yP
 rw[e1,e2]
 have e3:vz (nJ g 0) b a=!vz (f 0) a b:=by
  unfold vz nJ
  rw[show (-0:Int)=0 from rfl, <-h0,dc _ (hy.lt _ (hf.bO 0)).mem]
  rw[<-decide_not]
  refine decide_eq_decide.mpr ?_
  cases aA (f 0)
  ·simp;omega
  ·simp;omega
 rw[e3]
 cases vz (f 0) a b<;>rfl
def uB (y:List Nat) (f g:Int->Nat):Prop:= ∃a b,Run f g a b/\vz (f 0) a b=true/\lK y f g a≠mi y f g b
def xP (y:List Nat) (f g:Int->Nat):Prop:= ∃a,Run f g a 0/\lK y f g a≠mi y f g 0
open Classical in
noncomputable def one (p:Prop):Int:=if p then 1 else 0
theorem gj {p:Prop} (h:p):one p=1:=by unfold one;rw[if_pos h]
theorem bH {p:Prop} (h: ¬p):one p=0:=by unfold one;rw[if_neg h]
theorem cD {p q:Prop} (h:p↔q):one p=one q:=by rw[propext h]
theorem Run.zero {f g:Int->Nat} {a b:Nat} (h:Run f g a b):f 0=g 0:=h.q8 0 (by omega) (by omega)
theorem D_ {y:List Nat} {f g:Int->Nat} {e0 e1:Bool} {m:Prop}
  (r0:f 0=g 0-> ∃a b,Run f g a b) (r1:f (-1)=g (-1)-> ∃a b,Run (eM f) (eM g) a b)
  (h0: ∀a b,Run f g a b->e0=yP y f g a b) (h1: ∀a b,Run (eM f) (eM g) a b->e1=yP y (eM f) (eM g) a b)
  (ma:f 0=g 0->f (-1)≠g (-1)->(m↔e0≠mi y f g 0)) (mb:f (-1)=g (-1)->f 0≠g 0->(m↔e1≠lK y (eM f) (eM g) 0)) (mc:f (-1)=g (-1)->f 0=g 0->(m↔e1≠e0))
  (t:f 0=g 0\/f (-1)=g (-1)):one m=one (xP y f g)+one (uB y (eM f) (eM g)) - one (uB y f g):=by
 have hb: ∀{a b},Run (eM f) (eM g) a b->f (-1)=g (-1):=fun h=>h.zero
 by_cases z0:f 0=g 0
 ·obtain ⟨a,b,r⟩:=r0 z0
  have e:=h0 a b r
  unfold yP at e
  have hu:uB y f g↔(vz (f 0) a b=true/\lK y f g a≠mi y f g b):=⟨fun ⟨a',b',r',x⟩=>by obtain ⟨rfl,rfl⟩:=r.one r';exact x,fun x=>⟨a,b,r,x⟩⟩
  by_cases z1:f (-1)=g (-1)
  ·cases b with
   | zero=>exact absurd z1 r.lo
   | succ b=>
    have r2:=r.bk
    have e2:=h1 _ _ r2
    unfold yP at e2
    have Le:uB y (eM f) (eM g)↔(vz (eM f 0) (a+1) b=true/\lK y f g a≠mi y f g (b+1)):=⟨fun ⟨a',b',r',x⟩=>by
     obtain ⟨rfl,rfl⟩:=r2.one r'
     rw[uw,uA]at x;exact x,fun x=>⟨_,_,r2,by rw[uw,uA];exact x⟩⟩
    rw[uw,uA]at e2
    have PU: ¬xP y f g:=fun ⟨a',r',_⟩=>absurd (r.one r').2 (Nat.succ_ne_zero b)
    rw[bH PU,cD hu,cD Le,cD (mc z1 z0),e,e2]
    have mono:= @D9 (f 0) (eM f 0) a b
    generalize vz (f 0) a (b+1)=B0 at*
    generalize vz (eM f 0) (a+1) b=B1 at*
    generalize lK y f g a=A at*
    generalize mi y f g (b+1)=C at*
    revert mono
    cases B0<;>cases B1<;>cases A<;>cases C<;>simp[one]
  ·have b0:b=0:=by
    cases b with
    | zero=>rfl
    | succ b=>exact absurd (r.q8 (-1) (by omega) (by omega)) z1
   subst b0
   have Le: ¬uB y (eM f) (eM g):=fun ⟨_,_,r',_⟩=>z1 (hb r')
   have PU:xP y f g↔lK y f g a≠mi y f g 0:=⟨fun ⟨a',r',x⟩=>by obtain ⟨rfl,_⟩:=r.one r';exact x,fun x=>⟨a,r,x⟩⟩
   rw[bH Le,cD PU,cD hu,cD (ma z0 z1),e]
   generalize vz (f 0) a 0=B0 at*
   generalize lK y f g a=A at*
   generalize mi y f g 0=C at*
   cases B0<;>cases A<;>cases C<;>simp[one]
 ·have z1:=t.resolve_left z0
  obtain ⟨a,b,r⟩:=r1 z1
  have a0:a=0:=by
   cases a with
   | zero=>rfl
   | succ a=>exact absurd (r.fd.zero) z0
  subst a0
  have e:=h1 _ _ r
  unfold yP at e
  have Xb: ¬uB y f g:=fun ⟨_,_,r',_⟩=>z0 r'.zero
  have PU: ¬xP y f g:=fun ⟨_,r',_⟩=>z0 r'.zero
  have Le:uB y (eM f) (eM g)↔(vz (eM f 0) 0 b=true/\lK y (eM f) (eM g) 0≠mi y (eM f) (eM g) b):=⟨fun ⟨a',b',r',x⟩=>by
   obtain ⟨rfl,rfl⟩:=r.one r';exact x,fun x=>⟨_,_,r,x⟩⟩
  rw[bH Xb,bH PU,cD Le,cD (mb z1 z0),e]
  generalize vz (eM f 0) 0 b=B0 at*
  generalize lK y (eM f) (eM g) 0=A at*
  generalize mi y (eM f) (eM g) b=C at*
  cases B0<;>cases A<;>cases C<;>simp[one]
theorem dv {f g:Int->Nat} {p q:Nat} (hp:0<p) (hq:0<q) (Pf: ∀k,f (k+p)=f k) (Pg: ∀k,g (k+q)=g k) (h0:f 0=g 0) (hn: ∃k,f k≠g k): ∃a b,Run f g a b/\a<p+q/\b<p+q:=by
 obtain ⟨k0,Vc⟩:=hn
 have up: ∃a:Nat,a<p+q/\(∀j:Nat,j<a->f (j+1)=g (j+1))/\f (a+1)≠g (a+1):=by
  obtain ⟨_,b,c,d⟩:=jh (fun k=>f (k+1)) (fun k=>g (k+1)) (p+q) 0
  by_cases z:q0 (fun k=>f (k+1)) (fun k=>g (k+1)) (p+q) 0<p+q
  ·exact ⟨_,z,fun j hj=>c j (Zg _) hj,d (by omega)⟩
  ·refine absurd ?_ Vc
   have:=fw (f:=fun k=>f (k+1)) (g:=fun k=>g (k+1)) hp hq (fun k=>by rw[show k+(p:Int)+1=k+1+p by omega];exact Pf _) (fun k=>by rw[show k+(q:Int)+1=k+1+q by omega];exact Pg _) (fun n hn=>c n (Zg _) (by omega)) (k0 - 1)
   rwa [show k0 - 1+1=k0 by omega]at this
 have Xc: ∀k,f (-(k+p))=f (-k):=fun k=>by have:=Pf (-(k+p));rw[<-this];congr 1;omega
 have Xd: ∀k,g (-(k+q))=g (-k):=fun k=>by have:=Pg (-(k+q));rw[<-this];congr 1;omega
 have dn: ∃a:Nat,a<p+q/\(∀j:Nat,j<a->f (-(j:Int) - 1)=g (-(j:Int) - 1))/\f (-(a:Int) - 1)≠g (-(a:Int) - 1):=by
  obtain ⟨_,b,c,d⟩:=jh (fun k=>f (-k - 1)) (fun k=>g (-k - 1)) (p+q) 0
  by_cases z:q0 (fun k=>f (-k - 1)) (fun k=>g (-k - 1)) (p+q) 0<p+q
  ·exact ⟨_,z,fun j hj=>c j (Zg _) hj,d (by omega)⟩
  ·refine absurd ?_ Vc
   have:=fw (f:=fun k=>f (-k - 1)) (g:=fun k=>g (-k - 1)) hp hq (fun k=>by have:=Xc (k+1);rw[show -(k+(p:Int)) - 1= -(k+1+p) by omega,this];congr 1;omega) (fun k=>by have:=Xd (k+1);rw[show -(k+(q:Int)) - 1= -(k+1+q) by omega,this];congr 1;omega) (fun n hn=>c n (Zg _) (by omega)) (-k0 - 1)
   rwa [show -(-k0 - 1) - 1=k0 by omega]at this
 obtain ⟨a,ha,a1,a2⟩:=up
 obtain ⟨b,hb,b1,b2⟩:=dn
 refine ⟨a,b,⟨fun k h1 h2=>?_,a2,b2⟩,ha,hb⟩
 by_cases z:k=0
 ·rw[z];exact h0
 ·by_cases z2:0<k
  ·obtain ⟨j,rfl⟩: ∃j:Nat,k=j+1:=⟨(k - 1).toNat,by omega⟩
   exact a1 j (by omega)
  ·obtain ⟨j,rfl⟩: ∃j:Nat,k= -(j:Int) - 1:=⟨(-k - 1).toNat,by omega⟩
   exact b1 j (by omega)
theorem Ea {y:List Nat} {p p' x:Nat} (hy:Yd y) (hp:p∈y) (yQ:p'∈y) (hx:x∈y) (h1:p≠p') (h2:p≠x) (h3:p'≠x):decide (wR y p x<wR y p' x)=!gr y p p' x:=by
 have ip:=UR hp
 have Xe:=UR yQ
 have ix:=UR hx
 have n1:=bC hp yQ h1
 have n2:=bC hp hx h2
 have n3:=bC yQ hx h3
 rw[fA hy.nd hp yQ hx h1 h2 h3]
 unfold wR
 rw[je ip ix,je Xe ix, <-decide_not]
 refine decide_eq_decide.mpr ?_
 unfold iK
 split<;>split<;>omega
theorem Eb {y:List Nat} {f g:Int->Nat} (hy:Yd y) (hf:kg y f) (hg:kg y g) (h0:f 0=g 0) (h1:f (-1)≠g (-1)):mi y f g 0=!gr y (az (f (-1))) (az (g (-1))) (f 0):=by
 have e:mi y f g 0=decide (wR y (az (f (-1))) (f 0)<wR y (az (g (-1))) (g 0)):=rfl
 rw[e, <-h0]
 have r1:=hf.red 0
 have r2:=hg.red 0
 rw[show (0:Int) - 1= -1 by omega]at r1 r2
 exact Ea hy (hy.cl _ (hf.bO _)) (hy.cl _ (hg.bO _)) (hf.bO 0) (fun z=>h1 (dA (hy.lt _ (hf.bO _)) (hy.lt _ (hg.bO _)) z)) (Ne.symm r1) (by rw[h0];exact Ne.symm r2)
theorem Ec {y:List Nat} {f g:Int->Nat} {a:Nat} (h:f a=g a):lK y f g a=gr y (az (f a)) (f (a+1)) (g (a+1)):=by
 unfold lK fP
 rw[show (a:Int)+1 - 1=a by omega, <-h]
 rfl
theorem Aq {y:List Nat} {f g:Int->Nat} {n:Nat} (hy:Yd y) (hf:kg y f) (hg:kg y g) (hd:f (-1)≠g (-1)->q0 f g n 0<n/\f (q0 f g n 0)≠g (q0 f g n 0)):xP y f g↔0<al y f g n:=by
 unfold al
 by_cases z:f 0≠g 0\/f (-1)=g (-1)
 ·rw[if_pos z]
  refine ⟨fun ⟨a,r,_⟩=>?_,fun h=>absurd h (ZW _)⟩
  rcases z with z | z
  ·exact absurd r.zero z
  ·exact absurd z r.lo
 ·rw[if_neg z]
  have z0:f 0=g 0:=Classical.byContradiction fun q=>z (.inl q)
  have z1:f (-1)≠g (-1):=fun q=>z (.inr q)
  obtain ⟨d1,d2⟩:=hd z1
  obtain ⟨_,_,d3,_⟩:=jh f g n 0
  generalize q0 f g n 0=D at*
  cases D with
  | zero=>exact absurd z0 d2
  | succ a=>
   have r:Run f g a 0:=⟨fun k h1 h2=>by
    obtain ⟨j,rfl⟩: ∃j:Nat,k=j:=⟨k.toNat,by omega⟩
    exact d3 j (Zg _) (by omega),d2,z1⟩
   have e1:((a+1:Nat):Int)=(a:Int)+1:=by omega
   rw[e1,show (a:Int)+1 - 1=a by omega]
   have Ra:=d3 a (Zg _) (Qad a)
   have rf:=hf.red (a+1)
   have rg:=hg.red (a+1)
   rw[show (a:Int)+1 - 1=a by omega]at rf rg
   have Xf:f (a+1)≠g (a+1):=d2
   have eg:=Ho hy.nd (hy.cl _ (hf.bO a)) (hf.bO (a+1)) (hg.bO (a+1)) (Ne.symm rf) (by rw[Ra];exact Ne.symm rg) Xf
   rw[eg, <-Ec Ra]
   have eb:=Eb hy hf hg z0 z1
   have key:xP y f g↔lK y f g a≠mi y f g 0:=⟨fun ⟨a',r',x⟩=>by obtain ⟨rfl,_⟩:=r.one r';exact x,fun x=>⟨a,r,x⟩⟩
   rw[key,eb]
   generalize gr y (az (f (-1))) (az (g (-1))) (f 0)=G
   generalize lK y f g a=A
   cases G<;>cases A<;>simp
noncomputable def oP (a b a' b':Nat):Bool:=decide (iK a a' b) != decide (iK a b' b)
theorem jk (a b a' b':Nat):oP a b a' b'=oP a b b' a':=by unfold oP;generalize decide (iK a a' b)=p;generalize decide (iK a b' b)=q;cases p<;>cases q<;>rfl
theorem gk {a b:Nat} (h:a≠b):decide (b<a)=!decide (a<b):=by
 rcases Qam h with q | q
 ·rw[decide_eq_true q,decide_eq_false (Qbz q)];rfl
 ·rw[decide_eq_true q,decide_eq_false (Qbz q)];rfl
theorem Jj {a b c:Nat} (h1:a≠b) (h2:b≠c) (h3:a≠c):decide (iK a b c)=!(decide (a<b) ^^ (decide (b<c) ^^ decide (c<a))):=by
 have e:decide (iK a b c)=((decide (a<b)&&decide (b<c))||((decide (b<c)&&decide (c<a))||(decide (c<a)&&decide (a<b)))):=by
  rw[<-Qbx, <-Qbx, <-Qbx, <-Bool.decide_or, <-Bool.decide_or]
  exact decide_eq_decide.mpr Iff.rfl
 rw[e]
 have k1:decide (a<b)=true->decide (b<c)=true->decide (c<a)=true->False:=fun p q r=>Qbz (Qby (of_decide_eq_true p) (of_decide_eq_true q)) (of_decide_eq_true r)
 have k2:decide (b<a)=true->decide (c<b)=true->decide (a<c)=true->False:=fun p q r=>Qbz (Qby (of_decide_eq_true q) (of_decide_eq_true p)) (of_decide_eq_true r)
 rw[gk h1,gk h2,gk (Ne.symm h3)]at k2
 revert k1 k2
 generalize decide (a<b)=p
 generalize decide (b<c)=q
 generalize decide (c<a)=r
 revert p q r
 decide
theorem Ar {a b a' b':Nat} (h1:a≠b) (h3:a≠a') (h4:a≠b') (h5:b≠a') (h6:b≠b'):oP a b a' b'=((decide (a<a') ^^ decide (a'<b)) ^^ (decide (a<b') ^^ decide (b'<b))):=by
 unfold oP
 rw[Jj h3 (Ne.symm h5) h1,Jj h4 (Ne.symm h6) h1]
 generalize decide (a<a')=p
 generalize decide (a'<b)=q
 generalize decide (a<b')=r
 generalize decide (b'<b)=s
 generalize decide (b<a)=t
 revert p q r s t
 decide
theorem uD {a b a' b':Nat} (h1:a≠b) (h2:a'≠b') (h3:a≠a') (h4:a≠b') (h5:b≠a') (h6:b≠b'):oP a b a' b'=oP a' b' a b:=by
 rw[Ar h1 h3 h4 h5 h6,Ar h2 (Ne.symm h3) (Ne.symm h5) (Ne.symm h4) (Ne.symm h6),gk h3,gk (Ne.symm h6)]
 generalize decide (a<a')=p
 generalize decide (a'<b)=q
 generalize decide (a<b')=r
 generalize decide (b'<b)=s
 revert p q r s
 decide
theorem wV {a b a' b':Nat} (h1:a≠b) (h2:a'≠b') (h3:a≠a') (h4:a≠b') (h5:b≠a') (h6:b≠b'):oP b a a' b'=oP a b a' b':=by
 rw[uD (Ne.symm h1) h2 h5 h6 h3 h4,jk,uD h2 h1 (Ne.symm h3) (Ne.symm h5) (Ne.symm h4) (Ne.symm h6)]
theorem Hr {a b c i j k:Nat} (n1:i≠j) (n2:i≠k) (n3:j≠k) (h1:i<j->a<b) (h2:j<i->b<a) (h3:i<k->a<c) (h4:k<i->c<a) (h5:j<k->b<c) (h6:k<j->c<b):iK a b c↔iK i j k:=by
 have e: ∀{i j a b:Nat},i≠j->(i<j->a<b)->(j<i->b<a)->(i<j↔a<b):=fun {i j a b} n f g=>⟨f,fun q=>(Qam n).elim id fun r=>absurd (g r) (Qbz q)⟩
 unfold iK
 rw[e n1 h1 h2,e n3 h5 h6,e (Ne.symm n2) h4 h3]
def Sep (y:List Nat) (ps:List (Nat×Nat)):Prop:= ∀p∈ps, ∀q∈ps,y.idxOf p.1<y.idxOf q.1->p.2<q.2
theorem Sep.iK {y:List Nat} {ps:List (Nat×Nat)} (h:Sep y ps) {a b c:Nat×Nat} (ha:a∈ps) (hb:b∈ps) (hc:c∈ps) (n1:y.idxOf a.1≠y.idxOf b.1) (n2:y.idxOf a.1≠y.idxOf c.1) (n3:y.idxOf b.1≠y.idxOf c.1):My.iK a.2 b.2 c.2↔My.iK (y.idxOf a.1) (y.idxOf b.1) (y.idxOf c.1):=Hr n1 n2 n3 (h a ha b hb) (h b hb a ha) (h a ha c hc) (h c hc a ha) (h b hb c hc) (h c hc b hb)
theorem Sep.gr {y:List Nat} {ps:List (Nat×Nat)} (h:Sep y ps) (hn:y.Nodup) {a b c:Nat×Nat} (ha:a∈ps) (hb:b∈ps) (hc:c∈ps) (ya:a.1∈y) (yb:b.1∈y) (yc:c.1∈y) (n1:a.1≠b.1) (n2:a.1≠c.1) (n3:b.1≠c.1):decide (My.iK a.2 b.2 c.2)=My.gr y a.1 b.1 c.1:=by
 rw[fA hn ya yb yc n1 n2 n3]
 exact decide_eq_decide.mpr (h.iK ha hb hc (bC ya yb n1) (bC ya yc n2) (bC yb yc n3))
theorem Sep.same {y:List Nat} {ps:List (Nat×Nat)} (h:Sep y ps) {a b c:Nat×Nat} (ha:a∈ps) (hb:b∈ps) (hc:c∈ps) (e:b.1=c.1) (n:y.idxOf a.1≠y.idxOf c.1):My.iK a.2 b.2 c.2↔b.2<c.2:=by
 have h1:=h a ha b hb
 have h2:=h b hb a ha
 have h3:=h a ha c hc
 have h4:=h c hc a ha
 rw[e]at h1 h2
 unfold My.iK
 omega
theorem Sep.Jk {y:List Nat} {ps:List (Nat×Nat)} (h:Sep y ps) {a b c:Nat×Nat} (ha:a∈ps) (hb:b∈ps) (hc:c∈ps) (e:a.1=b.1) (n:y.idxOf a.1≠y.idxOf c.1):My.iK a.2 b.2 c.2↔a.2<b.2:=by
 have h1:=h b hb c hc
 have h2:=h c hc b hb
 have h3:=h a ha c hc
 have h4:=h c hc a ha
 rw[<-e]at h1 h2
 unfold My.iK
 omega
section
variable {y:List Nat} {f g:Int->Nat} {a b a' b':Nat}
theorem Lf (hy:Yd y) (hf:kg y f) (hg:kg y g) (h:Sep y [(az (f (-1)),a),(f 0,b),(az (g (-1)),a'),(g 0,b')]) (hb:b≠b') (z0:f 0=g 0) (z1:f (-1)≠g (-1)):oP a b a' b'=true↔decide (b<b')≠mi y f g 0:=by
 have r1:=hf.red 0
 have r2:=hg.red 0
 rw[show (0:Int) - 1= -1 by omega]at r1 r2
 have ya:=hy.cl _ (hf.bO (-1))
 have Rb:=hy.cl _ (hg.bO (-1))
 have n1:az (f (-1))≠az (g (-1)):=fun z=>z1 (dA (hy.lt _ (hf.bO _)) (hy.lt _ (hg.bO _)) z)
 have e1:=h.gr hy.nd (a:=(az (f (-1)),a)) (b:=(az (g (-1)),a')) (c:=(f 0,b)) (by simp) (by simp) (by simp) ya Rb (hf.bO 0) n1 (Ne.symm r1) (by rw[z0];exact Ne.symm r2)
 have e2:=h.same (a:=(az (f (-1)),a)) (b:=(g 0,b')) (c:=(f 0,b)) (by simp) (by simp) (by simp) z0.symm (bC ya (hf.bO 0) (Ne.symm r1))
 unfold oP
 rw[Eb hy hf hg z0 z1]
 simp only at e1 e2
 rw[e1]
 generalize gr y (az (f (-1))) (az (g (-1))) (f 0)=G
 by_cases q:b<b'
 ·rw[decide_eq_true q,decide_eq_false (by rw[e2];omega)]
  cases G<;>simp
 ·rw[decide_eq_false q,decide_eq_true (by rw[e2];omega)]
  cases G<;>simp
theorem Lg (hy:Yd y) (hf:kg y f) (hg:kg y g) (h:Sep y [(az (f (-1)),a),(f 0,b),(az (g (-1)),a'),(g 0,b')]) (ha:a≠a') (z1:f (-1)=g (-1)) (z0:f 0≠g 0):oP a b a' b'=true↔decide (a'<a)≠lK y (eM f) (eM g) 0:=by
 have r1:=hf.red 0
 have r2:=hg.red 0
 rw[show (0:Int) - 1= -1 by omega]at r1 r2
 have ya:=hy.cl _ (hf.bO (-1))
 have Rb:=hy.cl _ (hg.bO (-1))
 have e1:=h.Jk (a:=(az (f (-1)),a)) (b:=(az (g (-1)),a')) (c:=(f 0,b)) (by simp) (by simp) (by simp) (by show az _=az _;rw[z1]) (bC ya (hf.bO 0) (Ne.symm r1))
 have e2:=h.gr hy.nd (a:=(az (f (-1)),a)) (b:=(g 0,b')) (c:=(f 0,b)) (by simp) (by simp) (by simp) ya (hg.bO 0) (hf.bO 0) (by show az _≠_;rw[z1];exact Ne.symm r2) (Ne.symm r1) (Ne.symm z0)
 have e3:lK y (eM f) (eM g) 0=gr y (az (f (-1))) (f 0) (g 0):=Ec (f:=eM f) (g:=eM g) (a:=0) z1
 have e4:=La hy.nd ya (hf.bO 0) (hg.bO 0) (Ne.symm r1) (by rw[z1];exact Ne.symm r2) z0
 unfold oP
 simp only at e1 e2
 rw[e3,e2,e4]
 generalize gr y (az (f (-1))) (f 0) (g 0)=G
 by_cases q:a'<a
 ·rw[decide_eq_true q,decide_eq_false (by rw[e1];omega)]
  cases G<;>simp
 ·rw[decide_eq_false q,decide_eq_true (by rw[e1];omega)]
  cases G<;>simp
theorem yR (hy:Yd y) (hf:kg y f) (hg:kg y g) (h:Sep y [(az (f (-1)),a),(f 0,b),(az (g (-1)),a'),(g 0,b')]) (ha:a≠a') (hb:b≠b') (z1:f (-1)=g (-1)) (z0:f 0=g 0):oP a b a' b'=true↔decide (a'<a)≠decide (b<b'):=by
 have r1:=hf.red 0
 rw[show (0:Int) - 1= -1 by omega]at r1
 have ya:=hy.cl _ (hf.bO (-1))
 have e1:=h.Jk (a:=(az (f (-1)),a)) (b:=(az (g (-1)),a')) (c:=(f 0,b)) (by simp) (by simp) (by simp) (by show az _=az _;rw[z1]) (bC ya (hf.bO 0) (Ne.symm r1))
 have e2:=h.same (a:=(az (f (-1)),a)) (b:=(g 0,b')) (c:=(f 0,b)) (by simp) (by simp) (by simp) z0.symm (bC ya (hf.bO 0) (Ne.symm r1))
 unfold oP
 simp only at e1 e2
 rw[decide_eq_decide.mpr e1,decide_eq_decide.mpr e2]
 by_cases q:a'<a<;>by_cases q2:b<b'
 ·rw[decide_eq_true q,decide_eq_true q2,decide_eq_false (show ¬a<a' by omega),decide_eq_false (show ¬b'<b by omega)];simp
 ·rw[decide_eq_true q,decide_eq_false q2,decide_eq_false (show ¬a<a' by omega),decide_eq_true (show b'<b by omega)];simp
 ·rw[decide_eq_false q,decide_eq_true q2,decide_eq_true (show a<a' by omega),decide_eq_false (show ¬b'<b by omega)];simp
 ·rw[decide_eq_false q,decide_eq_false q2,decide_eq_true (show a<a' by omega),decide_eq_true (show b'<b by omega)];simp
theorem Lh (hy:Yd y) (hf:kg y f) (hg:kg y g) (h:Sep y [(az (f (-1)),a),(f 0,b),(az (g (-1)),a'),(g 0,b')]) (z0:f 0≠g 0) (z1:f (-1)≠g (-1)) (z2:az (f (-1))≠g 0) (z3:az (g (-1))≠f 0):oP a b a' b'=ac y (az (f (-1))) (f 0) (az (g (-1))) (g 0):=by
 have r1:=hf.red 0
 have r2:=hg.red 0
 rw[show (0:Int) - 1= -1 by omega]at r1 r2
 have ya:=hy.cl _ (hf.bO (-1))
 have Rb:=hy.cl _ (hg.bO (-1))
 have n1:az (f (-1))≠az (g (-1)):=fun z=>z1 (dA (hy.lt _ (hf.bO _)) (hy.lt _ (hg.bO _)) z)
 have e1:=h.gr hy.nd (a:=(az (f (-1)),a)) (b:=(az (g (-1)),a')) (c:=(f 0,b)) (by simp) (by simp) (by simp) ya Rb (hf.bO 0) n1 (Ne.symm r1) z3
 have e2:=h.gr hy.nd (a:=(az (f (-1)),a)) (b:=(g 0,b')) (c:=(f 0,b)) (by simp) (by simp) (by simp) ya (hg.bO 0) (hf.bO 0) z2 (Ne.symm r1) (Ne.symm z0)
 unfold oP ac
 simp only at e1 e2
 rw[e1,e2,if_neg (fun q=>q.elim (fun q=>n1 q.symm) fun q=>q.elim z3 fun q=>q.elim (fun q=>z2 q.symm) fun q=>z0 q.symm)]
end
noncomputable def sm:Nat->(Int->Int)->Int
 | 0,_=>0
 | n+1,h=>sm n h+h n
theorem a_ {h g:Int->Int}: ∀{n:Nat},(∀i:Nat,i<n->h i=g i)->sm n h=sm n g
 | 0,_=>rfl
 | n+1,e=>by
  show sm n h+h n=sm n g+g n
  rw[a_ fun i hi=>e i (by omega),e n (by omega)]
theorem yS (h g:Int->Int): ∀n:Nat,sm n (fun i=>h i+g i)=sm n h+sm n g
 | 0=>rfl
 | n+1=>by
  show sm n _+(h n+g n)=(sm n h+h n)+(sm n g+g n)
  rw[yS h g n];omega
theorem yT (h g:Int->Int): ∀n:Nat,sm n (fun i=>h i - g i)=sm n h - sm n g
 | 0=>rfl
 | n+1=>by
  show sm n _+(h n - g n)=(sm n h+h n) - (sm n g+g n)
  rw[yT h g n];omega
theorem lM: ∀n:Nat,sm n (fun _=>0)=0
 | 0=>rfl
 | n+1=>by show sm n _+0=0;rw[lM n];rfl
theorem As (h:Int->Int): ∀n:Nat,sm n (fun i=>h (i - 1))+h ((n:Int) - 1)=sm n h+h (-1)
 | 0=>rfl
 | n+1=>by
  have:=As h n
  show sm n _+h ((n:Int) - 1)+h (((n+1:Nat):Int) - 1)=(sm n h+h n)+h (-1)
  rw[show ((n+1:Nat):Int) - 1=n by omega]
  omega
theorem jl {h:Int->Int} {n:Nat} (P: ∀k,h (k+n)=h k):sm n (fun i=>h (i - 1))=sm n h:=by
 have h1:=As h n
 have h2:=P (-1)
 rw[show (-1:Int)+n=(n:Int) - 1 by omega]at h2
 omega
theorem Au (h:Int->Int): ∀n:Nat,sm n (fun i=>h ((n:Int) - 1 - i))=sm n h
 | 0=>rfl
 | n+1=>by
  have e: ∀(m:Nat) (g:Int->Int),sm (m+1) g=g 0+sm m (fun i=>g (i+1)):=fun m=>by
   induction m with
   | zero=>intro g;show (0:Int)+g 0=g 0+0;omega
   | succ m ih=>intro g;show sm (m+1) g+g ((m+1:Nat):Int)=g 0+(sm m (fun i=>g (i+1))+g ((m:Int)+1));rw[ih];rw[show ((m+1:Nat):Int)=(m:Int)+1 by omega];omega
  rw[e]
  have:=Au h n
  show h (((n+1:Nat):Int) - 1 - 0)+sm n (fun i=>h (((n+1:Nat):Int) - 1 - (i+1)))=sm n h+h n
  rw[show ((n+1:Nat):Int) - 1 - 0=n by omega, <-this,Int.add_comm]
  congr 1
  exact a_ fun i _=>by congr 1;omega
theorem Av {h:Int->Int} {n:Nat} (P: ∀k,h (k+n)=h k):sm n (fun i=>h (i+1))=sm n h:=by
 have:=jl (h:=fun i=>h (i+1)) (n:=n) (fun k=>by show h (k+n+1)=h (k+1);rw[<-P (k+1)];congr 1;omega)
 rw[<-this]
 exact a_ fun i _=>by show h ((i:Int) - 1+1)=h i;congr 1;omega
theorem Ed {h:Int->Int} {n:Nat} (P: ∀k,h (k+n)=h k):sm n (fun i=>h (-i))=sm n h:=by
 rw[<-Au (fun i=>h (-i)) n, <-Av P]
 exact a_ fun i _=>by
  show h (-((n:Int) - 1 - i))=h (i+1)
  rw[<-P (-((n:Int) - 1 - i))];congr 1;omega
theorem Li {h:Int->Int} {n:Nat} (P: ∀k,h (k+n)=h k):sm n (fun i=>h (1 - i))=sm n h:=by
 rw[<-Av P, <-Ed (h:=fun i=>h (i+1)) (fun k=>by show h (k+n+1)=h (k+1);rw[<-P (k+1)];congr 1;omega)]
 exact a_ fun i _=>by show h (1 - (i:Int))=h (-(i:Int)+1);congr 1;omega
noncomputable def eI (n m:Nat) (h:Int->Int->Int):Int:=sm n fun i=>sm m fun j=>h i j
theorem dS {n m:Nat} {h g:Int->Int->Int} (e: ∀i j:Nat,i<n->j<m->h i j=g i j):eI n m h=eI n m g:=a_ fun i hi=>a_ fun j hj=>e i j hi hj
theorem eY (n m:Nat) (h g:Int->Int->Int):eI n m (fun i j=>h i j+g i j)=eI n m h+eI n m g:=by
 unfold eI
 rw[<-yS]
 exact a_ fun i _=>yS _ _ _
theorem jL (n m:Nat) (h g:Int->Int->Int):eI n m (fun i j=>h i j - g i j)=eI n m h - eI n m g:=by
 unfold eI
 rw[<-yT]
 exact a_ fun i _=>yT _ _ _
theorem B3 {n m:Nat} {h:Int->Int->Int} (P: ∀i j,h (i+n) j=h i j) (Q: ∀i j,h i (j+m)=h i j):eI n m (fun i j=>h (i - 1) (j - 1))=eI n m h:=by
 unfold eI
 have e: ∀i:Int,sm m (fun j=>h i (j - 1))=sm m (h i):=fun i=>jl (Q i)
 rw[<-jl (h:=fun i=>sm m fun j=>h i j) (n:=n) (fun k=>a_ fun j _=>P k j)]
 exact a_ fun i _=>e _
structure MB (y:List Nat) (n:Nat) (F:Int->Int->Nat) (o i:Int->Nat):Prop where
 pos:0<n
 yU: ∀k,kg y (F k)
 bk: ∀k,eM (F k)=F (k - 1)
 PV: ∀k,F (k+n)=F k
 own: ∀k x,F k (x+n)=F k x
 op: ∀k,o (k+n)=o k
 ip: ∀k,i (k+n)=i k
structure Lj (y:List Nat) (F:Int->Int->Nat) (o i:Int->Nat) (G:Int->Int->Nat) (o' i':Int->Nat):Prop where
 sep: ∀s t,Sep y [(az (F s (-1)),i (s - 1)),(F s 0,o s),(az (G t (-1)),i' (t - 1)),(G t 0,o' t)]
 on: ∀s t a b,Run (F s) (G t) a b->o s≠o' t/\i s≠i' t/\decide (o s<o' t)=yP y (F s) (G t) a b/\decide (i' t<i s)=yP y (F s) (G t) a b
def Ee (F G:Int->Int->Nat) (s t:Int):Prop:=F s 0=G t 0\/F s (-1)=G t (-1)
def par (F G:Int->Int->Nat) (s t:Int):Prop:= ∀k,F s k=G t k
noncomputable def Hs (o i o' i':Int->Nat) (s t:Int):Bool:=oP (i (s - 1)) (o s) (i' (t - 1)) (o' t)
theorem Ef {y:List Nat} {n m:Nat} {F G:Int->Int->Nat} {o i o' i':Int->Nat} (hF:MB y n F o i) (hG:MB y m G o' i') {s t:Int}:par F G (s - 1) (t - 1)↔par F G s t:=by
 unfold par
 rw[<-hF.bk, <-hG.bk]
 unfold eM
 exact ⟨fun h k=>by have:=h (k+1);rwa [show k+1 - 1=k by omega]at this,fun h k=>h _⟩
theorem Aw {y:List Nat} {n m:Nat} {F G:Int->Int->Nat} {o i o' i':Int->Nat} (hy:Yd y) (hF:MB y n F o i) (hG:MB y m G o' i') (h:Lj y F o i G o' i'):
  eI n m (fun s t=>one (Ee F G s t/\Hs o i o' i' s t=true/\ ¬par F G s t))=eI n m fun s t=>one (xP y (F s) (G t)):=by
 have pt: ∀s t:Int,one (Ee F G s t/\Hs o i o' i' s t=true/\ ¬par F G s t)=one (xP y (F s) (G t))+one (uB y (F (s - 1)) (G (t - 1))) - one (uB y (F s) (G t)):=fun s t=>by
  by_cases hp:par F G s t
  ·have nr: ∀{a b}, ¬Run (F s) (G t) a b:=fun r=>r.hi (hp _)
   have yQ:=(Ef hF hG).mpr hp
   have Xg: ∀{a b}, ¬Run (F (s - 1)) (G (t - 1)) a b:=fun r=>r.hi (yQ _)
   rw[bH (fun z=>z.2.2 hp),bH (fun ⟨_,r,_⟩=>nr r),bH (fun ⟨_,_,r,_⟩=>Xg r),bH (fun ⟨_,_,r,_⟩=>nr r)]
   rfl
  ·by_cases ht:Ee F G s t
   ·have dR: ∃k,F s k≠G t k:=Classical.byContradiction fun z=>hp fun k=>Classical.byContradiction fun q=>z ⟨k,q⟩
    have Lk: ∃k,F (s - 1) k≠G (t - 1) k:=Classical.byContradiction fun z=>hp ((Ef hF hG).mp fun k=>Classical.byContradiction fun q=>z ⟨k,q⟩)
    have e1: ∀s,F (s - 1) 0=F s (-1):=fun s=>by rw[<-hF.bk];rfl
    have e2: ∀t,G (t - 1) 0=G t (-1):=fun s=>by rw[<-hG.bk];rfl
    have ei:one (Ee F G s t/\Hs o i o' i' s t=true/\ ¬par F G s t)=one (Hs o i o' i' s t=true):=cD ⟨fun z=>z.2.1,fun z=>⟨ht,z,hp⟩⟩
    rw[ei, <-hF.bk, <-hG.bk]
    refine D_ (e0:=decide (o s<o' t)) (e1:=decide (i' (t - 1)<i (s - 1))) (fun z=>?_) (fun z=>?_) (fun a b r=>(h.on s t a b r).2.2.1) (fun a b r=>?_) (fun z0 z1=>?_) (fun z1 z0=>?_) (fun z1 z0=>?_) ht
    ·obtain ⟨a,b,r,_⟩:=dv hF.pos hG.pos (hF.own s) (hG.own t) z dR
     exact ⟨a,b,r⟩
    ·obtain ⟨a,b,r,_⟩:=dv hF.pos hG.pos (hF.own (s - 1)) (hG.own (t - 1)) (by rw[e1,e2];exact z) Lk
     rw[hF.bk,hG.bk]
     exact ⟨a,b,r⟩
    ·rw[hF.bk,hG.bk]at r ⊢
     exact (h.on _ _ a b r).2.2.2
    ·obtain ⟨a,b,r,_⟩:=dv hF.pos hG.pos (hF.own s) (hG.own t) z0 dR
     exact Lf hy (hF.yU s) (hG.yU t) (h.sep s t) (h.on s t a b r).1 z0 z1
    ·obtain ⟨a,b,r,_⟩:=dv hF.pos hG.pos (hF.own (s - 1)) (hG.own (t - 1)) (by rw[e1,e2];exact z1) Lk
     exact Lg hy (hF.yU s) (hG.yU t) (h.sep s t) (h.on _ _ a b r).2.1 z1 z0
    ·obtain ⟨a,b,r,_⟩:=dv hF.pos hG.pos (hF.own s) (hG.own t) z0 dR
     obtain ⟨a2,b2,r2,_⟩:=dv hF.pos hG.pos (hF.own (s - 1)) (hG.own (t - 1)) (by rw[e1,e2];exact z1) Lk
     exact yR hy (hF.yU s) (hG.yU t) (h.sep s t) (h.on _ _ a2 b2 r2).2.1 (h.on s t a b r).1 z1 z0
   ·have t0:F s 0≠G t 0:=fun z=>ht (.inl z)
    have t1:F (s - 1) 0≠G (t - 1) 0:=by
     rw[<-hF.bk, <-hG.bk]
     exact fun z=>ht (.inr z)
    rw[bH (fun z=>ht z.1),bH (fun ⟨_,r,_⟩=>t0 r.zero),bH (fun ⟨_,_,r,_⟩=>t1 r.zero),bH (fun ⟨_,_,r,_⟩=>t0 r.zero)]
    rfl
 have e:eI n m (fun s t=>one (Ee F G s t/\Hs o i o' i' s t=true/\ ¬par F G s t))=eI n m (fun s t=>(one (xP y (F s) (G t))+one (uB y (F (s - 1)) (G (t - 1)))) - one (uB y (F s) (G t))):=dS fun s t _ _=>pt s t
 rw[e,jL,eY,B3 (h:=fun s t=>one (uB y (F s) (G t))) (fun s t=>by rw[hF.PV]) (fun s t=>by rw[hG.PV])]
 omega
theorem cn {y w:List Nat} (h:SW y w) (i:Int):kg y (sq w i):=⟨fun k=>h.rd _,fun k=>by
 unfold sq
 have:=h.red (i+k)
 rwa [show i+k - 1=i+(k - 1) by omega]at this⟩
theorem gO (w:List Nat) (i:Int):nJ (sq w i)=bq w i:=by
 funext k
 unfold nJ sq bq
 rw[show i+ -k=i - k by omega]
theorem p7 {y w:List Nat} (hy:Yd y) (h:SW y w) (i:Int):kg y (bq w i):=by rw[<-gO];exact (cn h i).rv hy
theorem yV (w:List Nat) (i:Int):sq w (i+w.length)=sq w i:=by
 funext k
 unfold sq
 rw[show i+(w.length:Int)+k=i+k+w.length by omega,h_]
theorem yW (w:List Nat) (i:Int):bq w (i+w.length)=bq w i:=by rw[<-gO, <-gO,yV]
theorem Eg {y w:List Nat} {po pi:Int->Nat} (h:SW y w) (P: ∀k,po (k+w.length)=po k) (Q: ∀k,pi (k+w.length)=pi k):MB y w.length (sq w) po pi:=
 ⟨Ww.mpr h.ne,cn h,fun k=>by funext x;unfold eM sq;congr 1;omega,yV w,fun k x=>cW w k x,P,Q⟩
theorem Ax {n:Nat} {h:Int->Nat} (P: ∀k,h (k+n)=h k) (k:Int):h (-(k+n))=h (-k):=by rw[<-P (-(k+n))];congr 1;omega
theorem Ll {y w:List Nat} {po pi:Int->Nat} (hy:Yd y) (h:SW y w) (P: ∀k,po (k+w.length)=po k) (Q: ∀k,pi (k+w.length)=pi k):MB y w.length (fun k=>bq w (-k)) (fun k=>pi (-k)) (fun k=>po (-k)):=
 ⟨Ww.mpr h.ne,fun k=>p7 hy h _,fun k=>by funext x;unfold eM bq;congr 2;omega,fun k=>by
  show bq w (-(k+w.length))=bq w (-k)
  rw[<-yW w (-(k+w.length))];congr 1;omega,fun k x=>p6 w _ x,Ax Q,Ax P⟩
section
variable {y w v:List Nat} {po pi qo qi:Int->Nat}
noncomputable def n6 (po pi qo qi:Int->Nat) (i j:Int):Bool:=oP (pi (i - 1)) (po i) (qi (j - 1)) (qo j)
def kI (w v:List Nat) (i j:Int):Prop:= ∀k,sq w i k=sq v j k
def lN (w v:List Nat) (i j:Int):Prop:= ∀k,sq w i k=bq v (j - 1) k
def MC (w v:List Nat) (i j:Int):Prop:=rd w i=rd v j\/rd w (i - 1)=rd v (j - 1)
def Ay (w v:List Nat) (i j:Int):Prop:=rd w i=az (rd v (j - 1))\/rd w (i - 1)=az (rd v j)
theorem Ht (w v:List Nat) (i j:Int):Ee (sq w) (sq v) i j↔MC w v i j:=by
 unfold Ee MC sq
 rw[show i+0=i by omega,show j+0=j by omega]
 rfl
theorem Hu (w v:List Nat) (i k:Int):Ee (sq w) (fun k=>bq v (-k)) i k↔Ay w v i (1 - k):=by
 unfold Ee Ay sq bq
 show rd w (i+0)=az (rd v (-k - 0))\/rd w (i+ -1)=az (rd v (-k - -1))↔_
 rw[show i+0=i by omega,show -k - 0=1 - k - 1 by omega,show -k - -1=1 - k by omega]
 rfl
theorem Tp (hy:Yd y) (hw:SW y w) (hv:SW y v) {i j:Int} (h:MC w v i j) (g:Ay w v i j):False:=by
 have vT:=hw.red i
 have Vd:=hv.red j
 have l1:=hy.lt _ (hw.rd (i - 1))
 have l2:=hy.lt _ (hv.rd (j - 1))
 have l3:=hy.lt _ (hv.rd j)
 rcases h with h | h<;>rcases g with g | g
 ·exact Vd (h.symm.trans g)
 ·rw[<-h]at g;exact vT (by rw[g,aF (hy.lt _ (hw.rd i))])
 ·rw[<-h]at g;exact vT g
 ·rw[h]at g;exact Vd (by rw[g,aF l3])
theorem Eh (hy:Yd y) (hw:SW y w) (hv:SW y v) (P1: ∀k,po (k+w.length)=po k) (P2: ∀k,pi (k+w.length)=pi k) (Q1: ∀k,qo (k+v.length)=qo k) (Q2: ∀k,qi (k+v.length)=qi k)
  (hS:Lj y (sq w) po pi (sq v) qo qi) (hO:Lj y (sq w) po pi (fun k=>bq v (-k)) (fun k=>qi (-k)) (fun k=>qo (-k))):
  eI w.length v.length (fun i j=>one (n6 po pi qo qi i j=true))=
   eI w.length v.length (fun i j=>one (ac y (az (rd w (i - 1))) (rd w i) (az (rd v (j - 1))) (rd v j)=true))+eI w.length v.length (fun i j=>one (0<al y (sq w i) (sq v j) (w.length+v.length)))+eI w.length v.length (fun i j=>one (0<al y (sq w i) (bq v j) (w.length+v.length)))
   +eI w.length v.length (fun i j=>one (kI w v i j/\n6 po pi qo qi i j=true))+eI w.length v.length (fun i j=>one (lN w v i j/\n6 po pi qo qi i j=true)):=by
 have fw:=Eg hw P1 P2
 have fv:=Eg hv Q1 Q2
 have fo:=Ll hy hv Q1 Q2
 have s1:=Aw hy fw fv hS
 have s2:=Aw hy fw fo hO
 have e1:eI w.length v.length (fun s t=>one (xP y (sq w s) (sq v t)))=eI w.length v.length (fun i j=>one (0<al y (sq w i) (sq v j) (w.length+v.length))):=dS fun i j _ _=>cD (Aq hy (cn hw _) (cn hv _) fun z=>jK hw.ne hv.ne (fun k=>cW w i k) (fun k=>cW v j k) z)
 have e2:eI w.length v.length (fun s t=>one (xP y (sq w s) (bq v (-t))))=eI w.length v.length (fun i j=>one (0<al y (sq w i) (bq v j) (w.length+v.length))):=by
  have:eI w.length v.length (fun s t=>one (xP y (sq w s) (bq v (-t))))=eI w.length v.length (fun s t=>one (xP y (sq w s) (bq v t))):=a_ fun i _=>Ed (h:=fun t=>one (xP y (sq w i) (bq v t))) fun k=>by rw[yW]
  rw[this]
  exact dS fun i j _ _=>cD (Aq hy (cn hw _) (p7 hy hv _) fun z=>jK hw.ne hv.ne (fun k=>cW w i k) (fun k=>p6 v j k) z)
 have e3:eI w.length v.length (fun s t=>one (Ee (sq w) (fun k=>bq v (-k)) s t/\Hs po pi (fun k=>qi (-k)) (fun k=>qo (-k)) s t=true/\ ¬par (sq w) (fun k=>bq v (-k)) s t))=eI w.length v.length (fun i j=>one (Ay w v i j/\n6 po pi qo qi i j=true/\ ¬lN w v i j)):=by
  have P: ∀i:Int, ∀k:Int,(fun j=>one (Ay w v i j/\n6 po pi qo qi i j=true/\ ¬lN w v i j)) (k+v.length)=(fun j=>one (Ay w v i j/\n6 po pi qo qi i j=true/\ ¬lN w v i j)) k:=fun i k=>by
   show one (Ay w v i (k+v.length)/\n6 po pi qo qi i (k+v.length)=true/\ ¬lN w v i (k+v.length))=_
   unfold Ay n6 lN
   rw[show k+(v.length:Int) - 1=k - 1+v.length by omega,h_,h_,Q1,Q2,yW]
  refine a_ fun i _=>(a_ fun k _=>?_).trans (Li (P i))
  refine cD ?_
  rw[Hu]
  have ec:Hs po pi (fun k=>qi (-k)) (fun k=>qo (-k)) i k=n6 po pi qo qi i (1 - k):=by
   unfold Hs n6
   rw[jk]
   show oP (pi ((i:Int) - 1)) (po i) (qi (-(k:Int))) (qo (-((k:Int) - 1)))=_
   rw[show -((k:Int) - 1)=1 - k by omega,show (1:Int) - k - 1= -k by omega]
  have ep:par (sq w) (fun k=>bq v (-k)) i k↔lN w v i (1 - k):=by
   unfold par lN
   rw[show (1:Int) - k - 1= -k by omega]
  rw[ec,ep]
 rw[e1]at s1
 rw[e2,e3]at s2
 rw[<-s1, <-s2, <-eY, <-eY, <-eY, <-eY]
 refine dS fun i j _ _=>?_
 have hc:Hs po pi qo qi i j=n6 po pi qo qi i j:=rfl
 have et:=Ht w v i j
 have pS:kI w v i j->MC w v i j:=fun z=> .inl (by have:=z 0;unfold sq at this;rwa [show (i:Int)+0=i by omega,show (j:Int)+0=j by omega]at this)
 have pO:lN w v i j->Ay w v i j:=fun z=> .inl (by have:=z 0;unfold sq bq at this;rwa [show (i:Int)+0=i by omega,show (j:Int) - 1 - 0=j - 1 by omega]at this)
 have Xh:MC w v i j-> ¬ac y (az (rd w (i - 1))) (rd w i) (az (rd v (j - 1))) (rd v j)=true:=fun z=>by
  unfold ac
  rw[if_pos (z.elim (fun z=> .inr (.inr (.inr z.symm))) fun z=> .inl (by rw[z]))]
  decide
 have Xi:Ay w v i j-> ¬ac y (az (rd w (i - 1))) (rd w i) (az (rd v (j - 1))) (rd v j)=true:=fun z=>by
  unfold ac
  rw[if_pos (z.elim (fun z=> .inr (.inl z.symm)) fun z=> .inr (.inr (.inl (by rw[z,aF (hy.lt _ (hv.rd _))]))))]
  decide
 have ep:par (sq w) (sq v) i j↔kI w v i j:=Iff.rfl
 by_cases tS:MC w v i j
 ·have nO: ¬Ay w v i j:=fun z=>Tp hy hw hv tS z
  rw[bH (Xh tS),bH (p:=Ay w v i j/\_) (fun z=>nO z.1),bH (p:=lN w v i j/\_) (fun z=>nO (pO z.1))]
  by_cases c:n6 po pi qo qi i j=true
  ·by_cases q:kI w v i j
   ·rw[gj c,bH (fun z=>z.2.2 q),gj ⟨q,c⟩];rfl
   ·rw[gj c,gj ⟨et.mpr tS,c,q⟩,bH (fun z=>q z.1)];rfl
  ·rw[bH c,bH (fun z=>c z.2.1),bH (fun z=>c z.2)];rfl
 ·rw[bH (p:=Ee _ _ _ _/\_) (fun z=>tS (et.mp z.1)),bH (p:=kI w v i j/\_) (fun z=>tS (pS z.1))]
  by_cases tO:Ay w v i j
  ·rw[bH (Xi tO)]
   by_cases c:n6 po pi qo qi i j=true
   ·by_cases q:lN w v i j
    ·rw[gj c,bH (fun z=>z.2.2 q),gj ⟨q,c⟩];rfl
    ·rw[gj c,gj ⟨tO,c,q⟩,bH (fun z=>q z.1)];rfl
   ·rw[bH c,bH (fun z=>c z.2.1),bH (fun z=>c z.2)];rfl
  ·rw[bH (p:=Ay w v i j/\_) (fun z=>tO z.1),bH (p:=lN w v i j/\_) (fun z=>tO (pO z.1))]
   have l2:=hy.lt _ (hv.rd (j - 1))
   have l3:=hy.lt _ (hv.rd j)
   have l1:=hy.lt _ (hw.rd (i - 1))
   have f0: ∀(u:List Nat) (i:Int),sq u i 0=rd u i:=fun u i=>by unfold sq;rw[show i+0=i by omega]
   have f1: ∀(u:List Nat) (i:Int),sq u i (-1)=rd u (i - 1):=fun u i=>rfl
   have e:=Lh hy (cn hw i) (cn hv j) (hS.sep i j) (fun z=>tS (.inl (by rw[f0,f0]at z;exact z))) (fun z=>tS (.inr z)) (fun z=>tO (.inr (by rw[f0,f1]at z;rw[<-z,aF l1]))) (fun z=>tO (.inl (by rw[f0,f1]at z;exact z.symm)))
   rw[f0,f0,f1,f1]at e
   have e':n6 po pi qo qi i j=ac y (az (rd w (i - 1))) (rd w i) (az (rd v (j - 1))) (rd v j):=e
   rw[e']
   omega
end
section
variable {y w v:List Nat} {po pi qo qi:Int->Nat}
theorem Hv (hy:Yd y) (hw:SW y w) (hv:SW y v) (hS:Lj y (sq w) po pi (sq v) qo qi) (D:Bool)
  (h: ∀i j,kI w v i j->po i≠qo j/\pi i≠qi j/\decide (po i<qo j)=D/\decide (qi j<pi i)=D):eI w.length v.length (fun i j=>one (kI w v i j/\n6 po pi qo qi i j=true))=0:=by
 have: ∀i j:Int, ¬(kI w v i j/\n6 po pi qo qi i j=true):=fun i j ⟨p,c⟩=>by
  have p1:kI w v (i - 1) (j - 1):=fun k=>by
   have:=p (k - 1)
   unfold sq at this ⊢
   rw[show i - 1+k=i+(k - 1) by omega,show j - 1+k=j+(k - 1) by omega]
   exact this
  have h0:=h i j p
  have h1:=h _ _ p1
  have:=(yR hy (cn hw i) (cn hv j) (hS.sep i j) h1.2.1 h0.1 (p (-1)) (p 0)).mp c
  exact this (h1.2.2.2.trans h0.2.2.1.symm)
 rw[show (0:Int)=eI w.length v.length (fun _ _=>0) by unfold eI;rw[show (fun _:Int=>sm v.length fun _=>0)=fun _=>0 from funext fun _=>lM _,lM]]
 exact dS fun i j _ _=>bH (this i j)
theorem Hw (hy:Yd y) (hw:SW y w) (hv:SW y v) (hO:Lj y (sq w) po pi (fun k=>bq v (-k)) (fun k=>qi (-k)) (fun k=>qo (-k))) (D:Bool)
  (h: ∀i j,(∀k,sq w i k=bq v j k)->po i≠qi j/\pi i≠qo j/\decide (po i<qi j)=D/\decide (qo j<pi i)=D):eI w.length v.length (fun i j=>one (lN w v i j/\n6 po pi qo qi i j=true))=0:=by
 have: ∀i j:Int, ¬(lN w v i j/\n6 po pi qo qi i j=true):=fun i j ⟨p,c⟩=>by
  have p1: ∀k,sq w (i - 1) k=bq v j k:=fun k=>by
   have:=p (k - 1)
   unfold sq bq at this ⊢
   rw[show i - 1+k=i+(k - 1) by omega,this]
   congr 2;omega
  have h0:=h i (j - 1) p
  have h1:=h _ _ p1
  have s:=hO.sep i (1 - j)
  simp only[show -(1 - j)=j - 1 by omega,show -(1 - j - 1)=j by omega]at s
  unfold n6 at c
  rw[jk]at c
  have:=(yR hy (cn hw i) (p7 hy hv (j - 1)) s h1.2.1 h0.1 (p (-1)) (p 0)).mp c
  exact this (h1.2.2.2.trans h0.2.2.1.symm)
 rw[show (0:Int)=eI w.length v.length (fun _ _=>0) by unfold eI;rw[show (fun _:Int=>sm v.length fun _=>0)=fun _=>0 from funext fun _=>lM _,lM]]
 exact dS fun i j _ _=>bH (this i j)
theorem yX (hy:Yd y) (hw:SW y w) (i j:Int): ¬ ∀k,sq w i k=bq w j k:=fun h=>by
 unfold sq bq at h
 rcases (show (j - i)%2=0\/(j - i)%2=1 by omega) with z | z
 ·have:=h ((j - i) / 2)
  rw[show i+(j - i) / 2=j - (j - i) / 2 by omega]at this
  exact dG (hy.lt _ (hw.rd _)) this.symm
 ·have:=h ((j - i) / 2+1)
  rw[show j - ((j - i) / 2+1)=i+((j - i) / 2+1) - 1 by omega]at this
  exact hw.red _ this
end
noncomputable def kk (y:List Nat) (f:Int->Nat):Nat->Nat->List Int
 | _,0=>[]
 | k,n+1=>fP y f (k+1)::fP y f (-(k:Int))::kk y f (k+1) n
theorem gP: ∀(l r t:List Int),bF (l++r) (l++t)=bF r t
 | [],_,_=>rfl
 | a::l,r,t=>by
  show (if a=a then bF (l++r) (l++t) else _)=_
  rw[if_pos rfl,gP l r t]
theorem mK {y:List Nat} {f g:Int->Nat} {a b:Nat} (hy:Yd y) (hf:kg y f) (hg:kg y g) (h:Run f g a b) (r t:List Int): ∀(n k:Nat),k<=a->k<=b->a<k+n->b<k+n->bF (kk y f k n++r) (kk y g k n++t)=if a<=b then lK y f g a else mi y f g b
 | 0,k,h1,_,h3,_=>by omega
 | n+1,k,h1,h2,h3,h4=>by
  show (if fP y f (k+1)=fP y g (k+1) then (if fP y f (-(k:Int))=fP y g (-(k:Int)) then bF (kk y f (k+1) n++r) (kk y g (k+1) n++t) else decide (fP y f (-(k:Int))<fP y g (-(k:Int)))) else decide (fP y f (k+1)<fP y g (k+1)))=_
  have e0:=h.q8 k (by omega) (by omega)
  have e1:=h.q8 (-(k:Int)) (by omega) (by omega)
  by_cases z:k=a
  ·subst z
   rw[if_neg (fun q=>h.hi (by
    unfold fP at q
    rw[show (k:Int)+1 - 1=k by omega, <-e0]at q
    exact lL (hy.cl _ (hf.bO _)) (hf.bO _) (hg.bO _) q)),if_pos h2]
   rfl
  ·have e2:=h.q8 (k+1) (by omega) (by omega)
   rw[if_pos (by unfold fP;rw[show (k:Int)+1 - 1=k by omega,e0,e2])]
   by_cases z2:k=b
   ·subst z2
    rw[if_neg (fun q=>h.lo (by
     unfold fP at q
     rw[<-e1]at q
     have r1:=hf.red (-(k:Int))
     have r2:=hg.red (-(k:Int))
     have c1:=(eN (hy.cl _ (hf.bO (-(k:Int) - 1))) (hf.bO (-(k:Int))) (Ne.symm r1)).2.2
     have c2:=(eN (hy.cl _ (hg.bO (-(k:Int) - 1))) (hf.bO (-(k:Int))) (by rw[e1];exact Ne.symm r2)).2.2
     have:=lL (hf.bO (-(k:Int))) (hy.cl _ (hf.bO (-(k:Int) - 1))) (hy.cl _ (hg.bO (-(k:Int) - 1))) (by rw[c1,c2,q])
     exact dA (hy.lt _ (hf.bO _)) (hy.lt _ (hg.bO _)) this)),if_neg (by omega)]
    rfl
   ·have e3:=h.q8 (-(k:Int) - 1) (by omega) (by omega)
    rw[if_pos (by unfold fP;rw[e1,e3])]
    exact mK hy hf hg h r t n (k+1) (by omega) (by omega) (by omega) (by omega)
noncomputable def n_ (w:List Nat) (i:Int):Int->Nat:=if aA (rd w i)=true then sq w i else bq w i
noncomputable def Ge (n r:Nat) (l low:Bool) (c i:Nat):List Int:=if low=l then [(c:Int),(((if low=true then i else n - 1 - i) / r:Nat):Int)] else [-(c:Int), -(((if low=true then n - 1 - i else i) / r:Nat):Int)]
noncomputable def cK (y:List Nat) (ws:List (List Nat)) (L:Nat->Bool) (r:Nat->Nat) (M c i:Nat):List Int:=kk y (n_ (ws.getD c []) i) 0 M++Ge (ws.getD c []).length (r c) (L c) (aA (rd (ws.getD c []) i)) c i
def Dl (w:List Nat) (i:Int) (f:Int->Nat):Prop:=f=sq w i\/f=bq w i
theorem uE {y w:List Nat} {i:Int} {f:Int->Nat} (hy:Yd y) (hw:SW y w) (h:Dl w i f):n_ w i=if aA (f 0)=true then f else nJ f:=by
 have s0:sq w i 0=rd w i:=by unfold sq;rw[show i+0=i by omega]
 have b0:bq w i 0=az (rd w i):=by unfold bq;rw[show i - 0=i by omega]
 have lc:=dc _ (hy.lt _ (hw.rd i)).mem
 unfold n_
 rcases h with rfl | rfl
 ·rw[s0,gO]
 ·rw[b0,lc, <-gO,wU hy (cn hw i)]
  cases aA (rd w i)<;>rfl
theorem Dl.yU {y w:List Nat} {i:Int} {f:Int->Nat} (hy:Yd y) (hw:SW y w) (h:Dl w i f):kg y f:=by
 rcases h with rfl | rfl
 ·exact cn hw i
 ·exact p7 hy hw i
theorem Run.sy {f g:Int->Nat} {a b:Nat} (h:Run f g a b):Run g f a b:=⟨fun k h1 h2=>(h.q8 k h1 h2).symm,Ne.symm h.hi,Ne.symm h.lo⟩
section
variable {y:List Nat} {ws:List (List Nat)} {L:Nat->Bool} {r:Nat->Nat} {M:Nat} {N:Nat->Nat->Nat->Nat}
structure Lies (y:List Nat) (ws:List (List Nat)) (L:Nat->Bool) (r:Nat->Nat) (M:Nat) (N:Nat->Nat->Nat->Nat):Prop where
 sep: ∀c i d j e e',c<ws.length->d<ws.length->i<(ws.getD c []).length->j<(ws.getD d []).length->(e=rd (ws.getD c []) i\/e=az (rd (ws.getD c []) i))->(e'=rd (ws.getD d []) j\/e'=az (rd (ws.getD d []) j))->y.idxOf e<y.idxOf e'->N c i e<N d j e'
 low: ∀c i d j x,c<ws.length->d<ws.length->i<(ws.getD c []).length->j<(ws.getD d []).length->(c,i)≠(d,j)->aA x=true->(rd (ws.getD c []) i=x\/rd (ws.getD c []) i=az x)->(rd (ws.getD d []) j=x\/rd (ws.getD d []) j=az x)->
  N c i x≠N d j x/\N c i (az x)≠N d j (az x)/\decide (N c i x<N d j x)=bF (cK y ws L r M c i) (cK y ws L r M d j)/\decide (N d j (az x)<N c i (az x))=bF (cK y ws L r M c i) (cK y ws L r M d j)
theorem Lies.at (hy:Yd y) (hN:Lies y ws L r M N) {c i d j:Nat} {f g:Int->Nat} (hc:c<ws.length) (hd:d<ws.length) (hi:i<(ws.getD c []).length) (hj:j<(ws.getD d []).length) (hw:SW y (ws.getD c [])) (hv:SW y (ws.getD d []))
  (hf:Dl (ws.getD c []) i f) (hg:Dl (ws.getD d []) j g) (h0:f 0=g 0) (dR:(c,i)≠(d,j)):
  N c i (f 0)≠N d j (f 0)/\N c i (az (f 0))≠N d j (az (f 0))/\decide (N c i (f 0)<N d j (f 0))=(if aA (f 0)=true then bF (cK y ws L r M c i) (cK y ws L r M d j) else bF (cK y ws L r M d j) (cK y ws L r M c i))/\decide (N d j (az (f 0))<N c i (az (f 0)))=(if aA (f 0)=true then bF (cK y ws L r M c i) (cK y ws L r M d j) else bF (cK y ws L r M d j) (cK y ws L r M c i)):=by
 have s0: ∀(w:List Nat) (i:Int),sq w i 0=rd w i:=fun w i=>by unfold sq;rw[show i+0=i by omega]
 have b0: ∀(w:List Nat) (i:Int),bq w i 0=az (rd w i):=fun w i=>by unfold bq;rw[show i - 0=i by omega]
 have ly:Lt (f 0):=hy.lt _ ((hf.yU hy hw).bO 0)
 have Mo:=aF ly
 have ef:rd (ws.getD c []) i=f 0\/rd (ws.getD c []) i=az (f 0):=by
  rcases hf with rfl | rfl
  ·exact .inl (s0 _ _).symm
  ·exact .inr (by rw[b0,aF (hy.lt _ (hw.rd _))])
 have eg:rd (ws.getD d []) j=f 0\/rd (ws.getD d []) j=az (f 0):=by
  rw[h0]
  rcases hg with rfl | rfl
  ·exact .inl (s0 _ _).symm
  ·exact .inr (by rw[b0,aF (hy.lt _ (hv.rd _))])
 by_cases z:aA (f 0)=true
 ·rw[if_pos z]
  exact hN.low c i d j (f 0) hc hd hi hj dR z ef eg
 ·rw[if_neg z]
  have z':aA (az (f 0))=true:=by rw[dc _ ly.mem];simpa using z
  have:=hN.low d j c i (az (f 0)) hd hc hj hi (Ne.symm dR) z' (by rw[Mo];exact eg.symm) (by rw[Mo];exact ef.symm)
  rw[Mo]at this
  exact ⟨Ne.symm this.2.1,Ne.symm this.1,this.2.2.2,this.2.2.1⟩
theorem Lies.run (hy:Yd y) (hN:Lies y ws L r M N) {c i d j:Nat} {f g:Int->Nat} {a b:Nat} (hc:c<ws.length) (hd:d<ws.length) (hi:i<(ws.getD c []).length) (hj:j<(ws.getD d []).length) (hw:SW y (ws.getD c [])) (hv:SW y (ws.getD d []))
  (hf:Dl (ws.getD c []) i f) (hg:Dl (ws.getD d []) j g) (hr:Run f g a b) (ha:a<M) (hb:b<M) (dR:(c,i)≠(d,j)):
  N c i (f 0)≠N d j (g 0)/\N c i (az (f 0))≠N d j (az (g 0))/\decide (N c i (f 0)<N d j (g 0))=yP y f g a b/\decide (N d j (az (g 0))<N c i (az (f 0)))=yP y f g a b:=by
 have h0:=hr.zero
 have lf:=hf.yU hy hw
 have lg:=hg.yU hy hv
 have e:(if aA (f 0)=true then bF (cK y ws L r M c i) (cK y ws L r M d j) else bF (cK y ws L r M d j) (cK y ws L r M c i))=yP y f g a b:=by
  unfold cK
  rw[uE hy hw hf,uE hy hv hg, <-h0]
  by_cases z:aA (f 0)=true
  ·rw[if_pos z,if_pos z,if_pos z,mK hy lf lg hr _ _ M 0 (Zg _) (Zg _) (by omega) (by omega)]
   unfold yP vz
   by_cases q:a<=b
   ·rw[if_pos q,if_neg (by simp[z];omega)]
   ·rw[if_neg q,if_pos (by simp;omega)]
  ·rw[if_neg z,if_neg z,if_neg z,mK hy (lg.rv hy) (lf.rv hy) (hr.rv hy lf lg).sy _ _ M 0 (Zg _) (Zg _) (by omega) (by omega), <-Ld hy lf lg h0]
   unfold yP vz
   have z':aA (nJ g 0)=true:=by
    show aA (az (g 0))=true
    rw[<-h0,dc _ (hy.lt _ (lf.bO 0)).mem];simpa using z
   by_cases q:b<=a
   ·rw[if_pos q,if_neg (by simp[z'];omega)]
   ·rw[if_neg q,if_pos (by simp;omega)]
 have:=hN.at hy hc hd hi hj hw hv hf hg h0 dR
 rw[e]at this
 rw[<-h0]
 exact this
end
noncomputable def p8 (n:Nat) (k:Int):Nat:=(k%(n:Int)).toNat
theorem bX {n:Nat} (h:0<n) (k:Int):p8 n k<n:=by
 unfold p8
 have h1:=Qaa k (b:=(n:Int)) (by omega)
 have h2:=Z6 k (b:=(n:Int)) (by omega)
 omega
theorem ik {n:Nat} (h:0<n) (k:Int):((p8 n k:Nat):Int)=k%n:=by
 unfold p8
 have h1:=Qaa k (b:=(n:Int)) (by omega)
 omega
theorem Az {n:Nat} (k:Int):p8 n (k+n)=p8 n k:=by unfold p8;rw[Qa2]
theorem cy {w:List Nat} (h:w≠[]) (k:Int):rd w (p8 w.length k:Nat)=rd w k:=by rw[ik (Ww.mpr h),ie]
theorem eO {w:List Nat} (h:w≠[]) (k:Int):sq w (p8 w.length k:Nat)=sq w k:=by
 funext x
 unfold sq
 rw[ik (Ww.mpr h), <-ie w (k%w.length+x),Qdh,ie]
theorem Ei {w:List Nat} (h:w≠[]) (k:Int):bq w (p8 w.length k:Nat)=bq w k:=by rw[<-gO, <-gO,eO h]
noncomputable def pO (ws:List (List Nat)) (N:Nat->Nat->Nat->Nat) (c:Nat) (k:Int):Nat:=N c (p8 (ws.getD c []).length k) (rd (ws.getD c []) k)
noncomputable def pI (ws:List (List Nat)) (N:Nat->Nat->Nat->Nat) (c:Nat) (k:Int):Nat:=N c (p8 (ws.getD c []).length k) (az (rd (ws.getD c []) k))
theorem Lm {x x' p p':Int} (h:x≠x'):bF [x,p] [x',p']=decide (x<x'):=by
 show (if x=x' then _ else decide (x<x'))=_
 rw[if_neg h]
theorem uF {x p p':Int} (h:p≠p'):bF [x,p] [x,p']=decide (p<p'):=by
 show (if x=x then (if p=p' then bF [] [] else decide (p<p')) else _)=_
 rw[if_pos rfl,if_neg h]
section
variable {y:List Nat} {ws:List (List Nat)} {L:Nat->Bool} {r:Nat->Nat} {M:Nat} {N:Nat->Nat->Nat->Nat}
structure gm (y:List Nat) (ws:List (List Nat)) (L:Nat->Bool) (r:Nat->Nat) (M:Nat):Prop where
 yd:Yd y
 sw: ∀c,c<ws.length->SW y (ws.getD c [])
 big: ∀c d,c<ws.length->d<ws.length->(ws.getD c []).length+(ws.getD d []).length<=M
 l1: ∀c d i j,c<ws.length->d<ws.length->kI (ws.getD c []) (ws.getD d []) i j->L c=L d
 l2: ∀c d i j,c<ws.length->d<ws.length->(∀k,sq (ws.getD c []) i k=bq (ws.getD d []) j k)->L d=!L c
 rp: ∀c,c<ws.length->0<r c
 rr: ∀c,c<ws.length-> ∀i j:Int,(kI (ws.getD c []) (ws.getD c []) i j↔(i - j)%(r c:Int)=0)
theorem Lies.two (h:gm y ws L r M) (hN:Lies y ws L r M N) {c d:Nat} (hc:c<ws.length) (hd:d<ws.length):Lj y (sq (ws.getD c [])) (pO ws N c) (pI ws N c) (sq (ws.getD d [])) (pO ws N d) (pI ws N d):=by
 have hw:=h.sw c hc
 have hv:=h.sw d hd
 have lw:=Ww.mpr hw.ne
 have lv:=Ww.mpr hv.ne
 have s0: ∀(w:List Nat) (i:Int),sq w i 0=rd w i:=fun w i=>by unfold sq;rw[show i+0=i by omega]
 refine ⟨fun s t=>?_,fun s t a b rn=>?_⟩
 ·have key: ∀p∈[(az (sq (ws.getD c []) s (-1)),pI ws N c (s - 1)),(sq (ws.getD c []) s 0,pO ws N c s),(az (sq (ws.getD d []) t (-1)),pI ws N d (t - 1)),(sq (ws.getD d []) t 0,pO ws N d t)], ∃e i:Nat,e<ws.length/\i<(ws.getD e []).length/\(p.1=rd (ws.getD e []) i\/p.1=az (rd (ws.getD e []) i))/\p.2=N e i p.1:=by
   intro p hp
   simp only[Wz,Zl,or_false]at hp
   rcases hp with rfl | rfl | rfl | rfl
   ·exact ⟨c,_,hc,bX lw (s - 1), .inr (by rw[cy hw.ne];rfl),rfl⟩
   ·exact ⟨c,_,hc,bX lw s, .inl (by rw[cy hw.ne,s0]),by rw[s0];rfl⟩
   ·exact ⟨d,_,hd,bX lv (t - 1), .inr (by rw[cy hv.ne];rfl),rfl⟩
   ·exact ⟨d,_,hd,bX lv t, .inl (by rw[cy hv.ne,s0]),by rw[s0];rfl⟩
  intro p hp q hq cT
  obtain ⟨e,i,he,hi,h1,h2⟩:=key p hp
  obtain ⟨e',j,vA,hj,h3,h4⟩:=key q hq
  rw[h2,h4]
  exact hN.sep e i e' j _ _ he vA hi hj h1 h3 cT
 ·obtain ⟨a',b',Tq,ha,hb⟩:=dv lw lv (fun k=>cW _ s k) (fun k=>cW _ t k) rn.zero ⟨_,rn.hi⟩
  obtain ⟨rfl,rfl⟩:=rn.one Tq
  have:=h.big c d hc hd
  have key:=hN.run h.yd hc hd (bX lw s) (bX lv t) hw hv (.inl (eO hw.ne s).symm) (.inl (eO hv.ne t).symm) rn (by omega) (by omega) (fun z=>rn.hi (by
   obtain ⟨z1,z2⟩:=Prod.mk.inj z
   subst z1
   rw[<-eO hw.ne s, <-eO hw.ne t,z2]))
  rw[s0,s0]at key
  exact key
theorem Lies.Xj (h:gm y ws L r M) (hN:Lies y ws L r M N) {c d:Nat} (hc:c<ws.length) (hd:d<ws.length):Lj y (sq (ws.getD c [])) (pO ws N c) (pI ws N c) (fun k=>bq (ws.getD d []) (-k)) (fun k=>pI ws N d (-k)) (fun k=>pO ws N d (-k)):=by
 have hw:=h.sw c hc
 have hv:=h.sw d hd
 have lw:=Ww.mpr hw.ne
 have lv:=Ww.mpr hv.ne
 have s0: ∀(w:List Nat) (i:Int),sq w i 0=rd w i:=fun w i=>by unfold sq;rw[show i+0=i by omega]
 have b0: ∀(w:List Nat) (i:Int),bq w i 0=az (rd w i):=fun w i=>by unfold bq;rw[show i - 0=i by omega]
 have bb: ∀t:Int,az (bq (ws.getD d []) (-t) (-1))=rd (ws.getD d []) (-(t - 1)):=fun t=>by
  unfold bq
  rw[aF (h.yd.lt _ (hv.rd _))]
  congr 1;omega
 refine ⟨fun s t=>?_,fun s t a b rn=>?_⟩
 ·have key: ∀p∈[(az (sq (ws.getD c []) s (-1)),pI ws N c (s - 1)),(sq (ws.getD c []) s 0,pO ws N c s),(az (bq (ws.getD d []) (-t) (-1)),pO ws N d (-(t - 1))),(bq (ws.getD d []) (-t) 0,pI ws N d (-t))], ∃e i:Nat,e<ws.length/\i<(ws.getD e []).length/\(p.1=rd (ws.getD e []) i\/p.1=az (rd (ws.getD e []) i))/\p.2=N e i p.1:=by
   intro p hp
   simp only[Wz,Zl,or_false]at hp
   rcases hp with rfl | rfl | rfl | rfl
   ·exact ⟨c,_,hc,bX lw (s - 1), .inr (by rw[cy hw.ne];rfl),rfl⟩
   ·exact ⟨c,_,hc,bX lw s, .inl (by rw[cy hw.ne,s0]),by rw[s0];rfl⟩
   ·exact ⟨d,_,hd,bX lv (-(t - 1)), .inl (by rw[cy hv.ne];exact bb t),by rw[bb t];rfl⟩
   ·exact ⟨d,_,hd,bX lv (-t), .inr (by rw[cy hv.ne,b0]),by rw[b0];rfl⟩
  intro p hp q hq cT
  obtain ⟨e,i,he,hi,h1,h2⟩:=key p hp
  obtain ⟨e',j,vA,hj,h3,h4⟩:=key q hq
  rw[h2,h4]
  exact hN.sep e i e' j _ _ he vA hi hj h1 h3 cT
 ·obtain ⟨a',b',Tq,ha,hb⟩:=dv lw lv (fun k=>cW _ s k) (fun k=>p6 _ (-t) k) rn.zero ⟨_,rn.hi⟩
  obtain ⟨rfl,rfl⟩:=rn.one Tq
  have:=h.big c d hc hd
  have key:=hN.run h.yd hc hd (bX lw s) (bX lv (-t)) hw hv (.inl (eO hw.ne s).symm) (.inr (Ei hv.ne (-t)).symm) rn (by omega) (by omega) (fun z=>by
   obtain ⟨z1,z2⟩:=Prod.mk.inj z
   subst z1
   have z0:=rn.zero
   rw[s0,b0, <-cy hw.ne s, <-cy hw.ne (-t),z2]at z0
   exact dG (h.yd.lt _ (hw.rd _)) z0.symm)
  rw[s0,b0,aF (h.yd.lt _ (hv.rd _))]at key
  exact key
theorem uG {n n' r r' c d i j:Nat} {l low Ln:Bool} (h:c≠d):bF (Ge n r l low c i) (Ge n' r' (if Ln=low then l else !l) Ln d j)=if low=l then decide (c<d) else decide (d<c):=by
 unfold Ge
 cases low<;>cases Ln<;>cases l<;>simp only[Qc7,Bool.not_false,if_true,if_false,Bool.true_eq_false,Qa3]<;>rw[Lm (by omega)]<;>exact decide_eq_decide.mpr (by omega)
theorem Lies.Ej (h:gm y ws L r M) (hN:Lies y ws L r M N) {c d:Nat} (hc:c<ws.length) (hd:d<ws.length) (jZ:c≠d) {i j:Nat} {f g:Int->Nat} (hi:i<(ws.getD c []).length) (hj:j<(ws.getD d []).length) (hf:Dl (ws.getD c []) i f) (hg:Dl (ws.getD d []) j g) (hp: ∀k,f k=g k)
  (hl:L d=if aA (rd (ws.getD d []) j)=aA (rd (ws.getD c []) i) then L c else !L c) (hs:f=sq (ws.getD c []) i):
  N c i (f 0)≠N d j (g 0)/\N c i (az (f 0))≠N d j (az (g 0))/\decide (N c i (f 0)<N d j (g 0))=(if L c=true then decide (c<d) else decide (d<c))/\decide (N d j (az (g 0))<N c i (az (f 0)))=(if L c=true then decide (c<d) else decide (d<c)):=by
 have hw:=h.sw c hc
 have hv:=h.sw d hd
 have e:(if aA (f 0)=true then bF (cK y ws L r M c i) (cK y ws L r M d j) else bF (cK y ws L r M d j) (cK y ws L r M c i))=if L c=true then decide (c<d) else decide (d<c):=by
  have es:n_ (ws.getD c []) i=n_ (ws.getD d []) j:=by
   rw[uE h.yd hw hf,uE h.yd hv hg,show f=g from funext hp]
  have f0:f 0=rd (ws.getD c []) i:=by rw[hs];unfold sq;rw[show (i:Int)+0=i by omega]
  unfold cK
  rw[es,gP,gP,f0]
  have iW:L c=if aA (rd (ws.getD c []) i)=aA (rd (ws.getD d []) j) then L d else !L d:=by
   rw[hl]
   cases aA (rd (ws.getD d []) j)<;>cases aA (rd (ws.getD c []) i)<;>cases L c<;>rfl
  have e1:= @uG (ws.getD c []).length (ws.getD d []).length (r c) (r d) c d i j (L c) (aA (rd (ws.getD c []) i)) (aA (rd (ws.getD d []) j)) jZ
  have e2:= @uG (ws.getD d []).length (ws.getD c []).length (r d) (r c) d c j i (L d) (aA (rd (ws.getD d []) j)) (aA (rd (ws.getD c []) i)) (Ne.symm jZ)
  rw[<-hl]at e1
  rw[<-iW]at e2
  rw[e1,e2,hl]
  cases aA (rd (ws.getD d []) j)<;>cases aA (rd (ws.getD c []) i)<;>cases L c<;>rfl
 have:=hN.at h.yd hc hd hi hj hw hv hf hg (hp 0) (fun z=>jZ (Prod.mk.inj z).1)
 rw[e]at this
 rw[<-hp 0]
 exact this
end
theorem wW {n k r i:Nat} (hr:0<r) (hn:n=k*r) (hi:i<n):(n - 1 - i) / r=k - 1 - i / r:=by
 have h1:=Qbu i r
 have h2:=Qbk i hr
 have h3:i / r<k:=by
  rw[Qcu hr];omega
 rw[Nat.div_eq_iff hr]
 obtain ⟨t,rfl⟩: ∃t,k=i / r+1+t:=⟨k - 1 - i / r,by omega⟩
 generalize hq:i / r=q at*
 rw[Nat.add_mul,Nat.add_mul,Nat.one_mul,Qa1 q r]at hn
 have e:q+1+t - 1 - q=t:=by omega
 rw[e]
 generalize r*q=A at*
 generalize t*r=B at*
 omega
theorem B4 {r i j:Nat} (hr:0<r) (h:i%r=j%r) (dR:i≠j):(i / r<j / r↔i<j)/\i / r≠j / r:=by
 have h1:=Qbu i r
 have h2:=Qbu j r
 have B5:i / r≠j / r:=fun z=>dR (by rw[<-h1, <-h2,z,h])
 refine ⟨⟨fun q=>?_,fun q=>?_⟩,B5⟩
 ·have:r*(i / r+1)<=r*(j / r):=Nat.mul_le_mul_left r q
  rw[Nat.mul_add,Nat.mul_one]at this
  omega
 ·refine Classical.byContradiction fun z=>?_
  have h3:j / r+1<=i / r:=by omega
  have:r*(j / r+1)<=r*(i / r):=Nat.mul_le_mul_left r h3
  rw[Nat.mul_add,Nat.mul_one]at this
  omega
theorem Ek {n k r c i j:Nat} {l low:Bool} (hr:0<r) (hn:n=k*r) (hi:i<n) (hj:j<n) (h:i%r=j%r) (dR:i≠j):(if low=true then bF (Ge n r l low c i) (Ge n r l low c j) else bF (Ge n r l low c j) (Ge n r l low c i))=decide (i<j):=by
 obtain ⟨d1,d2⟩:=B4 hr h dR
 have e1:=wW hr hn hi
 have e2:=wW hr hn hj
 have b1:i / r<k:=by rw[Qcu hr];omega
 have b2:j / r<k:=by rw[Qcu hr];omega
 unfold Ge
 cases low<;>cases l<;>simp only[if_true,if_false,Bool.true_eq_false,Qa3]
 ·rw[e1,e2,uF (by omega)];exact decide_eq_decide.mpr (by omega)
 ·rw[uF (by omega)];exact decide_eq_decide.mpr (by omega)
 ·rw[e1,e2,uF (by omega)];exact decide_eq_decide.mpr (by omega)
 ·rw[uF (by omega)];exact decide_eq_decide.mpr (by omega)
noncomputable def fc (y w v:List Nat) (i j:Int):Int:=one (ac y (az (rd w (i - 1))) (rd w i) (az (rd v (j - 1))) (rd v j)=true)+one (0<al y (sq w i) (sq v j) (w.length+v.length))+one (0<al y (sq w i) (bq v j) (w.length+v.length))
section
variable {y:List Nat} {ws:List (List Nat)} {L:Nat->Bool} {r:Nat->Nat} {M:Nat} {N:Nat->Nat->Nat->Nat}
theorem El (ws:List (List Nat)) (N:Nat->Nat->Nat->Nat) (c:Nat) (k:Int):pO ws N c (k+(ws.getD c []).length)=pO ws N c k:=by unfold pO;rw[Az,h_]
theorem uH (ws:List (List Nat)) (N:Nat->Nat->Nat->Nat) (c:Nat) (k:Int):pI ws N c (k+(ws.getD c []).length)=pI ws N c k:=by unfold pI;rw[Az,h_]
theorem gm.root (h:gm y ws L r M) {c:Nat} (hc:c<ws.length):(ws.getD c []).length=(ws.getD c []).length / r c*r c/\0<(ws.getD c []).length / r c:=by
 have hp:=h.rp c hc
 have hl:=Ww.mpr (h.sw c hc).ne
 have h1:=(h.rr c hc (ws.getD c []).length 0).mp (fun k=>by
  have:=congrFun (yV (ws.getD c []) 0) k
  rwa [Qb1]at this)
 rw[Qcq]at h1
 have h2:(ws.getD c []).length%r c=0:=by
  have:((((ws.getD c []).length%r c:Nat)):Int)=0:=by rw[<-h1];rfl
  omega
 have h3:=Qbu (ws.getD c []).length (r c)
 rw[h2,Nat.add_zero,Qa1]at h3
 refine ⟨h3.symm,Nat.pos_of_ne_zero fun z=>?_⟩
 rw[z,Nat.zero_mul]at h3
 omega
theorem sR (h:gm y ws L r M) (hN:Lies y ws L r M N) {c d:Nat} (hc:c<ws.length) (hd:d<ws.length) (jZ:c≠d):
  eI (ws.getD c []).length (ws.getD d []).length (fun i j=>one (n6 (pO ws N c) (pI ws N c) (pO ws N d) (pI ws N d) i j=true))=eI (ws.getD c []).length (ws.getD d []).length (fc y (ws.getD c []) (ws.getD d [])):=by
 have hw:=h.sw c hc
 have hv:=h.sw d hd
 have lw:=Ww.mpr hw.ne
 have lv:=Ww.mpr hv.ne
 have s0: ∀(w:List Nat) (i:Int),sq w i 0=rd w i:=fun w i=>by unfold sq;rw[show i+0=i by omega]
 have b0: ∀(w:List Nat) (i:Int),bq w i 0=az (rd w i):=fun w i=>by unfold bq;rw[show i - 0=i by omega]
 have hS:=hN.two h hc hd
 have hO:=hN.Xj h hc hd
 rw[Eh h.yd hw hv (El ws N c) (uH ws N c) (El ws N d) (uH ws N d) hS hO,Hv h.yd hw hv hS (if L c=true then decide (c<d) else decide (d<c)),Hw h.yd hw hv hO (if L c=true then decide (c<d) else decide (d<c)), <-eY, <-eY]
 ·unfold fc
  omega
 ·intro i j p
  have p0:=p 0
  rw[s0,b0]at p0
  have lo:=dc _ (h.yd.lt _ (hv.rd j)).mem
  have:=hN.Ej h hc hd jZ (bX lw i) (bX lv j) (f:=sq (ws.getD c []) i) (g:=bq (ws.getD d []) j) (.inl (eO hw.ne i).symm) (.inr (Ei hv.ne j).symm) p (by
   rw[cy hw.ne,cy hv.ne,p0,lo,h.l2 c d i j hc hd p]
   cases aA (rd (ws.getD d []) j)<;>rfl) (eO hw.ne i).symm
  rw[s0,b0,aF (h.yd.lt _ (hv.rd _))]at this
  exact this
 ·intro i j p
  have p0:=p 0
  rw[s0,s0]at p0
  have:=hN.Ej h hc hd jZ (bX lw i) (bX lv j) (f:=sq (ws.getD c []) i) (g:=sq (ws.getD d []) j) (.inl (eO hw.ne i).symm) (.inl (eO hv.ne j).symm) p (by
   rw[cy hw.ne,cy hv.ne,p0,if_pos rfl]
   exact (h.l1 c d i j hc hd p).symm) (eO hw.ne i).symm
  rw[s0,s0]at this
  exact this
end
section
variable {y:List Nat} {ws:List (List Nat)} {L:Nat->Bool} {r:Nat->Nat} {M:Nat} {N:Nat->Nat->Nat->Nat}
theorem Lies.inj (h:gm y ws L r M) (hN:Lies y ws L r M N) {c i d j e e':Nat} (hc:c<ws.length) (hd:d<ws.length) (hi:i<(ws.getD c []).length) (hj:j<(ws.getD d []).length) (he:e=rd (ws.getD c []) i\/e=az (rd (ws.getD c []) i)) (vA:e'=rd (ws.getD d []) j\/e'=az (rd (ws.getD d []) j))
  (dR:(c,i,e)≠(d,j,e')):N c i e≠N d j e':=by
 have ly: ∀{c i e:Nat},c<ws.length->(e=rd (ws.getD c []) i\/e=az (rd (ws.getD c []) i))->e∈y:=fun hc he=>he.elim (fun z=>z▸(h.sw _ hc).rd _) fun z=>z▸h.yd.cl _ ((h.sw _ hc).rd _)
 have ye:=ly hc he
 have Xk:=ly hd vA
 by_cases z:e=e'
 ·subst z
  have B5:(c,i)≠(d,j):=fun q=>dR (by rw[(Prod.mk.inj q).1,(Prod.mk.inj q).2])
  have le:=h.yd.lt _ ye
  have lc:=h.yd.lt _ ((h.sw c hc).rd i)
  have ld:=h.yd.lt _ ((h.sw d hd).rd j)
  by_cases l:aA e=true
  ·exact (hN.low c i d j e hc hd hi hj B5 l (he.elim (fun z=> .inl z.symm) fun z=> .inr (by rw[z,aF lc])) (vA.elim (fun z=> .inl z.symm) fun z=> .inr (by rw[z,aF ld]))).1
  ·have:=(hN.low c i d j (az e) hc hd hi hj B5 (by rw[dc _ le.mem];simpa using l) (by rw[aF le];exact he.elim (fun z=> .inr z.symm) fun z=> .inl (by rw[z,aF lc])) (by rw[aF le];exact vA.elim (fun z=> .inr z.symm) fun z=> .inl (by rw[z,aF ld]))).2.1
   rwa [aF le]at this
 ·have n:=bC ye Xk z
  rcases Qam n with q | q
  ·exact Zp (hN.sep c i d j e e' hc hd hi hj he vA q)
  ·exact Qbd (hN.sep d j c i e' e hd hc hj hi vA he q)
theorem AA {n i j:Nat} {k:Int} (hi:i<n) (hj:j<n) (q:p8 n ((i:Int) - k)=p8 n ((j:Int) - k)):i=j:=by
 have lw:0<n:=ZI (Zg _) hi
 have q2:((i:Int) - k)%n=((j:Int) - k)%n:=by rw[<-ik lw, <-ik lw,q]
 have q3:=(Int.emod_sub_cancel_right k).mp q2
 rw[ZD (Qda _) (Int.ofNat_lt.mpr hi),ZD (Qda _) (Int.ofNat_lt.mpr hj)]at q3
 exact Int.ofNat.inj q3
theorem il (h:gm y ws L r M) (hN:Lies y ws L r M N) {c d i j:Nat} (hc:c<ws.length) (hd:d<ws.length) (hi:i<(ws.getD c []).length) (hj:j<(ws.getD d []).length):
  pI ws N c ((i:Int) - 1)≠pO ws N d j/\((c,i)≠(d,j)->pI ws N c ((i:Int) - 1)≠pI ws N d ((j:Int) - 1)/\pO ws N c i≠pO ws N d j):=by
 have hw:=h.sw c hc
 have hv:=h.sw d hd
 have lw:=Ww.mpr hw.ne
 have lv:=Ww.mpr hv.ne
 have vo: ∀{c:Nat} (hw:SW y (ws.getD c [])) (k:Int),rd (ws.getD c []) k=rd (ws.getD c []) (p8 (ws.getD c []).length k:Nat)\/rd (ws.getD c []) k=az (rd (ws.getD c []) (p8 (ws.getD c []).length k:Nat)):=fun hw k=> .inl (cy hw.ne k).symm
 have vi: ∀{c:Nat} (hw:SW y (ws.getD c [])) (k:Int),az (rd (ws.getD c []) k)=rd (ws.getD c []) (p8 (ws.getD c []).length k:Nat)\/az (rd (ws.getD c []) k)=az (rd (ws.getD c []) (p8 (ws.getD c []).length k:Nat)):=fun hw k=> .inr (by rw[cy hw.ne k])
 refine ⟨hN.inj h hc hd (bX lw _) (bX lv _) (vi hw _) (vo hv _) fun q=>?_,fun dR=>⟨hN.inj h hc hd (bX lw _) (bX lv _) (vi hw _) (vi hv _) fun q=>?_,hN.inj h hc hd (bX lw _) (bX lv _) (vo hw _) (vo hv _) fun q=>?_⟩⟩
 ·obtain ⟨q1,q⟩:=Prod.mk.inj q
  obtain ⟨q2,q3⟩:=Prod.mk.inj q
  subst q1
  rw[<-cy hw.ne ((i:Int) - 1), <-cy hw.ne (j:Int),q2]at q3
  exact dG (h.yd.lt _ (hw.rd _)) q3
 ·obtain ⟨q1,q⟩:=Prod.mk.inj q
  subst q1
  exact dR (by rw[AA hi hj (Prod.mk.inj q).1])
 ·obtain ⟨q1,q⟩:=Prod.mk.inj q
  subst q1
  exact dR (by rw[AA (k:=0) hi hj (by rw[Qcq,Qcq];exact (Prod.mk.inj q).1)])
end
theorem Lo {y:List Nat} {f g:Int->Nat} {a:Nat} (hy:Yd y) (hf:kg y f) (hg:kg y g) (h:f a=g a) (hn:f (a+1)≠g (a+1)):lK y g f a=!lK y f g a:=by
 have:fP y f (a+1)≠fP y g (a+1):=fun q=>hn (by
  unfold fP at q
  rw[show (a:Int)+1 - 1=a by omega, <-h]at q
  exact lL (hy.cl _ (hf.bO _)) (hf.bO _) (hg.bO _) q)
 unfold lK
 rw[<-decide_not]
 exact decide_eq_decide.mpr (by omega)
theorem Em {y:List Nat} {f g:Int->Nat} {b:Nat} (hy:Yd y) (hf:kg y f) (hg:kg y g) (h:f (-(b:Int))=g (-(b:Int))) (hn:f (-(b:Int) - 1)≠g (-(b:Int) - 1)):mi y g f b=!mi y f g b:=by
 have:fP y f (-(b:Int))≠fP y g (-(b:Int)):=fun q=>hn (by
  unfold fP at q
  rw[<-h]at q
  have r1:=hf.red (-(b:Int))
  have r2:=hg.red (-(b:Int))
  have c1:=(eN (hy.cl _ (hf.bO (-(b:Int) - 1))) (hf.bO (-(b:Int))) (Ne.symm r1)).2.2
  have c2:=(eN (hy.cl _ (hg.bO (-(b:Int) - 1))) (hf.bO (-(b:Int))) (by rw[h];exact Ne.symm r2)).2.2
  have:=lL (hf.bO (-(b:Int))) (hy.cl _ (hf.bO (-(b:Int) - 1))) (hy.cl _ (hg.bO (-(b:Int) - 1))) (by rw[c1,c2,q])
  exact dA (hy.lt _ (hf.bO _)) (hy.lt _ (hg.bO _)) this)
 unfold mi
 rw[<-decide_not]
 exact decide_eq_decide.mpr (by omega)
theorem En {Q:Int->Prop} {P:Nat->Bool}: ∀{m:Nat},(∀j:Nat,j<m->(Q j↔P j=true))->sm m (fun j=>one (Q j))=((List.range m).filter P).length
 | 0,_=>rfl
 | m+1,h=>by
  show sm m _+one (Q m)=_
  rw[En (m:=m) fun j hj=>h j (by omega),Qak,ZU,UO,cD (h m (by omega))]
  cases e:P m
  ·rw[Zw (by rw[e];decide),bH (by decide)];simp
  ·rw[ZL e,gj rfl];simp
theorem mL (h:Nat->Int): ∀n:Nat,((List.range n).map h).sum=sm n (fun i=>h i.toNat)
 | 0=>rfl
 | n+1=>by
  rw[Qak,Wx,Qdr,mL h n]
  show _=sm n _+h (((n:Nat):Int).toNat)
  rw[YR]
  simp
noncomputable def cl {α:Type} (p:α->α->Bool):List α->Nat
 | []=>0
 | x::r=>(r.filter (p x)).length+cl p r
theorem Eo {α:Type} (p:α->α->Bool) (m:List α): ∀l:List α,(cl p (l++m):Int)=cl p l+cl p m+(l.map fun x=>((m.filter (p x)).length:Int)).sum
 | []=>by show (cl p m:Int)=((0:Nat):Int)+cl p m+0;omega
 | a::l=>by
  show ((((l++m).filter (p a)).length+cl p (l++m):Nat):Int)=(((l.filter (p a)).length+cl p l:Nat):Int)+cl p m+(((a::l).map fun x=>((m.filter (p x)).length:Int)).sum)
  rw[ZU,UO,Zd,ZM,Z2,Z2,Eo p m l,Z2]
  omega
theorem Hx (P:Nat×Nat->Bool) (c n:Nat):((((List.range n).map fun i=>(c,i)).filter P).length:Int)=sm n (fun j=>one (P (c,j.toNat)=true)):=by
 rw[Qdu,QW,En (P:=fun j=>P (c,j)) fun j _=>by rw[YR]]
 rfl
section
variable {y:List Nat} {ws:List (List Nat)} {L:Nat->Bool} {r:Nat->Nat} {M:Nat} {N:Nat->Nat->Nat->Nat}
noncomputable def Rc (ws:List (List Nat)) (N:Nat->Nat->Nat->Nat) (o p:Nat×Nat):Bool:=n6 (pO ws N o.1) (pI ws N o.1) (pO ws N p.1) (pI ws N p.1) o.2 p.2
end
def Lx (f g:Int->Nat):Prop:= ∃m:Nat,f m<g m/\ ∀l:Nat,l<m->f l=g l
theorem uI {w:List Nat} (hw:w≠[]) {i k:Nat} (hi:i<=w.length) (hk:k<w.length):(g7 w i)[k]? =some (rd w ((i:Int)+k)):=by
 rw[oM hi hk]
 unfold Fw
 have:=eL hw ((i:Int)+k)
 rw[<-this]
 congr 1
 have e:(((k+i)%w.length:Nat):Int)=((i:Int)+k)%w.length:=by rw[Qcd,Z2,Int.add_comm]
 omega
theorem Ep {w u:List Nat} (hw:w≠[]) (hl:u.length=w.length) {i j:Nat} (hi:i<=w.length) (hj:j<=w.length):g7 w i<g7 u j↔Lx (sq w i) (sq u j):=by
 have hu:u≠[]:=fun z=>hw (by rw[z]at hl;exact Qae.mp hl.symm)
 have g1: ∀{k:Nat} (hk:k<(g7 w i).length),(g7 w i)[k]=sq w i k:=fun {k} hk=>by
  have:=uI hw hi (k:=k) (by rw[cC]at hk;exact hk)
  rw[Kq hk]at this
  exact Zc this
 have g2: ∀{k:Nat} (hk:k<(g7 u j).length),(g7 u j)[k]=sq u j k:=fun {k} hk=>by
  have:=uI hu (i:=j) (k:=k) (by omega) (by rw[cC]at hk;exact hk)
  rw[Kq hk]at this
  exact Zc this
 rw[List.lt_iff_exists]
 constructor
 ·rintro (⟨_,h⟩ | ⟨m,h1,h2,h3,h4⟩)
  ·rw[cC,cC,hl]at h;omega
  ·refine ⟨m,by rw[<-g1 h1, <-g2 h2];exact h4,fun l iW=>?_⟩
   rw[<-g1 (by omega), <-g2 (by omega)]
   exact h3 l iW
 ·rintro ⟨m,h1,h2⟩
  have hp:=Ww.mpr hw
  have hm:m<w.length:=by
   refine Classical.byContradiction fun z=>?_
   have d:=Qct m w.length
   have c1:=ig (f:=sq w i) (p:=w.length) (fun k=>cW w i k) (m%w.length:Nat) (m / w.length)
   have c2:=ig (f:=sq u j) (p:=w.length) (fun k=>by rw[<-hl];exact cW u j k) (m%w.length:Nat) (m / w.length)
   have e:((m%w.length:Nat):Int)+((m / w.length:Nat):Int)*(w.length:Nat)=m:=by
    rw[Int.mul_comm];exact_mod_cast d
   rw[e]at c1 c2
   rw[c1,c2,h2 (m%w.length) (by have:=Qbk m hp;omega)]at h1
   omega
  refine .inr ⟨m,by rw[cC];exact hm,by rw[cC,hl];exact hm,fun l iW=>?_,?_⟩
  ·rw[g1,g2];exact h2 l iW
  ·rw[g1,g2];exact h1
theorem lO {w:List Nat} (hw:w≠[]): ∃i:Nat,i<w.length/\fF w=g7 w i:=by
 have hp:=Ww.mpr hw
 rcases kF (lG w (w.length - 1)) w with h | h
 ·exact ⟨0,hp,by unfold fF;rw[h,wM]⟩
 ·unfold lG at h
  obtain ⟨k,hk,e⟩:=Zu.mp h
  have:=Qah.mp hk
  exact ⟨k+1,by omega,by unfold fF;exact e.symm⟩
theorem nK {w:List Nat} {i:Nat} (hi:i<w.length): ¬g7 w i<fF w:=by
 unfold fF
 refine kG _ _ _ ?_
 cases i with
 | zero=>rw[wM];exact YO
 | succ i=>exact YQ _ (Zu.mpr ⟨i,Qah.mpr (by omega),rfl⟩)
noncomputable def leads (w:List Nat):Bool:=decide (fF w<fF (eX w))
theorem jM {v:List Nat} (h:v≠[]) (k:Int):sq (eX v) k=bq v (-1 - k):=by
 funext x
 unfold sq bq
 rw[mI h]
 congr 2;omega
theorem p9 {v:List Nat} (h:v≠[]):eX v≠[]:=fun z=>h (Qae.mp (by rw[<-b_ v,z];rfl))
theorem sS {w:List Nat} (hw:w≠[]):leads w=true↔ ∃i:Int, ∀j:Int,Lx (sq w i) (bq w j):=by
 have hp:=Ww.mpr hw
 have hl:=b_ w
 have ht:=p9 hw
 unfold leads
 rw[decide_eq_true_iff]
 constructor
 ·intro h
  obtain ⟨i,hi,ei⟩:=lO hw
  refine ⟨i,fun j=>?_⟩
  have hj:=bX (n:=(eX w).length) (by rw[hl];exact hp) (-1 - j)
  have h2:fF w<g7 (eX w) (p8 (eX w).length (-1 - j)):=List.not_le.mp fun z=>by
   have:=List.lt_of_le_of_lt z h
   exact nK hj this
  rw[ei]at h2
  have h3:=(Ep hw hl (by omega) (by omega)).mp h2
  rw[eO ht,jM hw,show -1 - (-1 - j)=j by omega]at h3
  exact h3
 ·rintro ⟨i,h⟩
  obtain ⟨j,hj,ej⟩:=lO ht
  have h2:=h (-1 - j)
  rw[show (-1:Int) - (j:Int)= -1 - j by omega, <-jM hw, <-eO hw]at h2
  have hi:=bX hp i
  have h3:=(Ep hw hl (by omega) (by omega)).mpr h2
  rw[<-ej]at h3
  exact List.lt_of_le_of_lt (List.not_lt.mp (nK hi)) h3
theorem sU {w v:List Nat} (hw:w≠[]) (hv:v≠[]) {i j:Int} (h:kI w v i j):leads w=leads v:=by
 have e1: ∀k,sq w k=sq v (k - i+j):=fun k=>by
  funext x
  have:=h (k - i+x)
  unfold sq at this ⊢
  rw[show k+x=i+(k - i+x) by omega,this]
  congr 1;omega
 have e2: ∀k,bq w k=bq v (k - i+j):=fun k=>by rw[<-gO, <-gO,e1]
 rw[Qbw,sS hw,sS hv]
 constructor
 ·rintro ⟨a,h⟩
  refine ⟨a - i+j,fun b=>?_⟩
  have:=h (b - j+i)
  rwa [e1,e2,show b - j+i - i+j=b by omega]at this
 ·rintro ⟨a,h⟩
  refine ⟨a - j+i,fun b=>?_⟩
  rw[e1,e2,show a - j+i - i+j=a by omega]
  exact h _
theorem sV {y w:List Nat} (hy:Yd y) (hw:SW y w):leads (eX w)=!leads w:=by
 have hl:AllLt w:=fun c hc=>hy.lt c (hw.bO c hc)
 have ne:fF w≠fF (eX w):=fun z=>by
  obtain ⟨i,hi,ei⟩:=lO hw.ne
  obtain ⟨j,hj,ej⟩:=lO (p9 hw.ne)
  rw[b_]at hj
  have: ∀k:Nat,k<w.length->sq w i k=sq (eX w) j k:=fun k hk=>by
   have h1:=uI hw.ne (i:=i) (k:=k) (by omega) hk
   have h2:=uI (p9 hw.ne) (i:=j) (k:=k) (by rw[b_];omega) (by rw[b_];exact hk)
   rw[<-ei,z,ej,h2]at h1
   exact (Zc h1).symm
  refine yX hy hw i (-1 - j) ?_
  rw[<-jM hw.ne]
  have hp:=Ww.mpr hw.ne
  refine fw (p:=w.length) (q:=w.length) hp hp (fun k=>cW w i k) (fun k=>by rw[<-b_ w];exact cW (eX w) j k) fun n hn=>?_
  by_cases q:n<w.length
  ·exact this n q
  ·have c1:=cW w i ((n - w.length:Nat):Int)
   have c2:=cW (eX w) j ((n - w.length:Nat):Int)
   rw[show ((n - w.length:Nat):Int)+w.length=n by omega]at c1
   rw[b_,show ((n - w.length:Nat):Int)+w.length=n by omega]at c2
   rw[c1,c2]
   exact this _ (by omega)
 unfold leads
 rw[Hj hl, <-decide_not]
 refine decide_eq_decide.mpr ⟨fun h z=>?_,fun h=>?_⟩
 ·exact Qbn _ (List.lt_trans h z)
 ·exact List.not_le.mp fun z=>ne (List.le_antisymm z (List.not_lt.mp h))
theorem B6 {y w v:List Nat} (hy:Yd y) (hw:SW y w) (hv:SW y v) {i j:Int} (h: ∀k,sq w i k=bq v j k):leads v=!leads w:=by
 have:kI w (eX v) i (-1 - j):=fun k=>by rw[jM hv.ne,show -1 - (-1 - j)=j by omega];exact h k
 rw[sU hw.ne (p9 hv.ne) this,sV hy hv,Bool.not_not]
theorem Er {w:List Nat} (hw:w≠[]) {d:Nat}:xO w d↔ ∀k:Int,rd w (k+d)=rd w k:=by
 have hp:=Ww.mpr hw
 have fr: ∀i:Nat,Fw w i=some (rd w i):=fun i=>by
  unfold Fw
  rw[<-eL hw (i:Int)]
  congr 1
 constructor
 ·intro h k
  have:=h (p8 w.length k)
  rw[fr,fr]at this
  have:=Zc this
  rw[cy hw]at this
  rw[<-this, <-ie w (k+d), <-ie w (((p8 w.length k+d:Nat)):Int),Z2,ik hp,Qdh]
 ·intro h i
  rw[fr,fr,Z2,h]
theorem jm {w:List Nat} (hw:w≠[]) {s:Nat} (h:bS w s):0<s/\ ∀i j:Int,kI w w i j↔(i - j)%(s:Int)=0:=by
 rcases h with ⟨z,_⟩ | h'
 ·exact absurd z hw
 have h:bS w s:= .inr h'
 obtain ⟨h1,h2,h3,_⟩:=h'
 have ps: ∀k:Int,rd w (k+s)=rd w k:=(Er hw).mp ((gi hw h2).mp (uk h1 h2 h3))
 have pm: ∀(k t:Int),rd w (k+t*s)=rd w k:=fun k t=>by
  rcases Int.le_total 0 t with q | q
  ·obtain ⟨n,rfl⟩: ∃n:Nat,t=n:=⟨t.toNat,by omega⟩
   exact ig ps k n
  ·obtain ⟨n,rfl⟩: ∃n:Nat,t= -(n:Int):=⟨(-t).toNat,by omega⟩
   have:=ig ps (k+ -(n:Int)*s) n
   rw[<-this]
   congr 1
   rw[Qdp];omega
 refine ⟨h1,fun i j=>⟨fun p=>?_,fun p k=>?_⟩⟩
 ·have pd: ∀k:Int,rd w (k+(i - j))=rd w k:=fun k=>by
   have:=p (k - j)
   unfold sq at this
   rw[show i+(k - j)=k+(i - j) by omega,show j+(k - j)=k by omega]at this
   exact this
  have e:=Qcx (i - j) s
  have hn:=Qaa (i - j) (b:=(s:Int)) (by omega)
  have cT:=Z6 (i - j) (b:=(s:Int)) (by omega)
  refine Classical.byContradiction fun z=>?_
  obtain ⟨d,hd⟩: ∃d:Nat,(i - j)%(s:Int)=d:=⟨((i - j)%(s:Int)).toNat,by omega⟩
  refine bS.least h (j:=d) (by omega) (by omega) ((Er hw).mpr fun k=>?_)
  have q:=pd k
  rw[<-e,hd,Int.mul_comm, <-Int.add_assoc,pm]at q
  exact q
 ·unfold sq
  have e:=Qcx (i - j) s
  rw[p,Qb1,Int.mul_comm]at e
  rw[show i+k=j+k+(i - j) by omega, <-e,pm]
theorem Es {y:List Nat} {ws:List (List Nat)} {r:Nat->Nat} {M:Nat} (hy:Yd y) (hw: ∀c,c<ws.length->SW y (ws.getD c [])) (hr: ∀c,c<ws.length->bS (ws.getD c []) (r c)) (hM: ∀c d,c<ws.length->d<ws.length->(ws.getD c []).length+(ws.getD d []).length<=M):gm y ws (fun c=>leads (ws.getD c [])) r M:=
 ⟨hy,hw,hM,fun c d i j hc hd h=>sU (hw c hc).ne (hw d hd).ne h,fun c d i j hc hd h=>B6 hy (hw c hc) (hw d hd) h,fun c hc=>(jm (hw c hc).ne (hr c hc)).1,fun c hc=>(jm (hw c hc).ne (hr c hc)).2⟩
noncomputable def bs (y w v:List Nat) (i j:Int):Int:=one (ac y (az (rd w (i - 1))) (rd w i) (az (rd v (j - 1))) (rd v j)=true)+one (xP y (sq w i) (sq v j))+one (xP y (sq w i) (bq v j))
noncomputable def SS (y w v:List Nat):Int:=eI w.length v.length (bs y w v)
theorem Jl {y w v:List Nat} (hy:Yd y) (hw:SW y w) (hv:SW y v):eI w.length v.length (fc y w v)=SS y w v:=dS fun i j _ _=>by
 unfold fc bs
 rw[cD (Aq (n:=w.length+v.length) hy (cn hw i) (cn hv j) fun z=>jK hw.ne hv.ne (fun k=>cW w i k) (fun k=>cW v j k) z),cD (Aq (n:=w.length+v.length) hy (cn hw i) (p7 hy hv j) fun z=>jK hw.ne hv.ne (fun k=>cW w i k) (fun k=>p6 v j k) z)]
noncomputable def aR (y:List Nat):List Nat:=(y.filter aA).mergeSort fun a b=>decide (a<=b)
theorem eQ (y:List Nat):(aR y).Perm (y.filter aA):=List.mergeSort_perm _ _
theorem wX (y:List Nat):(aR y).Pairwise (· <= ·):=
 (List.pairwise_mergeSort (le:=fun a b=>decide (a<=b)) (fun a b c h1 h2=>decide_eq_true (ZG (of_decide_eq_true h1) (of_decide_eq_true h2))) (fun a b=>by
  rcases Nat.le_total a b with z | z
  ·rw[decide_eq_true z];rfl
  ·rw[decide_eq_true z,Bool.or_true]) (y.filter aA)).imp fun z=>of_decide_eq_true z
theorem jN {y l:List Nat} (h:l.Perm (y.filter aA)) (p:l.Pairwise (· <= ·)):l=aR y:=BV (h.trans (eQ y).symm) p (wX y)
theorem yY {y:List Nat} (h: ∀c∈y,Lt c):(y.filter fun c=>decide (c∈aQ))=y.filter aA:=Qb6 fun c hc=>(dQ (h c hc)).symm
theorem wY {y:List Nat} (h:Yd y) {e:Nat} (he:e∈y):PyProof.Rows.lo1 e∈aR y:=by
 refine (eQ y).mem_iff.mpr (ZH.mpr ?_)
 rcases h.lt e he with z | z
 ·rw[(aY e z).2.1];exact ⟨he,(aY e z).1⟩
 ·rw[(bB e z).2.1];exact ⟨h.cl e he,(aY _ (bB e z).2.2.2).1⟩
theorem PX: ∀c∈aQ++jb,isUp c=decide (c∈jb):=by decide+kernel
theorem dy {y:List Nat} (h:Yd y):2*(aR y).length=y.length:=by rw[(eQ y).length_eq];exact D4 h
structure Pr where
 t:Addr
 c:Nat
 i:Nat
noncomputable def kh (ps:List Pr):List V:=ps.map fun p=>V.ref p.t
theorem jO (ps:List Pr):(kh ps).length=ps.length:=by unfold kh;rw[QW]
theorem Hy (a b:List Pr):kh a++kh b=kh (a++b):=by unfold kh;rw[Wx]
theorem wZ (a:List Pr) (p:Pr):kh a++[V.ref p.t]=kh (a++[p]):=by unfold kh;rw[Wx];rfl
theorem Hz (a:List Pr):(kh a).reverse=kh a.reverse:=by unfold kh;rw[Qaz]
theorem Et {ps:List Pr} {i:Nat} {x:V} (h:(kh ps)[i]? =some x): ∃p,ps[i]? =some p/\x=V.ref p.t:=by
 unfold kh at h
 rw[Zk]at h
 cases e:ps[i]? with
 | none=>rw[e]at h;cases h
 | some p=>rw[e]at h;cases h;exact ⟨p,rfl,rfl⟩
structure lQ (H:Hp) (p:Pr):Prop where
 tp:H p.t=some (.tup [.int p.c, .int p.i])
 cz:p.c<1000
 iz:p.i<1000
theorem lQ.same {H H':Hp} {p:Pr} (h:lQ H p) (s:ak H H'):lQ H' p:=⟨s _ _ h.tp,h.cz,h.iz⟩
structure Od where
 o:Addr
 ps:List Pr
structure p_ (H:Hp) (o:Od):Prop where
 tp:H o.o=some (.tup (kh o.ps))
 pr: ∀p∈o.ps,lQ H p
 fw:o.ps.length<=100
theorem p_.same {H H':Hp} {o:Od} (h:p_ H o) (s:ak H H'):p_ H' o:=⟨s _ _ h.tp,fun p hp=>(h.pr p hp).same s,h.fw⟩
noncomputable def yZ (os:List Od):List V:=os.map fun o=>V.ref o.o
theorem HA (os:List Od):(yZ os).length=os.length:=by unfold yZ;rw[QW]
theorem w4 (a:List Od) (p:Od):yZ a++[V.ref p.o]=yZ (a++[p]):=by unfold yZ;rw[Wx];rfl
theorem Lp {os:List Od} {i:Nat} {o:Od} (h:os[i]? =some o):(yZ os)[i]? =some (V.ref o.o):=by unfold yZ;rw[Zk,h];rfl
structure uJ (H:Hp) (dr:Addr) (ws:List (List Nat)) (os:List Od):Prop where
 ex: ∃wt ot,H dr=some (.tup [.ref wt, .ref ot])/\H wt=some (.tup (g6 ws))/\H ot=some (.tup (yZ os))
 od: ∀o∈os,p_ H o
theorem uJ.same {H H':Hp} {dr:Addr} {ws:List (List Nat)} {os:List Od} (h:uJ H dr ws os) (s:ak H H'):uJ H' dr ws os:=by
 obtain ⟨⟨wt,ot,h1,h2,h3⟩,g⟩:=h
 exact ⟨⟨wt,ot,s _ _ h1,s _ _ h2,s _ _ h3⟩,fun o ho=>(g o ho).same s⟩
noncomputable def rA (y:List Nat) (os:List Od) (e:Nat):List Pr:=((os[(aR y).idxOf (PyProof.Rows.lo1 e)]?).map Od.ps).getD []
noncomputable def j5 (y:List Nat) (os:List Od) (e:Nat):List Pr:=if isUp e=true then (rA y os e).reverse else rA y os e
theorem jn {y:List Nat} {os:List Od} {e:Nat} (h:Yd y) (he:e∈y) (ho:2*os.length=y.length): ∃o∈os,os[(aR y).idxOf (PyProof.Rows.lo1 e)]? =some o/\rA y os e=o.ps:=by
 have hi:=UR (wY h he)
 have hl:=dy h
 have Jm:(aR y).idxOf (PyProof.Rows.lo1 e)<os.length:=by omega
 exact ⟨os[(aR y).idxOf (PyProof.Rows.lo1 e)],ZF Jm,Kq Jm,by unfold rA;rw[Kq Jm];rfl⟩
structure Pt where
 t:Addr
 c:Nat
 i:Nat
 e:Nat
noncomputable def Gf (ps:List Pt):List V:=ps.map fun p=>V.ref p.t
theorem AB (ps:List Pt):(Gf ps).length=ps.length:=by unfold Gf;rw[QW]
theorem Eu (a:List Pt) (p:Pt):Gf a++[V.ref p.t]=Gf (a++[p]):=by unfold Gf;rw[Wx];rfl
noncomputable def Pt.is (p:Pt):Nat×Nat×Nat:=(p.c,p.i,p.e)
structure rB (H:Hp) (p:Pt):Prop where
 tp:H p.t=some (.tup [.int p.c, .int p.i, .str (S [p.e])])
 cz:p.c<1000
 iz:p.i<1000
 ez:p.e<128
theorem rB.same {H H':Hp} {p:Pt} (h:rB H p) (s:ak H H'):rB H' p:=⟨s _ _ h.tp,h.cz,h.iz,h.ez⟩
theorem rB.upd {H:Hp} {p:Pt} {q:Addr} {o:HO} (h:rB H p) (n:p.t≠q):rB (L2.upd H q o) p:=⟨by rw[ar n];exact h.tp,h.cz,h.iz,h.ez⟩
noncomputable def cX (y:List Nat) (os:List Od) (e:Nat):List (Nat×Nat×Nat):=(j5 y os e).map fun p=>(p.c,p.i,e)
noncomputable def bg (y:List Nat) (os:List Od):List (Nat×Nat×Nat):=y.flatMap (cX y os)
def Ew (K:PySem.W.Frag) (H:Hp) (x:V) (ys:List V):Prop:=(∃p,x= .ref p/\(ba K H p ys\/bY K H p ys))\/ ∃l:List Nat,x= .str (S l)/\ys=cI l
def sX (K:PySem.W.Frag):Sp:=fun vs H Q _=> ∃(b:Addr) (x:V) (ys:List V),vs=[.ref b,x]/\bG H b/\Ew K H x ys/\ys.length<=1000/\ ∀q Ve H',H q=none->q≠b->H' q=some (.lst Ve)->Ve.Perm ys->bG H' b->aN b H H'->Q (.ref q) H'
theorem y0 {K:PySem.W.Frag} {vs:List V} {H:Hp} {Q:VK} {E:XK} (h:sX K vs H Q E):vs.length=2:=by obtain ⟨c,_,_,rfl,_⟩:=h;rfl
theorem y6 {α β:Type} {f:α->β} {ys zs:List β} (h:ys.Perm zs): ∀l:List α,zs=l.map f-> ∃l':List α,ys=l'.map f/\l'.Perm l:=by
 induction h with
 | nil=>intro l e;cases l with
  | nil=>exact ⟨[],rfl,Qb3 _⟩
  | cons a l=>cases e
 | cons x h ih=>
  intro l e
  cases l with
  | nil=>cases e
  | cons a l=>
   injection e with e1 e2
   obtain ⟨l',g1,g2⟩:=ih l e2
   exact ⟨a::l',by rw[g1,e1];rfl,g2.cons a⟩
 | swap x y t=>
  intro l e
  cases l with
  | nil=>cases e
  | cons a l=>
   cases l with
   | nil=>cases e
   | cons b l=>
    injection e with e1 e2
    injection e2 with e2 e3
    exact ⟨b::a::l,by rw[e1,e2,e3];rfl,List.Perm.swap a b l⟩
 | trans h1 h2 i1 i2=>
  intro l e
  obtain ⟨l1,g1,g2⟩:=i2 l e
  obtain ⟨l2,g3,g4⟩:=i1 l1 g1
  exact ⟨l2,g3,g4.trans g2⟩
noncomputable def Pr.pair (p:Pr):Nat×Nat:=(p.c,p.i)
noncomputable def w5 (band l:Nat):Bool:=decide (l=band)||decide (l=az band)
noncomputable def gQ (band c:Nat) (w:List Nat) (n:Nat):List (Nat×Nat):=((List.range n).filter fun i=>w5 band (w.getD i 0)).map fun i=>(c,i)
noncomputable def cE (band:Nat) (ws:List (List Nat)) (n:Nat):List (Nat×Nat):=(List.range n).flatMap fun c=>gQ band c (ws.getD c []) (ws.getD c []).length
theorem qc {band c i l:Nat} {w:List Nat} (h:w[i]? =some l):gQ band c w (i+1)=gQ band c w i++if w5 band l=true then [(c,i)] else []:=by
 have e:w.getD i 0=l:=by rw[Wy,h];rfl
 unfold gQ
 rw[Qak,ZU,Wx]
 congr 1
 by_cases z:w5 band l=true
 ·rw[if_pos z,ZL (by rw[e];exact z)];rfl
 ·rw[if_neg z,Zw (by rw[e];exact z)];rfl
theorem nL {band i:Nat} {ws:List (List Nat)} {w:List Nat} (h:ws[i]? =some w):cE band ws (i+1)=cE band ws i++gQ band i w w.length:=by
 have e:ws.getD i []=w:=by rw[Wy,h];rfl
 unfold cE
 rw[Qak,Z1]
 congr 1
 rw[ZC,Qdj,Zy,e]
structure uK (y:List Nat) (ws:List (List Nat)):Prop where
 xN:ws.length<=4
 all: ∀w∈ws,(∀c∈w,c∈y)/\w.length<=12
def iT (y:List Nat) (ws:List (List Nat)) (os:List Od):Prop:=os.length=(aR y).length/\ ∀(j:Nat) (o:Od) (b:Nat),os[j]? =some o->(aR y)[j]? =some b->(o.ps.map Pr.pair).Perm (cE b ws ws.length)
def ki (_:PySem.W.Frag):Sp:=fun vs H Q _=> ∃(y:List Nat) (dr:Addr) (ws:List (List Nat)) (os:List Od) (e:Nat),vs=[.str (S y), .ref dr, .str (S [e])]/\Yd y/\y.length<=8/\e∈y/\2*os.length=y.length/\uJ H dr ws os/\ ∀(q:Addr) (H':Hp),H q=none->H' q=some (.lst (kh (j5 y os e)))->ak H H'->Q (.ref q) H'
theorem qd {K:PySem.W.Frag} {vs:List V} {H:Hp} {Q:VK} {E:XK} (h:ki K vs H Q E):vs.length=3:=by obtain ⟨c,_,_,_,_,rfl,_⟩:=h;rfl
def sY (_:PySem.W.Frag):Sp:=fun vs H Q _=> ∃(y:List Nat) (dr:Addr) (ws:List (List Nat)) (os:List Od),vs=[.str (S y), .ref dr]/\Yd y/\y.length<=8/\2*os.length=y.length/\uJ H dr ws os/\ ∀(q:Addr) (ps:List Pt) (H':Hp),H q=none->H' q=some (.lst (Gf ps))->(∀p∈ps,rB H' p/\p.t≠q)->ps.map Pt.is=bg y os->ps.length<=800->ak H H'->Q (.ref q) H'
theorem y7 {K:PySem.W.Frag} {vs:List V} {H:Hp} {Q:VK} {E:XK} (h:sY K vs H Q E):vs.length=2:=by obtain ⟨c,_,_,_,rfl,_⟩:=h;rfl
theorem HB {y:List Nat} {os:List Od} {e:Nat} {p:Pr} (h:Yd y) (he:e∈y) (ho:2*os.length=y.length) (hp:p∈j5 y os e): ∃o∈os,p∈o.ps:=by
 obtain ⟨o,h1,h2,h3⟩:=jn h he ho
 refine ⟨o,h1,?_⟩
 unfold j5 at hp
 rw[h3]at hp
 split at hp
 ·exact Qbr.mp hp
 ·exact hp
theorem HC {H:Hp} {y:List Nat} {os:List Od} {e:Nat} (h:Yd y) (he:e∈y) (ho:2*os.length=y.length) (hd: ∀o∈os,p_ H o):(j5 y os e).length<=100:=by
 obtain ⟨o,h1,h2,h3⟩:=jn h he ho
 have:=(hd o h1).fw
 unfold j5
 rw[h3]
 split
 ·rw[Zz];exact this
 ·exact this
theorem bQ.box {H H':Hp} {b:Addr} (h:bG H b) (s:aN b H H'):bQ H H':=fun c xs e=>s c _ e fun z=>by
 obtain ⟨x,y,g⟩:=h
 rw[z,g]at e;cases e
theorem lQ.ts {H H':Hp} {p:Pr} (h:lQ H p) (s:bQ H H'):lQ H' p:=⟨s _ _ h.tp,h.cz,h.iz⟩
theorem p_.ts {H H':Hp} {o:Od} (h:p_ H o) (s:bQ H H'):p_ H' o:=⟨s _ _ h.tp,fun p hp=>(h.pr p hp).ts s,h.fw⟩
theorem Ex {band l:Nat} (hb:band∈aQ) (hl:Lt l):decide (PyProof.Rows.lo1 l=band)=w5 band l:=by
 unfold w5
 rcases hl with h | h
 ·have e:=(aY l h).2.1
  have n:l≠az band:=fun z=>sN _ (aY band hb).2.2 (z▸h)
  rw[e,decide_eq_false n,Qc6]
 ·have e:=(bB l h).2.1
  have n:l≠band:=fun z=>sN l h (z▸hb)
  rw[e,decide_eq_false n,Qc8]
  refine decide_eq_decide.mpr ⟨fun z=>by rw[<-z,aF (.inr h)],fun z=>by rw[z,aF (.inl hb)]⟩
noncomputable def sg (y:List Nat) (x z:Nat):Int:=if x=z then 0 else if gr y (az x) (az z) x=gr y (az x) z x then 0 else if gr y (az x) (az z) x=true then 1 else -1
theorem HD (y:List Nat) (x:Nat):sg y x x=0:=by unfold sg;rw[if_pos rfl]
theorem HE {y:List Nat} (hy:Yd y) {x z:Nat} (hx:x∈y) (hz:z∈y) (Rf:x∈aQ) (Jb:z∈aQ):sg y z x= - sg y x z:=by
 by_cases xz:x=z
 ·subst xz;rw[HD];rfl
 have FY:=hy.cl x hx
 have Jn:=hy.cl z hz
 have n1:az x≠x:=dG (hy.lt x hx)
 have n2:az z≠z:=dG (hy.lt z hz)
 have n3:az x≠z:=fun q=>jI x Rf (q▸Jb)
 have n4:az z≠x:=fun q=>jI z Jb (q▸Rf)
 have n5:az x≠az z:=fun q=>xz (dA (hy.lt x hx) (hy.lt z hz) q)
 unfold sg
 rw[if_neg xz,if_neg (Ne.symm xz),fA hy.nd FY Jn hx n5 n1 n4,fA hy.nd FY hz hx n3 n1 (Ne.symm xz),fA hy.nd Jn FY hz (Ne.symm n5) n2 n3,fA hy.nd Jn hx hz n4 n2 xz]
 have m1:=bC FY hx n1
 have m2:=bC Jn hz n2
 have m3:=bC FY hz n3
 have m4:=bC Jn hx n4
 have m5:=bC FY Jn n5
 have m6:=bC hx hz xz
 generalize y.idxOf (az x)=a at*
 generalize y.idxOf x=b at*
 generalize y.idxOf (az z)=c at*
 generalize y.idxOf z=d at*
 by_cases q1:iK a c b<;>by_cases q2:iK a d b<;>by_cases q3:iK c a d<;>by_cases q4:iK c b d<;>simp only[q1,q2,q3,q4,decide_true,decide_false]<;>first | rfl | (exfalso;unfold iK at q1 q2 q3 q4;omega)
noncomputable def cr (s:Nat->Nat->Int) (f g:Nat->Int) (as bs:List Nat):Int:=(as.map fun x=>f x*(bs.map fun z=>g z*s x z).sum).sum
theorem lR: ∀l:List Nat,(l.map fun _=>(0:Int)).sum=0
 | []=>rfl
 | a::l=>by rw[Zd,ZM,lR l];rfl
theorem sum_add (f g:Nat->Int): ∀l:List Nat,(l.map fun x=>f x+g x).sum=(l.map f).sum+(l.map g).sum
 | []=>rfl
 | a::l=>by rw[Zd,ZM,sum_add f g l,Zd,Zd,ZM,ZM];omega
theorem jP (c:Int) (f:Nat->Int): ∀l:List Nat,(l.map fun x=>c*f x).sum=c*(l.map f).sum
 | []=>by rw[Qb0,Qb0,List.sum_nil,Int.mul_zero]
 | a::l=>by rw[Zd,ZM,jP c f l,Zd,ZM,Int.mul_add]
theorem AD (s:Nat->Nat->Int) (f g:Nat->Int) (bs:List Nat): ∀as:List Nat,cr s f g as bs=cr (fun z x=>s x z) g f bs as
 | []=>by
  unfold cr
  have e:(bs.map fun z=>g z*(([]:List Nat).map fun x=>f x*s x z).sum)=bs.map fun _=>(0:Int):=ZJ fun z _=>by rw[Qb0,List.sum_nil,Int.mul_zero]
  rw[e,lR]
  rfl
 | a::as=>by
  have ih:=AD s f g bs as
  unfold cr at ih ⊢
  rw[Zd,ZM,ih]
  have e:(bs.map fun z=>g z*((a::as).map fun x=>f x*s x z).sum)=bs.map fun z=>f a*(g z*s a z)+g z*(as.map fun x=>f x*s x z).sum:=ZJ fun z _=>by
   rw[Zd,ZM,Int.mul_add,Int.mul_left_comm]
  rw[e,sum_add,jP]
theorem Lq {s t:Nat->Nat->Int} {f g:Nat->Int} {as bs:List Nat} (h: ∀x∈as, ∀z∈bs,t x z= - s x z):cr t f g as bs= - cr s f g as bs:=by
 have e:cr t f g as bs=(as.map fun x=>(-1)*(f x*(bs.map fun z=>g z*s x z).sum)).sum:=by
  unfold cr
  congr 1
  refine ZJ fun x hx=>?_
  have e2:(bs.map fun z=>g z*t x z)=bs.map fun z=>(-1)*(g z*s x z):=ZJ fun z hz=>by rw[h x hx z hz,Int.mul_neg,Qdp,Int.one_mul]
  rw[e2,jP,Int.mul_left_comm]
 rw[e,jP]
 unfold cr
 rw[Qdp,Int.one_mul]
theorem w6 {y bs:List Nat} (hy:Yd y) (hb: ∀x∈bs,x∈y/\x∈aQ) (f g:Nat->Int):cr (sg y) g f bs bs= - cr (sg y) f g bs bs:=by
 rw[AD]
 exact Lq fun x hx z hz=>HE hy (hb x hx).1 (hb z hz).1 (hb x hx).2 (hb z hz).2
theorem Vf {α:Type} {l:List α} (h:l.Nodup) {i j:Nat} (hi:i<l.length) (hj:j<l.length) (e:l[i]=l[j]):i=j:=by
 have hp:=Qbg.mp h
 rcases Nat.lt_trichotomy i j with z | z | z
 ·exact absurd e (hp i j hi hj z)
 ·exact z
 ·exact absurd e.symm (hp j i hj hi z)
theorem mM {l:List (Nat×Nat×Nat)} (h:l.Nodup) {n:Nat} {p:Nat×Nat×Nat} (e:l[n]? =some p):l.idxOf p=n:=by
 obtain ⟨hn,e2⟩:=Kr.mp e
 have hm:p∈l:=UQ e
 have hi:=UR hm
 exact Vf h hi hn ((ZO hi).trans e2.symm)
theorem qe {α:Type} {f:Nat->List α} (g:α->Nat): ∀{l:List Nat},l.Nodup->(∀e∈l,(f e).Nodup)->(∀e∈l, ∀p∈f e,g p=e)->(l.flatMap f).Nodup
 | [],_,_,_=>Qcy
 | a::l,hn,h1,h2=>by
  obtain ⟨n1,n2⟩:=ZK.mp hn
  rw[ZC,Qag]
  refine ⟨h1 a YO,qe g n2 (fun e he=>h1 e (YQ _ he)) (fun e he=>h2 e (YQ _ he)),fun x hx y hy z=>?_⟩
  subst z
  obtain ⟨e,he,Xl⟩:=Zx.mp hy
  have g1:=h2 a YO x hx
  have g2:=h2 e (YQ _ he) x Xl
  exact n1 (by rw[<-g1,g2];exact he)
theorem Ey (band c:Nat) (w:List Nat) (n:Nat):(gQ band c w n).Nodup:=by
 unfold gQ
 show (List.map _ _).Pairwise (· ≠ ·)
 rw[Z8]
 exact (List.nodup_range.filter _).imp fun {i j} h z=>h (by cases z;rfl)
theorem mN (band:Nat) (ws:List (List Nat)) (n:Nat):(cE band ws n).Nodup:=
 qe Prod.fst List.nodup_range (fun c _=>Ey _ _ _ _) fun c _ p hp=>by
  unfold gQ at hp
  obtain ⟨i,_,rfl⟩:=Zu.mp hp
  rfl
theorem y8 {band c i n:Nat} {ws:List (List Nat)} (hc:c<n) (hi:i<(ws.getD c []).length) (hb:w5 band ((ws.getD c []).getD i 0)=true):(c,i)∈cE band ws n:=
 Zx.mpr ⟨c,Qah.mpr hc,Zu.mpr ⟨i,ZH.mpr ⟨Qah.mpr hi,hb⟩,rfl⟩⟩
theorem iT.at {y:List Nat} {ws:List (List Nat)} {os:List Od} {e:Nat} (h:Yd y) (ho:iT y ws os) (he:e∈y):(((j5 y os e).map Pr.pair)).Perm (cE (PyProof.Rows.lo1 e) ws ws.length):=by
 have hl:=dy h
 have B7:=ho.1
 obtain ⟨o,o1,o2,o3⟩:=jn (os:=os) h he (by omega)
 have hm:=wY h he
 have hb:(aR y)[(aR y).idxOf (PyProof.Rows.lo1 e)]? =some (PyProof.Rows.lo1 e):=by
  have hi:=UR hm
  rw[Kq hi,ZO hi]
 have p:=ho.2 _ o _ o2 hb
 unfold j5
 rw[o3]
 split
 ·rw[Qaz]
  exact (List.reverse_perm _).trans p
 ·exact p
theorem uL {y:List Nat} {ws:List (List Nat)} {os:List Od} (h:Yd y) (ho:iT y ws os):(bg y os).Nodup:=by
 refine qe (fun p=>p.2.2) h.nd (fun e he=>?_) fun e _ p hp=>?_
 ·have hn:=(ho.at h he).nodup_iff.mpr (mN _ _ _)
  have e1:cX y os e=((j5 y os e).map Pr.pair).map fun x=>(x.1,x.2,e):=by unfold cX;rw[ZV];rfl
  rw[e1]
  show (List.map _ _).Pairwise (· ≠ ·)
  rw[Z8]
  exact hn.imp fun {a b} g z=>g (by cases a;cases b;cases z;rfl)
 ·unfold cX at hp
  obtain ⟨x,_,rfl⟩:=Zu.mp hp
  rfl
theorem sZ {y:List Nat} {ws:List (List Nat)} {os:List Od} {c i l e:Nat} {w:List Nat} (h:Yd y) (ho:iT y ws os) (hw:ws[c]? =some w) (hl:w[i]? =some l) (HF:l∈y) (he:e=l\/e=az l):(c,i,e)∈bg y os:=by
 have cT:=h.lt l HF
 have Gg:e∈y:=by rcases he with rfl | rfl;exact HF;exact h.cl l HF
 have e1:PyProof.Rows.lo1 e=PyProof.Rows.lo1 l:=by
  rcases he with rfl | rfl
  ·rfl
  ·rcases cT with g | g
   ·rw[(bB _ (aY l g).2.2).2.1,(aY l g).2.1,aF (.inl g)]
   ·rw[(aY _ (bB l g).2.2.2).2.1,(bB l g).2.1]
 have hb:PyProof.Rows.lo1 l∈aQ:=by
  rcases cT with g | g
  ·rw[(aY l g).2.1];exact g
  ·rw[(bB l g).2.1];exact (bB l g).2.2.2
 have HG:w5 (PyProof.Rows.lo1 l) l=true:=by rw[<-Ex hb cT];exact decide_eq_true rfl
 have d1:ws.getD c []=w:=by rw[Wy,hw];rfl
 have d2:w.getD i 0=l:=by rw[Wy,hl];rfl
 have hm:(c,i)∈(j5 y os e).map Pr.pair:=by
  rw[(ho.at h Gg).mem_iff,e1]
  exact y8 (Kr.mp hw).1 (by rw[d1];exact (Kr.mp hl).1) (by rw[d1,d2];exact HG)
 obtain ⟨p,hp,ep⟩:=Zu.mp hm
 refine Zx.mpr ⟨e,Gg,Zu.mpr ⟨p,hp,?_⟩⟩
 have e2:p.c=c:=congrArg Prod.fst ep
 have e3:p.i=i:=congrArg Prod.snd ep
 rw[e2,e3]
noncomputable def uM (p:Nat×Nat×Nat):List Key:=[Sum.inl (p.1:Int),Sum.inl (p.2.1:Int),Sum.inr (S [p.2.2])]
theorem Ez {p q:Nat×Nat×Nat} (h:uM p=uM q):p=q:=by
 unfold uM at h
 injection h with h1 h2
 injection h2 with h2 h3
 injection h3 with h3 _
 have a1:(p.1:Int)=q.1:=Sum.inl.inj h1
 have a2:(p.2.1:Int)=q.2.1:=Sum.inl.inj h2
 have a3:[p.2.2]=[q.2.2]:=by
  have:=Sum.inr.inj h3
  rw[<-fM [p.2.2],this,fM]
 have a4:p.2.2=q.2.2:=by simpa using a3
 exact Prod.ext (by omega) (Prod.ext (by omega) a4)
def Nums (ps:List (Nat×Nat×Nat)) (aP:List (List Key×V)) (n:Nat):Prop:= ∀p∈ps.take n,dq aP (uM p)=some (.int (ps.idxOf p:Nat))
theorem Nums.put {ps:List (Nat×Nat×Nat)} {aP:List (List Key×V)} {n:Nat} {p:Nat×Nat×Nat} (h:Nums ps aP n) (hn:ps.Nodup) (e:ps[n]? =some p):Nums ps (putK aP (uM p) (.int (n:Nat))) (n+1):=fun r hr=>by
 rw[DA]
 by_cases z:r=p
 ·rw[if_pos (by rw[z]),z,mM hn e]
 ·rw[if_neg fun g=>z (Ez g)]
  rw[<-take_snoc e]at hr
  exact h r ((Zh.mp hr).resolve_right fun g=>z (Wv.mp g))
noncomputable def oQ (n i:Nat):Nat:=if i=0 then n - 1 else i - 1
theorem uN {n i:Nat} (h:i<n):oQ n i<n:=by unfold oQ;split<;>omega
theorem AE {n i:Nat} (h:i<n):((i:Int) - 1)%(n:Int)=((oQ n i:Nat):Int):=by
 unfold oQ
 split
 ·rename_i z
  subst z
  have:((0:Nat):Int) - 1+(n:Int)=((n - 1:Nat):Int):=by omega
  rw[<-Qa2,this]
  exact ZD (by omega) (by omega)
 ·have:(i:Int) - 1=((i - 1:Nat):Int):=by omega
  rw[this]
  exact ZD (by omega) (by omega)
noncomputable abbrev C4:=Nat×Nat×Nat×Nat
noncomputable def bp (ps:List (Nat×Nat×Nat)) (c:Nat) (w:List Nat) (i:Nat):C4:=(c,i,ps.idxOf (c,oQ w.length i,az (w.getD (oQ w.length i) 0)),ps.idxOf (c,i,w.getD i 0))
noncomputable def eB (ps:List (Nat×Nat×Nat)) (c:Nat) (w:List Nat) (n:Nat):List C4:=(List.range n).map (bp ps c w)
noncomputable def eE (ps:List (Nat×Nat×Nat)) (ws:List (List Nat)) (n:Nat):List C4:=(List.range n).flatMap fun c=>eB ps c (ws.getD c []) (ws.getD c []).length
theorem w9 (ps:List (Nat×Nat×Nat)) (c:Nat) (w:List Nat) (n:Nat):eB ps c w (n+1)=eB ps c w n++[bp ps c w n]:=by unfold eB;rw[Qak,Wx];rfl
theorem iq {ps:List (Nat×Nat×Nat)} {ws:List (List Nat)} {i:Nat} {w:List Nat} (h:ws[i]? =some w):eE ps ws (i+1)=eE ps ws i++eB ps i w w.length:=by
 have e:ws.getD i []=w:=by rw[Wy,h];rfl
 unfold eE
 rw[Qak,Z1]
 congr 1
 rw[ZC,Qdj,Zy,e]
noncomputable def xQ (lo hi x:Int):Bool:=decide (lo<x)&&decide (x<hi)
noncomputable def w_ (p q r s:Int):Bool:=!decide (xQ (if q<p then q else p) (if q>p then q else p) r=xQ (if q<p then q else p) (if q>p then q else p) s)
noncomputable def meets (x y:C4):Bool:=w_ x.2.2.1 x.2.2.2 y.2.2.1 y.2.2.2
structure Q4 where
 t:Addr
 v:C4
noncomputable def jQ (qs:List Q4):List V:=qs.map fun q=>V.ref q.t
theorem gn (qs:List Q4):(jQ qs).length=qs.length:=by unfold jQ;rw[QW]
theorem xa (a:List Q4) (q:Q4):jQ a++[V.ref q.t]=jQ (a++[q]):=by unfold jQ;rw[Wx];rfl
theorem uO {qs:List Q4} {i:Nat} {x:V} (h:(jQ qs)[i]? =some x): ∃q,qs[i]? =some q/\x=V.ref q.t:=by
 unfold jQ at h
 rw[Zk]at h
 cases e:qs[i]? with
 | none=>rw[e]at h;cases h
 | some p=>rw[e]at h;cases h;exact ⟨p,rfl,rfl⟩
def kJ (H:Hp) (q:Q4):Prop:=H q.t=some (.tup [.int q.v.1, .int q.v.2.1, .int q.v.2.2.1, .int q.v.2.2.2])
theorem kJ.ts {H H':Hp} {q:Q4} (h:kJ H q) (s:bQ H H'):kJ H' q:=s _ _ h
noncomputable def bI (y:List Nat) (ws:List (List Nat)) (os:List Od):List C4:=eE (bg y os) ws ws.length
theorem nM {ps:List (Nat×Nat×Nat)} {ws:List (List Nat)} (hw: ∀w∈ws,w.length<=12): ∀n,n<=ws.length->(eE ps ws n).length<=12*n
 | 0,_=>UP _
 | n+1,h=>by
  have hn:n<ws.length:=by omega
  rw[iq (Kq hn),UO]
  have h1:=nM (ps:=ps) hw n (by omega)
  have h3:=hw _ (ZF hn)
  unfold eB
  rw[QW,Qba]
  omega
theorem B8 {y:List Nat} {ws:List (List Nat)} {os:List Od} (h:uK y ws):(bI y ws os).length<=48:=by
 have:=nM (ps:=bg y os) (fun w hw=>(h.all w hw).2) ws.length (UP _)
 have:=h.xN
 unfold bI
 omega
theorem PY {y:List Nat} {os:List Od} {p:Pt} {ps:List Pt} (h:ps.map Pt.is=bg y os) {i:Nat} (hi:ps[i]? =some p):(bg y os)[i]? =some p.is:=by rw[<-h,Zk,hi];rfl
def gR (_:PySem.W.Frag):Sp:=fun vs H Q _=> ∃(w:List Nat) (c i:Nat),vs=[.str (S w), .int c, .int i]/\(∀l∈w,l<128)/\i<w.length/\w.length<=1000/\ ∀(t t1 t2:Addr) (H':Hp),H' t=some (.tup [.ref t1, .ref t2])->H' t1=some (.tup ((uM (c,oQ w.length i,az (w.getD (oQ w.length i) 0))).map kV))->H' t2=some (.tup ((uM (c,i,w.getD i 0)).map kV))->ak H H'->Q (.ref t) H'
theorem lS {K:PySem.W.Frag} {vs:List V} {H:Hp} {Q:VK} {E:XK} (h:gR K vs H Q E):vs.length=3:=by obtain ⟨c,_,_,rfl,_⟩:=h;rfl
def qf (_:PySem.W.Frag):Sp:=fun vs H Q _=> ∃(y:List Nat) (dr:Addr) (ws:List (List Nat)) (os:List Od),vs=[.str (S y), .ref dr]/\Yd y/\y.length<=8/\uK y ws/\iT y ws os/\uJ H dr ws os/\ ∀(q:Addr) (qs:List Q4) (H':Hp),H q=none->H' q=some (.lst (jQ qs))->(∀x∈qs,kJ H' x)->qs.map Q4.v=bI y ws os->ak H H'->Q (.ref q) H'
theorem xb {K:PySem.W.Frag} {vs:List V} {H:Hp} {Q:VK} {E:XK} (h:qf K vs H Q E):vs.length=2:=by obtain ⟨c,_,_,_,rfl,_⟩:=h;rfl
def iL (_:PySem.W.Frag):Sp:=fun vs H Q _=> ∃(a b:Q4),vs=[.ref a.t, .ref b.t]/\kJ H a/\kJ H b/\Q (.bl (meets a.v b.v)) H
theorem mO {K:PySem.W.Frag} {vs:List V} {H:Hp} {Q:VK} {E:XK} (h:iL K vs H Q E):vs.length=2:=by obtain ⟨c,_,rfl,_⟩:=h;rfl
theorem AF {y:List Nat} {os:List Od} {i m e:Nat} {p:Pr} (he:y[i]? =some e) (hp:(j5 y os e)[m]? =some p):(bg y os)[((y.take i).flatMap (cX y os)).length+m]? =some (p.c,p.i,e):=by
 obtain ⟨hi,e1⟩:=Kr.mp he
 have hy:y=y.take i++e::y.drop (i+1):=by
  rw[<-e1, <-Z4 hi,Z5]
 have h1:bg y os=(y.take i).flatMap (cX y os)++(cX y os e++(y.drop (i+1)).flatMap (cX y os)):=by
  unfold bg
  conv=>lhs;arg 2;rw[hy]
  rw[Z1,ZC]
 have h2:(cX y os e)[m]? =some (p.c,p.i,e):=by unfold cX;rw[Zk,hp];rfl
 rw[h1,ZT (Nat.le_add_right _ _),Nat.add_sub_cancel_left,ZE (Kr.mp h2).1]
 exact h2
structure EA (y:List Nat) (ws:List (List Nat)) (L:Nat->Bool) (r:Nat->Nat) (M:Nat) (os:List Od):Prop where
 ok:iT y ws os
 asc: ∀o∈os,(o.ps.map Pr.pair).Pairwise fun s t=>bF (cK y ws L r M s.1 s.2) (cK y ws L r M t.1 t.2)=true
theorem jo: ∀c∈aQ++jb,PyProof.Rows.lo1 (az c)=PyProof.Rows.lo1 c/\isUp c=!aA c:=by decide+kernel
theorem mP {α:Type} {y:List Nat} (F:Nat->List α) {k k' e:Nat} (he:y[k]? =some e) (h:k<k'):((y.take k).flatMap F).length+(F e).length<=((y.take k').flatMap F).length:=by
 have e1:(y.take k').take (k+1)=y.take (k+1):=by rw[List.take_take,Z_ (by omega)]
 have e2:y.take k'=y.take (k+1)++(y.take k').drop (k+1):=by rw[<-e1,Z5]
 rw[e2,Z1,UO, <-take_snoc he,Z1,UO]
 simp
theorem mQ {y:List Nat} {ws:List (List Nat)} {os:List Od} (hy:Yd y) (ho:iT y ws os) (hs: ∀c,c<ws.length->SW y (ws.getD c [])) {c i e:Nat} (hc:c<ws.length) (hi:i<(ws.getD c []).length) (he:e=rd (ws.getD c []) i\/e=az (rd (ws.getD c []) i)):
  e∈y/\ ∃(m:Nat) (p:Pr),(j5 y os e)[m]? =some p/\p.pair=(c,i)/\(bg y os).idxOf (c,i,e)=((y.take (y.idxOf e)).flatMap (cX y os)).length+m:=by
 have hw:=hs c hc
 have ey:e∈y:=he.elim (fun z=>z▸hw.rd _) fun z=>z▸hy.cl _ (hw.rd _)
 have vB:=sZ hy ho (c:=c) (i:=i) (l:=rd (ws.getD c []) i) (e:=e) (w:=ws.getD c []) (by rw[Wy,Kq hc];rfl) (fO hi) (hw.rd _) he
 unfold bg at vB
 obtain ⟨e',vA,hp⟩:=Zx.mp vB
 unfold cX at hp
 obtain ⟨p,jq,kS⟩:=Zu.mp hp
 obtain ⟨q1,PZ⟩:=Prod.mk.inj kS
 obtain ⟨q2,q3⟩:=Prod.mk.inj PZ
 clear PZ
 subst q3
 obtain ⟨m,hm,em⟩:=Qbj jq
 have y9:(j5 y os e')[m]? =some p:=by rw[Kq hm,em]
 refine ⟨ey,m,p,y9,by unfold Pr.pair;rw[q1,q2],?_⟩
 have hk:y[y.idxOf e']? =some e':=by rw[Kq (UR ey),ZO]
 have:=AF (os:=os) hk y9
 rw[q1,q2]at this
 exact mM (uL hy ho) this
theorem qg (y:List Nat) (os:List Od) (e:Nat):(cX y os e).length=(j5 y os e).length:=by unfold cX;rw[QW]
theorem EB {l:List Pr} {y:List Nat} {ws:List (List Nat)} {L:Nat->Bool} {r:Nat->Nat} {M:Nat} (h:(l.map Pr.pair).Pairwise fun s t=>bF (cK y ws L r M s.1 s.2) (cK y ws L r M t.1 t.2)=true) {m n c i d j:Nat} {p q:Pr} (hp:l[m]? =some p) (hq:l[n]? =some q) (ep:p.pair=(c,i)) (eq:q.pair=(d,j)) (dR:(c,i)≠(d,j)):
  m≠n/\decide (m<n)=bF (cK y ws L r M c i) (cK y ws L r M d j):=by
 have Rg:m≠n:=fun z=>dR (by rw[z,hq]at hp;rw[<-ep, <-eq,Zc hp])
 obtain ⟨hm,em⟩:=Kr.mp hp
 obtain ⟨hn,en⟩:=Kr.mp hq
 refine ⟨Rg,?_⟩
 have key:=Qbg.mp h
 by_cases z:m<n
 ·have:=key m n (by rw[QW];exact hm) (by rw[QW];exact hn) z
  rw[Qbf,Qbf,em,en,ep,eq]at this
  rw[decide_eq_true z]
  exact this.symm
 ·have:=key n m (by rw[QW];exact hn) (by rw[QW];exact hm) (by omega)
  rw[Qbf,Qbf,em,en,ep,eq]at this
  rw[decide_eq_false z]
  exact (mJ this).1.symm
theorem oR {α:Type} {l:List α} {m:Nat} {p:α} (h:l.reverse[m]? =some p):m<l.length/\l[l.length - 1 - m]? =some p:=by
 obtain ⟨hm,_⟩:=Kr.mp h
 rw[Zz]at hm
 rw[Qbq hm]at h
 exact ⟨hm,h⟩
theorem lies_of {y:List Nat} {ws:List (List Nat)} {L:Nat->Bool} {r:Nat->Nat} {M:Nat} {os:List Od} (hy:Yd y) (hs: ∀c,c<ws.length->SW y (ws.getD c [])) (h:EA y ws L r M os):Lies y ws L r M fun c i e=>(bg y os).idxOf (c,i,e):=by
 have ol:2*os.length=y.length:=by rw[h.ok.1];exact dy hy
 refine ⟨fun c i d j e e' hc hd hi hj he vA cT=>?_,fun c i d j x hc hd hi hj dR hx O2 P0=>?_⟩
 ·obtain ⟨ey,m,p,hm,_,e1⟩:=mQ hy h.ok hs hc hi he
  obtain ⟨Tr,m',p',y9,_,e2⟩:=mQ hy h.ok hs hd hj vA
  rw[e1,e2]
  have hk:y[y.idxOf e]? =some e:=by rw[Kq (UR ey),ZO]
  have:=mP (cX y os) hk cT
  rw[qg]at this
  have Ab:=(Kr.mp hm).1
  omega
 ·have lc:Lt (rd (ws.getD c []) i):=hy.lt _ ((hs c hc).rd _)
  have ld:Lt (rd (ws.getD d []) j):=hy.lt _ ((hs d hd).rd _)
  have vi:(x=rd (ws.getD c []) i\/x=az (rd (ws.getD c []) i))/\(az x=rd (ws.getD c []) i\/az x=az (rd (ws.getD c []) i))/\Lt x:=by
   rcases O2 with z | z
   ·exact ⟨.inl z.symm, .inr (by rw[z]),z▸lc⟩
   ·have Xm:x<128/\x∈aQ:=by
     have h9:97<=x/\x<=122:=by unfold aA at hx;simpa using hx
     refine ⟨by omega,?_⟩
     have: ∀k,k<26->k+97∈aQ:=by decide
     have h8:=this (x - 97) (by omega)
     rwa [show x - 97+97=x by omega]at h8
    have lx:Lt x:= .inl Xm.2
    exact ⟨.inr (by rw[z,aF lx]), .inl z.symm,lx⟩
  have lx:=vi.2.2
  have vj:(x=rd (ws.getD d []) j\/x=az (rd (ws.getD d []) j))/\(az x=rd (ws.getD d []) j\/az x=az (rd (ws.getD d []) j)):=by
   rcases P0 with z | z
   ·exact ⟨.inl z.symm, .inr (by rw[z])⟩
   ·exact ⟨.inr (by rw[z,aF lx]), .inl z.symm⟩
  obtain ⟨xy,m,p,hm,ep,e1⟩:=mQ hy h.ok hs hc hi vi.1
  obtain ⟨_,n,q,hn,eq,e2⟩:=mQ hy h.ok hs hd hj vj.1
  obtain ⟨_,m',p',y9,JO,By⟩:=mQ hy h.ok hs hc hi vi.2.1
  obtain ⟨_,n',q',JP,Ts,HH⟩:=mQ hy h.ok hs hd hj vj.2
  obtain ⟨o,P4,_,eo⟩:=jn hy xy ol
  have Xn:isUp x=false:=by rw[(jo x lx.mem).2,hx];rfl
  have up1:isUp (az x)=true:=by rw[(jo _ lx.az.mem).2,dc x lx.mem,hx];rfl
  have s0:j5 y os x=o.ps:=by unfold j5;rw[Xn,if_neg (by decide),eo]
  have s1:j5 y os (az x)=o.ps.reverse:=by
   unfold j5
   rw[up1,if_pos rfl]
   have:rA y os (az x)=rA y os x:=by unfold rA;rw[(jo x lx.mem).1]
   rw[this,eo]
  rw[s0]at hm hn
  rw[s1]at y9 JP
  obtain ⟨b1,Ab⟩:=oR y9
  obtain ⟨b2,vP⟩:=oR JP
  have k1:=EB (h.asc o P4) hm hn ep eq dR
  have k2:=EB (h.asc o P4) Ab vP JO Ts dR
  rw[e1,e2,By,HH]
  refine ⟨by omega,by omega,?_,?_⟩
  ·rw[<-k1.2];exact decide_eq_decide.mpr (by omega)
  ·rw[<-k2.2];exact decide_eq_decide.mpr (by omega)
noncomputable def oS (st:Nat->Nat) (T R:List Nat):List Nat:=T.filter fun x=>R.any fun e=>decide (st e=x)
noncomputable def B9 (st:Nat->Nat) (T R:List Nat) (p:Nat):Nat:=if st p=p then 0 else ((oS st T (p::R)).filter fun x=>decide (st p<x)).length
noncomputable def Gh (st:Nat->Nat):List Nat->List Nat->Nat
 | _,[]=>0
 | T,p::R=>B9 st T R p+Gh st (T++[p]) R
structure EC (ch:List (Nat×Nat)) (st:Nat->Nat) (P:List Nat):Prop where
 lt: ∀x∈ch,x.1<x.2
 nd:(ch.flatMap fun x=>[x.1,x.2]).Nodup
 pm:P.Perm (ch.flatMap fun x=>[x.1,x.2])
 up:P.Pairwise (· < ·)
 st: ∀x∈ch,st x.1=x.1/\st x.2=x.1
section
variable {ch:List (Nat×Nat)} {st:Nat->Nat} {P:List Nat}
theorem EC.pt (h:EC ch st P) {p:Nat} (hp:p∈P): ∃x∈ch,p=x.1\/p=x.2:=by
 obtain ⟨x,hx,e⟩:=Zx.mp (h.pm.mem_iff.mp hp)
 exact ⟨x,hx,by simpa using e⟩
theorem EC.in1 (h:EC ch st P) {x:Nat×Nat} (hx:x∈ch):x.1∈P/\x.2∈P:=⟨h.pm.mem_iff.mpr (Zx.mpr ⟨x,hx,by simp⟩),h.pm.mem_iff.mpr (Zx.mpr ⟨x,hx,by simp⟩)⟩
theorem xc: ∀{ch:List (Nat×Nat)},(ch.flatMap fun x=>[x.1,x.2]).Nodup-> ∀x∈ch, ∀z∈ch,(x.1=z.1\/x.2=z.2\/x.1=z.2)->x=z
 | [],_,x,hx,_,_,_=>absurd hx Zl
 | a::r,nd,x,hx,z,hz,e=>by
  rw[ZC,Qag]at nd
  obtain ⟨n1,n2,n3⟩:=nd
  have inr: ∀z∈r,z.1∈r.flatMap (fun x=>[x.1,x.2])/\z.2∈r.flatMap (fun x=>[x.1,x.2]):=fun z hz=>⟨Zx.mpr ⟨z,hz,by simp⟩,Zx.mpr ⟨z,hz,by simp⟩⟩
  have a12:a.1≠a.2:=by
   rw[ZK]at n1
   simpa using n1.1
  rcases Wz.mp hx with rfl | IS<;>rcases Wz.mp hz with rfl | MD
  ·rfl
  ·exfalso
   rcases e with e | e | e
   ·exact n3 x.1 (by simp) z.1 (inr z MD).1 e
   ·exact n3 x.2 (by simp) z.2 (inr z MD).2 e
   ·exact n3 x.1 (by simp) z.2 (inr z MD).2 e
  ·exfalso
   rcases e with e | e | e
   ·exact n3 z.1 (by simp) x.1 (inr x IS).1 e.symm
   ·exact n3 z.2 (by simp) x.2 (inr x IS).2 e.symm
   ·exact n3 z.2 (by simp) x.1 (inr x IS).1 e.symm
  ·exact xc n2 x IS z MD e
theorem ED (h:EC ch st P) {T R:List Nat} {p:Nat} (e:P=T++p::R) (hs:st p=p):oS st (T++[p]) R=oS st T (p::R)++[p]:=by
 obtain ⟨x,hx,hp⟩:=h.pt (p:=p) (by rw[e];simp)
 have Lr:p=x.1:=hp.elim id fun z=>by rw[z,(h.st x hx).2]at hs;rw[z, <-hs]
 have up:=h.up
 rw[e,Qaw,Qar]at up
 obtain ⟨u1,⟨u2,u3⟩,u4⟩:=up
 have hR:x.2∈R:=by
  have:=(h.in1 hx).2
  rw[e]at this
  rcases Zh.mp this with q | q
  ·have:=u4 _ q p YO
   have:=h.lt x hx
   omega
  ·rcases Wz.mp q with q | q
   ·have:=h.lt x hx
    omega
   ·exact q
 unfold oS
 rw[ZU]
 congr 1
 ·refine Qb6 fun z hz=>?_
  rw[Qap,decide_eq_false (fun q=>by have:=u4 z hz p YO;omega),Qc8]
 ·have:(R.any fun e=>decide (st e=p))=true:=List.any_eq_true.mpr ⟨x.2,hR,decide_eq_true (by rw[(h.st x hx).2,Lr])⟩
  rw[ZL (p:=fun x=>R.any fun e=>decide (st e=x)) this]
  rfl
theorem erase_filter {s:Nat} {p q:Nat->Bool}: ∀{T:List Nat},T.Nodup->q s=true->p s=false->(∀x,x≠s->q x=p x)->(T.filter q).erase s=T.filter p
 | [],_,_,_,_=>rfl
 | a::T,nd,hq,hp,h=>by
  rw[ZK]at nd
  by_cases z:a=s
  ·subst z
   rw[ZL hq,List.erase_cons_head,Zw (by rw[hp];decide)]
   exact Qb6 fun x hx=>h x fun q=>nd.1 (q▸hx)
  ·have ih:=erase_filter nd.2 hq hp h
   cases e:p a
   ·rw[Zw (by rw[h a z,e];decide),Zw (by rw[e];decide)]
    exact ih
   ·rw[ZL (by rw[h a z,e]),ZL e,List.erase_cons_tail (by simpa using z),ih]
theorem Ls (h:EC ch st P) {T R:List Nat} {p:Nat} (e:P=T++p::R) (hs:st p≠p):oS st (T++[p]) R=(oS st T (p::R)).erase (st p)/\st p∈oS st T (p::R):=by
 obtain ⟨x,hx,hp⟩:=h.pt (p:=p) (by rw[e];simp)
 have Lr:p=x.2:=hp.elim (fun z=>absurd (by rw[z,(h.st x hx).1]) hs) id
 have ny:st p=x.1:=by rw[Lr,(h.st x hx).2]
 have up:=h.up
 rw[e,Qaw,Qar]at up
 obtain ⟨u1,⟨u2,u3⟩,u4⟩:=up
 have only: ∀z∈R,st z≠x.1:=fun z hz q=>by
  obtain ⟨v,hv,Pe⟩:=h.pt (p:=z) (by rw[e];simp[hz])
  have YT:=u2 z hz
  rcases Pe with r | r
  ·rw[r,(h.st v hv).1]at q
   have:=xc h.nd v hv x hx (.inl q)
   subst this
   have:=h.lt v hv
   omega
  ·rw[r,(h.st v hv).2]at q
   have:=xc h.nd v hv x hx (.inl q)
   subst this
   omega
 have none: ∀z∈R,st z≠p:=fun z hz q=>by
  obtain ⟨v,hv,Pe⟩:=h.pt (p:=z) (by rw[e];simp[hz])
  have:st z=v.1:=Pe.elim (fun r=>by rw[r,(h.st v hv).1]) fun r=>by rw[r,(h.st v hv).2]
  rw[this,Lr]at q
  have:=xc h.nd v hv x hx (.inr (.inr q))
  subst this
  have:=h.lt v hv
  omega
 have hT:x.1∈T:=by
  have:=(h.in1 hx).1
  rw[e]at this
  have l:=h.lt x hx
  rcases Zh.mp this with q | q
  ·exact q
  ·rcases Wz.mp q with q | q
   ·omega
   ·have:=u2 _ q
    omega
 have nd:T.Nodup:=Qdf (fun h=>Zp h) u1
 have hq:((p::R).any fun e=>decide (st e=x.1))=true:=by rw[Qap,decide_eq_true ny];rfl
 refine ⟨?_,?_⟩
 ·rw[ny]
  unfold oS
  rw[ZU,Zw (by
   rw[Bool.not_eq_true,Qde]
   exact fun z hz=>by simpa using none z hz),List.filter_nil,Zy]
  refine (erase_filter nd hq ?_ fun z hz=>?_).symm
  ·rw[Qde]
   exact fun z hz=>by simpa using only z hz
  ·rw[Qap,decide_eq_false (by rw[ny];exact Ne.symm hz),Qc8]
 ·rw[ny]
  exact ZH.mpr ⟨hT,hq⟩
noncomputable def kj (x z:Nat×Nat):Bool:=decide (x.1<z.1)&&(decide (z.1<x.2)&&decide (x.2<z.2))
theorem EE (h:EC ch st P) {T R:List Nat} {x:Nat×Nat} (hx:x∈ch) (e:P=T++x.2::R):B9 st T R x.2=(ch.filter (kj x)).length:=by
 have l:=h.lt x hx
 have ny:=(h.st x hx).2
 have up:=h.up
 rw[e,Qaw,Qar]at up
 obtain ⟨u1,⟨u2,u3⟩,u4⟩:=up
 unfold B9
 rw[if_neg (by omega),ny, <-QW (as:=ch.filter (kj x)) (f:=Prod.fst)]
 refine List.Perm.length_eq ((List.perm_ext_iff_of_nodup ?_ ?_).mpr fun a=>?_)
 ·exact (Qdf (fun h=>Zp h) ((u1.filter _).filter _))
 ·have nd:(ch.map Prod.fst).Nodup:=by
   have: ∀{ch:List (Nat×Nat)},(ch.flatMap fun x=>[x.1,x.2]).Nodup->(ch.map Prod.fst).Nodup:=fun {ch}=>by
    induction ch with
    | nil=>exact fun _=>List.Pairwise.nil
    | cons a r ih=>
     intro nd
     rw[ZC,Qag]at nd
     rw[Zd,ZK]
     refine ⟨fun q=>?_,ih nd.2.1⟩
     obtain ⟨z,hz,ez⟩:=Zu.mp q
     exact nd.2.2 a.1 (by simp) z.1 (Zx.mpr ⟨z,hz,by simp⟩) ez.symm
   exact this h.nd
  exact List.Nodup.sublist (List.Sublist.map _ List.filter_sublist) nd
 ·rw[ZH,Zu]
  unfold oS
  rw[ZH,decide_eq_true_iff,List.any_eq_true]
  constructor
  ·rintro ⟨⟨a1,p,hp,ep⟩,a2⟩
   have ep:=of_decide_eq_true ep
   obtain ⟨z,hz,Tt⟩:=h.pt (p:=p) (by rw[e];exact Zo _ hp)
   have:st p=z.1:=Tt.elim (fun r=>by rw[r,(h.st z hz).1]) fun r=>by rw[r,(h.st z hz).2]
   rw[this]at ep
   have ax:=u4 a a1 x.2 YO
   have pz:p=z.2:=Tt.elim (fun r=>by
    have:=u4 a a1 p hp
    omega) id
   have px:x.2<p:=by
    rcases Wz.mp hp with q | q
    ·rw[q]at pz
     have:=xc h.nd x hx z hz (.inr (.inl pz))
     subst this
     omega
    ·exact u2 p q
   refine ⟨z,ZH.mpr ⟨hz,?_⟩,ep⟩
   unfold kj
   rw[Z3,Z3,decide_eq_true_iff,decide_eq_true_iff,decide_eq_true_iff]
   omega
  ·rintro ⟨z,hz,rfl⟩
   obtain ⟨hz,q⟩:=ZH.mp hz
   unfold kj at q
   rw[Z3,Z3,decide_eq_true_iff,decide_eq_true_iff,decide_eq_true_iff]at q
   have i1:=(h.in1 hz).1
   have i2:=(h.in1 hz).2
   rw[e]at i1 i2
   refine ⟨⟨?_,z.2,?_,decide_eq_true (h.st z hz).2⟩,q.1⟩
   ·rcases Zh.mp i1 with r | r
    ·exact r
    ·rcases Wz.mp r with r | r
     ·omega
     ·have:=u2 _ r;omega
   ·rcases Zh.mp i2 with r | r
    ·have:=u4 _ r x.2 YO;omega
    ·exact r
theorem EF (h:EC ch st P): ∀(R T:List Nat),P=T++R->Gh st T R=(R.map fun p=>if st p=p then 0 else (ch.filter (kj (st p,p))).length).sum
 | [],_,_=>rfl
 | p::R,T,e=>by
  rw[Zd,ZM, <-EF h R (T++[p]) (by rw[e];simp)]
  show B9 st T R p+_=_
  congr 1
  by_cases z:st p=p
  ·rw[if_pos z];unfold B9;rw[if_pos z]
  ·rw[if_neg z]
   obtain ⟨x,hx,hp⟩:=h.pt (p:=p) (by rw[e];simp)
   have Lr:p=x.2:=hp.elim (fun q=>absurd (by rw[q,(h.st x hx).1]) z) id
   have ny:st p=x.1:=by rw[Lr,(h.st x hx).2]
   rw[ny]
   subst Lr
   exact EE h hx e
theorem Lu (h:EC ch st P):Gh st [] P=(ch.map fun x=>(ch.filter (kj x)).length).sum:=by
 rw[EF h P [] rfl,(h.pm.map _).sum_nat]
 have: ∀l:List (Nat×Nat),(∀x∈l,x∈ch)->(((l.flatMap fun x=>[x.1,x.2]).map fun p=>if st p=p then 0 else (ch.filter (kj (st p,p))).length).sum)=(l.map fun x=>(ch.filter (kj x)).length).sum:=fun l hl=>by
  induction l with
  | nil=>rfl
  | cons a r ih=>
   have ha:=h.st a (hl a YO)
   have la:=h.lt a (hl a YO)
   rw[ZC,Wx,List.sum_append_nat,ih fun x hx=>hl x (YQ _ hx),Zd,ZM]
   congr 1
   show (if st a.1=a.1 then 0 else _)+((if st a.2=a.2 then 0 else (ch.filter (kj (st a.2,a.2))).length)+0)=_
   rw[if_pos ha.1,if_neg (by omega),ha.2,Qcl,Nat.add_zero]
 exact this ch fun x hx=>hx
theorem B_ {α:Type} (X:α->α->Bool) (hd: ∀x,X x x=false) (ha: ∀x z,X x z=true->X z x=false): ∀l:List α,(l.map fun x=>(l.filter (X x)).length).sum=cl (fun x z=>X x z||X z x) l:=fun l=>by
 have key: ∀(a:α) (l:List α),((l.filter fun z=>X a z||X z a)).length=(l.filter (X a)).length+(l.map fun z=>if X z a=true then 1 else 0).sum:=fun a l=>by
  induction l with
  | nil=>rfl
  | cons b r ih=>
   have:=ha a b
   simp only[Qdk,Zd,ZM]
   cases e1:X a b<;>cases e2:X b a
   ·simp[ih]
   ·simp[ih];omega
   ·simp[ih];omega
   ·rw[this e1]at e2;cases e2
 induction l with
 | nil=>rfl
 | cons a r ih=>
  show (((a::r).map fun x=>((a::r).filter (X x)).length).sum)=(r.filter fun z=>X a z||X z a).length+cl _ r
  rw[Zd,ZM,Zw (by rw[hd a];decide),key a r, <-ih]
  have e: ∀l:List α,(l.map fun x=>((a::r).filter (X x)).length).sum=(l.map fun z=>if X z a=true then 1 else 0).sum+(l.map fun x=>(r.filter (X x)).length).sum:=fun l=>by
   induction l with
   | nil=>rfl
   | cons b l Xo=>
    rw[Zd,ZM,Xo,Zd,ZM,Zd,ZM]
    cases e1:X b a
    ·rw[Zw (by rw[e1];decide)]
     simp;omega
    ·rw[ZL e1]
     simp;omega
  rw[e r]
  omega
theorem P5 (h:EC ch st P):Gh st [] P=cl (fun x z=>kj x z||kj z x) ch:=by
 rw[Lu h,B_]
 ·intro x;unfold kj;rw[decide_eq_false (ZW _)];rfl
 ·intro x z q
  unfold kj at q ⊢
  rw[Z3,Z3,decide_eq_true_iff,decide_eq_true_iff,decide_eq_true_iff]at q
  rw[decide_eq_false (by omega)]
  rfl
end
noncomputable def Jo (p q:Nat):Int:=if (q:Int)<p then q else p
noncomputable def dH (cs:List C4):List Nat:=cs.flatMap fun x=>[x.2.2.1,x.2.2.2]
noncomputable def fX (cs:List C4):List (Key×V):=cs.flatMap fun x=>[(Sum.inl (x.2.2.1:Int),V.int (Jo x.2.2.1 x.2.2.2)),(Sum.inl (x.2.2.2:Int),V.int (Jo x.2.2.1 x.2.2.2))]
noncomputable def lT (cs:List C4):List (Nat×Nat):=cs.map fun x=>(min x.2.2.1 x.2.2.2,max x.2.2.1 x.2.2.2)
theorem gT: ∀cs:List C4,(fX cs).map (·.1)=(dH cs).map fun n:Nat=>(Sum.inl (n:Int):Key)
 | []=>rfl
 | x::r=>by
  unfold fX dH
  rw[ZC,ZC,Wx,Wx]
  exact congrArg _ (gT r)
theorem xf {aP:List (Key×V)} {k:Key} (h:k∉aP.map (·.1)):dq aP k=none:=by
 induction aP with
 | nil=>rfl
 | cons a r ih=>
  rw[Zd,Wz,not_or]at h
  rw[cw (fun e=>h.1 e.symm),ih h.2]
theorem EG {aP:List (Key×V)} (nd:(aP.map (·.1)).Nodup) {k:Key} {v:V} (h:(k,v)∈aP):dq aP k=some v:=by
 induction aP with
 | nil=>exact absurd h Zl
 | cons a r ih=>
  rw[Zd,ZK]at nd
  rcases Wz.mp h with e | e
  ·subst e;exact cJ rfl
  ·rw[cw (fun z=>nd.1 (Zu.mpr ⟨_,e,z.symm⟩))]
   exact ih nd.2 e
theorem Lv: ∀{l:List Nat},l.Nodup->(l.map fun n:Nat=>(Sum.inl (n:Int):Key)).Nodup:=fun {l} h=>Z8.mpr (h.imp fun CK z=>CK (by have:=Sum.inl.inj z;omega))
noncomputable def ins (l:List Nat):List V:=l.map fun n=>V.int (n:Nat)
theorem lU (l:List Nat):(ins l).length=l.length:=by unfold ins;rw[QW]
theorem EH (l:List Nat) (n:Nat):ins l++[V.int (n:Nat)]=ins (l++[n]):=by unfold ins;rw[Wx];rfl
theorem EI {l:List Nat} {i n:Nat} (h:l[i]? =some n):(ins l)[i]? =some (V.int (n:Nat)):=by unfold ins;rw[Zk,h];rfl
def iM (_:PySem.W.Frag):Sp:=fun vs H Q _=> ∃(a:Addr) (qs:List Q4),vs=[.ref a]/\H a=some (.lst (jQ qs))/\(∀x∈qs,kJ H x)/\qs.length<=1000/\(dH (qs.map Q4.v)).Nodup/\ ∀d H',H d=none->H' d=some (.dK (fX (qs.map Q4.v)))->ak H H'->Q (.ref d) H'
theorem mR {K:PySem.W.Frag} {vs:List V} {H:Hp} {Q:VK} {E:XK} (h:iM K vs H Q E):vs.length=1:=by obtain ⟨_,_,rfl,_⟩:=h;rfl
def lV (_:PySem.W.Frag):Sp:=fun vs H Q _=> ∃(a:Addr) (l:List Nat) (p:Nat),vs=[.ref a, .int p]/\H a=some (.lst (ins l))/\l.Pairwise (· < ·)/\p∈l/\l.length<=100000/\Q (.int (l.idxOf p:Nat)) H
theorem rC {K:PySem.W.Frag} {vs:List V} {H:Hp} {Q:VK} {E:XK} (h:lV K vs H Q E):vs.length=2:=by obtain ⟨_,_,_,rfl,_⟩:=h;rfl
def gp (_:PySem.W.Frag):Sp:=fun vs H Q _=> ∃(a:Addr) (qs:List Q4),vs=[.ref a]/\H a=some (.lst (jQ qs))/\(∀x∈qs,kJ H x)/\qs.length<=24/\(dH (qs.map Q4.v)).Nodup/\ ∀H',ak H H'->Q (.int (cl (fun x z=>kj x z||kj z x) (lT (qs.map Q4.v)):Nat)) H'
theorem kK {K:PySem.W.Frag} {vs:List V} {H:Hp} {Q:VK} {E:XK} (h:gp K vs H Q E):vs.length=1:=by obtain ⟨_,_,rfl,_⟩:=h;rfl
theorem Ca (cs:List C4) (x:C4):dH (cs++[x])=dH cs++[x.2.2.1,x.2.2.2]:=by unfold dH;rw[Z1,Qbo]
theorem Cb (cs:List C4) (x:C4):fX (cs++[x])=fX cs++[(Sum.inl (x.2.2.1:Int),V.int (Jo x.2.2.1 x.2.2.2)),(Sum.inl (x.2.2.2:Int),V.int (Jo x.2.2.1 x.2.2.2))]:=by unfold fX;rw[Z1,Qbo]
theorem xg (cs:List C4):(fX cs).length=2*cs.length:=by
 induction cs with
 | nil=>rfl
 | cons x r ih=>
  unfold fX at ih ⊢
  rw[ZC,UO,ih,Zv]
  show 2+2*r.length=2*(r.length+1)
  omega
theorem HI {cs:List C4} {x:C4} (nd:(dH (cs++[x])).Nodup):putK (putK (fX cs) (Sum.inl (x.2.2.1:Int)) (V.int (Jo x.2.2.1 x.2.2.2))) (Sum.inl (x.2.2.2:Int)) (V.int (Jo x.2.2.1 x.2.2.2))=fX (cs++[x]):=by
 rw[Ca,Qag]at nd
 obtain ⟨n1,n2,n3⟩:=nd
 have k: ∀n:Nat,n∉dH cs->(Sum.inl (n:Int):Key)∉(fX cs).map (·.1):=fun n hn z=>by
  rw[gT]at z
  obtain ⟨m,hm,e⟩:=Zu.mp z
  have:m=n:=by have:=Sum.inl.inj e;omega
  exact hn (this▸hm)
 have h1:x.2.2.1∉dH cs:=fun z=>n3 _ z _ (by simp) rfl
 have h2:x.2.2.2∉dH cs:=fun z=>n3 _ z _ (by simp) rfl
 have h3:x.2.2.1≠x.2.2.2:=by
  rw[ZK]at n2
  simpa using n2.1
 rw[wm _ (xf (k _ h1)),wm,Cb,Qaj]
 ·rfl
 ·refine xf fun z=>?_
  rw[Wx,Zh]at z
  rcases z with z | z
  ·exact k _ h2 z
  ·have:=Sum.inl.inj (Wv.mp z)
   omega
noncomputable def cF (cs:List C4) (p:Nat):Nat:=(((dq (fX cs) (Sum.inl (p:Int))).map fun v=>match v with | .int i=>i.toNat | _=>0).getD 0)
theorem EJ (p q:Nat):Jo p q=(min p q:Nat):=by unfold Jo;split<;>omega
theorem Jp {cs:List C4} (nd:(dH cs).Nodup) {x:C4} (hx:x∈cs):(dq (fX cs) (Sum.inl (x.2.2.1:Int))=some (.int (min x.2.2.1 x.2.2.2:Nat))/\dq (fX cs) (Sum.inl (x.2.2.2:Int))=some (.int (min x.2.2.1 x.2.2.2:Nat)))/\cF cs x.2.2.1=min x.2.2.1 x.2.2.2/\cF cs x.2.2.2=min x.2.2.1 x.2.2.2:=by
 have kn:((fX cs).map (·.1)).Nodup:=by rw[gT];exact Lv nd
 have e1:dq (fX cs) (Sum.inl (x.2.2.1:Int))=some (.int (min x.2.2.1 x.2.2.2:Nat)):=by
  rw[<-EJ]
  exact EG kn (Zx.mpr ⟨x,hx,by simp⟩)
 have e2:dq (fX cs) (Sum.inl (x.2.2.2:Int))=some (.int (min x.2.2.1 x.2.2.2:Nat)):=by
  rw[<-EJ]
  exact EG kn (Zx.mpr ⟨x,hx,by simp⟩)
 refine ⟨⟨e1,e2⟩,?_,?_⟩
 ·unfold cF;rw[e1];exact YR _
 ·unfold cF;rw[e2];exact YR _
theorem AG (cs:List C4):((lT cs).flatMap fun x=>[x.1,x.2]).Perm (dH cs):=by
 induction cs with
 | nil=>exact .nil
 | cons x r ih=>
  unfold lT dH at ih ⊢
  rw[Zd,ZC,ZC]
  refine List.Perm.append ?_ ih
  show [min x.2.2.1 x.2.2.2,max x.2.2.1 x.2.2.2].Perm [x.2.2.1,x.2.2.2]
  by_cases z:x.2.2.1<=x.2.2.2
  ·rw[Z_ z,Qbe z]
  ·rw[Z7 (by omega),Qa4 (by omega)]
   exact List.Perm.swap _ _ _
theorem Lw {cs:List C4} {P:List Nat} (nd:(dH cs).Nodup) (hp:P.Perm (dH cs)) (up:P.Pairwise (· < ·)):EC (lT cs) (cF cs) P:=by
 refine ⟨fun x hx=>?_,((AG cs).nodup_iff).mpr nd,hp.trans (AG cs).symm,up,fun x hx=>?_⟩
 ·obtain ⟨c,hc,rfl⟩:=Zu.mp hx
  have dR:c.2.2.1≠c.2.2.2:=fun z=>by
   have: ∀{cs:List C4},(dH cs).Nodup-> ∀c∈cs,c.2.2.1≠c.2.2.2:=fun {cs}=>by
    induction cs with
    | nil=>exact fun _ _ h=>absurd h Zl
    | cons a r ih=>
     intro nd c hc
     unfold dH at nd
     rw[ZC,Qag]at nd
     rcases Wz.mp hc with e | e
     ·subst e
      have:=nd.1
      rw[ZK]at this
      simpa using this.1
     ·exact ih nd.2.1 c e
   exact this nd c hc z
  show min c.2.2.1 c.2.2.2<max c.2.2.1 c.2.2.2
  omega
 ·obtain ⟨c,hc,rfl⟩:=Zu.mp hx
  obtain ⟨_,e1,e2⟩:=Jp nd hc
  show cF cs (min c.2.2.1 c.2.2.2)=min c.2.2.1 c.2.2.2/\cF cs (max c.2.2.1 c.2.2.2)=min c.2.2.1 c.2.2.2
  by_cases z:c.2.2.1<=c.2.2.2
  ·rw[Z_ z,Qbe z]at*
   exact ⟨e1,e2⟩
  ·rw[Z7 (by omega),Qa4 (by omega)]at*
   exact ⟨e2,e1⟩
theorem EK {l:List Nat} {p:Nat} (h:p∈l):l.eraseIdx (l.idxOf p)=l.erase p:=(List.erase_eq_eraseIdx_of_idxOf rfl).symm
theorem behind {l:List Nat} (up:l.Pairwise (· < ·)) {p:Nat} (h:p∈l):(l.erase p).length - l.idxOf p=(l.filter fun x=>decide (p<x)).length:=by
 induction l with
 | nil=>exact absurd h Zl
 | cons a r ih=>
  rw[Qar]at up
  by_cases z:a=p
  ·subst z
   rw[List.erase_cons_head,List.idxOf_cons_self,Zw (by simp),List.filter_eq_self.mpr (fun x hx=>decide_eq_true (up.1 x hx))]
   rfl
  ·have hr:=(Wz.mp h).resolve_left (Ne.symm z)
   rw[List.erase_cons_tail (by simpa using z),Lb,if_neg z,Zw (by
    have:=up.1 p hr
    simp;omega), <-ih up.2 hr,Zv]
   omega
theorem Ly {st:Nat->Nat} {P T R:List Nat} (h:P.Pairwise (· < ·)) (e:P=T++R) (R':List Nat):(oS st T R').Pairwise (· < ·):=by
 rw[e,Qaw]at h
 exact h.1.filter _
theorem HJ {st:Nat->Nat} {T R:List Nat}:(oS st T R).length<=T.length:=Qa9 _ _
theorem Lz {cs:List C4} (nd:(dH cs).Nodup) {p:Nat} (hp:p∈dH cs):dq (fX cs) (Sum.inl (p:Int))=some (.int (cF cs p:Nat)):=by
 unfold dH at hp
 obtain ⟨x,hx,e⟩:=Zx.mp hp
 obtain ⟨⟨e1,e2⟩,e3,e4⟩:=Jp nd hx
 have e':p=x.2.2.1\/p=x.2.2.2:=by simpa using e
 rcases e' with rfl | rfl
 ·rw[e1,e3]
 ·rw[e2,e4]
theorem y_ {ms:List Int} {l:List Nat} (nd:l.Nodup) (hp:ms.Perm (l.map fun n:Nat=>(n:Int))) (hw:ms.Pairwise fun a b=> ¬b<a): ∃P:List Nat,ms.map V.int=ins P/\P.Perm l/\P.Pairwise (· < ·):=by
 have vB: ∀m∈ms, ∃n:Nat,m=n:=fun m hm=>by
  obtain ⟨n,_,rfl⟩:=Zu.mp (hp.mem_iff.mp hm)
  exact ⟨n,rfl⟩
 have e1:ms=(ms.map Int.toNat).map fun n:Nat=>(n:Int):=by
  rw[ZV]
  refine (Qdo ms).symm.trans (ZJ fun m hm=>?_)
  obtain ⟨n,rfl⟩:=vB m hm
  exact (congrArg _ (YR n)).symm
 have p1:(ms.map Int.toNat).Perm l:=by
  have:=hp.map Int.toNat
  rw[ZV]at this
  have e2:l.map (Int.toNat ∘ fun n:Nat=>(n:Int))=l:=(ZJ fun n _=>YR n).trans (Qdo l)
  rwa [e2]at this
 refine ⟨ms.map Int.toNat,?_,p1,?_⟩
 ·unfold ins
  conv=>lhs;rw[e1]
  rw[ZV]
  rfl
 ·have Q9:(ms.map Int.toNat).Nodup:=p1.nodup_iff.mpr nd
  have Tu:(ms.map Int.toNat).Pairwise fun a b=> ¬b<a:=by
   rw[e1,Z8]at hw
   exact hw.imp fun h z=>h (by omega)
  refine Qdf (fun {a b} h=>?_) (List.Pairwise.and Tu Q9)
  have:=h.1
  have:=h.2
  omega
theorem EL {st:Nat->Nat} {P:List Nat} {k p:Nat} (h:P[k]? =some p):Gh st (P.take k) (P.drop k)=B9 st (P.take k) (P.drop (k+1)) p+Gh st (P.take (k+1)) (P.drop (k+1)):=by
 obtain ⟨hk,e⟩:=Kr.mp h
 rw[Z4 hk,e]
 show B9 st _ _ p+Gh st (P.take k++[p]) _=_
 rw[take_snoc h]
theorem P6 {n k:Nat} (h:k<n):seqIndex? (k:Int) n=some k:=by
 unfold seqIndex?
 simp
 omega
theorem s_: ∀(l:List Nat) (k:Nat),(ins l).eraseIdx k=ins (l.eraseIdx k)
 | [],_=>rfl
 | _::_,0=>rfl
 | a::l,k+1=>congrArg (V.int (a:Nat):: ·) (s_ l k)
noncomputable def cst (y w:List Nat) (i:Int):Int:=wR y (az (rd w (i - 1))) (rd w i)
theorem EM (y w:List Nat) (p k:Int):fP y (sq w p) k=cst y w (p+k):=by
 unfold fP cst sq
 rw[show p+(k - 1)=p+k - 1 by omega]
noncomputable def xR (n:Int):Nat:=(48+n).toNat
noncomputable def stx (y w:List Nat):List Nat:=(List.range w.length).map fun i:Nat=>xR (cst y w i)
theorem de (y w:List Nat):(stx y w).length=w.length:=by unfold stx;rw[QW,Qba]
theorem LA: ∀n:Nat,n<10->dg n=[48+n]:=by decide+kernel
noncomputable def jr (lg n:Nat):Nat:=3+lg / max n 1
noncomputable def mS (y u:List Nat) (lg r:Nat):List (Str×V):=dX "backward" (.str (S (dF (jr lg u.length) (stx y u).reverse))) (dX "onward" (.str (S (dF (jr lg u.length) (stx y u)))) (dX "leads" (.bl (leads u)) (dX "root_size" (.int r) (dX "size" (.int u.length) []))))
noncomputable def Jq (t w:Addr) (p:Nat):List (Str×V):=dX "place" (.int p) (dX "way" (.ref w) (dX "strand" (.ref t) []))
section
variable {y u:List Nat} {lg r:Nat} {t w:Addr} {p:Nat}
theorem AH:(mS y u lg r).lookup ("size":Str)=some (.int u.length):=by
 unfold mS
 rw[aL,if_neg (by decide+kernel),aL,if_neg (by decide+kernel),aL,if_neg (by decide+kernel),aL,if_neg (by decide+kernel),aL,if_pos rfl]
theorem oT:(mS y u lg r).lookup ("root_size":Str)=some (.int r):=by
 unfold mS
 rw[aL,if_neg (by decide+kernel),aL,if_neg (by decide+kernel),aL,if_neg (by decide+kernel),aL,if_pos rfl]
theorem EN:(mS y u lg r).lookup ("leads":Str)=some (.bl (leads u)):=by
 unfold mS
 rw[aL,if_neg (by decide+kernel),aL,if_neg (by decide+kernel),aL,if_pos rfl]
theorem P7:(mS y u lg r).lookup ("onward":Str)=some (.str (S (dF (jr lg u.length) (stx y u)))):=by
 unfold mS
 rw[aL,if_neg (by decide+kernel),aL,if_pos rfl]
theorem HK:(mS y u lg r).lookup ("backward":Str)=some (.str (S (dF (jr lg u.length) (stx y u).reverse))):=by
 unfold mS
 rw[aL,if_pos rfl]
theorem lW:(Jq t w p).lookup ("place":Str)=some (.int p):=by unfold Jq;rw[aL,if_pos rfl]
theorem mT:(Jq t w p).lookup ("way":Str)=some (.ref w):=by unfold Jq;rw[aL,if_neg (by decide+kernel),aL,if_pos rfl]
theorem tf:(Jq t w p).lookup ("strand":Str)=some (.ref t):=by unfold Jq;rw[aL,if_neg (by decide+kernel),aL,if_neg (by decide+kernel),aL,if_pos rfl]
end
theorem cY (f:Str) (v:V): ∀fs:List (Str×V),(dX f v fs).length<=fs.length+1
 | []=>UP _
 |(g,x)::r=>by
  unfold dX
  split
  ·exact Qa0 _
  ·exact Qaq (cY f v r)
structure Sn where
 a:Addr
 t:Addr
 wy:Addr
 c:Nat
 i:Nat
 u:List Nat
 p:Nat
 r:Nat
structure Cc (H:Hp) (C a:Addr) (y u:List Nat) (lg r:Nat):Prop where
 ob: ∃dx,H a=some (.ins C dx (mS y u lg r))
 sw:SW y u
 uz:u.length<=lg
 lz:lg<=1000
 rt:bS u r
theorem Cc.same {H H':Hp} {C a:Addr} {y u:List Nat} {lg r:Nat} (h:Cc H C a y u lg r) (s:ak H H'):Cc H' C a y u lg r:=by
 obtain ⟨dx,e⟩:=h.ob
 exact ⟨⟨dx,s _ _ e⟩,h.sw,h.uz,h.lz,h.rt⟩
structure js (H:Hp) (CW CS:Addr) (y:List Nat) (lg:Nat) (s:Sn):Prop where
 ob: ∃dx,H s.a=some (.ins CS dx (Jq s.t s.wy s.p))
 st:H s.t=some (.tup [.int s.c, .int s.i])
 wy:Cc H CW s.wy y s.u lg s.r
 pz:s.p<s.u.length
theorem js.same {H H':Hp} {CW CS:Addr} {y:List Nat} {lg:Nat} {s:Sn} (h:js H CW CS y lg s) (sm:ak H H'):js H' CW CS y lg s:=by
 obtain ⟨dx,e⟩:=h.ob
 exact ⟨⟨dx,sm _ _ e⟩,sm _ _ h.st,h.wy.same sm,h.pz⟩
noncomputable def CM (y:List Nat) (lg:Nat) (s:Sn):List Nat:=(dF (jr lg s.u.length) (stx y s.u)).drop (s.p+1)
noncomputable def CN (y:List Nat) (lg:Nat) (s:Sn):List Nat:=(dF (jr lg s.u.length) (stx y s.u).reverse).drop (s.u.length - 1 - s.p)
noncomputable def seg (l:List Nat) (x z:Nat):List Nat:=(l.drop x).take (z - x)
def iN (_:PySem.W.Frag):Sp:=fun vs H Q _=> ∃(y w:List Nat) (i:Nat),vs=[.str (S y), .str (S w), .int i]/\Yd y/\y.length<=8/\SW y w/\w.length<=1000/\i<w.length/\ ∀(n:Nat) H',cst y w i=n->n<8->ak H H'->Q (.int n) H'
theorem mU {K:PySem.W.Frag} {vs:List V} {H:Hp} {Q:VK} {E:XK} (h:iN K vs H Q E):vs.length=3:=by obtain ⟨_,_,_,rfl,_⟩:=h;rfl
def xh (_:PySem.W.Frag) (C:Addr):Sp:=fun vs H Q _=> ∃(x dx:Addr) (y w:List Nat) (lg:Nat),vs=[.ref x, .str (S y), .str (S w), .int lg]/\H x=some (.ins C dx [])/\Yd y/\y.length<=8/\SW y w/\w.length<=lg/\lg<=1000/\ ∀(r:Nat) H',bS w r->H' x=some (.ins C dx (mS y w lg r))->aN x H H'->Q .fH H'
theorem Cd {K:PySem.W.Frag} {C:Addr} {vs:List V} {H:Hp} {Q:VK} {E:XK} (h:xh K C vs H Q E):vs.length=4:=by obtain ⟨_,_,_,_,_,rfl,_⟩:=h;rfl
def tm (_:PySem.W.Frag) (C:Addr):Sp:=fun vs H Q _=> ∃(x dx t w:Addr) (p:Nat),vs=[.ref x, .ref t, .ref w, .int p]/\H x=some (.ins C dx [])/\ ∀H',H' x=some (.ins C dx (Jq t w p))->aN x H H'->Q .fH H'
theorem za {K:PySem.W.Frag} {C:Addr} {vs:List V} {H:Hp} {Q:VK} {E:XK} (h:tm K C vs H Q E):vs.length=4:=by obtain ⟨_,_,_,_,_,rfl,_⟩:=h;rfl
def fQ (_:PySem.W.Frag) (CW CS:Addr):Sp:=fun vs H Q _=> ∃(y:List Nat) (lg:Nat) (s:Sn) (x z:Nat),vs=[.ref s.a, .int x, .int z]/\y.length<=8/\js H CW CS y lg s/\x<=z/\Q (.str (S (seg (CM y lg s) x z))) H
theorem oa {K:PySem.W.Frag} {CW CS:Addr} {vs:List V} {H:Hp} {Q:VK} {E:XK} (h:fQ K CW CS vs H Q E):vs.length=3:=by obtain ⟨_,_,_,_,_,rfl,_⟩:=h;rfl
def gA (_:PySem.W.Frag) (CW CS:Addr):Sp:=fun vs H Q _=> ∃(y:List Nat) (lg:Nat) (s:Sn) (x z:Nat),vs=[.ref s.a, .int x, .int z]/\y.length<=8/\js H CW CS y lg s/\x<=z/\Q (.str (S (seg (CN y lg s) x z))) H
theorem qh {K:PySem.W.Frag} {CW CS:Addr} {vs:List V} {H:Hp} {Q:VK} {E:XK} (h:gA K CW CS vs H Q E):vs.length=3:=by obtain ⟨_,_,_,_,_,rfl,_⟩:=h;rfl
theorem HL {l:List Nat} {a b:Nat} (h:a<=b):cut l (some (a:Int)) (some (b:Int))=(l.drop a).take (b - a):=by
 unfold cut
 rw[HT.gf,HT.gf]
 by_cases z:a<=l.length
 ·rw[Z_ z]
  by_cases z2:b<=l.length
  ·rw[Z_ z2]
  ·rw[Z7 (by omega),Zq (by rw[Zs];omega),Zq (by rw[Zs];omega)]
 ·rw[Z7 (by omega),Z7 (by omega),Qai (UP _),Qai (by omega)]
  simp
theorem AI {l:List Nat} {f x z:Nat} (h:x<=z):cut l (some ((f:Int)+x)) (some ((f:Int)+z))=seg (l.drop f) x z:=by
 rw[show (f:Int)+x=((f+x:Nat):Int) by omega,show (f:Int)+z=((f+z:Nat):Int) by omega,HL (by omega)]
 unfold seg
 rw[List.drop_drop,show f+z - (f+x)=z - x by omega]
theorem lX {lg n:Nat} (h:1<=n):n*jr lg n<=3*n+lg/\2*n+lg<n*jr lg n:=by
 unfold jr
 rw[Qa4 h,Nat.mul_add]
 have h1:=Qbu lg n
 have h2:=Qbk lg (show 0<n by omega)
 omega
theorem tu (m:Nat) (l:List Nat):(dF m l).length=l.length*m:=by
 unfold dF
 rw[List.length_flatten,List.map_replicate,List.sum_replicate_nat,Qa1]
theorem SW.dP {y w:List Nat} (hy:Yd y) (h:SW y w):My.dP w=fF w:=by unfold My.dP;rw[h.core hy]
theorem uQ (l:List Nat) (x z j:Nat):(seg l x z)[j]? =if j<z - x then l[x+j]? else none:=by
 unfold seg
 rw[Qbl]
 split
 ·rw[Qan]
 ·rfl
theorem zc {l m:List Nat} {x z:Nat}:seg l x (x+z)=seg m x (x+z)↔ ∀k,x<=k->k<x+z->l[k]? =m[k]?:= by
 constructor
 ·intro h k h1 h2
  have:=congrArg (·[k - x]?) h
  simp only[uQ]at this
  rwa [if_pos (by omega),if_pos (by omega),show x+(k - x)=k by omega]at this
 ·intro h
  refine Qb7 fun j=>?_
  rw[uQ,uQ]
  by_cases z':j<x+z - x
  ·rw[if_pos z',if_pos z',h (x+j) (by omega) (by omega)]
  ·rw[if_neg z',if_neg z']
noncomputable def LB (b:Bool) (y:List Nat) (lg:Nat) (s:Sn):List Nat:=if b=true then CM y lg s else CN y lg s
def jt (l m:List Nat) (n:Nat):Prop:= ∀k,k<n->l[k]? =m[k]?
def qj (_:PySem.W.Frag) (CW CS fa fb:Addr):Sp:=fun vs H Q _=> ∃(y:List Nat) (lg:Nat) (s t:Sn) (b:Bool) (en:Nat),vs=[.ref (if b=true then fa else fb), .ref s.a, .ref t.a, .int en]/\y.length<=8/\js H CW CS y lg s/\js H CW CS y lg t/\en<=100000/\ ∀m:Nat,jt (LB b y lg s) (LB b y lg t) m->(en<=m\/(LB b y lg s)[m]?≠ (LB b y lg t)[m]?)->Q (.int m) H
theorem xj {K:PySem.W.Frag} {CW CS fa fb:Addr} {vs:List V} {H:Hp} {Q:VK} {E:XK} (h:qj K CW CS fa fb vs H Q E):vs.length=4:=by obtain ⟨_,_,_,_,_,_,rfl,_⟩:=h;rfl
theorem jt.more {l m:List Nat} {x z:Nat} (h:jt l m x) (e:seg l x (x+z)=seg m x (x+z)):jt l m (x+z):=fun k hk=>by
 by_cases q:k<x
 ·exact h k q
 ·exact zc.mp e k (by omega) hk
theorem EO {l m:List Nat} {x z:Nat} (h:seg l x (x+z)≠seg m x (x+z)): ∃k,x<=k/\k<x+z/\l[k]?≠ m[k]?:= Classical.byContradiction fun q=>h (zc.mpr fun k h1 h2=>Classical.byContradiction fun r=>q ⟨k,h1,h2,r⟩)
noncomputable def zd (s:Sn):Int×Int:=if leads s.u=true then ((s.c:Int),((s.p / s.r:Nat):Int)) else (-(s.c:Int), -(((s.u.length - 1 - s.p) / s.r:Nat):Int))
def qk (_:PySem.W.Frag) (CW CS:Addr):Sp:=fun vs H Q _=> ∃(y:List Nat) (lg:Nat) (s:Sn),vs=[.ref s.a]/\js H CW CS y lg s/\ ∀p H',H p=none->H' p=some (.tup [.int (zd s).1, .int (zd s).2])->ak H H'->Q (.ref p) H'
theorem xk {K:PySem.W.Frag} {CW CS:Addr} {vs:List V} {H:Hp} {Q:VK} {E:XK} (h:qk K CW CS vs H Q E):vs.length=1:=by obtain ⟨_,_,_,rfl,_⟩:=h;rfl
noncomputable def j6 (y:List Nat) (M:Nat) (s:Sn):List Int:=kk y (sq s.u s.p) 0 M++[(zd s).1,(zd s).2]
def ju (_:PySem.W.Frag) (CW CS:Addr):Sp:=fun vs H Q _=> ∃(y:List Nat) (lg:Nat) (s t:Sn),vs=[.ref s.a, .ref t.a]/\Yd y/\y.length<=8/\js H CW CS y lg s/\js H CW CS y lg t/\rd s.u s.p=rd t.u t.p/\ ∀H',ak H H'->Q (.bl (bF (j6 y (2*lg) s) (j6 y (2*lg) t))) H'
theorem og {K:PySem.W.Frag} {CW CS:Addr} {vs:List V} {H:Hp} {Q:VK} {E:XK} (h:ju K CW CS vs H Q E):vs.length=2:=by obtain ⟨_,_,_,_,rfl,_⟩:=h;rfl
theorem jv {u:List Nat} {r:Nat} (hn:u≠[]) (h:bS u r):1<=r/\r<=u.length:=by
 rcases h with ⟨z,_⟩ | ⟨h1,h2,_⟩
 ·exact absurd z hn
 ·exact ⟨h1,h2⟩
theorem AJ {y u:List Nat} {i:Nat} (h:i<u.length):(stx y u)[i]? =some (xR (cst y u i)):=by
 unfold stx
 rw[Zk,Qc1 h]
 rfl
theorem uR (y u:List Nat) (i:Int):cst y u (i%u.length)=cst y u i:=by
 unfold cst
 rw[ie, <-ie u (i%u.length - 1),Qdg,Qbt _ (Int.dvd_refl _), <-Qdg,ie]
theorem ER {y:List Nat} {lg:Nat} {s:Sn} (hn:s.u≠[]) {k:Nat} (h:s.p+1+k<s.u.length*jr lg s.u.length):(CM y lg s)[k]? =some (xR (fP y (sq s.u s.p) (k+1))):=by
 have hp:=Ww.mpr hn
 unfold CM
 rw[Qan,lH _ _ _ (by rw[de,Qa1];exact h),de,AJ (Qbk _ hp),EM,Qcd,uR]
 congr 3
 omega
theorem ES {y:List Nat} {lg:Nat} {s:Sn} (hn:s.u≠[]) (hp:s.p<s.u.length) {k:Nat} (h:s.u.length - 1 - s.p+k<s.u.length*jr lg s.u.length):(CN y lg s)[k]? =some (xR (fP y (sq s.u s.p) (-(k:Int)))):=by
 have hl:=Ww.mpr hn
 unfold CN
 rw[Qan,lH _ _ _ (by rw[Zz,de,Qa1];exact h),Zz,de]
 have hm:=Qbk (s.u.length - 1 - s.p+k) hl
 rw[Qbq (by rw[de];exact hm),de,AJ (by omega),EM]
 congr 2
 rw[<-uR y s.u (s.p+ -(k:Int)), <-uR y s.u ((s.u.length - 1 - (s.u.length - 1 - s.p+k)%s.u.length:Nat):Int)]
 congr 1
 have e:((s.u.length - 1 - (s.u.length - 1 - s.p+k)%s.u.length:Nat):Int)=(s.u.length:Int) - 1 - ((s.u.length:Int) - 1 - s.p+k)%s.u.length:=by
  have:(((s.u.length - 1 - s.p+k)%s.u.length:Nat):Int)=((s.u.length:Int) - 1 - s.p+k)%s.u.length:=by
   rw[Qcd];congr 1;omega
  omega
 rw[e,Qdg,Qbt _ (Int.dvd_refl _), <-Qdg]
 congr 1
 omega
theorem tD {lg:Nat} {s:Sn} {en:Nat} (hp:s.p<s.u.length) (he:en<=s.u.length+lg):s.p+1+en<s.u.length*jr lg s.u.length+1/\s.u.length - 1 - s.p+en<s.u.length*jr lg s.u.length:=by
 have:=(lX (lg:=lg) (n:=s.u.length) (by omega)).2
 omega
theorem AK {u:List Nat} {r:Nat} (hn:u≠[]) (h:bS u r) (p k:Int):sq u p (k+r)=sq u p k:=by
 have:=((jm hn h).2 (p+r) p).mpr (by rw[show p+(r:Int) - p=r by omega,Int.emod_self])
 have e:=this k
 unfold sq at e ⊢
 rw[show p+(k+r)=p+r+k by omega]
 exact e
theorem AL {a b:Int} (ha:0<=a) (hb:0<=b) (h:xR a=xR b):a=b:=by unfold xR at h;omega
theorem ET {a b:Int} (ha:0<=a) (hb:0<=b):xR a<xR b↔a<b:=by unfold xR;omega
theorem AM {y:List Nat} {f:Int->Nat} (hy:Yd y) (h:kg y f) (k:Int):0<=fP y f k:=by
 have:=(eN (hy.cl _ (h.bO (k - 1))) (h.bO k) (Ne.symm (h.red k))).1
 unfold fP
 omega
theorem AN {l m:List Nat} {en a n:Nat} (ha:a<en) (h1: ∀k,k<a->l[k]? =m[k]?) (h2:l[a]?≠ m[a]?) (g1:jt l m n) (g2:en<=n\/l[n]?≠ m[n]?):n=a:=by
 by_cases z:a<n
 ·exact absurd (g1 a z) h2
 ·by_cases z2:n<a
  ·rcases g2 with g2 | g2
   ·omega
   ·exact absurd (h1 n z2) g2
  ·omega
theorem AO {l m:List Nat} {en n:Nat} (h1: ∀k,k<en->l[k]? =m[k]?) (g2:en<=n\/l[n]?≠ m[n]?):en<=n:=by
 rcases g2 with g2 | g2
 ·exact g2
 ·exact Classical.byContradiction fun z=>g2 (h1 n (by omega))
theorem oU {l:List Nat} {a x:Nat} (h:l[a]? =some x):seg l a (a+1)=[x]:=by
 obtain ⟨ha,e⟩:=Kr.mp h
 unfold seg
 rw[Z4 ha,e,show a+1 - a=1 by omega]
 rfl
theorem EU (x z:Nat):decide ([x]<[z])=decide (x<z):=decide_eq_decide.mpr ⟨fun h=>(Qcv.mp h).elim id fun q=>absurd q.2 (Qbn _),fun h=>Qcv.mpr (.inl h)⟩
theorem HM (a b c d:Int):F_ a b c d=bF [a,b] [c,d]:=by
 unfold F_
 show _=if a=c then (if b=d then bF [] [] else decide (b<d)) else decide (a<c)
 by_cases z:a=c
 ·rw[if_pos z,if_pos z]
  by_cases q:b=d
  ·rw[if_pos q,q];simp[bF]
  ·rw[if_neg q]
 ·rw[if_neg z,if_neg z]
noncomputable def AQ (ss:List Sn):List V:=ss.map fun s=>V.ref s.a
theorem lY (ss:List Sn):(AQ ss).length=ss.length:=by unfold AQ;rw[QW]
theorem LC {ss:List Sn} {i:Nat} {s:Sn} (h:ss[i]? =some s):(AQ ss)[i]? =some (V.ref s.a):=by unfold AQ;rw[Zk,h];rfl
theorem HN {ss:List Sn} {i:Nat} {x:V} (h:(AQ ss)[i]? =some x): ∃s,ss[i]? =some s/\x=V.ref s.a:=by
 unfold AQ at h
 rw[Zk]at h
 cases e:ss[i]? with
 | none=>rw[e]at h;cases h
 | some p=>rw[e]at h;cases h;exact ⟨p,rfl,rfl⟩
def Ce (y:List Nat) (M:Nat) (ss:List Sn):Prop:=ss.Pairwise fun s t=>bF (j6 y M t) (j6 y M s)=false
def iO (_:PySem.W.Frag) (CW CS:Addr):Sp:=fun vs H Q _=> ∃(y:List Nat) (lg:Nat) (a:Addr) (ss:List Sn) (t:Sn),vs=[.ref a, .ref t.a]/\Yd y/\y.length<=8/\H a=some (.lst (AQ ss))/\(∀s∈ss,js H CW CS y lg s/\rd s.u s.p=rd t.u t.p)/\js H CW CS y lg t/\Ce y (2*lg) ss/\ss.length<=100000/\
 ∀(n:Nat) H',n<=ss.length->(∀k s,ss[k]? =some s->k<n->bF (j6 y (2*lg) s) (j6 y (2*lg) t)=true)->(∀k s,ss[k]? =some s->n<=k->bF (j6 y (2*lg) s) (j6 y (2*lg) t)=false)->ak H H'->Q (.int n) H'
theorem mV {K:PySem.W.Frag} {CW CS:Addr} {vs:List V} {H:Hp} {Q:VK} {E:XK} (h:iO K CW CS vs H Q E):vs.length=2:=by obtain ⟨_,_,_,_,_,rfl,_⟩:=h;rfl
structure Wp where
 t:Addr
 a:Addr
 b:Addr
 r:Nat
 q:Nat
noncomputable def Gi (l:List Wp):List V:=l.map fun p=>V.ref p.t
theorem EV {l:List Wp} {i:Nat} {p:Wp} (h:l[i]? =some p):(Gi l)[i]? =some (V.ref p.t):=by unfold Gi;rw[Zk,h];rfl
theorem EW (l:List Wp) (p:Wp):Gi l++[V.ref p.t]=Gi (l++[p]):=by unfold Gi;rw[Wx];rfl
structure uS (H:Hp) (C:Addr) (y:List Nat) (lg:Nat) (w:List Nat) (p:Wp):Prop where
 tp:H p.t=some (.tup [.ref p.a, .ref p.b])
 on:Cc H C p.a y w lg p.r
 bk:Cc H C p.b y (eX w) lg p.q
theorem uS.same {H H':Hp} {C:Addr} {y:List Nat} {lg:Nat} {w:List Nat} {p:Wp} (h:uS H C y lg w p) (s:ak H H'):uS H' C y lg w p:=⟨s _ _ h.tp,h.on.same s,h.bk.same s⟩
structure ze (w:List Nat) (c i:Nat) (s:Sn):Prop where
 ec:s.c=c
 ei:s.i=i
 eu:s.u=if aA (rd w i)=true then w else eX w
 ep:s.p=if aA (rd w i)=true then i else w.length - 1 - i
def jw (_:PySem.W.Frag) (CW CS:Addr):Sp:=fun vs H Q _=> ∃(y:List Nat) (lg:Nat) (wt vt st:Addr) (w:List Nat) (ws:List (List Nat)) (mj:List Wp) (p:Wp) (c i:Nat),vs=[.ref wt, .ref vt, .ref st]/\Yd y/\H wt=some (.tup (g6 ws))/\H vt=some (.lst (Gi mj))/\H st=some (.tup [.int c, .int i])/\ws[c]? =some w/\mj[c]? =some p/\uS H CW y lg w p/\i<w.length/\
 ∀(s:Sn) H',ze w c i s->s.t=st->js H' CW CS y lg s->H s.a=none->ak H H'->Q (.ref s.a) H'
theorem oh {K:PySem.W.Frag} {CW CS:Addr} {vs:List V} {H:Hp} {Q:VK} {E:XK} (h:jw K CW CS vs H Q E):vs.length=3:=by obtain ⟨_,_,_,_,_,_,_,_,_,_,_,rfl,_⟩:=h;rfl
def km (_:PySem.W.Frag):Sp:=fun vs H Q _=> ∃(wt:Addr) (ws:List (List Nat)) (band:Nat),vs=[.ref wt, .str (S [band])]/\H wt=some (.tup (g6 ws))/\ws.length<=4/\(∀w∈ws,(∀c∈w,Lt c)/\w.length<=12)/\band∈aQ/\ ∀(q:Addr) (ps:List Pr) (H':Hp),H q=none->H' q=some (.lst (kh ps))->(∀p∈ps,lQ H' p)->ps.map Pr.pair=cE band ws ws.length->ak H H'->Q (.ref q) H'
theorem ql {K:PySem.W.Frag} {vs:List V} {H:Hp} {Q:VK} {E:XK} (h:km K vs H Q E):vs.length=2:=by obtain ⟨c,_,_,rfl,_⟩:=h;rfl
open Classical in
noncomputable def Tv (w:List Nat):Nat:=if h: ∃s,bS w s then choose h else 0
theorem EX {w:List Nat} (hn:w≠[]):bS w (Tv w):=by
 have h:=Ao hn
 unfold Tv
 rw[dif_pos h]
 exact Classical.choose_spec h
theorem EY {y w:List Nat} {r q:Nat} (hy:Yd y) (hw:SW y w) (h:bS w r) (g:bS (eX w) q):q=r:=by
 have hn:=hw.ne
 have ht:=p9 hn
 have p1:=jv hn h
 have p2:=jv ht g
 have key: ∀d:Nat,(d:Int)%(r:Int)=0↔(d:Int)%(q:Int)=0:=fun d=>by
  have a:=(jm hn h).2 d 0
  have b:=(jm ht g).2 d 0
  rw[Qcq]at a b
  rw[<-a, <-b]
  constructor
  ·intro p k
   rw[jM hn,jM hn]
   unfold bq
   have:=p (-1 - (d:Int) - k)
   unfold sq at this
   have e1:rd w (-1 - (0:Int) - k)=rd w ((d:Int)+(-1 - (d:Int) - k)):=by congr 1;omega
   have e2:rd w (-1 - (d:Int) - k)=rd w (0+(-1 - (d:Int) - k)):=by congr 1;omega
   rw[e1,e2,this]
  ·intro p k
   have e: ∀x:Int,rd w x=az (rd (eX w) (-1 - x)):=fun x=>by
    rw[mI hn,show -1 - (-1 - x)=x by omega,aF (hy.lt _ (hw.rd _))]
   unfold sq
   rw[e,e]
   have:=p (-1 - (d:Int) - k)
   unfold sq at this
   rw[show -1 - ((d:Int)+k)=0+(-1 - (d:Int) - k) by omega, <-this]
   congr 2
   omega
 have a:=(key r).mp (Int.emod_self)
 have b:=(key q).mpr (Int.emod_self)
 have a':r%q=0:=by
  have:((r%q:Nat):Int)=0:=by rw[<-a];rfl
  omega
 have b':q%r=0:=by
  have:((q%r:Nat):Int)=0:=by rw[<-b];rfl
  omega
 exact Qdq (Nat.le_of_dvd (by omega) (Nat.dvd_of_mod_eq_zero a')) (Nat.le_of_dvd (by omega) (Nat.dvd_of_mod_eq_zero b'))
noncomputable def HP (ws:List (List Nat)) (c:Nat):Bool:=leads (ws.getD c [])
noncomputable def HQ (ws:List (List Nat)) (c:Nat):Nat:=Tv (ws.getD c [])
noncomputable def Rh (y:List Nat) (ws:List (List Nat)) (M:Nat) (x:Nat×Nat):List Int:=cK y ws (HP ws) (HQ ws) M x.1 x.2
theorem ze.line {y w:List Nat} {c i:Nat} {s:Sn} (hy:Yd y) (hw:SW y w) (hi:i<w.length) (h:ze w c i s):sq s.u s.p=n_ w i:=by
 rw[h.eu,h.ep]
 unfold n_
 by_cases z:aA (rd w i)=true
 ·rw[if_pos z,if_pos z,if_pos z]
 ·rw[if_neg z,if_neg z,if_neg z, <-Lc hw.ne,show ((w.length - 1 - i:Nat):Int)=(w.length:Int) - 1 - i by omega]
theorem AR {y w:List Nat} {ws:List (List Nat)} {c i M:Nat} {s:Sn} (hy:Yd y) (hw:SW y w) (hi:i<w.length) (e:ws.getD c []=w) (h:ze w c i s) (rt:bS s.u s.r):j6 y M s=Rh y ws M (c,i):=by
 unfold j6 Rh cK
 rw[h.line hy hw hi]
 simp only[e]
 congr 1
 unfold zd Ge HP HQ
 rw[e,h.ec]
 have vT:=EX hw.ne
 by_cases z:aA (rd w i)=true
 ·have eu:s.u=w:=by rw[h.eu,if_pos z]
  have ep:s.p=i:=by rw[h.ep,if_pos z]
  rw[eu]at rt ⊢
  have er:=D7 hw.ne rt vT
  rw[er,ep,z]
  by_cases l:leads w=true
  ·rw[if_pos l,l];rfl
  ·rw[if_neg l,if_neg (fun q=>l q.symm)];rfl
 ·have eu:s.u=eX w:=by rw[h.eu,if_neg z]
  have ep:s.p=w.length - 1 - i:=by rw[h.ep,if_neg z]
  rw[eu]at rt ⊢
  have er:=EY hy hw vT rt
  have z':aA (rd w i)=false:=by simpa using z
  rw[er,ep,z',sV hy hw,b_]
  have ei:w.length - 1 - (w.length - 1 - i)=i:=by omega
  rw[ei]
  cases leads w<;>rfl
theorem ze.band {y w:List Nat} {c i band:Nat} {s:Sn} (hy:Yd y) (hw:SW y w) (hi:i<w.length) (hb:band∈aQ) (ho:w5 band (rd w i)=true) (h:ze w c i s):rd s.u s.p=band:=by
 have lb:Lt band:= .inl hb
 have lo:aA band=true:=by rw[dQ lb];exact decide_eq_true hb
 have CV:rd w i=band\/rd w i=az band:=by
  unfold w5 at ho
  simpa using ho
 rw[h.eu,h.ep]
 rcases CV with e | e
 ·rw[if_pos (by rw[e];exact lo),if_pos (by rw[e];exact lo)]
  exact e
 ·have z: ¬aA (rd w i)=true:=by rw[e,dc _ lb.mem,lo];decide
  rw[if_neg z,if_neg z,mI hw.ne,show -1 - ((w.length - 1 - i:Nat):Int)=i - w.length by omega,yN,e,aF lb]
def EZ (y:List Nat) (ws:List (List Nat)) (M:Nat) (l:List (Nat×Nat)):Prop:=l.Pairwise fun s t=>bF (Rh y ws M t) (Rh y ws M s)=false
def ko (_:PySem.W.Frag) (CW CS:Addr):Sp:=fun vs H Q _=> ∃(y:List Nat) (lg:Nat) (wt vt:Addr) (ws:List (List Nat)) (mj:List Wp) (band:Nat),vs=[.ref wt, .ref vt, .str (S [band])]/\Yd y/\y.length<=8/\H wt=some (.tup (g6 ws))/\ws.length<=4/\(∀w∈ws,SW y w/\w.length<=12)/\band∈aQ/\H vt=some (.lst (Gi mj))/\mj.length=ws.length/\(∀(c:Nat) (w:List Nat) (p:Wp),ws[c]? =some w->mj[c]? =some p->uS H CW y lg w p)/\
 ∀(q:Addr) (ps:List Pr) (H':Hp),H q=none->H' q=some (.tup (kh ps))->(∀p∈ps,lQ H' p)->(ps.map Pr.pair).Perm (cE band ws ws.length)->EZ y ws (2*lg) (ps.map Pr.pair)->ak H H'->Q (.ref q) H'
theorem qm {K:PySem.W.Frag} {CW CS:Addr} {vs:List V} {H:Hp} {Q:VK} {E:XK} (h:ko K CW CS vs H Q E):vs.length=3:=by obtain ⟨_,_,_,_,_,_,_,rfl,_⟩:=h;rfl
theorem LD {y:List Nat} {M:Nat} {ss:List Sn} {t:Sn} {n:Nat} (up:Ce y M ss) (h1: ∀k s,ss[k]? =some s->k<n->bF (j6 y M s) (j6 y M t)=true) (h2: ∀k s,ss[k]? =some s->n<=k->bF (j6 y M s) (j6 y M t)=false):Ce y M (ss.take n++t::ss.drop n):=by
 have tk: ∀s∈ss.take n,bF (j6 y M s) (j6 y M t)=true:=fun s hs=>by
  obtain ⟨k,hk,e⟩:=Qbj hs
  rw[Zi]at hk
  rw[List.getElem_take]at e
  exact h1 k s (by rw[<-e];exact Kq (by omega)) (by omega)
 have dr: ∀s∈ss.drop n,bF (j6 y M s) (j6 y M t)=false:=fun s hs=>by
  obtain ⟨k,hk,e⟩:=Qbj hs
  rw[Zs]at hk
  rw[List.getElem_drop]at e
  exact h2 (n+k) s (by rw[<-e];exact Kq (by omega)) (by omega)
 have Tw:Ce y M (ss.take n++ss.drop n):=by rw[Z5];exact up
 unfold Ce at Tw ⊢
 rw[Qaw]at Tw ⊢
 rw[Qar]
 obtain ⟨u1,u2,u3⟩:=Tw
 refine ⟨u1,⟨fun s hs=>dr s hs,u2⟩,fun a ha b hb=>?_⟩
 rcases Wz.mp hb with e | e
 ·rw[e];exact (mJ (tk a ha)).1
 ·exact u3 a ha b e
theorem jx (band:Nat) {ws:List (List Nat)} (hw: ∀w∈ws,w.length<=12): ∀n,n<=ws.length->(cE band ws n).length<=12*n
 | 0,_=>Zg _
 | n+1,h=>by
  have ih:=jx band hw n (by omega)
  unfold cE at ih ⊢
  rw[Qak,Z1,UO,Qbo]
  have h1:(gQ band n (ws.getD n []) (ws.getD n []).length).length<=12:=by
   unfold gQ
   rw[QW]
   refine ZG (Qa9 _ _) ?_
   rw[Qba]
   exact hw _ (getD_in (by omega))
  omega
theorem zf {band:Nat} {ws:List (List Nat)} {x:Nat×Nat} (h:x∈cE band ws ws.length): ∃w,ws[x.1]? =some w/\x.2<w.length/\w5 band (rd w x.2)=true:=by
 unfold cE at h
 obtain ⟨c,hc,h⟩:=Zx.mp h
 have oE:=Qah.mp hc
 unfold gQ at h
 obtain ⟨i,hi,e⟩:=Zu.mp h
 obtain ⟨i1,i2⟩:=ZH.mp hi
 have Vg:=Qah.mp i1
 subst e
 refine ⟨ws.getD c [],by rw[Wy,Kq oE];rfl,Vg,?_⟩
 have:(ws.getD c []).getD i 0=rd (ws.getD c []) i:=by
  have:=fO Vg
  rw[Wy,this];rfl
 show w5 band (rd (ws.getD c []) i)=true
 rw[<-this]
 exact i2
theorem tE {H H':Hp} {x dx C:Addr} (nx:H x=none) (LF:H dx=none) (sm:aN x (L2.upd (L2.upd H dx (.own x)) x (.ins C dx [])) H'):ak H H':=fun a o e=>by
 refine sm a o ?_ (au e nx)
 rw[ar (au e nx),ar (au e LF)]
 exact e
noncomputable def HR (ws:List (List Nat)):List Int:=ws.map fun w=>(w.length:Int)
theorem HS (l:List Int): ∀a:Int,a<=l.foldl (fun x y=>if y>x then y else x) a/\(∀x∈l,x<=l.foldl (fun x y=>if y>x then y else x) a)/\(l.foldl (fun x y=>if y>x then y else x) a=a\/l.foldl (fun x y=>if y>x then y else x) a∈l):=by
 induction l with
 | nil=>exact fun a=>⟨Int.le_refl _,fun _ h=>absurd h Zl, .inl rfl⟩
 | cons b r ih=>
  intro a
  rw[Qbv]
  obtain ⟨h1,h2,h3⟩:=ih (if b>a then b else a)
  have h4:a<=(if b>a then b else a)/\b<=(if b>a then b else a):=by split<;>omega
  refine ⟨by omega,fun x hx=>?_,?_⟩
  ·rcases Wz.mp hx with e | e
   ·rw[e];omega
   ·exact h2 x e
  ·rcases h3 with e | e
   ·rw[e]
    split
    ·exact .inr YO
    ·exact .inl rfl
   ·exact .inr (YQ _ e)
theorem zg {ws:List (List Nat)} (h: ∀w∈ws,w.length<=12): ∃lg:Nat,K4 0 (HR ws)=lg/\lg<=12/\ ∀w∈ws,w.length<=lg:=by
 cases ws with
 | nil=>exact ⟨0,rfl,by decide,fun _ h=>absurd h Zl⟩
 | cons v r=>
  obtain ⟨h1,h2,h3⟩:=HS (HR r) (v.length:Int)
  have e:K4 0 (HR (v::r))=(HR r).foldl (fun x y=>if y>x then y else x) (v.length:Int):=rfl
  rw[e]
  generalize (HR r).foldl (fun x y=>if y>x then y else x) (v.length:Int)=m at*
  have hm: ∃w∈v::r,m=(w.length:Int):=by
   rcases h3 with q | q
   ·exact ⟨v,YO,q⟩
   ·obtain ⟨w,hw,e'⟩:=Zu.mp q
    exact ⟨w,YQ _ hw,e'.symm⟩
  obtain ⟨w,hw,rfl⟩:=hm
  refine ⟨w.length,rfl,h w hw,fun u hu=>?_⟩
  rcases Wz.mp hu with q | q
  ·rw[q];omega
  ·have:=h2 _ (Zu.mpr ⟨u,q,rfl⟩)
   omega
def oV (y:List Nat) (ws:List (List Nat)) (os:List Od):Prop:= ∃M,(∀w∈ws, ∀v∈ws,w.length+v.length<=M)/\iT y ws os/\ ∀o∈os,EZ y ws M (o.ps.map Pr.pair)
def AS (_:PySem.W.Frag):Sp:=fun vs H Q _=> ∃(y:List Nat) (wt:Addr) (ws:List (List Nat)),vs=[.str (S y), .ref wt]/\Yd y/\y.length<=8/\H wt=some (.tup (g6 ws))/\ws.length<=4/\(∀w∈ws,SW y w/\w.length<=12)/\ ∀(dr:Addr) (os:List Od) (H':Hp),uJ H' dr ws os->oV y ws os->ak H H'->Q (.ref dr) H'
theorem E1 {K:PySem.W.Frag} {vs:List V} {H:Hp} {Q:VK} {E:XK} (h:AS K vs H Q E):vs.length=2:=by obtain ⟨_,_,_,rfl,_⟩:=h;rfl
theorem HU {H:Hp} {C:Addr} {y:List Nat} {lg i:Nat} {ws:List (List Nat)} {mj:List Wp} {w:List Nat} {p:Wp} (hl:mj.length=i) (h: ∀(c:Nat) (w:List Nat) (p:Wp),ws[c]? =some w->mj[c]? =some p->uS H C y lg w p) (hw:ws[i]? =some w) (hp:uS H C y lg w p): ∀(c:Nat) (w:List Nat) (q:Wp),ws[c]? =some w->(mj++[p])[c]? =some q->uS H C y lg w q:=fun c v q hv hq=>by
 by_cases z:c<mj.length
 ·rw[ZE z]at hq
  exact h c v q hv hq
 ·rw[ZT (by omega)]at hq
  have:c=i:=by
   have:=(Kr.mp hq).1
   simp at this
   omega
  subst this
  rw[hl,Qcn]at hq
  rw[hw]at hv
  cases hv
  cases hq
  exact hp
theorem xl {y:List Nat} (h:Yd y) {b:Nat} (hb:b∈aR y):b∈aQ:=by
 obtain ⟨h1,h2⟩:=ZH.mp ((eQ y).mem_iff.mp hb)
 rw[dQ (h.lt b h1)]at h2
 exact of_decide_eq_true h2
theorem E2 {y:List Nat} {ws:List (List Nat)} {L:Nat->Bool} {r:Nat->Nat} {M:Nat} (h:gm y ws L r M) {c i d j x:Nat} (hc:c<ws.length) (hd:d<ws.length) (hi:i<(ws.getD c []).length) (hj:j<(ws.getD d []).length) (dR:(c,i)≠(d,j)) (hx:aA x=true) (e1:rd (ws.getD c []) i=x\/rd (ws.getD c []) i=az x) (e2:rd (ws.getD d []) j=x\/rd (ws.getD d []) j=az x):
  bF (cK y ws L r M c i) (cK y ws L r M d j)=true\/bF (cK y ws L r M d j) (cK y ws L r M c i)=true:=by
 have hw:=h.sw c hc
 have hv:=h.sw d hd
 have hy:=h.yd
 have lw:=Ww.mpr hw.ne
 have lv:=Ww.mpr hv.ne
 have xs: ∀{w:List Nat} {k:Nat},SW y w->(rd w k=x\/rd w k=az x)->Lt x:=fun {w k} hw e=>by
  have h9:97<=x/\x<=122:=by unfold aA at hx;simpa using hx
  refine .inl ?_
  have: ∀k,k<26->k+97∈aQ:=by decide
  have h8:=this (x - 97) (by omega)
  rwa [show x - 97+97=x by omega]at h8
 have lx:=xs hw e1
 have yU: ∀{w:List Nat} {k:Nat},SW y w->Dl w k (n_ w k)/\((rd w k=x\/rd w k=az x)->n_ w k 0=x)/\(n_ w k=if aA (rd w k)=true then sq w k else bq w k):=fun {w k} hw=>by
  refine ⟨?_,fun e=>?_,rfl⟩
  ·unfold n_
   by_cases z:aA (rd w k)=true
   ·rw[if_pos z];exact .inl rfl
   ·rw[if_neg z];exact .inr rfl
  ·unfold n_
   rcases e with e | e
   ·rw[if_pos (by rw[e];exact hx)]
    unfold sq
    rw[Qdi];exact e
   ·have z: ¬aA (rd w k)=true:=by rw[e,dc _ lx.mem,hx];decide
    rw[if_neg z]
    unfold bq
    rw[Qcq,e,aF lx]
 obtain ⟨df,f0,fe⟩:=yU (k:=i) hw
 obtain ⟨Xp,g0,ge⟩:=yU (k:=j) hv
 have lf:=df.yU hy hw
 have lg:=Xp.yU hy hv
 by_cases par: ∀k,n_ (ws.getD c []) i k=n_ (ws.getD d []) j k
 ·unfold cK
  rw[show n_ (ws.getD c []) i=n_ (ws.getD d []) j from funext par,gP,gP]
  by_cases cd:c=d
  ·subst cd
   have ij:i≠j:=fun z=>dR (by rw[z])
   obtain ⟨h1,h2⟩:=h.root hc
   have hr:=h.rp c hc
   -- one and FT same way
   have low:aA (rd (ws.getD c []) i)=aA (rd (ws.getD c []) j):=by
    by_cases z1:aA (rd (ws.getD c []) i)=true<;>by_cases z2:aA (rd (ws.getD c []) j)=true
    ·rw[z1,z2]
    ·exfalso
     rw[fe,ge,if_pos z1,if_neg z2]at par
     exact yX hy hw _ _ par
    ·exfalso
     rw[fe,ge,if_neg z1,if_pos z2]at par
     exact yX hy hw _ _ fun k=>(par k).symm
    ·rw[show aA (rd (ws.getD c []) i)=false by simpa using z1,show aA (rd (ws.getD c []) j)=false by simpa using z2]
   have ps:kI (ws.getD c []) (ws.getD c []) i j:=by
    by_cases z1:aA (rd (ws.getD c []) i)=true
    ·have z2:aA (rd (ws.getD c []) j)=true:=by rw[<-low];exact z1
     rw[fe,ge,if_pos z1,if_pos z2]at par
     exact par
    ·have z2: ¬aA (rd (ws.getD c []) j)=true:=by rw[<-low];exact z1
     rw[fe,ge,if_neg z1,if_neg z2]at par
     have e:=congrArg nJ (funext par)
     rw[<-gO, <-gO,wU hy (cn hw _),wU hy (cn hw _)]at e
     exact fun k=>congrFun e k
   have q:=(h.rr c hc _ _).mp ps
   have P8:i%r c=j%r c:=by
    have q2:=Int.emod_eq_emod_iff_emod_sub_eq_zero.mpr q
    have q3:((i%r c:Nat):Int)=((j%r c:Nat):Int):=q2
    omega
   have k1:= @Ek (ws.getD c []).length _ (r c) c i j (L c) (aA (rd (ws.getD c []) j)) hr h1 hi hj P8 ij
   have k2:= @Ek (ws.getD c []).length _ (r c) c j i (L c) (aA (rd (ws.getD c []) j)) hr h1 hj hi P8.symm (Ne.symm ij)
   rw[low]
   by_cases z:aA (rd (ws.getD c []) j)=true
   ·rw[if_pos z]at k1 k2
    rw[k1,k2,decide_eq_true_iff,decide_eq_true_iff]
    omega
   ·rw[if_neg z]at k1 k2
    rw[k1,k2,decide_eq_true_iff,decide_eq_true_iff]
    omega
  ·have hl:L d=if aA (rd (ws.getD d []) j)=aA (rd (ws.getD c []) i) then L c else !L c:=by
    by_cases z1:aA (rd (ws.getD c []) i)=true<;>by_cases z2:aA (rd (ws.getD d []) j)=true
    ·rw[z1,z2,if_pos rfl]
     rw[fe,ge,if_pos z1,if_pos z2]at par
     exact (h.l1 c d i j hc hd par).symm
    ·rw[if_neg (fun q=>z2 (q.trans z1))]
     rw[fe,ge,if_pos z1,if_neg z2]at par
     exact h.l2 c d i j hc hd par
    ·rw[if_neg (fun q=>z1 (q.symm.trans z2))]
     rw[fe,ge,if_neg z1,if_pos z2]at par
     have:=h.l2 d c j i hd hc fun k=>(par k).symm
     rw[this,Bool.not_not]
    ·rw[show aA (rd (ws.getD c []) i)=false by simpa using z1,show aA (rd (ws.getD d []) j)=false by simpa using z2,if_pos rfl]
     rw[fe,ge,if_neg z1,if_neg z2]at par
     have e:=congrArg nJ (funext par)
     rw[<-gO, <-gO,wU hy (cn hw _),wU hy (cn hv _)]at e
     exact (h.l1 c d i j hc hd fun k=>congrFun e k).symm
   have By:= @uG (ws.getD c []).length (ws.getD d []).length (r c) (r d) c d i j (L c) (aA (rd (ws.getD c []) i)) (aA (rd (ws.getD d []) j)) cd
   have iW:L c=if aA (rd (ws.getD c []) i)=aA (rd (ws.getD d []) j) then L d else !L d:=by
    rw[hl]
    cases aA (rd (ws.getD d []) j)<;>cases aA (rd (ws.getD c []) i)<;>cases L c<;>rfl
   have HH:= @uG (ws.getD d []).length (ws.getD c []).length (r d) (r c) d c j i (L d) (aA (rd (ws.getD d []) j)) (aA (rd (ws.getD c []) i)) (Ne.symm cd)
   rw[<-hl]at By
   rw[<-iW]at HH
   rw[By,HH,hl]
   cases aA (rd (ws.getD d []) j)<;>cases aA (rd (ws.getD c []) i)<;>cases L c<;>simp<;>omega
 ·have B5: ∃k,n_ (ws.getD c []) i k≠n_ (ws.getD d []) j k:=Classical.byContradiction fun z=>par fun k=>Classical.byContradiction fun w=>z ⟨k,w⟩
  have PV: ∀{w:List Nat} {k:Nat} (z:Int),n_ w k (z+w.length)=n_ w k z:=fun {w k} z=>by
   unfold n_
   split
   ·exact cW w k z
   ·exact p6 w k z
  obtain ⟨a,b,rn,ha,hb⟩:=dv lw lv PV PV ((f0 e1).trans (g0 e2).symm) B5
  have big:=h.big c d hc hd
  unfold cK
  rw[mK hy lf lg rn _ _ M 0 (Zg _) (Zg _) (by omega) (by omega),mK hy lg lf rn.sy _ _ M 0 (Zg _) (Zg _) (by omega) (by omega),Lo hy lf lg (rn.q8 a (by omega) (by omega)) rn.hi,Em hy lf lg (rn.q8 _ (by omega) (by omega)) rn.lo]
  by_cases z:a<=b
  ·rw[if_pos z,if_pos z]
   cases lK y (n_ (ws.getD c []) i) (n_ (ws.getD d []) j) a
   ·exact .inr rfl
   ·exact .inl rfl
  ·rw[if_neg z,if_neg z]
   cases mi y (n_ (ws.getD c []) i) (n_ (ws.getD d []) j) b
   ·exact .inr rfl
   ·exact .inl rfl
theorem E3 {y:List Nat} {ws:List (List Nat)} {os:List Od} (hy:Yd y) (hw: ∀w∈ws,SW y w) (h:oV y ws os): ∃M,gm y ws (HP ws) (HQ ws) M/\EA y ws (HP ws) (HQ ws) M os:=by
 obtain ⟨M,hM,ok,up⟩:=h
 have hs: ∀c,c<ws.length->SW y (ws.getD c []):=fun c hc=>hw _ (getD_in hc)
 have hC:gm y ws (HP ws) (HQ ws) M:=Es hy hs (fun c hc=>EX (hs c hc).ne) fun c d hc hd=>hM _ (getD_in hc) _ (getD_in hd)
 refine ⟨M,hC,ok,fun o ho=>?_⟩
 obtain ⟨j,hj,ej⟩:=Qbj ho
 have Vh:j<(aR y).length:=by rw[<-ok.1];exact hj
 have pm:=ok.2 j o (aR y)[j] (by rw[Kq hj,ej]) (Kq Vh)
 have bs:=xl hy (ZF Vh)
 have lb:Lt (aR y)[j]:= .inl bs
 have lo:aA (aR y)[j]=true:=by rw[dQ lb];exact decide_eq_true bs
 have nd:(o.ps.map Pr.pair).Nodup:=pm.nodup_iff.mpr (mN _ _ _)
 have u:=up o ho
 unfold EZ at u
 refine Qcb (fun {s t} h1 h2 h=>?_) (List.Pairwise.and u nd)
 obtain ⟨w1,e1,i1,o1⟩:=zf (pm.mem_iff.mp h1)
 obtain ⟨w2,e2,i2,o2⟩:=zf (pm.mem_iff.mp h2)
 have c1:=(Kr.mp e1).1
 have c2:=(Kr.mp e2).1
 have g1:ws.getD s.1 []=w1:=by rw[Wy,e1];rfl
 have g2:ws.getD t.1 []=w2:=by rw[Wy,e2];rfl
 have on: ∀{l:Nat},w5 (aR y)[j] l=true->l=(aR y)[j]\/l=az (aR y)[j]:=fun {l} q=>by unfold w5 at q;simpa using q
 have tr:=E2 hC (c:=s.1) (i:=s.2) (d:=t.1) (j:=t.2) c1 c2 (by rw[g1];exact i1) (by rw[g2];exact i2) h.2 lo (by rw[g1];exact on o1) (by rw[g2];exact on o2)
 rcases tr with q | q
 ·exact q
 ·have hf:bF (cK y ws (HP ws) (HQ ws) M t.1 t.2) (cK y ws (HP ws) (HQ ws) M s.1 s.2)=false:=h.1
  rw[hf]at q
  cases q
theorem E4 {α β:Type} (p:β->β->Bool) (f:α->β): ∀l:List α,cl p (l.map f)=cl (fun a b=>p (f a) (f b)) l
 | []=>rfl
 | a::l=>by
  show ((l.map f).filter (p (f a))).length+cl p (l.map f)=(l.filter fun b=>p (f a) (f b)).length+cl _ l
  rw[E4 p f l,Qdu,QW]
  rfl
theorem xm {α:Type} {p q:α->α->Bool}: ∀{l:List α},l.Pairwise (fun a b=>p a b=q a b)->cl p l=cl q l
 | [],_=>rfl
 | a::l,h=>by
  rw[Qar]at h
  show (l.filter (p a)).length+cl p l=(l.filter (q a)).length+cl q l
  rw[xm h.2,Qb6 fun b hb=>h.1 b hb]
theorem E5 {a b a' b':Nat} (h1:a<b) (h2:a'<b') (h4:a<a') (h5:b≠a') (h6:b≠b'):(kj (a,b) (a',b')||kj (a',b') (a,b))=oP a b a' b':=by
 have g4:=Qby h4 h2
 rw[Ar (Zp h1) (Zp h4) (Zp g4) h5 h6]
 unfold kj
 rw[decide_eq_true h4,decide_eq_true g4,decide_eq_false (Qbz h4),gk (Ne.symm h6)]
 have k:decide (b'<b)=true->decide (a'<b)=true:=fun q=>decide_eq_true (Qby h2 (of_decide_eq_true q))
 revert k
 generalize decide (a'<b)=p
 generalize decide (b'<b)=q
 revert p q
 decide
theorem uT {a b a' b':Nat} (h1:a<b) (h2:a'<b') (h3:a≠a') (h4:a≠b') (h5:b≠a') (h6:b≠b'):(kj (a,b) (a',b')||kj (a',b') (a,b))=oP a b a' b':=by
 rcases Qam h3 with q | q
 ·exact E5 h1 h2 q h5 h6
 ·rw[Bool.or_comm,E5 h2 h1 q (Ne.symm h4) (Ne.symm h6),uD (Zp h2) (Zp h1) (Ne.symm h3) (Ne.symm h5) (Ne.symm h4) (Ne.symm h6)]
theorem HV {a b a' b':Nat} (h1:a≠b) (h2:a'≠b') (h3:a≠a') (h4:a≠b') (h5:b≠a') (h6:b≠b'):(kj (min a b,max a b) (min a' b',max a' b')||kj (min a' b',max a' b') (min a b,max a b))=oP a b a' b':=by
 rcases Qam h1 with q | q<;>rcases Qam h2 with r | r
 ·rw[Z_ (ZP q),Qbe (ZP q),Z_ (ZP r),Qbe (ZP r)]
  exact uT q r h3 h4 h5 h6
 ·rw[Z_ (ZP q),Qbe (ZP q),Z7 (ZP r),Qa4 (ZP r),jk]
  exact uT q r h4 h3 h6 h5
 ·rw[Z7 (ZP q),Qa4 (ZP q),Z_ (ZP r),Qbe (ZP r), <-wV h1 h2 h3 h4 h5 h6]
  exact uT q r h5 h6 h3 h4
 ·rw[Z7 (ZP q),Qa4 (ZP q),Z7 (ZP r),Qa4 (ZP r), <-wV h1 h2 h3 h4 h5 h6,jk]
  exact uT q r h6 h5 h4 h3
section
variable {y:List Nat} {ws:List (List Nat)} {L:Nat->Bool} {r:Nat->Nat} {M:Nat}
noncomputable def bu (ps:List (Nat×Nat×Nat)) (c i e:Nat):Nat:=ps.idxOf (c,i,e)
theorem uU {n i:Nat} (h:i<n):p8 n ((i:Int) - 1)=oQ n i/\p8 n (i:Int)=i:=by
 have h1:=ik (n:=n) (by omega) ((i:Int) - 1)
 have h2:=ik (n:=n) (by omega) (i:Int)
 rw[AE h]at h1
 rw[ZD (by omega) (by omega)]at h2
 omega
theorem fj {ps:List (Nat×Nat×Nat)} {c i:Nat} (hi:i<(ws.getD c []).length):(bp ps c (ws.getD c []) i).2.2.1=pI ws (bu ps) c ((i:Int) - 1)/\(bp ps c (ws.getD c []) i).2.2.2=pO ws (bu ps) c i:=by
 obtain ⟨e1,e2⟩:=uU hi
 have g: ∀k,k<(ws.getD c []).length->(ws.getD c []).getD k 0=rd (ws.getD c []) k:=fun k hk=>by
  rw[Wy,fO hk];rfl
 have dR:ws.getD c []≠[]:=fun z=>by rw[z]at hi;exact absurd hi (Qcs _)
 unfold bp pI pO bu
 rw[e1,e2,g _ (uN hi),g _ hi]
 refine ⟨?_,rfl⟩
 have:rd (ws.getD c []) (oQ (ws.getD c []).length i:Nat)=rd (ws.getD c []) ((i:Int) - 1):=by rw[<-e1,cy dR]
 rw[this]
theorem mW (ps:List (Nat×Nat×Nat)) (ws:List (List Nat)): ∀n,eE ps ws n=(CL ws n).map fun x=>bp ps x.1 (ws.getD x.1 []) x.2
 | 0=>rfl
 | n+1=>by
  have ih:=mW ps ws n
  unfold eE at ih ⊢
  unfold CL
  rw[Qak,Z1,ih,Wx,Qbo,ZV]
  rfl
theorem LG (ws:List (List Nat)) (n:Nat):(CL ws n).Nodup:=(Aj n).imp fun {a b} h z=>by
 rw[z]at h
 unfold F_ at h
 simp at h
theorem qp (h:gm y ws L r M) {ps:List (Nat×Nat×Nat)} (hN:Lies y ws L r M (bu ps)) (l:List (Nat×Nat)) (hl:l.Nodup) (vB: ∀x∈l,x.1<ws.length/\x.2<(ws.getD x.1 []).length):(dH (l.map fun x=>bp ps x.1 (ws.getD x.1 []) x.2)).Nodup:=by
 unfold dH
 induction l with
 | nil=>exact List.Pairwise.nil
 | cons x t ih=>
  rw[ZK]at hl
  rw[Zd,ZC,Qag]
  obtain ⟨x1,x2⟩:=vB x YO
  have ex:=fj (ps:=ps) (ws:=ws) (c:=x.1) x2
  refine ⟨?_,ih hl.2 fun z hz=>vB z (YQ _ hz),fun a ha b hb e=>?_⟩
  ·rw[ex.1,ex.2,ZK]
   exact ⟨by simpa using (il h hN x1 x1 x2 x2).1,by simp⟩
  ·obtain ⟨c4,Tx,Ji⟩:=Zx.mp hb
   obtain ⟨z,hz,rfl⟩:=Zu.mp Tx
   obtain ⟨z1,z2⟩:=vB z (YQ _ hz)
   have ez:=fj (ps:=ps) (ws:=ws) (c:=z.1) z2
   have dR:(x.1,x.2)≠(z.1,z.2):=fun q=>hl.1 (by
    have:x=z:=Prod.ext (Prod.mk.inj q).1 (Prod.mk.inj q).2
    rw[this];exact hz)
   have n1:=il h hN x1 z1 x2 z2
   have n2:=il h hN z1 x1 z2 x2
   rw[ex.1,ex.2]at ha
   rw[ez.1,ez.2]at Ji
   have Vi:a=pI ws (bu ps) x.1 ((x.2:Int) - 1)\/a=pO ws (bu ps) x.1 x.2:=by simpa using ha
   have iJ:b=pI ws (bu ps) z.1 ((z.2:Int) - 1)\/b=pO ws (bu ps) z.1 z.2:=by simpa using Ji
   rw[e]at Vi
   rcases Vi with p | p<;>rcases iJ with q | q<;>rw[p]at q
   ·exact (n1.2 dR).1 q
   ·exact n1.1 q
   ·exact n2.1 q.symm
   ·exact (n1.2 dR).2 q
theorem qq (h:gm y ws L r M) {ps:List (Nat×Nat×Nat)} (hN:Lies y ws L r M (bu ps)) (l:List (Nat×Nat)) (hl:l.Nodup) (vB: ∀x∈l,x.1<ws.length/\x.2<(ws.getD x.1 []).length):cl (fun x z=>kj x z||kj z x) (lT (l.map fun x=>bp ps x.1 (ws.getD x.1 []) x.2))=cl (Rc ws (bu ps)) l:=by
 unfold lT
 rw[ZV,E4]
 refine xm (Qcb (fun {a b} ha hb CK=>?_) hl)
 obtain ⟨a1,a2⟩:=vB a ha
 obtain ⟨b1,b2⟩:=vB b hb
 have ea:=fj (ps:=ps) (ws:=ws) (c:=a.1) a2
 have eb:=fj (ps:=ps) (ws:=ws) (c:=b.1) b2
 have dR:(a.1,a.2)≠(b.1,b.2):=CK
 have n1:=il h hN a1 b1 a2 b2
 have n2:=il h hN b1 a1 b2 a2
 have n3:=il h hN a1 a1 a2 a2
 have n4:=il h hN b1 b1 b2 b2
 show (kj (min _ _,max _ _) (min _ _,max _ _)||kj (min _ _,max _ _) (min _ _,max _ _))=Rc ws (bu ps) a b
 rw[ea.1,ea.2,eb.1,eb.2,HV n3.1 n4.1 (n1.2 dR).1 n1.1 (Ne.symm n2.1) (n1.2 dR).2]
 rfl
end
theorem HW {y w v:List Nat} {os:List Od} (hy:Yd y) (hw:SW y w) (hv:SW y v) (h:oV y [w,v] os):
  (cl (fun x z=>kj x z||kj z x) (lT (bI y [w,v] os)):Int) - cl (fun x z=>kj x z||kj z x) (lT ((bI y [w,v] os).take w.length)) - cl (fun x z=>kj x z||kj z x) (lT ((bI y [w,v] os).drop w.length))=SS y w v/\(dH (bI y [w,v] os)).Nodup/\(dH ((bI y [w,v] os).take w.length)).Nodup/\(dH ((bI y [w,v] os).drop w.length)).Nodup:=by
 have LH: ∀u∈[w,v],SW y u:=fun u hu=>by
  rcases Wz.mp hu with e | e
  ·rw[e];exact hw
  ·rw[Wv.mp e];exact hv
 obtain ⟨M,hC,hT⟩:=E3 hy LH h
 have hN:Lies y [w,v] (HP [w,v]) (HQ [w,v]) M (bu (bg y os)):=lies_of hy hC.sw hT
 have vB: ∀x∈places [w,v],x.1<[w,v].length/\x.2<([w,v].getD x.1 []).length:=fun x hx=>uo.mp hx
 have Tz:(places [w,v]).Nodup:=LG [w,v] 2
 have ep:places [w,v]=(List.range w.length).map (fun i=>(0,i))++(List.range v.length).map (fun i=>(1,i)):=rfl
 have ec:bI y [w,v] os=(places [w,v]).map fun x=>bp (bg y os) x.1 ([w,v].getD x.1 []) x.2:=mW _ _ _
 have t1:(bI y [w,v] os).take w.length=((List.range w.length).map (fun i=>(0,i))).map fun x=>bp (bg y os) x.1 ([w,v].getD x.1 []) x.2:=by
  rw[ec,ep,Wx,List.take_append_of_le_length (by simp),Zq (by simp)]
 have t2:(bI y [w,v] os).drop w.length=((List.range v.length).map (fun i=>(1,i))).map fun x=>bp (bg y os) x.1 ([w,v].getD x.1 []) x.2:=by
  rw[ec,ep,Wx,List.drop_append_of_le_length (by simp),Qai (by simp),Qdt]
 have P9:=Tz
 have LI:=vB
 rw[ep]at LI
 rw[ep,Qag]at P9
 have i1:=fun x hx=>LI x (Qbc _ hx)
 have i2:=fun x hx=>LI x (Zo _ hx)
 rw[t1,t2]
 refine ⟨?_,by rw[ec];exact qp hC hN _ Tz vB,qp hC hN _ P9.1 i1,qp hC hN _ P9.2.1 i2⟩
 rw[ec,qq hC hN _ Tz vB,qq hC hN _ P9.1 i1,qq hC hN _ P9.2.1 i2,ep,Eo]
 have e1:(((List.range w.length).map fun i=>((0:Nat),i)).map fun x=>((((List.range v.length).map fun i=>((1:Nat),i)).filter (Rc [w,v] (bu (bg y os)) x)).length:Int)).sum=SS y w v:=by
  rw[<-Jl hy hw hv,ZV]
  refine Eq.trans ?_ (sR hC hN (c:=0) (d:=1) (Nat.zero_lt_succ _) (Qad 1) (by decide))
  refine (mL (fun i=>((((List.range v.length).map fun i=>((1:Nat),i)).filter (Rc [w,v] (bu (bg y os)) (0,i))).length:Int)) w.length).trans (a_ fun i _=>?_)
  rw[YR]
  refine (Hx _ 1 v.length).trans (a_ fun j _=>?_)
  rw[YR]
  rfl
 rw[e1]
 omega
theorem Q_.ok {y:List Nat} {ws:List (List Nat)} (h:Q_ y ws):uK y ws:=⟨h.xN,fun w hw=>⟨(h.sw w hw).1.bO,(h.sw w hw).2⟩⟩
theorem Cf {y:List Nat} {ws:List (List Nat)} {os:List Od} (h:Q_ y ws):(bI y ws os).length<=24:=by
 unfold bI
 rw[mW,QW]
 exact h.all
def qt (_:PySem.W.Frag):Sp:=fun vs H Q _=> ∃(y w v:List Nat),vs=[.str (S y), .str (S w), .str (S v)]/\Yd y/\y.length<=8/\SW y w/\w.length<=12/\SW y v/\v.length<=12/\ ∀H',ak H H'->Q (.int (SS y w v)) H'
theorem xn {K:PySem.W.Frag} {vs:List V} {H:Hp} {Q:VK} {E:XK} (h:qt K vs H Q E):vs.length=3:=by obtain ⟨_,_,_,rfl,_⟩:=h;rfl
noncomputable def oj:List Int->Int
 | []=>0
 | a::l=>a+oj l
theorem AU: ∀a b:List Int,oj (a++b)=oj a+oj b
 | [],b=>by show oj b=0+oj b;omega
 | x::a,b=>by show x+oj (a++b)=x+oj a+oj b;rw[AU a b];omega
theorem kL {α:Type} (p:α->Bool) (f:α->Int): ∀l:List α,oj ((l.filter p).map f)=oj (l.map fun x=>if p x=true then f x else 0)
 | []=>rfl
 | x::l=>by
  by_cases z:p x=true
  ·rw[ZL z,Zd,Zd,if_pos z];show _+oj _=_+oj _;rw[kL p f l]
  ·rw[Zw z,Zd,if_neg z];show _=0+oj _;rw[kL p f l];omega
noncomputable def gU (m p q t:Int):Bool:=decide ((t - p)%m<(q - p)%m)
noncomputable def cS (p q t:Int):Bool:=if p<=q then decide (p<=t/\t<q) else decide (p<=t\/t<q)
theorem xo {m a:Int} (h1: -m<a) (h2:a<m):a%m=if 0<=a then a else a+m:=by
 split
 ·exact ZD (by omega) h2
 ·rw[<-Qa2];exact ZD (by omega) (by omega)
theorem lZ {m p q t:Int} (hp:0<=p/\p<m) (hq:0<=q/\q<m) (ht:0<=t/\t<m):gU m p q t=cS p q t:=by
 unfold gU
 rw[xo (by omega) (by omega),xo (by omega) (by omega)]
 by_cases z:p<=q
 ·rw[show cS p q t=decide (p<=t/\t<q) by unfold cS;rw[if_pos z]]
  refine decide_eq_decide.mpr ⟨fun h=>?_,fun h=>?_⟩
  ·split at h<;>split at h<;>omega
  ·split<;>split<;>omega
 ·rw[show cS p q t=decide (p<=t\/t<q) by unfold cS;rw[if_neg z]]
  refine decide_eq_decide.mpr ⟨fun h=>?_,fun h=>?_⟩
  ·split at h<;>split at h<;>omega
  ·split<;>split<;>omega
structure Apart (p q r s:Int):Prop where
 pq:p≠q
 pr:p≠r
 ps:p≠s
 qr:q≠r
 qs:q≠s
 rs:r≠s
theorem Cg {p q r s:Int} (h:Apart p q r s):w_ p q r s=!decide (cS p q r=cS p q s):=by
 obtain ⟨h1,h2,h3,h4,h5,h6⟩:=h
 have e: ∀t:Int,t≠p->t≠q->xQ (if q<p then q else p) (if q>p then q else p) t=if p<=q then cS p q t else !cS p q t:=fun t t1 t2=>by
  unfold xQ cS
  by_cases z:p<=q
  ·rw[if_pos z,if_pos z,if_neg (by omega),if_pos (by omega), <-Qbx]
   exact decide_eq_decide.mpr ⟨fun y=>by omega,fun y=>by omega⟩
  ·rw[if_neg z,if_neg z,if_pos (by omega),if_neg (by omega), <-Qbx, <-decide_not]
   exact decide_eq_decide.mpr ⟨fun y=>by omega,fun y=>by omega⟩
 unfold w_
 rw[e r (Ne.symm h2) (Ne.symm h4),e s (Ne.symm h3) (Ne.symm h5)]
 by_cases z:p<=q
 ·rw[if_pos z,if_pos z]
 ·rw[if_neg z,if_neg z]
  cases cS p q r<;>cases cS p q s<;>rfl
theorem oW: ∀l:List Int,l.sum=oj l
 | []=>rfl
 | a::l=>by rw[ZM,oW l];rfl
noncomputable def ku (m:Int) (x y:C4):Int:=if gU m x.2.2.1 x.2.2.2 y.2.2.1=true then 1 else -1
noncomputable def gS (m:Int) (x y:C4):Int:=if meets x y=true then ku m x y else 0
noncomputable def Ci (m:Int) (x:C4) (os:List C4):Int:=oj (os.map (gS m x))
noncomputable def AV (cs:List C4) (c:Nat):List C4:=cs.filter fun x=>decide (x.1=c)
noncomputable def kM (cs:List C4) (c d:Nat):Int:=oj ((AV cs c).map fun x=>Ci (2*(cs.length:Int)) x (AV cs d))
noncomputable def gL (m p q:Int) (w:Nat×Nat):Int:=if gU m p q w.1=gU m p q w.2 then 0 else if gU m p q w.1=true then 1 else -1
structure TB (m:Nat) (x y:C4):Prop where
 ap:Apart x.2.2.1 x.2.2.2 y.2.2.1 y.2.2.2
 b1:x.2.2.1<m
 b2:x.2.2.2<m
 b3:y.2.2.1<m
 b4:y.2.2.2<m
theorem P_ {m n k:Nat} {x y:C4} (h:TB k x y) (hm:k<=m) (hn:k<=n):gS (m:Int) x y=gL (n:Int) x.2.2.1 x.2.2.2 (y.2.2.1,y.2.2.2):=by
 obtain ⟨ap,b1,b2,b3,b4⟩:=h
 have e1: ∀j:Nat,k<=j->gU (j:Int) x.2.2.1 x.2.2.2 y.2.2.1=cS x.2.2.1 x.2.2.2 y.2.2.1:=fun j hj=>lZ (by omega) (by omega) (by omega)
 have e2: ∀j:Nat,k<=j->gU (j:Int) x.2.2.1 x.2.2.2 y.2.2.2=cS x.2.2.1 x.2.2.2 y.2.2.2:=fun j hj=>lZ (by omega) (by omega) (by omega)
 unfold gS gL ku meets
 rw[Cg ap]
 simp only[e1 m hm,e1 n hn,e2 n hn]
 cases cS x.2.2.1 x.2.2.2 y.2.2.1<;>cases cS x.2.2.1 x.2.2.2 y.2.2.2<;>simp
theorem AW {ps:List (Nat×Nat×Nat)} {ws:List (List Nat)} {c:Nat} {w:List Nat} (hw:ws[c]? =some w): ∀n,n<=ws.length->AV (eE ps ws n) c=if c<n then eB ps c w w.length else []
 | 0,_=>rfl
 | n+1,h=>by
  have hn:n<ws.length:=by omega
  have hg:ws[n]? =some ws[n]:=Kq hn
  have ih:=AW (ps:=ps) hw n (by omega)
  rw[iq hg]
  unfold AV at ih ⊢
  rw[ZU,ih]
  have e: ∀x∈eB ps n ws[n] ws[n].length,x.1=n:=fun x hx=>by
   obtain ⟨i,_,rfl⟩:=Zu.mp hx
   rfl
  by_cases z:c=n
  ·subst z
   have ew:ws[c]=w:=by rw[hg]at hw;exact Zc hw
   rw[if_neg (ZW _),if_pos (Qad _),Qdt,ew,List.filter_eq_self.mpr fun x hx=>decide_eq_true (by rw[<-ew]at hx;exact e x hx)]
  ·rw[List.filter_eq_nil_iff.mpr fun x hx=>by rw[e x hx];simpa using fun y=>z y.symm,Zy]
   by_cases y:c<n
   ·rw[if_pos y,if_pos (by omega)]
   ·rw[if_neg y,if_neg (by omega)]
theorem jR {y:List Nat} {ws:List (List Nat)} {os:List Od} {c:Nat} {w:List Nat} (hw:ws[c]? =some w):AV (bI y ws os) c=eB (bg y os) c w w.length:=by
 unfold bI
 rw[AW hw _ (UP _),if_pos (Kr.mp hw).1]
theorem mX {l:List (Nat×Nat×Nat)} {a b:Nat×Nat×Nat} (ha:a∈l) (hb:b∈l) (h:a≠b):l.idxOf a≠l.idxOf b:=fun e=>h (by
 have h1:=ZO (UR ha)
 have h2:=ZO (UR hb)
 rw[<-h1, <-h2]
 simp only[e])
theorem AX {y:List Nat} {ws:List (List Nat)} {os:List Od} {c d i j:Nat} {w v:List Nat} (h:Yd y) (ho:iT y ws os) (j7:uK y ws) (hw:ws[c]? =some w) (hv:ws[d]? =some v) (jZ:c≠d) (hi:i<w.length) (hj:j<v.length):
  TB (bg y os).length (bp (bg y os) c w i) (bp (bg y os) d v j):=by
 have Vj: ∀{c i:Nat} {w:List Nat},ws[c]? =some w->i<w.length->(c,oQ w.length i,az (w.getD (oQ w.length i) 0))∈bg y os/\(c,i,w.getD i 0)∈bg y os/\(c,oQ w.length i,az (w.getD (oQ w.length i) 0))≠(c,i,w.getD i 0):=fun {c i w} hw hi=>by
  have Gj:=(j7.all _ (UQ hw)).1
  have e1:w[oQ w.length i]? =some (w.getD (oQ w.length i) 0):=by rw[Wy,Kq (uN hi)];rfl
  have e2:w[i]? =some (w.getD i 0):=by rw[Wy,Kq hi];rfl
  refine ⟨sZ h ho hw e1 (Gj _ (UQ e1)) (.inr rfl),sZ h ho hw e2 (Gj _ (UQ e2)) (.inl rfl),fun z=>?_⟩
  have z1:oQ w.length i=i:=congrArg (fun t=>t.2.1) z
  have z2:az (w.getD (oQ w.length i) 0)=w.getD i 0:=congrArg (fun t=>t.2.2) z
  rw[z1]at z2
  exact dG (h.lt _ (Gj _ (UQ e2))) z2
 obtain ⟨a1,a2,a3⟩:=Vj hw hi
 obtain ⟨b1,b2,b3⟩:=Vj hv hj
 have nc: ∀{p q:Nat×Nat},(c,p.1,p.2)≠(d,q.1,q.2):=fun z=>jZ (congrArg Prod.fst z)
 have cast: ∀{a b:Nat},a≠b->(a:Int)≠(b:Int):=fun z y=>z (by omega)
 have q1:=cast (mX a1 a2 a3)
 have q2:=cast (mX a1 b1 (nc (p:=(_,_)) (q:=(_,_))))
 have q3:=cast (mX a1 b2 (nc (p:=(_,_)) (q:=(_,_))))
 have q4:=cast (mX a2 b1 (nc (p:=(_,_)) (q:=(_,_))))
 have q5:=cast (mX a2 b2 (nc (p:=(_,_)) (q:=(_,_))))
 have q6:=cast (mX b1 b2 b3)
 exact ⟨⟨q1,q2,q3,q4,q5,q6⟩,UR a1,UR a2,UR b1,UR b2⟩
theorem len_sub {α:Type} [DecidableEq α]: ∀{l m:List α},l.Nodup->(∀x∈l,x∈m)->l.length<=m.length
 | [],m,_,_=>Zg _
 | a::l,m,hn,hs=>by
  obtain ⟨n1,n2⟩:=ZK.mp hn
  have ha:=hs a YO
  have:=len_sub (l:=l) (m:=m.erase a) n2 fun x hx=>(List.mem_erase_of_ne (fun z:x=a=>n1 (by rw[<-z];exact hx))).mpr (hs x (YQ _ hx))
  rw[List.length_erase_of_mem ha]at this
  have hp:0<m.length:=Qco ha
  rw[Zv]
  omega
noncomputable def Vk (ws:List (List Nat)) (n:Nat):List (Nat×Nat×Nat):=(List.range n).flatMap fun c=>(List.range (ws.getD c []).length).flatMap fun i=>[(c,i,(ws.getD c []).getD i 0),(c,i,az ((ws.getD c []).getD i 0))]
theorem E6 {α:Type} (f:Nat->List α) (hf: ∀i,(f i).length=2): ∀l:List Nat,(l.flatMap f).length=2*l.length
 | []=>rfl
 | a::l=>by rw[ZC,UO,hf,E6 f hf l,Zv];omega
theorem E7 {α β:Type} {f:Nat->List α} {g:Nat->List β} (h: ∀c,(f c).length=2*(g c).length): ∀l:List Nat,(l.flatMap f).length=2*(l.flatMap g).length
 | []=>rfl
 | a::l=>by rw[ZC,ZC,UO,UO,h,E7 h l];omega
theorem HX (ps:List (Nat×Nat×Nat)) (ws:List (List Nat)) (n:Nat):(Vk ws n).length=2*(eE ps ws n).length:=
 E7 (fun c=>by
  show ((List.range (ws.getD c []).length).flatMap fun i=>[(c,i,(ws.getD c []).getD i 0),(c,i,az ((ws.getD c []).getD i 0))]).length=2*(eB ps c (ws.getD c []) (ws.getD c []).length).length
  rw[E6 _ (fun i=>rfl)]
  unfold eB
  rw[QW]) _
theorem AY {y:List Nat} {ws:List (List Nat)} {os:List Od} (h:Yd y) (ho:iT y ws os):(bg y os).length<=2*(bI y ws os).length:=by
 have:=len_sub (uL h ho) (m:=Vk ws ws.length) fun x hx=>?_
 ·rw[HX (bg y os)]at this;exact this
 ·obtain ⟨e,he,hp⟩:=Zx.mp hx
  unfold cX at hp
  obtain ⟨p,j8,rfl⟩:=Zu.mp hp
  have hm:p.pair∈(j5 y os e).map Pr.pair:=Zu.mpr ⟨p,j8,rfl⟩
  rw[(ho.at h he).mem_iff]at hm
  obtain ⟨c,hc,TC⟩:=Zx.mp hm
  obtain ⟨i,hi,Jm⟩:=Zu.mp TC
  obtain ⟨Xq,HG⟩:=ZH.mp hi
  have ec:p.c=c:=(congrArg Prod.fst Jm).symm
  have ei:p.i=i:=(congrArg Prod.snd Jm).symm
  refine Zx.mpr ⟨c,hc,Zx.mpr ⟨i,Xq,?_⟩⟩
  rw[ec,ei]
  generalize (ws.getD c []).getD i 0=l at HG ⊢
  unfold w5 at HG
  rw[Bool.or_eq_true]at HG
  have ME:=h.lt e he
  rcases ME with g | g
  ·rw[(aY e g).2.1]at HG
   rcases HG with z | z
   ·rw[of_decide_eq_true z];exact YO
   ·rw[of_decide_eq_true z,aF (.inl g)];exact YQ _ YO
  ·rw[(bB e g).2.1]at HG
   rcases HG with z | z
   ·rw[of_decide_eq_true z,aF (.inr g)];exact YQ _ YO
   ·rw[of_decide_eq_true z,aF (.inr g)];exact YO
def AZ (_:PySem.W.Frag):Sp:=fun vs H Q _=> ∃(a b:Q4) (m:Int),vs=[.ref a.t, .ref b.t, .int m]/\kJ H a/\kJ H b/\0<m/\Q (.int (ku m a.v b.v)) H
theorem E8 {K:PySem.W.Frag} {vs:List V} {H:Hp} {Q:VK} {E:XK} (h:AZ K vs H Q E):vs.length=3:=by obtain ⟨_,_,_,rfl,_⟩:=h;rfl
def xp (_:PySem.W.Frag):Sp:=fun vs H Q _=> ∃(y:List Nat) (dr:Addr) (ws:List (List Nat)) (os:List Od) (c d:Nat),vs=[.str (S y), .ref dr, .int c, .int d]/\Yd y/\y.length<=8/\uK y ws/\iT y ws os/\uJ H dr ws os/\ ∀H',ak H H'->Q (.int (kM (bI y ws os) c d)) H'
theorem Cj {K:PySem.W.Frag} {vs:List V} {H:Hp} {Q:VK} {E:XK} (h:xp K vs H Q E):vs.length=4:=by obtain ⟨_,_,_,_,_,_,rfl,_⟩:=h;rfl
def nN (_:PySem.W.Frag):Sp:=fun vs H Q _=> ∃(b:Addr) (y:List Nat) (wt:Addr) (ws:List (List Nat)),vs=[.ref b, .str (S y), .ref wt]/\bG H b/\Yd y/\y.length<=8/\wt≠b/\H wt=some (.lst (g6 ws))/\uK y ws/\ ∀(dr:Addr) (os:List Od) (H':Hp),uJ H' dr ws os->iT y ws os->bG H' b->aN b H H'->Q (.ref dr) H'
theorem uV {K:PySem.W.Frag} {vs:List V} {H:Hp} {Q:VK} {E:XK} (h:nN K vs H Q E):vs.length=3:=by obtain ⟨c,_,_,_,rfl,_⟩:=h;rfl
theorem E9 {α:Type} (p:α->Bool) (u:α) (h:p u=true):[u].filter p=[u]:=by rw[Qdk,if_pos h];rfl
theorem E_ {α:Type} (p:α->Bool) (u:α) (h: ¬p u=true):[u].filter p=[]:=by rw[Qdk,if_neg h];rfl
theorem HY (m:Int) (x:C4) (os:List C4):Ci m x os=oj ((os.filter (meets x)).map (ku m x)):=by
 unfold Ci
 rw[kL (meets x) (ku m x) os]
 rfl
noncomputable def xq (ns:List Int):List V:=ns.map V.int
theorem jS (ns:List Int):(xq ns).length=ns.length:=by unfold xq;rw[QW]
theorem qu (ns:List Int) (i:Int):xq ns++[V.int i]=xq (ns++[i]):=by unfold xq;rw[Wx];rfl
theorem zh {ns:List Int} {i:Nat} {v:V} (h:(xq ns)[i]? =some v): ∃n,ns[i]? =some n/\v= .int n:=by
 unfold xq at h
 rw[Zk]at h
 cases e:ns[i]? with
 | none=>rw[e]at h;cases h
 | some n=>rw[e]at h;exact ⟨n,rfl,(Zc h).symm⟩
theorem uW {α β:Type} {f:α->β} {l:List α} {i:Nat} {v:β} (h:(l.map f)[i]? =some v): ∃x,l[i]? =some x/\v=f x:=by
 rw[Zk]at h
 cases e:l[i]? with
 | none=>rw[e]at h;cases h
 | some n=>rw[e]at h;exact ⟨n,rfl,(Zc h).symm⟩
noncomputable def cL (w:List Nat) (x:Nat):Int:=PyProof.Rows.cnt x w - PyProof.Rows.cnt (az x) w
theorem jT {y:List Nat} (hy:Yd y) {x:Nat} (h:x∈aR y):x∈y/\x∈aQ:=by
 have h1:=ZH.mp ((eQ y).mem_iff.mp h)
 refine ⟨h1.1,?_⟩
 have h2:=h1.2
 rw[dQ (hy.lt x h1.1)]at h2
 exact of_decide_eq_true h2
def LJ (H:Hp) (y:List Nat) (rs:List Addr):Prop:=rs.length=(aR y).length/\ ∀(i:Nat) (a:Addr) (x:Nat),rs[i]? =some a->(aR y)[i]? =some x->H a=some (.tup (xq ((aR y).map (sg y x))))
noncomputable def Gk (rs:List Addr):List V:=rs.map V.ref
theorem HZ (rs:List Addr):(Gk rs).length=rs.length:=by unfold Gk;rw[QW]
theorem Fb (rs:List Addr) (a:Addr):Gk rs++[V.ref a]=Gk (rs++[a]):=by unfold Gk;rw[Wx];rfl
def Fc (_:PySem.W.Frag):Sp:=fun vs H Q _=> ∃(y w:List Nat),vs=[.str (S y), .str (S w)]/\Yd y/\y.length<=8/\ ∀t H',H t=none->H' t=some (.tup (xq ((aR y).map (cL w))))->ak H H'->Q (.ref t) H'
theorem H_ {K:PySem.W.Frag} {vs:List V} {H:Hp} {Q:VK} {E:XK} (h:Fc K vs H Q E):vs.length=2:=by obtain ⟨c,_,rfl,_⟩:=h;rfl
def qv (_:PySem.W.Frag):Sp:=fun vs H Q _=> ∃(y:List Nat) (x z:Nat),vs=[.str (S y), .str (S [x]), .str (S [z])]/\Yd y/\y.length<=8/\x∈aR y/\z∈aR y/\Q (.int (sg y x z)) H
theorem xr {K:PySem.W.Frag} {vs:List V} {H:Hp} {Q:VK} {E:XK} (h:qv K vs H Q E):vs.length=3:=by obtain ⟨c,_,_,rfl,_⟩:=h;rfl
def l_ (_:PySem.W.Frag):Sp:=fun vs H Q _=> ∃(y:List Nat) (x:Nat),vs=[.str (S y), .str (S [x])]/\Yd y/\y.length<=8/\x∈aR y/\ ∀t H',H t=none->H' t=some (.tup (xq ((aR y).map (sg y x))))->ak H H'->Q (.ref t) H'
theorem rD {K:PySem.W.Frag} {vs:List V} {H:Hp} {Q:VK} {E:XK} (h:l_ K vs H Q E):vs.length=2:=by obtain ⟨c,_,rfl,_⟩:=h;rfl
def xt (_:PySem.W.Frag):Sp:=fun vs H Q _=> ∃(y:List Nat),vs=[.str (S y)]/\Yd y/\y.length<=8/\ ∀t rs H',H t=none->H' t=some (.tup (Gk rs))->LJ H' y rs->ak H H'->Q (.ref t) H'
theorem Ck {K:PySem.W.Frag} {vs:List V} {H:Hp} {Q:VK} {E:XK} (h:xt K vs H Q E):vs.length=1:=by obtain ⟨c,rfl,_⟩:=h;rfl
def qw (_:PySem.W.Frag):Sp:=fun vs H Q _=> ∃(y w v:List Nat),vs=[.str (S y), .str (S w), .str (S v)]/\Yd y/\y.length<=8/\w.length<=1000/\ ∀H',ak H H'->Q (.int (cr (sg y) (cL w) (cL v) (aR y) (aR y))) H'
theorem xu {K:PySem.W.Frag} {vs:List V} {H:Hp} {Q:VK} {E:XK} (h:qw K vs H Q E):vs.length=3:=by obtain ⟨c,_,_,rfl,_⟩:=h;rfl
theorem zi (c:Nat): ∀l:List Nat,0<=PyProof.Rows.cnt c l/\PyProof.Rows.cnt c l<=(l.length:Int)
 | []=>by rw[Qac];exact ⟨by omega,by omega⟩
 | n::l=>by
  have:=zi c l
  rw[Qa8,Zv]
  split<;>(constructor<;>omega)
theorem Ia {w:List Nat} {x:Nat} {j:Int} (h:w.length<=1000):Bg (cL w x) j:=by
 have h1:=zi x w
 have h2:=zi (az x) w
 unfold cL
 exact .inl ⟨by omega,by omega⟩
theorem LK {y:List Nat} {x z:Nat} {i:Int}:Bg i (sg y x z):=by
 refine .inr ?_
 unfold sg
 split
 ·exact ⟨by decide,by decide⟩
 ·split
  ·exact ⟨by decide,by decide⟩
  ·split<;>exact ⟨by decide,by decide⟩
theorem Ib {a b r s:Nat} (h1:a≠b) (h3:a≠r) (h4:a≠s) (h5:b≠r) (h6:b≠s):w_ a b r s=oP a b r s:=by
 rw[Ar h1 h3 h4 h5 h6]
 have key: ∀x:Nat,a≠x->b≠x->xQ (if (b:Int)<a then b else a) (if (b:Int)>a then b else a) x=!(decide (a<x) ^^ decide (x<b)):=fun x g1 g2=>by
  unfold xQ
  rcases Qam h1 with q | q
  ·rw[if_neg (by omega),if_pos (by omega),show decide ((a:Int)<x)=decide (a<x) from decide_eq_decide.mpr (by omega),show decide ((x:Int)<b)=decide (x<b) from decide_eq_decide.mpr (by omega)]
   have k:decide (a<x)=false->decide (x<b)=true:=fun z=>decide_eq_true (by have:=of_decide_eq_false z;omega)
   revert k
   generalize decide (a<x)=u
   generalize decide (x<b)=v
   revert u v
   decide
  ·rw[if_pos (by omega),if_neg (by omega),show decide ((b:Int)<x)=!decide (x<b) from by rw[<-gk (Ne.symm g2)];exact decide_eq_decide.mpr (by omega),show decide ((x:Int)<a)=!decide (a<x) from by rw[<-gk g1];exact decide_eq_decide.mpr (by omega)]
   have k:decide (a<x)=true->decide (x<b)=false:=fun z=>decide_eq_false (by have:=of_decide_eq_true z;omega)
   revert k
   generalize decide (a<x)=u
   generalize decide (x<b)=v
   revert u v
   decide
 unfold w_
 rw[key r h3 h5,key s h4 h6]
 generalize decide (a<r)=p1
 generalize decide (r<b)=p2
 generalize decide (a<s)=p3
 generalize decide (s<b)=p4
 revert p1 p2 p3 p4
 decide
noncomputable def uu (a b:Nat):Int:=one (a<b)
theorem uX {a b:Nat} (h:a≠b):uu a b=1 - uu b a:=by
 unfold uu one
 split<;>split<;>omega
theorem Jr {a b a' b':Nat} (h:a<b↔a'<b'):uu a b=uu a' b':=by
 unfold uu one
 by_cases z:a<b
 ·rw[if_pos z,if_pos (h.mp z)]
 ·rw[if_neg z,if_neg fun g=>z (h.mpr g)]
theorem Qa {m k:Nat} {x y:C4} (h:TB k x y) (hm:k<=m):gS (m:Int) x y=uu x.2.2.1 y.2.2.1 - uu x.2.2.2 y.2.2.1 - uu x.2.2.1 y.2.2.2+uu x.2.2.2 y.2.2.2:=by
 rw[P_ h hm hm]
 obtain ⟨⟨h1,h2,h3,h4,h5,h6⟩,b1,b2,b3,b4⟩:=h
 unfold gL
 have e1:gU (m:Int) x.2.2.1 x.2.2.2 y.2.2.1=cS x.2.2.1 x.2.2.2 y.2.2.1:=lZ (by omega) (by omega) (by omega)
 have e2:gU (m:Int) x.2.2.1 x.2.2.2 y.2.2.2=cS x.2.2.1 x.2.2.2 y.2.2.2:=lZ (by omega) (by omega) (by omega)
 show (if gU (m:Int) x.2.2.1 x.2.2.2 y.2.2.1=gU (m:Int) x.2.2.1 x.2.2.2 y.2.2.2 then (0:Int) else if gU (m:Int) x.2.2.1 x.2.2.2 y.2.2.1=true then 1 else -1)=_
 rw[e1,e2]
 generalize x.2.2.1=p at*
 generalize x.2.2.2=q at*
 generalize y.2.2.1=r at*
 generalize y.2.2.2=s at*
 clear e1 e2 b1 b2 b3 b4
 have key: ∀t:Nat,(t:Int)≠p->(t:Int)≠q->(cS p q t=true↔uu p t - uu q t+(if p<q then 0 else 1)=1)/\(cS p q t=false↔uu p t - uu q t+(if p<q then 0 else 1)=0):=fun t t1 t2=>by
  have nl:cS p q t=decide (uu p t - uu q t+(if p<q then 0 else 1)=1):=by
   unfold cS uu one
   by_cases z:(p:Int)<=q
   ·rw[if_pos z,if_pos (by omega:p<q)]
    refine decide_eq_decide.mpr ⟨fun g=>?_,fun g=>?_⟩
    ·rw[if_pos (by omega),if_neg (by omega)];rfl
    ·split at g<;>split at g<;>omega
   ·rw[if_neg z,if_neg (by omega: ¬p<q)]
    refine decide_eq_decide.mpr ⟨fun g=>?_,fun g=>?_⟩
    ·split<;>split<;>omega
    ·split at g<;>split at g<;>omega
  have rg:uu p t - uu q t+(if p<q then 0 else 1)=1\/uu p t - uu q t+(if p<q then 0 else 1)=0:=by
   unfold uu one
   split<;>split<;>split<;>omega
  rw[nl]
  refine ⟨decide_eq_true_iff,?_⟩
  rw[decide_eq_false_iff_not]
  omega
 have kr:=key r (Ne.symm h2) (Ne.symm h4)
 have ks:=key s (Ne.symm h3) (Ne.symm h5)
 cases er:cS p q r<;>cases es:cS p q s
 ·rw[if_pos rfl];have:=kr.2.mp er;have:=ks.2.mp es;omega
 ·rw[if_neg (by decide),if_neg (by decide)];have:=kr.2.mp er;have:=ks.1.mp es;omega
 ·rw[if_neg (by decide),if_pos rfl];have:=kr.1.mp er;have:=ks.2.mp es;omega
 ·rw[if_pos rfl];have:=kr.1.mp er;have:=ks.1.mp es;omega
theorem mY {y:List Nat} {ws:List (List Nat)} {os:List Od} (hy:Yd y) (ho:iT y ws os) {c i e l:Nat} {w:List Nat} (hw:ws[c]? =some w) (hl:w[i]? =some l) (ly:l∈y) (he:e=l\/e=az l):
  e∈y/\ ∃(m:Nat) (p:Pr),(j5 y os e)[m]? =some p/\p.pair=(c,i)/\(bg y os).idxOf (c,i,e)=((y.take (y.idxOf e)).flatMap (cX y os)).length+m:=by
 have ey:e∈y:=he.elim (fun z=>z▸ly) fun z=>z▸hy.cl _ ly
 have vB:=sZ hy ho hw hl ly he
 unfold bg at vB
 obtain ⟨e',vA,hp⟩:=Zx.mp vB
 unfold cX at hp
 obtain ⟨p,jq,kS⟩:=Zu.mp hp
 obtain ⟨q1,PZ⟩:=Prod.mk.inj kS
 obtain ⟨q2,q3⟩:=Prod.mk.inj PZ
 clear PZ
 subst q3
 obtain ⟨m,hm,em⟩:=Qbj jq
 have y9:(j5 y os e')[m]? =some p:=by rw[Kq hm,em]
 refine ⟨ey,m,p,y9,by unfold Pr.pair;rw[q1,q2],?_⟩
 have hk:y[y.idxOf e']? =some e':=by rw[Kq (UR ey),ZO]
 have:=AF (os:=os) hk y9
 rw[q1,q2]at this
 exact mM (uL hy ho) this
theorem gq {y:List Nat} {ws:List (List Nat)} {os:List Od} (hy:Yd y) (ho:iT y ws os) {c i e l d j e' l':Nat} {w v:List Nat} (hw:ws[c]? =some w) (hl:w[i]? =some l) (ly:l∈y) (he:e=l\/e=az l) (hv:ws[d]? =some v) (iW:v[j]? =some l') (xv:l'∈y) (vA:e'=l'\/e'=az l') (dR:e≠e'):
  uu ((bg y os).idxOf (c,i,e)) ((bg y os).idxOf (d,j,e'))=uu (y.idxOf e) (y.idxOf e'):=by
 obtain ⟨ey,m,p,hm,_,e1⟩:=mY hy ho hw hl ly he
 obtain ⟨Tr,m',p',y9,_,e2⟩:=mY hy ho hv iW xv vA
 have hk:y[y.idxOf e]? =some e:=by rw[Kq (UR ey),ZO]
 have CG:y[y.idxOf e']? =some e':=by rw[Kq (UR Tr),ZO]
 have m2:=(Kr.mp hm).1
 have YU:=(Kr.mp y9).1
 rw[e1,e2]
 refine Jr ?_
 rcases Qam (bC ey Tr dR) with z | z
 ·have:=mP (cX y os) hk z
  rw[qg]at this
  omega
 ·have:=mP (cX y os) CG z
  rw[qg]at this
  omega
theorem xw {y:List Nat} {ws:List (List Nat)} {os:List Od} (hy:Yd y) (ho:iT y ws os) {c i l d j l' e:Nat} {w v:List Nat} (hw:ws[c]? =some w) (hl:w[i]? =some l) (ly:l∈y) (he:e=l\/e=az l) (hv:ws[d]? =some v) (iW:v[j]? =some l') (xv:l'∈y) (vA:e=l'\/e=az l') (jZ:c≠d):
  uu ((bg y os).idxOf (c,i,e)) ((bg y os).idxOf (d,j,e))+uu ((bg y os).idxOf (c,i,az e)) ((bg y os).idxOf (d,j,az e))=1:=by
 have ll:=hy.lt l ly
 have Xr:=hy.lt l' xv
 have fl:az e=l\/az e=az l:=he.elim (fun z=> .inr (by rw[z])) fun z=> .inl (by rw[z,aF ll])
 have Xs:az e=l'\/az e=az l':=vA.elim (fun z=> .inr (by rw[z])) fun z=> .inl (by rw[z,aF Xr])
 obtain ⟨ey,m,p,hm,ep,e1⟩:=mY hy ho hw hl ly he
 obtain ⟨_,n,q,hn,eq,e2⟩:=mY hy ho hv iW xv vA
 obtain ⟨_,m',p',y9,JO,By⟩:=mY hy ho hw hl ly fl
 obtain ⟨_,n',q',JP,Ts,HH⟩:=mY hy ho hv iW xv Xs
 have le:=hy.lt e ey
 rw[e1,e2,By,HH]
 have rv:j5 y os (az e)=(j5 y os e).reverse:=by
  have ho:rA y os (az e)=rA y os e:=by unfold rA;rw[(jo e le.mem).1]
  unfold j5
  rw[ho,(jo e le.mem).2,(jo _ le.az.mem).2,dc e le.mem]
  cases aA e
  ·show (if false=true then _ else _)=List.reverse (if true=true then _ else _)
   rw[if_neg (by decide),if_pos rfl,List.reverse_reverse]
  ·show (if true=true then _ else _)=List.reverse (if false=true then _ else _)
   rw[if_pos rfl,if_neg (by decide)]
 have nd:((j5 y os e).map Pr.pair).Nodup:=(ho.at hy ey).nodup_iff.mpr (mN _ _ _)
 rw[rv]at y9 JP
 obtain ⟨b1,Ab⟩:=oR y9
 obtain ⟨b2,vP⟩:=oR JP
 have uniq: ∀{a b:Nat} {u u':Pr},(j5 y os e)[a]? =some u->(j5 y os e)[b]? =some u'->u.pair=u'.pair->a=b:=fun {a b u u'} h1 h2 h3=>by
  obtain ⟨ha,ea⟩:=Kr.mp h1
  obtain ⟨hb,eb⟩:=Kr.mp h2
  exact Vf nd (i:=a) (j:=b) (by rw[QW];exact ha) (by rw[QW];exact hb) (by rw[Qbf,Qbf,ea,eb,h3])
 have k1:=uniq hm Ab (by rw[ep,JO])
 have k2:=uniq hn vP (by rw[eq,Ts])
 have k3:m≠n:=fun z=>jZ (by
  rw[z,hn]at hm
  have:=Zc hm
  rw[<-this,eq]at ep
  exact (Prod.mk.inj ep).1.symm)
 rw[uX (a:=_+m') (b:=_+n') (by omega),Jr (a:=_+n') (b:=_+m') (a':=((y.take (y.idxOf e)).flatMap (cX y os)).length+m) (b':=((y.take (y.idxOf e)).flatMap (cX y os)).length+n) (by omega)]
 omega
noncomputable def tt (y:List Nat) (a b:Nat):Int:=uu (y.idxOf (az a)) (y.idxOf (az b)) - uu (y.idxOf a) (y.idxOf (az b)) - uu (y.idxOf (az a)) (y.idxOf b)+uu (y.idxOf a) (y.idxOf b)
noncomputable def CO (y:List Nat) (a b:Nat):Int:=if a=b\/a=az b then 0 else tt y a b
theorem zj {y:List Nat} {ws:List (List Nat)} {os:List Od} (hy:Yd y) (ho:iT y ws os) {c i a d j b:Nat} {w v:List Nat} (hw:ws[c]? =some w) (hl:w[i]? =some a) (ly:a∈y) (hv:ws[d]? =some v) (iW:v[j]? =some b) (xv:b∈y) (jZ:c≠d):
  uu ((bg y os).idxOf (c,i,az a)) ((bg y os).idxOf (d,j,az b)) - uu ((bg y os).idxOf (c,i,a)) ((bg y os).idxOf (d,j,az b)) - uu ((bg y os).idxOf (c,i,az a)) ((bg y os).idxOf (d,j,b))+uu ((bg y os).idxOf (c,i,a)) ((bg y os).idxOf (d,j,b))=CO y a b:=by
 have la:=hy.lt a ly
 have lb:=hy.lt b xv
 have na:=dG la
 have ia:=bC (hy.cl a ly) ly na
 unfold CO
 by_cases z:a=b
 ·subst z
  rw[if_pos (.inl rfl)]
  have h1:=xw hy ho hw hl ly (.inl rfl) hv iW xv (.inl rfl) jZ
  rw[gq hy ho hw hl ly (.inl rfl) hv iW xv (.inr rfl) (Ne.symm na),gq hy ho hw hl ly (.inr rfl) hv iW xv (.inl rfl) na,uX ia]
  omega
 ·by_cases z2:a=az b
  ·rw[if_pos (.inr z2)]
   have eb:az a=b:=by rw[z2,aF lb]
   have h1:=xw hy ho hw hl ly (.inl rfl) hv iW xv (.inr z2) jZ
   rw[eb, <-z2]
   rw[eb]at h1 na ia
   rw[gq hy ho hw hl ly (.inr eb.symm) hv iW xv (.inr z2) na,gq hy ho hw hl ly (.inl rfl) hv iW xv (.inl rfl) (Ne.symm na),uX ia]
   omega
  ·rw[if_neg (by simp[z,z2])]
   have n1:az a≠az b:=fun g=>z (dA la lb g)
   have n2:az a≠b:=fun g=>z2 (by rw[<-g,aF la])
   rw[gq hy ho hw hl ly (.inr rfl) hv iW xv (.inr rfl) n1,gq hy ho hw hl ly (.inl rfl) hv iW xv (.inr rfl) z2,gq hy ho hw hl ly (.inr rfl) hv iW xv (.inl rfl) n2,gq hy ho hw hl ly (.inl rfl) hv iW xv (.inl rfl) z]
   rfl
theorem qx {α:Type} (f:α->Int) (g:Nat->α): ∀n:Nat,oj ((List.range n).map fun i=>f (g i))=sm n fun i=>f (g i.toNat)
 | 0=>rfl
 | n+1=>by
  rw[<-oW,Qak,Wx,Qdr,oW,qx f g n]
  show _+(f (g n)+0)=sm n _+f (g ((n:Int).toNat))
  rw[YR,Qdi]
theorem Cm {y:List Nat} {ws:List (List Nat)} {os:List Od} {c d:Nat} {w v:List Nat} (h:Yd y) (ho:iT y ws os) (j7:uK y ws) (hw:ws[c]? =some w) (hv:ws[d]? =some v) (jZ:c≠d):
  kM (bI y ws os) c d=eI w.length v.length (fun i j=>CO y (rd w i) (rd v j)):=by
 have hl:=AY h ho
 have e2:(2:Int)*((bI y ws os).length:Int)=((2*(bI y ws os).length:Nat):Int):=by omega
 have gc:ws.getD c []=w:=by rw[Wy,hw];rfl
 have gd:ws.getD d []=v:=by rw[Wy,hv];rfl
 have iw: ∀l∈w,l∈y:=(j7.all w (UQ hw)).1
 have iv: ∀l∈v,l∈y:=(j7.all v (UQ hv)).1
 unfold kM Ci
 rw[jR hw,jR hv,e2]
 unfold eB
 rw[ZV]
 refine (qx (fun x=>oj (((List.range v.length).map (bp (bg y os) d v)).map (gS ((2*(bI y ws os).length:Nat):Int) x))) (bp (bg y os) c w) w.length).trans ?_
 have step: ∀i j:Nat,i<w.length->j<v.length->gS ((2*(bI y ws os).length:Nat):Int) (bp (bg y os) c w i) (bp (bg y os) d v j)=uu (pI ws (bu (bg y os)) c ((i:Int) - 1)) (pI ws (bu (bg y os)) d ((j:Int) - 1)) - uu (pO ws (bu (bg y os)) c i) (pI ws (bu (bg y os)) d ((j:Int) - 1)) - uu (pI ws (bu (bg y os)) c ((i:Int) - 1)) (pO ws (bu (bg y os)) d j)+uu (pO ws (bu (bg y os)) c i) (pO ws (bu (bg y os)) d j):=fun i j hi hj=>by
  rw[Qa (AX h ho j7 hw hv jZ hi hj) hl]
  have ea:=fj (ps:=bg y os) (ws:=ws) (c:=c) (i:=i) (by rw[gc];exact hi)
  have eb:=fj (ps:=bg y os) (ws:=ws) (c:=d) (i:=j) (by rw[gd];exact hj)
  rw[gc]at ea
  rw[gd]at eb
  rw[ea.1,ea.2,eb.1,eb.2]
 have a:sm w.length (fun i=>oj (((List.range v.length).map (bp (bg y os) d v)).map (gS ((2*(bI y ws os).length:Nat):Int) (bp (bg y os) c w i.toNat))))=eI w.length v.length (fun i j=>uu (pI ws (bu (bg y os)) c (i - 1)) (pI ws (bu (bg y os)) d (j - 1)) - uu (pO ws (bu (bg y os)) c i) (pI ws (bu (bg y os)) d (j - 1)) - uu (pI ws (bu (bg y os)) c (i - 1)) (pO ws (bu (bg y os)) d j)+uu (pO ws (bu (bg y os)) c i) (pO ws (bu (bg y os)) d j)):=a_ fun i hi=>by
  rw[YR,ZV]
  refine (qx (gS ((2*(bI y ws os).length:Nat):Int) (bp (bg y os) c w i)) (bp (bg y os) d v) v.length).trans ?_
  refine a_ fun j hj=>?_
  rw[YR]
  exact step i j hi hj
 rw[a]
 have pc: ∀k,pI ws (bu (bg y os)) c (k+w.length)=pI ws (bu (bg y os)) c k:=fun k=>by rw[<-gc];exact uH _ _ _ _
 have pd: ∀k,pI ws (bu (bg y os)) d (k+v.length)=pI ws (bu (bg y os)) d k:=fun k=>by rw[<-gd];exact uH _ _ _ _
 have sh: ∀(F:Nat->Nat->Int) (X:Int->Nat),eI w.length v.length (fun i j=>F (pI ws (bu (bg y os)) c (i - 1)) (X j))=eI w.length v.length (fun i j=>F (pI ws (bu (bg y os)) c i) (X j)):=fun F X=>
  jl (h:=fun i=>sm v.length fun j=>F (pI ws (bu (bg y os)) c i) (X j)) fun k=>by rw[pc k]
 have sv: ∀(F:Nat->Nat->Int) (X:Int->Nat),eI w.length v.length (fun i j=>F (X i) (pI ws (bu (bg y os)) d (j - 1)))=eI w.length v.length (fun i j=>F (X i) (pI ws (bu (bg y os)) d j)):=fun F X=>
  a_ fun i _=>jl (h:=fun j=>F (X i) (pI ws (bu (bg y os)) d j)) fun k=>by rw[pd k]
 rw[eY,jL,jL,sv uu (fun i=>pI ws (bu (bg y os)) c (i - 1)),sh uu (pI ws (bu (bg y os)) d),sv uu (pO ws (bu (bg y os)) c),sh uu (pO ws (bu (bg y os)) d), <-jL, <-jL, <-eY]
 refine dS fun i j hi hj=>?_
 have Gm:w[i]? =some (rd w i):=fO hi
 have Vl:v[j]? =some (rd v j):=fO hj
 have:=zj h ho hw Gm (iw _ (UQ Gm)) hv Vl (iv _ (UQ Vl)) jZ
 rw[<-this]
 unfold pI pO bu
 rw[gc,gd,(uU hi).2,(uU hj).2]
noncomputable def Js (a:Nat):Int:=if aA a=true then 1 else -1
theorem qy {y:List Nat} (hy:Yd y) {a:Nat} (ha:a∈y):(aA a=true/\Js a=1/\PyProof.Rows.lo1 a=a)\/(aA a=false/\Js a= -1/\PyProof.Rows.lo1 a=az a):=by
 unfold Js
 rcases hy.lt a ha with z | z
 ·have:=aY a z
  exact .inl ⟨this.1,by rw[if_pos this.1],this.2.1⟩
 ·have:=bB a z
  have h2:aA a=false:=by
   have h3:=(jo a (Zo _ z)).2
   rw[PX a (Zo _ z),decide_eq_true z]at h3
   cases e:aA a
   ·rfl
   ·rw[e]at h3;cases h3
  exact .inr ⟨h2,by rw[if_neg (by rw[h2];decide)],this.2.1⟩
theorem LL {y:List Nat} (hy:Yd y) {a b:Nat} (ha:a∈y) (hb:b∈y):tt y (az a) b= - tt y a b/\tt y a (az b)= - tt y a b:=by
 unfold tt
 rw[aF (hy.lt a ha),aF (hy.lt b hb)]
 omega
theorem Qb {y:List Nat} (hy:Yd y) {x z:Nat} (hx:x∈y) (hz:z∈y) (Rf:x∈aQ) (Jb:z∈aQ):sg y x z=CO y x z:=by
 unfold sg CO
 by_cases e:x=z
 ·rw[if_pos e,if_pos (.inl e)]
 have lx:=hy.lt x hx
 have lz:=hy.lt z hz
 have n0:x≠az z:=fun g=>jI z Jb (by rw[<-g];exact Rf)
 have n1:az x≠az z:=fun g=>e (dA lx lz g)
 have n2:az x≠z:=fun g=>n0 (by rw[<-g,aF lx])
 have cx:=hy.cl x hx
 have cz:=hy.cl z hz
 rw[if_neg e,fA hy.nd cx cz hx n1 (dG lx) (Ne.symm n0),fA hy.nd cx hz hx n2 (dG lx) (Ne.symm e),if_neg (show ¬(x=z\/x=az z) from fun g=>g.elim e n0)]
 have i1:=bC cx cz n1
 have i2:=bC cx hz n2
 have i3:=bC hx cz n0
 have i4:=bC hx hz e
 have i5:=bC cx hx (dG lx)
 unfold tt
 generalize y.idxOf (az x)=A at*
 generalize y.idxOf (az z)=B at*
 generalize y.idxOf x=a at*
 generalize y.idxOf z=b at*
 have key: ∀t:Nat,A≠t->a≠t->(one (iK A t a):Int)=uu A t - uu a t+(if A<a then 0 else 1):=fun t t1 t2=>by
  unfold uu one iK
  split<;>split<;>split<;>split<;>omega
 have kb:=key b i2 i4
 have kB:=key B i1 i3
 by_cases p:iK A B a<;>by_cases q:iK A b a
 ·rw[decide_eq_true p,decide_eq_true q,if_pos rfl]
  rw[gj p]at kB;rw[gj q]at kb
  omega
 ·rw[decide_eq_true p,decide_eq_false q,if_neg (by decide),if_pos rfl]
  rw[gj p]at kB;rw[bH q]at kb
  omega
 ·rw[decide_eq_false p,decide_eq_true q,if_neg (by decide),if_neg (by decide)]
  rw[bH p]at kB;rw[gj q]at kb
  omega
 ·rw[decide_eq_false p,decide_eq_false q,if_pos rfl]
  rw[bH p]at kB;rw[bH q]at kb
  omega
theorem oX {y:List Nat} (hy:Yd y) {a b:Nat} (ha:a∈y) (hb:b∈y):CO y (az a) b= - CO y a b/\CO y a (az b)= - CO y a b:=by
 have la:=hy.lt a ha
 have lb:=hy.lt b hb
 have t:=LL hy ha hb
 have c1:(az a=b\/az a=az b)↔(a=b\/a=az b):=⟨fun g=>g.elim (fun e=> .inr (by rw[<-e,aF la])) fun e=> .inl (dA la lb e),fun g=>g.elim (fun e=> .inr (by rw[e])) fun e=> .inl (by rw[e,aF lb])⟩
 have c2:(a=az b\/a=az (az b))↔(a=b\/a=az b):=by rw[aF lb];exact Or.comm
 unfold CO
 by_cases z:a=b\/a=az b
 ·rw[if_pos (c1.mpr z),if_pos (c2.mpr z),if_pos z];exact ⟨rfl,rfl⟩
 ·rw[if_neg fun g=>z (c1.mp g),if_neg fun g=>z (c2.mp g),if_neg z];exact t
theorem LM {y:List Nat} (hy:Yd y) {a b:Nat} (ha:a∈y) (hb:b∈y):CO y a b=Js a*(Js b*sg y (PyProof.Rows.lo1 a) (PyProof.Rows.lo1 b)):=by
 have hs: ∀{c:Nat},c∈y->PyProof.Rows.lo1 c∈y/\PyProof.Rows.lo1 c∈aQ:=fun {c} hc=>jT hy (wY hy hc)
 rw[Qb hy (hs ha).1 (hs hb).1 (hs ha).2 (hs hb).2]
 rcases qy hy ha with ⟨_,e1,e2⟩ | ⟨_,e1,e2⟩<;>rcases qy hy hb with ⟨_,f1,f2⟩ | ⟨_,f1,f2⟩<;>rw[e1,e2,f1,f2]
 ·omega
 ·rw[(oX hy ha hb).2];omega
 ·rw[(oX hy ha hb).1];omega
 ·rw[(oX hy (hy.cl a ha) hb).2,(oX hy ha hb).1];omega
theorem Fd {bs:List Nat} (hn:bs.Nodup) {x0:Nat} (hx:x0∈bs) (k:Int) (g:Nat->Int):(bs.map fun x=>(if x=x0 then k else 0)*g x).sum=k*g x0:=by
 induction bs with
 | nil=>exact absurd hx Zl
 | cons b bs ih=>
  obtain ⟨h1,h2⟩:=ZK.mp hn
  rw[Zd,ZM]
  by_cases z:b=x0
  ·subst z
   rw[if_pos rfl]
   have:(bs.map fun x=>(if x=b then k else 0)*g x).sum=0:=by
    rw[show (bs.map fun x=>(if x=b then k else 0)*g x)=bs.map fun _=>(0:Int) from ZJ fun x IS=>by rw[if_neg fun e=>h1 (by rw[<-e];exact IS),Int.zero_mul],lR]
   rw[this];omega
  ·rw[if_neg z,ih h2 ((Wz.mp hx).resolve_left fun e=>z e.symm)];omega
theorem Qc {y:List Nat} (hy:Yd y):(aR y).Nodup:=(eQ y).nodup_iff.mpr (hy.nd.filter _)
theorem qz {y:List Nat} (hy:Yd y) {a x:Nat} (ha:a∈y) (hx:x∈aR y) (w:List Nat):cL (a::w) x=cL w x+(if x=PyProof.Rows.lo1 a then Js a else 0):=by
 unfold cL
 rw[Qa8,Qa8]
 obtain ⟨xy,xs⟩:=jT hy hx
 have la:=hy.lt a ha
 have lx:=hy.lt x xy
 have nx:=dG lx
 rcases qy hy ha with ⟨h0,e1,e2⟩ | ⟨h0,e1,e2⟩<;>rw[e1,e2]
 ·have n2: ¬a=az x:=fun g=>by
   have:=dc x lx.mem
   rw[<-g,h0,(dQ lx),decide_eq_true xs]at this
   cases this
  by_cases z:a=x
  ·subst z
   simp[nx,Ne.symm nx]
   try omega
  ·simp[z,Ne.symm z,n2,Ne.symm n2]
   try omega
 ·have n2: ¬a=x:=fun g=>by
   rw[g,(dQ lx),decide_eq_true xs]at h0
   cases h0
  have n3: ¬x=a:=fun g=>n2 g.symm
  by_cases z:a=az x
  ·subst z
   rw[aF lx]
   simp[nx,Ne.symm nx]
   try omega
  ·have z2: ¬x=az a:=fun g=>z (by rw[g,aF la])
   simp[z,Ne.symm z,n2,n3,z2]
   try omega
theorem uY {y:List Nat} (hy:Yd y) (g:Nat->Int): ∀{w:List Nat},(∀a∈w,a∈y)->(w.map fun a=>Js a*g (PyProof.Rows.lo1 a)).sum=((aR y).map fun x=>cL w x*g x).sum
 | [],_=>by
  rw[show ((aR y).map fun x=>cL [] x*g x)=(aR y).map fun _=>(0:Int) from ZJ fun x _=>by unfold cL;rw[Qac,Qac];omega,lR]
  rfl
 | a::w,h=>by
  have ha:=h a YO
  rw[Zd,ZM,uY hy g (w:=w) fun b hb=>h b (YQ _ hb),show ((aR y).map fun x=>cL (a::w) x*g x)=(aR y).map fun x=>cL w x*g x+(if x=PyProof.Rows.lo1 a then Js a else 0)*g x from ZJ fun x hx=>by rw[qz hy ha hx,Int.add_mul],sum_add,Fd (Qc hy) (wY hy ha)]
  omega
theorem Fe (f:Nat->Int): ∀w:List Nat,(w.map f).sum=sm w.length fun i=>f (rd w i):=fun w=>by
 have e:w=(List.range w.length).map fun i:Nat=>rd w i:=by
  refine Qb7 fun i=>?_
  rw[Zk]
  by_cases z:i<w.length
  ·rw[Qc1 z,fO z];rfl
  ·rw[Z9 (by omega),Z9 (by rw[Qba];omega)];rfl
 conv=>lhs;rw[e]
 rw[ZV]
 refine (mL (fun i:Nat=>f (rd w i)) w.length).trans (a_ fun i _=>?_)
 show f (rd w (((i:Int)).toNat:Nat))=f (rd w i)
 rw[YR]
noncomputable def qA (y w v:List Nat):Int:=cr (sg y) (cL w) (cL v) (aR y) (aR y)
theorem Ic {y:List Nat} (hy:Yd y) {w v:List Nat} (hw: ∀a∈w,a∈y) (hv: ∀a∈v,a∈y):eI w.length v.length (fun i j=>CO y (rd w i) (rd v j))=qA y w v:=by
 unfold qA cr
 rw[<-uY hy (fun x=>((aR y).map fun z=>cL v z*sg y x z).sum) hw,Fe]
 refine a_ fun i hi=>?_
 rw[<-uY hy (fun z=>sg y (PyProof.Rows.lo1 (rd w i)) z) hv,Fe]
 have iw:rd w i∈y:=hw _ (UQ (fO hi))
 have: ∀(k:Int) (f:Int->Int) (n:Nat),k*sm n f=sm n fun j=>k*f j:=fun k f n=>by
  induction n with
  | zero=>exact Int.mul_zero k
  | succ n ih=>show k*(sm n f+f n)=sm n _+k*f n;rw[Int.mul_add,ih]
 rw[this]
 exact a_ fun j hj=>LM hy iw (hv _ (UQ (fO hj)))
theorem qB {y:List Nat} {ws:List (List Nat)} {os:List Od} {c d:Nat} {w v:List Nat} (h:Yd y) (ho:iT y ws os) (j7:uK y ws) (hw:ws[c]? =some w) (hv:ws[d]? =some v) (jZ:c≠d):kM (bI y ws os) c d=qA y w v:=by
 rw[Cm h ho j7 hw hv jZ,Ic h (j7.all w (UQ hw)).1 (j7.all v (UQ hv)).1]
theorem uZ (c:Nat): ∀a b:List Nat,PyProof.Rows.cnt c (a++b)=PyProof.Rows.cnt c a+PyProof.Rows.cnt c b
 | [],b=>by rw[Qac,Qdt];omega
 | x::a,b=>by rw[Qdl,Qa8,Qa8,uZ c a b];omega
theorem gs (a b:List Nat) (x:Nat):cL (a++b) x=cL a x+cL b x:=by unfold cL;rw[uZ,uZ];omega
theorem Ie (a b:List Nat) (x:Nat):cL (a++b) x=cL (b++a) x:=by rw[gs,gs];omega
theorem xx {y:List Nat} (hy:Yd y) {a x:Nat} (ha:a∈y) (hx:x∈aR y):cL [a,az a] x=0:=by
 have la:=hy.lt a ha
 have e0:cL [] x=0:=by unfold cL;rw[Qac,Qac];rfl
 rw[qz hy ha hx,qz hy (hy.cl a ha) hx,e0,(jo a la.mem).1]
 split
 ·rcases qy hy ha with ⟨h0,e1,_⟩ | ⟨h0,e1,_⟩<;>rcases qy hy (hy.cl a ha) with ⟨Qd,f1,_⟩ | ⟨Qd,f1,_⟩
  ·rw[dc a la.mem,h0]at Qd;cases Qd
  ·omega
  ·omega
  ·rw[dc a la.mem,h0]at Qd;cases Qd
 ·rfl
theorem Ff {y:List Nat} (hy:Yd y) {a x:Nat} (ha:a∈y) (hx:x∈aR y) (u v:List Nat):cL (u++[a]++[az a]++v) x=cL (u++v) x:=by
 rw[show u++[a]++[az a]++v=u++([a,az a]++v) by simp,gs,gs,xx hy ha hx,gs]
 omega
theorem Ig {y w w' v v':List Nat} (h1: ∀x∈aR y,cL w x=cL w' x) (h2: ∀x∈aR y,cL v x=cL v' x):qA y w v=qA y w' v':=by
 unfold qA cr
 congr 1
 refine ZJ fun x hx=>?_
 rw[h1 x hx]
 congr 2
 exact ZJ fun z hz=>by rw[h2 z hz]
theorem A0 {y:List Nat} (hy:Yd y) {x:Nat} (hx:x∈aR y): ∀{w:List Nat},(∀a∈w,a∈y)->cL (eX w) x= - cL w x
 | [],_=>by unfold cL;show PyProof.Rows.cnt x [] - PyProof.Rows.cnt (az x) []=_;rw[Qac,Qac];rfl
 | a::w,h=>by
  have ha:=h a YO
  have e:eX (a::w)=eX w++[az a]:=by unfold eX;rw[Zd,Qdd]
  have p:=xx hy ha hx
  rw[show ([a,az a]:List Nat)=[a]++[az a] from rfl,gs]at p
  rw[e,gs,A0 hy hx fun b hb=>h b (YQ _ hb),show a::w=[a]++w from rfl,gs]
  omega
theorem Fg {y w v:List Nat} (hy:Yd y) (hv: ∀a∈v,a∈y):qA y w (eX v)= - qA y w v:=by
 unfold qA cr
 have e: ∀x,((aR y).map fun z=>cL (eX v) z*sg y x z).sum= - ((aR y).map fun z=>cL v z*sg y x z).sum:=fun x=>by
  have:=jP (-1) (fun z=>cL v z*sg y x z) (aR y)
  rw[show ((aR y).map fun z=>cL (eX v) z*sg y x z)=(aR y).map fun z=>(-1)*(cL v z*sg y x z) from ZJ fun z hz=>by rw[A0 hy hz hv,Qdp];omega,this]
  omega
 have:=jP (-1) (fun x=>cL w x*((aR y).map fun z=>cL v z*sg y x z).sum) (aR y)
 rw[show ((aR y).map fun x=>cL w x*((aR y).map fun z=>cL (eX v) z*sg y x z).sum)=(aR y).map fun x=>(-1)*(cL w x*((aR y).map fun z=>cL v z*sg y x z).sum) from ZJ fun x _=>by rw[e x,Int.mul_neg];omega,this]
 omega
theorem Fh {y w:List Nat} (hy:Yd y):qA y w w=0:=by
 have:=w6 hy (bs:=aR y) (fun x hx=>jT hy hx) (cL w) (cL w)
 unfold qA
 omega
theorem zk {y w v:List Nat} {os:List Od} (hy:Yd y) (hw:SW y w) (hv:SW y v) (w2:w.length<=12) (v2:v.length<=12) (h:oV y [w,v] os): ∃k l:Nat,SS y w v - qA y w v=2*(k:Int)/\SS y w v+qA y w v=2*(l:Int):=by
 have LH: ∀u∈[w,v],SW y u:=fun u hu=>by
  rcases Wz.mp hu with e | e
  ·rw[e];exact hw
  ·rw[Wv.mp e];exact hv
 have hk:=(uv hw hv w2 v2).ok
 obtain ⟨_,_,ok,_⟩:=id h
 obtain ⟨M,hC,hT⟩:=E3 hy LH h
 have hN:Lies y [w,v] (HP [w,v]) (HQ [w,v]) M (bu (bg y os)):=lies_of hy hC.sw hT
 have hl:=AY hy ok
 have e2:(2:Int)*((bI y [w,v] os).length:Int)=((2*(bI y [w,v] os).length:Nat):Int):=by omega
 rw[<-qB (c:=0) (d:=1) hy ok hk rfl rfl (by decide), <-Jl hy hw hv]
 rw[<-show eI w.length v.length (fun i j=>one (n6 (pO [w,v] (bu (bg y os)) 0) (pI [w,v] (bu (bg y os)) 0) (pO [w,v] (bu (bg y os)) 1) (pI [w,v] (bu (bg y os)) 1) i j=true))=eI w.length v.length (fc y w v) from sR hC hN (c:=0) (d:=1) (Nat.zero_lt_succ _) (Qad 1) (by decide)]
 have es:kM (bI y [w,v] os) 0 1=eI w.length v.length (fun i j=>gS ((2*(bI y [w,v] os).length:Nat):Int) (bp (bg y os) 0 w i.toNat) (bp (bg y os) 1 v j.toNat)):=by
  unfold kM Ci
  rw[jR (c:=0) (w:=w) rfl,jR (c:=1) (w:=v) rfl,e2]
  unfold eB
  rw[ZV]
  refine (qx (fun x=>oj (((List.range v.length).map (bp (bg y os) 1 v)).map (gS ((2*(bI y [w,v] os).length:Nat):Int) x))) (bp (bg y os) 0 w) w.length).trans ?_
  refine a_ fun i hi=>?_
  rw[YR,ZV]
  exact qx (gS ((2*(bI y [w,v] os).length:Nat):Int) (bp (bg y os) 0 w i)) (bp (bg y os) 1 v) v.length
 rw[es]
 have cell: ∀i j:Nat,i<w.length->j<v.length-> ∃g:Int,gS ((2*(bI y [w,v] os).length:Nat):Int) (bp (bg y os) 0 w i) (bp (bg y os) 1 v j)=g/\((one (n6 (pO [w,v] (bu (bg y os)) 0) (pI [w,v] (bu (bg y os)) 0) (pO [w,v] (bu (bg y os)) 1) (pI [w,v] (bu (bg y os)) 1) i j=true)=1/\(g=1\/g= -1))\/(one (n6 (pO [w,v] (bu (bg y os)) 0) (pI [w,v] (bu (bg y os)) 0) (pO [w,v] (bu (bg y os)) 1) (pI [w,v] (bu (bg y os)) 1) i j=true)=0/\g=0)):=fun i j hi hj=>by
  refine ⟨_,rfl,?_⟩
  have ap:=(AX hy ok hk (c:=0) (d:=1) (w:=w) (v:=v) rfl rfl (by decide) hi hj).ap
  have ea:=fj (ps:=bg y os) (ws:=[w,v]) (c:=0) (i:=i) hi
  have eb:=fj (ps:=bg y os) (ws:=[w,v]) (c:=1) (i:=j) hj
  have em:meets (bp (bg y os) 0 w i) (bp (bg y os) 1 v j)=n6 (pO [w,v] (bu (bg y os)) 0) (pI [w,v] (bu (bg y os)) 0) (pO [w,v] (bu (bg y os)) 1) (pI [w,v] (bu (bg y os)) 1) i j:=by
   obtain ⟨a1,a2,a3,a4,a5,a6⟩:=ap
   unfold meets
   have:=Ib (a:=(bp (bg y os) 0 w i).2.2.1) (b:=(bp (bg y os) 0 w i).2.2.2) (r:=(bp (bg y os) 1 v j).2.2.1) (s:=(bp (bg y os) 1 v j).2.2.2) (by omega) (by omega) (by omega) (by omega) (by omega)
   rw[this]
   have Xt:(bp (bg y os) 0 w i).2.2.1=_:=ea.1
   have Xu:(bp (bg y os) 0 w i).2.2.2=_:=ea.2
   have Xv:(bp (bg y os) 1 v j).2.2.1=_:=eb.1
   have Xw:(bp (bg y os) 1 v j).2.2.2=_:=eb.2
   rw[Xt,Xu,Xv,Xw]
   rfl
  rw[<-em]
  unfold gS
  by_cases z:meets (bp (bg y os) 0 w i) (bp (bg y os) 1 v j)=true
  ·rw[if_pos z,gj z]
   refine .inl ⟨rfl,?_⟩
   unfold ku
   split
   ·exact .inl rfl
   ·exact .inr rfl
  ·rw[if_neg z,bH z]
   exact .inr ⟨rfl,rfl⟩
 suffices key: ∀A B:Int->Int->Int,(∀i j:Nat,i<w.length->j<v.length->(A i j=1/\(B i j=1\/B i j= -1))\/(A i j=0/\B i j=0))-> ∃k l:Nat,eI w.length v.length A - eI w.length v.length B=2*(k:Int)/\eI w.length v.length A+eI w.length v.length B=2*(l:Int) by
  refine key _ _ fun i j hi hj=>?_
  obtain ⟨g,eg,hg⟩:=cell i j hi hj
  rw[YR,YR,eg]
  exact hg
 intro A B Vm
 have Ih: ∀(n:Nat) (f:Int->Int),(∀i:Nat,i<n-> ∃k:Nat,f i=2*(k:Int))-> ∃k:Nat,sm n f=2*(k:Int):=fun n f hf=>by
  induction n with
  | zero=>exact ⟨0,rfl⟩
  | succ n ih=>
   obtain ⟨a,ea⟩:=ih fun i hi=>hf i (by omega)
   obtain ⟨b,eb⟩:=hf n (by omega)
   exact ⟨a+b,by show sm n f+f n=_;rw[ea,eb];omega⟩
 rw[<-jL, <-eY]
 obtain ⟨k,CG⟩:=Ih w.length (fun i=>sm v.length fun j=>A i j - B i j) fun i hi=>Ih _ _ fun j hj=>by
  rcases Vm i j hi hj with ⟨a,b | b⟩ | ⟨a,b⟩
  ·exact ⟨0,by rw[a,b];rfl⟩
  ·exact ⟨1,by rw[a,b];rfl⟩
  ·exact ⟨0,by rw[a,b];rfl⟩
 obtain ⟨l,iW⟩:=Ih w.length (fun i=>sm v.length fun j=>A i j+B i j) fun i hi=>Ih _ _ fun j hj=>by
  rcases Vm i j hi hj with ⟨a,b | b⟩ | ⟨a,b⟩
  ·exact ⟨1,by rw[a,b];rfl⟩
  ·exact ⟨0,by rw[a,b];rfl⟩
  ·exact ⟨0,by rw[a,b];rfl⟩
 exact ⟨k,l,CG,iW⟩
def xA (_:PySem.W.Frag):Sp:=fun vs H Q _=> ∃(b:Addr) (y w:List Nat),vs=[.ref b, .str (S y), .str (S w)]/\bG H b/\Yd y/\2<=y.length/\y.length<=8/\w≠[]/\(∀c∈w,c∈y)/\w.length<=6/\ ∀(u:List Nat) H',(∀c∈u,c∈y)->u.length<=10->(∀x∈aR y,cL u x=cL w x)->bG H' b->aN b H H'->Q (.str (S u)) H'
theorem Cn {K:PySem.W.Frag} {vs:List V} {H:Hp} {Q:VK} {E:XK} (h:xA K vs H Q E):vs.length=3:=by obtain ⟨_,_,_,rfl,_⟩:=h;rfl
def tF (K:PySem.W.Frag):Sp:=fun vs H Q _=> ∃(b:Addr) (y w v:List Nat),vs=[.ref b, .str (S y), .str (S w), .str (S v)]/\bG H b/\Yd y/\2<=y.length/\y.length<=8/\SW y w/\w.length<=6/\SW y v/\v.length<=6/\ ∀H',bG H' b->aN b H H'->Q (.bl true) H'
theorem zm {K:PySem.W.Frag} {vs:List V} {H:Hp} {Q:VK} {E:XK} (h:tF K vs H Q E):vs.length=4:=by obtain ⟨_,_,_,_,rfl,_⟩:=h;rfl
theorem TF {y u v:List Nat} (hu: ∀c∈u,c∈y) (ul:u.length<=10) (hv: ∀c∈v,c∈y) (vl:v.length<=10):uK y [u,v]:=⟨by show 2<=4;decide,fun w hw=>by
 rcases Wz.mp hw with e | e
 ·rw[e];exact ⟨hu,ZG ul (by decide)⟩
 ·rw[Wv.mp e];exact ⟨hv,ZG vl (by decide)⟩⟩
def tG (_:PySem.W.Frag):Sp:=fun vs H Q _=> ∃(b:Addr) (y:List Nat) (many top:Nat),vs=[.ref b, .str (S y), .int many, .int top]/\bG H b/\Yd y/\2<=y.length/\y.length<=8/\1<=many/\many<=4/\1<=top/\top<=12/\many*top<=24/\ ∀(t:Addr) (ws:List (List Nat)) (H':Hp),t≠b->H' t=some (.tup (g6 ws))->1<=ws.length->(∀w∈ws,SW y w/\w.length<=top)->bG H' b->aN b H H'->Q (.ref t) H'
theorem zo {K:PySem.W.Frag} {vs:List V} {H:Hp} {Q:VK} {E:XK} (h:tG K vs H Q E):vs.length=4:=by obtain ⟨_,_,_,_,rfl,_⟩:=h;rfl
theorem Fi {ws:List (List Nat)} (h:ws≠[]): ∃l∈ws,oG (g6 ws) (-1)=some (V.str (S l)):=by
 refine ⟨ws.getLast h,List.getLast_mem h,?_⟩
 have e:g6 ws=g6 ws.dropLast++[V.str (S (ws.getLast h))]:=by rw[pW,List.dropLast_concat_getLast]
 rw[e]
 exact vS _ _
local macro_rules | `(tactic| walk_at "rd") => `(tactic| repeat (first
 | refine ⟨_,rfl,?_⟩
 | refine ⟨_,_,rfl,rfl,?_⟩
 | refine ⟨rfl,?_⟩
 | refine And.intro (by first | decide | omega | assumption | exact Nat.le_of_ble_eq_true rfl | exact .inl ⟨by decide,by decide⟩ | exact .inr ⟨by decide,by decide⟩ | exact ⟨by decide,by decide⟩ | exact ⟨by omega,by omega⟩) ?_))
local macro_rules | `(tactic| walk_at "wk") => `(tactic| repeat (first
 | refine ⟨_,rfl,?_⟩
 | refine ⟨_,_,rfl,rfl,?_⟩
 | refine ⟨_,_,_,rfl,rfl,by first | assumption | omega,by assumption,?_⟩
 | refine ⟨rfl,?_⟩
 | refine And.intro (by first | decide | omega | assumption | exact Nat.le_of_ble_eq_true rfl | exact .inl ⟨by decide,by decide⟩ | exact .inr ⟨by decide,by decide⟩ | exact ⟨by decide,by decide⟩ | exact ⟨by omega,by omega⟩) ?_))
local macro_rules | `(tactic| walk_at "bd") => `(tactic| first | assumption | exact Xx _ | exact YV (by walk_at "bd") (by walk_at "bd"))
noncomputable def top (i:Nat):Stmt:=PySem.Challenge.pw_mustmeet_k83_whole_however_drawn.main.body.getD i (.Pass ⟨0,0,0,0⟩)
noncomputable abbrev kN:Stmt:=top 1
noncomputable abbrev qC:Stmt:=top 2
noncomputable abbrev u5:Stmt:=top 4
noncomputable abbrev gB:Stmt:=top 5
noncomputable abbrev ir:Stmt:=top 6
noncomputable abbrev Fj:Stmt:=top 8
noncomputable abbrev mZ:Stmt:=top 9
noncomputable abbrev jy:Stmt:=top 10
noncomputable abbrev u6:Stmt:=top 11
noncomputable abbrev m7:Stmt:=top 12
noncomputable abbrev iy:Stmt:=top 14
noncomputable abbrev qD:Stmt:=top 15
noncomputable abbrev fB:Stmt:=top 16
noncomputable abbrev m8:Stmt:=top 17
noncomputable abbrev fR:Stmt:=top 18
noncomputable abbrev fS:Stmt:=top 19
noncomputable abbrev jz:Stmt:=top 20
noncomputable abbrev eR:Stmt:=top 21
noncomputable abbrev iA:Stmt:=top 23
noncomputable abbrev gC:Stmt:=top 25
noncomputable abbrev jA:Stmt:=top 27
noncomputable abbrev kO:Stmt:=top 28
noncomputable abbrev zp:Stmt:=top 29
noncomputable abbrev zq:Stmt:=top 30
noncomputable abbrev fT:Stmt:=top 32
noncomputable abbrev gD:Stmt:=top 35
noncomputable abbrev iB:Stmt:=top 36
noncomputable abbrev m9:Stmt:=top 37
noncomputable abbrev m_:Stmt:=top 38
noncomputable abbrev gE:Stmt:=top 39
noncomputable abbrev fU:Stmt:=top 40
noncomputable abbrev gF:Stmt:=top 41
noncomputable abbrev iC:Stmt:=top 42
noncomputable abbrev zr:Stmt:=top 43
noncomputable abbrev ng:Stmt:=top 45
noncomputable abbrev zt:Stmt:=top 47
noncomputable abbrev u7:Stmt:=top 48
noncomputable abbrev zu:Stmt:=top 50
noncomputable abbrev u9:Stmt:=top 51
noncomputable abbrev qE:Stmt:=top 52
noncomputable abbrev u_:Stmt:=top 53
noncomputable abbrev qF:Stmt:=top 54
noncomputable abbrev va:Stmt:=top 55
noncomputable abbrev qG:Stmt:=top 56
noncomputable abbrev qH:Stmt:=top 57
noncomputable abbrev kP:Stmt:=top 58
noncomputable abbrev qI:Stmt:=top 59
noncomputable abbrev vb:Stmt:=top 60
noncomputable abbrev qJ:Stmt:=top 61
noncomputable abbrev Fl:Stmt:=top 62
structure aZ (K:PySem.W.Frag) (mg:Str->Option Value) (x:Str) (st:Stmt) (ps:List Str) (f:Addr) (fd:FuncData):Prop where
 fn:GR K x x st f fd
 mg:mg x=some (.ref f)
 bd:Binds K fd ps []
noncomputable abbrev jU:Stmt:=U4 (top 33) 0
noncomputable abbrev gW:Stmt:=U4 (top 34) 0
structure Txt (K:PySem.W.Frag) (mg:Str->Option Value) (f0 f1 f2 f3 f4 f5 f6 f7 f8 f9 MF MG MH MI MJ MK ML MM MN MO MP MQ MR MS MT Fm Fn MU MV MW MX MY MZ M0 M1 M3 M4 M5 M6 M7 M8 M9 M_ Na Nb Nd Nf Ng Nh Ni aO aX kx gG:Addr) (d0 d1 d2 d3 d4 d5 d6 d7 d8 d9 Nj Nk Nl Nm Nn Np Nq Nr Nt Nu Nv Nw Ny Nz NA NB NC ND NF NG NH NI NJ NK NL NM NN NO NP NQ NR NS NT NU NV NW NX NY NZ N0 xB qK:FuncData):Prop where
 F0:aZ K mg "contrary" kN ["letter"] f0 d0
 F1:aZ K mg "turned" qC ["word"] f1 d1
 F2:aZ K mg "bands" u5 ["yard"] f2 d2
 F3:aZ K mg "steps_round" gB ["yard","start","end"] f3 d3
 F4:aZ K mg "goes_round" ir ["yard","x","y","z"] f4 d4
 F5:aZ K mg "net" Fj ["yard","word"] f5 d5
 F6:aZ K mg "crosses" mZ ["yard","band","other"] f6 d6
 F7:aZ K mg "table_row" jy ["yard","band"] f7 d7
 F8:aZ K mg "table" u6 ["yard"] f8 d8
 F9:aZ K mg "crossed" m7 ["yard","one","other"] f9 d9
 Ri:aZ K mg "strands_at" iy ["yard","drawing","end"] MF Nj
 Rj:aZ K mg "points" qD ["yard","drawing"] MG Nk
 Rk:aZ K mg "corner_points" fB ["word","cord","place"] MH Nl
 LN:aZ K mg "corners" m8 ["yard","drawing"] MI Nm
 Rl:aZ K mg "corners_meet" fR ["one","other"] MJ Nn
 Rm:aZ K mg "chord_starts" fS ["some"] MK Np
 Rn:aZ K mg "number_in" jz ["rising","point"] ML Nq
 Gn:aZ K mg "count_meetings" eR ["some"] MM Nr
 Ro:aZ K mg "strands_in" iA ["words","band"] MN Nt
 Rp:aZ K mg "corner_ends" gC ["word","place"] MO Nu
 Rq:aZ K mg "shortened" jA ["word"] MP Nv
 Rr:aZ K mg "shortest" kO ["word"] MQ Nw
 Gp:aZ K mg "ring" zp ["word"] MR Ny
 Rt:aZ K mg "root" zq ["word"] MS Nz
 Ru:aZ K mg "corner_steps" fT ["yard","word","place"] MT NA
 xS:aZ K mg "steps_ahead" gD ["seen","start","end"] Fm NB
 xT:aZ K mg "steps_back" iB ["seen","start","end"] Fn NC
 LO:aZ K mg "parting" m9 ["steps","one","other","enough"] MU ND
 LP:aZ K mg "side_of" m_ ["seen"] MV NF
 Rv:aZ K mg "comes_ahead" gE ["one","other"] MW NG
 Rw:aZ K mg "number_among" fU ["order","seen"] MX NH
 Rx:aZ K mg "seen_strand" gF ["words","ways","strand"] MY NI
 Ry:aZ K mg "taut_order" iC ["words","ways","band"] MZ NJ
 LQ:aZ K mg "taut" zr ["yard","words"] M0 NK
 Rz:aZ K mg "between" ng ["yard","one","other"] M1 NL
 RA:aZ K mg "side" zt ["corner","other","many"] M3 NM
 LR:aZ K mg "sides" u7 ["yard","drawing","c","d"] M4 NN
 RB:aZ K mg "_law_box" zu ["_law_script","_law_k"] M5 NO
 fq:aZ K mg "_law_take" u9 ["_law_box_here","_law_many"] M6 NP
 ml:aZ K mg "_law_other" qE ["_law_letter"] M7 NQ
 RC:aZ K mg "_law_yard" u_ ["_law_box_here","_law_few","_law_top"] M8 NR
 Gq:aZ K mg "_law_short" qF ["_law_box_here","_law_yard_here","_law_top"] M9 NS
 RD:aZ K mg "_law_near" va ["_law_box_here","_law_yard_here","_law_word","_law_top"] M_ NT
 RE:aZ K mg "_law_order" qG ["_law_box_here","_law_things"] Na NU
 RF:aZ K mg "_law_bands" qH ["_law_yard_here"] Nb NV
 RG:aZ K mg "_law_drawing" kP ["_law_box_here","_law_yard_here","_law_words_here"] Nd NW
 RH:aZ K mg "_law_words" qI ["_law_box_here","_law_yard_here","_law_many","_law_top"] Nf NX
 LS:aZ K mg "_law_bent" vb ["_law_box_here","_law_yard_here","_law_word"] Ng NY
 RI:aZ K mg "_law_right" qJ ["_law_box_here","_law_yard_here","_law_one","_law_other_here"] Nh NZ
 Xy:aZ K mg "law" Fl ["_law_script"] Ni N0
 Fo:mg "Seen"=some (.ref aO)
 dI:IM K aO
 n_Seen_strand:dY K aO "strand"
 n_Seen_way:dY K aO "way"
 n_Seen_place:dY K aO "place"
 Jt:mg "Way"=some (.ref aX)
 gu:IM K aX
 n_Way_size:dY K aX "size"
 n_Way_root_size:dY K aX "root_size"
 n_Way_leads:dY K aX "leads"
 n_Way_onward:dY K aX "onward"
 n_Way_backward:dY K aX "backward"
 Ju:Mk K aX kx
 Qe:GR K "__init__" "Way.__init__" jU kx xB
 Jv:Binds K xB ["self","yard","word","longest"] []
 Fp:Mk K aO gG
 LU:GR K "__init__" "Seen.__init__" gW gG qK
 Fq:Binds K qK ["self","strand","way","place"] []
 z_abs:mg "abs"=none
 z_enumerate:mg "enumerate"=none
 z_int:mg "int"=none
 z_len:mg "len"=none
 z_list:mg "list"=none
 z_max:mg "max"=none
 z_min:mg "min"=none
 z_range:mg "range"=none
 z_reversed:mg "reversed"=none
 z_sorted:mg "sorted"=none
 z_str:mg "str"=none
 z_sum:mg "sum"=none
 z_tuple:mg "tuple"=none
 z_zip:mg "zip"=none
theorem xC:aD ["letter"] ["letter"] (aq kN):=⟨rfl,rfl,rfl,by decide+kernel,rfl,by decide+kernel,by decide+kernel⟩
theorem Co:aD ["word"] ["word"] (aq qC):=⟨rfl,rfl,rfl,by decide+kernel,rfl,by decide+kernel,by decide+kernel⟩
theorem Fs:aD ["yard"] ["yard"] (aq u5):=⟨rfl,rfl,rfl,by decide+kernel,rfl,by decide+kernel,by decide+kernel⟩
theorem qL:aD ["yard","start","end"] ["yard","start","end"] (aq gB):=⟨rfl,rfl,rfl,by decide+kernel,rfl,by decide+kernel,by decide+kernel⟩
theorem rE:aD ["yard","x","y","z"] ["yard","x","y","z"] (aq ir):=⟨rfl,rfl,rfl,by decide+kernel,rfl,by decide+kernel,by decide+kernel⟩
theorem LV:aD ["yard","word"] ["yard","word"] (aq Fj):=⟨rfl,rfl,rfl,by decide+kernel,rfl,by decide+kernel,by decide+kernel⟩
theorem kQ:aD ["yard","band","other","start","capital_ahead"] ["yard","band","other"] (aq mZ):=⟨rfl,rfl,rfl,by decide+kernel,rfl,by decide+kernel,by decide+kernel⟩
theorem vc:aD ["yard","band"] ["yard","band"] (aq jy):=⟨rfl,rfl,rfl,by decide+kernel,rfl,by decide+kernel,by decide+kernel⟩
theorem Ft:aD ["yard"] ["yard"] (aq u6):=⟨rfl,rfl,rfl,by decide+kernel,rfl,by decide+kernel,by decide+kernel⟩
theorem eS:aD ["yard","one","other","other_net","total","many","row"] ["yard","one","other"] (aq m7):=⟨rfl,rfl,rfl,by decide+kernel,rfl,by decide+kernel,by decide+kernel⟩
theorem ky:aD ["yard","drawing","end","order"] ["yard","drawing","end"] (aq iy):=⟨rfl,rfl,rfl,by decide+kernel,rfl,by decide+kernel,by decide+kernel⟩
theorem jV:aD ["yard","drawing","told","end","strand"] ["yard","drawing"] (aq qD):=⟨rfl,rfl,rfl,by decide+kernel,rfl,by decide+kernel,by decide+kernel⟩
theorem gX:aD ["word","cord","place","ahead"] ["word","cord","place"] (aq fB):=⟨rfl,rfl,rfl,by decide+kernel,rfl,by decide+kernel,by decide+kernel⟩
theorem cG:aD ["yard","drawing","numbers","number","point","told","cord","word","place","pair"] ["yard","drawing"] (aq m8):=⟨rfl,rfl,rfl,by decide+kernel,rfl,by decide+kernel,by decide+kernel⟩
theorem fD:aD ["one","other","low","high"] ["one","other"] (aq fR):=⟨rfl,rfl,rfl,by decide+kernel,rfl,by decide+kernel,by decide+kernel⟩
theorem dD:aD ["some","starts","corner","first"] ["some"] (aq fS):=⟨rfl,rfl,rfl,by decide+kernel,rfl,by decide+kernel,by decide+kernel⟩
theorem dh:aD ["rising","point","low","high","middle"] ["rising","point"] (aq jz):=⟨rfl,rfl,rfl,by decide+kernel,rfl,by decide+kernel,by decide+kernel⟩
theorem bD:aD ["some","starts","begun","many","point","number"] ["some"] (aq eR):=⟨rfl,rfl,rfl,by decide+kernel,rfl,by decide+kernel,by decide+kernel⟩
theorem cM:aD ["words","band","found","cord","word","place","letter"] ["words","band"] (aq iA):=⟨rfl,rfl,rfl,by decide+kernel,rfl,by decide+kernel,by decide+kernel⟩
theorem qM:aD ["word","place"] ["word","place"] (aq gC):=⟨rfl,rfl,rfl,by decide+kernel,rfl,by decide+kernel,by decide+kernel⟩
theorem iD:aD ["word","kept","letter"] ["word"] (aq jA):=⟨rfl,rfl,rfl,by decide+kernel,rfl,by decide+kernel,by decide+kernel⟩
theorem dU:aD ["word","left","start","end"] ["word"] (aq kO):=⟨rfl,rfl,rfl,by decide+kernel,rfl,by decide+kernel,by decide+kernel⟩
theorem jW:aD ["word","whole","least","start","begun"] ["word"] (aq zp):=⟨rfl,rfl,rfl,by decide+kernel,rfl,by decide+kernel,by decide+kernel⟩
theorem oY:aD ["word","whole","size","times"] ["word"] (aq zq):=⟨rfl,rfl,rfl,by decide+kernel,rfl,by decide+kernel,by decide+kernel⟩
theorem iP:aD ["yard","word","place","ends"] ["yard","word","place"] (aq fT):=⟨rfl,rfl,rfl,by decide+kernel,rfl,by decide+kernel,by decide+kernel⟩
theorem jB:aD ["seen","start","end","first"] ["seen","start","end"] (aq gD):=⟨rfl,rfl,rfl,by decide+kernel,rfl,by decide+kernel,by decide+kernel⟩
theorem kz:aD ["seen","start","end","first"] ["seen","start","end"] (aq iB):=⟨rfl,rfl,rfl,by decide+kernel,rfl,by decide+kernel,by decide+kernel⟩
theorem dJ:aD ["steps","one","other","enough","many","size"] ["steps","one","other","enough"] (aq m9):=⟨rfl,rfl,rfl,by decide+kernel,rfl,by decide+kernel,by decide+kernel⟩
theorem kR:aD ["seen","way","cord"] ["seen"] (aq m_):=⟨rfl,rfl,rfl,by decide+kernel,rfl,by decide+kernel,by decide+kernel⟩
theorem eF:aD ["one","other","enough","ahead","back"] ["one","other"] (aq gE):=⟨rfl,rfl,rfl,by decide+kernel,rfl,by decide+kernel,by decide+kernel⟩
theorem b6:aD ["order","seen","low","high","middle"] ["order","seen"] (aq fU):=⟨rfl,rfl,rfl,by decide+kernel,rfl,by decide+kernel,by decide+kernel⟩
theorem fV:aD ["words","ways","strand","word","place"] ["words","ways","strand"] (aq gF):=⟨rfl,rfl,rfl,by decide+kernel,rfl,by decide+kernel,by decide+kernel⟩
theorem eZ:aD ["words","ways","band","order","strand","seen"] ["words","ways","band"] (aq iC):=⟨rfl,rfl,rfl,by decide+kernel,rfl,by decide+kernel,by decide+kernel⟩
theorem vd:aD ["yard","words","longest","ways"] ["yard","words"] (aq zr):=⟨rfl,rfl,rfl,by decide+kernel,rfl,by decide+kernel,by decide+kernel⟩
theorem iE:aD ["yard","one","other","every","ones","others"] ["yard","one","other"] (aq ng):=⟨rfl,rfl,rfl,by decide+kernel,rfl,by decide+kernel,by decide+kernel⟩
theorem ve:aD ["corner","other","many","goes_out","comes_in"] ["corner","other","many"] (aq zt):=⟨rfl,rfl,rfl,by decide+kernel,rfl,by decide+kernel,by decide+kernel⟩
theorem gY:aD ["yard","drawing","c","d","every","others","total","corner"] ["yard","drawing","c","d"] (aq u7):=⟨rfl,rfl,rfl,by decide+kernel,rfl,by decide+kernel,by decide+kernel⟩
theorem md:aD ["_law_script","_law_k","_law_cell","_law_seed"] ["_law_script","_law_k"] (aq zu):=⟨rfl,rfl,rfl,by decide+kernel,rfl,by decide+kernel,by decide+kernel⟩
theorem qN:aD ["_law_box_here","_law_many","_law_digit","_law_one"] ["_law_box_here","_law_many"] (aq u9):=⟨rfl,rfl,rfl,by decide+kernel,rfl,by decide+kernel,by decide+kernel⟩
theorem nh:aD ["_law_letter","_law_small","_law_capital"] ["_law_letter"] (aq qE):=⟨rfl,rfl,rfl,by decide+kernel,rfl,by decide+kernel,by decide+kernel⟩
theorem fk:aD ["_law_box_here","_law_few","_law_top","_law_left","_law_ends","_law_k","_law_letter","_law_found"] ["_law_box_here","_law_few","_law_top"] (aq u_):=⟨rfl,rfl,rfl,by decide+kernel,rfl,by decide+kernel,by decide+kernel⟩
theorem cN:aD ["_law_box_here","_law_yard_here","_law_top","_law_many","_law_form","_law_word","_law_letter"] ["_law_box_here","_law_yard_here","_law_top"] (aq qF):=⟨rfl,rfl,rfl,by decide+kernel,rfl,by decide+kernel,by decide+kernel⟩
theorem jC:aD ["_law_box_here","_law_yard_here","_law_word","_law_top","_law_form","_law_at","_law_letter","_law_some"] ["_law_box_here","_law_yard_here","_law_word","_law_top"] (aq va):=⟨rfl,rfl,rfl,by decide+kernel,rfl,by decide+kernel,by decide+kernel⟩
theorem ni:aD ["_law_box_here","_law_things","_law_left","_law_found"] ["_law_box_here","_law_things"] (aq qG):=⟨rfl,rfl,rfl,by decide+kernel,rfl,by decide+kernel,by decide+kernel⟩
theorem Cp:aD ["_law_yard_here"] ["_law_yard_here"] (aq qH):=⟨rfl,rfl,rfl,by decide+kernel,rfl,by decide+kernel,by decide+kernel⟩
theorem dW:aD ["_law_box_here","_law_yard_here","_law_words_here","_law_orders","_law_band","_law_some","_law_c","_law_word"] ["_law_box_here","_law_yard_here","_law_words_here"] (aq kP):=⟨rfl,rfl,rfl,by decide+kernel,rfl,by decide+kernel,by decide+kernel⟩
theorem jX:aD ["_law_box_here","_law_yard_here","_law_many","_law_top","_law_found","_law_k","_law_one"] ["_law_box_here","_law_yard_here","_law_many","_law_top"] (aq qI):=⟨rfl,rfl,rfl,by decide+kernel,rfl,by decide+kernel,by decide+kernel⟩
theorem fW:aD ["_law_box_here","_law_yard_here","_law_word","_law_at","_law_turn","_law_letter"] ["_law_box_here","_law_yard_here","_law_word"] (aq vb):=⟨rfl,rfl,rfl,by decide+kernel,rfl,by decide+kernel,by decide+kernel⟩
theorem eT:aD ["_law_box_here","_law_yard_here","_law_one","_law_other_here","_law_due","_law_turn","_law_words_here","_law_drawing_here","_law_many","_law_back"] ["_law_box_here","_law_yard_here","_law_one","_law_other_here"] (aq qJ):=⟨rfl,rfl,rfl,by decide+kernel,rfl,by decide+kernel,by decide+kernel⟩
theorem qO:aD ["_law_script","_law_k","_law_box_here","_law_yard_here","_law_words_here"] ["_law_script"] (aq Fl):=⟨rfl,rfl,rfl,by decide+kernel,rfl,by decide+kernel,by decide+kernel⟩
theorem qP:aD ["self","yard","word","longest","steps","rounds"] ["self","yard","word","longest"] (aq jU):=⟨rfl,rfl,rfl,by decide+kernel,rfl,by decide+kernel,by decide+kernel⟩
theorem Cq:aD ["self","strand","way","place"] ["self","strand","way","place"] (aq gW):=⟨rfl,rfl,rfl,by decide+kernel,rfl,by decide+kernel,by decide+kernel⟩
section
variable {P:Program} {w:World} {K:PySem.W.Frag} {mg:Str->Option Value} {base:Heap} {f0 f1 f2 f3 f4 f5 f6 f7 f8 f9 MF MG MH MI MJ MK ML MM MN MO MP MQ MR MS MT Fm Fn MU MV MW MX MY MZ M0 M1 M3 M4 M5 M6 M7 M8 M9 M_ Na Nb Nd Nf Ng Nh Ni aO aX kx gG:Addr} {d0 d1 d2 d3 d4 d5 d6 d7 d8 d9 Nj Nk Nl Nm Nn Np Nq Nr Nt Nu Nv Nw Ny Nz NA NB NC ND NF NG NH NI NJ NK NL NM NN NO NP NQ NR NS NT NU NV NW NX NY NZ N0 xB qK:FuncData}
variable (T:Txt K mg f0 f1 f2 f3 f4 f5 f6 f7 f8 f9 MF MG MH MI MJ MK ML MM MN MO MP MQ MR MS MT Fm Fn MU MV MW MX MY MZ M0 M1 M3 M4 M5 M6 M7 M8 M9 M_ Na Nb Nd Nf Ng Nh Ni aO aX kx gG d0 d1 d2 d3 d4 d5 d6 d7 d8 d9 Nj Nk Nl Nm Nn Np Nq Nr Nt Nu Nv Nw Ny Nz NA NB NC ND NF NG NH NI NJ NK NL NM NN NO NP NQ NR NS NT NU NV NW NX NY NZ N0 xB qK)
include T
theorem gZ:br P w K mg base eG 1 M6 NP ["_law_box_here","_law_many"] (wF K):=by
 refine T.fq.fn.ok qN (fun vs H Q E h=>BM h) (fun cu A outer s H vs Q E hr h=>?_)
 refine ⟨_,(ae (bT (aG nz (aM (bW K rfl) (pv 0) ah (fun _ _=>rfl)) ah (aK _)) (ae (ao (i:=2) qN.nd rfl (Or.inl rfl) (aC dE (aM (bW K rfl) (pv 0) ah (fun _ _=>rfl)) (pv 1)))
   (ae (CZ (aC fg (aM (bW K rfl) (pv 0) ah (fun _ _=>rfl)) (pv 1)) (CY (pv 0) ah set_list))
   (ai (aE (pv 2))))) bf)
   (ae (ao (i:=3) qN.nd rfl (Or.inl rfl) (aC dE (aC gw (aM (bW K rfl) (pv 0) ah (fun _ _=>rfl)) ah) ah))
   (ae (CZ (aC bc (aC dE (aC bc (aC gw (pv 3) ah) ah) ah) ah) (CY (pv 0) ah set_list))
   (ai (aE (aC dE (aC fg (aC bc (aC gw (pv 3) ah) (aM (bW K rfl) (pv 0) ah (fun _ _=>rfl))) ah) (pv 1))))))),?_⟩
 obtain ⟨b,m,rfl,⟨x,y,hb⟩,h1,h2,q⟩:=h
 have fin: ∀(r x' y':Int),0<=r->r<m->Q (.int r) (upd H b (.lst [.int x', .int y'])):=fun r x' y' h3 h4=>by
  have e:r=((r.toNat:Nat):Int):=by omega
  rw[e]
  exact q r.toNat _ (by omega) ⟨x',y',ag⟩ (aN.upd b H _)
 refine ⟨_,rfl,b,_,0,_,rfl,rfl,ba.of hb,rfl,_,_,rfl,rfl,_,rfl,bJ (fun e=>?_) (fun e=>?_)⟩
 ·refine ⟨_,rfl,b,_,0,_,rfl,rfl,ba.of hb,rfl,_,rfl,_,_,rfl,rfl,(by omega:0<m),?_⟩
  refine ⟨_,rfl,b,_,0,_,rfl,rfl,ba.of hb,rfl,_,rfl,_,_,rfl,rfl,⟨by omega,by omega⟩,_,rfl,b,_,0,0,rfl,rfl,hb,rfl,_,rfl,?_⟩
  exact fin (x%m) (x / m) y (Qaa _ (by omega)) (Z6 _ (by omega))
 ·refine ⟨_,rfl,b,_,1,_,rfl,rfl,ba.of hb,rfl,_,_,rfl,rfl, .inr ⟨by decide,by decide⟩,_,_,rfl,rfl,(by decide:(0:Int)<2147483647),?_⟩
  refine ⟨_,rfl,_,_,rfl,rfl, .inr ⟨by decide,by decide⟩,_,_,rfl,rfl,_,_,rfl,rfl,(by decide:(0:Int)<2147483629),_,_,rfl,rfl,_,rfl,b,_,1,1,rfl,rfl,hb,rfl,?_⟩
  refine ⟨_,rfl,_,_,rfl,rfl, .inr ⟨by decide,by decide⟩,_,rfl,b,_,1,_,rfl,rfl,ba.of ag,rfl,_,_,rfl,rfl,_,_,rfl,rfl,⟨by decide,by decide⟩,_,rfl,_,_,rfl,rfl,(by omega:0<m),?_⟩
  exact fin _ _ _ (Qaa _ (by omega)) (Z6 _ (by omega))
theorem fK:br P w K mg base eG 1 M7 NQ ["_law_letter"] (sG K):=by
 refine T.ml.fn.ok nh (fun vs H Q E h=>yG h) (fun cu A outer s H vs Q E hr h=>?_)
 refine ⟨_,(ae (ao (i:=1) nh.nd rfl (Or.inl rfl) (lp [97,98,99,100,101,102,103,104,105,106,107,108,109,110,111,112,113,114,115,116,117,118,119,120,121,122] (by decide+kernel)))
   (ae (ao (i:=2) nh.nd rfl (Or.inl rfl) (lp [65,66,67,68,69,70,71,72,73,74,75,76,77,78,79,80,81,82,83,84,85,86,87,88,89,90] (by decide+kernel)))
   (ae (bT (aG Di (pv 0) (pv 1) (by with_unfolding_all rfl)) (ai (aE (aM hU (pv 2) (bK K rfl Zm Qcj Qch mF (pv 1) (aa (pv 0) ab)) (fun _ _=>rfl)))) bf)
   (ai (aE (aM hU (pv 1) (bK K rfl Zm Qcj Qch mF (pv 2) (aa (pv 0) ab)) (fun _ _=>rfl))))))),?_⟩
 obtain ⟨c,rfl,hc,q⟩:=h
 refine ⟨_,rfl,_,rfl,c,aQ,rfl,rfl,_,rfl,bJ (fun e=>?_) (fun e=>?_)⟩
 ·have hm:c∈aQ:=of_decide_eq_true e
  exact ⟨_,rfl,_,rfl,rfl,_,rfl,aQ,c,rfl,rfl,hm,jb,_,az c,rfl,rfl,by decide,wD c hm,q⟩
 ·have hm:c∈jb:=hc.resolve_left fun z=>e (decide_eq_true z)
  exact ⟨_,rfl,_,rfl,rfl,_,rfl,jb,c,rfl,rfl,hm,aQ,_,az c,rfl,rfl,by decide,BL c hm,q⟩
theorem Fu:br P w K mg base eG 2 M8 NR ["_law_box_here","_law_few","_law_top"] (wG K):=by
 have bL:=gZ (P:=P) (w:=w) (base:=base) T
 have cf:=fK (P:=P) (w:=w) (base:=base) T
 refine T.RC.fn.ok fk (fun vs H Q E h=>BN h) (fun cu A outer s H vs Q E hr h=>?_)
 refine ⟨_,(ae (ao (i:=3) fk.nd rfl (Or.inl rfl) (bM (pA rfl) rfl T.z_list boot_list (aa (lp [97,98,99,100,101,102,103,104,105,106,107,108,109,110,111,112,113,114,115,116,117,118,119,120,121,122] (by decide+kernel)) ab)))
   (ae (ao (i:=4) fk.nd rfl (Or.inl rfl) (dj ab))
   (ae (b5 PassesOwn.never rfl (eJ rfl T.z_range (aa (aC bc (pv 1) (aj bL (hr.mono (by decide)) rfl T.fq.mg T.fq.fn.kp T.fq.bd .nil ay (aa (pv 0) (aa (aC bc (aC cj (pv 2) (pv 1)) ah) ab)))) ab)) (aI (i:=5) fk.nd rfl (Or.inl rfl)) (ae (ao (i:=6) fk.nd rfl (Or.inl rfl) (bK K rfl Zr Qa7 Qa6 kY (pv 3) (aa (aj bL (hr.mono (by decide)) rfl T.fq.mg T.fq.fn.kp T.fq.bd .nil ay (aa (pv 0) (aa (aB (aW K rfl) rfl T.z_len Zf (aa (pv 3) ab)) ab))) ab)))
   (ai (ao (i:=4) fk.nd rfl (Or.inl rfl) (aC Kn (pv 4) (dj (aa (pv 6) (aa (aj cf (hr.mono (by decide)) rfl T.ml.mg T.ml.fn.kp T.ml.bd .nil ay (aa (pv 6) ab)) ab))))))))
   (ae (ao (i:=7) fk.nd rfl (Or.inl rfl) (lp [] (by decide+kernel)))
   (ae (da PassesOwn.never (aG nz (aB (aW K rfl) rfl T.z_len Zf (aa (pv 4) ab)) ah (aK _)) (ai (ao (i:=7) fk.nd rfl (Or.inl rfl) (aC dZ (pv 7) (bK K rfl Zr Qa7 Qa6 kY (pv 4) (aa (aj bL (hr.mono (by decide)) rfl T.fq.mg T.fq.fn.kp T.fq.bd .nil ay (aa (pv 0) (aa (aB (aW K rfl) rfl T.z_len Zf (aa (pv 4) ab)) ab))) ab))))))
   (ai (aE (pv 7)))))))),?_⟩
 obtain ⟨b,xN,top,rfl,hb,h1,h2,h3,q⟩:=h
 have hs:(100000:Nat)<sizeLine:=by decide
 walk_at "rd"
 intro p1 n1
 walk_at "rd"
 intro p2 n2
 have s1:ak H (upd (upd H p1 (.lst (cI aQ))) p2 (.lst [])):=(ak.upd n1).trans (ak.upd n2)
 have Cr:p1≠b:=hb.ne n1
 have Fv:H p2=none:=ak.free (ak.upd n1) n2
 have Fx:p2≠b:=hb.ne Fv
 have CP:p1≠p2:=fun z=>by rw[<-z,ag]at n2;cases n2
 walk_at "rd"
 refine ⟨b,_,rfl,hb.same s1,by omega,by omega,fun n H1 hn wA s2=>?_⟩
 walk_at "rd"
 refine dM (fun i σ H'=> ∃(pe:Addr) (L E:List Nat) (kv lv:Option V),σ=[some (.ref b),some (.int xN),some (.int top),some (.ref p1),some (.ref pe),kv,lv,none]/\K6 i L E/\H' p1=some (.lst (cI L))/\H' pe=some (.lst (cI E))/\p1≠pe/\H pe=none/\bG H' b/\aN b H H')
  ⟨p2,aQ,[],none,none,rfl,K6.start,s2 _ _ (by rw[ar CP,ag];rfl) Cr,s2 _ _ ag Fx,CP,Fv,wA,(aN.of s1).trans s2⟩ ?_ ?_
 ·rintro i σ H2 hi ⟨pe,L,E,kv,lv,rfl,yw,jq,j9,Vn,RJ,iJ,s3⟩
  show JU _ _ _ _ _
  refine Jd fun Dx TH=>?_
  have Jm:i<26:=by simp at hi;omega
  have TJ:=yw.ll
  have ME:=yw.el
  refine ⟨_,rfl, .inl ⟨rfl,_,ba.of jq⟩,?_⟩
  walk_at "rd"
  refine ⟨p1,_,rfl, .inl (ba.of jq),b,_,rfl,iJ,by rw[aU];omega,by rw[aU];omega,fun r H3 Vo iU s4=>?_⟩
  rw[aU]at Vo
  have Jw:r<L.length:=by omega
  have TK:=s4 _ _ jq Cr
  have TL:=s4 _ _ j9 (hb.ne RJ)
  refine ⟨p1,_,_,r,_,rfl,rfl,TK,by omega,by omega,by rw[aU,seqIndex_of (by omega) (by omega),YR],DQ Jw,?_⟩
  rw[sI]
  have cT:Lt L[r]:= .inl (yw.sm _ (ZF Jw))
  have Qf:(upd H3 p1 (.lst (cI (L.eraseIdx r)))) pe=some (.lst (cI E)):=by rw[ar (Ne.symm Vn)];exact TL
  walk_at "rd"
  intro p3 n3
  have e3:pe≠p3:=au Qf n3
  refine ⟨pe,p3,_,_,rfl,rfl,by rw[ar e3];exact Qf,ag,by rw[aU];show E.length+2<=_;omega,fun p4 n4=>?_⟩
  have Vp:H p3=none:=((s3.trans s4).cU n1).none n3 (iU.cU Cr |>.ne n3)
  have Vq:=(iU.cU (o:= .lst (cI (L.eraseIdx r))) Cr).cU (o:= .lst [V.str (S [L[r]]),V.str (S [az L[r]])]) (hb.ne Vp)
  have Vr:=((s3.trans s4).cU (o:= .lst (cI (L.eraseIdx r))) n1).cU (o:= .lst [V.str (S [L[r]]),V.str (S [az L[r]])]) Vp
  have TM:H p4=none:=Vr.none n4 (Vq.ne n4)
  have Vs:p1≠p4:=fun z=>by rw[<-z]at n4;by_cases z3:p1=p3<;>simp[upd,z3]at n4
  have N1:p1≠p3:=fun z=>by rw[<-z,ag]at n3;cases n3
  refine TH _ _ ⟨p4,L.eraseIdx r,E++[L[r],az L[r]],_,_,rfl,yw.turn Jm Jw,by rw[ar Vs,ar N1,ag],?_,Vs,TM,Vq.cU (hb.ne TM),Vr.cU TM⟩
  rw[ag, <-Hi]
  rfl
 ·rintro σ H2 ⟨pe,L,E,kv,lv,rfl,yw,jq,j9,Vn,RJ,iJ,s3⟩
  have ME:=yw.el
  have FP:=hb.ne RJ
  walk_at "rd"
  refine ⟨fun m σ H'=> ∃F E':List Nat,σ=[some (.ref b),some (.int xN),some (.int top),some (.ref p1),some (.ref pe),kv,lv,some (.str (S F))]/\m=E'.length/\(F++E').Perm E/\H' pe=some (.lst (cI E'))/\bG H' b/\aN b H H',⟨_,[],E,rfl,rfl,Qb3 _,j9,iJ,s3⟩,?_⟩
  rintro m σ H3 ⟨F,E',rfl,rfl,j8,Ii,iU,s4⟩
  have hlen:=j8.length_eq
  rw[UO]at hlen
  have vP:(xN:Int)+n<=9:=by omega
  have Xz:E.length<=100:=by rw[ME];omega
  walk_at "rd"
  refine ⟨pe,_,rfl, .inl (ba.of Ii),_,_,rfl,rfl,_,rfl,bJ (fun e=>?_) (fun e=>?_)⟩
  ·have e':(0:Int)<((cI E').length:Nat):=of_decide_eq_true e
   rw[aU]at e'
   refine ⟨_,rfl,_,rfl, .inl ⟨rfl,_,ba.of Ii⟩,?_⟩
   walk_at "rd"
   refine ⟨pe,_,rfl, .inl (ba.of Ii),b,_,rfl,iU,by rw[aU];omega,by rw[aU];omega,fun r H4 Jw qQ s5=>?_⟩
   rw[aU]at Jw
   have Gr:r<E'.length:=by omega
   refine ⟨pe,_,_,r,_,rfl,rfl,s5 _ _ Ii FP,by omega,by omega,by rw[aU,seqIndex_of (by omega) (by omega),YR],DQ Gr,?_⟩
   rw[sI]
   have hp:=fN (Kq Gr)
   have iQ:=hp.length_eq
   rw[Zv]at iQ
   refine ⟨F,_,rfl,rfl,by show F.length+1<=_;omega,(E'.eraseIdx r).length,by omega,F++[E'[r]],E'.eraseIdx r,rfl,rfl,?_,ag,qQ.cU FP,(s4.trans s5).cU RJ⟩
   rw[Qaj]
   exact (Qcw F hp).trans j8
  ·have e':E'=[]:=by
    cases E' with
    | nil=>rfl
    | cons c r=>exact absurd (decide_eq_true (by rw[aU];show (0:Int)<((r.length+1:Nat):Int);omega)) e
   subst e'
   rw[Zy]at j8
   have zR:=j8.length_eq
   refine ⟨_,rfl,q F H3 (yw.yd.perm j8.symm) ?_ ?_ iU s4⟩
   ·rw[zR,ME];omega
   ·rw[zR,ME];omega
theorem jD:br P w K mg base eG 1 f2 d2 ["yard"] (wN K):=by
 refine T.F2.fn.ok Fs (fun vs H Q E h=>BW h) (fun cu A outer s H vs Q E hr h=>?_)
 refine ⟨_,(ai (aE (bK K rfl Zm Qat Qas (gK K rfl) (lp [] (by decide+kernel)) (aa (aB (lA K rfl) rfl T.z_sorted boot_sorted (aa (bV ["letter"] [none] (i9 (pv 0)) trivial (fun _ _ _ _=>(aI (i:=0) (by decide+kernel:List.Nodup (["letter"]:List Str)) rfl (Or.inl rfl))) (fun _ _ _ _=>(pj (g8 (eW K rfl Zm Qca Qb9 kE (pv 0))))) (fun _ _ _ _=>(pv 0))) ab)) ab)))),?_⟩
 obtain ⟨l,rfl,hl,hz,q⟩:=h
 have hs:(1000:Nat)<sizeLine:=by decide
 refine ⟨rfl,_,rfl,l,rfl,?_⟩
 refine d_ (xs:=cI l) (fun i acc H'=>ak H H'/\acc=cI ((l.take i).filter aA)) (by rw[aU];omega) ⟨ak.refl H,rfl⟩ ?_ ?_
 ·rintro i x acc H1 Nx hi hx nP ⟨s1,rfl⟩ nx
  obtain ⟨c,hc,rfl⟩:=dz hx
  have e:=nI (p:=aA) hc
  refine ⟨trivial,?_⟩
  refine ⟨_,rfl,rfl,c,rfl,rfl,hl c (UQ hc),_,rfl,?_⟩
  refine bJ (fun z=>?_) (fun z=>?_)
  ·rw[if_pos z]at e
   exact ⟨_,rfl,nx _ _ (by simpa using nP) ⟨s1,by rw[e, <-du]⟩⟩
  ·rw[if_neg z,Zy]at e
   exact nx _ _ (Qb5 nP) ⟨s1,by rw[e]⟩
 ·rintro acc H1 D nP ⟨s1,rfl⟩ hD
  rw[jc,dN]
  have XA:(l.filter aA).length<=l.length:=Qa9 _ _
  refine ⟨D,(l.filter aA).map fun c=>[c],rfl,ba.of ag,by rw[QW];omega,fun p ls hp j8 LW=>?_⟩
  obtain ⟨l',rfl,pl⟩:=zZ j8
  have iW:=pl.length_eq
  refine ⟨p,l'.map fun c=>[c],rfl,rfl,ba.of ag,by rw[yI];omega,?_⟩
  rw[pV]
  exact q l' _ pl (z9 LW) ((s1.trans (ak.upd hD)).trans (ak.upd hp))
theorem rF:br P w K mg base eG 2 MF Nj ["yard","drawing","end"] (ki K):=by
 have fJ:=jD (P:=P) (w:=w) (base:=base) T
 refine T.Ri.fn.ok ky (fun vs H Q E h=>qd h) (fun cu A outer s H vs Q E hr h=>?_)
 refine ⟨_,(ae (ao (i:=3) ky.nd rfl (Or.inl rfl) (bM (ke K rfl) rfl T.z_list boot_list (aa (aM (aV K rfl) (aM (aV K rfl) (pv 1) ah (fun _ _=>rfl)) (bK K rfl Zm Qcj Qch mF (aj fJ (hr.mono (by decide)) rfl T.F2.mg T.F2.fn.kp T.F2.bd .nil ay (aa (pv 0) ab)) (aa (eW K rfl Zm Qci Qcg pE (pv 2)) ab)) (fun _ _=>rfl)) ab)))
   (ae (bT (g8 (eW K rfl Zm PySem.F.slot_str_isupper PySem.F.type_str_isupper yr (pv 2))) (ai (cR (eW K rfl Zr PySem.F.slot_list_reverse PySem.F.type_list_reverse yk (pv 3)))) bf)
   (ai (aE (pv 3))))),?_⟩
 obtain ⟨y,dr,ws,os,e,rfl,hy,hz,he,ho,hd,q⟩:=h
 have hs:(100000:Nat)<sizeLine:=by decide
 have xD: ∀c∈y,c<128:=wI hy.lt
 have Vt:=xD e he
 obtain ⟨⟨wt,ot,d1,d2,d3⟩,dO⟩:=hd
 obtain ⟨o,o1,o2,o3⟩:=jn hy he ho
 refine ⟨_,rfl,dr,_,1,_,rfl,rfl,bY.of d1,rfl,?_⟩
 refine ⟨_,rfl,y,rfl,xD,by omega,fun l' H1 iW TN s1=>?_⟩
 have el:=jN iW TN
 subst el
 refine ⟨rfl,_,rfl,rfl,e,rfl,rfl,Vt,?_⟩
 refine ⟨aR y,_,rfl,rfl,wY hy he,?_⟩
 refine ⟨ot,_,_,_,rfl,rfl,bY.of (s1 _ _ d3),b8 (Lp o2),?_⟩
 refine ⟨o.o,_,rfl, .inr (bY.of (s1 _ _ (dO o o1).tp)),fun p1 n1=>?_⟩
 refine ⟨_,rfl,rfl,e,rfl,rfl,Vt,_,rfl,bJ (fun z=>?_) (fun z=>?_)⟩
 ·refine ⟨_,rfl, .inl ⟨rfl,_,ba.of ag⟩,p1,_,rfl,rfl,ag,?_⟩
  refine ⟨_,rfl,q p1 _ (ak.free s1 n1) ?_ ?_⟩
  ·rw[ag,Hz]
   unfold j5
   rw[if_pos z,o3]
  ·exact fun a u ea=>by rw[ar (au ea (ak.free s1 n1)),ar (au ea (ak.free s1 n1))];exact s1 a u ea
 ·refine ⟨_,rfl,q p1 _ (ak.free s1 n1) ?_ (s1.trans (ak.upd n1))⟩
  rw[ag]
  unfold j5
  rw[if_neg z,o3]
theorem Cs:br P w K mg base eG 3 MG Nk ["yard","drawing"] (sY K):=by
 have vf:=rF (P:=P) (w:=w) (base:=base) T
 refine T.Rj.fn.ok jV (fun vs H Q E h=>y7 h) (fun cu A outer s H vs Q E hr h=>?_)
 refine ⟨_,(ae (ao (i:=2) jV.nd rfl (Or.inl rfl) (dj ab))
   (ae (b5 PassesOwn.never rfl (i9 (pv 0)) (aI (i:=3) jV.nd rfl (Or.inl rfl)) (ai (b5 PassesOwn.never rfl (eh K rfl (aj vf (hr.mono (by decide)) rfl T.Ri.mg T.Ri.fn.kp T.Ri.bd .nil ay (aa (pv 0) (aa (pv 1) (aa (pv 3) ab))))) (aI (i:=4) jV.nd rfl (Or.inl rfl)) (ai (cR (bK K rfl Zr ZZ ZY c_ (pv 2) (aa (cO (aa (aM (aV K rfl) (pv 4) ah (fun _ _=>rfl)) (aa (aM (aV K rfl) (pv 4) ah (fun _ _=>rfl)) (aa (pv 3) ab)))) ab)))))))
   (ai (aE (pv 2))))),?_⟩
 obtain ⟨y,dr,ws,os,rfl,hy,hz,ho,hd,q⟩:=h
 have hs:(100000:Nat)<sizeLine:=by decide
 walk_at "wk"
 intro p1 n1
 refine ⟨_,rfl,y,rfl,?_⟩
 refine zU (xs:=cI y) (fun i σ H'=> ∃(ps:List Pt) (ev sv:Option V),σ=[some (.str (S y)),some (.ref dr),some (.ref p1),ev,sv]/\H' p1=some (.lst (Gf ps))/\(∀p∈ps,rB H' p/\p.t≠p1)/\ps.map Pt.is=(y.take i).flatMap (cX y os)/\ps.length<=100*i/\aN p1 H H') ⟨[],none,none,rfl,ag,fun _ h=>absurd h Zl,rfl,Zg _,aN.of (ak.upd n1)⟩ ?_ ?_
 ·rintro i x σ H1 hx ⟨ps,ev,sv,rfl,hp,vC,j9,iQ,s1⟩
  obtain ⟨e,he,rfl⟩:=dz hx
  have Gg:=UQ he
  have hi:i<y.length:=(Kr.mp he).1
  have Gs:ak H H1:=fun a u ea=>s1 a u ea (au ea n1)
  refine ⟨_,rfl,_,rfl,_,rfl,y,dr,ws,os,e,rfl,hy,hz,Gg,ho,hd.same Gs,fun p2 H2 n2 kS s2=>?_⟩
  have Qg:=HC (H:=H) hy Gg ho hd.od
  refine ⟨p2,rfl,⟨_,ba.of kS⟩,?_⟩
  have XB:p2≠p1:=fun z=>by rw[z,hp]at n2;cases n2
  refine gI (K:=K) (a:=p2) (xs:=kh (j5 y os e)) (fun j σ H'=> ∃(us:List Pt) (sv:Option V),σ=[some (.str (S y)),some (.ref dr),some (.ref p1),some (.str (S [e])),sv]/\H' p1=some (.lst (Gf us))/\H' p2=some (.lst (kh (j5 y os e)))/\(∀p∈us,rB H' p/\p.t≠p1)/\us.map Pt.is=ps.map Pt.is++((j5 y os e).take j).map (fun p=>(p.c,p.i,e))/\us.length<=100*i+j/\aN p1 H1 H')
   ⟨ps,sv,rfl,s2 _ _ hp,kS,fun p yQ=>⟨(vC p yQ).1.same s2,(vC p yQ).2⟩,by simp,by omega,aN.of s2⟩ (fun j σ H' _ ⟨_,_,_,_,h,_⟩=>ba.of h) ?_ ?_
  ·rintro j x σ H3 TQ ⟨us,XC,rfl,xE,Qh,Qi,Ct,Gu,s3⟩
   obtain ⟨p,TR,rfl⟩:=Et TQ
   obtain ⟨o,oo,po⟩:=HB hy Gg ho (UQ TR)
   have hj:j<(j5 y os e).length:=(Kr.mp TR).1
   have Cu:ak H H3:=fun a u ea=>s3 a u (Gs a u ea) (au ea n1)
   have pk:=(hd.od o oo).pr p po
   have tp:=Cu _ _ pk.tp
   refine ⟨_,rfl, .inl ⟨rfl,_,ba.of xE⟩,?_⟩
   refine ⟨_,rfl,p.t,_,0,_,rfl,rfl,bY.of tp,rfl,_,rfl,p.t,_,1,_,rfl,rfl,bY.of tp,rfl,?_⟩
   walk_at "wk"
   intro t nt
   have A1:t≠p1:=fun z=>by rw[z,xE]at nt;cases nt
   refine ⟨p1,_,_,rfl,rfl,(ak.upd nt) _ _ xE,by rw[AB];omega,?_⟩
   refine ⟨us++[⟨t,p.c,p.i,e⟩],_,rfl,by rw[ag];exact congrArg (fun x=>some (HO.lst x)) (Eu us ⟨t,p.c,p.i,e⟩),by rw[ar XB];exact (ak.upd nt) _ _ Qh,fun r hr=>?_,?_,by rw[UO];show us.length+1<=_;omega,fun a u ea z=>by rw[ar z];exact (ak.upd nt) _ _ (s3 a u ea z)⟩
   ·rcases Zh.mp hr with z | z
    ·exact ⟨((Qi r z).1.same (ak.upd nt)).upd (Qi r z).2,(Qi r z).2⟩
    ·have e2:=Wv.mp z
     subst e2
     exact ⟨rB.upd ⟨ag,pk.cz,pk.iz,(hy.lt e Gg).lt⟩ A1,A1⟩
   ·rw[Wx,Ct, <-take_snoc TR,Wx,Qaj]
    rfl
  ·rintro σ H3 ⟨us,XC,rfl,xE,Qh,Qi,Ct,Gu,s3⟩
   rw[jO]at Gu Ct
   refine ⟨us,_,_,rfl,xE,Qi,?_,by omega,fun a u ea z=>s3 a u (s1 a u ea z) z⟩
   rw[Ct,j9, <-take_snoc he,Z1,ZX,ZC,Qdj,Zy]
   rfl
 ·rintro σ H1 ⟨ps,ev,sv,rfl,hp,vC,j9,iQ,s1⟩
  rw[aU]at iQ j9
  rw[ZX]at j9
  exact ⟨_,rfl,q p1 ps H1 n1 hp vC j9 (by omega) (fun a u ea=>s1 a u ea (au ea n1))⟩
theorem cZ:br P w K mg base eG 1 f0 d0 ["letter"] (nG K):=by
 refine T.F0.fn.ok xC (fun vs H Q E h=>uh h) (fun cu A outer s H vs Q E hr h=>?_)
 refine ⟨_,(ae (bT (g8 (eW K rfl Zm Qca Qb9 kE (pv 0))) (ai (aE (eW K rfl Zm PySem.F.slot_str_upper PySem.F.type_str_upper Dj (pv 0)))) bf)
   (ai (aE (eW K rfl Zm Qci Qcg pE (pv 0))))),?_⟩
 obtain ⟨c,rfl,hc,q⟩:=h
 refine ⟨_,rfl,rfl,c,rfl,rfl,hc,_,rfl,bJ (fun e=>?_) (fun e=>?_)⟩
 ·refine ⟨_,rfl,rfl,c,rfl,rfl,hc,?_⟩
  have z:az c=PyProof.Rows.up1 c:=if_pos e
  rw[<-z]
  exact q
 ·refine ⟨_,rfl,rfl,c,rfl,rfl,hc,?_⟩
  have z:az c=PyProof.Rows.lo1 c:=if_neg e
  rw[<-z]
  exact q
theorem qR:br P w K mg base eG 2 MO Nu ["word","place"] (jj K):=by
 have bE:=cZ (P:=P) (w:=w) (base:=base) T
 refine T.Rp.fn.ok qM (fun vs H Q E h=>nZ h) (fun cu A outer s H vs Q E hr h=>?_)
 refine ⟨_,(ai (aE (cO (aa (aj bE (hr.mono (by decide)) rfl T.F0.mg T.F0.fn.kp T.F0.bd .nil ay (aa (aM hU (pv 0) (aC cj (pv 1) ah) (fun _ _=>rfl)) ab)) (aa (aM hU (pv 0) (pv 1) (fun _ _=>rfl)) ab))))),?_⟩
 obtain ⟨w,i,rfl,hl,hz,hi,q⟩:=h
 have hs:(100000:Nat)<sizeLine:=by decide
 have dR:w≠[]:=fun z=>by rw[z]at hi;simp at hi
 refine ⟨_,rfl,_,rfl,_,_,rfl,rfl,w,_,_,rfl,rfl,by omega,lI (by omega) (by omega),_,rfl,(hl _ (jg dR _)).lt,?_⟩
 refine ⟨_,rfl,_,rfl,w,_,_,rfl,rfl,by omega,lI (by omega) (by omega),by show 2<=sizeLine;decide,fun t nt=>?_⟩
 exact q t _ nt ag (ak.upd nt)
theorem jE:br P w K mg base eG 1 f3 d3 ["yard","start","end"] (jf K):=by
 refine T.F3.fn.ok qL (fun vs H Q E h=>nY h) (fun cu A outer s H vs Q E hr h=>?_)
 refine ⟨_,(ai (aE (aC dE (aC cj (bK K rfl Zm PySem.F.slot_str_find PySem.F.type_str_find vZ (pv 0) (aa (pv 2) ab)) (bK K rfl Zm PySem.F.slot_str_find PySem.F.type_str_find vZ (pv 0) (aa (pv 1) ab))) (aB aT rfl T.z_len Zf (aa (pv 0) ab))))),?_⟩
 obtain ⟨y,a,b,rfl,ha,hb,hz,q⟩:=h
 have hs:(1000:Nat)<sizeLine:=by decide
 have hp:(0:Int)<(y.length:Int):=by have:=Qco ha;omega
 refine ⟨_,rfl,rfl,_,rfl,y,b,rfl,rfl,?_⟩
 rw[if_pos hb]
 refine ⟨_,rfl,rfl,_,rfl,y,a,rfl,rfl,?_⟩
 rw[if_pos ha]
 exact ⟨_,_,rfl,rfl,_,rfl,y,rfl,by omega,_,_,rfl,rfl,hp,q⟩
theorem om:br P w K mg base eG 3 MT NA ["yard","word","place"] (iN K):=by
 have rG:=qR (P:=P) (w:=w) (base:=base) T
 have e_:=jE (P:=P) (w:=w) (base:=base) T
 refine T.Ru.fn.ok iP (fun vs H Q E h=>mU h) (fun cu A outer s H vs Q E hr h=>?_)
 refine ⟨_,(ae (ao (i:=3) iP.nd rfl (Or.inl rfl) (aj rG (hr.mono (by decide)) rfl T.Rp.mg T.Rp.fn.kp T.Rp.bd .nil ay (aa (pv 1) (aa (pv 2) ab))))
   (ai (aE (aj e_ (hr.mono (by decide)) rfl T.F3.mg T.F3.fn.kp T.F3.bd .nil ay (aa (pv 0) (aa (aM (aV K rfl) (pv 3) ah (fun _ _=>rfl)) (aa (aM (aV K rfl) (pv 3) ah (fun _ _=>rfl)) ab))))))),?_⟩
 obtain ⟨y,w,i,rfl,hy,hz,hw,oZ,hi,q⟩:=h
 refine ⟨_,rfl,_,rfl,w,i,rfl,fun c hc=>hy.lt c (hw.bO c hc),oZ,hi,fun p H1 np hp s1=>?_⟩
 refine ⟨_,rfl,_,rfl,p,_,0,_,rfl,rfl,bY.of hp,rfl,_,rfl,p,_,1,_,rfl,rfl,bY.of hp,rfl,y,_,_,rfl,hy.cl _ (hw.rd _),hw.rd _,by omega,?_⟩
 have rg:=eN (hy.cl _ (hw.rd ((i:Int) - 1))) (hw.rd i) (Ne.symm (hw.red i))
 obtain ⟨n,hn⟩: ∃n:Nat,cst y w i=n:=⟨(cst y w i).toNat,by have:=rg.1;unfold cst;omega⟩
 have:=rg.2.1
 have e:wR y (az (rd w ((i:Int) - 1))) (rd w i)=n:=hn
 have key:=q n H1 hn (by omega) s1
 rw[<-e]at key
 exact key
theorem tH:br P w K mg base eG 2 M9 NS ["_law_box_here","_law_yard_here","_law_top"] (sQ K):=by
 have bL:=gZ (P:=P) (w:=w) (base:=base) T
 have cf:=fK (P:=P) (w:=w) (base:=base) T
 refine T.Gq.fn.ok cN (fun vs H Q E h=>yO h) (fun cu A outer s H vs Q E hr h=>?_)
 refine ⟨_,(ae (ao (i:=3) cN.nd rfl (Or.inl rfl) (aC bc ah (aj bL (hr.mono (by decide)) rfl T.fq.mg T.fq.fn.kp T.fq.bd .nil ay (aa (pv 0) (aa (pv 2) ab)))))
   (ae (ao (i:=4) cN.nd rfl (Or.inl rfl) (aj bL (hr.mono (by decide)) rfl T.fq.mg T.fq.fn.kp T.fq.bd .nil ay (aa (pv 0) (aa ah ab))))
   (ae (ao (i:=5) cN.nd rfl (Or.inl rfl) (lp [] (by decide+kernel)))
   (jH (da PassesOwn.never (aG gJ (aB aT rfl T.z_len Zf (aa (pv 5) ab)) (pv 3) (aK _)) (ae (ao (i:=6) cN.nd rfl (Or.inl rfl) (aM hU (pv 1) (aj bL (hr.mono (by decide)) rfl T.fq.mg T.fq.fn.kp T.fq.bd .nil ay (aa (pv 0) (aa (aB aT rfl T.z_len Zf (aa (pv 1) ab)) ab))) (fun _ _=>rfl)))
   (jH (bT (PW.pt (kD (aG gz (pv 4) ah (aK _)) (kD (aG nz (aB aT rfl T.z_len Zf (aa (pv 5) ab)) ah (aK _)) (jG (aG gJ (aB aT rfl T.z_len Zf (aa (pv 5) ab)) ah (aK _)))))) (ai (ao (i:=6) cN.nd rfl (Or.inl rfl) (aM hU (pv 5) (aC dE (aB aT rfl T.z_len Zf (aa (pv 5) ab)) ah) (fun _ _=>rfl)))) bf)
   (ai (bT (PW.pt (zK (aG hV (pv 5) (lp [] (by decide+kernel)) (aK _)) (xV (aG Kz (pv 6) (aj cf (hr.mono (by decide)) rfl T.ml.mg T.ml.fn.kp T.ml.bd .nil ay (aa (aM hU (pv 5) (iF ft ah) (fun _ _=>rfl)) ab)) (aK _))))) (ai (ao (i:=5) cN.nd rfl (Or.inl rfl) (aC dZ (pv 5) (pv 6)))) (ai (ao (i:=5) cN.nd rfl (Or.inl rfl) (aC dZ (pv 5) (aM hU (pv 5) (iF ft ah) (fun _ _=>rfl))))))))))
   (jH (da PassesOwn.never (PW.pt (kD (aG nz (aB aT rfl T.z_len Zf (aa (pv 5) ab)) ah (aK _)) (jG (aG hV (aM hU (pv 5) ah (fun _ _=>rfl)) (aj cf (hr.mono (by decide)) rfl T.ml.mg T.ml.fn.kp T.ml.bd .nil ay (aa (aM hU (pv 5) (iF ft ah) (fun _ _=>rfl)) ab)) (aK _))))) (ai (ao (i:=5) cN.nd rfl (Or.inl rfl) (bA j4 (pv 5) cB (bz (iF ft ah))))))
   (jH (bT (PW.pt (kD (aG gz (pv 4) ah (aK _)) (jG (aG IL (aC gw (aB aT rfl T.z_len Zf (aa (pv 5) ab)) ah) (pv 2) (aK _))))) (ai (ao (i:=5) cN.nd rfl (Or.inl rfl) (aC dZ (pv 5) (pv 5)))) bf)
   (ai (aE (pv 5))))))))),?_⟩
 obtain ⟨b,y,top,rfl,hb,hy,Jx,CQ,A1,Ij,q⟩:=h
 have hs:(100000:Nat)<sizeLine:=by decide
 have Qj:y.length<=sizeLine:=by omega
 refine ⟨_,rfl,_,rfl,b,_,rfl,hb,by omega,by omega,fun n H1 hn wA s1=>?_⟩
 refine ⟨_,_,rfl,rfl,_,rfl,b,5,rfl,wA,by decide,by decide,fun fm H2 XD iJ s2=>?_⟩
 have YW:n+1<=top:=by omega
 have vD:=s1.trans s2
 walk_at "wk"
 refine ⟨fun σ' H'=> ∃(w:List Nat) (lv:Option V),σ'=[some (.ref b),some (.str (S y)),some (.int top),some (.int (1+(n:Int))),some (.int fm),some (.str (S w)),lv]/\Wd y w/\1<=w.length/\w.length<=n+1/\bG H' b/\aN b H H',?_,?_⟩
 ·refine ⟨fun k σ H'=> ∃(w:List Nat) (lv:Option V),σ=[some (.ref b),some (.str (S y)),some (.int top),some (.int (1+(n:Int))),some (.int fm),some (.str (S w)),lv]/\k=n+1 - w.length/\Wd y w/\w.length<=n+1/\bG H' b/\aN b H H',⟨_,[],none,rfl,rfl,⟨BX.nil,fun _ h=>absurd h Zl⟩,Zg _,iJ,vD⟩,?_⟩
  rintro k σ H3 ⟨w,lv,rfl,rfl,hw,oZ,iU,s3⟩
  have oq:w.length<=sizeLine:=by omega
  refine ⟨_,rfl,w,rfl,oq,_,rfl,_,_,rfl,rfl,_,rfl,bJ (fun z=>?_) (fun z=>?_)⟩
  ·have z1:(w.length:Int)<1+(n:Int):=of_decide_eq_true z
   refine ⟨_,rfl,_,rfl,_,rfl,y,rfl,Qj,b,_,rfl,iU,by omega,by omega,fun r H4 Jw qQ s4=>?_⟩
   have hr:r<y.length:=by omega
   refine ⟨y,_,_,rfl,rfl,Qj,b8 (Kq hr),?_⟩
   have sC:y[r]∈y:=ZF hr
   generalize y[r]=c at sC ⊢
   refine ⟨fun σ' H'=>H'=H4/\ ∃e,e∈y/\σ'=[some (.ref b),some (.str (S y)),some (.int top),some (.int (1+(n:Int))),some (.int fm),some (.str (S w)),some (.str (S [e]))],?_,?_⟩
   ·refine ⟨_,rfl,_,_,rfl,rfl,_,rfl,bJ (fun f1=>?_) (fun f1=>?_)⟩
    ·refine ⟨_,rfl,w,rfl,oq,_,_,rfl,rfl,_,rfl,bJ (fun f2=>?_) (fun f2=>?_)⟩
     ·have g2:(1:Int)<w.length:=of_decide_eq_true f2
      have dR:w≠[]:=fun g=>by rw[g]at g2;simp at g2
      refine ⟨_,rfl,w,rfl,oq,_,_,rfl,rfl,_,rfl,bJ (fun f3=>?_) (fun f3=>?_)⟩
      ·refine ⟨_,rfl,_,rfl,w,rfl,oq,_,_,rfl,rfl,by show (0:Int)<2;decide,w,_,_,rfl,rfl,oq,lI (by show -(w.length:Int)<=(w.length:Int)%2;omega) (by show (w.length:Int)%2<_;omega),?_⟩
       exact ⟨rfl,_,hw.bO _ (jg dR _),rfl⟩
      ·exact ⟨rfl,c,sC,rfl⟩
     ·refine Bv ?_
      exact ⟨rfl,c,sC,rfl⟩
    ·refine Bv ?_
     exact ⟨rfl,c,sC,rfl⟩
   rintro σ5 H5 ⟨rfl,e,Gg,rfl⟩
   have s5:=s3.trans s4
   refine ⟨_,rfl,w,[],rfl,rfl,_,rfl,bJ (fun f=>?_) (fun f=>?_)⟩
   ·have Q0:w=[]:=of_decide_eq_true f
    refine OW ?_
    refine ⟨_,rfl,_,rfl,w,[e],rfl,rfl,by show w.length+1<=_;omega,?_⟩
    exact ⟨n+1 - (w++[e]).length,by rw[UO];show n+1 - (w.length+1)<_;omega,w++[e],_,rfl,rfl,hw.more Gg fun g=>absurd Q0 g,by rw[UO];show w.length+1<=_;omega,qQ,s5⟩
   ·have dR:w≠[]:=fun g=>f (decide_eq_true g)
    have pU:0<w.length:=Ww.mpr dR
    have HF:rd w (-1)∈y:=hw.bO _ (jg dR _)
    have Gv:oG w (-1)=some (rd w (-1)):=lI (by omega) (by omega)
    refine ⟨_,rfl,_,rfl,_,rfl,w,_,_,rfl,rfl,oq,Gv,_,rfl,hy.lt _ HF,[e],_,rfl,rfl,_,rfl,bJ (fun f2=>?_) (fun f2=>?_)⟩
    ·have TU:e≠az (rd w (-1)):=fun g=>by rw[g]at f2;simp at f2
     refine ⟨_,rfl,_,rfl,w,[e],rfl,rfl,by show w.length+1<=_;omega,?_⟩
     exact ⟨n+1 - (w++[e]).length,by rw[UO];show n+1 - (w.length+1)<_;omega,w++[e],_,rfl,rfl,hw.more Gg fun _=>TU,by rw[UO];show w.length+1<=_;omega,qQ,s5⟩
    ·refine ⟨_,rfl,_,rfl,_,rfl,w,_,_,rfl,rfl,oq,Gv,w,[rd w (-1)],rfl,rfl,by show w.length+1<=_;omega,?_⟩
     exact ⟨n+1 - (w++[rd w (-1)]).length,by rw[UO];show n+1 - (w.length+1)<_;omega,w++[rd w (-1)],_,rfl,rfl,hw.more HF fun _ g=>dG (hy.lt _ HF) g.symm,by rw[UO];show w.length+1<=_;omega,qQ,s5⟩
  ·have z1: ¬(w.length:Int)<1+(n:Int):=fun g=>z (decide_eq_true g)
   exact ⟨w,lv,rfl,hw,by omega,oZ,iU,s3⟩
 rintro σ6 H3 ⟨w,lv,rfl,hw,N2,oZ,iU,s3⟩
 refine ⟨fun σ' H'=>H'=H3/\ ∃w:List Nat,σ'=[some (.ref b),some (.str (S y)),some (.int top),some (.int (1+(n:Int))),some (.int fm),some (.str (S w)),lv]/\SW y w/\w.length<=n+1,?_,?_⟩
 ·refine ⟨fun k σ H'=>H'=H3/\ ∃w:List Nat,σ=[some (.ref b),some (.str (S y)),some (.int top),some (.int (1+(n:Int))),some (.int fm),some (.str (S w)),lv]/\k=w.length/\Wd y w/\1<=w.length/\w.length<=n+1,⟨_,rfl,w,rfl,rfl,hw,N2,oZ⟩,?_⟩
  clear hw oZ N2 w
  rintro k σ H4 ⟨rfl,w,rfl,rfl,hw,N2,oZ⟩
  have oq:w.length<=sizeLine:=by omega
  have dR:w≠[]:=fun g=>by rw[g]at N2;simp at N2
  have HF: ∀k,rd w k∈y:=fun k=>hw.bO _ (jg dR k)
  refine ⟨_,rfl,w,rfl,oq,_,_,rfl,rfl,_,rfl,bJ (fun f=>?_) (fun f=>?_)⟩
  ·have g1:(1:Int)<w.length:=of_decide_eq_true f
   have Gv:oG w (-1)=some (rd w (-1)):=lI (by omega) (by omega)
   refine ⟨_,rfl,w,_,_,rfl,rfl,oq,lI (k:=0) (by omega) (by omega),_,rfl,_,rfl,w,_,_,rfl,rfl,oq,Gv,_,rfl,hy.lt _ (HF _),[rd w 0],_,rfl,rfl,_,rfl,bJ (fun f2=>?_) (fun f2=>?_)⟩
   ·refine ⟨_,rfl,_,rfl,_,rfl,w,rfl,oq,?_⟩
    rw[D8]
    exact ⟨(w.take (w.length - 1)).length,by rw[Zi];omega,rfl,w.take (w.length - 1),rfl,rfl,⟨hw.Gd.take _,fun c hc=>hw.bO c (Qao hc)⟩,by rw[Zi];omega,by rw[Zi];omega⟩
   ·have TU:rd w 0≠az (rd w (-1)):=fun g=>f2 (by simp[g])
    exact ⟨rfl,w,rfl,hw.sw dR TU,oZ⟩
  ·have g1: ¬(1:Int)<w.length:=fun g=>f (decide_eq_true g)
   refine Bv ?_
   exact ⟨rfl,w,rfl,hw.one hy (by omega),oZ⟩
 rintro σ7 H7 ⟨rfl,w7,rfl,sw,XE⟩
 clear hw N2 oZ w
 refine ⟨fun σ' H'=>H'=H7/\ ∃w:List Nat,σ'=[some (.ref b),some (.str (S y)),some (.int top),some (.int (1+(n:Int))),some (.int fm),some (.str (S w)),lv]/\SW y w/\w.length<=top,?_,?_⟩
 ·refine ⟨_,rfl,_,_,rfl,rfl,_,rfl,bJ (fun f=>?_) (fun f=>?_)⟩
  ·refine ⟨_,rfl,w7,rfl,by omega,_,_,rfl,rfl, .inl ⟨by omega,by omega⟩,_,rfl,_,_,rfl,rfl,_,rfl,bJ (fun f2=>?_) (fun f2=>?_)⟩
   ·have g2:(w7.length:Int)*2<=top:=of_decide_eq_true f2
    refine ⟨_,rfl,_,rfl,w7,w7,rfl,rfl,by omega,?_⟩
    exact ⟨rfl,_,rfl,sw.twice,by rw[UO];omega⟩
   ·exact ⟨rfl,_,rfl,sw,by omega⟩
  ·refine Bv ?_
   exact ⟨rfl,_,rfl,sw,by omega⟩
 rintro σ8 H8 ⟨rfl,w8,rfl,XF,TV⟩
 exact ⟨_,rfl,q w8 _ XF TV iU s3⟩
theorem Fy:br P w K mg base eG 3 M_ NT ["_law_box_here","_law_yard_here","_law_word","_law_top"] (wQ K):=by
 have bL:=gZ (P:=P) (w:=w) (base:=base) T
 have cf:=fK (P:=P) (w:=w) (base:=base) T
 have me:=tH (P:=P) (w:=w) (base:=base) T
 refine T.RD.fn.ok jC (fun vs H Q E h=>B2 h) (fun cu A outer s H vs Q E hr h=>?_)
 refine ⟨_,(ae (ao (i:=4) jC.nd rfl (Or.inl rfl) (aj bL (hr.mono (by decide)) rfl T.fq.mg T.fq.fn.kp T.fq.bd .nil ay (aa (pv 0) (aa ah ab))))
   (ae (ao (i:=5) jC.nd rfl (Or.inl rfl) (aj bL (hr.mono (by decide)) rfl T.fq.mg T.fq.fn.kp T.fq.bd .nil ay (aa (pv 0) (aa (aB aT rfl T.z_len Zf (aa (pv 2) ab)) ab))))
   (ae (bT (aG gz (pv 4) ah (aK _)) (ai (aE (aC dZ (bA j4 (pv 2) (bz (pv 5)) cB) (bA j4 (pv 2) cB (bz (pv 5)))))) bf)
   (ae (bT (aG gz (pv 4) ah (aK _)) (ai (aE (bK K rfl Zm Qat Qas (gK K rfl) (lp [] (by decide+kernel)) (aa (bV ["_law_letter"] [none] (yv rfl T.z_reversed (aa (pv 2) ab)) trivial (fun _ _ _ _=>(aI (i:=0) (by decide+kernel:List.Nodup (["_law_letter"]:List Str)) rfl (Or.inl rfl))) (fun _ _ _ _=>fz) (fun _ _ _ _=>(aj cf (hr.mono (by decide)) rfl T.ml.mg T.ml.fn.kp T.ml.bd .nil ay (aa (pv 0) ab)))) ab)))) bf)
   (ae (bT (aG gz (pv 4) ah (aK _)) (ae (ao (i:=6) jC.nd rfl (Or.inl rfl) (aM hU (pv 1) (aj bL (hr.mono (by decide)) rfl T.fq.mg T.fq.fn.kp T.fq.bd .nil ay (aa (pv 0) (aa (aB aT rfl T.z_len Zf (aa (pv 1) ab)) ab))) (fun _ _=>rfl)))
   (ae (ao (i:=7) jC.nd rfl (Or.inl rfl) (aC dZ (bA j4 (pv 2) cB (bz (pv 5))) (pv 6)))
   (ai (bT (aG (G3 K rfl) (pv 6) (dj (aa (aj cf (hr.mono (by decide)) rfl T.ml.mg T.ml.fn.kp T.ml.bd .nil ay (aa (aM hU (pv 7) ah (fun _ _=>rfl)) ab)) (aa (aj cf (hr.mono (by decide)) rfl T.ml.mg T.ml.fn.kp T.ml.bd .nil ay (aa (aM hU (bA j4 (pv 7) (bz (iF ft ah)) cB) ah (fun _ _=>rfl)) ab)) ab))) (by with_unfolding_all rfl)) (ai (aE (pv 7))) bf)))) bf)
   (ai (aE (aj me (hr.mono (by decide)) rfl T.Gq.mg T.Gq.fn.kp T.Gq.bd .nil ay (aa (pv 0) (aa (pv 1) (aa (pv 3) ab))))))))))),?_⟩
 obtain ⟨b,y,w,top,rfl,hb,hy,Jx,CQ,A1,Ij,sw,tI,q⟩:=h
 have hs:(100000:Nat)<sizeLine:=by decide
 have Qj:y.length<=sizeLine:=by omega
 have oZ:w.length<=sizeLine:=by omega
 have pU:0<w.length:=Ww.mpr sw.ne
 have lw: ∀c∈w,Lt c:=fun c hc=>hy.lt c (sw.bO c hc)
 refine ⟨_,rfl,b,5,rfl,hb,by decide,by decide,fun fm H1 XD wA s1=>?_⟩
 refine ⟨_,rfl,_,rfl,w,rfl,oZ,b,_,rfl,wA,by omega,by omega,fun at' H2 XG iJ s2=>?_⟩
 have vD:=s1.trans s2
 have XH:at'<w.length:=by omega
 refine ⟨_,rfl,_,_,rfl,rfl,_,rfl,bJ (fun f0=>?_) (fun f0=>?_)⟩
 ·have hlen:(cut w (some (at':Int)) none).length+(cut w none (some (at':Int))).length<=sizeLine:=by rw[cV,eA,Zs,Zi];omega
  have LX:cut w (some (at':Int)) none++cut w none (some (at':Int))=w.drop at'++w.take at':=by rw[cV,eA]
  refine ⟨_,rfl,_,rfl,_,rfl,w,rfl,oZ,_,rfl,_,rfl,_,rfl,w,rfl,oZ,_,_,rfl,rfl,hlen,?_⟩
  rw[LX]
  exact q _ _ (sw.g7 (by omega)) (by rw[UO,Zs,Zi];omega) iJ vD
 ·refine ⟨_,rfl,_,_,rfl,rfl,_,rfl,bJ (fun f1=>?_) (fun f1=>?_)⟩
  ·refine ⟨rfl,_,rfl,w,rfl,by omega,?_⟩
   rw[ui]
   refine d_ (xs:=cI w.reverse) (fun i acc H'=>ak H2 H'/\acc=cI ((w.reverse.take i).map az)) (by rw[aU,Zz];omega) ⟨ak.refl H2,rfl⟩ ?_ ?_
   ·rintro i x acc H3 Nx hi hx hl ⟨s3,rfl⟩ nx
    obtain ⟨c,oE,rfl⟩:=dz hx
    refine ⟨trivial,dB ⟨_,rfl,c,rfl,lw c (Qbr.mp (UQ oE)),nx _ _ (by simpa using hl) ⟨s3,?_⟩⟩⟩
    rw[du, <-take_snoc oE,Wx]
    rfl
   ·rintro acc H3 D hl ⟨s3,rfl⟩ hD
    refine ⟨D,(eX w).map fun c=>[c],rfl,rfl,ba.of ?_,?_,?_⟩
    ·rw[ag, <-dN,aU,Zq (UP _),Qaz]
     rfl
    ·rw[yI]
     unfold eX
     rw[Zz,QW]
     omega
    ·rw[pV]
     exact q _ _ (sw.eX hy) (by rw[b_];omega) ((iJ.same s3).same (ak.upd hD)) (vD.after (s3.trans (ak.upd hD)))
  ·refine ⟨_,rfl,_,_,rfl,rfl,_,rfl,bJ (fun f2=>?_) (fun f2=>?_)⟩
   ·refine ⟨_,rfl,_,rfl,_,rfl,y,rfl,Qj,b,_,rfl,iJ,by omega,by omega,fun r H3 Vo iU s3=>?_⟩
    have Cu:=vD.trans s3
    have hr:r<y.length:=by omega
    refine ⟨y,_,_,rfl,rfl,Qj,b8 (Kq hr),?_⟩
    have sC:y[r]∈y:=ZF hr
    generalize y[r]=c at sC ⊢
    have YX:=hy.lt c sC
    have hlen:(cut w none (some (at':Int))).length+[c].length<=sizeLine:=by rw[cV,Zi];show _+1<=_;omega
    refine ⟨_,rfl,_,rfl,_,rfl,w,rfl,oZ,_,rfl,_,_,rfl,rfl,hlen,?_⟩
    rw[cV]
    have Gu:(w.take at').length=at':=by rw[Zi];omega
    have Qk:=sw.Gd.take at'
    have LY: ∀a∈w.take at',a∈y:=fun a ha=>sw.bO a (Qao ha)
    generalize w.take at'=u at Gu Qk LY ⊢
    have Qg:(u++[c]).length=at'+1:=by rw[UO,Gu];rfl
    have Ql:u++[c]≠[]:=by simp
    have Vu: ∀a∈u++[c],a∈y:=fun a ha=>(Zh.mp ha).elim (LY a) fun g=>by rw[Wv.mp g];exact sC
    have g0:oG (u++[c]) (0:Int)=some (rd (u++[c]) 0):=lI (by omega) (by omega)
    have TC:cut (u++[c]) (some (-2)) none=(u++[c]).drop (at'+1 - 2):=by rw[K_,Qg]
    have TX:((u++[c]).drop (at'+1 - 2)).length=at'+1 - (at'+1 - 2):=by rw[Zs,Qg]
    have Qm:(u++[c]).drop (at'+1 - 2)≠[]:=fun z=>by rw[z]at TX;simp at TX;omega
    have g2:oG ((u++[c]).drop (at'+1 - 2)) (0:Int)=some (rd ((u++[c]).drop (at'+1 - 2)) 0):=lI (by omega) (by omega)
    have Vv:=Vu _ (jg Ql 0)
    have Vw:=Vu _ (Qax (jg Qm 0))
    have e0: ∀a,u.head? =some a->rd (u++[c]) 0=a:=fun a ha=>by
     have h1:=oN Ql
     cases u with
     | nil=>cases ha
     | cons x r=>exact (Zc (h1.symm.trans (show (x::r++[c]).head? =some a from ha)))
    have e2: ∀a,u.getLast? =some a->rd ((u++[c]).drop (at'+1 - 2)) 0=a:=fun a ha=>by
     have h1:=oN Qm
     have Le:u≠[]:=fun z=>by rw[z]at ha;cases ha
     have jq:=Ww.mpr Le
     rw[Qcp, Qan,ZE (by omega)]at h1
     rw[Qbh, Gu]at ha
     rw[show at'+1 - 2+0=at' - 1 by omega]at h1
     exact Zc (h1.symm.trans ha)
    generalize rd (u++[c]) 0=x0 at g0 Vv e0
    generalize rd ((u++[c]).drop (at'+1 - 2)) 0=x2 at g2 Vw e2
    refine ⟨_,rfl,_,rfl,_,_,_,rfl,rfl,by omega,g0,_,rfl,hy.lt _ Vv,?_⟩
    refine ⟨_,rfl,_,rfl,_,rfl,u++[c],rfl,by omega,?_⟩
    rw[TC]
    refine ⟨_,_,_,rfl,rfl,by rw[TX];omega,g2,_,rfl,hy.lt _ Vw,by show 2<=sizeLine;decide,fun p np=>?_⟩
    have TY:=iU.ne np
    have Vx:=Cu.none np TY
    refine ⟨p,_,rfl, .inl (ba.of ag),rfl,rfl,?_⟩
    have iv:=z_ c (az x0) (az x2)
    rw[show (if true=true then !Kh (.str (S [c])) [.str (S [az x0]), .str (S [az x2])] else Kh (.str (S [c])) [.str (S [az x0]), .str (S [az x2])])=!(decide (c=az x0)||decide (c=az x2)) by rw[if_pos rfl,iv]]
    refine ⟨_,rfl,bJ (fun f3=>?_) (fun f3=>?_)⟩
    ·have hn:c≠az x0/\c≠az x2:=by simpa using f3
     refine ⟨_,rfl,q (u++[c]) _ (SW.snoc hy Qk LY sC (fun a ha=>by rw[<-e2 a ha];exact hn.2) fun a ha=>by rw[<-e0 a ha];exact hn.1) (by omega) (iU.cU TY) (Cu.cU Vx)⟩
    ·exact ⟨_,rfl,_,rfl,_,rfl,b,y,top,rfl,iU.cU TY,hy,Jx,CQ,A1,Ij,fun l H4 hl Gv qQ s4=>q l H4 hl Gv qQ ((Cu.cU Vx).trans s4)⟩
   ·exact ⟨_,rfl,_,rfl,_,rfl,b,y,top,rfl,iJ,hy,Jx,CQ,A1,Ij,fun l H3 hl Gv iU s3=>q l H3 hl Gv iU (vD.trans s3)⟩
theorem LZ:br P w K mg base eG 2 f5 d5 ["yard","word"] (Fc K):=by
 have fJ:=jD (P:=P) (w:=w) (base:=base) T
 have bE:=cZ (P:=P) (w:=w) (base:=base) T
 refine T.F5.fn.ok LV (fun vs H Q E h=>H_ h) (fun cu A outer s H vs Q E hr h=>?_)
 refine ⟨_,(ai (aE (bM (bo K rfl) rfl T.z_tuple boot_tuple (aa (bV ["band","word"] [none,some 1] (i9 (aj fJ (hr.mono (by decide)) rfl T.F2.mg T.F2.fn.kp T.F2.bd .nil ay (aa (pv 0) ab))) ⟨⟨rfl,rfl,by first | exact .inl rfl | exact .inr rfl⟩,trivial⟩ (fun _ _ _ _=>(aI (i:=0) (by decide+kernel:List.Nodup (["band","word"]:List Str)) rfl (Or.inl rfl))) (fun _ _ _ _=>fz) (fun _ _ _ _=>(aC cj (bK K rfl Zm PySem.F.slot_str_count PySem.F.type_str_count sF (pv 1) (aa (pv 0) ab)) (bK K rfl Zm PySem.F.slot_str_count PySem.F.type_str_count sF (pv 1) (aa (aj bE (hr.mono (by decide)) rfl T.F0.mg T.F0.fn.kp T.F0.bd .nil ay (aa (pv 0) ab)) ab))))) ab)))),?_⟩
 obtain ⟨y,w,rfl,hy,hz,q⟩:=h
 have hs:(100000:Nat)<sizeLine:=by decide
 have N3:=dy hy
 refine ⟨_,rfl,y,rfl,wI hy.lt,by omega,fun l' H1 hp hw s1=>?_⟩
 have el:=jN hp hw
 subst el
 refine ⟨aR y,rfl,?_⟩
 refine d_ (xs:=cI (aR y)) (fun i acc H'=>H'=H1/\acc=xq (((aR y).take i).map (cL w))) (by rw[aU];omega) ⟨rfl,rfl⟩ ?_ ?_
 ·rintro i x acc H2 Nx hi hx nP ⟨rfl,rfl⟩ nx
  obtain ⟨c,hc,rfl⟩:=dz hx
  have Qn:Lt c:= .inl (jT hy (UQ hc)).2
  refine ⟨⟨rfl,trivial⟩,dB ?_⟩
  refine ⟨_,rfl,rfl,_,rfl,w,c,rfl,rfl,?_⟩
  refine ⟨_,rfl,rfl,_,rfl,c,rfl,Qn.lt,w,az c,rfl,rfl,?_⟩
  refine ⟨_,_,rfl,rfl,?_⟩
  exact nx _ _ (by simpa using nP) ⟨rfl,by rw[qu, <-take_snoc hc,Wx];rfl⟩
 rintro acc H2 D nP ⟨rfl,rfl⟩ hD
 rw[jc]
 refine ⟨D,_,rfl, .inl ⟨ba.of ag,fun t nt=>?_⟩⟩
 exact q t _ (ak.free (s1.trans (ak.upd hD)) nt) ag ((s1.trans (ak.upd hD)).trans (ak.upd nt))
theorem rH:br P w K mg base eG 2 f4 d4 ["yard","x","y","z"] (kf K):=by
 have e_:=jE (P:=P) (w:=w) (base:=base) T
 refine T.F4.fn.ok rE (fun vs H Q E h=>p5 h) (fun cu A outer s H vs Q E hr h=>?_)
 refine ⟨_,(ai (aE (f_ gJ (aj e_ (hr.mono (by decide)) rfl T.F3.mg T.F3.fn.kp T.F3.bd .nil ay (aa (pv 0) (aa (pv 1) (aa (pv 2) ab)))) (aj e_ (hr.mono (by decide)) rfl T.F3.mg T.F3.fn.kp T.F3.bd .nil ay (aa (pv 0) (aa (pv 1) (aa (pv 3) ab)))) (aK _)))),?_⟩
 obtain ⟨y,a,b,c,rfl,ha,hb,hc,hz,q⟩:=h
 refine ⟨_,rfl,_,rfl,_,rfl,y,a,b,rfl,ha,hb,hz,?_⟩
 refine ⟨_,rfl,_,rfl,_,rfl,y,a,c,rfl,ha,hc,hz,?_⟩
 exact ⟨_,_,rfl,rfl,q⟩
theorem zw:br P w K mg base eG 3 f6 d6 ["yard","band","other"] (qv K):=by
 have bE:=cZ (P:=P) (w:=w) (base:=base) T
 have mf:=rH (P:=P) (w:=w) (base:=base) T
 refine T.F6.fn.ok kQ (fun vs H Q E h=>xr h) (fun cu A outer s H vs Q E hr h=>?_)
 refine ⟨_,(ae (ao (i:=3) kQ.nd rfl (Or.inl rfl) (aj bE (hr.mono (by decide)) rfl T.F0.mg T.F0.fn.kp T.F0.bd .nil ay (aa (pv 1) ab)))
   (ae (bT (aG hV (pv 1) (pv 2) (aK _)) (ai (aE ah)) bf)
   (ae (ao (i:=4) kQ.nd rfl (Or.inl rfl) (aj mf (hr.mono (by decide)) rfl T.F4.mg T.F4.fn.kp T.F4.bd .nil ay (aa (pv 0) (aa (pv 3) (aa (aj bE (hr.mono (by decide)) rfl T.F0.mg T.F0.fn.kp T.F0.bd .nil ay (aa (pv 2) ab)) (aa (pv 1) ab))))))
   (ae (bT (aG KA (pv 4) (aj mf (hr.mono (by decide)) rfl T.F4.mg T.F4.fn.kp T.F4.bd .nil ay (aa (pv 0) (aa (pv 3) (aa (pv 2) (aa (pv 1) ab))))) (aK _)) (ai (aE ah)) bf)
   (ai (aE (vJ (g8 (pv 4)) ah (iF ft ah)))))))),?_⟩
 obtain ⟨y,x,z,rfl,hy,hl,hx,hz,q⟩:=h
 obtain ⟨mx,sx⟩:=jT hy hx
 obtain ⟨mz,sz⟩:=jT hy hz
 have lx:Lt x:= .inl sx
 have lz:Lt z:= .inl sz
 have cx:=hy.cl x mx
 have cz:=hy.cl z mz
 refine ⟨_,rfl,x,rfl,lx.lt,?_⟩
 refine ⟨_,rfl,_,rfl,_,_,rfl,rfl,_,rfl,bJ (fun e=>?_) (fun e=>?_)⟩
 ·have e1:x=z:=by simpa [S]using of_decide_eq_true e
  rw[show sg y x z=0 by unfold sg;rw[if_pos e1]]at q
  exact q
 have e1:x≠z:=fun g=>e (decide_eq_true (by rw[g]))
 refine ⟨_,rfl,_,rfl,_,rfl,z,rfl,lz.lt,_,rfl,y,az x,az z,x,rfl,cx,cz,mx,by omega,?_⟩
 refine ⟨_,rfl,_,rfl,_,rfl,_,rfl,_,rfl,y,az x,z,x,rfl,cx,mz,mx,by omega,?_⟩
 refine ⟨_,_,rfl,rfl,_,rfl,bJ (fun e2=>?_) (fun e2=>?_)⟩
 ·rw[show sg y x z=0 by unfold sg;rw[if_neg e1,if_pos (of_decide_eq_true e2)]]at q
  exact q
 have e3: ¬gr y (az x) (az z) x=gr y (az x) z x:=fun g=>e2 (decide_eq_true g)
 refine ⟨_,rfl,_,rfl,bJ (fun e4=>?_) (fun e4=>?_)⟩
 ·rw[show sg y x z=1 by unfold sg;rw[if_neg e1,if_neg e3,if_pos e4]]at q
  exact q
 ·rw[show sg y x z= -1 by unfold sg;rw[if_neg e1,if_neg e3,if_neg e4]]at q
  exact ⟨_,rfl,q⟩
theorem vg:br P w K mg base eG 4 f7 d7 ["yard","band"] (l_ K):=by
 have fJ:=jD (P:=P) (w:=w) (base:=base) T
 have Cv:=zw (P:=P) (w:=w) (base:=base) T
 refine T.F7.fn.ok vc (fun vs H Q E h=>rD h) (fun cu A outer s H vs Q E hr h=>?_)
 refine ⟨_,(ai (aE (bM (bo K rfl) rfl T.z_tuple boot_tuple (aa (bV ["other","yard","band"] [none,some 0,some 1] (i9 (aj fJ (hr.mono (by decide)) rfl T.F2.mg T.F2.fn.kp T.F2.bd .nil ay (aa (pv 0) ab))) ⟨⟨rfl,rfl,by first | exact .inl rfl | exact .inr rfl⟩,⟨⟨rfl,rfl,by first | exact .inl rfl | exact .inr rfl⟩,trivial⟩⟩ (fun _ _ _ _=>(aI (i:=0) (by decide+kernel:List.Nodup (["other","yard","band"]:List Str)) rfl (Or.inl rfl))) (fun _ _ _ _=>fz) (fun _ _ _ _=>(aj Cv (hr.mono (by decide)) rfl T.F6.mg T.F6.fn.kp T.F6.bd .nil ay (aa (pv 1) (aa (pv 2) (aa (pv 0) ab)))))) ab)))),?_⟩
 obtain ⟨y,x,rfl,hy,hz,hx,q⟩:=h
 have hs:(100000:Nat)<sizeLine:=by decide
 have N3:=dy hy
 refine ⟨_,rfl,y,rfl,wI hy.lt,by omega,fun l' H1 hp hw s1=>?_⟩
 have el:=jN hp hw
 subst el
 refine ⟨aR y,rfl,?_⟩
 refine d_ (xs:=cI (aR y)) (fun i acc H'=>H'=H1/\acc=xq (((aR y).take i).map (sg y x))) (by rw[aU];omega) ⟨rfl,rfl⟩ ?_ ?_
 ·rintro i v acc H2 Nx hi hv nP ⟨rfl,rfl⟩ nx
  obtain ⟨c,hc,rfl⟩:=dz hv
  refine ⟨⟨rfl,rfl,trivial⟩,dB ?_⟩
  refine ⟨_,rfl,_,rfl,_,rfl,y,x,c,rfl,hy,hz,hx,UQ hc,?_⟩
  exact nx _ _ (by simpa using nP) ⟨rfl,by rw[qu, <-take_snoc hc,Wx];rfl⟩
 rintro acc H2 D nP ⟨rfl,rfl⟩ hD
 rw[jc]
 refine ⟨D,_,rfl, .inl ⟨ba.of ag,fun t nt=>?_⟩⟩
 exact q t _ (ak.free (s1.trans (ak.upd hD)) nt) ag ((s1.trans (ak.upd hD)).trans (ak.upd nt))
theorem Fz:br P w K mg base eG 5 f8 d8 ["yard"] (xt K):=by
 have fJ:=jD (P:=P) (w:=w) (base:=base) T
 have xF:=vg (P:=P) (w:=w) (base:=base) T
 refine T.F8.fn.ok Ft (fun vs H Q E h=>Ck h) (fun cu A outer s H vs Q E hr h=>?_)
 refine ⟨_,(ai (aE (bM (bo K rfl) rfl T.z_tuple boot_tuple (aa (bV ["band","yard"] [none,some 0] (i9 (aj fJ (hr.mono (by decide)) rfl T.F2.mg T.F2.fn.kp T.F2.bd .nil ay (aa (pv 0) ab))) ⟨⟨rfl,rfl,by first | exact .inl rfl | exact .inr rfl⟩,trivial⟩ (fun _ _ _ _=>(aI (i:=0) (by decide+kernel:List.Nodup (["band","yard"]:List Str)) rfl (Or.inl rfl))) (fun _ _ _ _=>fz) (fun _ _ _ _=>(aj xF (hr.mono (by decide)) rfl T.F7.mg T.F7.fn.kp T.F7.bd .nil ay (aa (pv 1) (aa (pv 0) ab))))) ab)))),?_⟩
 obtain ⟨y,rfl,hy,hz,q⟩:=h
 have hs:(100000:Nat)<sizeLine:=by decide
 have N3:=dy hy
 refine ⟨_,rfl,y,rfl,wI hy.lt,by omega,fun l' H1 hp hw s1=>?_⟩
 have el:=jN hp hw
 subst el
 refine ⟨aR y,rfl,?_⟩
 refine d_ (xs:=cI (aR y)) (fun i acc H'=>ak H1 H'/\ ∃rs:List Addr,acc=Gk rs/\rs.length=i/\ ∀(j:Nat) (a:Addr) (x:Nat),rs[j]? =some a->(aR y)[j]? =some x->H' a=some (.tup (xq ((aR y).map (sg y x))))) (by rw[aU];omega) ⟨ak.refl _,[],rfl,rfl,fun j a x h=>by simp at h⟩ ?_ ?_
 ·rintro i v acc H2 Nx hi hv nP ⟨s2,rs,rfl,Jy,hr⟩ nx
  obtain ⟨c,hc,rfl⟩:=dz hv
  refine ⟨⟨rfl,trivial⟩,dB ?_⟩
  refine ⟨_,rfl,_,rfl,y,c,rfl,hy,hz,UQ hc,fun t H3 nt ht s3=>?_⟩
  refine nx _ _ (by simpa using nP) ⟨s2.trans s3,rs++[t],Fb rs t,by rw[UO,Jy];rfl,fun j a x hj hx=>?_⟩
  by_cases cT:j<rs.length
  ·rw[ZE cT]at hj
   exact s3 _ _ (hr j a x hj hx)
  ·have TZ:j=rs.length:=by
    have:=(Kr.mp hj).1
    rw[UO]at this
    have:j<rs.length+1:=this
    omega
   subst TZ
   rw[ZT (UP _),Qcn]at hj
   have ea:t=a:=by simpa using hj
   rw[Jy,hc]at hx
   have ex:c=x:=Zc hx
   subst ea
   subst ex
   exact ht
 rintro acc H2 D nP ⟨s2,rs,rfl,Jy,hr⟩ hD
 rw[aU]at Jy
 refine ⟨D,_,rfl, .inl ⟨ba.of ag,fun t nt=>?_⟩⟩
 have sA:=(ak.upd (o:= .lst (Gk rs)) hD).trans (ak.upd (o:= .tup (Gk rs)) nt)
 exact q t rs _ (ak.free (s1.trans (s2.trans (ak.upd hD))) nt) ag ⟨Jy,fun j a x h1 h2=>sA _ _ (hr j a x h1 h2)⟩ (s1.trans (s2.trans sA))
theorem zx:br P w K mg base eG 6 f9 d9 ["yard","one","other"] (qw K):=by
 have Jz:=LZ (P:=P) (w:=w) (base:=base) T
 have Ik:=Fz (P:=P) (w:=w) (base:=base) T
 refine T.F9.fn.ok eS (fun vs H Q E h=>xu h) (fun cu A outer s H vs Q E hr h=>?_)
 refine ⟨_,(ae (ao (i:=3) eS.nd rfl (Or.inl rfl) (aj Jz (hr.mono (by decide)) rfl T.F5.mg T.F5.fn.kp T.F5.bd .nil ay (aa (pv 0) (aa (pv 2) ab))))
   (ae (ao (i:=4) eS.nd rfl (Or.inl rfl) ah)
   (ae (b5 PassesOwn.never rfl (wx K rfl rfl T.z_zip (aa (aj Jz (hr.mono (by decide)) rfl T.F5.mg T.F5.fn.kp T.F5.bd .nil ay (aa (pv 0) (aa (pv 1) ab))) (aa (aj Ik (hr.mono (by decide)) rfl T.F8.mg T.F8.fn.kp T.F8.bd .nil ay (aa (pv 0) ab)) ab))) (gg (n:=2) K rfl rfl (bU (aI (i:=5) eS.nd rfl (Or.inl rfl)) (bU (aI (i:=6) eS.nd rfl (Or.inl rfl)) fZ))) (ai (g9 (i:=4) eS.nd rfl (Or.inl rfl) (aC gw (pv 5) (aB (sE K rfl rfl) rfl T.z_sum boot_sum (aa (bV ["number","entry"] [none,none] (wx K rfl rfl T.z_zip (aa (pv 3) (aa (pv 6) ab))) trivial (fun _ _ _ _=>(gg (n:=2) K rfl rfl (bU (aI (i:=0) (by decide+kernel:List.Nodup (["number","entry"]:List Str)) rfl (Or.inl rfl)) (bU (aI (i:=1) (by decide+kernel:List.Nodup (["number","entry"]:List Str)) rfl (Or.inl rfl)) fZ)))) (fun _ _ _ _=>fz) (fun _ _ _ _=>(aC gw (pv 0) (pv 1)))) ab))) mr)))
   (ai (aE (pv 4)))))),?_⟩
 obtain ⟨y,w,v,rfl,hy,hz,vU,q⟩:=h
 have hs:(100000:Nat)<sizeLine:=by decide
 have N3:=dy hy
 refine ⟨_,rfl,_,rfl,y,v,rfl,hy,hz,fun t0 H1 n0 XI s1=>?_⟩
 refine ⟨_,rfl,_,rfl,y,w,rfl,hy,hz,fun t1 H2 n1 A1 s2=>?_⟩
 refine ⟨_,rfl,y,rfl,hy,hz,fun t2 rs H3 n2 Ij hr s3=>?_⟩
 have Qo:=s3 _ _ A1
 have Qp:=s3 _ _ (s2 _ _ XI)
 have Cu:ak H H3:=s1.trans (s2.trans s3)
 refine ⟨t1,t2,rfl,⟨_,bY.of Qo⟩,⟨_,bY.of Ij⟩,?_⟩
 refine G9 (xs:=xq ((aR y).map (cL w))) (ys:=Gk rs) (fun i σ H'=> ∃(mv rv:Option V),σ=[some (.str (S y)),some (.str (S w)),some (.str (S v)),some (.ref t0),some (.int ((((aR y).take i).map fun x=>cL w x*((aR y).map fun z=>cL v z*sg y x z).sum).sum)),mv,rv]/\ak H3 H') (by rw[jS,HZ,hr.1,QW]) ⟨none,none,rfl,ak.refl _⟩ (fun i σ H' _ ⟨_,_,_,s⟩=>⟨bY.of (s _ _ Qo),bY.of (s _ _ Ij)⟩) ?_ ?_
 ·rintro i x r σ H4 T hx XJ ⟨mv,rv,rfl,s4⟩ nT
  obtain ⟨n,hn,rfl⟩:=zh hx
  obtain ⟨c,hc,rfl⟩:=uW hn
  obtain ⟨a,ha,rfl⟩:=uW XJ
  have Qq:=s4 _ _ (hr.2 i a c ha hc)
  refine ⟨T,_,rfl,bY.of ag,rfl,_,_,rfl,_,_,rfl,rfl,?_⟩
  have L0:=ak.upd (o:= .tup [.int (cL w c), .ref a]) nT
  refine ⟨_,rfl,?_⟩
  refine ⟨_,rfl,_,rfl,_,rfl,t0,a,rfl,⟨_,bY.of (L0 _ _ (s4 _ _ Qp))⟩,⟨_,bY.of (L0 _ _ Qq)⟩,?_⟩
  refine DL (xs:=xq ((aR y).map (cL v))) (ys:=xq ((aR y).map (sg y c))) (fun j acc H'=>ak (upd H4 T (.tup [.int (cL w c), .ref a])) H'/\acc=xq (((aR y).take j).map fun z=>cL v z*sg y c z)) (by rw[jS,jS,QW,QW]) (by rw[jS,QW];omega) (fun j acc H' h=>⟨bY.of (h.1 _ _ (L0 _ _ (s4 _ _ Qp))),bY.of (h.1 _ _ (L0 _ _ Qq))⟩) ⟨ak.refl _,rfl⟩ ?_ ?_
  ·rintro j x1 x2 acc H5 T2 Nx h1 h2 nP ⟨s5,rfl⟩ Qr nx
   obtain ⟨m1,Jc,rfl⟩:=zh h1
   obtain ⟨d,hd,rfl⟩:=uW Jc
   obtain ⟨m2,Ab,rfl⟩:=zh h2
   obtain ⟨d2,hd2,rfl⟩:=uW Ab
   have ed:d=d2:=Zc (hd.symm.trans hd2)
   subst ed
   refine ⟨T2,_,rfl,bY.of ag,rfl,_,_,rfl,_,_,rfl,rfl,?_⟩
   refine ⟨trivial,dB ?_⟩
   refine ⟨_,rfl,_,rfl,_,_,rfl,rfl,LK,?_⟩
   exact nx _ _ (by simpa using nP) ⟨s5.trans (ak.upd Qr),by rw[qu, <-take_snoc hd,Wx];rfl⟩
  ·rintro acc H5 D nP ⟨s5,rfl⟩ hD
   rw[jS,QW,ZX]
   refine ⟨D,_,rfl,ba.of ag,?_⟩
   refine ⟨_,_,rfl,rfl,Ia vU,?_⟩
   refine ⟨_,_,rfl,rfl,?_⟩
   have es:(((aR y).take (i+1)).map fun x=>cL w x*((aR y).map fun z=>cL v z*sg y x z).sum).sum=(((aR y).take i).map fun x=>cL w x*((aR y).map fun z=>cL v z*sg y x z).sum).sum+cL w c*((aR y).map fun z=>cL v z*sg y c z).sum:=by
    rw[<-take_snoc hc,Wx,Qdr]
    simp
   refine ⟨some (.int (cL w c)),some (.ref a),?_,s4.trans (L0.trans (s5.trans (ak.upd hD)))⟩
   rw[es]
   rfl
 ·rintro σ H4 ⟨mv,rv,rfl,s4⟩
  rw[jS,QW,ZX]
  exact ⟨_,rfl,q _ (Cu.trans s4)⟩
theorem FA:br P w K mg base eG 2 Ng NY ["_law_box_here","_law_yard_here","_law_word"] (xA K):=by
 have bL:=gZ (P:=P) (w:=w) (base:=base) T
 have cf:=fK (P:=P) (w:=w) (base:=base) T
 refine T.LS.fn.ok fW (fun vs H Q E h=>Cn h) (fun cu A outer s H vs Q E hr h=>?_)
 refine ⟨_,(ae (ao (i:=3) fW.nd rfl (Or.inl rfl) (aj bL (hr.mono (by decide)) rfl T.fq.mg T.fq.fn.kp T.fq.bd .nil ay (aa (pv 0) (aa (aB aT rfl T.z_len Zf (aa (pv 2) ab)) ab))))
   (ae (ao (i:=2) fW.nd rfl (Or.inl rfl) (aC dZ (bA j4 (pv 2) (bz (pv 3)) cB) (bA j4 (pv 2) cB (bz (pv 3)))))
   (ae (b5 PassesOwn.never rfl (eJ rfl T.z_range (aa (aj bL (hr.mono (by decide)) rfl T.fq.mg T.fq.fn.kp T.fq.bd .nil ay (aa (pv 0) (aa ah ab))) ab)) (aI (i:=4) fW.nd rfl (Or.inl rfl)) (ae (ao (i:=5) fW.nd rfl (Or.inl rfl) (aM hU (pv 1) (aj bL (hr.mono (by decide)) rfl T.fq.mg T.fq.fn.kp T.fq.bd .nil ay (aa (pv 0) (aa (aB aT rfl T.z_len Zf (aa (pv 1) ab)) ab))) (fun _ _=>rfl)))
   (ae (ao (i:=3) fW.nd rfl (Or.inl rfl) (aj bL (hr.mono (by decide)) rfl T.fq.mg T.fq.fn.kp T.fq.bd .nil ay (aa (pv 0) (aa (aC bc (aB aT rfl T.z_len Zf (aa (pv 2) ab)) ah) ab))))
   (ai (ao (i:=2) fW.nd rfl (Or.inl rfl) (aC dZ (aC dZ (aC dZ (bA j4 (pv 2) cB (bz (pv 3))) (pv 5)) (aj cf (hr.mono (by decide)) rfl T.ml.mg T.ml.fn.kp T.ml.bd .nil ay (aa (pv 5) ab))) (bA j4 (pv 2) (bz (pv 3)) cB)))))))
   (ai (aE (pv 2)))))),?_⟩
 obtain ⟨b,y,w',rfl,hb,hy,CQ,xD,T1,T3,wl,q⟩:=h
 have hs:(100000:Nat)<sizeLine:=by decide
 have pU:0<w'.length:=Ww.mpr T1
 refine ⟨_,rfl,_,rfl,w',rfl,by omega,b,_,rfl,hb,by omega,by omega,fun at' H1 XG wA s1=>?_⟩
 have hlen:(cut w' (some (at':Int)) none).length+(cut w' none (some (at':Int))).length<=sizeLine:=by rw[cV,eA,Zs,Zi];omega
 refine ⟨_,rfl,_,rfl,_,rfl,w',rfl,by omega,_,rfl,_,rfl,_,rfl,w',rfl,by omega,_,_,rfl,rfl,hlen,?_⟩
 rw[cV,eA]
 have n0: ∀x∈aR y,cL (w'.drop at'++w'.take at') x=cL w' x:=fun x _=>by rw[Ie,Z5]
 have i0: ∀c∈w'.drop at'++w'.take at',c∈y:=fun c hc=>T3 c ((Zh.mp hc).elim Qax Qao)
 have l0:(w'.drop at'++w'.take at').length<=6:=by rw[UO,Zs,Zi];omega
 generalize w'.drop at'++w'.take at'=w0 at n0 i0 l0 ⊢
 refine ⟨_,rfl,b,3,rfl,wA,by decide,by decide,fun r H2 hr iJ s2=>?_⟩
 refine ⟨_,rfl,by omega,by omega,?_⟩
 rw[YR]
 refine dM (fun i σ H'=> ∃(u:List Nat) (v3 v4 v5:Option V),σ=[some (.ref b),some (.str (S y)),some (.str (S u)),v3,v4,v5]/\(∀c∈u,c∈y)/\u.length<=6+2*i/\(∀x∈aR y,cL u x=cL w' x)/\bG H' b/\aN b H H') ⟨w0,_,none,none,rfl,i0,l0,n0,iJ,s1.trans s2⟩ ?_ ?_
 ·rintro i σ H3 hi ⟨u,v3,v4,v5,rfl,iu,ul,nu,iU,s3⟩
  refine ⟨_,rfl,_,rfl,_,rfl,y,rfl,by omega,b,_,rfl,iU,by omega,by omega,fun k H4 hk qQ s4=>?_⟩
  have CG:k<y.length:=by omega
  refine ⟨y,_,_,rfl,rfl,by omega,b8 (Kq CG),?_⟩
  have sC:y[k]∈y:=ZF CG
  generalize y[k]=c at sC ⊢
  have lc:=hy.lt c sC
  refine ⟨_,rfl,_,rfl,u,rfl,by omega,_,_,rfl,rfl,b,_,rfl,qQ,by omega,by omega,fun m H5 hm N4 s5=>?_⟩
  have y9:m<=u.length:=by omega
  have Gv:(cut u none (some (m:Int))).length+[c].length<=sizeLine:=by rw[cV,Zi];show _+1<=_;omega
  have zR:(cut u none (some (m:Int))++[c]).length+[az c].length<=sizeLine:=by rw[cV,UO,Zi];show _+1+1<=_;omega
  have XM:(cut u none (some (m:Int))++[c]++[az c]).length+(cut u (some (m:Int)) none).length<=sizeLine:=by rw[cV,eA,UO,UO,Zi,Zs];show _+1+1+_<=_;omega
  refine ⟨_,rfl,_,rfl,_,rfl,u,rfl,by omega,_,rfl,_,_,rfl,rfl,Gv,_,rfl,c,rfl,lc,_,_,rfl,rfl,zR,_,rfl,_,rfl,_,rfl,u,rfl,by omega,_,_,rfl,rfl,XM,?_⟩
  rw[cV,eA]
  refine ⟨_,_,_,_,rfl,fun d hd=>?_,?_,fun x hx=>?_,N4,s3.trans (s4.trans s5)⟩
  ·rcases Zh.mp hd with g | g
   ·rcases Zh.mp g with g | g
    ·rcases Zh.mp g with g | g
     ·exact iu d (Qao g)
     ·rw[Wv.mp g];exact sC
    ·rw[Wv.mp g];exact hy.cl c sC
   ·exact iu d (Qax g)
  ·rw[UO,UO,UO,Zi,Zs]
   show min m u.length+1+1+(u.length - m)<=_
   omega
  ·rw[Ff hy sC hx,Z5]
   exact nu x hx
 ·rintro σ H3 ⟨u,v3,v4,v5,rfl,iu,ul,nu,iU,s3⟩
  exact ⟨_,rfl,q u H3 iu (by omega) nu iU s3⟩
theorem Cw:br P w K mg base eG 1 Nb NV ["_law_yard_here"] (sO K):=by
 refine T.RF.fn.ok Cp (fun vs H Q E h=>yM h) (fun cu A outer s H vs Q E hr h=>?_)
 refine ⟨_,(ai (aE (aB (lA K rfl) rfl T.z_sorted boot_sorted (aa (bV ["_law_letter"] [none] (i9 (pv 0)) trivial (fun _ _ _ _=>(aI (i:=0) (by decide+kernel:List.Nodup (["_law_letter"]:List Str)) rfl (Or.inl rfl))) (fun _ _ _ _=>(pj (aG Di (pv 0) (lp [97,98,99,100,101,102,103,104,105,106,107,108,109,110,111,112,113,114,115,116,117,118,119,120,121,122] (by decide+kernel)) (by with_unfolding_all rfl)))) (fun _ _ _ _=>(pv 0))) ab)))),?_⟩
 obtain ⟨y,rfl,hz,q⟩:=h
 have hs:(1000:Nat)<sizeLine:=by decide
 refine ⟨_,rfl,y,rfl,?_⟩
 refine d_ (xs:=cI y) (fun i acc H'=>ak H H'/\acc=cI ((y.take i).filter fun c=>decide (c∈aQ))) (by rw[aU];omega) ⟨ak.refl H,rfl⟩ ?_ ?_
 ·rintro i x acc H1 Nx hi hx nP ⟨s1,rfl⟩ nx
  obtain ⟨c,hc,rfl⟩:=dz hx
  have e:=nI (p:=fun c=>decide (c∈aQ)) hc
  refine ⟨trivial,?_⟩
  refine ⟨_,rfl,c,aQ,rfl,rfl,_,rfl,?_⟩
  refine bJ (fun z=>?_) (fun z=>?_)
  ·rw[if_pos z]at e
   exact ⟨_,rfl,nx _ _ (by simpa using nP) ⟨s1,by rw[e, <-du]⟩⟩
  ·rw[if_neg z,Zy]at e
   exact nx _ _ (Qb5 nP) ⟨s1,by rw[e]⟩
 ·rintro acc H1 D nP ⟨s1,rfl⟩ hD
  rw[jc,dN]
  have XA:(y.filter fun c=>decide (c∈aQ)).length<=y.length:=Qa9 _ _
  refine ⟨D,(y.filter fun c=>decide (c∈aQ)).map fun c=>[c],rfl,ba.of ag,by rw[QW];omega,fun p ls hp j8 LW=>?_⟩
  obtain ⟨l',rfl,pl⟩:=zZ j8
  refine q p l' _ (ak.free (ak.trans s1 (ak.upd hD)) hp) (by rw[ag, <-dN]) pl (z9 LW) ((s1.trans (ak.upd hD)).trans (ak.upd hp))
theorem Cy:br P w K mg base eG 2 Na NU ["_law_box_here","_law_things"] (sX K):=by
 have bL:=gZ (P:=P) (w:=w) (base:=base) T
 refine T.RE.fn.ok ni (fun vs H Q E h=>y0 h) (fun cu A outer s H vs Q E hr h=>?_)
 refine ⟨_,(ae (ao (i:=2) ni.nd rfl (Or.inl rfl) (bM (t_ K rfl rfl) rfl T.z_list boot_list (aa (pv 1) ab)))
   (ae (ao (i:=3) ni.nd rfl (Or.inl rfl) (dj ab))
   (ae (da PassesOwn.never (aG nz (aB (aW K rfl) rfl T.z_len Zf (aa (pv 2) ab)) ah (aK _)) (ai (cR (bK K rfl Zr ZZ ZY c_ (pv 3) (aa (bK K rfl Zr Qa7 Qa6 kY (pv 2) (aa (aj bL (hr.mono (by decide)) rfl T.fq.mg T.fq.fn.kp T.fq.bd .nil ay (aa (pv 0) (aa (aB (aW K rfl) rfl T.z_len Zf (aa (pv 2) ab)) ab))) ab)) ab)))))
   (ai (aE (pv 3)))))),?_⟩
 obtain ⟨b,x,ys,rfl,hb,hx,hz,q⟩:=h
 have hs:(100000:Nat)<sizeLine:=by decide
 rcases hx with ⟨p,rfl,hp⟩ | ⟨l,rfl,rfl⟩
 ·refine ⟨_,rfl, .inr ⟨p,_,rfl,hp,fun p1 n1=>?_⟩⟩
  walk_at "wk"
  intro p2 n2
  have s1:ak H (upd (upd H p1 (.lst ys)) p2 (.lst [])):=(ak.upd n1).trans (ak.upd n2)
  have Cr:p1≠b:=hb.ne n1
  have Fv:H p2=none:=ak.free (ak.upd n1) n2
  have Fx:p2≠b:=hb.ne Fv
  have CP:p1≠p2:=fun z=>by rw[<-z,ag]at n2;cases n2
  refine ⟨fun m σ H'=> ∃F E':List V,σ=[some (.ref b),some (.ref p),some (.ref p1),some (.ref p2)]/\m=E'.length/\(F++E').Perm ys/\H' p1=some (.lst E')/\H' p2=some (.lst F)/\bG H' b/\aN b H H',⟨_,[],ys,rfl,rfl,Qb3 _,by rw[ar CP,ag],ag,hb.same s1,aN.of s1⟩,?_⟩
  rintro m σ H3 ⟨F,E',rfl,rfl,j8,jq,kS,iU,s4⟩
  have hlen:=j8.length_eq
  rw[UO]at hlen
  walk_at "wk"
  refine ⟨p1,_,rfl, .inl (ba.of jq),_,_,rfl,rfl,_,rfl,bJ (fun e=>?_) (fun e=>?_)⟩
  ·have e':(0:Int)<(E'.length:Nat):=of_decide_eq_true e
   refine ⟨_,rfl, .inl ⟨rfl,_,ba.of kS⟩,_,rfl, .inl ⟨rfl,_,ba.of jq⟩,?_⟩
   walk_at "wk"
   refine ⟨p1,_,rfl, .inl (ba.of jq),b,_,rfl,iU,by omega,by omega,fun r H4 Jw qQ s5=>?_⟩
   have Gr:r<E'.length:=by omega
   refine ⟨p1,_,_,r,_,rfl,rfl,s5 _ _ jq Cr,by omega,by omega,by rw[seqIndex_of (by omega) (by omega),YR],Kq Gr,?_⟩
   have j9:=fN (Kq Gr)
   have iQ:=j9.length_eq
   rw[Zv]at iQ
   refine ⟨p2,_,_,rfl,rfl,by rw[ar (Ne.symm CP)];exact s5 _ _ kS Fx,by omega,?_⟩
   refine ⟨(E'.eraseIdx r).length,by omega,F++[E'[r]],E'.eraseIdx r,rfl,rfl,?_,by rw[ar CP,ag],ag,(qQ.cU Cr).cU Fx,((s4.trans s5).cU n1).cU Fv⟩
   rw[Qaj]
   exact (Qcw F j9).trans j8
  ·have e':E'=[]:=by
    cases E' with
    | nil=>rfl
    | cons c r=>exact absurd (decide_eq_true (by show (0:Int)<((r.length+1:Nat):Int);omega)) e
   subst e'
   rw[Zy]at j8
   exact ⟨_,rfl,q p2 F H3 Fv Fx kS j8 iU s4⟩
 ·rw[aU]at hz
  refine ⟨_,rfl, .inl ⟨l,rfl,by omega,fun p1 n1=>?_⟩⟩
  rw[<-aU l]at hz
  generalize cI l=ys at*
  walk_at "wk"
  intro p2 n2
  have s1:ak H (upd (upd H p1 (.lst ys)) p2 (.lst [])):=(ak.upd n1).trans (ak.upd n2)
  have Cr:p1≠b:=hb.ne n1
  have Fv:H p2=none:=ak.free (ak.upd n1) n2
  have Fx:p2≠b:=hb.ne Fv
  have CP:p1≠p2:=fun z=>by rw[<-z,ag]at n2;cases n2
  refine ⟨fun m σ H'=> ∃F E':List V,σ=[some (.ref b),some (.str (S l)),some (.ref p1),some (.ref p2)]/\m=E'.length/\(F++E').Perm ys/\H' p1=some (.lst E')/\H' p2=some (.lst F)/\bG H' b/\aN b H H',⟨_,[],ys,rfl,rfl,Qb3 _,by rw[ar CP,ag],ag,hb.same s1,aN.of s1⟩,?_⟩
  rintro m σ H3 ⟨F,E',rfl,rfl,j8,jq,kS,iU,s4⟩
  have hlen:=j8.length_eq
  rw[UO]at hlen
  walk_at "wk"
  refine ⟨p1,_,rfl, .inl (ba.of jq),_,_,rfl,rfl,_,rfl,bJ (fun e=>?_) (fun e=>?_)⟩
  ·have e':(0:Int)<(E'.length:Nat):=of_decide_eq_true e
   refine ⟨_,rfl, .inl ⟨rfl,_,ba.of kS⟩,_,rfl, .inl ⟨rfl,_,ba.of jq⟩,?_⟩
   walk_at "wk"
   refine ⟨p1,_,rfl, .inl (ba.of jq),b,_,rfl,iU,by omega,by omega,fun r H4 Jw qQ s5=>?_⟩
   have Gr:r<E'.length:=by omega
   refine ⟨p1,_,_,r,_,rfl,rfl,s5 _ _ jq Cr,by omega,by omega,by rw[seqIndex_of (by omega) (by omega),YR],Kq Gr,?_⟩
   have j9:=fN (Kq Gr)
   have iQ:=j9.length_eq
   rw[Zv]at iQ
   refine ⟨p2,_,_,rfl,rfl,by rw[ar (Ne.symm CP)];exact s5 _ _ kS Fx,by omega,?_⟩
   refine ⟨(E'.eraseIdx r).length,by omega,F++[E'[r]],E'.eraseIdx r,rfl,rfl,?_,by rw[ar CP,ag],ag,(qQ.cU Cr).cU Fx,((s4.trans s5).cU n1).cU Fv⟩
   rw[Qaj]
   exact (Qcw F j9).trans j8
  ·have e':E'=[]:=by
    cases E' with
    | nil=>rfl
    | cons c r=>exact absurd (decide_eq_true (by show (0:Int)<((r.length+1:Nat):Int);omega)) e
   subst e'
   rw[Zy]at j8
   exact ⟨_,rfl,q p2 F H3 Fv Fx kS j8 iU s4⟩
theorem xG:br P w K mg base eG 3 Nd NW ["_law_box_here","_law_yard_here","_law_words_here"] (nN K):=by
 have FC:=Cw (P:=P) (w:=w) (base:=base) T
 have cf:=fK (P:=P) (w:=w) (base:=base) T
 have FD:=Cy (P:=P) (w:=w) (base:=base) T
 refine T.RG.fn.ok dW (fun vs H Q E h=>uV h) (fun cu A outer s H vs Q E hr h=>?_)
 refine ⟨_,(ae (ao (i:=3) dW.nd rfl (Or.inl rfl) (dj ab))
   (ae (b5 PassesOwn.never rfl (eh K rfl (aj FC (hr.mono (by decide)) rfl T.RF.mg T.RF.fn.kp T.RF.bd .nil ay (aa (pv 1) ab))) (aI (i:=4) dW.nd rfl (Or.inr rfl)) (ae (ao (i:=5) dW.nd rfl (Or.inl rfl) (dj ab))
   (ae (b5 PassesOwn.never rfl (wd K rfl rfl T.z_enumerate (aa (pv 2) ab)) (gg (n:=2) K rfl rfl (bU (aI (i:=6) dW.nd rfl (Or.inr rfl)) (bU (aI (i:=7) dW.nd rfl (Or.inl rfl)) fZ))) (ai (cR (bK K rfl Zr PySem.F.slot_list_extend PySem.F.type_list_extend Bs (pv 5) (aa (bV ["_law_i","_law_letter","_law_c","_law_band"] [none,none,some 6,some 4] (wa rfl T.z_enumerate (aa (pv 7) ab)) ⟨⟨rfl,rfl,by first | exact .inl rfl | exact .inr rfl⟩,⟨⟨rfl,rfl,by first | exact .inl rfl | exact .inr rfl⟩,trivial⟩⟩ (fun _ _ _ _=>(gg (n:=2) K rfl rfl (bU (aI (i:=0) (by decide+kernel:List.Nodup (["_law_i","_law_letter","_law_c","_law_band"]:List Str)) rfl (Or.inl rfl)) (bU (aI (i:=1) (by decide+kernel:List.Nodup (["_law_i","_law_letter","_law_c","_law_band"]:List Str)) rfl (Or.inl rfl)) fZ)))) (fun _ _ _ _=>(pj (aG (KD K rfl) (pv 1) (cO (aa (pv 3) (aa (aj cf (hr.mono (by decide)) rfl T.ml.mg T.ml.fn.kp T.ml.bd .nil ay (aa (pv 3) ab)) ab))) (by with_unfolding_all rfl)))) (fun _ _ _ _=>(cO (aa (pv 2) (aa (pv 0) ab))))) ab)))))
   (ai (cR (bK K rfl Zr ZZ ZY c_ (pv 3) (aa (bM (bo K rfl) rfl T.z_tuple boot_tuple (aa (aj FD (hr.mono (by decide)) rfl T.RE.mg T.RE.fn.kp T.RE.bd .nil ay (aa (pv 0) (aa (pv 5) ab))) ab)) ab)))))))
   (ai (aE (cO (aa (bM (bo K rfl) rfl T.z_tuple boot_tuple (aa (pv 2) ab)) (aa (bM (bo K rfl) rfl T.z_tuple boot_tuple (aa (pv 3) ab)) ab))))))),?_⟩
 obtain ⟨b,y,wt,ws,rfl,hb,hy,hz,Vy,tI,hw,q⟩:=h
 have hs:(100000:Nat)<sizeLine:=by decide
 have XN:=hw.xN
 walk_at "wk"
 intro p1 n1
 have Cr:p1≠b:=hb.ne n1
 have YY:p1≠wt:=Ne.symm (au tI n1)
 refine ⟨_,rfl,y,rfl,by omega,fun p2 l2 H1 n2 kS zR Tu s1=>?_⟩
 rw[yY hy.lt]at zR
 have el:=jN zR Tu
 subst el
 have T4:H p2=none:=ak.free (ak.upd n1) n2
 have Fx:p2≠b:=hb.ne T4
 have CP:p1≠p2:=fun z=>by rw[<-z,ag]at n2;cases n2
 have Gs:ak H H1:=(ak.upd n1).trans s1
 have jq:H1 p1=some (.lst []):=s1 _ _ ag
 have N3:=dy hy
 refine ⟨p2,rfl,⟨_,ba.of kS⟩,?_⟩
 refine gI (K:=K) (a:=p2) (xs:=cI (aR y)) (fun i σ H'=> ∃(os:List Od) (bv sv cv wv:Option V),σ=[some (.ref b),some (.str (S y)),some (.ref wt),some (.ref p1),bv,sv,cv,wv]/\H' p1=some (.lst (yZ os))/\H' p2=some (.lst (cI (aR y)))/\os.length=i/\(∀o∈os,p_ H' o)/\(∀(j:Nat) (o:Od) (c:Nat),os[j]? =some o->(aR y)[j]? =some c->(o.ps.map Pr.pair).Perm (cE c ws ws.length))/\bG H' b/\aN b H H')
  ⟨[],none,none,none,none,rfl,jq,kS,rfl,fun _ h=>absurd h Zl,fun j o c h=>by simp at h,hb.same Gs,aN.of Gs⟩ (fun i σ H' _ ⟨_,_,_,_,_,_,_,h,_⟩=>ba.of h) ?_ ?_
 ·rintro i x σ H2 hx ⟨os,bv,sv,cv,wv,rfl,jq,kS,B7,G_,Gw,iJ,s2⟩
  obtain ⟨band,FE,rfl⟩:=dz hx
  have hi:i<(aR y).length:=(Kr.mp FE).1
  have T5:Lt band:=hy.lt band (ZH.mp ((eQ y).mem_iff.mp (UQ FE))).1
  walk_at "wk"
  intro p3 n3
  have Il:=s2 _ _ tI Vy
  refine ⟨_,rfl,wt,rfl,⟨_,ba.of ((ak.upd n3) _ _ Il)⟩,?_⟩
  refine sj (K:=K) (a:=wt) (xs:=g6 ws) (fun j σ H'=> ∃(ps:List Pr) (cv wv:Option V),σ=[some (.ref b),some (.str (S y)),some (.ref wt),some (.ref p1),some (.str (S [band])),some (.ref p3),cv,wv]/\H' p3=some (.lst (kh ps))/\(∀p∈ps,lQ H' p)/\ps.map Pr.pair=cE band ws j/\ps.length<=12*j/\ak H2 H')
   ⟨[],cv,wv,rfl,ag,fun _ h=>absurd h Zl,rfl,Zg _,ak.upd n3⟩ (fun j σ H' _ ⟨_,_,_,_,_,_,_,_,h⟩=>ba.of (h _ _ Il)) ?_ ?_
  ·rintro j x σ H3 T P0 ⟨ps,XO,XQ,rfl,xE,vC,j9,iQ,s3⟩ nT
   have hj:j<ws.length:=by
    have:=(Kr.mp P0).1
    rwa [cb]at this
   rw[jd hj]at P0
   cases P0
   have Gx:ws[j]? =some ws[j]:=Kq hj
   obtain ⟨Gj,oZ⟩:=hw.all _ (ZF hj)
   generalize ws[j]=w at Gx Gj oZ ⊢
   refine ⟨T,_,rfl,bY.of ag,rfl,_,_,rfl,_,_,rfl,rfl,?_⟩
   have Vz:=ak.upd (o:= .tup [.int j, .str (S w)]) nT
   have Qs:=Vz _ _ xE
   refine ⟨_,rfl, .inl ⟨rfl,_,ba.of Qs⟩,_,rfl,w,rfl,?_⟩
   refine BB (l:=w) (fun m acc H'=>ak (upd H3 T (.tup [.int j, .str (S w)])) H'/\ ∃vs:List Pr,acc=kh vs/\(∀p∈vs,lQ H' p)/\vs.map Pr.pair=gQ band j w m/\vs.length<=m) (by omega) ⟨ak.refl _,[],rfl,fun _ h=>absurd h Zl,rfl,UP _⟩ ?_ ?_
   ·rintro m l acc H4 T2 Nx hm nP ⟨s4,vs,rfl,RK,RL,XR⟩ Qr nx
    have XS:m<w.length:=(Kr.mp hm).1
    have es:=qc (band:=band) (c:=j) hm
    rw[show w5 band l=(decide (l=band)||decide (l=az band)) from rfl]at es
    refine ⟨T2,_,rfl,bY.of ag,rfl,_,_,rfl,_,_,rfl,rfl,?_⟩
    refine ⟨⟨rfl,rfl,trivial⟩,?_⟩
    have L0:=ak.upd (o:= .tup [.int m, .str (S [l])]) Qr
    refine ⟨_,rfl,_,rfl,_,rfl,band,rfl,T5,by show 2<=sizeLine;decide,fun t nt=>?_⟩
    refine ⟨t,_,rfl, .inr (bY.of ag),rfl,rfl,_,rfl,?_⟩
    have Qt:=L0.trans (ak.upd (o:= .tup [.str (S [band]), .str (S [az band])]) nt)
    generalize upd (upd H4 T2 (.tup [.int m, .str (S [l])])) t (.tup [.str (S [band]), .str (S [az band])])=H5 at Qt ⊢
    show if Kh (.str (S [l])) [.str (S [band]), .str (S [az band])]=true then _ else _
    rw[z_]
    refine bJ (fun z=>?_) (fun z=>?_)
    ·rw[if_pos z]at es
     refine ⟨_,rfl,_,rfl,by show 2<=sizeLine;decide,fun t2 VA=>?_⟩
     refine nx _ _ (by simpa using nP) ⟨(s4.trans Qt).trans (ak.upd VA),vs++[⟨t2,j,m⟩],wZ vs ⟨t2,j,m⟩,fun p hp=>?_,by rw[Wx,RL,es];rfl,by rw[UO];show vs.length+1<=_;omega⟩
     rcases Zh.mp hp with g | g
     ·exact (RK p g).same (Qt.trans (ak.upd VA))
     ·have e2:=Wv.mp g
      subst e2
      exact ⟨ag,by show j<1000;omega,by show m<1000;omega⟩
    ·rw[if_neg z,Zy]at es
     exact nx _ _ (Qb5 nP) ⟨s4.trans Qt,vs,rfl,fun p hp=>(RK p hp).same Qt,by rw[es];exact RL,by omega⟩
   ·rintro acc H4 D nP ⟨s4,vs,rfl,RK,RL,XR⟩ hD
    have L1:=s4 _ _ Qs
    refine ⟨p3,D,_,_,rfl,rfl,(ak.upd hD) _ _ L1,ag,by rw[jO,jO];omega,?_⟩
    rw[Hy]
    have JA:ak H3 (upd H4 D (.lst (kh vs))):=(Vz.trans s4).trans (ak.upd hD)
    have Qu:=(ak.upd (o:= .lst (kh vs)) hD) _ _ L1
    have XT:H2 p3=none:=n3
    refine ⟨ps++vs,_,_,rfl,ag,fun p hp=>?_,by rw[Wx,j9,RL,nL Gx],by rw[UO];omega,fun a o ea=>by rw[ar (au ea XT)];exact JA _ _ (s3 a o ea)⟩
    rcases Zh.mp hp with g | g
    ·exact ((vC p g).same JA).ts (bQ.wg Qu)
    ·exact ((RK p g).same (ak.upd hD)).ts (bQ.wg Qu)
  ·rintro σ H3 ⟨ps,XO,XQ,rfl,xE,vC,j9,iQ,s3⟩
   rw[cb]at j9 iQ
   have iU:=iJ.same s3
   have b3:p3≠b:=iJ.ne n3
   have Im:=s3 _ _ jq
   refine ⟨_,rfl, .inl ⟨rfl,_,ba.of Im⟩,?_⟩
   refine ⟨_,rfl,_,rfl,b, .ref p3,kh ps,rfl,iU, .inl ⟨p3,rfl, .inl (ba.of xE)⟩,by rw[jO];omega,fun qa ys H4 nq qb hq pR qQ s4=>?_⟩
   obtain ⟨JB,e1,e2⟩:=y6 (f:=fun p:Pr=>V.ref p.t) pR ps rfl
   have e3:ys=kh JB:=e1
   subst e3
   have T6:=bQ.box iU s4
   refine ⟨qa,_,rfl, .inl ⟨ba.of hq,fun t nt=>?_⟩⟩
   have T7:aN b H2 (upd H4 t (.tup (kh JB))):=((aN.of s3).trans s4).after (ak.upd nt)
   have L3:=T7 _ _ jq Cr
   have T8:bQ H4 (upd H4 t (.tup (kh JB))):=bQ.cU nt
   refine ⟨p1,_,_,rfl,rfl,L3,by rw[HA];omega,?_⟩
   have VB:=(T6.trans T8).trans (bQ.wg (o:= .lst (yZ os++[.ref t])) L3)
   have KI: ∀p∈JB,p∈ps:=fun p hp=>e2.mem_iff.mp hp
   have hlen:=e2.length_eq
   refine ⟨os++[⟨t,JB⟩],_,_,_,_,rfl,by rw[ag];exact congrArg (fun x=>some (HO.lst x)) (w4 os ⟨t,JB⟩),by rw[ar (Ne.symm CP)];exact T7 _ _ kS Fx,by simp[B7],fun o ho=>?_,fun j o c hj hc=>?_,?_,?_⟩
   ·rcases Zh.mp ho with g | g
    ·exact ((G_ o g).same s3).ts VB
    ·have eo:=Wv.mp g
     subst eo
     refine ⟨?_,fun p hp=>(vC p (KI p hp)).ts VB,by show JB.length<=100;omega⟩
     exact (bQ.wg (o:= .lst (yZ os++[.ref t])) L3) _ _ ag
   ·by_cases cT:j<os.length
    ·rw[ZE cT]at hj
     exact Gw j o c hj hc
    ·have TZ:j=os.length:=by
      have:=(Kr.mp hj).1
      rw[UO]at this
      have:j<os.length+1:=this
      omega
     subst TZ
     rw[ZT (UP _),Qcn]at hj
     have eo:(⟨t,JB⟩:Od)=o:=by simpa using hj
     rw[B7,FE]at hc
     have ec:band=c:=Zc hc
     subst eo
     subst ec
     exact (e2.map Pr.pair).trans (by rw[j9])
   ·exact ((qQ.same (ak.upd nt)).cU Cr)
   ·exact (s2.trans T7).cU n1
 ·rintro σ H2 ⟨os,bv,sv,cv,wv,rfl,jq,kS,B7,G_,Gw,iJ,s2⟩
  rw[aU]at B7
  have Il:=s2 _ _ tI Vy
  refine ⟨_,rfl,wt,_,rfl, .inl ⟨ba.of Il,fun tw XU=>?_⟩⟩
  have sW:=ak.upd (o:=HO.tup (g6 ws)) XU
  have VC:upd H2 tw (HO.tup (g6 ws)) tw=some (HO.tup (g6 ws)):=ag
  have iU:=iJ.same sW
  have s3:=s2.after sW
  have Im:=sW _ _ jq
  have Qv: ∀o∈os,p_ (upd H2 tw (HO.tup (g6 ws))) o:=fun o ho=>(G_ o ho).same sW
  generalize upd H2 tw (HO.tup (g6 ws))=H3 at VC iU s3 Im Qv ⊢
  refine ⟨_,rfl,p1,_,rfl, .inl ⟨ba.of Im,fun t nt=>?_⟩⟩
  refine ⟨by show 2<=sizeLine;decide,fun dr L4=>?_⟩
  have sA:ak H3 (upd (upd H3 t (.tup (yZ os))) dr (.tup [.ref tw, .ref t])):=(ak.upd nt).trans (ak.upd L4)
  have T9:t≠dr:=fun z=>by rw[<-z,ag]at L4;cases L4
  refine q dr os _ ⟨⟨tw,t,ag,sA _ _ VC,by rw[ar T9,ag]⟩,fun o ho=>(Qv o ho).same sA⟩ ⟨B7,Gw⟩ (iU.same sA) (s3.after sA)
theorem nj:br P w K mg base eG 2 MH Nl ["word","cord","place"] (gR K):=by
 have bE:=cZ (P:=P) (w:=w) (base:=base) T
 refine T.Rk.fn.ok gX (fun vs H Q E h=>lS h) (fun cu A outer s H vs Q E hr h=>?_)
 refine ⟨_,(ae (ao (i:=3) gX.nd rfl (Or.inl rfl) (aC dE (aC cj (pv 2) ah) (aB aT rfl T.z_len Zf (aa (pv 0) ab))))
   (ai (aE (cO (aa (cO (aa (pv 1) (aa (pv 3) (aa (aj bE (hr.mono (by decide)) rfl T.F0.mg T.F0.fn.kp T.F0.bd .nil ay (aa (aM hU (pv 0) (pv 3) (fun _ _=>rfl)) ab)) ab)))) (aa (cO (aa (pv 1) (aa (pv 2) (aa (aM hU (pv 0) (pv 2) (fun _ _=>rfl)) ab)))) ab)))))),?_⟩
 obtain ⟨w,c,i,rfl,T_,hi,hz,q⟩:=h
 have hs:(100000:Nat)<sizeLine:=by decide
 have hp:(0:Int)<(w.length:Int):=by omega
 have XW:=AE hi
 have iQ:=uN hi
 have e1:w.getD (oQ w.length i) 0=w[oQ w.length i]:=by rw[Wy,Kq iQ];rfl
 have e2:w.getD i 0=w[i]:=by rw[Wy,Kq hi];rfl
 rw[e1,e2]at q
 refine ⟨_,rfl,_,_,rfl,rfl,_,rfl,w,rfl,by omega,_,_,rfl,rfl,hp,?_⟩
 show vL 3 (V.int (((i:Int) - 1)%(w.length:Int))) _ _ _
 rw[XW]
 refine ⟨_,rfl,_,rfl,_,rfl,_,rfl,w,_,_,rfl,rfl,by omega,b8 (Kq iQ),_,rfl,T_ _ (ZF iQ),by show 3<=sizeLine;decide,fun t1 n1=>?_⟩
 refine ⟨_,rfl,_,rfl,_,rfl,_,rfl,w,_,_,rfl,rfl,by omega,b8 (Kq hi),by show 3<=sizeLine;decide,fun t2 n2=>?_⟩
 refine ⟨by show 2<=sizeLine;decide,fun t nt=>?_⟩
 have Ua:=(ak.upd (o:= .tup [.ref t1, .ref t2]) nt)
 refine q t t1 t2 _ ag (Ua _ _ ((ak.upd n2) _ _ ag)) (Ua _ _ ag) ((ak.upd n1).trans ((ak.upd n2).trans Ua))
theorem qS:br P w K mg base eG 4 MI Nm ["yard","drawing"] (qf K):=by
 have FF:=Cs (P:=P) (w:=w) (base:=base) T
 have ou:=nj (P:=P) (w:=w) (base:=base) T
 refine T.LN.fn.ok cG (fun vs H Q E h=>xb h) (fun cu A outer s H vs Q E hr h=>?_)
 refine ⟨_,(ae (ao (i:=2) cG.nd rfl (Or.inl rfl) DH)
   (ae (b5 PassesOwn.never rfl (wd K rfl rfl T.z_enumerate (aa (aj FF (hr.mono (by decide)) rfl T.Rj.mg T.Rj.fn.kp T.Rj.bd .nil ay (aa (pv 0) (aa (pv 1) ab))) ab)) (gg (n:=2) K rfl rfl (bU (aI (i:=3) cG.nd rfl (Or.inl rfl)) (bU (aI (i:=4) cG.nd rfl (Or.inl rfl)) fZ))) (ai (uc (pb hr) (pv 2) (pv 4) (pv 3) rfl)))
   (ae (ao (i:=5) cG.nd rfl (Or.inl rfl) (dj ab))
   (ae (b5 PassesOwn.never rfl (wc K rfl rfl T.z_enumerate (aa (aM (aV K rfl) (pv 1) ah (fun _ _=>rfl)) ab)) (gg (n:=2) K rfl rfl (bU (aI (i:=6) cG.nd rfl (Or.inl rfl)) (bU (aI (i:=7) cG.nd rfl (Or.inl rfl)) fZ))) (ai (b5 PassesOwn.never rfl (eJ rfl T.z_range (aa (aB aT rfl T.z_len Zf (aa (pv 7) ab)) ab)) (aI (i:=8) cG.nd rfl (Or.inl rfl)) (ae (ao (i:=9) cG.nd rfl (Or.inl rfl) (aj ou (hr.mono (by decide)) rfl T.Rk.mg T.Rk.fn.kp T.Rk.bd .nil ay (aa (pv 7) (aa (pv 6) (aa (pv 8) ab)))))
   (ai (cR (bK K rfl Zr ZZ ZY c_ (pv 5) (aa (cO (aa (pv 6) (aa (pv 8) (aa (oK (pb hr) (pv 2) (aM (aV K rfl) (pv 9) ah (fun _ _=>rfl)) (fun _ _=>rfl)) (aa (oK (pb hr) (pv 2) (aM (aV K rfl) (pv 9) ah (fun _ _=>rfl)) (fun _ _=>rfl)) ab))))) ab))))))))
   (ai (aE (pv 5))))))),?_⟩
 obtain ⟨y,dr,ws,os,rfl,hy,hz,j7,Gw,hd,q⟩:=h
 have hs:(100000:Nat)<sizeLine:=by decide
 have XX:=uL hy Gw
 have N3:=dy hy
 have B7:=Gw.1
 have XN:=j7.xN
 obtain ⟨⟨wt,ot,d1,d2,d3⟩,dO⟩:=id hd
 walk_at "wk"
 intro d nd
 refine ⟨_,rfl,_,rfl,y,dr,ws,os,rfl,hy,hz,by omega,hd.same (ak.upd nd),fun p1 ps H1 n1 jq vC j9 Tt s1=>?_⟩
 have VD:=s1 _ _ (ag (H:=H) (a:=d) (o:=HO.dT []))
 have Gs:ak H H1:=(ak.upd nd).trans s1
 have iQ:ps.length=(bg y os).length:=by rw[<-j9,QW]
 refine ⟨p1,rfl,⟨_,ba.of jq⟩,?_⟩
 have XY:p1≠d:=fun z=>by rw[z,ag]at n1;cases n1
 refine sj (K:=K) (a:=p1) (xs:=Gf ps) (fun i σ H'=> ∃(aP:List (List Key×V)) (nv pv:Option V),σ=[some (.str (S y)),some (.ref dr),some (.ref d),nv,pv,none,none,none,none,none]/\H' d=some (.dT aP)/\Nums (bg y os) aP i/\aP.length<=i/\aN d H1 H')
  ⟨[],none,none,rfl,VD,fun p hp=>absurd hp (by simp),Zg _,aN.refl _ _⟩ (fun i σ H' _ ⟨_,_,_,_,_,_,_,h⟩=>ba.of (h _ _ jq XY)) ?_ ?_
 ·rintro i x σ H2 T hx ⟨aP,nv,pv,rfl,hd2,Io,XZ,s2⟩ nT
  obtain ⟨p,hp,rfl⟩: ∃p,ps[i]? =some p/\x=V.ref p.t:=by
   unfold Gf at hx
   rw[Zk]at hx
   cases e:ps[i]? with
   | none=>rw[e]at hx;cases hx
   | some p=>rw[e]at hx;cases hx;exact ⟨p,rfl,rfl⟩
  have hi:i<ps.length:=(Kr.mp hp).1
  have pk:=(vC p (UQ hp)).1.tp
  have X0:p.t≠d:=fun z=>by rw[z,VD]at pk;cases pk
  have X1:d≠T:=au hd2 nT
  refine ⟨T,_,rfl,bY.of ag,rfl,_,_,rfl,_,_,rfl,rfl,?_⟩
  refine ⟨_,rfl,_,rfl,_,rfl,d,_,rfl,ua.t (k:=uM p.is) (by rw[ar X1];exact hd2) ((ak.upd nT) _ _ (s2 _ _ pk X0)) (by omega),?_⟩
  exact ⟨_,_,_,rfl,ag,Io.put XX (PY j9 hp),ZG (gh _ _ _) (by omega),fun a o ea z=>by rw[ar z];exact (ak.upd nT) _ _ (s2 a o ea z)⟩
 ·rintro σ H2 ⟨aP,nv,pv,rfl,hd2,Io,XZ,s2⟩
  rw[AB,iQ]at Io
  have JC: ∀p∈bg y os,dq aP (uM p)=some (.int ((bg y os).idxOf p:Nat)):=fun p hp=>Io p (by rw[ZX];exact hp)
  have vD:ak H H2:=fun a o ea=>s2 a o (Gs a o ea) (au ea nd)
  walk_at "wk"
  intro p2 n2
  have Ub:=ak.upd (o:= .lst []) n2
  have T4:H p2=none:=ak.free vD n2
  refine ⟨_,rfl,dr,_,0,_,rfl,rfl,bY.of (Ub _ _ (vD _ _ d1)),rfl,?_⟩
  refine ⟨wt,rfl,⟨_,bY.of (Ub _ _ (vD _ _ d2))⟩,?_⟩
  refine si (K:=K) (a:=wt) (xs:=g6 ws) (fun j σ H'=> ∃(qs:List Q4) (cv wv iv av:Option V),σ=[some (.str (S y)),some (.ref dr),some (.ref d),nv,pv,some (.ref p2),cv,wv,iv,av]/\H' p2=some (.lst (jQ qs))/\(∀x∈qs,kJ H' x)/\qs.map Q4.v=eE (bg y os) ws j/\qs.length<=12*j/\ak H2 H')
   ⟨[],none,none,none,none,rfl,ag,fun _ h=>absurd h Zl,rfl,Zg _,Ub⟩ (fun j σ H' _ ⟨_,_,_,_,_,_,_,_,_,_,h⟩=>bY.of (h _ _ (vD _ _ d2))) ?_ ?_
  ·rintro j x σ H3 T hx ⟨qs,cv,wv,iv,av,rfl,xE,Gy,A2,RM,s3⟩ nT
   have hj:j<ws.length:=by
    have:=(Kr.mp hx).1
    rwa [cb]at this
   rw[jd hj]at hx
   cases hx
   have Gx:ws[j]? =some ws[j]:=Kq hj
   obtain ⟨Gj,oZ⟩:=j7.all _ (ZF hj)
   generalize ws[j]=w at Gx Gj oZ ⊢
   have T_: ∀l∈w,l<128:=fun l hl=>(hy.lt l (Gj l hl)).lt
   have sT:=ak.upd (o:= .tup [.int j, .str (S w)]) nT
   refine ⟨T,_,rfl,bY.of ag,rfl,_,_,rfl,_,_,rfl,rfl,?_⟩
   refine ⟨_,rfl,w,rfl,by omega,_,rfl,by omega,by omega,?_⟩
   rw[YR]
   refine dM (fun i σ H'=> ∃(us:List Q4) (iv av:Option V),σ=[some (.str (S y)),some (.ref dr),some (.ref d),nv,pv,some (.ref p2),some (.int j),some (.str (S w)),iv,av]/\H' p2=some (.lst (jQ us))/\(∀x∈us,kJ H' x)/\us.map Q4.v=eE (bg y os) ws j++eB (bg y os) j w i/\us.length<=12*j+i/\ak H2 H')
    ⟨qs,iv,av,rfl,sT _ _ xE,fun x hx=>(Gy x hx).ts (bQ.of sT),by rw[A2];show _=_++[];rw[Zy],by omega,s3.trans sT⟩ ?_ ?_
   ·rintro i σ H4 hi ⟨us,X2,X3,rfl,L1,CF,Ct,Gu,s4⟩
    have e1:w[oQ w.length i]? =some (w.getD (oQ w.length i) 0):=by rw[Wy,Kq (uN hi)];rfl
    have e2:w[i]? =some (w.getD i 0):=by rw[Wy,Kq hi];rfl
    have m1:=JC _ (sZ hy Gw Gx e1 (Gj _ (UQ e1)) (.inr rfl))
    have m2:=JC _ (sZ hy Gw Gx e2 (Gj _ (UQ e2)) (.inl rfl))
    refine ⟨_,rfl,_,rfl,_,rfl,w,j,i,by rw[Qb1];rfl,T_,hi,by omega,fun t t1 t2 H5 ht A1 Ij s5=>?_⟩
    have X4:=s5 _ _ L1
    have VE:=s5 _ _ (s4 _ _ hd2)
    refine ⟨_,rfl, .inl ⟨rfl,_,ba.of X4⟩,_,rfl,_,rfl,?_⟩
    refine ⟨_,rfl,_,rfl,t,_,0,_,rfl,rfl,bY.of ht,rfl,d,_,rfl,by rw[<-m1];exact pT.t VE A1,?_⟩
    refine ⟨_,rfl,_,rfl,t,_,1,_,rfl,rfl,bY.of ht,rfl,d,_,rfl,by rw[<-m2];exact pT.t VE Ij,?_⟩
    rw[Qb1]
    refine ⟨by show 4<=sizeLine;decide,fun tq X5=>?_⟩
    have s6:=s5.trans (ak.upd (o:= .tup [.int j, .int i, .int ((bg y os).idxOf (j,oQ w.length i,az (w.getD (oQ w.length i) 0)):Nat), .int ((bg y os).idxOf (j,i,w.getD i 0):Nat)]) X5)
    have Uc:=s6 _ _ L1
    refine ⟨p2,_,_,rfl,rfl,Uc,by rw[gn];omega,?_⟩
    refine ⟨us++[⟨tq,bp (bg y os) j w i⟩],_,_,rfl,by rw[ag];exact congrArg (fun x=>some (HO.lst x)) (xa us ⟨tq,bp (bg y os) j w i⟩),fun x hx=>?_,by rw[Wx,Ct,w9,Qaj];rfl,by rw[UO];show us.length+1<=_;omega,fun a o ea=>by rw[ar (au ea n2)];exact s6 _ _ (s4 a o ea)⟩
    rcases Zh.mp hx with g | g
    ·exact (CF x g).ts ((bQ.of s6).trans (bQ.wg Uc))
    ·have e3:=Wv.mp g
     subst e3
     exact (bQ.wg Uc) _ _ ag
   ·rintro σ H4 ⟨us,X2,X3,rfl,L1,CF,Ct,Gu,s4⟩
    exact ⟨us,_,_,_,_,rfl,L1,CF,by rw[Ct,iq Gx],by omega,s4⟩
  ·rintro σ H3 ⟨qs,cv,wv,iv,av,rfl,xE,Gy,A2,RM,s3⟩
   rw[cb]at A2
   exact ⟨_,rfl,q p2 qs H3 T4 xE Gy A2 (vD.trans s3)⟩
theorem ow:br P w K mg base eG 1 MJ Nn ["one","other"] (iL K):=by
 refine T.Rl.fn.ok fD (fun vs H Q E h=>mO h) (fun cu A outer s H vs Q E hr h=>?_)
 refine ⟨_,(ae (ao (i:=2) fD.nd rfl (Or.inl rfl) (aB (mw rfl) rfl T.z_min boot_min (aa (aM (aV K rfl) (pv 0) ah (fun _ _=>rfl)) (aa (aM (aV K rfl) (pv 0) ah (fun _ _=>rfl)) ab))))
   (ae (ao (i:=3) fD.nd rfl (Or.inl rfl) (aB (rP rfl) rfl T.z_max boot_max (aa (aM (aV K rfl) (pv 0) ah (fun _ _=>rfl)) (aa (aM (aV K rfl) (pv 0) ah (fun _ _=>rfl)) ab))))
   (ai (aE (f_ KC (vO gJ gJ (pv 2) (aM (aV K rfl) (pv 1) ah (fun _ _=>rfl)) (pv 3)) (vO gJ gJ (pv 2) (aM (aV K rfl) (pv 1) ah (fun _ _=>rfl)) (pv 3)) (aK _)))))),?_⟩
 obtain ⟨a,b,rfl,ha,hb,q⟩:=h
 refine ⟨_,rfl,a.t,_,2,_,rfl,rfl,bY.of ha,rfl,_,rfl,a.t,_,3,_,rfl,rfl,bY.of ha,rfl,_,_,rfl,?_⟩
 refine ⟨_,rfl,a.t,_,2,_,rfl,rfl,bY.of ha,rfl,_,rfl,a.t,_,3,_,rfl,rfl,bY.of ha,rfl,_,_,rfl,?_⟩
 have key: ∀X Y:Bool,X=xQ (if (a.v.2.2.2:Int)<a.v.2.2.1 then (a.v.2.2.2:Int) else a.v.2.2.1) (if (a.v.2.2.2:Int)>a.v.2.2.1 then (a.v.2.2.2:Int) else a.v.2.2.1) b.v.2.2.1->Y=xQ (if (a.v.2.2.2:Int)<a.v.2.2.1 then (a.v.2.2.2:Int) else a.v.2.2.1) (if (a.v.2.2.2:Int)>a.v.2.2.1 then (a.v.2.2.2:Int) else a.v.2.2.1) b.v.2.2.2->Q (.bl (!decide (X=Y))) H:=fun X Y hX hY=>by
  rw[hX,hY]
  exact q
 refine ⟨_,rfl,_,rfl,b.t,_,2,_,rfl,rfl,bY.of hb,rfl,_,_,rfl,rfl,_,rfl,bJ (fun z1=>?_) (fun z1=>?_)⟩
 ·refine ⟨_,rfl,_,_,rfl,rfl,?_⟩
  refine ⟨_,rfl,_,rfl,b.t,_,3,_,rfl,rfl,bY.of hb,rfl,_,_,rfl,rfl,_,rfl,bJ (fun z2=>?_) (fun z2=>?_)⟩
  ·exact ⟨_,rfl,_,_,rfl,rfl,_,_,rfl,rfl,key _ _ (by unfold xQ;rw[z1];rfl) (by unfold xQ;rw[z2];rfl)⟩
  ·exact ⟨_,_,rfl,rfl,key _ _ (by unfold xQ;rw[z1];rfl) (by unfold xQ;rw[Qb8.mpr z2];rfl)⟩
 ·refine ⟨_,rfl,_,rfl,b.t,_,3,_,rfl,rfl,bY.of hb,rfl,_,_,rfl,rfl,_,rfl,bJ (fun z2=>?_) (fun z2=>?_)⟩
  ·exact ⟨_,rfl,_,_,rfl,rfl,_,_,rfl,rfl,key _ _ (by unfold xQ;rw[Qb8.mpr z1];rfl) (by unfold xQ;rw[z2];rfl)⟩
  ·exact ⟨_,_,rfl,rfl,key _ _ (by unfold xQ;rw[Qb8.mpr z1];rfl) (by unfold xQ;rw[Qb8.mpr z2];rfl)⟩
theorem Ip:br P w K mg base eG 1 M3 NM ["corner","other","many"] (AZ K):=by
 refine T.RA.fn.ok ve (fun vs H Q E h=>E8 h) (fun cu A outer s H vs Q E hr h=>?_)
 refine ⟨_,(ae (ao (i:=3) ve.nd rfl (Or.inl rfl) (aC dE (aC cj (aM (aV K rfl) (pv 0) ah (fun _ _=>rfl)) (aM (aV K rfl) (pv 0) ah (fun _ _=>rfl))) (pv 2)))
   (ae (ao (i:=4) ve.nd rfl (Or.inl rfl) (aC dE (aC cj (aM (aV K rfl) (pv 1) ah (fun _ _=>rfl)) (aM (aV K rfl) (pv 0) ah (fun _ _=>rfl))) (pv 2)))
   (ai (aE (vJ (aG gJ (pv 4) (pv 3) (aK _)) ah (iF ft ah)))))),?_⟩
 obtain ⟨a,b,m,rfl,ha,hb,hm,q⟩:=h
 refine ⟨_,rfl,a.t,_,3,_,rfl,rfl,bY.of ha,rfl,_,rfl,a.t,_,2,_,rfl,rfl,bY.of ha,rfl,_,_,rfl,rfl,_,rfl,_,_,rfl,rfl,hm,?_⟩
 refine ⟨_,rfl,b.t,_,2,_,rfl,rfl,bY.of hb,rfl,_,rfl,a.t,_,2,_,rfl,rfl,bY.of ha,rfl,_,_,rfl,rfl,_,rfl,_,_,rfl,rfl,hm,?_⟩
 refine ⟨_,rfl,_,rfl,_,_,rfl,rfl,_,rfl,bJ (fun z=>?_) (fun z=>?_)⟩
 ·have e:ku m a.v b.v=1:=if_pos z
  rw[e]at q
  exact q
 ·have e:ku m a.v b.v= -1:=if_neg z
  rw[e]at q
  exact ⟨_,rfl,q⟩
theorem FG:br P w K mg base eG 5 M4 NN ["yard","drawing","c","d"] (xp K):=by
 have nk:=qS (P:=P) (w:=w) (base:=base) T
 have qT:=ow (P:=P) (w:=w) (base:=base) T
 have L5:=Ip (P:=P) (w:=w) (base:=base) T
 refine T.LR.fn.ok gY (fun vs H Q E h=>Cj h) (fun cu A outer s H vs Q E hr h=>?_)
 refine ⟨_,(ae (ao (i:=4) gY.nd rfl (Or.inr rfl) (aj nk (hr.mono (by decide)) rfl T.LN.mg T.LN.fn.kp T.LN.bd .nil ay (aa (pv 0) (aa (pv 1) ab))))
   (ae (Dt (i:=5) ["corner","d"] [none,some 3] gY.nd rfl (Or.inl rfl) (eh K rfl (pv 4)) ⟨⟨rfl,rfl,by first | exact .inl rfl | exact .inr rfl⟩,trivial⟩ (fun _ _ _ _=>(aI (i:=0) (by decide+kernel:List.Nodup (["corner","d"]:List Str)) rfl (Or.inl rfl))) (fun _ _ _ _=>(pj (aG gz (aM (aV K rfl) (pv 0) ah (fun _ _=>rfl)) (pv 1) (aK _)))) (fun _ _ _ _=>(pv 0)))
   (ae (ao (i:=6) gY.nd rfl (Or.inl rfl) ah)
   (ae (b5 PassesOwn.never rfl (eh K rfl (pv 4)) (aI (i:=7) gY.nd rfl (Or.inr rfl)) (ai (bT (aG gz (aM (aV K rfl) (pv 7) ah (fun _ _=>rfl)) (pv 2) (aK _)) (ai (g9 (i:=6) gY.nd rfl (Or.inl rfl) (aB (sE K rfl rfl) rfl T.z_sum boot_sum (aa (bV ["other","corner","every"] [none,some 7,some 4] (eh K rfl (pv 5)) ⟨⟨rfl,rfl,by first | exact .inl rfl | exact .inr rfl⟩,⟨⟨rfl,rfl,by first | exact .inl rfl | exact .inr rfl⟩,trivial⟩⟩ (fun _ _ _ _=>(aI (i:=0) (by decide+kernel:List.Nodup (["other","corner","every"]:List Str)) rfl (Or.inl rfl))) (fun _ _ _ _=>(pj (g8 (aj qT (hr.mono (by decide)) rfl T.Rl.mg T.Rl.fn.kp T.Rl.bd .nil ay (aa (pv 1) (aa (pv 0) ab)))))) (fun _ _ _ _=>(aj L5 (hr.mono (by decide)) rfl T.RA.mg T.RA.fn.kp T.RA.bd .nil ay (aa (pv 1) (aa (pv 0) (aa (aC gw ah (aB (aW K rfl) rfl T.z_len Zf (aa (pv 2) ab))) ab)))))) ab)) mr)) bf)))
   (ai (aE (pv 6))))))),?_⟩
 obtain ⟨y,dr,ws,os,c,d,rfl,hy,hz,j7,Gw,hd,q⟩:=h
 have hs:(100000:Nat)<sizeLine:=by decide
 have Qn:=B8 (os:=os) j7
 refine ⟨_,rfl,_,rfl,y,dr,ws,os,rfl,hy,hz,j7,Gw,hd,fun ev qs H1 n1 h1 Gy A2 s1=>?_⟩
 have RM:qs.length=(bI y ws os).length:=by rw[<-A2,QW]
 refine ⟨_,rfl,ev,rfl,⟨_,ba.of h1⟩,?_⟩
 refine mG (K:=K) (a:=ev) (xs:=jQ qs) (fun i acc H'=>H'=H1/\acc=jQ ((qs.take i).filter fun x=>decide (x.v.1=d))) (by rw[gn];omega) (fun i acc H' h=>by rw[h.1];exact ba.of h1) ⟨rfl,rfl⟩ ?_ ?_
 ·rintro i x acc H2 Nx hi hx hl ⟨rfl,rfl⟩ nx
  obtain ⟨u,hu,rfl⟩:=uO hx
  have ho:=Gy u (UQ hu)
  refine ⟨⟨rfl,trivial⟩,?_⟩
  refine ⟨_,rfl,u.t,_,0,_,rfl,rfl,bY.of ho,rfl,_,rfl,_,_,rfl,rfl,_,rfl,bJ (fun z=>?_) (fun z=>?_)⟩
  ·have z':u.v.1=d:=by have:=of_decide_eq_true z;omega
   refine ⟨_,rfl,nx _ _ (by simpa using hl) ⟨rfl,?_⟩⟩
   rw[<-take_snoc hu,ZU,E9 _ u (decide_eq_true z'),xa]
  ·have z': ¬u.v.1=d:=fun y=>z (decide_eq_true (by omega))
   refine nx _ _ (by omega) ⟨rfl,?_⟩
   rw[<-take_snoc hu,ZU,E_ _ u (by simpa using z'),Zy]
 ·rintro acc H2 D hl ⟨rfl,rfl⟩ hD
  rw[gn,ZX]
  replace hl:(qs.filter fun x=>decide (x.v.1=d)).length<=qs.length:=Qa9 _ _
  have sD:=ak.upd (o:=HO.lst (jQ (qs.filter fun x=>decide (x.v.1=d)))) hD
  have N5:upd H2 D (HO.lst (jQ (qs.filter fun x=>decide (x.v.1=d)))) D=some (HO.lst (jQ (qs.filter fun x=>decide (x.v.1=d)))):=ag
  have N1:=sD _ _ h1
  have Cu:=s1.trans sD
  have L6: ∀x∈qs,kJ (upd H2 D (HO.lst (jQ (qs.filter fun x=>decide (x.v.1=d))))) x:=fun x hx=>(Gy x hx).ts (bQ.of sD)
  generalize upd H2 D (HO.lst (jQ (qs.filter fun x=>decide (x.v.1=d))))=H3 at N5 N1 Cu L6 ⊢
  have VF:(qs.filter fun x=>decide (x.v.1=d)).map Q4.v=AV (bI y ws os) d:=by
   unfold AV
   rw[<-A2,Qdu]
   rfl
  have VG: ∀x∈(qs.filter fun x=>decide (x.v.1=d)),x∈qs:=fun x hx=>(ZH.mp hx).1
  generalize (qs.filter fun x=>decide (x.v.1=d))=ds at N5 VF VG hl
  have hm:((2:Int)*((bI y ws os).length:Int))=2*(qs.length:Int):=by rw[RM]
  refine ⟨_,rfl,ev,rfl,⟨_,ba.of N1⟩,?_⟩
  refine gI (K:=K) (a:=ev) (xs:=jQ qs) (fun i σ H'=> ∃(cv:Option V),σ=[some (.str (S y)),some (.ref dr),some (.int c),some (.int d),some (.ref ev),some (.ref D),some (.int (oj (((AV ((qs.take i).map Q4.v) c)).map fun x=>Ci (2*(qs.length:Int)) x (AV (bI y ws os) d)))),cv]/\ak H3 H') ⟨_,rfl,ak.refl _⟩ (fun i σ H' _ ⟨_,_,h⟩=>ba.of (h _ _ N1)) ?_ ?_
  ·rintro i x σ H4 hx ⟨cv,rfl,s4⟩
   obtain ⟨u,hu,rfl⟩:=uO hx
   have VH:=UQ hu
   have ho:=(L6 u VH).ts (bQ.of s4)
   have e1:(qs.take (i+1)).map Q4.v=(qs.take i).map Q4.v++[u.v]:=by rw[<-take_snoc hu,Wx];rfl
   refine ⟨_,rfl,u.t,_,0,_,rfl,rfl,bY.of ho,rfl,_,rfl,_,_,rfl,rfl,_,rfl,bJ (fun z=>?_) (fun z=>?_)⟩
   ·have z':u.v.1=c:=by have:=of_decide_eq_true z;omega
    have YZ:0<qs.length:=Qco VH
    refine ⟨_,rfl,_,rfl,D,rfl,⟨_,ba.of (s4 _ _ N5)⟩,?_⟩
    refine mG (K:=K) (a:=D) (xs:=jQ ds) (fun j acc H'=>H'=H4/\acc=(((ds.take j).map Q4.v).filter (meets u.v)).map fun o=>V.int (ku (2*(qs.length:Int)) u.v o)) (by rw[gn];omega) (fun i acc H' h=>by rw[h.1];exact ba.of (s4 _ _ N5)) ⟨rfl,rfl⟩ ?_ ?_
    ·rintro j x acc H5 Nx hj hx Qw ⟨rfl,rfl⟩ nx
     obtain ⟨o,VI,rfl⟩:=uO hx
     have P4:=(L6 o (VG o (UQ VI))).ts (bQ.of s4)
     have e2:(ds.take (j+1)).map Q4.v=(ds.take j).map Q4.v++[o.v]:=by rw[<-take_snoc VI,Wx];rfl
     refine ⟨⟨rfl,rfl,trivial⟩,?_⟩
     refine ⟨_,rfl,_,rfl,u,o,rfl,ho,P4,_,rfl,bJ (fun z=>?_) (fun z=>?_)⟩
     ·refine ⟨_,rfl,_,rfl,_,rfl,ev,_,rfl, .inl (ba.of (s4 _ _ N1)),?_⟩
      rw[gn]
      refine ⟨_,_,rfl,rfl, .inl ⟨by omega,by omega⟩,u,o,_,rfl,ho,P4,by omega,nx _ _ (by simpa using Qw) ⟨rfl,?_⟩⟩
      rw[e2,ZU,E9 _ o.v z,Wx]
      rfl
     ·refine nx _ _ (by omega) ⟨rfl,?_⟩
      rw[e2,ZU,E_ _ o.v z,Zy]
    ·rintro acc H5 D2 Qw ⟨rfl,rfl⟩ Ud
     rw[gn,ZX,VF]
     refine ⟨D2,((AV (bI y ws os) d).filter (meets u.v)).map (ku (2*(qs.length:Int)) u.v),rfl,ba.of (by rw[ag,ZV];rfl),?_⟩
     rw[oW, <-HY]
     refine ⟨_,_,rfl,rfl,some (.ref u.t),?_,s4.trans (ak.upd Ud)⟩
     have et: ∀f:C4->Int,oj ((AV ((qs.take i).map Q4.v++[u.v]) c).map f)=oj ((AV ((qs.take i).map Q4.v) c).map f)+f u.v:=fun f=>by
      unfold AV
      rw[ZU,E9 _ u.v (decide_eq_true z'),Wx,AU]
      show _+(f u.v+0)=_
      omega
     rw[e1,et]
     rfl
   ·have z': ¬u.v.1=c:=fun y=>z (decide_eq_true (by omega))
    refine ⟨some (.ref u.t),?_,s4⟩
    rw[e1]
    unfold AV
    rw[ZU,E_ _ u.v (by simpa using z'),Zy]
    rfl
  ·rintro σ H4 ⟨cv,rfl,s4⟩
   rw[gn,ZX,A2]
   have:=q H4 (Cu.trans s4)
   unfold kM at this
   rw[hm]at this
   exact ⟨_,rfl,this⟩
theorem tJ:br P w K mg base eG 2 f1 d1 ["word"] (sH K):=by
 have bE:=cZ (P:=P) (w:=w) (base:=base) T
 refine T.F1.fn.ok Co (fun vs H Q E h=>yH h) (fun cu A outer s H vs Q E hr h=>?_)
 refine ⟨_,(ai (aE (bK K rfl Zm Qat Qas (gK K rfl) (lp [] (by decide+kernel)) (aa (bV ["letter"] [none] (yv rfl T.z_reversed (aa (pv 0) ab)) trivial (fun _ _ _ _=>(aI (i:=0) (by decide+kernel:List.Nodup (["letter"]:List Str)) rfl (Or.inl rfl))) (fun _ _ _ _=>fz) (fun _ _ _ _=>(aj bE (hr.mono (by decide)) rfl T.F0.mg T.F0.fn.kp T.F0.bd .nil ay (aa (pv 0) ab)))) ab)))),?_⟩
 obtain ⟨l,rfl,hc,hz,q⟩:=h
 have hs:(1000:Nat)<sizeLine:=by decide
 refine ⟨rfl,_,rfl,l,rfl,by omega,?_⟩
 rw[ui]
 refine d_ (xs:=cI l.reverse) (fun i acc H'=>ak H H'/\acc=cI ((l.reverse.take i).map az)) (by rw[aU,Zz];omega) ⟨ak.refl H,rfl⟩ ?_ ?_
 ·rintro i x acc H1 Nx hi hx hl ⟨s1,rfl⟩ nx
  obtain ⟨c,oE,rfl⟩:=dz hx
  refine ⟨trivial,dB ⟨_,rfl,c,rfl,hc c (Qbr.mp (UQ oE)),nx _ _ (by simpa using hl) ⟨s1,?_⟩⟩⟩
  rw[du, <-take_snoc oE,Wx]
  rfl
 ·rintro acc H1 D hl ⟨s1,rfl⟩ hD
  refine ⟨D,(eX l).map fun c=>[c],rfl,rfl,ba.of ?_,?_,?_⟩
  ·rw[ag, <-dN,aU,Zq (UP _),Qaz]
   rfl
  ·rw[yI]
   unfold eX
   rw[Zz,QW]
   omega
  ·rw[pV]
   exact q _ (s1.trans (ak.upd hD))
theorem rJ:br P w K mg base eG 1 MN Nt ["words","band"] (km K):=by
 refine T.Ro.fn.ok cM (fun vs H Q E h=>ql h) (fun cu A outer s H vs Q E hr h=>?_)
 refine ⟨_,(ae (ao (i:=2) cM.nd rfl (Or.inl rfl) (dj ab))
   (ae (b5 PassesOwn.never rfl (wc K rfl rfl T.z_enumerate (aa (pv 0) ab)) (gg (n:=2) K rfl rfl (bU (aI (i:=3) cM.nd rfl (Or.inl rfl)) (bU (aI (i:=4) cM.nd rfl (Or.inl rfl)) fZ))) (ai (b5 PassesOwn.never rfl (wa rfl T.z_enumerate (aa (pv 4) ab)) (gg (n:=2) K rfl rfl (bU (aI (i:=5) cM.nd rfl (Or.inl rfl)) (bU (aI (i:=6) cM.nd rfl (Or.inl rfl)) fZ))) (ai (bT (aG hV (eW K rfl Zm Qci Qcg pE (pv 6)) (pv 1) (aK _)) (ai (cR (bK K rfl Zr ZZ ZY c_ (pv 2) (aa (cO (aa (pv 3) (aa (pv 5) ab))) ab)))) bf)))))
   (ai (aE (pv 2))))),?_⟩
 obtain ⟨wt,ws,band,rfl,tI,hf,hw,hb,q⟩:=h
 have hs:(100000:Nat)<sizeLine:=by decide
 walk_at "wk"
 intro p1 n1
 refine ⟨_,rfl,wt,rfl,⟨_,bY.of ((ak.upd n1) _ _ tI)⟩,?_⟩
 refine si (K:=K) (a:=wt) (xs:=g6 ws) (fun j σ H'=> ∃(ps:List Pr) (cv wv pv lv:Option V),σ=[some (.ref wt),some (.str (S [band])),some (.ref p1),cv,wv,pv,lv]/\H' p1=some (.lst (kh ps))/\(∀p∈ps,lQ H' p)/\ps.map Pr.pair=cE band ws j/\ps.length<=12*j/\ak H H')
  ⟨[],none,none,none,none,rfl,ag,fun _ h=>absurd h Zl,rfl,Zg _,ak.upd n1⟩ (fun j σ H' _ ⟨_,_,_,_,_,_,_,_,_,_,h⟩=>bY.of (h _ _ tI)) ?_ ?_
 ·rintro j x σ H1 T hx ⟨ps,cv,wv,pv,lv,rfl,hp,vC,j9,iQ,s1⟩ nT
  have hj:j<ws.length:=by
   have:=(Kr.mp hx).1
   rwa [cb]at this
  rw[jd hj]at hx
  cases hx
  have Gx:ws[j]? =some ws[j]:=Kq hj
  obtain ⟨vU,oZ⟩:=hw _ (ZF hj)
  generalize ws[j]=w at Gx vU oZ ⊢
  refine ⟨T,_,rfl,bY.of ag,rfl,_,_,rfl,_,_,rfl,rfl,?_⟩
  have sT:=ak.upd (o:= .tup [.int j, .str (S w)]) nT
  refine ⟨_,rfl,w,rfl,?_⟩
  refine Dv (l:=w) (fun m σ H'=> ∃(us:List Pr) (pv lv:Option V),σ=[some (.ref wt),some (.str (S [band])),some (.ref p1),some (.int j),some (.str (S w)),pv,lv]/\H' p1=some (.lst (kh us))/\(∀p∈us,lQ H' p)/\us.map Pr.pair=cE band ws j++gQ band j w m/\us.length<=12*j+m/\ak H H')
   ⟨ps,pv,lv,rfl,sT _ _ hp,fun p yQ=>(vC p yQ).same sT,by rw[j9];show _=_++[];rw[Zy],by omega,s1.trans sT⟩ ?_ ?_
  ·rintro m l σ H2 T2 hm ⟨us,X6,X7,rfl,kS,CF,Ct,Gu,s2⟩ Qr
   have XS:m<w.length:=(Kr.mp hm).1
   have TJ:=vU l (UQ hm)
   have es:=qc (band:=band) (c:=j) hm
   have RN:=ak.upd (o:= .tup [.int m, .str (S [l])]) Qr
   refine ⟨T2,_,rfl,bY.of ag,rfl,_,_,rfl,_,_,rfl,rfl,?_⟩
   refine ⟨_,rfl,rfl,l,rfl,rfl,TJ.lt,_,rfl,[PyProof.Rows.lo1 l],[band],rfl,rfl,_,rfl,?_⟩
   have ev:decide ([PyProof.Rows.lo1 l]=[band])=w5 band l:=by rw[<-Ex hb TJ];simp
   rw[ev]
   have L7:=RN _ _ kS
   refine bJ (fun z=>?_) (fun z=>?_)
   ·rw[if_pos z]at es
    refine ⟨_,rfl, .inl ⟨rfl,_,ba.of L7⟩,_,rfl,_,rfl,by show 2<=sizeLine;decide,fun t nt=>?_⟩
    have xE:=(ak.upd (o:= .tup [.int j, .int m]) nt) _ _ L7
    have s3:=RN.trans (ak.upd (o:= .tup [.int j, .int m]) nt)
    refine ⟨p1,_,_,rfl,rfl,xE,by rw[jO];omega,?_⟩
    refine ⟨us++[⟨t,j,m⟩],_,_,rfl,by rw[ag];exact congrArg (fun x=>some (HO.lst x)) (wZ us ⟨t,j,m⟩),fun p yQ=>?_,by rw[Wx,Ct,es,Qaj];rfl,by rw[UO];show us.length+1<=_;omega,fun a o ea=>by rw[ar (au ea n1)];exact s3 _ _ (s2 a o ea)⟩
    rcases Zh.mp yQ with g | g
    ·exact ((CF p g).same s3).ts (bQ.wg xE)
    ·have e2:=Wv.mp g
     subst e2
     exact lQ.ts (H:=upd (upd H2 T2 (.tup [.int m, .str (S [l])])) t (.tup [.int j, .int m])) ⟨ag,by show j<1000;omega,by show m<1000;omega⟩ (bQ.wg xE)
   ·rw[if_neg z,Zy]at es
    exact ⟨us,_,_,rfl,L7,fun p yQ=>(CF p yQ).same RN,by rw[Ct,es],by omega,s2.trans RN⟩
  ·rintro σ H2 ⟨us,X6,X7,rfl,kS,CF,Ct,Gu,s2⟩
   exact ⟨us,_,_,_,_,rfl,kS,CF,by rw[Ct,nL Gx],by omega,s2⟩
 ·rintro σ H1 ⟨ps,cv,wv,pv,lv,rfl,hp,vC,j9,iQ,s1⟩
  rw[cb]at j9
  exact ⟨_,rfl,q p1 ps H1 n1 hp vC j9 s1⟩
theorem Cz:br P w K mg base eG 1 gG qK ["self","strand","way","place"] (tm K aO):=by
 refine T.LU.ok Cq (fun vs H Q E h=>za h) (fun cu A outer s H vs Q E hr h=>?_)
 refine ⟨_,(ae (iZ (pv 0) (pv 1) rfl)
   (ae (iZ (pv 0) (pv 2) rfl)
   (ai (iZ (pv 0) (pv 3) rfl)))),?_⟩
 obtain ⟨x,dx,t,w',p,rfl,hx,q⟩:=h
 refine ⟨_,rfl,_,rfl,x,aO,dx,_,rfl,hx,T.dI,T.n_Seen_strand,by show 0<1000;decide,?_⟩
 refine ⟨_,rfl,_,rfl,x,aO,dx,_,rfl,ag,T.dI,T.n_Seen_way,ZI (cY _ _ _) (by show 0+1<1000;decide),?_⟩
 refine ⟨_,rfl,_,rfl,x,aO,dx,_,rfl,ag,T.dI,T.n_Seen_place,ZI (cY _ _ _) (ZI (Qaq (cY _ _ _)) (by show 0+1+1<1000;decide)),?_⟩
 exact q _ ag fun b o e z=>by rw[ar z,ar z,ar z];exact e
theorem qU:br P w K mg base eG 3 MY NI ["words","ways","strand"] (jw K aX aO):=by
 have xH:=Cz (P:=P) (w:=w) (base:=base) T
 refine T.Rx.fn.ok fV (fun vs H Q E h=>oh h) (fun cu A outer s H vs Q E hr h=>?_)
 refine ⟨_,(ae (ao (i:=3) fV.nd rfl (Or.inl rfl) (aM (aV K rfl) (pv 0) (aM (aV K rfl) (pv 2) ah (fun _ _=>rfl)) (fun _ _=>rfl)))
   (ae (ao (i:=4) fV.nd rfl (Or.inl rfl) (aM (aV K rfl) (pv 2) ah (fun _ _=>rfl)))
   (ae (bT (g8 (eW K rfl Zm Qca Qb9 kE (aM hU (pv 3) (pv 4) (fun _ _=>rfl)))) (ai (aE (oF T.Fp xH (hr.mono (by decide)) rfl T.Fo T.Fq .nil ay (aa (pv 2) (aa (aM (aV K rfl) (aM (bW K rfl) (pv 1) (aM (aV K rfl) (pv 2) ah (fun _ _=>rfl)) (fun _ _=>rfl)) ah (fun _ _=>rfl)) (aa (pv 4) ab)))))) bf)
   (ai (aE (oF T.Fp xH (hr.mono (by decide)) rfl T.Fo T.Fq .nil ay (aa (pv 2) (aa (aM (aV K rfl) (aM (bW K rfl) (pv 1) (aM (aV K rfl) (pv 2) ah (fun _ _=>rfl)) (fun _ _=>rfl)) ah (fun _ _=>rfl)) (aa (aC cj (aC cj (aB aT rfl T.z_len Zf (aa (pv 3) ab)) ah) (pv 4)) ab))))))))),?_⟩
 obtain ⟨y,lg,wt,vt,st,w',ws,mj,p,c,i,rfl,hy,tI,RO,ny,hw,hp,ok,hi,q⟩:=h
 have hs:(100000:Nat)<sizeLine:=by decide
 have oZ:=ok.on.uz
 have VJ:=ok.on.lz
 have O3:=ok.on.sw
 have h8:(rd w' i)<128:=(hy.lt _ (O3.rd _)).lt
 have hc:(g6 ws)[c]? =some (V.str (S w')):=by
  have hl:=(Kr.mp hw).1
  rw[jd hl,(Kr.mp hw).2]
 refine ⟨_,rfl,_,rfl,st,_,0,_,rfl,rfl,bY.of ny,rfl,wt,_,_,_,rfl,rfl,bY.of tI,b8 hc,?_⟩
 refine ⟨_,rfl,st,_,1,_,rfl,rfl,bY.of ny,rfl,?_⟩
 refine ⟨_,rfl,_,rfl,w',_,_,rfl,rfl,by omega,by rw[lI (by omega) (by omega)],?_⟩
 have made: ∀(x dx:Addr) (H':Hp) (t w2:Addr) (pl:Nat),H x=none->H dx=none->dx≠x->aN x (L2.upd (L2.upd H dx (.own x)) x (.ins aO dx [])) H'->ak H H':=fun x dx H' t w2 pl nx LF ne sm a o e=>by
  refine sm a o ?_ (au e nx)
  rw[ar (au e nx),ar (au e LF)]
  exact e
 refine ⟨rfl,_,rfl,rfl,h8,?_⟩
 walk_at "rd"
 refine bJ (fun z=>?_) (fun z=>?_)
 ·refine ⟨_,rfl,_,rfl,_,rfl,st,_,0,_,rfl,rfl,bY.of ny,rfl,vt,_,_,_,rfl,rfl,ba.of RO,b8 (EV hp),p.t,_,0,_,rfl,rfl,bY.of ok.tp,rfl,_,rfl,fun x dx nx LF ne=>⟨x,dx,st,p.a,i,rfl,ag,fun H' hx sm=>⟨rfl,?_⟩⟩⟩
  have L8:=made x dx H' st p.a i nx LF ne sm
  exact q ⟨x,st,p.a,c,i,w',i,p.r⟩ H' ⟨rfl,rfl,by rw[if_pos z],by rw[if_pos z]⟩ rfl ⟨⟨dx,hx⟩,L8 _ _ ny,ok.on.same L8,hi⟩ nx L8
 ·have ei:(w'.length:Int) - 1 - i=((w'.length - 1 - i:Nat):Int):=by omega
  refine ⟨_,rfl,_,rfl,_,rfl,st,_,0,_,rfl,rfl,bY.of ny,rfl,vt,_,_,_,rfl,rfl,ba.of RO,b8 (EV hp),p.t,_,1,_,rfl,rfl,bY.of ok.tp,rfl,_,rfl,w',rfl,by omega,_,_,rfl,rfl,_,rfl,_,_,rfl,rfl,fun x dx nx LF ne=>⟨x,dx,st,p.b,w'.length - 1 - i,by rw[<-ei];rfl,ag,fun H' hx sm=>⟨rfl,?_⟩⟩⟩
  have L8:=made x dx H' st p.b 0 nx LF ne sm
  exact q ⟨x,st,p.b,c,i,eX w',w'.length - 1 - i,p.q⟩ H' ⟨rfl,rfl,by rw[if_neg z],by rw[if_neg z]⟩ rfl ⟨⟨dx,hx⟩,L8 _ _ ny,ok.bk.same L8,by show w'.length - 1 - i<(eX w').length;rw[b_];omega⟩ nx L8
theorem jF:br P w K mg base eG 1 Fm NB ["seen","start","end"] (fQ K aX aO):=by
 refine T.xS.fn.ok jB (fun vs H Q E h=>oa h) (fun cu A outer s H vs Q E hr h=>?_)
 refine ⟨_,(ae (ao (i:=3) jB.nd rfl (Or.inl rfl) (aC bc (bN K rfl (pv 0) rfl) ah))
   (ai (aE (bA j4 (bN K rfl (bN K rfl (pv 0) rfl) rfl) (bz (aC bc (pv 3) (pv 1))) (bz (aC bc (pv 3) (pv 2))))))),?_⟩
 obtain ⟨y,lg,s,x,z,rfl,hz,hs,Ue,q⟩:=h
 obtain ⟨d1,e1⟩:=hs.ob
 obtain ⟨d2,e2⟩:=hs.wy.ob
 have:=hs.wy.uz
 have:=hs.wy.lz
 have h1:1<=s.u.length:=ZI (Zg _) hs.pz
 have rl:=lX (lg:=lg) h1
 have Qg:(100000:Nat)<sizeLine:=by decide
 refine ⟨_,rfl,s.a,aO,d1,_,_,rfl,e1,T.dI,T.n_Seen_place,lW,?_⟩
 walk_at "rd"
 refine ⟨s.a,aO,d1,_,_,rfl,e1,T.dI,T.n_Seen_way,mT,s.wy,aX,d2,_,_,rfl,e2,T.gu,T.n_Way_onward,P7,?_⟩
 walk_at "rd"
 refine ⟨by rw[tu,de];omega,?_⟩
 rw[show (s.p:Int)+1=((s.p+1:Nat):Int) by omega,AI Ue]
 exact q
theorem kA:br P w K mg base eG 1 Fn NC ["seen","start","end"] (gA K aX aO):=by
 refine T.xT.fn.ok kz (fun vs H Q E h=>qh h) (fun cu A outer s H vs Q E hr h=>?_)
 refine ⟨_,(ae (ao (i:=3) kz.nd rfl (Or.inl rfl) (aC cj (aC cj (bN K rfl (bN K rfl (pv 0) rfl) rfl) ah) (bN K rfl (pv 0) rfl)))
   (ai (aE (bA j4 (bN K rfl (bN K rfl (pv 0) rfl) rfl) (bz (aC bc (pv 3) (pv 1))) (bz (aC bc (pv 3) (pv 2))))))),?_⟩
 obtain ⟨y,lg,s,x,z,rfl,hz,hs,Ue,q⟩:=h
 obtain ⟨d1,e1⟩:=hs.ob
 obtain ⟨d2,e2⟩:=hs.wy.ob
 have:=hs.wy.uz
 have:=hs.wy.lz
 have hp:=hs.pz
 have h1:1<=s.u.length:=ZI (Zg _) hs.pz
 have rl:=lX (lg:=lg) h1
 have Qg:(100000:Nat)<sizeLine:=by decide
 refine ⟨_,rfl,s.a,aO,d1,_,_,rfl,e1,T.dI,T.n_Seen_way,mT,s.wy,aX,d2,_,_,rfl,e2,T.gu,T.n_Way_size,AH,?_⟩
 walk_at "rd"
 refine ⟨s.a,aO,d1,_,_,rfl,e1,T.dI,T.n_Seen_place,lW,?_⟩
 walk_at "rd"
 refine ⟨s.a,aO,d1,_,_,rfl,e1,T.dI,T.n_Seen_way,mT,s.wy,aX,d2,_,_,rfl,e2,T.gu,T.n_Way_backward,HK,?_⟩
 walk_at "rd"
 refine ⟨by rw[tu,Zz,de];omega,?_⟩
 rw[show (s.u.length:Int) - 1 - s.p=((s.u.length - 1 - s.p:Nat):Int) by omega,AI Ue]
 exact q
theorem zy:br P w K mg base eG 2 MU ND ["steps","one","other","enough"] (qj K aX aO Fm Fn):=by
 have cq:=jF (P:=P) (w:=w) (base:=base) T
 have cH:=kA (P:=P) (w:=w) (base:=base) T
 refine T.LO.fn.ok dJ (fun vs H Q E h=>xj h) (fun cu A outer s H vs Q E hr h=>?_)
 refine ⟨_,(ae (ao (i:=4) dJ.nd rfl (Or.inl rfl) ah)
   (ae (ao (i:=5) dJ.nd rfl (Or.inl rfl) ah)
   (jH (da PassesOwn.never (PW.pt (kD (aG gJ (pv 4) (pv 3) (aK _)) (jG (aG hV (lB (pv 0) cq (hr.mono (by decide)) T.xS.fn.kp T.xS.bd cH (hr.mono (by decide)) T.xT.fn.kp T.xT.bd ay (aa (pv 1) (aa (pv 4) (aa (aC bc (pv 4) (pv 5)) ab)))) (lB (pv 0) cq (hr.mono (by decide)) T.xS.fn.kp T.xS.bd cH (hr.mono (by decide)) T.xT.fn.kp T.xT.bd ay (aa (pv 2) (aa (pv 4) (aa (aC bc (pv 4) (pv 5)) ab)))) (aK _))))) (ae (g9 (i:=4) dJ.nd rfl (Or.inl rfl) (pv 5) mr)
   (ai (g9 (i:=5) dJ.nd rfl (Or.inl rfl) ah K5))))
   (jH (da PassesOwn.never (aG nz (pv 5) ah (aK _)) (ae (g9 (i:=5) dJ.nd rfl (Or.inl rfl) ah He)
   (ai (bT (aG hV (lB (pv 0) cq (hr.mono (by decide)) T.xS.fn.kp T.xS.bd cH (hr.mono (by decide)) T.xT.fn.kp T.xT.bd ay (aa (pv 1) (aa (pv 4) (aa (aC bc (pv 4) (pv 5)) ab)))) (lB (pv 0) cq (hr.mono (by decide)) T.xS.fn.kp T.xS.bd cH (hr.mono (by decide)) T.xT.fn.kp T.xT.bd ay (aa (pv 2) (aa (pv 4) (aa (aC bc (pv 4) (pv 5)) ab)))) (aK _)) (ai (g9 (i:=4) dJ.nd rfl (Or.inl rfl) (pv 5) mr)) bf))))
   (ai (aE (pv 4))))))),?_⟩
 obtain ⟨y,lg,s1,t1,b,en,rfl,hz,hs,ht,Y0,q⟩:=h
 have call: ∀(u:Sn) (x d:Nat) (t:TA) (σ:L2.St) (Q':VK),σ[0]? =some (some (V.ref (if b=true then Fm else Fn)))->js H aX aO y lg u->(∀R:List V->Hp->Prop,R [V.ref u.a,V.int x,V.int ((x:Int)+d)] H->t σ H R)->Q' (V.str (S (seg (LB b y lg u) x (x+d)))) H->DN Fm Fn (fQ K aX aO) (gA K aX aO) E0 (JQ 0) t σ H Q':=by
  intro u x d t σ Q' h0 hu VL hq
  refine ⟨_,h0,?_⟩
  cases b
  ·exact .inr ⟨rfl,VL _ ⟨y,lg,u,x,x+d,by rw[Z2],hz,hu,by omega,hq⟩⟩
  ·exact .inl ⟨rfl,VL _ ⟨y,lg,u,x,x+d,by rw[Z2],hz,hu,by omega,hq⟩⟩
 generalize (if b=true then Fm else Fn)=fx at call ⊢
 generalize el:LB b y lg s1=l at q
 generalize em:LB b y lg t1=m at q
 walk_at "rd"
 refine ⟨fun σ H'=> ∃(mn sz e:Nat),σ=[some (.ref fx),some (.ref s1.a),some (.ref t1.a),some (.int en),some (.int mn),some (.int sz)]/\H'=H/\sz=2 ^ e/\sz<=1000000/\mn<=1000000/\jt l m mn/\(en<=mn\/ ∃k,mn<=k/\k<mn+sz/\l[k]?≠ m[k]?),?_,?_⟩
 ·refine ⟨fun w σ H'=> ∃(mn sz e:Nat),σ=[some (.ref fx),some (.ref s1.a),some (.ref t1.a),some (.int en),some (.int mn),some (.int sz)]/\H'=H/\w=en - mn/\sz=2 ^ e/\mn+1=sz/\mn<=2*en/\jt l m mn,⟨_,0,1,0,rfl,rfl,rfl,rfl,rfl,Zg _,fun k hk=>absurd hk (Qcs _)⟩,?_⟩
  rintro w' σ H2 ⟨mn,sz,e,rfl,rfl,rfl,he,Y1,Rg,ha⟩
  walk_at "rd"
  refine bJ (fun z=>?_) (fun z=>?_)
  ·have z1:(mn:Int)<en:=of_decide_eq_true z
   refine call s1 mn sz _ _ _ rfl hs (fun R hR=>⟨_,rfl,_,rfl,_,rfl,_,rfl,_,_,rfl,rfl,hR⟩) ?_
   refine call t1 mn sz _ _ _ rfl ht (fun R hR=>⟨_,rfl,_,rfl,_,rfl,_,rfl,_,_,rfl,rfl,hR⟩) ?_
   rw[el,em]
   walk_at "rd"
   refine bJ (fun y1=>?_) (fun y1=>?_)
   ·have y2:seg l mn (mn+sz)=seg m mn (mn+sz):=by simpa using of_decide_eq_true y1
    refine ⟨_,rfl,_,rfl,_,_,rfl,rfl,_,rfl,_,_,rfl,rfl, .inl ⟨by omega,by omega⟩,?_⟩
    refine ⟨en - (mn+sz),by omega,mn+sz,sz*2,e+1,by rw[Z2,Qdv];rfl,rfl,rfl,by rw[he,Nat.pow_succ],by omega,by omega,ha.more y2⟩
   ·have y2:seg l mn (mn+sz)≠seg m mn (mn+sz):=fun w=>y1 (decide_eq_true (by rw[w]))
    exact ⟨mn,sz,e,rfl,rfl,he,by omega,by omega,ha, .inr (EO y2)⟩
  ·have z1: ¬(mn:Int)<en:=fun w=>z (decide_eq_true w)
   exact ⟨mn,sz,e,rfl,rfl,he,by omega,by omega,ha, .inl (by omega)⟩
 ·rintro σ H2 ⟨mn,sz,e,rfl,rfl,he,hsz,Rg,ha,hb⟩
  refine ⟨fun σ H'=> ∃mn:Nat,σ=[some (.ref fx),some (.ref s1.a),some (.ref t1.a),some (.int en),some (.int mn),some (.int 1)]/\H'=H2/\jt l m mn/\(en<=mn\/l[mn]?≠ m[mn]?),?_,?_⟩
  ·refine ⟨fun w σ H'=> ∃(mn sz e:Nat),σ=[some (.ref fx),some (.ref s1.a),some (.ref t1.a),some (.int en),some (.int mn),some (.int sz)]/\H'=H2/\sz=w/\sz=2 ^ e/\sz<=1000000/\mn<=3000000 - 2*sz/\jt l m mn/\(en<=mn\/ ∃k,mn<=k/\k<mn+sz/\l[k]?≠ m[k]?),⟨_,mn,sz,e,rfl,rfl,rfl,he,hsz,by omega,ha,hb⟩,?_⟩
   rintro w' σ H3 ⟨mn,sz,e,rfl,rfl,rfl,he,hsz,Rg,ha,hb⟩
   walk_at "rd"
   refine bJ (fun z=>?_) (fun z=>?_)
   ·have z1:(1:Int)<sz:=of_decide_eq_true z
    obtain ⟨e',rfl⟩: ∃e',e=e'+1:=⟨e - 1,by
     cases e with
     | zero=>rw[he]at z1;simp at z1
     | succ e=>rfl⟩
    have hh:sz=2*2 ^ e':=by rw[he,Nat.pow_succ,Qa1]
    have hp:0<2 ^ e':=Nat.pow_pos (by decide)
    generalize Qx:2 ^ e'=h2 at hh hp
    have Ug:=Qx.symm
    have ed:(sz:Int) / 2=(h2:Nat):=by omega
    refine ⟨_,rfl,_,_,rfl,rfl,⟨by decide,by decide⟩,?_⟩
    refine call s1 mn h2 _ _ _ rfl hs (fun R hR=>⟨_,rfl,_,rfl,_,rfl,_,rfl,_,_,rfl,rfl,by rw[ed];exact hR⟩) ?_
    refine call t1 mn h2 _ _ _ rfl ht (fun R hR=>⟨_,rfl,_,rfl,_,rfl,_,rfl,_,_,rfl,rfl,by rw[ed];exact hR⟩) ?_
    rw[el,em]
    walk_at "rd"
    have LW: ∃e2,h2=2 ^ e2:=⟨e',Ug⟩
    obtain ⟨e2,PC⟩:=LW
    refine bJ (fun y1=>?_) (fun y1=>?_)
    ·have y2:seg l mn (mn+h2)=seg m mn (mn+h2):=by simpa using of_decide_eq_true y1
     refine ⟨_,rfl,_,rfl,_,_,rfl,rfl,?_⟩
     refine ⟨h2,by omega,mn+h2,h2,e2,by rw[Z2, <-ed];rfl,rfl,rfl,PC,by omega,by omega,ha.more y2,?_⟩
     rcases hb with hb | ⟨k,k1,k2,k3⟩
     ·exact .inl (by omega)
     ·refine .inr ⟨k,Classical.byContradiction fun w=>k3 (zc.mp y2 k k1 (by omega)),by omega,k3⟩
    ·have y2:seg l mn (mn+h2)≠seg m mn (mn+h2):=fun w=>y1 (decide_eq_true (by rw[w]))
     exact ⟨h2,by omega,mn,h2,e2,by rw[<-ed];rfl,rfl,rfl,PC,by omega,by omega,ha, .inr (EO y2)⟩
   ·have z1: ¬(1:Int)<sz:=fun w=>z (decide_eq_true w)
    have hp:0<2 ^ e:=Nat.pow_pos (by decide)
    have e1:sz=1:=by omega
    subst e1
    exact ⟨mn,rfl,rfl,ha,hb.imp id fun ⟨k,k1,k2,k3⟩=>by rwa [show k=mn by omega]at k3⟩
  ·rintro σ H3 ⟨mn,rfl,rfl,ha,hb⟩
   exact ⟨_,rfl,q mn ha hb⟩
theorem zA:br P w K mg base eG 1 MV NF ["seen"] (qk K aX aO):=by
 refine T.LP.fn.ok kR (fun vs H Q E h=>xk h) (fun cu A outer s H vs Q E hr h=>?_)
 refine ⟨_,(ae (ao (i:=1) kR.nd rfl (Or.inl rfl) (bN K rfl (pv 0) rfl))
   (ae (ao (i:=2) kR.nd rfl (Or.inl rfl) (aM (aV K rfl) (bN K rfl (pv 0) rfl) ah (fun _ _=>rfl)))
   (ae (bT (g8 (bN K rfl (pv 1) rfl)) (ai (aE (cO (aa (pv 2) (aa (aC fg (bN K rfl (pv 0) rfl) (bN K rfl (pv 1) rfl)) ab))))) bf)
   (ai (aE (cO (aa (iF ft (pv 2)) (aa (iF ft (aC fg (aC cj (aC cj (bN K rfl (pv 1) rfl) ah) (bN K rfl (pv 0) rfl)) (bN K rfl (pv 1) rfl))) ab)))))))),?_⟩
 obtain ⟨y,lg,s1,rfl,hs,q⟩:=h
 obtain ⟨d1,e1⟩:=hs.ob
 obtain ⟨d2,e2⟩:=hs.wy.ob
 have hp:=hs.pz
 have rp:=jv hs.wy.sw.ne hs.wy.rt
 have u1:=hs.wy.uz
 have u2:=hs.wy.lz
 refine ⟨_,rfl,s1.a,aO,d1,_,_,rfl,e1,T.dI,T.n_Seen_way,mT,?_⟩
 refine ⟨_,rfl,s1.a,aO,d1,_,_,rfl,e1,T.dI,T.n_Seen_strand,tf,s1.t,_,0,_,rfl,rfl,bY.of hs.st,rfl,?_⟩
 refine ⟨_,rfl,s1.wy,aX,d2,_,_,rfl,e2,T.gu,T.n_Way_leads,EN,?_⟩
 walk_at "rd"
 have X8:(s1.p:Int) / (s1.r:Int)=((s1.p / s1.r:Nat):Int):=(Qce _ _).symm
 have X9:((s1.u.length:Int) - 1 - s1.p) / (s1.r:Int)=(((s1.u.length - 1 - s1.p) / s1.r:Nat):Int):=by
  rw[Qce];congr 1;omega
 refine bJ (fun z=>?_) (fun z=>?_)
 ·refine ⟨_,rfl,_,rfl,s1.a,aO,d1,_,_,rfl,e1,T.dI,T.n_Seen_place,lW,_,rfl,s1.wy,aX,d2,_,_,rfl,e2,T.gu,T.n_Way_root_size,oT,_,_,rfl,rfl,⟨by omega,by omega⟩,by show 2<=sizeLine;decide,fun p np=>?_⟩
  refine q p _ np ?_ (ak.upd np)
  rw[ag]
  unfold zd
  rw[if_pos z, <-X8]
 ·refine ⟨_,rfl,_,rfl,_,rfl,s1.wy,aX,d2,_,_,rfl,e2,T.gu,T.n_Way_size,AH,_,_,rfl,rfl,_,rfl,s1.a,aO,d1,_,_,rfl,e1,T.dI,T.n_Seen_place,lW,_,_,rfl,rfl,_,rfl,s1.wy,aX,d2,_,_,rfl,e2,T.gu,T.n_Way_root_size,oT,_,_,rfl,rfl,⟨by omega,by omega⟩,_,rfl,by show 2<=sizeLine;decide,fun p np=>?_⟩
  refine q p _ np ?_ (ak.upd np)
  rw[ag]
  unfold zd
  rw[if_neg z, <-X9]
theorem qV:br P w K mg base eG 3 MW NG ["one","other"] (ju K aX aO):=by
 have tK:=zy (P:=P) (w:=w) (base:=base) T
 have tL:=zA (P:=P) (w:=w) (base:=base) T
 have cq:=jF (P:=P) (w:=w) (base:=base) T
 have cH:=kA (P:=P) (w:=w) (base:=base) T
 refine T.Rv.fn.ok eF (fun vs H Q E h=>og h) (fun cu A outer s H vs Q E hr h=>?_)
 refine ⟨_,(ae (ao (i:=2) eF.nd rfl (Or.inl rfl) (aC bc (bN K rfl (bN K rfl (pv 0) rfl) rfl) (bN K rfl (bN K rfl (pv 1) rfl) rfl)))
   (ae (ao (i:=3) eF.nd rfl (Or.inl rfl) (aj tK (hr.mono (by decide)) rfl T.LO.mg T.LO.fn.kp T.LO.bd .nil ay (aa (zJ (v:= .ref Fm) rfl T.xS.mg rfl) (aa (pv 0) (aa (pv 1) (aa (pv 2) ab))))))
   (ae (ao (i:=4) eF.nd rfl (Or.inl rfl) (aj tK (hr.mono (by decide)) rfl T.LO.mg T.LO.fn.kp T.LO.bd .nil ay (aa (zJ (v:= .ref Fn) rfl T.xT.mg rfl) (aa (pv 0) (aa (pv 1) (aa (pv 2) ab))))))
   (ae (bT (aG C5 (aB (mw rfl) rfl T.z_min boot_min (aa (pv 3) (aa (pv 4) ab))) (pv 2) (aK _)) (ai (aE (f_ (KS K rfl hr) (aj tL (hr.mono (by decide)) rfl T.LP.mg T.LP.fn.kp T.LP.bd .nil ay (aa (pv 0) ab)) (aj tL (hr.mono (by decide)) rfl T.LP.mg T.LP.fn.kp T.LP.bd .nil ay (aa (pv 1) ab)) (aK _)))) bf)
   (ae (bT (aG IL (pv 3) (pv 4) (aK _)) (ai (aE (f_ t6 (aj cq (hr.mono (by decide)) rfl T.xS.mg T.xS.fn.kp T.xS.bd .nil ay (aa (pv 0) (aa (pv 3) (aa (aC bc (pv 3) ah) ab)))) (aj cq (hr.mono (by decide)) rfl T.xS.mg T.xS.fn.kp T.xS.bd .nil ay (aa (pv 1) (aa (pv 3) (aa (aC bc (pv 3) ah) ab)))) (aK _)))) bf)
   (ai (aE (f_ t6 (aj cH (hr.mono (by decide)) rfl T.xT.mg T.xT.fn.kp T.xT.bd .nil ay (aa (pv 0) (aa (pv 4) (aa (aC bc (pv 4) ah) ab)))) (aj cH (hr.mono (by decide)) rfl T.xT.mg T.xT.fn.kp T.xT.bd .nil ay (aa (pv 1) (aa (pv 4) (aa (aC bc (pv 4) ah) ab)))) (aK _))))))))),?_⟩
 obtain ⟨y,lg,s1,t1,rfl,hy,hz,hs,ht,h0,q⟩:=h
 obtain ⟨d1,e1⟩:=hs.ob
 obtain ⟨d2,e2⟩:=hs.wy.ob
 obtain ⟨d3,e3⟩:=ht.ob
 obtain ⟨d4,e4⟩:=ht.wy.ob
 have rp:=jv hs.wy.sw.ne hs.wy.rt
 have Y2:=jv ht.wy.sw.ne ht.wy.rt
 have u1:=hs.wy.uz
 have Y3:=ht.wy.uz
 have u2:=hs.wy.lz
 have ns:=hs.wy.sw.ne
 have nt:=ht.wy.sw.ne
 have lf:=cn hs.wy.sw (s1.p:Int)
 have RP:=cn ht.wy.sw (t1.p:Int)
 have as:=tD (lg:=lg) (s:=s1) (en:=s1.r+t1.r) hs.pz (by omega)
 have at':=tD (lg:=lg) (s:=t1) (en:=s1.r+t1.r) ht.pz (by omega)
 refine ⟨_,rfl,s1.a,aO,d1,_,_,rfl,e1,T.dI,T.n_Seen_way,mT,s1.wy,aX,d2,_,_,rfl,e2,T.gu,T.n_Way_root_size,oT,_,rfl,t1.a,aO,d3,_,_,rfl,e3,T.dI,T.n_Seen_way,mT,t1.wy,aX,d4,_,_,rfl,e4,T.gu,T.n_Way_root_size,oT,_,_,rfl,rfl,?_⟩
 refine ⟨_,rfl,_,rfl,_,rfl,y,lg,s1,t1,true,s1.r+t1.r,by rw[Z2];rfl,hz,hs,ht,by omega,fun m Jc Ab=>?_⟩
 refine ⟨_,rfl,_,rfl,_,rfl,y,lg,s1,t1,false,s1.r+t1.r,by rw[Z2];rfl,hz,hs,ht,by omega,fun n X_ vP=>?_⟩
 have Uh:jt (CM y lg s1) (CM y lg t1) m:=Jc
 have Qy:s1.r+t1.r<=m\/(CM y lg s1)[m]?≠ (CM y lg t1)[m]?:= Ab
 have Ui:jt (CN y lg s1) (CN y lg t1) n:=X_
 have Qz:s1.r+t1.r<=n\/(CN y lg s1)[n]?≠ (CN y lg t1)[n]?:= vP
 have ga: ∀k,k<s1.r+t1.r->(CM y lg s1)[k]? =some (xR (fP y (sq s1.u s1.p) (k+1)))/\(CM y lg t1)[k]? =some (xR (fP y (sq t1.u t1.p) (k+1))):=fun k hk=>⟨ER ns (by omega),ER nt (by omega)⟩
 have gb: ∀k,k<s1.r+t1.r->(CN y lg s1)[k]? =some (xR (fP y (sq s1.u s1.p) (-(k:Int))))/\(CN y lg t1)[k]? =some (xR (fP y (sq t1.u t1.p) (-(k:Int)))):=fun k hk=>⟨ES ns hs.pz (by omega),ES nt ht.pz (by omega)⟩
 refine ⟨_,rfl,_,rfl,_,_,rfl,?_⟩
 walk_at "rd"
 by_cases par: ∀k,sq s1.u s1.p k=sq t1.u t1.p k
 ·have ef:sq s1.u s1.p=sq t1.u t1.p:=funext par
  have m1:s1.r+t1.r<=m:=AO (fun k hk=>by rw[(ga k hk).1,(ga k hk).2,ef]) Qy
  have n1:s1.r+t1.r<=n:=AO (fun k hk=>by rw[(gb k hk).1,(gb k hk).2,ef]) Qz
  refine bJ (fun z=>?_) (fun z=>absurd (decide_eq_true (show ((s1.r:Int)+t1.r)<=(if (n:Int)<m then (n:Int) else m) by split<;>omega)) z)
  refine ⟨_,rfl,y,lg,s1,rfl,hs,fun p1 H1 Y4 jq QA=>⟨_,rfl,y,lg,t1,rfl,ht.same QA,fun p2 H2 Fv kS eI=>?_⟩⟩
  refine ⟨p1,p2,_,_,_,_,rfl,rfl,bY.of (eI _ _ jq),bY.of kS,?_⟩
  have e:F_ (zd s1).1 (zd s1).2 (zd t1).1 (zd t1).2=bF (j6 y (2*lg) s1) (j6 y (2*lg) t1):=by
   unfold j6
   rw[ef,gP,HM]
  have kq:=q H2 (QA.trans eI)
  rw[<-e]at kq
  exact kq
 ·have dR: ∃k,sq s1.u s1.p k≠sq t1.u t1.p k:=Classical.byContradiction fun z=>par fun k=>Classical.byContradiction fun w=>z ⟨k,w⟩
  have z0:sq s1.u s1.p 0=sq t1.u t1.p 0:=by unfold sq;rw[Qdi,Qdi];exact h0
  obtain ⟨a,b,rn,ha,hb⟩:=dv (p:=s1.r) (q:=t1.r) (by omega) (by omega) (AK ns hs.wy.rt s1.p) (AK nt ht.wy.rt t1.p) z0 dR
  have pf:=AM hy lf
  have pg:=AM hy RP
  have key:=mK hy lf RP rn [(zd s1).1,(zd s1).2] [(zd t1).1,(zd t1).2] (2*lg) 0 (Zg _) (Zg _) (by omega) (by omega)
  have sa:fP y (sq s1.u s1.p) (a+1)≠fP y (sq t1.u t1.p) (a+1):=fun w=>rn.hi (by
   unfold fP at w
   rw[show (a:Int)+1 - 1=a by omega, <-rn.q8 a (by omega) (by omega)]at w
   exact lL (hy.cl _ (lf.bO _)) (lf.bO _) (RP.bO _) w)
  have sb:fP y (sq s1.u s1.p) (-(b:Int))≠fP y (sq t1.u t1.p) (-(b:Int)):=fun w=>by
   have c:=Em hy lf RP (rn.q8 (-(b:Int)) (by omega) (by omega)) rn.lo
   unfold mi at c
   rw[w]at c
   simp at c
  have em:m=a:=AN ha (fun k hk=>by
   rw[(ga k (by omega)).1,(ga k (by omega)).2]
   unfold fP
   rw[show (k:Int)+1 - 1=k by omega,rn.q8 k (by omega) (by omega),rn.q8 (k+1) (by omega) (by omega)]) (fun w=>sa (AL (pf _) (pg _) (by rw[(ga a ha).1,(ga a ha).2]at w;exact Zc w))) Uh Qy
  have en:n=b:=AN hb (fun k hk=>by
   rw[(gb k (by omega)).1,(gb k (by omega)).2]
   unfold fP
   rw[rn.q8 (-(k:Int)) (by omega) (by omega),rn.q8 (-(k:Int) - 1) (by omega) (by omega)]) (fun w=>sb (AL (pf _) (pg _) (by rw[(gb b hb).1,(gb b hb).2]at w;exact Zc w))) Ui Qz
  subst em
  subst en
  refine bJ (fun z=>absurd (show ((s1.r:Int)+t1.r)<=(if (n:Int)<m then (n:Int) else m) from of_decide_eq_true z) (by split<;>omega)) (fun z=>?_)
  walk_at "rd"
  have By:(m:Int)+1=((m+1:Nat):Int):=by omega
  have HH:(n:Int)+1=((n+1:Nat):Int):=by omega
  refine bJ (fun z2=>?_) (fun z2=>?_)
  ·have z3:m<=n:=by have:=of_decide_eq_true z2;omega
   refine ⟨_,rfl,_,rfl,_,rfl,_,_,rfl,rfl,y,lg,s1,m,m+1,by rw[<-By];rfl,hz,hs,by omega,?_⟩
   refine ⟨_,rfl,_,rfl,_,rfl,_,_,rfl,rfl,y,lg,t1,m,m+1,by rw[<-By];rfl,hz,ht,by omega,?_⟩
   refine ⟨_,_,rfl,rfl,?_⟩
   rw[if_pos z3]at key
   have e:decide (seg (CM y lg s1) m (m+1)<seg (CM y lg t1) m (m+1))=bF (j6 y (2*lg) s1) (j6 y (2*lg) t1):=by
    rw[oU (ga m ha).1,oU (ga m ha).2,EU]
    exact (decide_eq_decide.mpr (ET (pf _) (pg _))).trans key.symm
   have kq:=q H (ak.refl H)
   rw[<-e]at kq
   exact kq
  ·have z3: ¬m<=n:=fun w=>z2 (decide_eq_true (by omega))
   refine ⟨_,rfl,_,rfl,_,rfl,_,_,rfl,rfl,y,lg,s1,n,n+1,by rw[<-HH];rfl,hz,hs,by omega,?_⟩
   refine ⟨_,rfl,_,rfl,_,rfl,_,_,rfl,rfl,y,lg,t1,n,n+1,by rw[<-HH];rfl,hz,ht,by omega,?_⟩
   refine ⟨_,_,rfl,rfl,?_⟩
   rw[if_neg z3]at key
   have e:decide (seg (CN y lg s1) n (n+1)<seg (CN y lg t1) n (n+1))=bF (j6 y (2*lg) s1) (j6 y (2*lg) t1):=by
    rw[oU (gb n hb).1,oU (gb n hb).2,EU]
    exact (decide_eq_decide.mpr (ET (pf _) (pg _))).trans key.symm
   have kq:=q H (ak.refl H)
   rw[<-e]at kq
   exact kq
theorem oA:br P w K mg base eG 4 MX NH ["order","seen"] (iO K aX aO):=by
 have rK:=qV (P:=P) (w:=w) (base:=base) T
 refine T.Rw.fn.ok b6 (fun vs H Q E h=>mV h) (fun cu A outer s H vs Q E hr h=>?_)
 refine ⟨_,(ae (ao (i:=2) b6.nd rfl (Or.inl rfl) ah)
   (ae (ao (i:=3) b6.nd rfl (Or.inl rfl) (aB (aW K rfl) rfl T.z_len Zf (aa (pv 0) ab)))
   (ae (da PassesOwn.never (aG gJ (pv 2) (pv 3) (aK _)) (ae (ao (i:=4) b6.nd rfl (Or.inl rfl) (aC fg (aC bc (pv 2) (pv 3)) ah))
   (ai (bT (g8 (aj rK (hr.mono (by decide)) rfl T.Rv.mg T.Rv.fn.kp T.Rv.bd .nil ay (aa (aM (bW K rfl) (pv 0) (pv 4) (fun _ _=>rfl)) (aa (pv 1) ab)))) (ai (ao (i:=2) b6.nd rfl (Or.inl rfl) (aC bc (pv 4) ah))) (ai (ao (i:=3) b6.nd rfl (Or.inl rfl) (pv 4)))))))
   (ai (aE (pv 2)))))),?_⟩
 obtain ⟨y,lg,a,ss,t1,rfl,hy,hz,ha,FH,ht,up,hn,q⟩:=h
 have hs:(100000:Nat)<sizeLine:=by decide
 have key:=Qbg.mp up
 refine ⟨_,rfl,a,_,rfl, .inl (ba.of ha),?_⟩
 walk_at "rd"
 refine ⟨fun m σ H'=> ∃(lo hi:Nat) (mv:Option V),σ=[some (.ref a),some (.ref t1.a),some (.int lo),some (.int hi),mv]/\m=hi - lo/\lo<=hi/\hi<=ss.length/\(∀k s,ss[k]? =some s->k<lo->bF (j6 y (2*lg) s) (j6 y (2*lg) t1)=true)/\(∀k s,ss[k]? =some s->hi<=k->bF (j6 y (2*lg) s) (j6 y (2*lg) t1)=false)/\ak H H',⟨_,0,ss.length,none,by rw[lY];rfl,rfl,Zg _,UP _,fun k s _ hk=>absurd hk (Qcs _),(fun k s e hk=>by rw[Z9 hk]at e;cases e),ak.refl H⟩,?_⟩
 rintro m σ H2 ⟨lo,hi,mv,rfl,rfl,h1,h2,h3,h4,s2⟩
 walk_at "rd"
 refine bJ (fun z=>?_) (fun z=>?_)
 ·have z1:(lo:Int)<hi:=of_decide_eq_true z
  have em:(((lo:Int)+hi) / 2)=(((lo+hi) / 2:Nat):Int):=by omega
  have hm:(lo+hi) / 2<ss.length:=by omega
  have hg:ss[(lo+hi) / 2]? =some ss[(lo+hi) / 2]:=Kq hm
  obtain ⟨ok,e0⟩:=FH _ (ZF hm)
  walk_at "rd"
  refine ⟨a,_,((lo:Int)+hi) / 2,_,rfl,rfl,ba.of (s2 _ _ ha),by rw[em];exact b8 (LC hg),_,rfl,y,lg,ss[(lo+hi) / 2],t1,rfl,hy,hz,ok.same s2,ht.same s2,e0,fun H3 s3=>?_⟩
  walk_at "rd"
  refine bJ (fun y1=>?_) (fun y1=>?_)
  ·walk_at "rd"
   have e1:((lo:Int)+hi) / 2+1=(((lo+hi) / 2+1:Nat):Int):=by omega
   refine ⟨hi - ((lo+hi) / 2+1),by omega,(lo+hi) / 2+1,hi,_,by rw[<-e1];rfl,rfl,by omega,h2,fun k s e hk=>?_,h4,s2.trans s3⟩
   by_cases q1:k=(lo+hi) / 2
   ·subst q1
    rw[hg]at e
    cases e
    exact y1
   ·obtain ⟨CG,ek⟩:=Kr.mp e
    have QB:=key k ((lo+hi) / 2) CG hm (by omega)
    rw[ek]at QB
    cases r:bF (j6 y (2*lg) s) (j6 y (2*lg) t1)
    ·have:=L2.ue _ _ _ r QB
     rw[this]at y1
     cases y1
    ·rfl
  ·walk_at "rd"
   have y2:bF (j6 y (2*lg) ss[(lo+hi) / 2]) (j6 y (2*lg) t1)=false:=by simpa using y1
   refine ⟨(lo+hi) / 2 - lo,by omega,lo,(lo+hi) / 2,_,by rw[<-em];rfl,rfl,by omega,by omega,h3,fun k s e hk=>?_,s2.trans s3⟩
   by_cases q1:k=(lo+hi) / 2
   ·subst q1
    rw[hg]at e
    cases e
    exact y2
   ·obtain ⟨CG,ek⟩:=Kr.mp e
    have QB:=key ((lo+hi) / 2) k hm CG (by omega)
    rw[ek]at QB
    exact L2.ue _ _ _ y2 QB
 ·have z1: ¬(lo:Int)<hi:=fun w=>z (decide_eq_true w)
  walk_at "rd"
  have e:hi=lo:=by omega
  subst e
  exact q hi H2 h2 h3 h4 s2
theorem rL:br P w K mg base eG 5 MZ NJ ["words","ways","band"] (ko K aX aO):=by
 have vh:=rJ (P:=P) (w:=w) (base:=base) T
 have rM:=qU (P:=P) (w:=w) (base:=base) T
 have qW:=oA (P:=P) (w:=w) (base:=base) T
 refine T.Ry.fn.ok eZ (fun vs H Q E h=>qm h) (fun cu A outer s H vs Q E hr h=>?_)
 refine ⟨_,(ae (ao (i:=3) eZ.nd rfl (Or.inl rfl) (dj ab))
   (ae (b5 PassesOwn.never rfl (eh K rfl (aj vh (hr.mono (by decide)) rfl T.Ro.mg T.Ro.fn.kp T.Ro.bd .nil ay (aa (pv 0) (aa (pv 2) ab)))) (aI (i:=4) eZ.nd rfl (Or.inl rfl)) (ae (ao (i:=5) eZ.nd rfl (Or.inl rfl) (aj rM (hr.mono (by decide)) rfl T.Rx.mg T.Rx.fn.kp T.Rx.bd .nil ay (aa (pv 0) (aa (pv 1) (aa (pv 4) ab)))))
   (ai (cR (bK K rfl Zr PySem.F.slot_list_insert PySem.F.type_list_insert BJ (pv 3) (aa (aj qW (hr.mono (by decide)) rfl T.Rw.mg T.Rw.fn.kp T.Rw.bd .nil ay (aa (pv 3) (aa (pv 5) ab))) (aa (pv 5) ab)))))))
   (ai (aE (bM (bo K rfl) rfl T.z_tuple boot_tuple (aa (bV ["seen"] [none] (eh K rfl (pv 3)) trivial (fun _ _ _ _=>(aI (i:=0) (by decide+kernel:List.Nodup (["seen"]:List Str)) rfl (Or.inl rfl))) (fun _ _ _ _=>fz) (fun _ _ _ _=>(bN K rfl (pv 0) rfl))) ab)))))),?_⟩
 obtain ⟨y,lg,wt,vt,ws,mj,band,rfl,hy,hz,tI,Uj,j7,hb,RO,vU,QC,q⟩:=h
 have hs:(100000:Nat)<sizeLine:=by decide
 walk_at "rd"
 intro a na
 have s0:=ak.upd (o:= .lst []) na
 refine ⟨_,rfl,_,rfl,wt,ws,band,rfl,s0 _ _ tI,Uj,fun w hw=>⟨fun c hc=>hy.lt c ((j7 w hw).1.bO c hc),(j7 w hw).2⟩,hb,fun b ps H1 nb wA vC j9 s1=>?_⟩
 have Gs:=s0.trans s1
 have Ya:b≠a:=fun z=>by rw[z,ag]at nb;cases nb
 have Yb:ps.length<=48:=by
  have h1:(ps.map Pr.pair).length<=48:=by
   rw[j9]
   have:=jx band (fun w hw=>(j7 w hw).2) ws.length (UP _)
   omega
  rwa [QW]at h1
 have pin: ∀p∈ps, ∃w,ws[p.c]? =some w/\p.i<w.length/\w5 band (rd w p.i)=true:=fun p hp=>by
  have hm:p.pair∈cE band ws ws.length:=by rw[<-j9];exact Zu.mpr ⟨p,hp,rfl⟩
  exact zf hm
 refine ⟨b,rfl,⟨_,ba.of wA⟩,?_⟩
 refine gI (K:=K) (a:=b) (xs:=kh ps) (fun k σ H'=> ∃(ss:List Sn) (sv nv:Option V),σ=[some (.ref wt),some (.ref vt),some (.str (S [band])),some (.ref a),sv,nv]/\H' a=some (.lst (AQ ss))/\(∀s∈ss,js H' aX aO y lg s/\rd s.u s.p=band/\ ∃w,ws[s.c]? =some w/\ze w s.c s.i s/\s.i<w.length)/\(ss.map fun s=>(s.c,s.i)).Perm ((ps.take k).map Pr.pair)/\Ce y (2*lg) ss/\aN a H1 H')
  ⟨[],none,none,rfl,s1 _ _ ag,fun _ h=>absurd h Zl, .nil,List.Pairwise.nil,aN.refl _ _⟩ (fun k σ H' _ ⟨_,_,_,_,_,_,_,_,h⟩=>ba.of (h _ _ wA Ya)) ?_ ?_
 ·rintro k x σ H2 hx ⟨ss,sv,nv,rfl,ha,FH,j8,N6,s2⟩
  obtain ⟨p,hp,rfl⟩:=Et hx
  have hk:k<ps.length:=(Kr.mp hp).1
  have QD:=UQ hp
  obtain ⟨w,hw,hi,ho⟩:=pin p QD
  have Yc:=UQ hw
  have Qn:p.c<mj.length:=by rw[vU];exact (Kr.mp hw).1
  have bZ:=QC p.c w mj[p.c] hw (Kq Qn)
  have go: ∀c o,H c=some o->H2 c=some o:=fun c o e=>s2 _ _ (Gs c o e) (au e na)
  have Uk:=(vC p QD).tp
  have Ye:p.t≠a:=fun z=>by rw[z,s1 _ _ ag]at Uk;cases Uk
  have Ul:=s2 _ _ Uk Ye
  have Yf:ss.length=k:=by
   have:=j8.length_eq
   rw[QW,QW,Zi]at this
   omega
  refine ⟨_,rfl,_,rfl,_,rfl,y,lg,wt,vt,p.t,w,ws,mj,mj[p.c],p.c,p.i,rfl,hy,go _ _ tI,go _ _ RO,Ul,hw,Kq Qn,bZ.same go,hi,fun s H3 JD ny VM Y5 s3=>?_⟩
  have VN:=JD.band hy (j7 w Yc).1 hi hb ho
  refine ⟨_,rfl, .inl ⟨rfl,_,ba.of (s3 _ _ ha)⟩,_,rfl,_,rfl,y,lg,a,ss,s,rfl,hy,hz,s3 _ _ ha,fun t ht=>⟨(FH t ht).1.same s3,by rw[(FH t ht).2.1,VN]⟩,VM,N6,by omega,fun n H4 hn h1 h2 s4=>?_⟩
  have VO:=s4 _ _ (s3 _ _ ha)
  refine ⟨_,rfl,a,_,n,_,rfl,rfl,VO,by rw[lY];exact hn,by rw[lY];omega,?_⟩
  have e1:(AQ ss).take n++V.ref s.a::(AQ ss).drop n=AQ (ss.take n++s::ss.drop n):=by
   unfold AQ
   rw[Wx,Qc4,Zd,Qc5]
  rw[e1]
  have su: ∀t,js H4 aX aO y lg t->js (L2.upd H4 a (.lst (AQ (ss.take n++s::ss.drop n)))) aX aO y lg t:=fun t ot=>by
   have ne: ∀{c:Addr} {o:HO},H4 c=some o->(∀l,o≠ .lst l)->c≠a:=fun {c o} e no z=>by rw[z,VO]at e;exact no _ (Zc e).symm
   obtain ⟨dx,eo⟩:=ot.ob
   obtain ⟨dw,ew⟩:=ot.wy.ob
   exact ⟨⟨dx,by rw[ar (ne eo (fun l z=>by cases z))];exact eo⟩,by rw[ar (ne ot.st (fun l z=>by cases z))];exact ot.st,⟨⟨dw,by rw[ar (ne ew (fun l z=>by cases z))];exact ew⟩,ot.wy.sw,ot.wy.uz,ot.wy.lz,ot.wy.rt⟩,ot.pz⟩
  refine ⟨ss.take n++s::ss.drop n,_,_,rfl,ag,fun t ht=>?_,?_,LD N6 h1 h2,fun c o e z=>by rw[ar z];exact s4 _ _ (s3 _ _ (s2 c o e z))⟩
  ·have:t=s\/t∈ss:=by
    rcases Zh.mp ht with r | r
    ·exact .inr (Qao r)
    ·rcases Wz.mp r with r | r
     ·exact .inl r
     ·exact .inr (Qax r)
   rcases this with r | r
   ·subst r
    refine ⟨su _ (VM.same s4),VN,w,?_,?_,?_⟩
    ·rw[JD.ec];exact hw
    ·rw[JD.ec,JD.ei];exact JD
    ·rw[JD.ei];exact hi
   ·exact ⟨su _ (((FH t r).1.same s3).same s4),(FH t r).2⟩
  ·rw[Wx,Zd, <-take_snoc hp,Wx,JD.ec,JD.ei]
   have p1:(ss.take n).map (fun s=>(s.c,s.i))++(p.c,p.i)::(ss.drop n).map (fun s=>(s.c,s.i)) |>.Perm ((p.c,p.i)::ss.map fun s=>(s.c,s.i)):=by
    refine List.perm_middle.trans (List.Perm.cons _ ?_)
    rw[<-Wx,Z5]
   exact p1.trans ((List.Perm.cons _ j8).trans (List.perm_append_singleton _ _).symm)
 ·rintro σ H2 ⟨ss,sv,nv,rfl,ha,FH,j8,N6,s2⟩
  rw[jO,ZX,j9]at j8
  have Yf:ss.length<=48:=by
   have:=j8.length_eq
   rw[QW, <-j9,QW]at this
   omega
  have vD:ak H H2:=fun c o e=>s2 _ _ (Gs c o e) (au e na)
  refine ⟨_,rfl,a,rfl,⟨_,ba.of ha⟩,?_⟩
  refine mG (K:=K) (a:=a) (xs:=AQ ss) (fun i acc H'=>H'=H2/\acc=(ss.take i).map fun s=>V.ref s.t) (by rw[lY];omega) (fun i acc H' h=>by rw[h.1];exact ba.of ha) ⟨rfl,rfl⟩ ?_ ?_
  ·rintro i x acc H3 Nx hi hx hl ⟨rfl,rfl⟩ nx
   obtain ⟨t,ht,rfl⟩:=HN hx
   obtain ⟨dx,e⟩:=(FH t (UQ ht)).1.ob
   refine ⟨trivial,dB ⟨_,rfl,t.a,aO,dx,_,_,rfl,e,T.dI,T.n_Seen_strand,tf,nx _ _ (by simpa using hl) ⟨rfl,?_⟩⟩⟩
   rw[<-take_snoc ht,Wx]
   rfl
  ·rintro acc H3 D hl ⟨rfl,rfl⟩ hD
   rw[lY,ZX]
   refine ⟨D,_,rfl, .inl ⟨ba.of ag,fun t nt=>?_⟩⟩
   have sA:=(ak.upd (o:= .lst (ss.map fun s=>V.ref s.t)) hD).trans (ak.upd (o:= .tup (ss.map fun s=>V.ref s.t)) nt)
   have ep:(ss.map fun s=>(⟨s.t,s.c,s.i⟩:Pr)).map Pr.pair=ss.map fun s=>(s.c,s.i):=by rw[ZV];rfl
   refine q t (ss.map fun s=>(⟨s.t,s.c,s.i⟩:Pr)) _ (ak.free (vD.trans (ak.upd hD)) nt) (by rw[ag];unfold kh;rw[ZV];rfl) (fun p hp=>?_) (by rw[ep];exact j8) ?_ (vD.trans sA)
   ·obtain ⟨s,O1,rfl⟩:=Zu.mp hp
    obtain ⟨ok,_,w,hw,_,hi⟩:=FH s O1
    have h1:=(Kr.mp hw).1
    have h2:=(j7 w (UQ hw)).2
    exact ⟨sA _ _ ok.st,by show s.c<1000;omega,by show s.i<1000;omega⟩
   ·rw[ep]
    unfold EZ
    rw[Z8]
    refine Qcb (fun {s t} h1 h2 h=>?_) N6
    obtain ⟨o1,_,w1,e1,i1,l1⟩:=FH s h1
    obtain ⟨o2,_,w2,e2,i2,l2⟩:=FH t h2
    have g1:ws.getD s.c []=w1:=by rw[Wy,e1];rfl
    have g2:ws.getD t.c []=w2:=by rw[Wy,e2];rfl
    rw[<-AR hy (j7 w1 (UQ e1)).1 l1 g1 i1 o1.wy.rt, <-AR hy (j7 w2 (UQ e2)).1 l2 g2 i2 o2.wy.rt]
    exact h
theorem vm:br P w K mg base eG 2 MP Nv ["word"] (lF K):=by
 have bE:=cZ (P:=P) (w:=w) (base:=base) T
 refine T.Rq.fn.ok iD (fun vs H Q E h=>rz h) (fun cu A outer s H vs Q E hr h=>?_)
 refine ⟨_,(ae (ao (i:=1) iD.nd rfl (Or.inl rfl) (dj ab))
   (ae (b5 PassesOwn.never rfl (i9 (pv 0)) (aI (i:=2) iD.nd rfl (Or.inl rfl)) (ai (bT (PW.pt (kD (G2 K rfl (pv 1)) (jG (aG hV (aM (bW K rfl) (pv 1) (iF ft ah) (fun _ _=>rfl)) (aj bE (hr.mono (by decide)) rfl T.F0.mg T.F0.fn.kp T.F0.bd .nil ay (aa (pv 2) ab)) (aK _))))) (ai (cR (eW K rfl Zr Qa7 Qa6 Kl (pv 1)))) (ai (cR (bK K rfl Zr ZZ ZY c_ (pv 1) (aa (pv 2) ab)))))))
   (ai (aE (bK K rfl Zm Qat Qas (gK K rfl) (lp [] (by decide+kernel)) (aa (pv 1) ab)))))),?_⟩
 obtain ⟨l,rfl,hl,hz,q⟩:=h
 have hs:(100000:Nat)<sizeLine:=by decide
 walk_at "rd"
 intro p1 n1
 refine ⟨_,rfl,l,rfl,?_⟩
 refine zU (xs:=cI l) (fun i σ H'=> ∃lv,σ=[some (.str (S l)),some (.ref p1),lv]/\H' p1=some (.lst (cI (red (l.take i))))/\aN p1 H H') ⟨none,rfl,ag,aN.of (ak.upd n1)⟩ ?_ ?_
 ·rintro i x σ H1 hx ⟨lv,rfl,hp,s1⟩
  obtain ⟨c,hc,rfl⟩:=dz hx
  have hi:i<l.length:=(Kr.mp hc).1
  have h8:c<128:=(hl c (UQ hc)).lt
  have Jy:(red (l.take i)).length<=1000:=ZG (lD _) (by rw[Zi];omega)
  have fin: ∀st,st=fE (red (l.take i)) c-> ∃lv,[some (V.str (S l)),some (V.ref p1),some (V.str (S [c]))]=[some (V.str (S l)),some (.ref p1),lv]/\(upd H1 p1 (.lst (cI st))) p1=some (.lst (cI (red (l.take (i+1)))))/\aN p1 H (upd H1 p1 (.lst (cI st))):=fun st e=>
   ⟨_,rfl,by rw[ag,DS hc,e],fun b o e z=>by rw[ar z];exact s1 b o e z⟩
  refine ⟨_,rfl,p1,_,rfl,ba.of hp,?_⟩
  rcases snoc_cases (red (l.take i)) with e | ⟨m,a,e⟩
  ·rw[e]at hp ⊢
   refine wH rfl ?_
   refine Bv ?_
   refine ⟨_,rfl, .inl ⟨rfl,_,ba.of hp⟩,_,rfl,p1,_,_,rfl,rfl,hp,by rw[aU];exact (by decide:(0:Nat)<sizeLine),?_⟩
   rw[du]
   refine fin _ ?_
   rw[e]
   unfold fE
   rw[if_neg (by simp)]
  ·rw[e]at hp Jy ⊢
   have Y6:m.length<=1000:=by simp at Jy;omega
   rw[<-du]at hp ⊢
   refine To (by simp) ?_
   refine ⟨_,rfl,_,rfl,p1,_,_,_,rfl,rfl,ba.of hp,vS _ _,_,rfl,c,rfl,h8,[a],[az c],rfl,rfl,_,rfl,bJ (fun z=>?_) (fun z=>?_)⟩
   ·have ea:a=az c:=by simpa using of_decide_eq_true z
    refine ⟨_,rfl, .inl ⟨rfl,_,ba.of hp⟩,p1,_,V.str (S [a]),rfl,rfl,hp,by simp,?_⟩
    rw[Qcz]
    refine fin _ ?_
    rw[e]
    unfold fE
    rw[if_pos (by simp[ea]),Qcz]
   ·have ea:a≠az c:=fun w=>z (decide_eq_true (by rw[w]))
    refine ⟨_,rfl, .inl ⟨rfl,_,ba.of hp⟩,_,rfl,p1,_,_,rfl,rfl,hp,by rw[UO,aU];show m.length+1<sizeLine;omega,?_⟩
    rw[du,du]
    refine fin _ ?_
    rw[e]
    unfold fE
    rw[if_neg (by simpa using ea)]
 ·rintro σ H1 ⟨lv,rfl,hp,s1⟩
  rw[jc]at hp
  refine ⟨rfl,_,rfl,p1,(red l).map fun c=>[c],rfl,rfl,ba.of (by rw[<-dN];exact hp),?_,?_⟩
  ·rw[yI]
   have:=lD l
   omega
  ·rw[pV]
   exact q _ (fun b o e=>s1 b o e (au e n1))
theorem xI:br P w K mg base eG 3 MQ Nw ["word"] (nH K):=by
 have xJ:=vm (P:=P) (w:=w) (base:=base) T
 have bE:=cZ (P:=P) (w:=w) (base:=base) T
 refine T.Rr.fn.ok dU (fun vs H Q E h=>uj h) (fun cu A outer s H vs Q E hr h=>?_)
 refine ⟨_,(ae (ao (i:=1) dU.nd rfl (Or.inl rfl) (aj xJ (hr.mono (by decide)) rfl T.Rq.mg T.Rq.fn.kp T.Rq.bd .nil ay (aa (pv 0) ab)))
   (ae (ao (i:=2) dU.nd rfl (Or.inl rfl) ah)
   (ae (ao (i:=3) dU.nd rfl (Or.inl rfl) (aB aT rfl T.z_len Zf (aa (pv 1) ab)))
   (ae (da PassesOwn.never (PW.pt (kD (aG C5 (aC cj (pv 3) (pv 2)) ah (aK _)) (jG (aG hV (aM hU (pv 1) (pv 2) (fun _ _=>rfl)) (aj bE (hr.mono (by decide)) rfl T.F0.mg T.F0.fn.kp T.F0.bd .nil ay (aa (aM hU (pv 1) (aC cj (pv 3) ah) (fun _ _=>rfl)) ab)) (aK _))))) (ae (g9 (i:=2) dU.nd rfl (Or.inl rfl) ah mr)
   (ai (g9 (i:=3) dU.nd rfl (Or.inl rfl) ah JX))))
   (ai (aE (bA j4 (pv 1) (bz (pv 2)) (bz (pv 3))))))))),?_⟩
 obtain ⟨l,rfl,hl,hz,q⟩:=h
 have hs:(100000:Nat)<sizeLine:=by decide
 refine ⟨_,rfl,l,rfl,hl,hz,fun H1 s1=>?_⟩
 have PK:=lD l
 have cT:=K7 hl
 generalize red l=r at PK cT q ⊢
 have VP:r.length<=sizeLine:=by omega
 walk_at "rd"
 refine ⟨fun m σ H'=> ∃(a e:Nat),σ=[some (.str (S l)),some (.str (S r)),some (.int a),some (.int e)]/\m=e - a/\a<=e/\e<=r.length/\core (CJ r a e)=core r/\H'=H1,⟨_,0,r.length,rfl,rfl,Zg _,UP _,by rw[Hl],rfl⟩,?_⟩
 rintro m σ H2 ⟨a,e,rfl,rfl,h1,h2,hc,rfl⟩
 have fin:core (CJ r a e)=CJ r a e->Q (.str (S (cut r (some (a:Int)) (some (e:Int))))) H2:=fun z=>by
  have e1:cut r (some (a:Int)) (some (e:Int))=CJ r a e:=by
   unfold cut CJ
   rw[HT.gf,HT.gf]
   have e1:min a r.length=a:=by omega
   have e2:min e r.length=e:=by omega
   rw[e1,e2]
  rw[e1, <-z,hc]
  exact q H2 s1
 walk_at "rd"
 refine bJ (fun z=>?_) (fun z=>?_)
 ·have z1:(2:Int)<=(e:Int) - (a:Int):=of_decide_eq_true z
  have ha:a<r.length:=by omega
  have he:e - 1<r.length:=by omega
  have g0:oG r (a:Int)=some r[a]:=b8 (Kq ha)
  have g1:oG r ((e:Int) - 1)=some r[e - 1]:=by
   have:(e:Int) - 1=((e - 1:Nat):Int):=by omega
   rw[this];exact b8 (Kq he)
  have h8:r[e - 1]<128:=(cT _ (ZF he)).lt
  have hw:=K8 (l:=r) (s:=a) (e:=e) (by omega) h2
  refine ⟨_,rfl,_,rfl,r,_,_,rfl,rfl,VP,g0,?_⟩
  walk_at "rd"
  refine ⟨r,_,_,rfl,rfl,VP,g1,?_⟩
  walk_at "rd"
  refine bJ (fun y=>?_) (fun y=>?_)
  ·have ey:r[a]=az r[e - 1]:=by simpa using of_decide_eq_true y
   walk_at "rd"
   refine ⟨(e - 1) - (a+1),by omega,a+1,e - 1,?_,rfl,by omega,by omega,?_,rfl⟩
   ·have e1:(a:Int)+1=((a+1:Nat):Int):=by omega
    have e2:(e:Int) - 1=((e - 1:Nat):Int):=by omega
    rw[<-e1, <-e2]
    rfl
   ·rw[<-hc,hw,Ag ey]
  ·have ey:r[a]≠az r[e - 1]:=fun w=>y (decide_eq_true (by rw[w]))
   walk_at "rd"
   exact fin (by rw[hw,mH ey])
 ·have z1: ¬(2:Int)<=(e:Int) - (a:Int):=fun w=>z (decide_eq_true w)
  walk_at "rd"
  exact fin (hZ (by rw[Hk h2];omega))
theorem A3:br P w K mg base eG 4 MR Ny ["word"] (Ah K):=by
 have zB:=xI (P:=P) (w:=w) (base:=base) T
 refine T.Gp.fn.ok jW (fun vs H Q E h=>DV h) (fun cu A outer s H vs Q E hr h=>?_)
 refine ⟨_,(ae (ao (i:=1) jW.nd rfl (Or.inl rfl) (aj zB (hr.mono (by decide)) rfl T.Rr.mg T.Rr.fn.kp T.Rr.bd .nil ay (aa (pv 0) ab)))
   (ae (ao (i:=2) jW.nd rfl (Or.inl rfl) (pv 1))
   (ae (b5 PassesOwn.never rfl (rO rfl T.z_range (aa ah (aa (aB aT rfl T.z_len Zf (aa (pv 1) ab)) ab))) (aI (i:=3) jW.nd rfl (Or.inl rfl)) (ae (ao (i:=4) jW.nd rfl (Or.inl rfl) (aC dZ (bA j4 (pv 1) (bz (pv 3)) cB) (bA j4 (pv 1) cB (bz (pv 3)))))
   (ai (bT (aG t6 (pv 4) (pv 2) (aK _)) (ai (ao (i:=2) jW.nd rfl (Or.inl rfl) (pv 4))) bf))))
   (ai (aE (pv 2)))))),?_⟩
 obtain ⟨l,rfl,hl,hz,q⟩:=h
 have hs:(100000:Nat)<sizeLine:=by decide
 refine ⟨_,rfl,l,rfl,hl,hz,fun H1 s1=>?_⟩
 have Yg:(core (red l)).length<=1000:=ZG (wL _) (ZG (lD l) hz)
 unfold dP fF at q
 generalize core (red l)=c at Yg q ⊢
 have Jn:c.length<=sizeLine:=by omega
 walk_at "rd"
 refine ⟨_,_,rfl,⟨by decide,by decide,by omega,by omega⟩,?_⟩
 refine dM (fun i σ H'=>H'=H1/\ ∃sv bv,σ=[some (.str (S l)),some (.str (S c)),some (.str (S (b9 c (lG c i)))),sv,bv]) ⟨rfl,none,none,rfl⟩ ?_ ?_
 ·rintro i σ H2 hi ⟨rfl,sv,bv,rfl⟩
  have e1:(1:Int)+(i:Int)=((i+1:Nat):Int):=by omega
  rw[e1]
  have hlen:(cut c (some ((i+1:Nat):Int)) none).length+(cut c none (some ((i+1:Nat):Int))).length<=sizeLine:=by rw[cV,eA,Zs,Zi];omega
  have LX:cut c (some ((i+1:Nat):Int)) none++cut c none (some ((i+1:Nat):Int))=g7 c (i+1):=by rw[cV,eA];rfl
  walk_at "rd"
  rw[LX]
  refine bJ (fun z=>?_) (fun z=>?_)
  ·have z':g7 c (i+1)<b9 c (lG c i):=of_decide_eq_true z
   have hle:b9 c (lG c (i+1))=g7 c (i+1):=by rw[sJ,h7];unfold cP;rw[if_pos z']
   refine ⟨_,rfl,?_⟩
   rw[hle]
   exact ⟨rfl,_,_,rfl⟩
  ·have z': ¬g7 c (i+1)<b9 c (lG c i):=fun y=>z (decide_eq_true y)
   have hle:b9 c (lG c (i+1))=b9 c (lG c i):=by rw[sJ,h7];unfold cP;rw[if_neg z']
   rw[hle]
   exact ⟨rfl,_,_,rfl⟩
 ·rintro σ H2 ⟨rfl,sv,bv,rfl⟩
  have e:((c.length:Int) - 1).toNat=c.length - 1:=by omega
  rw[e]
  exact ⟨_,rfl,q _ s1⟩
theorem Iq:br P w K mg base eG 5 MS Nz ["word"] (Ai K):=by
 have vn:=A3 (P:=P) (w:=w) (base:=base) T
 refine T.Rt.fn.ok oY (fun vs H Q E h=>DZ h) (fun cu A outer s H vs Q E hr h=>?_)
 refine ⟨_,(ae (ao (i:=1) oY.nd rfl (Or.inl rfl) (aj vn (hr.mono (by decide)) rfl T.Gp.mg T.Gp.fn.kp T.Gp.bd .nil ay (aa (pv 0) ab)))
   (ae (b5 PassesOwn.never rfl (rO rfl T.z_range (aa ah (aa (aC bc (aB aT rfl T.z_len Zf (aa (pv 1) ab)) ah) ab))) (aI (i:=2) oY.nd rfl (Or.inl rfl)) (ae (ao (i:=3) oY.nd rfl (Or.inl rfl) (aC fg (aB aT rfl T.z_len Zf (aa (pv 1) ab)) (pv 2)))
   (ai (bT (aG hV (aC t9 (bA j4 (pv 1) cB (bz (pv 2))) (pv 3)) (pv 1) (aK _)) (ai (aE (cO (aa (bA j4 (pv 1) cB (bz (pv 2))) (aa (pv 3) ab))))) bf))))
   (ai (aE (cO (aa (lp [] (by decide+kernel)) (aa ah ab))))))),?_⟩
 obtain ⟨l,rfl,hl,hz,q⟩:=h
 have hs:(100000:Nat)<sizeLine:=by decide
 walk_at "wk"
 intro H1 s1
 have hw:(dP l).length<=1000:=ZG (BR l) hz
 generalize dP l=c at hw q ⊢
 have Jn:c.length<=sizeLine:=by omega
 walk_at "wk"
 refine ⟨_,_,rfl,⟨by decide,by decide,by omega,by omega⟩,?_⟩
 refine dM (fun i σ H'=>H'=H1/\(∀j,1<=j->j<=i-> ¬gM c j)/\ ∃sv tv,σ=[some (.str (S l)),some (.str (S c)),sv,tv]) ⟨rfl,fun j h1 h2=>by omega,none,none,rfl⟩ ?_ ?_
 ·rintro i σ H2 hi ⟨rfl,RQ,sv,tv,rfl⟩
  have e1:(1:Int)+(i:Int)=((i+1:Nat):Int):=by omega
  rw[e1]
  have e2:(c.length:Int) / ((i+1:Nat):Int)=((c.length / (i+1):Nat):Int):=(Qce _ _).symm
  have hd:=Nat.div_le_self c.length (i+1)
  have hmul:(c.take (i+1)).length*(c.length / (i+1))<=sizeLine:=by
   have h1:(c.take (i+1)).length<=i+1:=by rw[Zi];omega
   have h2:=Nat.mul_div_le c.length (i+1)
   have h3:=Nat.mul_le_mul_right (c.length / (i+1)) h1
   omega
  walk_at "wk"
  refine ⟨⟨by rw[e2];exact Qda _,by rw[e2];exact Int.ofNat_le.mpr (ZG hd (by omega:c.length<=1000000))⟩,by rw[e2,cV,YR];exact hmul,?_⟩
  walk_at "wk"
  refine bJ (fun z=>?_) (fun z=>?_)
  ·have z1:gM c (i+1):=by
    have:=of_decide_eq_true z
    rw[e2,cV,YR]at this
    exact this
   walk_at "wk"
   intro p np
   refine q p (i+1) _ (ak.free s1 np) ?_ (.inr ⟨by omega,by omega,z1,fun j j1 j2=>RQ j j1 (by omega)⟩) (s1.trans (ak.upd np))
   rw[ag]
   unfold Jf
   rw[<-cV, <-e2]
  ·have z1: ¬gM c (i+1):=fun y=>z (decide_eq_true (by
    rw[e2,cV,YR]
    exact y))
   refine ⟨rfl,fun j j1 j2=>?_,_,_,rfl⟩
   by_cases y:j=i+1
   ·rw[y];exact z1
   ·exact RQ j j1 (by omega)
 ·rintro σ H2 ⟨rfl,RQ,sv,tv,rfl⟩
  have hc:c=[]:=by
   by_cases z:c=[]
   ·exact z
   ·have hl:0<c.length:=Ww.mpr z
    exact absurd (BS c z) (RQ _ hl (by omega))
  subst hc
  walk_at "wk"
  intro p np
  exact q p 0 _ (ak.free s1 np) (by rw[ag];rfl) (.inl ⟨rfl,rfl⟩) (s1.trans (ak.upd np))
theorem FI:br P w K mg base eG 6 kx xB ["self","yard","word","longest"] (xh K aX):=by
 have L9:=Iq (P:=P) (w:=w) (base:=base) T
 have vn:=A3 (P:=P) (w:=w) (base:=base) T
 have qX:=tJ (P:=P) (w:=w) (base:=base) T
 have qY:=om (P:=P) (w:=w) (base:=base) T
 refine T.Qe.ok qP (fun vs H Q E h=>Cd h) (fun cu A outer s H vs Q E hr h=>?_)
 refine ⟨_,(ae (iZ (pv 0) (aB aT rfl T.z_len Zf (aa (pv 2) ab)) rfl)
   (ae (iZ (pv 0) (aB aT rfl T.z_len Zf (aa (aM (aV K rfl) (aj L9 (hr.mono (by decide)) rfl T.Rt.mg T.Rt.fn.kp T.Rt.bd .nil ay (aa (pv 2) ab)) ah (fun _ _=>rfl)) ab)) rfl)
   (ae (iZ (pv 0) (f_ t6 (aj vn (hr.mono (by decide)) rfl T.Gp.mg T.Gp.fn.kp T.Gp.bd .nil ay (aa (pv 2) ab)) (aj vn (hr.mono (by decide)) rfl T.Gp.mg T.Gp.fn.kp T.Gp.bd .nil ay (aa (aj qX (hr.mono (by decide)) rfl T.F1.mg T.F1.fn.kp T.F1.bd .nil ay (aa (pv 2) ab)) ab)) (aK _)) rfl)
   (ae (ao (i:=4) qP.nd rfl (Or.inl rfl) (bK K rfl Zm Qat Qas (gK K rfl) (lp [] (by decide+kernel)) (aa (bV ["place","yard","word"] [none,some 1,some 2] (eJ rfl T.z_range (aa (aB aT rfl T.z_len Zf (aa (pv 2) ab)) ab)) ⟨⟨rfl,rfl,by first | exact .inl rfl | exact .inr rfl⟩,⟨⟨rfl,rfl,by first | exact .inl rfl | exact .inr rfl⟩,trivial⟩⟩ (fun _ _ _ _=>(aI (i:=0) (by decide+kernel:List.Nodup (["place","yard","word"]:List Str)) rfl (Or.inl rfl))) (fun _ _ _ _=>fz) (fun _ _ _ _=>(bM BI rfl T.z_str boot_str (aa (aj qY (hr.mono (by decide)) rfl T.Ru.mg T.Ru.fn.kp T.Ru.bd .nil ay (aa (pv 1) (aa (pv 2) (aa (pv 0) ab)))) ab)))) ab)))
   (ae (ao (i:=5) qP.nd rfl (Or.inl rfl) (aC bc ah (aC fg (pv 3) (aB (rP rfl) rfl T.z_max boot_max (aa (aB aT rfl T.z_len Zf (aa (pv 2) ab)) (aa ah ab))))))
   (ae (iZ (pv 0) (aC t9 (pv 4) (pv 5)) rfl)
   (ai (iZ (pv 0) (aC t9 (Hb (pv 4) (bz (iF ft ah))) (pv 5)) rfl)))))))),?_⟩
 obtain ⟨x,dx,y,w',lg,rfl,hx,hy,hz,hw,vU,RS,q⟩:=h
 have hs:(100000:Nat)<sizeLine:=by decide
 have cT: ∀c∈w',Lt c:=fun c hc=>hy.lt c (hw.bO c hc)
 have h8: ∀c∈w',c<128:=fun c hc=>(cT c hc).lt
 have ht:=hw.eX hy
 have Yh: ∀c∈eX w',Lt c:=fun c hc=>hy.lt c (ht.bO c hc)
 have h1:1<=w'.length:=Ww.mpr hw.ne
 have rl:=lX (lg:=lg) h1
 obtain ⟨rt,RT⟩:=Ao hw.ne
 refine ⟨_,rfl,w',rfl,by omega,_,rfl,x,aX,dx,_,rfl,hx,T.gu,T.n_Way_size,by show 0<1000;decide,?_⟩
 refine ⟨_,rfl,w',rfl,cT,by omega,fun p1 s1 H1 n1 jq PK QA=>?_⟩
 obtain ⟨er,el⟩:=BZ hy hw PK RT
 subst er
 have et:((dP w').take s1).length=s1:=by
  rw[Zi,el]
  rcases RT with ⟨z,_⟩ | ⟨_,h2,_⟩
  ·exact absurd z hw.ne
  ·omega
 have Yi:s1<=w'.length:=by
  rcases RT with ⟨z,_⟩ | ⟨_,h2,_⟩
  ·exact absurd z hw.ne
  ·exact h2
 have Yj:=QA _ _ (ag (H:=H) (a:=x))
 refine ⟨p1,_,0,_,rfl,rfl,bY.of jq,rfl,_,rfl,by rw[et];omega,_,rfl,x,aX,dx,_,rfl,Yj,T.gu,T.n_Way_root_size,ZI (cY _ _ _) (by show 0+1<1000;decide),?_⟩
 rw[et]
 refine ⟨_,rfl,w',rfl,cT,by omega,fun H2 s2=>⟨_,rfl,w',rfl,h8,by omega,fun H3 s3=>⟨eX w',rfl,Yh,by rw[b_];omega,fun H4 s4=>?_⟩⟩⟩
 have VQ:=s2.trans (s3.trans s4)
 have Yk:=VQ _ _ (ag (a:=x))
 refine ⟨_,_,rfl,rfl,_,rfl,x,aX,dx,_,rfl,Yk,T.gu,T.n_Way_leads,ZI (cY _ _ _) (ZI (Qaq (cY _ _ _)) (by show 0+1+1<1000;decide)),?_⟩
 have Yl:decide (dP w'<dP (eX w'))=leads w':=by
  unfold leads
  rw[hw.dP hy,ht.dP hy]
 refine ⟨rfl,_,rfl,w',rfl,by omega,_,rfl,by omega,by omega,?_⟩
 rw[YR]
 refine Ds (fun i acc H'=>ak _ H'/\acc=cI ((stx y w').take i)) (by omega) ⟨ak.refl _,rfl⟩ ?_ ?_
 ·rintro i acc H5 Nx hi hl ⟨s5,rfl⟩ nx
  refine ⟨⟨rfl,rfl,trivial⟩,dB ⟨_,rfl,_,rfl,_,rfl,y,w',i,by rw[Qb1];rfl,hy,hz,hw,by omega,hi,fun n H6 hn Y7 s6=>⟨n,rfl,by omega,nx _ _ (by simpa using hl) ⟨s5.trans s6,?_⟩⟩⟩⟩
  have eg:(stx y w')[i]? =some (48+n):=by
   unfold stx
   rw[Zk,Qc1 hi]
   show some (xR (cst y w' i))=_
   rw[hn]
   unfold xR
   congr 1
  rw[LA n (by omega),du,take_snoc eg]
 ·rintro acc H5 D hl ⟨s5,rfl⟩ hD
  have QE:(stx y w').take w'.length=stx y w':=Zq (by rw[de];exact UP _)
  rw[QE]at hl ⊢
  refine ⟨D,(stx y w').map fun c=>[c],rfl,rfl,ba.of (by rw[ag, <-dN]),by rw[yI,de];omega,?_⟩
  rw[pV]
  have VR:=s5.trans (ak.upd (o:= .lst (cI (stx y w'))) hD)
  have Um:=VR _ _ (ag (a:=x))
  have Uo:(if (1:Int)>(w'.length:Int) then (1:Int) else (w'.length:Int))=(max w'.length 1:Nat):=by split<;>omega
  have L_:(3:Int)+(lg:Int) / (if (1:Int)>(w'.length:Int) then (1:Int) else (w'.length:Int))=(jr lg w'.length:Nat):=by
   rw[Uo]
   unfold jr
   rw[Z2,Qce]
   rfl
  have rb:jr lg w'.length<=1003:=by unfold jr;have:=Nat.div_le_self lg (max w'.length 1);omega
  refine ⟨_,rfl,_,rfl,w',rfl,by omega,_,_,rfl,_,_,rfl,rfl,⟨by rw[Uo];omega,by rw[Uo];omega⟩,_,_,rfl,rfl,?_⟩
  have l3: ∀(a b c:V),(dX "leads" a (dX "root_size" b (dX "size" c []))).length<=3:=fun a b c=>ZG (cY _ _ _) (Qaq (ZG (cY _ _ _) (Qaq (cY _ _ _))))
  refine ⟨_,rfl,_,rfl,stx y w',_,rfl,rfl,⟨by rw[L_];omega,by rw[L_];omega⟩,by rw[L_,YR,de];omega,_,rfl,x,aX,dx,_,rfl,Um,T.gu,T.n_Way_onward,ZI (l3 _ _ _) (by decide),?_⟩
  refine ⟨_,rfl,1,rfl,_,rfl,rfl,stx y w',rfl,by rw[de];omega,_,rfl,(stx y w').reverse,_,rfl,rfl,⟨by rw[L_];omega,by rw[L_];omega⟩,by rw[L_,YR,Zz,de];omega,_,rfl,x,aX,dx,_,rfl,ag,T.gu,T.n_Way_backward,ZI (cY _ _ _) (ZI (Qaq (l3 _ _ _)) (by decide)),?_⟩
  refine q s1 _ RT ?_ fun b o eb zb=>?_
  ·rw[ag]
   unfold mS
   rw[<-Yl,L_,YR]
  ·rw[ar zb,ar zb]
   refine VR _ _ ?_
   rw[ar zb]
   refine VQ _ _ ?_
   rw[ar zb]
   refine QA _ _ ?_
   rw[ar zb]
   exact eb
theorem A4:br P w K mg base eG 8 M0 NK ["yard","words"] (AS K):=by
 have qX:=tJ (P:=P) (w:=w) (base:=base) T
 have fJ:=jD (P:=P) (w:=w) (base:=base) T
 have vp:=rL (P:=P) (w:=w) (base:=base) T
 have A5:=FI (P:=P) (w:=w) (base:=base) T
 refine T.LQ.fn.ok vd (fun vs H Q E h=>E1 h) (fun cu A outer s H vs Q E hr h=>?_)
 refine ⟨_,(ae (ao (i:=2) vd.nd rfl (Or.inr rfl) (Hd K rfl rfl rfl T.z_max (aa (bV ["word"] [none] (zW K rfl (pv 1)) trivial (fun _ _ _ _=>(aI (i:=0) (by decide+kernel:List.Nodup (["word"]:List Str)) rfl (Or.inl rfl))) (fun _ _ _ _=>fz) (fun _ _ _ _=>(aB aT rfl T.z_len Zf (aa (pv 0) ab)))) ab)))
   (ae (ao (i:=3) vd.nd rfl (Or.inr rfl) (bV ["word","yard","longest"] [none,some 0,some 2] (zW K rfl (pv 1)) ⟨⟨rfl,rfl,by first | exact .inl rfl | exact .inr rfl⟩,⟨⟨rfl,rfl,by first | exact .inl rfl | exact .inr rfl⟩,trivial⟩⟩ (fun _ _ _ _=>(aI (i:=0) (by decide+kernel:List.Nodup (["word","yard","longest"]:List Str)) rfl (Or.inl rfl))) (fun _ _ _ _=>fz) (fun _ _ _ _=>(cO (aa (oF T.Ju A5 (hr.mono (by decide)) rfl T.Jt T.Jv .nil ay (aa (pv 1) (aa (pv 0) (aa (pv 2) ab)))) (aa (oF T.Ju A5 (hr.mono (by decide)) rfl T.Jt T.Jv .nil ay (aa (pv 1) (aa (aj qX (hr.mono (by decide)) rfl T.F1.mg T.F1.fn.kp T.F1.bd .nil ay (aa (pv 0) ab)) (aa (pv 2) ab)))) ab))))))
   (ai (aE (cO (aa (bM (bo K rfl) rfl T.z_tuple boot_tuple (aa (pv 1) ab)) (aa (bM (bo K rfl) rfl T.z_tuple boot_tuple (aa (bV ["band","words","ways"] [none,some 1,some 3] (i9 (aj fJ (hr.mono (by decide)) rfl T.F2.mg T.F2.fn.kp T.F2.bd .nil ay (aa (pv 0) ab))) ⟨⟨rfl,rfl,by first | exact .inl rfl | exact .inr rfl⟩,⟨⟨rfl,rfl,by first | exact .inl rfl | exact .inr rfl⟩,trivial⟩⟩ (fun _ _ _ _=>(aI (i:=0) (by decide+kernel:List.Nodup (["band","words","ways"]:List Str)) rfl (Or.inl rfl))) (fun _ _ _ _=>fz) (fun _ _ _ _=>(aj vp (hr.mono (by decide)) rfl T.Ry.mg T.Ry.fn.kp T.Ry.bd .nil ay (aa (pv 1) (aa (pv 2) (aa (pv 0) ab)))))) ab)) ab))))))),?_⟩
 obtain ⟨y,wt,ws,rfl,hy,hz,tI,Uj,j7,q⟩:=h
 have hs:(100000:Nat)<sizeLine:=by decide
 have xD: ∀c∈y,c<128:=wI hy.lt
 have N3:=dy hy
 obtain ⟨lg,Ym,Yn,RS⟩:=zg fun w hw=>(j7 w hw).2
 refine ⟨_,rfl,wt,rfl,⟨_,bY.of tI⟩,?_⟩
 refine we (K:=K) (a:=wt) (xs:=g6 ws) (fun i acc H'=>H'=H/\acc=(HR (ws.take i)).map V.int) (by rw[cb];omega) (fun i acc H' h=>by rw[h.1];exact bY.of tI) ⟨rfl,rfl⟩ ?_ ?_
 ·rintro i x acc H1 Nx hi hx hl ⟨rfl,rfl⟩ nx
  rw[cb]at hi
  rw[jd hi]at hx
  cases hx
  have Gm:=j7 ws[i] (ZF hi)
  refine ⟨trivial,dB ⟨_,rfl,ws[i],rfl,by omega,nx _ _ (by simpa using hl) ⟨rfl,?_⟩⟩⟩
  rw[<-take_snoc (Kq hi)]
  unfold HR
  rw[Wx,Wx]
  rfl
 ·rintro acc H1 D hl ⟨rfl,rfl⟩ hD
  rw[cb,ZX]
  refine ⟨D,HR ws,rfl,ba.of ag,?_⟩
  rw[Ym]
  have sD:=ak.upd (o:= .lst ((HR ws).map V.int)) hD
  refine ⟨_,rfl,wt,rfl,⟨_,bY.of (sD _ _ tI)⟩,?_⟩
  refine we (K:=K) (a:=wt) (xs:=g6 ws) (fun i acc H'=>ak H1 H'/\ ∃mj:List Wp,acc=Gi mj/\mj.length=i/\ ∀(c:Nat) (w:List Nat) (p:Wp),ws[c]? =some w->mj[c]? =some p->uS H' aX y lg w p) (by rw[cb];omega) (fun i acc H' h=>bY.of (h.1 _ _ tI)) ⟨sD,[],rfl,rfl,fun c w p _ h=>by simp at h⟩ ?_ ?_
  ·rintro i x acc H2 Nx hi hx zR ⟨s2,mj,rfl,vU,QC⟩ nx
   rw[cb]at hi
   rw[jd hi]at hx
   cases hx
   have Gm:=j7 ws[i] (ZF hi)
   have VS:ws[i]? =some ws[i]:=Kq hi
   have QF:=RS ws[i] (ZF hi)
   generalize ws[i]=w' at Gm VS QF ⊢
   have h8: ∀c∈w',c<128:=fun c hc=>(hy.lt c (Gm.1.bO c hc)).lt
   refine ⟨⟨rfl,rfl,trivial⟩,dB ?_⟩
   refine ⟨_,rfl,_,rfl,_,rfl,fun x1 VT Yo Up ne1=>⟨x1,VT,y,w',lg,rfl,ag,hy,hz,Gm.1,QF,by omega,fun r H3 hr TQ Yp=>⟨rfl,?_⟩⟩⟩
   have Yq:=tE Yo Up Yp
   refine ⟨_,rfl,_,rfl,w',rfl,h8,by omega,fun H4 JA=>⟨_,rfl,fun x2 VU Yr Uq ne2=>⟨x2,VU,y,eX w',lg,rfl,ag,hy,hz,Gm.1.eX hy,by rw[b_];exact QF,by omega,fun r2 H5 Tj Um Ys=>⟨rfl,?_⟩⟩⟩⟩
   have Yt:=tE Yr Uq Ys
   refine ⟨by show 2<=sizeLine;decide,fun t nt=>?_⟩
   have VV:=ak.upd (o:= .tup [.ref x1, .ref x2]) nt
   have N7:=JA.trans (Yt.trans VV)
   have all:=Yq.trans N7
   refine nx _ _ (by simpa using zR) ⟨s2.trans all,mj++[⟨t,x1,x2,r,r2⟩],EW mj ⟨t,x1,x2,r,r2⟩,by rw[UO,vU];rfl,HU vU (fun c w p a b=>(QC c w p a b).same all) VS ⟨ag,⟨⟨VT,N7 _ _ TQ⟩,Gm.1,QF,by omega,hr⟩,⟨⟨VU,VV _ _ Um⟩,Gm.1.eX hy,by rw[b_];exact QF,by omega,Tj⟩⟩⟩
  ·rintro acc H2 D2 zR ⟨s2,mj,rfl,vU,QC⟩ Ud
   rw[cb]at vU
   have VW:=ak.upd (o:= .lst (Gi mj)) Ud
   have vD:=s2.trans VW
   refine ⟨_,rfl,wt,_,rfl, .inr ⟨bY.of (vD _ _ tI),?_⟩⟩
   refine ⟨_,rfl,y,rfl,xD,by omega,fun l' H3 iW TN s3=>?_⟩
   have el:=jN iW TN
   subst el
   refine ⟨_,rfl,?_⟩
   have Cu:=vD.trans s3
   have Yu:=s3 _ _ (ag (H:=H2) (a:=D2) (o:=HO.lst (Gi mj)))
   refine d_ (xs:=cI (aR y)) (fun i acc H'=>ak H3 H'/\ ∃os:List Od,acc=yZ os/\(∀o∈os,p_ H' o)/\os.length=i/\(∀(j:Nat) (o:Od) (b:Nat),os[j]? =some o->(aR y)[j]? =some b->(o.ps.map Pr.pair).Perm (cE b ws ws.length))/\ ∀o∈os,EZ y ws (2*lg) (o.ps.map Pr.pair)) (by rw[aU];omega) ⟨ak.refl _,[],rfl,fun _ h=>absurd h Zl,rfl,fun j o b h=>by simp at h,fun _ h=>absurd h Zl⟩ ?_ ?_
   ·rintro i x acc H4 Nx hi hx nP ⟨s4,os,rfl,G_,B7,Ur,Us⟩ nx
    obtain ⟨b,hb,rfl⟩:=dz hx
    have Yv:=xl hy (UQ hb)
    refine ⟨⟨rfl,rfl,trivial⟩,dB ?_⟩
    refine ⟨_,rfl,_,rfl,_,rfl,y,lg,wt,D2,ws,mj,b,rfl,hy,hz,s4 _ _ (Cu _ _ tI),Uj,j7,Yv,s4 _ _ Yu,vU,fun c w p a1 a2=>(QC c w p a1 a2).same (VW.trans (s3.trans s4)),fun t ps H5 nt ht vC j8 N6 s5=>?_⟩
    have VJ:ps.length<=100:=by
     have h1:=j8.length_eq
     have h2:=jx b (fun w hw=>(j7 w hw).2) ws.length (UP _)
     rw[QW]at h1
     omega
    refine nx _ _ (by simpa using nP) ⟨s4.trans s5,os++[⟨t,ps⟩],w4 os ⟨t,ps⟩,fun o ho=>?_,by rw[UO,B7];rfl,fun j o b' ho Ji=>?_,fun o ho=>?_⟩
    ·rcases Zh.mp ho with g | g
     ·exact (G_ o g).same s5
     ·rw[Wv.mp g]
      exact ⟨ht,vC,VJ⟩
    ·by_cases z:j<os.length
     ·rw[ZE z]at ho
      exact Ur j o b' ho Ji
     ·rw[ZT (by omega)]at ho
      have:j=i:=by
       have:=(Kr.mp ho).1
       simp at this
       omega
      subst this
      rw[B7,Qcn]at ho
      cases ho
      rw[hb]at Ji
      cases Ji
      exact j8
    ·rcases Zh.mp ho with g | g
     ·exact Us o g
     ·rw[Wv.mp g]
      exact N6
   ·rintro acc H4 D3 nP ⟨s4,os,rfl,G_,B7,Ur,Us⟩ N5
    rw[aU]at B7
    refine ⟨D3,_,rfl, .inl ⟨ba.of ag,fun t nt=>?_⟩⟩
    refine ⟨by show 2<=sizeLine;decide,fun dr L4=>?_⟩
    have sA:=(ak.upd (o:= .lst (yZ os)) N5).trans ((ak.upd (o:= .tup (yZ os)) nt).trans (ak.upd (o:= .tup [.ref wt, .ref t]) L4))
    have T9:t≠dr:=fun z=>by rw[<-z,ag]at L4;cases L4
    have VX:=Cu.trans s4
    exact q dr os _ ⟨⟨wt,t,ag,sA _ _ (VX _ _ tI),by rw[ar T9,ag]⟩,fun o ho=>(G_ o ho).same sA⟩ ⟨2*lg,fun w hw v hv=>by have:=RS w hw;have:=RS v hv;omega,⟨B7,Ur⟩,Us⟩ (VX.trans sA)
theorem oB:br P w K mg base eG 1 MK Np ["some"] (iM K):=by
 refine T.Rm.fn.ok dD (fun vs H Q E h=>mR h) (fun cu A outer s H vs Q E hr h=>?_)
 refine ⟨_,(ae (ao (i:=1) dD.nd rfl (Or.inl rfl) DG)
   (ae (b5 PassesOwn.never rfl (eh K rfl (pv 0)) (aI (i:=2) dD.nd rfl (Or.inl rfl)) (ae (ao (i:=3) dD.nd rfl (Or.inl rfl) (aB (mw rfl) rfl T.z_min boot_min (aa (aM (aV K rfl) (pv 2) ah (fun _ _=>rfl)) (aa (aM (aV K rfl) (pv 2) ah (fun _ _=>rfl)) ab))))
   (ae (uc (pb hr) (pv 1) (aM (aV K rfl) (pv 2) ah (fun _ _=>rfl)) (pv 3) rfl)
   (ai (uc (pb hr) (pv 1) (aM (aV K rfl) (pv 2) ah (fun _ _=>rfl)) (pv 3) rfl)))))
   (ai (aE (pv 1))))),?_⟩
 obtain ⟨a,qs,rfl,ha,hq,hn,nd,q⟩:=h
 have hs:(100000:Nat)<sizeLine:=by decide
 walk_at "wk"
 intro d RU
 have VY:a≠d:=au ha RU
 refine ⟨_,rfl,a,rfl,⟨_,ba.of (by rw[ar VY];exact ha)⟩,?_⟩
 refine gI (K:=K) (a:=a) (xs:=jQ qs) (fun k σ H'=> ∃(cv fv:Option V),σ=[some (.ref a),some (.ref d),cv,fv]/\H' d=some (.dK (fX ((qs.take k).map Q4.v)))/\aN d H H')
  ⟨none,none,rfl,ag,fun b o e z=>by rw[ar z];exact e⟩ (fun k σ H' _ ⟨_,_,_,_,h⟩=>ba.of (h _ _ ha VY)) ?_ ?_
 ·rintro k x σ H1 hx ⟨cv,fv,rfl,hd,s1⟩
  obtain ⟨c,hc,rfl⟩:=uO hx
  have hk:k<qs.length:=(Kr.mp hc).1
  have tc:=hq c (UQ hc)
  have jZ:c.t≠d:=fun z=>by have h9:H c.t=_:=tc;rw[z,RU]at h9;cases h9
  have RV:kJ H1 c:=s1 _ _ tc jZ
  have lc:(fX ((qs.take k).map Q4.v)).length<=2000:=by rw[xg,QW,Zi];omega
  have e:(qs.take (k+1)).map Q4.v=(qs.take k).map Q4.v++[c.v]:=by rw[<-take_snoc hc,Wx];rfl
  have VZ:(dH ((qs.take k).map Q4.v++[c.v])).Nodup:=by
   rw[<-e]
   have:qs.map Q4.v=(qs.take (k+1)).map Q4.v++(qs.drop (k+1)).map Q4.v:=by rw[<-Wx,Z5]
   rw[this]at nd
   unfold dH at nd ⊢
   rw[Z1,Qag]at nd
   exact nd.1
  refine ⟨_,rfl,c.t,_,2,_,rfl,rfl,bY.of RV,rfl,_,rfl,c.t,_,3,_,rfl,rfl,bY.of RV,rfl,_,_,rfl,?_⟩
  refine ⟨_,rfl,_,rfl,_,rfl,c.t,_,2,_,rfl,rfl,bY.of RV,rfl,d,_,rfl,ua.k (k:=Sum.inl (c.v.2.2.1:Int)) hd (by omega),?_⟩
  have Yw: ∀o,kJ (L2.upd H1 d o) c:=fun o=>by show L2.upd H1 d o c.t=_;rw[ar jZ];exact RV
  refine ⟨_,rfl,_,rfl,_,rfl,c.t,_,3,_,rfl,rfl,bY.of (Yw _),rfl,d,_,rfl,ua.k (k:=Sum.inl (c.v.2.2.2:Int)) ag (ZI (gh _ _ _) (by omega)),?_⟩
  refine ⟨_,_,rfl,?_,fun b o eb z=>by rw[ar z,ar z];exact s1 b o eb z⟩
  rw[ag,e, <-HI VZ]
  rfl
 ·rintro σ H1 ⟨cv,fv,rfl,hd,s1⟩
  rw[gn,ZX]at hd
  exact ⟨_,rfl,q d H1 RU hd fun b o eb=>s1 b o eb (au eb RU)⟩
theorem vq:br P w K mg base eG 1 ML Nq ["rising","point"] (lV K):=by
 refine T.Rn.fn.ok dh (fun vs H Q E h=>rC h) (fun cu A outer s H vs Q E hr h=>?_)
 refine ⟨_,(ae (ao (i:=2) dh.nd rfl (Or.inl rfl) ah)
   (ae (ao (i:=3) dh.nd rfl (Or.inl rfl) (aC cj (aB (aW K rfl) rfl T.z_len Zf (aa (pv 0) ab)) ah))
   (ae (da PassesOwn.never (aG gJ (pv 2) (pv 3) (aK _)) (ae (ao (i:=4) dh.nd rfl (Or.inl rfl) (aC fg (aC bc (pv 2) (pv 3)) ah))
   (ai (bT (aG gJ (aM (bW K rfl) (pv 0) (pv 4) (fun _ _=>rfl)) (pv 1) (aK _)) (ai (ao (i:=2) dh.nd rfl (Or.inl rfl) (aC bc (pv 4) ah))) (ai (ao (i:=3) dh.nd rfl (Or.inl rfl) (pv 4)))))))
   (ai (aE (pv 2)))))),?_⟩
 obtain ⟨a,l,p,rfl,ha,up,hp,hn,q⟩:=h
 have hs:(100000:Nat)<sizeLine:=by decide
 have hi:=UR hp
 have Ut:l[l.idxOf p]=p:=ZO hi
 have key:=Qbg.mp up
 refine ⟨_,rfl,a,_,rfl, .inl (ba.of ha),?_⟩
 rw[lU]
 walk_at "wk"
 refine ⟨fun m σ H'=> ∃(lo hi:Nat) (mv:Option V),σ=[some (.ref a),some (.int p),some (.int lo),some (.int hi),mv]/\m=hi - lo/\lo<=l.idxOf p/\l.idxOf p<=hi/\hi<l.length/\H'=H,⟨_,0,l.length - 1,none,?_,rfl,Zg _,by omega,by omega,rfl⟩,?_⟩
 ·have:((l.length:Int) - 1)=((l.length - 1:Nat):Int):=by omega
  rw[<-this];rfl
 rintro m σ H2 ⟨lo,oH,mv,rfl,rfl,h1,h2,h3,rfl⟩
 walk_at "wk"
 refine bJ (fun z=>?_) (fun z=>?_)
 ·have z1:(lo:Int)<oH:=of_decide_eq_true z
  have em:(((lo:Int)+oH) / 2)=(((lo+oH) / 2:Nat):Int):=by omega
  have hm:(lo+oH) / 2<l.length:=by omega
  walk_at "rd"
  refine ⟨a,_,((lo:Int)+oH) / 2,_,rfl,rfl,ba.of ha,by rw[em];exact b8 (EI (Kq hm)),?_⟩
  walk_at "rd"
  refine bJ (fun y=>?_) (fun y=>?_)
  ·have y1:((l[(lo+oH) / 2]:Nat):Int)<p:=of_decide_eq_true y
   have lt:(lo+oH) / 2<l.idxOf p:=by
    refine Classical.byContradiction fun w=>?_
    by_cases e:(lo+oH) / 2=l.idxOf p
    ·have:l[(lo+oH) / 2]=p:=by simp only[e];exact Ut
     omega
    ·have:=key (l.idxOf p) ((lo+oH) / 2) hi hm (by omega)
     rw[Ut]at this
     omega
   walk_at "rd"
   have e1:((lo:Int)+oH) / 2+1=(((lo+oH) / 2+1:Nat):Int):=by omega
   refine ⟨oH - ((lo+oH) / 2+1),by omega,(lo+oH) / 2+1,oH,_,by rw[<-e1];rfl,rfl,by omega,h2,h3,rfl⟩
  ·have y1: ¬((l[(lo+oH) / 2]:Nat):Int)<p:=fun w=>y (decide_eq_true w)
   have le:l.idxOf p<=(lo+oH) / 2:=by
    refine Classical.byContradiction fun w=>?_
    have:=key ((lo+oH) / 2) (l.idxOf p) hm hi (by omega)
    rw[Ut]at this
    omega
   walk_at "rd"
   refine ⟨(lo+oH) / 2 - lo,by omega,lo,(lo+oH) / 2,_,by rw[<-em];rfl,rfl,h1,le,by omega,rfl⟩
 ·have z1: ¬(lo:Int)<oH:=fun w=>z (decide_eq_true w)
  have e:lo=l.idxOf p:=by omega
  walk_at "rd"
  rw[e]
  exact q
theorem mh:br P w K mg base eG 2 MM Nr ["some"] (gp K):=by
 have qZ:=oB (P:=P) (w:=w) (base:=base) T
 have xK:=vq (P:=P) (w:=w) (base:=base) T
 refine T.Gn.fn.ok bD (fun vs H Q E h=>kK h) (fun cu A outer s H vs Q E hr h=>?_)
 refine ⟨_,(ae (ao (i:=1) bD.nd rfl (Or.inl rfl) (aj qZ (hr.mono (by decide)) rfl T.Rm.mg T.Rm.fn.kp T.Rm.bd .nil ay (aa (pv 0) ab)))
   (ae (ao (i:=2) bD.nd rfl (Or.inl rfl) (dj ab))
   (ae (ao (i:=3) bD.nd rfl (Or.inl rfl) ah)
   (ae (b5 PassesOwn.never rfl (eh K rfl (aB (rq rfl) rfl T.z_sorted boot_sorted (aa (pv 1) ab))) (aI (i:=4) bD.nd rfl (Or.inl rfl)) (ai (bT (aG gz (oK (pb hr) (pv 1) (pv 4) (fun _ _=>rfl)) (pv 4) (aK _)) (ai (cR (bK K rfl Zr ZZ ZY c_ (pv 2) (aa (pv 4) ab)))) (ae (ao (i:=5) bD.nd rfl (Or.inl rfl) (aj xK (hr.mono (by decide)) rfl T.Rn.mg T.Rn.fn.kp T.Rn.bd .nil ay (aa (pv 2) (aa (oK (pb hr) (pv 1) (pv 4) (fun _ _=>rfl)) ab))))
   (ae (cR (bK K rfl Zr Qa7 Qa6 kY (pv 2) (aa (pv 5) ab)))
   (ai (g9 (i:=3) bD.nd rfl (Or.inl rfl) (aC cj (aB (aW K rfl) rfl T.z_len Zf (aa (pv 2) ab)) (pv 5)) mr)))))))
   (ai (aE (pv 3))))))),?_⟩
 obtain ⟨a,qs,rfl,ha,hq,hn,nd,q⟩:=h
 have hs:(100000:Nat)<sizeLine:=by decide
 refine ⟨_,rfl,a,qs,rfl,ha,hq,by omega,nd,fun d H1 VZ hd s1=>?_⟩
 have Yx:(qs.map Q4.v).length<=24:=by rw[QW];exact hn
 generalize qs.map Q4.v=cs at nd hd q Yx
 have kl:=xg cs
 have Y8:(dH cs).length=2*cs.length:=by
  have:=congrArg List.length (gT cs)
  rw[QW,QW]at this
  omega
 walk_at "wk"
 intro b nb
 have V0:d≠b:=au hd nb
 have hd2:L2.upd H1 b (.lst []) d=some (.dK (fX cs)):=by rw[ar V0];exact hd
 have sb:=ak.upd (o:= .lst []) nb
 refine ⟨_,rfl,d,_,(dH cs).map fun n:Nat=>(n:Int),rfl,hd2,by rw[gT,ZV];rfl,by rw[QW];omega,fun p2 ms n2 j8 LW=>?_⟩
 obtain ⟨P,eP,pP,uP⟩:=y_ nd j8 LW
 rw[eP]
 have ch:=Lw nd pP uP
 have lP:P.length<=2000:=by rw[pP.length_eq];omega
 have V1:p2≠b:=fun z=>by rw[z,ag]at n2;cases n2
 have s2:=sb.trans (ak.upd (o:= .lst (ins P)) n2)
 refine ⟨p2,rfl,⟨_,ba.of ag⟩,?_⟩
 refine gI (K:=K) (a:=p2) (xs:=ins P) (fun k σ H'=> ∃(m:Nat) (pv nv:Option V),σ=[some (.ref a),some (.ref d),some (.ref b),some (.int m),pv,nv]/\H' b=some (.lst (ins (oS (cF cs) (P.take k) (P.drop k))))/\m+Gh (cF cs) (P.take k) (P.drop k)=Gh (cF cs) [] P/\aN b (L2.upd (L2.upd H1 b (.lst [])) p2 (.lst (ins P))) H')
  ⟨0,none,none,rfl,by rw[ar (Ne.symm V1),ag];rfl,by rw[Qcl];rfl,aN.refl _ _⟩ (fun k σ H' _ ⟨_,_,_,_,_,_,h⟩=>ba.of (h _ _ ag V1)) ?_ ?_
 ·rintro k x σ H3 hx ⟨m,pv,nv,rfl,hb,hm,s3⟩
  obtain ⟨p,hp,rfl⟩: ∃p,P[k]? =some p/\x=V.int (p:Nat):=by
   unfold ins at hx
   rw[Zk]at hx
   cases e:P[k]? with
   | none=>rw[e]at hx;cases hx
   | some p=>rw[e]at hx;cases hx;exact ⟨p,rfl,rfl⟩
  have hk:k<P.length:=(Kr.mp hp).1
  have Yy:p∈dH cs:=pP.mem_iff.mp (UQ hp)
  have V2:=Lz nd Yy
  have V3:H3 d=some (.dK (fX cs)):=s3 _ _ (s2 _ _ hd) V0
  have V4:P=P.take k++p::P.drop (k+1):=by
   have:=Z5 k P
   rw[Z4 hk,(Kr.mp hp).2]at this
   exact this.symm
  have Uu:P.drop k=p::P.drop (k+1):=by rw[Z4 hk,(Kr.mp hp).2]
  have QE:P.take (k+1)=P.take k++[p]:=(take_snoc hp).symm
  have bl:(oS (cF cs) (P.take k) (P.drop k)).length<=2000:=ZG HJ (by rw[Zi];omega)
  have wR:=EL (st:=cF cs) hp
  refine ⟨_,rfl,_,rfl,d,_,rfl,by rw[<-V2];exact pT.k (k:=Sum.inl (p:Int)) V3,?_⟩
  walk_at "rd"
  refine bJ (fun z=>?_) (fun z=>?_)
  ·have z1:cF cs p=p:=by have:=of_decide_eq_true z;omega
   refine ⟨_,rfl, .inl ⟨rfl,_,ba.of hb⟩,_,rfl,b,_,_,rfl,rfl,hb,by rw[lU];omega,?_⟩
   refine ⟨m,_,_,rfl,?_,?_,s3.trans (aN.upd _ _ _)⟩
   ·rw[ag,EH,QE,ED ch V4 z1, <-Uu]
   ·have e0:B9 (cF cs) (P.take k) (P.drop (k+1)) p=0:=by unfold B9;rw[if_pos z1]
    omega
  ·have z1:cF cs p≠p:=fun w=>z (decide_eq_true (by rw[w]))
   obtain ⟨en,em⟩:=Ls ch V4 z1
   rw[<-Uu]at en em
   have up:=Ly (st:=cF cs) uP (Z5 k P).symm (P.drop k)
   have yn:=UR em
   refine ⟨_,rfl,_,rfl,_,rfl,d,_,rfl,by rw[<-V2];exact pT.k (k:=Sum.inl (p:Int)) V3,b,_,cF cs p,rfl,hb,up,em,by omega,?_⟩
   refine ⟨_,rfl, .inl ⟨rfl,_,ba.of hb⟩,_,rfl,b,_,_,_,_,rfl,rfl,hb,by omega,by omega,?_,EI (Kq yn),?_⟩
   ·rw[lU]
    exact P6 yn
   have ee:(ins (oS (cF cs) (P.take k) (P.drop k))).eraseIdx ((oS (cF cs) (P.take k) (P.drop k)).idxOf (cF cs p))=ins (oS (cF cs) (P.take (k+1)) (P.drop (k+1))):=by
    rw[QE,en, <-EK em]
    exact s_ _ _
   rw[ee]
   refine ⟨_,rfl,_,rfl,b,_,rfl, .inl (ba.of ag),?_⟩
   walk_at "rd"
   have bh:=behind up em
   have lb:(oS (cF cs) (P.take (k+1)) (P.drop (k+1))).length=((oS (cF cs) (P.take k) (P.drop k)).erase (cF cs p)).length:=by rw[QE,en]
   have le:((oS (cF cs) (P.take k) (P.drop k)).erase (cF cs p)).length+1=(oS (cF cs) (P.take k) (P.drop k)).length:=by rw[List.length_erase_of_mem em];omega
   have ec:B9 (cF cs) (P.take k) (P.drop (k+1)) p=((oS (cF cs) (P.take k) (P.drop k)).filter fun x=>decide (cF cs p<x)).length:=by unfold B9;rw[if_neg z1,Uu]
   have ei:(m:Int)+(((ins (oS (cF cs) (P.take (k+1)) (P.drop (k+1)))).length:Nat) - ((oS (cF cs) (P.take k) (P.drop k)).idxOf (cF cs p):Nat))=((m+B9 (cF cs) (P.take k) (P.drop (k+1)) p:Nat):Int):=by rw[lU];omega
   exact ⟨m+B9 (cF cs) (P.take k) (P.drop (k+1)) p,some (.int p),some (.int ((oS (cF cs) (P.take k) (P.drop k)).idxOf (cF cs p):Nat)),by rw[<-ei];rfl,ag,by omega,s3.trans (aN.upd _ _ _)⟩
 ·rintro σ H3 ⟨m,pv,nv,rfl,hb,hm,s3⟩
  rw[lU,List.drop_length,ZX]at hm
  have Ab:m=Gh (cF cs) [] P:=hm
  refine ⟨_,rfl,?_⟩
  rw[Ab,P5 ch]
  exact q H3 fun c o e=>s3 c o (s2 c o (s1 c o e)) (au e (ak.free s1 nb))
theorem zC:br P w K mg base eG 9 M1 NL ["yard","one","other"] (qt K):=by
 have nk:=qS (P:=P) (w:=w) (base:=base) T
 have zD:=A4 (P:=P) (w:=w) (base:=base) T
 have eU:=mh (P:=P) (w:=w) (base:=base) T
 refine T.Rz.fn.ok iE (fun vs H Q E h=>xn h) (fun cu A outer s H vs Q E hr h=>?_)
 refine ⟨_,(ae (ao (i:=3) iE.nd rfl (Or.inl rfl) (aj nk (hr.mono (by decide)) rfl T.LN.mg T.LN.fn.kp T.LN.bd .nil ay (aa (pv 0) (aa (aj zD (hr.mono (by decide)) rfl T.LQ.mg T.LQ.fn.kp T.LQ.bd .nil ay (aa (pv 0) (aa (cO (aa (pv 1) (aa (pv 2) ab))) ab))) ab))))
   (ae (ao (i:=4) iE.nd rfl (Or.inl rfl) (bA (pN K rfl) (pv 3) cB (bz (aB aT rfl T.z_len Zf (aa (pv 1) ab)))))
   (ae (ao (i:=5) iE.nd rfl (Or.inl rfl) (bA (pN K rfl) (pv 3) (bz (aB aT rfl T.z_len Zf (aa (pv 1) ab))) cB))
   (ai (aE (aC cj (aC cj (aj eU (hr.mono (by decide)) rfl T.Gn.mg T.Gn.fn.kp T.Gn.bd .nil ay (aa (pv 3) ab)) (aj eU (hr.mono (by decide)) rfl T.Gn.mg T.Gn.fn.kp T.Gn.bd .nil ay (aa (pv 4) ab))) (aj eU (hr.mono (by decide)) rfl T.Gn.mg T.Gn.fn.kp T.Gn.bd .nil ay (aa (pv 5) ab)))))))),?_⟩
 obtain ⟨y,w',v,rfl,hy,hz,hw,oZ,hv,Yz,q⟩:=h
 have hs:(100000:Nat)<sizeLine:=by decide
 have hk:=uv hw hv oZ Yz
 refine ⟨_,rfl,_,rfl,_,rfl,_,rfl,by show 2<=sizeLine;decide,fun t nt=>?_⟩
 have st:=ak.upd (o:= .tup [.str (S w'), .str (S v)]) nt
 refine ⟨y,t,[w',v],rfl,hy,hz,ag,hk.xN,hk.sw,fun dr os H1 Hf ht s1=>?_⟩
 obtain ⟨e,n0,n1,n2⟩:=HW hy hw hv ht
 obtain ⟨M,_,ok,_⟩:=id ht
 refine ⟨y,dr,[w',v],os,rfl,hy,hz,hk.ok,ok,Hf,fun p qs H2 np hp Gy A2 s2=>?_⟩
 have hl:=Cf (os:=os) hk
 have RM:qs.length<=24:=by rw[<-A2,QW]at hl;exact hl
 have c1:o9 (jQ qs) none (some (w'.length:Int))=jQ (qs.take w'.length):=by
  show cut (jQ qs) none (some ((w'.length:Nat):Int))=_
  rw[cV]
  unfold jQ
  rw[Qc4]
 have c2:o9 (jQ qs) (some (w'.length:Int)) none=jQ (qs.drop w'.length):=by
  show cut (jQ qs) (some ((w'.length:Nat):Int)) none=_
  rw[eA]
  unfold jQ
  rw[Qc5]
 refine ⟨_,rfl,_,rfl,w',rfl,by omega,_,rfl,p,_,rfl,ba.of hp,fun p1 YA=>?_⟩
 rw[c1]
 have s3:=ak.upd (o:= .lst (jQ (qs.take w'.length))) YA
 refine ⟨_,rfl,_,rfl,w',rfl,by omega,_,rfl,p,_,rfl,ba.of (s3 _ _ hp),fun p2 YB=>?_⟩
 rw[c2]
 have s4:=ak.upd (o:= .lst (jQ (qs.drop w'.length))) YB
 have JA:=s3.trans s4
 refine ⟨_,rfl,p,qs,rfl,JA _ _ hp,fun x hx=>(Gy x hx).ts (bQ.of JA),by omega,by rw[A2];exact n0,fun H5 s5=>?_⟩
 have jq:H5 p1=some (.lst (jQ (qs.take w'.length))):=s5 _ _ (s4 _ _ ag)
 have kS:H5 p2=some (.lst (jQ (qs.drop w'.length))):=s5 _ _ ag
 have N7:=JA.trans s5
 refine ⟨_,rfl,p1,qs.take w'.length,rfl,jq,fun x hx=>(Gy x (Qao hx)).ts (bQ.of N7),by rw[Zi];omega,by rw[Qc4,A2];exact n1,fun H6 s6=>?_⟩
 refine ⟨_,_,rfl,rfl,?_⟩
 refine ⟨_,rfl,p2,qs.drop w'.length,rfl,s6 _ _ kS,fun x hx=>(Gy x (Qax hx)).ts (bQ.of (N7.trans s6)),by rw[Zs];omega,by rw[Qc5,A2];exact n2,fun H7 s7=>?_⟩
 refine ⟨_,_,rfl,rfl,?_⟩
 rw[Qc4,Qc5,A2]
 have kq:=q H7 (st.trans (s1.trans (s2.trans (N7.trans (s6.trans s7)))))
 rw[<-e]at kq
 exact kq
theorem CA:br P w K mg base eG 10 Nh NZ ["_law_box_here","_law_yard_here","_law_one","_law_other_here"] (tF K):=by
 have jY:=zx (P:=P) (w:=w) (base:=base) T
 have A6:=FA (P:=P) (w:=w) (base:=base) T
 have zE:=xG (P:=P) (w:=w) (base:=base) T
 have A7:=FG (P:=P) (w:=w) (base:=base) T
 have zD:=A4 (P:=P) (w:=w) (base:=base) T
 have CB:=zC (P:=P) (w:=w) (base:=base) T
 have cf:=fK (P:=P) (w:=w) (base:=base) T
 refine T.RI.fn.ok eT (fun vs H Q E h=>zm h) (fun cu A outer s H vs Q E hr h=>?_)
 refine ⟨_,(ae (ao (i:=4) eT.nd rfl (Or.inl rfl) (aj jY (hr.mono (by decide)) rfl T.F9.mg T.F9.fn.kp T.F9.bd .nil ay (aa (pv 1) (aa (pv 2) (aa (pv 3) ab)))))
   (ae (b5 PassesOwn.never rfl (eJ rfl T.z_range (aa ah ab)) (aI (i:=5) eT.nd rfl (Or.inl rfl)) (ae (ao (i:=6) eT.nd rfl (Or.inl rfl) (dj (aa (aj A6 (hr.mono (by decide)) rfl T.LS.mg T.LS.fn.kp T.LS.bd .nil ay (aa (pv 0) (aa (pv 1) (aa (pv 2) ab)))) (aa (aj A6 (hr.mono (by decide)) rfl T.LS.mg T.LS.fn.kp T.LS.bd .nil ay (aa (pv 0) (aa (pv 1) (aa (pv 3) ab)))) ab))))
   (ae (ao (i:=7) eT.nd rfl (Or.inl rfl) (aj zE (hr.mono (by decide)) rfl T.RG.mg T.RG.fn.kp T.RG.bd .nil ay (aa (pv 0) (aa (pv 1) (aa (pv 6) ab)))))
   (ai (bT (PW.pt (zK (aG pM (aj A7 (hr.mono (by decide)) rfl T.LR.mg T.LR.fn.kp T.LR.bd .nil ay (aa (pv 1) (aa (pv 7) (aa ah (aa ah ab))))) (pv 4) (aK _)) (xV (aG pM (aj jY (hr.mono (by decide)) rfl T.F9.mg T.F9.fn.kp T.F9.bd .nil ay (aa (pv 1) (aa (aM (bW K rfl) (pv 6) ah (fun _ _=>rfl)) (aa (aM (bW K rfl) (pv 6) ah (fun _ _=>rfl)) ab)))) (pv 4) (aK _))))) (ai (aE vI)) bf)))))
   (ae (bT (aG pM (aj A7 (hr.mono (by decide)) rfl T.LR.mg T.LR.fn.kp T.LR.bd .nil ay (aa (pv 1) (aa (aj zD (hr.mono (by decide)) rfl T.LQ.mg T.LQ.fn.kp T.LQ.bd .nil ay (aa (pv 1) (aa (cO (aa (pv 2) (aa (pv 3) ab))) ab))) (aa ah (aa ah ab))))) (pv 4) (aK _)) (ai (aE vI)) bf)
   (ae (ao (i:=8) eT.nd rfl (Or.inl rfl) (aj CB (hr.mono (by decide)) rfl T.Rz.mg T.Rz.fn.kp T.Rz.bd .nil ay (aa (pv 1) (aa (pv 2) (aa (pv 3) ab)))))
   (ae (bT (PW.pt (zK (aG nz (aB C6 rfl T.z_abs boot_abs (aa (pv 4) ab)) (pv 8) (aK _)) (zK (aG pM (aC dE (aC cj (pv 8) (pv 4)) ah) ah (aK _)) (xV (aG pM (aj jY (hr.mono (by decide)) rfl T.F9.mg T.F9.fn.kp T.F9.bd .nil ay (aa (pv 1) (aa (pv 2) (aa (pv 2) ab)))) ah (aK _)))))) (ai (aE vI)) bf)
   (ae (ao (i:=9) eT.nd rfl (Or.inl rfl) (bK K rfl Zm Qat Qas (gK K rfl) (lp [] (by decide+kernel)) (aa (bV ["_law_letter"] [none] (yv rfl T.z_reversed (aa (pv 3) ab)) trivial (fun _ _ _ _=>(aI (i:=0) (by decide+kernel:List.Nodup (["_law_letter"]:List Str)) rfl (Or.inl rfl))) (fun _ _ _ _=>fz) (fun _ _ _ _=>(aj cf (hr.mono (by decide)) rfl T.ml.mg T.ml.fn.kp T.ml.bd .nil ay (aa (pv 0) ab)))) ab)))
   (ai (aE (f_ gz (aj jY (hr.mono (by decide)) rfl T.F9.mg T.F9.fn.kp T.F9.bd .nil ay (aa (pv 1) (aa (pv 2) (aa (pv 9) ab)))) (aC cj ah (pv 4)) (aK _)))))))))),?_⟩
 obtain ⟨b,y,w',v,rfl,hb,hy,CQ,xD,sw,wl,sv,vl,q⟩:=h
 have hs:(100000:Nat)<sizeLine:=by decide
 refine ⟨_,rfl,_,rfl,_,rfl,y,w',v,rfl,hy,xD,by omega,fun H1 s1=>?_⟩
 rw[show cr (sg y) (cL w') (cL v) (aR y) (aR y)=qA y w' v from rfl]
 have wA:=hb.same s1
 refine ⟨_,rfl,by decide,by decide,?_⟩
 refine dM (n:=3) (fun i σ H'=> ∃v5 v6 v7:Option V,σ=[some (.ref b),some (.str (S y)),some (.str (S w')),some (.str (S v)),some (.int (qA y w' v)),v5,v6,v7,none,none]/\bG H' b/\aN b H H') ⟨none,none,none,rfl,wA,aN.of s1⟩ ?_ ?_
 ·rintro i σ H2 hi ⟨v5,v6,v7,rfl,iJ,s2⟩
  show JU _ _ _ _ _
  refine Jd fun Dx TH=>?_
  refine ⟨_,rfl,_,rfl,_,rfl,b,y,w',rfl,iJ,hy,CQ,xD,sw.ne,sw.bO,wl,fun u1 H3 i1 l1 n1 iU s3=>?_⟩
  refine ⟨_,rfl,_,rfl,_,rfl,b,y,v,rfl,iU,hy,CQ,xD,sv.ne,sv.bO,vl,fun u2 H4 i2 l2 n2 qQ s4=>?_⟩
  refine ⟨by show 2<=sizeLine;decide,fun W nW=>?_⟩
  have Wb:=qQ.ne nW
  have N4:=qQ.cU (o:= .lst (g6 [u1,u2])) Wb
  have V5:=s2.trans (s3.trans (s4.after (ak.upd (o:= .lst (g6 [u1,u2])) nW)))
  have hW:upd H4 W (.lst (g6 [u1,u2])) W=some (.lst (g6 [u1,u2])):=ag
  have ew:[V.str (S u1), .str (S u2)]=g6 [u1,u2]:=rfl
  rw[ew]
  generalize upd H4 W (.lst (g6 [u1,u2]))=H5 at N4 V5 hW ⊢
  have j7:=TF i1 l1 i2 l2
  have ec:qA y u1 u2=qA y w' v:=Ig n1 n2
  refine ⟨_,rfl,_,rfl,_,rfl,b,y,W,[u1,u2],rfl,N4,hy,xD,Wb,hW,j7,fun dr os H6 Hf ho N8 s6=>?_⟩
  have V6:=s6 _ _ hW Wb
  refine ⟨_,rfl,_,rfl,y,dr,[u1,u2],os,0,1,rfl,hy,xD,j7,ho,Hf,fun H7 s7=>?_⟩
  rw[qB (c:=0) (d:=1) hy ho j7 rfl rfl (by decide),ec]
  refine ⟨_,rfl,_,_,rfl,rfl,_,rfl,wH (by rw[decide_eq_true rfl];rfl) ?_⟩
  refine ⟨_,rfl,_,rfl,W,_,_,_,rfl,rfl,ba.of (s7 _ _ V6),rfl,_,rfl,W,_,_,_,rfl,rfl,ba.of (s7 _ _ V6),rfl,?_⟩
  refine ⟨y,u1,u2,rfl,hy,xD,by omega,fun H8 s8=>?_⟩
  rw[show cr (sg y) (cL u1) (cL u2) (aR y) (aR y)=qA y w' v from ec]
  refine ⟨_,rfl,_,_,rfl,rfl,_,rfl,wH (by rw[decide_eq_true rfl];rfl) ?_⟩
  exact TH _ _ ⟨_,_,_,rfl,(N8.same s7).same s8,(V5.trans s6).after (s7.trans s8)⟩
 ·rintro σ H2 ⟨v5,v6,v7,rfl,iJ,s2⟩
  refine ⟨_,rfl,_,rfl,_,rfl,_,rfl,by show 2<=sizeLine;decide,fun t nt=>?_⟩
  have u0:=ak.upd (o:= .tup [.str (S w'), .str (S v)]) nt
  have hk:=uv sw sv (show w'.length<=12 by omega) (show v.length<=12 by omega)
  refine ⟨y,t,[w',v],rfl,hy,xD,ag,hk.xN,hk.sw,fun dr os H3 Hf ht s3=>?_⟩
  obtain ⟨M,_,ok,_⟩:=id ht
  refine ⟨y,dr,[w',v],os,0,1,rfl,hy,xD,hk.ok,ok,Hf,fun H4 s4=>?_⟩
  rw[qB (c:=0) (d:=1) hy ok hk.ok rfl rfl (by decide)]
  obtain ⟨k,l,e1,e2⟩:=zk hy sw sv (by omega) (by omega) ht
  refine ⟨_,rfl,_,_,rfl,rfl,_,rfl,wH (by rw[decide_eq_true rfl];rfl) ?_⟩
  refine ⟨_,rfl,_,rfl,_,rfl,y,w',v,rfl,hy,xD,sw,by omega,sv,by omega,fun H5 s5=>?_⟩
  have e4:qA y w' (eX v)= - qA y w' v:=Fg hy sv.bO
  generalize SS y w' v=m at e1 e2 ⊢
  refine ⟨_,rfl,_,rfl,_,rfl,_,_,rfl,rfl,_,rfl,wH (decide_eq_false (by split<;>omega)) ?_⟩
  refine ⟨_,rfl,_,rfl,_,_,rfl,rfl,_,_,rfl,rfl,(by show (0:Int)<2;decide),_,_,rfl,rfl,_,rfl,wH (by rw[decide_eq_true (by omega)];rfl) ?_⟩
  refine ⟨_,rfl,_,rfl,_,rfl,y,w',w',rfl,hy,xD,by omega,fun H6 s6=>?_⟩
  rw[show cr (sg y) (cL w') (cL w') (aR y) (aR y)=0 from Fh hy]
  refine ⟨_,_,rfl,rfl,_,rfl,wH rfl ?_⟩
  have RW:=s2.after (u0.trans (s3.trans (s4.trans (s5.trans s6))))
  have N8:=iJ.same (u0.trans (s3.trans (s4.trans (s5.trans s6))))
  clear u0 s3 s4 s5 s6 s2 iJ Hf ht ok
  have lv: ∀c∈v,Lt c:=fun c hc=>hy.lt c (sv.bO c hc)
  refine ⟨rfl,_,rfl,v,rfl,by omega,?_⟩
  rw[ui]
  refine d_ (xs:=cI v.reverse) (fun i acc H'=>ak H6 H'/\acc=cI ((v.reverse.take i).map az)) (by rw[aU,Zz];omega) ⟨ak.refl H6,rfl⟩ ?_ ?_
  ·rintro i x acc H7 Nx hi hx hl ⟨s7,rfl⟩ nx
   obtain ⟨c,oE,rfl⟩:=dz hx
   refine ⟨trivial,dB ⟨_,rfl,c,rfl,lv c (Qbr.mp (UQ oE)),nx _ _ (by simpa using hl) ⟨s7,?_⟩⟩⟩
   rw[du, <-take_snoc oE,Wx]
   rfl
  ·rintro acc H7 D hl ⟨s7,rfl⟩ hD
   refine ⟨D,(eX v).map fun c=>[c],rfl,rfl,ba.of ?_,?_,?_⟩
   ·rw[ag, <-dN,aU,Zq (UP _),Qaz]
    rfl
   ·rw[yI,b_]
    omega
   ·rw[pV]
    have s8:=s7.trans (ak.upd (o:= .lst (cI ((v.reverse.take (cI v.reverse).length).map az))) hD)
    generalize upd H7 D (.lst (cI ((v.reverse.take (cI v.reverse).length).map az)))=H8 at s8 ⊢
    refine ⟨_,rfl,_,rfl,_,rfl,y,w',eX v,rfl,hy,xD,by omega,fun H9 s9=>?_⟩
    rw[show cr (sg y) (cL w') (cL (eX v)) (aR y) (aR y)= - qA y w' v from e4]
    refine ⟨_,rfl,_,_,rfl,rfl,_,_,rfl,rfl,?_⟩
    have:=q H9 ((N8.same s8).same s9) (RW.after (s8.trans s9))
    rw[<-show decide (- qA y w' v=0 - qA y w' v)=true from decide_eq_true (by omega)]at this
    exact this
theorem CC:br P w K mg base eG 4 Nf NX ["_law_box_here","_law_yard_here","_law_many","_law_top"] (tG K):=by
 have me:=tH (P:=P) (w:=w) (base:=base) T
 have bL:=gZ (P:=P) (w:=w) (base:=base) T
 have Ir:=Fy (P:=P) (w:=w) (base:=base) T
 refine T.RH.fn.ok jX (fun vs H Q E h=>zo h) (fun cu A outer s H vs Q E hr h=>?_)
 refine ⟨_,(ae (ao (i:=4) jX.nd rfl (Or.inl rfl) (dj (aa (aj me (hr.mono (by decide)) rfl T.Gq.mg T.Gq.fn.kp T.Gq.bd .nil ay (aa (pv 0) (aa (pv 1) (aa (pv 3) ab)))) ab)))
   (ae (b5 PassesOwn.never rfl (eJ rfl T.z_range (aa (aj bL (hr.mono (by decide)) rfl T.fq.mg T.fq.fn.kp T.fq.bd .nil ay (aa (pv 0) (aa (pv 2) ab))) ab)) (aI (i:=5) jX.nd rfl (Or.inl rfl)) (ae (ao (i:=6) jX.nd rfl (Or.inl rfl) (aM (bW K rfl) (pv 4) (aj bL (hr.mono (by decide)) rfl T.fq.mg T.fq.fn.kp T.fq.bd .nil ay (aa (pv 0) (aa (aB (aW K rfl) rfl T.z_len Zf (aa (pv 4) ab)) ab))) (fun _ _=>rfl)))
   (ai (bT (aG gz (aj bL (hr.mono (by decide)) rfl T.fq.mg T.fq.fn.kp T.fq.bd .nil ay (aa (pv 0) (aa ah ab))) ah (aK _)) (ai (cR (bK K rfl Zr ZZ ZY c_ (pv 4) (aa (aj me (hr.mono (by decide)) rfl T.Gq.mg T.Gq.fn.kp T.Gq.bd .nil ay (aa (pv 0) (aa (pv 1) (aa (pv 3) ab)))) ab)))) (ai (cR (bK K rfl Zr ZZ ZY c_ (pv 4) (aa (aj Ir (hr.mono (by decide)) rfl T.RD.mg T.RD.fn.kp T.RD.bd .nil ay (aa (pv 0) (aa (pv 1) (aa (pv 6) (aa (pv 3) ab))))) ab))))))))
   (ai (aE (bM (bo K rfl) rfl T.z_tuple boot_tuple (aa (pv 4) ab)))))),?_⟩
 obtain ⟨b,y,many,top,rfl,hb,hy,Jx,CQ,Jc,Ab,A1,Ij,Y9,q⟩:=h
 have hs:(100000:Nat)<sizeLine:=by decide
 refine ⟨_,rfl,_,rfl,_,rfl,b,y,top,rfl,hb,hy,Jx,CQ,A1,by omega,fun w1 H1 YC YD wA s1=>?_⟩
 refine ⟨by show 1<=sizeLine;decide,fun t nt=>?_⟩
 have tb:t≠b:=wA.ne nt
 have Uv:=s1.none nt tb
 have QG:upd H1 t (.lst [.str (S w1)]) t=some (.lst (g6 [w1])):=ag
 have iJ:=wA.cU (o:= .lst [.str (S w1)]) tb
 have s2:=s1.cU (o:= .lst [.str (S w1)]) Uv
 generalize upd H1 t (.lst [.str (S w1)])=H2 at QG iJ s2 ⊢
 refine ⟨_,rfl,_,rfl,b,many,rfl,iJ,by omega,by omega,fun r H3 hr iU s3=>?_⟩
 refine ⟨_,rfl,by omega,by omega,?_⟩
 rw[YR]
 have Y_:r<many:=by omega
 refine dM (fun i σ H'=> ∃(ws:List (List Nat)) (kv ov:Option V),σ=[some (.ref b),some (.str (S y)),some (.int many),some (.int top),some (.ref t),kv,ov]/\H' t=some (.lst (g6 ws))/\ws.length=i+1/\(∀w∈ws,SW y w/\w.length<=top)/\bG H' b/\aN b H H')
  ⟨[w1],none,none,rfl,s3 _ _ QG tb,rfl,fun w hw=>by rw[Wv.mp hw];exact ⟨YC,YD⟩,iU,s2.trans s3⟩ ?_ ?_
 ·rintro i σ H4 hi ⟨ws,kv,ov,rfl,QH,Uw,QI,qQ,s4⟩
  refine ⟨_,rfl,_,rfl,_,rfl,t,_,rfl, .inl (ba.of QH),b,_,rfl,qQ,by rw[cb];omega,by rw[cb];omega,fun r5 H5 Gr N4 s5=>?_⟩
  rw[cb]at Gr
  have QJ:r5<ws.length:=by omega
  refine ⟨t,_,_,_,rfl,rfl,ba.of (s5 _ _ QH tb),b8 (jd QJ),?_⟩
  obtain ⟨so,lo⟩:=QI _ (ZF QJ)
  generalize ws[r5]=one at so lo ⊢
  refine ⟨_,rfl,b,3,rfl,N4,by decide,by decide,fun r6 H6 Za N8 s6=>?_⟩
  have RX:=s6 _ _ (s5 _ _ QH tb) tb
  have RW:=s4.trans (s5.trans s6)
  refine ⟨_,_,rfl,rfl,_,rfl,bJ (fun f=>?_) (fun f=>?_)⟩
  ·refine ⟨_,rfl, .inl ⟨rfl,_,ba.of RX⟩,_,rfl,_,rfl,_,rfl,b,y,top,rfl,N8,hy,Jx,CQ,A1,by omega,fun w7 H7 Ux Uy Uz s7=>?_⟩
   refine ⟨t,g6 ws,_,rfl,rfl,s7 _ _ RX tb,by rw[cb];omega,?_⟩
   refine ⟨ws++[w7],_,_,rfl,by rw[ag,pW],by rw[UO,Uw];rfl,fun w hw=>?_,Uz.cU tb,(RW.trans s7).cU Uv⟩
   rcases Zh.mp hw with g | g
   ·exact QI w g
   ·rw[Wv.mp g];exact ⟨Ux,Uy⟩
  ·refine ⟨_,rfl, .inl ⟨rfl,_,ba.of RX⟩,_,rfl,_,rfl,_,rfl,_,rfl,b,y,one,top,rfl,N8,hy,Jx,CQ,A1,by omega,so,lo,fun w7 H7 Ux Uy Uz s7=>?_⟩
   refine ⟨t,g6 ws,_,rfl,rfl,s7 _ _ RX tb,by rw[cb];omega,?_⟩
   refine ⟨ws++[w7],_,_,rfl,by rw[ag,pW],by rw[UO,Uw];rfl,fun w hw=>?_,Uz.cU tb,(RW.trans s7).cU Uv⟩
   rcases Zh.mp hw with g | g
   ·exact QI w g
   ·rw[Wv.mp g];exact ⟨Ux,Uy⟩
 ·rintro σ H4 ⟨ws,kv,ov,rfl,QH,Uw,QI,qQ,s4⟩
  refine ⟨_,rfl,t,_,rfl, .inl ⟨ba.of QH,fun u nu=>?_⟩⟩
  have ub:u≠b:=qQ.ne nu
  have YE:=s4.none nu ub
  exact q u ws _ ub ag (by omega) QI (qQ.cU ub) (s4.cU YE)
theorem Iu:br P w K mg base eG 1 M5 NO ["_law_script","_law_k"] (Ae K):=by
 refine T.RB.fn.ok md (fun vs H Q E h=>DP h) (fun cu A outer s H vs Q E hr h=>?_)
 refine ⟨_,(ae (ao (i:=2) md.nd rfl (Or.inl rfl) (aC bc (aC gw ah (pv 1)) ah))
   (ae (bT (aG gJ (pv 1) (aB (aW K rfl) rfl T.z_len Zf (aa (pv 0) ab)) (aK _)) (ai (ao (i:=2) md.nd rfl (Or.inl rfl) (aM (bW K rfl) (pv 0) (pv 1) (fun _ _=>rfl)))) (ai (bT (aG nz (aB (aW K rfl) rfl T.z_len Zf (aa (pv 0) ab)) ah (aK _)) (ai (ao (i:=2) md.nd rfl (Or.inl rfl) (aC bc (pv 2) (aC gw (aC dE (aM (bW K rfl) (pv 0) (aC dE (pv 1) (aB (aW K rfl) rfl T.z_len Zf (aa (pv 0) ab))) (fun _ _=>rfl)) ah) ah)))) bf)))
   (ae (ao (i:=3) md.nd rfl (Or.inl rfl) (aC dE (aC C0 (aC bc (aC bc (aC dE (pv 2) ah) (aC gw ah (pv 1))) ah) ah) ah))
   (ai (aE (dj (aa (aM (bW K rfl) (dj (aa ah (aa (pv 2) ab))) (bM Bj rfl T.z_int boot_int (aa (f_ C5 (pv 2) (aC C0 ah ah) (aK _)) ab)) (fun _ _=>rfl)) (aa (aC bc (aC dE (pv 3) ah) ah) ab)))))))),?_⟩
 obtain ⟨a,ns,k,rfl,hS,hk,q⟩:=h
 have hp:(0:Int)<2147483629:=by decide
 walk_at "rd"
 refine ⟨a,_,rfl, .inl hS,?_⟩
 walk_at "rd"
 refine bJ (fun e=>?_) (fun e=>?_)
 ·have e':(k:Int)<((ns.map V.int).length:Nat):=of_decide_eq_true e
  rw[QW]at e'
  obtain ⟨z,hz⟩:=Af (ns:=ns) (i:=k) (by omega)
  walk_at "rd"
  refine ⟨a,_,k,_,rfl,rfl,hS,b8 hz,?_⟩
  walk_at "rd"
  refine fun p1 n1=>?_
  walk_at "rd"
  refine .inr ⟨_,rfl,?_⟩
  obtain ⟨y,hy⟩:=yJ _ z
  refine ⟨p1,_,_,_,rfl,rfl,ba.of ag,hy,?_⟩
  walk_at "rd"
  exact fun p2 n2=>q p2 _ (ak.free (ak.upd n1) n2) ⟨_,_,ag⟩ ((ak.upd n1).trans (ak.upd n2))
 ·walk_at "rd"
  refine ⟨a,_,rfl, .inl hS,?_⟩
  walk_at "rd"
  refine bJ (fun e2=>?_) (fun e2=>?_)
  ·have e':(0:Int)<((ns.map V.int).length:Nat):=of_decide_eq_true e2
   have hl:(0:Int)<(ns.length:Int):=by rw[QW]at e';exact e'
   have m1:0<=(k:Int)%(ns.length:Int):=Qaa _ (by omega)
   have m2:(k:Int)%(ns.length:Int)<(ns.length:Int):=Z6 _ hl
   obtain ⟨z,hz⟩:=Af (ns:=ns) (i:=((k:Int)%(ns.length:Int)).toNat) (by omega)
   have MD:oG (ns.map V.int) ((k:Int)%((ns.map V.int).length:Nat))=some (V.int z):=by
    have:=b8 hz
    rw[Int.toNat_of_nonneg m1]at this
    rw[QW]
    exact this
   walk_at "rd"
   refine ⟨a,_,rfl, .inl hS,?_⟩
   walk_at "rd"
   refine ⟨a,_,_,_,rfl,rfl,hS,MD,?_⟩
   walk_at "rd"
   refine fun p1 n1=>?_
   walk_at "rd"
   refine .inr ⟨_,rfl,?_⟩
   obtain ⟨y,hy⟩:=yJ _ _
   refine ⟨p1,_,_,_,rfl,rfl,ba.of ag,hy,?_⟩
   walk_at "rd"
   exact fun p2 n2=>q p2 _ (ak.free (ak.upd n1) n2) ⟨_,_,ag⟩ ((ak.upd n1).trans (ak.upd n2))
  ·walk_at "rd"
   refine fun p1 n1=>?_
   walk_at "rd"
   refine .inr ⟨_,rfl,?_⟩
   obtain ⟨y,hy⟩:=yJ _ _
   refine ⟨p1,_,_,_,rfl,rfl,ba.of ag,hy,?_⟩
   walk_at "rd"
   exact fun p2 n2=>q p2 _ (ak.free (ak.upd n1) n2) ⟨_,_,ag⟩ ((ak.upd n1).trans (ak.upd n2))
theorem Ma:br P w K mg base eG 11 Ni N0 ["_law_script"] (mC K):=by
 have Mb:=Iu (P:=P) (w:=w) (base:=base) T
 have Iv:=Fu (P:=P) (w:=w) (base:=base) T
 have FJ:=CC (P:=P) (w:=w) (base:=base) T
 have FK:=CA (P:=P) (w:=w) (base:=base) T
 refine T.Xy.fn.ok qO (fun vs H Q E h=>Hh h) (fun cu A outer s H vs Q E hr h=>?_)
 refine ⟨_,(ae (b5 PassesOwn.never rfl (eJ rfl T.z_range (aa (aC bc ah (aB (aW K rfl) rfl T.z_len Zf (aa (bA (pN K rfl) (pv 0) (bz ah) (bz ah)) ab))) ab)) (aI (i:=1) qO.nd rfl (Or.inl rfl)) (ae (ao (i:=2) qO.nd rfl (Or.inl rfl) (aj Mb (hr.mono (by decide)) rfl T.RB.mg T.RB.fn.kp T.RB.bd .nil ay (aa (pv 0) (aa (pv 1) ab))))
   (ae (ao (i:=3) qO.nd rfl (Or.inl rfl) (aj Iv (hr.mono (by decide)) rfl T.RC.mg T.RC.fn.kp T.RC.bd .nil ay (aa (pv 2) (aa ah (aa ah ab)))))
   (ae (ao (i:=4) qO.nd rfl (Or.inl rfl) (aj FJ (hr.mono (by decide)) rfl T.RH.mg T.RH.fn.kp T.RH.bd .nil ay (aa (pv 2) (aa (pv 3) (aa ah (aa ah ab))))))
   (ai (bT (JT (g8 (aj FK (hr.mono (by decide)) rfl T.RI.mg T.RI.fn.kp T.RI.bd .nil ay (aa (pv 2) (aa (pv 3) (aa (aM (aV K rfl) (pv 4) ah (fun _ _=>rfl)) (aa (aM (aV K rfl) (pv 4) (iF ft ah) (fun _ _=>rfl)) ab))))))) (ai (aE vI)) bf))))))
   (ai (aE vI))),?_⟩
 obtain ⟨a,ns,rfl,hS,hl,q⟩:=h
 have hs:(100000:Nat)<sizeLine:=by decide
 refine ⟨_,rfl,_,rfl,_,rfl,a,_,rfl,hS,fun p1 n1=>?_⟩
 have Tx:(o9 (ns.map V.int) (some 2) (some 5)).length<=3:=by unfold o9;rw[Zi];exact ZG (Nat.min_le_left _ _) (by have e1: ∀n d:Nat,HT.iH n d (some ((2:Nat):Int))=min 2 n:=fun n d=>HT.gf _ _ _;have e2: ∀n d:Nat,HT.iH n d (some ((5:Nat):Int))=min 5 n:=fun n d=>HT.gf _ _ _;show HT.iH _ _ (some ((5:Nat):Int)) - HT.iH _ _ (some ((2:Nat):Int))<=3;rw[e1,e2];omega)
 refine ⟨p1,_,rfl, .inl (ba.of ag),_,_,rfl,rfl,?_⟩
 have s1:=ak.upd (o:= .lst (o9 (ns.map V.int) (some 2) (some 5))) n1
 generalize (o9 (ns.map V.int) (some 2) (some 5)).length=m at Tx ⊢
 generalize upd H p1 (.lst (o9 (ns.map V.int) (some 2) (some 5)))=H1 at s1 ⊢
 refine ⟨_,rfl,by omega,by omega,?_⟩
 rw[show ((2:Int)+(m:Int)).toNat=2+m by omega]
 refine dM (fun i σ H'=> ∃v1 v2 v3 v4:Option V,σ=[some (.ref a),v1,v2,v3,v4]/\ak H H') ⟨none,none,none,none,rfl,s1⟩ ?_ ?_
 ·rintro i σ H2 hi ⟨v1,v2,v3,v4,rfl,s2⟩
  refine ⟨_,rfl,_,rfl,a,ns,i,by rw[Qb1];rfl,s2.seq hS,by omega,fun b H3 nb bx s3=>?_⟩
  refine ⟨_,rfl,b,1,4,rfl,bx,by decide,by decide,by decide,fun y H4 hy Jx CQ YF s4=>?_⟩
  refine ⟨_,rfl,_,rfl,b,y,2,6,rfl,YF,hy,by omega,by omega,by decide,by decide,by decide,by decide,by decide,fun t ws H5 tb ht Qw UA YG s5=>?_⟩
  have T1:ws≠[]:=fun z=>by rw[z]at Qw;simp at Qw
  obtain ⟨l,hl,el⟩:=Fi T1
  have h0:=UA _ (getD_in (show 0<ws.length by omega))
  have e0:oG (g6 ws) 0=some (V.str (S (ws.getD 0 []))):=b8 (j:=0) (getD_at (by omega))
  refine ⟨_,rfl,_,rfl,_,rfl,t,_,_,_,rfl,rfl,bY.of ht,e0,_,rfl,_,rfl,t,_,_,_,rfl,rfl,bY.of ht,el,?_⟩
  refine ⟨b,y,_,l,rfl,YG,hy,by omega,by omega,h0.1,h0.2,(UA l hl).1,(UA l hl).2,fun H6 Zb s6=>?_⟩
  refine ⟨_,rfl,wH rfl ?_⟩
  exact ⟨_,_,_,_,rfl,s2.trans (aN.same nb s3 (s4.trans (s5.trans s6)))⟩
 ·rintro σ H2 ⟨v1,v2,v3,v4,rfl,s2⟩
  exact q H2
end
theorem bP {M:List Value->Prop} (h:M []): ∀us:List Value,us.length=0->M us
 | [],_=>h
theorem aH {M:List Value->Prop} {n:Nat} (h: ∀(a:Value) (us:List Value),us.length=n->M (a::us)): ∀us:List Value,us.length=n+1->M us
 | a::us,e=>h a us (Nat.succ.inj e)
def Dn (K:PySem.W.Frag) (x:Str) (st:Stmt) (f:Addr) (fd:FuncData):Prop:=PySem.W.nsIn K mainGlobals x=some (some (.ref f))/\GR K x x st f fd
theorem dn {K:PySem.W.Frag} {x:Str} {st:Stmt} {f:Addr} {oc:Value} {od an:Option Addr} {FV:Array (Option Value)} {kV doc pm cu ct:Value} (a:PySem.W.nsIn K mainGlobals x=some (some (.ref f))) (l:K.lookup f=some ⟨oc,od, .func (PySem.W.fnOf x x (fI st) (eV st) (aq st) .none kV doc pm an cu ct),FV⟩) (c:PySem.W.codeIn K cu x=true) (k:PySem.W.keepIn K (.ref f)=true):Dn K x st f (PySem.W.fnOf x x (fI st) (eV st) (aq st) .none kV doc pm an cu ct):=⟨a,yl l c k⟩
theorem fG {K:PySem.W.Frag} {h:Heap} {mg:Str->Option Value} {x:Str} {st:Stmt} {f:Addr} {fd:FuncData} {ps:List Str} (X:K.In h) (G:h.Ns mainGlobals mg) (a:Dn K x st f fd) (b: ∀(kV doc pm:Value) (an:Option Addr) (cu ct:Value) (us:List Value),us.length=ps.length->bindArgs (PySem.W.fnOf x x (fI st) (eV st) (aq st) .none kV doc pm an cu ct) ⟨us,[]⟩=pure (ps.zip us)):aZ K mg x st ps f fd:=⟨a.2,Qc3 X G a.1,a.2.binds b⟩
theorem all_mk {l:PySem.W.OpenLaw} {w:World} {K:PySem.W.Frag} {h:Heap} {mg:Str->Option Value} {fa f0 f1 f2 f3 f4 f5 f6 f7 f8 f9 MF MG MH MI MJ MK ML MM MN MO MP MQ MR MS MT Fm Fn MU MV MW MX MY MZ M0 M1 M3 M4 M5 M6 M7 M8 M9 M_ Na Nb Nd Nf Ng Nh Ni aO aX kx gG:Addr} (X:K.In h) (G:h.Ns mainGlobals mg) (Ra:mg "law"=some (.ref fa))
  {d0 d1 d2 d3 d4 d5 d6 d7 d8 d9 Nj Nk Nl Nm Nn Np Nq Nr Nt Nu Nv Nw Ny Nz NA NB NC ND NF NG NH NI NJ NK NL NM NN NO NP NQ NR NS NT NU NV NW NX NY NZ N0:FuncData}
  {Mc Md Iw Iy:Option Addr} {Me Iz:Array (Option Value)} {Mf Mg Mh Mi FL Mj IA IB IC ID A8 IE:Value}
  (a0:Dn K "contrary" kN f0 d0)
  (a1:Dn K "turned" qC f1 d1)
  (a2:Dn K "bands" u5 f2 d2)
  (a3:Dn K "steps_round" gB f3 d3)
  (a4:Dn K "goes_round" ir f4 d4)
  (a5:Dn K "net" Fj f5 d5)
  (a6:Dn K "crosses" mZ f6 d6)
  (a7:Dn K "table_row" jy f7 d7)
  (a8:Dn K "table" u6 f8 d8)
  (a9:Dn K "crossed" m7 f9 d9)
  (a10:Dn K "strands_at" iy MF Nj)
  (a11:Dn K "points" qD MG Nk)
  (a12:Dn K "corner_points" fB MH Nl)
  (a13:Dn K "corners" m8 MI Nm)
  (a14:Dn K "corners_meet" fR MJ Nn)
  (a15:Dn K "chord_starts" fS MK Np)
  (a16:Dn K "number_in" jz ML Nq)
  (a17:Dn K "count_meetings" eR MM Nr)
  (a18:Dn K "strands_in" iA MN Nt)
  (a19:Dn K "corner_ends" gC MO Nu)
  (a20:Dn K "shortened" jA MP Nv)
  (a21:Dn K "shortest" kO MQ Nw)
  (a22:Dn K "ring" zp MR Ny)
  (a23:Dn K "root" zq MS Nz)
  (a24:Dn K "corner_steps" fT MT NA)
  (a25:Dn K "steps_ahead" gD Fm NB)
  (a26:Dn K "steps_back" iB Fn NC)
  (a27:Dn K "parting" m9 MU ND)
  (a28:Dn K "side_of" m_ MV NF)
  (a29:Dn K "comes_ahead" gE MW NG)
  (a30:Dn K "number_among" fU MX NH)
  (a31:Dn K "seen_strand" gF MY NI)
  (a32:Dn K "taut_order" iC MZ NJ)
  (a33:Dn K "taut" zr M0 NK)
  (a34:Dn K "between" ng M1 NL)
  (a35:Dn K "side" zt M3 NM)
  (a36:Dn K "sides" u7 M4 NN)
  (a37:Dn K "_law_box" zu M5 NO)
  (a38:Dn K "_law_take" u9 M6 NP)
  (a39:Dn K "_law_other" qE M7 NQ)
  (a40:Dn K "_law_yard" u_ M8 NR)
  (a41:Dn K "_law_short" qF M9 NS)
  (a42:Dn K "_law_near" va M_ NT)
  (a43:Dn K "_law_order" qG Na NU)
  (a44:Dn K "_law_bands" qH Nb NV)
  (a45:Dn K "_law_drawing" kP Nd NW)
  (a46:Dn K "_law_words" qI Nf NX)
  (a47:Dn K "_law_bent" vb Ng NY)
  (a48:Dn K "_law_right" qJ Nh NZ)
  (a49:Dn K "law" Fl Ni N0)
  (q_Seen:PySem.W.nsIn K mainGlobals "Seen"=some (some (.ref aO)))
  (pg_Seen:PySem.W.plainGet K aO Str.empty=true)
  (hd_Seen:PySem.W.hasDictIn K aO=true)
  (po_Seen:PySem.W.plainOver K aO=true)
  (sa_Seen:PySem.W.findIn K (.ref aO) "__setattr__"=some (some (.builtin "object.__setattr__")))
  (n_Seen_strand:PySem.W.findIn K (.ref aO) "strand"=some none)
  (n_Seen_way:PySem.W.findIn K (.ref aO) "way"=some none)
  (n_Seen_place:PySem.W.findIn K (.ref aO) "place"=some none)
  (q_Way:PySem.W.nsIn K mainGlobals "Way"=some (some (.ref aX)))
  (pg_Way:PySem.W.plainGet K aX Str.empty=true)
  (hd_Way:PySem.W.hasDictIn K aX=true)
  (po_Way:PySem.W.plainOver K aX=true)
  (sa_Way:PySem.W.findIn K (.ref aX) "__setattr__"=some (some (.builtin "object.__setattr__")))
  (n_Way_size:PySem.W.findIn K (.ref aX) "size"=some none)
  (n_Way_root_size:PySem.W.findIn K (.ref aX) "root_size"=some none)
  (n_Way_leads:PySem.W.findIn K (.ref aX) "leads"=some none)
  (n_Way_onward:PySem.W.findIn K (.ref aX) "onward"=some none)
  (n_Way_backward:PySem.W.findIn K (.ref aX) "backward"=some none)
  (mk_Way:PySem.W.makesIn K aX=true)
  (qi_Way:PySem.W.findIn K (.ref aX) "__init__"=some (some (.ref kx)))
  (fi_Way:PySem.W.isFn K (.ref kx)=true)
  (kc_Way:PySem.W.keepIn K (.ref aX)=true)
  (li_Way:K.lookup kx=some ⟨Mf,Mc, .func (PySem.W.fnOf "__init__" "Way.__init__" (fI jU) (eV jU) (aq jU) .none Mg Mh Mi Md FL Mj),Me⟩)
  (ci_Way:PySem.W.codeIn K FL "Way.__init__"=true)
  (ki_Way:PySem.W.keepIn K (.ref kx)=true)
  (mk_Seen:PySem.W.makesIn K aO=true)
  (qi_Seen:PySem.W.findIn K (.ref aO) "__init__"=some (some (.ref gG)))
  (fi_Seen:PySem.W.isFn K (.ref gG)=true)
  (kc_Seen:PySem.W.keepIn K (.ref aO)=true)
  (li_Seen:K.lookup gG=some ⟨IA,Iw, .func (PySem.W.fnOf "__init__" "Seen.__init__" (fI gW) (eV gW) (aq gW) .none IB IC ID Iy A8 IE),Iz⟩)
  (ci_Seen:PySem.W.codeIn K A8 "Seen.__init__"=true)
  (ki_Seen:PySem.W.keepIn K (.ref gG)=true)
  (z_abs:PySem.W.nsIn K mainGlobals "abs"=some none)
  (z_enumerate:PySem.W.nsIn K mainGlobals "enumerate"=some none)
  (z_int:PySem.W.nsIn K mainGlobals "int"=some none)
  (z_len:PySem.W.nsIn K mainGlobals "len"=some none)
  (z_list:PySem.W.nsIn K mainGlobals "list"=some none)
  (z_max:PySem.W.nsIn K mainGlobals "max"=some none)
  (z_min:PySem.W.nsIn K mainGlobals "min"=some none)
  (z_range:PySem.W.nsIn K mainGlobals "range"=some none)
  (z_reversed:PySem.W.nsIn K mainGlobals "reversed"=some none)
  (z_sorted:PySem.W.nsIn K mainGlobals "sorted"=some none)
  (z_str:PySem.W.nsIn K mainGlobals "str"=some none)
  (z_sum:PySem.W.nsIn K mainGlobals "sum"=some none)
  (z_tuple:PySem.W.nsIn K mainGlobals "tuple"=some none)
  (z_zip:PySem.W.nsIn K mainGlobals "zip"=some none):
  ∃fd:FuncData,(∀(s:Shared) (v:Value),BindsTo s fd ⟨[v],[]⟩ [("_law_script",v)])/\ ∀base:Heap,K.In base->base.Ns mainGlobals mg->br l.prog w K mg base eG 11 fa fd ["_law_script"] (mC K):=by
 have e:=Ra.symm.trans (Qc3 X G a49.1)
 cases e
 obtain ⟨_,_,_,_,_,_,_,_,_,rfl,_⟩:=a49.2.ex
 have FN:=yl (st:=jU) li_Way ci_Way ki_Way
 have Ml:=FN.binds (ps:=["self","yard","word","longest"]) fun _ _ _ _ _ _=>aH fun _=>aH fun _=>aH fun _=>aH fun _=>bP rfl
 have A9:=yl (st:=gW) li_Seen ci_Seen ki_Seen
 have IF:=A9.binds (ps:=["self","strand","way","place"]) fun _ _ _ _ _ _=>aH fun _=>aH fun _=>aH fun _=>aH fun _=>bP rfl
 have T:Txt K mg _ _ _ _ _ _ _ _ _ _ _ _ _ _ _ _ _ _ _ _ _ _ _ _ _ _ _ _ _ _ _ _ _ _ _ _ _ _ _ _ _ _ _ _ _ _ _ _ _ _ _ _ _ _ _ _ _ _ _ _ _ _ _ _ _ _ _ _ _ _ _ _ _ _ _ _ _ _ _ _ _ _ _ _ _ _ _ _ _ _ _ _ _ _ _ _ _ _ _ _ _ _ _ _ _ _:=⟨fG X G a0 fun _ _ _ _ _ _=>aH fun _=>bP rfl,fG X G a1 fun _ _ _ _ _ _=>aH fun _=>bP rfl,fG X G a2 fun _ _ _ _ _ _=>aH fun _=>bP rfl,fG X G a3 fun _ _ _ _ _ _=>aH fun _=>aH fun _=>aH fun _=>bP rfl,fG X G a4 fun _ _ _ _ _ _=>aH fun _=>aH fun _=>aH fun _=>aH fun _=>bP rfl,fG X G a5 fun _ _ _ _ _ _=>aH fun _=>aH fun _=>bP rfl,fG X G a6 fun _ _ _ _ _ _=>aH fun _=>aH fun _=>aH fun _=>bP rfl,fG X G a7 fun _ _ _ _ _ _=>aH fun _=>aH fun _=>bP rfl,fG X G a8 fun _ _ _ _ _ _=>aH fun _=>bP rfl,fG X G a9 fun _ _ _ _ _ _=>aH fun _=>aH fun _=>aH fun _=>bP rfl,fG X G a10 fun _ _ _ _ _ _=>aH fun _=>aH fun _=>aH fun _=>bP rfl,fG X G a11 fun _ _ _ _ _ _=>aH fun _=>aH fun _=>bP rfl,fG X G a12 fun _ _ _ _ _ _=>aH fun _=>aH fun _=>aH fun _=>bP rfl,fG X G a13 fun _ _ _ _ _ _=>aH fun _=>aH fun _=>bP rfl,fG X G a14 fun _ _ _ _ _ _=>aH fun _=>aH fun _=>bP rfl,fG X G a15 fun _ _ _ _ _ _=>aH fun _=>bP rfl,fG X G a16 fun _ _ _ _ _ _=>aH fun _=>aH fun _=>bP rfl,fG X G a17 fun _ _ _ _ _ _=>aH fun _=>bP rfl,fG X G a18 fun _ _ _ _ _ _=>aH fun _=>aH fun _=>bP rfl,fG X G a19 fun _ _ _ _ _ _=>aH fun _=>aH fun _=>bP rfl,fG X G a20 fun _ _ _ _ _ _=>aH fun _=>bP rfl,fG X G a21 fun _ _ _ _ _ _=>aH fun _=>bP rfl,fG X G a22 fun _ _ _ _ _ _=>aH fun _=>bP rfl,fG X G a23 fun _ _ _ _ _ _=>aH fun _=>bP rfl,fG X G a24 fun _ _ _ _ _ _=>aH fun _=>aH fun _=>aH fun _=>bP rfl,fG X G a25 fun _ _ _ _ _ _=>aH fun _=>aH fun _=>aH fun _=>bP rfl,fG X G a26 fun _ _ _ _ _ _=>aH fun _=>aH fun _=>aH fun _=>bP rfl,fG X G a27 fun _ _ _ _ _ _=>aH fun _=>aH fun _=>aH fun _=>aH fun _=>bP rfl,fG X G a28 fun _ _ _ _ _ _=>aH fun _=>bP rfl,fG X G a29 fun _ _ _ _ _ _=>aH fun _=>aH fun _=>bP rfl,fG X G a30 fun _ _ _ _ _ _=>aH fun _=>aH fun _=>bP rfl,fG X G a31 fun _ _ _ _ _ _=>aH fun _=>aH fun _=>aH fun _=>bP rfl,fG X G a32 fun _ _ _ _ _ _=>aH fun _=>aH fun _=>aH fun _=>bP rfl,fG X G a33 fun _ _ _ _ _ _=>aH fun _=>aH fun _=>bP rfl,fG X G a34 fun _ _ _ _ _ _=>aH fun _=>aH fun _=>aH fun _=>bP rfl,fG X G a35 fun _ _ _ _ _ _=>aH fun _=>aH fun _=>aH fun _=>bP rfl,fG X G a36 fun _ _ _ _ _ _=>aH fun _=>aH fun _=>aH fun _=>aH fun _=>bP rfl,fG X G a37 fun _ _ _ _ _ _=>aH fun _=>aH fun _=>bP rfl,fG X G a38 fun _ _ _ _ _ _=>aH fun _=>aH fun _=>bP rfl,fG X G a39 fun _ _ _ _ _ _=>aH fun _=>bP rfl,fG X G a40 fun _ _ _ _ _ _=>aH fun _=>aH fun _=>aH fun _=>bP rfl,fG X G a41 fun _ _ _ _ _ _=>aH fun _=>aH fun _=>aH fun _=>bP rfl,fG X G a42 fun _ _ _ _ _ _=>aH fun _=>aH fun _=>aH fun _=>aH fun _=>bP rfl,fG X G a43 fun _ _ _ _ _ _=>aH fun _=>aH fun _=>bP rfl,fG X G a44 fun _ _ _ _ _ _=>aH fun _=>bP rfl,fG X G a45 fun _ _ _ _ _ _=>aH fun _=>aH fun _=>aH fun _=>bP rfl,fG X G a46 fun _ _ _ _ _ _=>aH fun _=>aH fun _=>aH fun _=>aH fun _=>bP rfl,fG X G a47 fun _ _ _ _ _ _=>aH fun _=>aH fun _=>aH fun _=>bP rfl,fG X G a48 fun _ _ _ _ _ _=>aH fun _=>aH fun _=>aH fun _=>aH fun _=>bP rfl,fG X G a49 fun _ _ _ _ _ _=>aH fun _=>bP rfl,Qc3 X G q_Seen,⟨pg_Seen,hd_Seen,po_Seen,sa_Seen⟩,n_Seen_strand,n_Seen_way,n_Seen_place,Qc3 X G q_Way,⟨pg_Way,hd_Way,po_Way,sa_Way⟩,n_Way_size,n_Way_root_size,n_Way_leads,n_Way_onward,n_Way_backward,⟨mk_Way,qi_Way,fi_Way,kc_Way⟩,FN,Ml,⟨mk_Seen,qi_Seen,fi_Seen,kc_Seen⟩,A9,IF,ZN X G z_abs,ZN X G z_enumerate,ZN X G z_int,ZN X G z_len,ZN X G z_list,ZN X G z_max,ZN X G z_min,ZN X G z_range,ZN X G z_reversed,ZN X G z_sorted,ZN X G z_str,ZN X G z_sum,ZN X G z_tuple,ZN X G z_zip⟩
 exact ⟨_,fun s v=> .of_eq rfl,fun base _ _=>Ma T⟩
theorem walk {l:PySem.W.OpenLaw} {q:Program} {loose:List Str} {XP:(Str->Option Value)->Heap->Prop} {YP:World->Heap->Prop} {d:DefRec} {K:Params->PySem.W.Frag} (hn:l.most=some 63) (OU:d.params.defaults=[])
  (hY: ∀(w:World) (h:Heap),YP w h->(K w.params).In h)
  (F: ∀(w:World) (mg:Str->Option Value) (fa:Addr) (h:Heap),(K w.params).In h->h.Ns mainGlobals mg->mg d.name=some (.ref fa)->
   ∃fd:FuncData,(∀(s:Shared) (u:Value),BindsTo s fd ⟨[u],[]⟩ [("_law_script",u)])/\ ∀base:Heap,(K w.params).In base->base.Ns mainGlobals mg->br l.prog w (K w.params) mg base eG 11 fa fd ["_law_script"] (mC (K w.params))):
  PySem.W.WalkO q loose XP YP l.row.toRowW d [] (fun f vs=>PySem.call f vs):=
 L2.zT (n:=63) (k:=11) (x:="_law_script") (CX:=fun _=>eG) (sp:=fun w=>mC (K w.params)) hn (by decide) OU ⟨rfl,by decide,by decide,rfl⟩ hY F (fun _ _ a ns hl _ hS=>⟨a,ns,rfl,hS,hl,fun _=>rfl⟩) fun _ _ _ _ _ z=>z
end My
namespace PySem.W.Fast
def tw10219238931453796953:=Nat
def tw10244949980096623510:=Nat
def tw1026195019528944877:=Nat
def tw10303702415908476994:=Nat
def tw10324476137664752910:=Nat
def tw10602893983068579320:=Nat
def tw1069038630629496493:=Nat
def tw10717072604036193425:=Nat
def tw10770375677559220673:=Nat
def tw10773978510043832780:=Nat
def tw10827546080916065234:=Nat
def tw11073693073595813633:=Nat
def tw11112821609707769343:=Nat
def tw11209201498938769057:=Nat
def tw11295881993513402761:=Nat
def tw11374908678617491102:=Nat
def tw11461792304260172628:=Nat
def tw11488460858206620374:=Nat
def tw11547581142977427836:=Nat
def tw11641043063434674153:=Nat
def tw11771412199692767793:=Nat
def tw11778011094814071530:=Nat
def tw11815312692164334644:=Nat
def tw12053450442679742528:=Nat
def tw12116058016479629366:=Nat
def tw12204055859645293512:=Nat
def tw12214731551596279755:=Nat
def tw12284727513970774249:=Nat
def tw12348847394864778454:=Nat
def tw12616338659699132592:=Nat
def tw12623164227488022297:=Nat
def tw12806430833820778536:=Nat
def tw12824781863381991877:=Nat
def tw13033739214934854684:=Nat
def tw13036647432175288263:=Nat
def tw13063860324197483429:=Nat
def tw13096664231022609377:=Nat
def tw13111541174085329385:=Nat
def tw13195503976169600498:=Nat
def tw13266892626614020410:=Nat
def tw13267498231337786725:=Nat
def tw13458950587474991005:=Nat
def tw13534669179289481656:=Nat
def tw13575144869744046392:=Nat
def tw13629294068576344236:=Nat
def tw13738056362638756422:=Nat
def tw13896001015051828189:=Nat
def tw1400022132513560256:=Nat
def tw14120168762892826574:=Nat
def tw14170850792832370991:=Nat
def tw14193443155045478520:=Nat
def tw1419601901409713734:=Nat
def tw14215381045785627697:=Nat
def tw14307183358282310873:=Nat
def tw1431468573904200747:=Nat
def tw14346173540413954186:=Nat
def tw14519886855976470192:=Nat
def tw14757928265681576530:=Nat
def tw14846018092894307900:=Nat
def tw14883702159611037542:=Nat
def tw15026106366281135753:=Nat
def tw15137071618232767884:=Nat
def tw15186981927108745284:=Nat
def tw15286816676136545130:=Nat
def tw15297650106064657543:=Nat
def tw15406702120089274467:=Nat
def tw15763044219361126370:=Nat
def tw15795169565455769986:=Nat
def tw15869097174387362454:=Nat
def tw15965792709773515210:=Nat
def tw15989566788872924944:=Nat
def tw16039334995100355679:=Nat
def tw16152461303515161888:=Nat
def tw16250212735716732440:=Nat
def tw1626597959881007851:=Nat
def tw16407293113012696845:=Nat
def tw16516580327071151506:=Nat
def tw16583179528935281144:=Nat
def tw16637059357566431915:=Nat
def tw16653329374909133448:=Nat
def tw16771801170812585211:=Nat
def tw16799691265109170124:=Nat
def tw17016793768654165617:=Nat
def tw17177685594725990963:=Nat
def tw17220310658390112377:=Nat
def tw17224488219110948163:=Nat
def tw17344141454255576382:=Nat
def tw17554587763392487192:=Nat
def tw17694896500804760730:=Nat
def tw17699086387908431083:=Nat
def tw17787694072969532552:=Nat
def tw17853353994862199869:=Nat
def tw17895706688973856724:=Nat
def tw17904865983558875888:=Nat
def tw17925286461182844973:=Nat
def tw18058236746239087571:=Nat
def tw18066798636775330730:=Nat
def tw18122060958784422584:=Nat
def tw18153853024370200915:=Nat
def tw18229209049768081547:=Nat
def tw183296760992453408:=Nat
def tw18389773941216875677:=Nat
def tw18412511354622810410:=Nat
def tw1897167792127433312:=Nat
def tw1999866537189815738:=Nat
def tw210745862834271585:=Nat
def tw2170266933539658400:=Nat
def tw2175672870100846281:=Nat
def tw2323830446765622091:=Nat
def tw235280121231894046:=Nat
def tw2376287556833156833:=Nat
def tw2401356718868560312:=Nat
def tw2582631148960172313:=Nat
def tw2606446299663268292:=Nat
def tw277487097348355713:=Nat
def tw2855973257713439891:=Nat
def tw2903057099977297233:=Nat
def tw3211332574367691270:=Nat
def tw3214158292854367721:=Nat
def tw332795807376287882:=Nat
def tw340429158831015687:=Nat
def tw351327428085135767:=Nat
def tw3576799305906557892:=Nat
def tw3580003516234059578:=Nat
def tw3610446633218844742:=Nat
def tw3822472726163965212:=Nat
def tw3862533274230472116:=Nat
def tw392050619087998659:=Nat
def tw3996502239587049327:=Nat
def tw3998222856681178290:=Nat
def tw4008457617016637422:=Nat
def tw401315746270940229:=Nat
def tw4131223265546941105:=Nat
def tw4172195145279303814:=Nat
def tw4199253450642151011:=Nat
def tw4414632306755459984:=Nat
def tw4491969544734078334:=Nat
def tw4552018028421642785:=Nat
def tw4561567980315549309:=Nat
def tw4627047903455913411:=Nat
def tw4922995127267611676:=Nat
def tw4976696107761116870:=Nat
def tw5060381092172438213:=Nat
def tw506540206665602613:=Nat
def tw5069272594330136743:=Nat
def tw519236412989309545:=Nat
def tw5230497485820757332:=Nat
def tw5321505600748339752:=Nat
def tw5440217299781539862:=Nat
def tw5472278689442891745:=Nat
def tw5540478576156326552:=Nat
def tw5655546347031874476:=Nat
def tw5667709163029821434:=Nat
def tw582162014727214056:=Nat
def tw5889201477608118034:=Nat
def tw5978985706390049822:=Nat
def tw6000365687855057348:=Nat
def tw6073698715576029013:=Nat
def tw6086343362147823680:=Nat
def tw6165572526015049121:=Nat
def tw6584023484288885868:=Nat
def tw6701592937076949259:=Nat
def tw6765324316694029798:=Nat
def tw6809784723829356057:=Nat
def tw6952992005464870863:=Nat
def tw7007648162055173251:=Nat
def tw7050266726370666636:=Nat
def tw7059248698234006049:=Nat
def tw705948682246513037:=Nat
def tw711341310461839941:=Nat
def tw7152824926170442549:=Nat
def tw7290458171738889778:=Nat
def tw7299260393355657009:=Nat
def tw7402925083592022077:=Nat
def tw7503245500026227977:=Nat
def tw7629851824765326667:=Nat
def tw7999926846659660223:=Nat
def tw8018152327461477484:=Nat
def tw8036518610175692949:=Nat
def tw8078822597011016226:=Nat
def tw8322977379931004832:=Nat
def tw8397104571557852221:=Nat
def tw8524850284582177397:=Nat
def tw8540239682795865323:=Nat
def tw8667050611397062810:=Nat
def tw8690786355499591669:=Nat
def tw8900334068464936177:=Nat
def tw8914576854607157728:=Nat
def tw8953151319188347638:=Nat
def tw9320215577938295966:=Nat
def tw9378706715664304500:=Nat
def tw9514978472936289343:=Nat
def tw9526104875446932356:=Nat
def tw9693724321128830609:=Nat
def tw9765473812578898847:=Nat
def tw979824272927012494:=Nat
def tw9860079102060839099:=Nat
def tw9905782091787182786:=Nat
def tw9920683595901523607:=Nat
def tw9963402088243065298:=Nat
end PySem.W.Fast
open PySem PySem.W PyProof.Rows
set_option maxRecDepth 100000 in
set_option maxHeartbeats 0 in
theorem PySem.Challenge.cw_mustmeet_k83_whole_however_drawn_holds : PySem.Challenge.rw_mustmeet_k83_whole_however_drawn.Holds := by
 w_on;o_law;k_head;(case hw=>w_witness2)
 k_fill
 refine My.walk (l:=PySem.Challenge.rw_mustmeet_k83_whole_however_drawn) rfl rfl (fun w h Y=>PySem.W.kIn_of Y) ?F
 case F=>
  intro w mg fa h KX G hmg
  refine' My.all_mk KX G hmg (My.dn ?a0 ?l0 ?c0 ?k0) (My.dn ?a1 ?l1 ?c1 ?k1) (My.dn ?a2 ?l2 ?c2 ?k2) (My.dn ?a3 ?l3 ?c3 ?k3) (My.dn ?a4 ?l4 ?c4 ?k4) (My.dn ?a5 ?l5 ?c5 ?k5) (My.dn ?a6 ?l6 ?c6 ?k6) (My.dn ?a7 ?l7 ?c7 ?k7) (My.dn ?a8 ?l8 ?c8 ?k8) (My.dn ?a9 ?l9 ?c9 ?k9) (My.dn ?a10 ?l10 ?c10 ?k10) (My.dn ?a11 ?l11 ?c11 ?k11) (My.dn ?a12 ?l12 ?c12 ?k12) (My.dn ?a13 ?l13 ?c13 ?k13) (My.dn ?a14 ?l14 ?c14 ?k14) (My.dn ?a15 ?l15 ?c15 ?k15) (My.dn ?a16 ?l16 ?c16 ?k16) (My.dn ?a17 ?l17 ?c17 ?k17) (My.dn ?a18 ?l18 ?c18 ?k18) (My.dn ?a19 ?l19 ?c19 ?k19) (My.dn ?a20 ?l20 ?c20 ?k20) (My.dn ?a21 ?l21 ?c21 ?k21) (My.dn ?a22 ?l22 ?c22 ?k22) (My.dn ?a23 ?l23 ?c23 ?k23) (My.dn ?a24 ?l24 ?c24 ?k24) (My.dn ?a25 ?l25 ?c25 ?k25) (My.dn ?a26 ?l26 ?c26 ?k26) (My.dn ?a27 ?l27 ?c27 ?k27) (My.dn ?a28 ?l28 ?c28 ?k28) (My.dn ?a29 ?l29 ?c29 ?k29) (My.dn ?a30 ?l30 ?c30 ?k30) (My.dn ?a31 ?l31 ?c31 ?k31) (My.dn ?a32 ?l32 ?c32 ?k32) (My.dn ?a33 ?l33 ?c33 ?k33) (My.dn ?a34 ?l34 ?c34 ?k34) (My.dn ?a35 ?l35 ?c35 ?k35) (My.dn ?a36 ?l36 ?c36 ?k36) (My.dn ?a37 ?l37 ?c37 ?k37) (My.dn ?a38 ?l38 ?c38 ?k38) (My.dn ?a39 ?l39 ?c39 ?k39) (My.dn ?a40 ?l40 ?c40 ?k40) (My.dn ?a41 ?l41 ?c41 ?k41) (My.dn ?a42 ?l42 ?c42 ?k42) (My.dn ?a43 ?l43 ?c43 ?k43) (My.dn ?a44 ?l44 ?c44 ?k44) (My.dn ?a45 ?l45 ?c45 ?k45) (My.dn ?a46 ?l46 ?c46 ?k46) (My.dn ?a47 ?l47 ?c47 ?k47) (My.dn ?a48 ?l48 ?c48 ?k48) (My.dn ?a49 ?l49 ?c49 ?k49) ?q_Seen ?pg_Seen ?hd_Seen ?po_Seen ?sa_Seen ?n_Seen_strand ?n_Seen_way ?n_Seen_place ?q_Way ?pg_Way ?hd_Way ?po_Way ?sa_Way ?n_Way_size ?n_Way_root_size ?n_Way_leads ?n_Way_onward ?n_Way_backward ?mk_Way ?qi_Way ?fi_Way ?kc_Way ?li_Way ?ci_Way ?ki_Way ?mk_Seen ?qi_Seen ?fi_Seen ?kc_Seen ?li_Seen ?ci_Seen ?ki_Seen ?z_abs ?z_enumerate ?z_int ?z_len ?z_list ?z_max ?z_min ?z_range ?z_reversed ?z_sorted ?z_str ?z_sum ?z_tuple ?z_zip
  case a0|l0|c0|k0|a1|l1|c1|k1|a2|l2|c2|k2|a3|l3|c3|k3|a4|l4|c4|k4|a5|l5|c5|k5|a6|l6|c6|k6|a7|l7|c7|k7|a8|l8|c8|k8|a9|l9|c9|k9|a10|l10|c10|k10|a11|l11|c11|k11|a12|l12|c12|k12|a13|l13|c13|k13|a14|l14|c14|k14|a15|l15|c15|k15|a16|l16|c16|k16|a17|l17|c17|k17|a18|l18|c18|k18|a19|l19|c19|k19|a20|l20|c20|k20|a21|l21|c21|k21|a22|l22|c22|k22|a23|l23|c23|k23|a24|l24|c24|k24|a25|l25|c25|k25|a26|l26|c26|k26|a27|l27|c27|k27|a28|l28|c28|k28|a29|l29|c29|k29|a30|l30|c30|k30|a31|l31|c31|k31|a32|l32|c32|k32|a33|l33|c33|k33|a34|l34|c34|k34|a35|l35|c35|k35|a36|l36|c36|k36|a37|l37|c37|k37|a38|l38|c38|k38|a39|l39|c39|k39|a40|l40|c40|k40|a41|l41|c41|k41|a42|l42|c42|k42|a43|l43|c43|k43|a44|l44|c44|k44|a45|l45|c45|k45|a46|l46|c46|k46|a47|l47|c47|k47|a48|l48|c48|k48|a49|l49|c49|k49|q_Seen|pg_Seen|hd_Seen|po_Seen|sa_Seen|n_Seen_strand|n_Seen_way|n_Seen_place|q_Way|pg_Way|hd_Way|po_Way|sa_Way|n_Way_size|n_Way_root_size|n_Way_leads|n_Way_onward|n_Way_backward|mk_Way|qi_Way|fi_Way|kc_Way|li_Way|ci_Way|ki_Way|mk_Seen|qi_Seen|fi_Seen|kc_Seen|li_Seen|ci_Seen|ki_Seen|z_abs|z_enumerate|z_int|z_len|z_list|z_max|z_min|z_range|z_reversed|z_sorted|z_str|z_sum|z_tuple|z_zip=>k_is
