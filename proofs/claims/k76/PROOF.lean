import PyProof.Rows.All
import Wide.All
import OpenK.AllK
import Wide.FinOn
import Lean
import PyProof.EqAt
import PyProof.EqKinds
import PyProof.TupleCall
import PySem.Challenge.RW_mustmeet_k76_whole_pair_by_pair
set_option Elab.async false
set_option linter.all false
set_option maxRecDepth 100000
open List renaming getElem?_eq_getElem→K3,getElem?_eq_some_iff→K4,length_map→MO,length_append→U5,mem_singleton→U7,length_pos_iff→WO,map_append→WQ,size_toArray→WR,getD_eq_getElem?_getD→WS,mem_of_getElem?→Y4,getElem?_map→Y5,idxOf_lt_length_of_mem→Y6,mem_cons_of_mem→Zs,mem_cons→Zt,not_mem_nil→Zu,mem_cons_self→Zv,mem_append→Zx,map_cons→ZC,filter_cons_of_neg→ZF,length_take→ZG,length_drop→ZH,mem_append_right→ZK,mem_map→ZL,take_of_length_le→ZM,filter_cons_of_pos→ZP,flatMap_cons→ZQ,length_cons→ZR,mem_flatMap→ZS,getElem_mem→ZT,mem_filter→ZU,append_nil→ZV,length_reverse→ZX,flatMap_append→ZY,nodup_cons→Z6,getElem?_append_left→Z7,take_length→Z8,lookup_cons→Z9,mem_range→Z_,range_succ→kb,drop_eq_getElem_cons→Qaa,map_map→Qac,pairwise_map→Qaf,getElem?_append_right→Qag,nodup_append→Qaj,append_assoc→Qak,getElem_idxOf→Qam,pairwise_append→Qao,length_eq_zero_iff→Qap,flatMap_singleton→Qar,drop_of_length_le→Qas,take_append_drop→Qat,getElem?_drop→Qav,filter_append→Qaw,sum_cons→Qa0,any_cons→Qa1,pairwise_cons→Qa5,getElem?_eq_none→Qa7,pairwise_iff_getElem→Qa8,find?_cons→Qa9,map_congr_left→Qbe,length_range→Qbl,flatten_cons→Qbm,mem_of_mem_take→Qbn,mem_of_mem_drop→Qbo,mem_append_left→Qbp,map_reverse→Qbs,getLast?_eq_getElem?→Qbu,getElem?_take→Qbx,pairwise_singleton→Qby,eraseIdx_cons_succ→Qbz,lt_irrefl→Qb2,drop_eq_nil_of_le→Qb3,length_filter_le→Qb9,getElem?_reverse→Qca,getElem_map→Qcb,map_drop→Qcc,eq_nil_of_length_eq_zero→Qcd,forIn_cons→Qcg,foldl_cons→Qch,getElem_of_mem→Qcj,filter_congr→Qcs,mem_reverse→Qcz,flatMap_nil→Qc0,head?_eq_getElem?→Qda,cons_lt_cons_iff→Qdg,nodup_nil→Qdj,dropLast_concat→Qdk,replicate_succ→Qdl,filterMap_cons→Qdm,map_take→Qdp,take_add_one→Qdy,ext_getElem?→Qdz,count_append→Qd0,any_eq_false→Qd1,nodup_range→Qd5,all_eq_true→Qd6,map_id→Qd8,of_mem_zip→Qea,length_nil→Qeb,filter_map→Qec
open Nat renaming le_refl→Ri,zero_le→WT,ne_of_lt→ZE,lt_of_lt_of_le→ZJ,le_trans→ZN,lt_of_le_of_lt→ZW,le_of_lt→Z4,lt_irrefl→Z5,min_eq_right→Qai,min_eq_left→Qal,lt_succ_self→Qau,lt_trans→Qax,succ_le_succ→Qa2,mod_eq_of_lt→Qa3,lt_or_gt_of_ne→Qa4,mul_comm→Qbb,lt_succ_of_lt→Qbc,le_succ→Qbf,not_lt_zero→Qbh,max_eq_left→Qbi,max_eq_right→Qbr,mod_lt→Qbw,succ_mul→Qb1,div_add_mod→Qcf,zero_add→Qcl,lt_asymm→Qcm,succ_ne_self→Qcy,ne_of_gt→Qc8,add_zero→Qc9,mod_add_div→Qdc,div_lt_iff_lt_mul→Qdf,pos_of_ne_zero→Qdt,mod_eq_sub_mod→Qdu,add_comm→Qdx,le_antisymm→Qd9
open PySem.Heap renaming get?_push_of_some→U4,get?_push_size→Zw,lt_size→ZA,get?_update_other→Z3,get?_update_self→Qan,size_push→Qce
open Int renaming toNat_natCast→U6,emod_eq_of_lt→ZO,natCast_add→ZZ,emod_lt_of_pos→Qad,emod_nonneg→Qah,zero_add→Qay,add_zero→Qaz,add_emod_right→Qbg,emod_emod_of_dvd→Qbq,sub_zero→Qb4,ofNat_lt→Qb5,emod_add_emod→Qb6,sub_emod→Qcn,add_mul_emod_self_left→Qcp,natCast_emod→Qc1,natCast_ediv→Qc2,emod_add_mul_ediv→Qdh,natCast_nonneg→Qdv,dvd_refl→Qd3,natCast_mul→Qed
open PySem renaming boot_len→Y3,mem_of_lookup→Qbv
open Option.some renaming inj→Zy
open Bool renaming false_ne_true→Zz,and_eq_true→Z0,false_eq_true→Qa6,eq_iff_iff→Qci,and_false→Qcq,eq_false_iff→Qct,decide_and→Qdd,or_false→Qdq,not_true→Qdr,false_or→Qds
open PySem.F renaming plainAttrs_list→ZD,plainAttrs_str→ZI,type_list_append→Z1,slot_list_append→Z2,plain_max_loop→Qaq,type_str_join→Qbj,slot_str_join→Qbk,type_list_pop→Qb7,slot_list_pop→Qb8,type_str_islower→Qcu,type_list_extend→Qcv,slot_str_islower→Qcw,slot_list_extend→Qcx,type_str_lower→Qc3,type_str_index→Qc4,slot_str_lower→Qc5,slot_str_index→Qc6,entry_max_loop→Qc7,slot_dict_get→Qde
open PySem.W renaming mg_none_of→Qab,kasC_bind→Qba,callWith_K→Qco,kasC_pure→Qcr,mg_of→Qdo,kasC_cons→Qdw,kasC_get→Qd4
open PyProof.Rows renaming callWith_type1→Qae
open List.Pairwise renaming imp_of_mem→Qbd,imp→Qd2
open Array renaming toList_inj→Qbt,length_toList→Qck,getElem?_toList→Qdi
open Option renaming map_eq_some_iff→Qb0,map_some→Qdb
open PySem.Calls renaming callWith_builtin→Qdn,spliced_cons→Qee
open PySem.Heap.SameBut renaming update→Qd7
namespace L2
open PySem PySem.Spec PyProof.Rows
abbrev Key:=Sum Int Str
noncomputable def sW:Key->Value->Bool
 | .inl k,v=>Value.isInt k v
 | .inr x,v=>Value.isStrOf x v
noncomputable def Sh (w:World):Key->Int
 | .inl k=>hashInt k
 | .inr x=>hashStr w x
theorem cf: ∀{k:Key} {v:Value},sW k v=true->(∃i t,k=Sum.inl i/\v=Value.int i t)\/(∃x t,k=Sum.inr x/\v=Value.str x t)
 | .inl i,v,h=>by
  obtain ⟨t,e⟩:=Value.isInt_shape (k:=i) (v:=v) h
  exact .inl ⟨i,t,rfl,e⟩
 | .inr x,v,h=>by
  obtain ⟨t,e⟩:=Value.isStrOf_shape (x:=x) (v:=v) h
  exact .inr ⟨x,t,rfl,e⟩
theorem BU (i:Int) (t:Tok):sW (.inl i) (.int i t)=true:=by simp[sW,Value.isInt]
theorem BV (x:Str) (t:Tok):sW (.inr x) (.str x t)=true:=by simp[sW,Value.isStrOf]
theorem Ke (a b:Int):decide ((Sum.inl a:Key)=Sum.inl b)=(a==b):=by
 by_cases e:a=b
 ·subst e;simp
 ·have h: ¬(Sum.inl a:Key)=Sum.inl b:=fun q=>e (Sum.inl.inj q)
  rw[decide_eq_false h]
  exact (beq_eq_false_iff_ne.mpr e).symm
theorem Kf (a b:Str):decide ((Sum.inr a:Key)=Sum.inr b)=decide (a=b):=by
 by_cases e:a=b
 ·subst e;simp
 ·have h: ¬(Sum.inr a:Key)=Sum.inr b:=fun q=>e (Sum.inr.inj q)
  rw[decide_eq_false h,decide_eq_false e]
theorem Kg (a:Int) (b:Str):decide ((Sum.inl a:Key)=Sum.inr b)=false:=decide_eq_false (fun q=>nomatch q)
theorem Kh (a:Str) (b:Int):decide ((Sum.inr a:Key)=Sum.inl b)=false:=decide_eq_false (fun q=>nomatch q)
noncomputable def cg (prog:Program) (w:World):PySem.KeyKind prog w Key where
 is:=sW
 hash:=Sh w
 inj:=fun v a b ha hb=>by
  rcases cf ha with ⟨i,t,rfl,rfl⟩ | ⟨x,t,rfl,rfl⟩
  ·rcases cf hb with ⟨j,u,rfl,e⟩ | ⟨y,u,rfl,e⟩
   ·injection e with e1 _;rw[e1]
   ·exact nomatch e
  ·rcases cf hb with ⟨j,u,rfl,e⟩ | ⟨y,u,rfl,e⟩
   ·exact nomatch e
   ·injection e with e1 _;rw[e1]
 byValue:=fun k v h=>by
  rcases cf h with ⟨i,t,rfl,rfl⟩ | ⟨x,t,rfl,rfl⟩<;>rfl
 pyHash:=fun hv h=>by
  rcases cf hv with ⟨i,t,rfl,rfl⟩ | ⟨x,t,rfl,rfl⟩
  ·exact wpAny_pyHash_int h
  ·exact wpAny_pyHash_str h
 eqBool:=fun hu hv h=>by
  rcases cf hu with ⟨i,t,rfl,rfl⟩ | ⟨x,t,rfl,rfl⟩
  ·rcases cf hv with ⟨j,u,rfl,rfl⟩ | ⟨y,u,rfl,rfl⟩
   ·rw[Ke]at h;exact wpAny_eqBool_int h
   ·rw[Kg]at h;exact SeqAt.EqAt.int_str i t y u _ _ _ _ h
  ·rcases cf hv with ⟨j,u,rfl,rfl⟩ | ⟨y,u,rfl,rfl⟩
   ·rw[Kh]at h;exact SeqAt.EqAt.str_int x t j u _ _ _ _ h
   ·rw[Kf]at h;exact wpAny_eqBool_str h
 «strs» :=fun k x t v h=>by
  rcases cf h with ⟨i,u,rfl,e⟩ | ⟨y,u,rfl,e⟩
  ·exact nomatch e
  ·injection e with e1 _
   subst e1
   cases v<;>rfl
theorem wW (prog:Program) (w:World) (i:Int) (t:Tok):(cg prog w).is (.inl i) (.int i t)=true:=BU i t
theorem wX (prog:Program) (w:World) (x:Str) (t:Tok):(cg prog w).is (.inr x) (.str x t)=true:=BV x t
inductive V where
 | f_ | bl (b:Bool) | int (i:Int) | str (x:Str) | Av (b:Array UInt8) | Q0 (b:UInt64) | ref (a:Addr) | ty (n:String)
 deriving DecidableEq
def RelV:V->Value->Prop
 | .f_,u=>u=Value.none
 | .bl b,u=>u=Value.bool b
 | .int i,u=> ∃t,u=Value.int i t
 | .str x,u=> ∃t,u=Value.str x t
 | .Av b,u=> ∃t,u=Value.bytes b t
 | .Q0 b,u=> ∃t,u=Value.float b t
 | .ref a,u=>u=Value.ref a
 | .ty n,u=>u=Value.type n
abbrev Vals:List V->List Value->Prop:=Paired RelV
theorem Vals.length {xs:List V} {us:List Value} (r:Vals xs us):xs.length=us.length:=Paired.length r
theorem Vals.get: ∀{xs:List V} {us:List Value} {i:Nat} {x:V},Vals xs us->xs[i]? =some x-> ∃u,us[i]? =some u/\RelV x u
 | _,_,_,_, .nil,e=>by simp at e
 | _,_,0,_, .cons r _,e=>by simp at e;subst e;exact ⟨_,rfl,r⟩
 | _,_,i+1,x, .cons _ t,e=>by
  obtain ⟨u,h1,h2⟩:=Vals.get (i:=i) (x:=x) t (by simpa using e)
  exact ⟨u,by simpa using h1,h2⟩
theorem Vals.set {x:V} {u:Value} (r:RelV x u): ∀{xs:List V} {us:List Value} (i:Nat),Vals xs us->Vals (xs.set i x) (us.set i u)
 | _,_,_, .nil=> .nil
 | _,_,0, .cons _ t=> .cons r t
 | _,_,i+1, .cons q t=> .cons q (Vals.set r i t)
theorem Vals.append: ∀{xs ys:List V} {us ws:List Value},Vals xs us->Vals ys ws->Vals (xs++ys) (us++ws)
 | _,_,_,_, .nil,s=>s
 | _,_,_,_, .cons r t,s=> .cons r (Vals.append t s)
theorem Vals.take: ∀{xs:List V} {us:List Value} (n:Nat),Vals xs us->Vals (xs.take n) (us.take n)
 | _,_,0,_=> .nil
 | _,_,_+1, .nil=> .nil
 | _,_,n+1, .cons r t=> .cons r (Vals.take n t)
theorem Vals.drop: ∀{xs:List V} {us:List Value} (n:Nat),Vals xs us->Vals (xs.drop n) (us.drop n)
 | _,_,0,r=>r
 | _,_,_+1, .nil=> .nil
 | _,_,n+1, .cons _ t=>Vals.drop n t
def kW:Option V->Option Value->Prop
 | some v,some u=>RelV v u
 | none,none=>True
 | _,_=>False
def KV {κ:Type}:List (κ×V)->List (κ×Value)->Prop:=Paired fun (p:κ×V) (q:κ×Value)=>p.1=q.1/\RelV p.2 q.2
noncomputable def kV:Key->V
 | .inl i=> .int i
 | .inr x=> .str x
inductive HO where
  | lst (xs:List V)
  | tup (xs:List V)
  | dK (aL:List (Key×V)) | dT (aL:List (List Key×V))
  | set (S:Int->Bool) (n:Nat)
  | ins (C dx:Addr) (fs:List (Str×V))
  | own (x:Addr)
  | xd (fs:List (Str×V))
  | met (f x:Addr)
  | Si (lo hi:Int)
  | GF (o:Obj) (u:HO)
  | Ki (ps:Array Value)
  | ext (φ:Heap->Prop)
abbrev Hp:=Addr->Option HO
noncomputable def upd (H:Hp) (a:Addr) (o:HO):Hp:=fun b=>if b=a then some o else H b
theorem ag {H:Hp} {a:Addr} {o:HO}:upd H a o a=some o:=by unfold upd;rw[if_pos rfl]
theorem au {H:Hp} {a b:Addr} {o:HO} (h:b≠a):upd H a o b=H b:=by unfold upd;rw[if_neg h]
theorem OA {H:Hp} {a b:Addr} {o u:HO} (h:H a=some o) (h':H b=some u) (d:o≠u):a≠b:=by
 intro e;subst e;rw[h]at h';exact d (Zy h')
theorem aq {H:Hp} {a b:Addr} {o:HO} (h:H a=some o) (h':H b=none):a≠b:=by
 intro e;subst e;rw[h]at h';cases h'
section
variable (P:Program) (w:World)
def cU (H:Hp) (h:Heap) (a:Addr):HO->Prop
 | .lst xs=>xs.length<=sizeLine/\ ∃(aJ:List Value) (n:Nat),Vals xs aJ/\h.get? a=some { cls:= .type "list",data:= .seq aJ.toArray n }
 | .tup xs=>xs.length<=sizeLine/\ ∃aJ:List Value,Vals xs aJ/\IsTup h a aJ.toArray
 | .dK aL=>aL.length<=sizeLine/\(a==sysModules)=false/\ ∃vs,KV aL vs/\h.DictOf (cg P w) a vs
 | .dT aL=>aL.length<=sizeLine/\(a==sysModules)=false/\ ∃xs:List (List Key×Addr×Value),
   Paired (fun (p:List Key×V) (q:List Key×Addr×Value)=>p.1=q.1/\H q.2.1=some (.tup (p.1.map kV))/\RelV p.2 q.2.2) aL xs/\
   ∃o es ep,h.get? a=some o/\o.ExactDict/\o.data= .dict es ep/\es.toList=xs.map (entryOfKey (tupleKind (cg P w)))/\(xs.map (·.1)).Nodup
 | .set S n=>h.SetOf (intKind P w) a S n
 | .ins C dx fs=>H dx=some (.own a)/\fs.length<=1000/\dx≠a/\h.get? a=some (PySem.W.instObj C dx)/\
   ∃mA,h.Ns1 dx mA/\(∀f,kW (fs.lookup f) (mA f))/\PySem.Within mA (fs.map (·.1))
 | .own _=> ∃o,h.get? a=some o
 | .xd fs=> ∃mA,h.Ns1 a mA/\ ∀f,kW (fs.lookup f) (mA f)
 | .Si lo hi=> ∃t u v,h.get? a=some { cls:= .type "range",data:= .fields #[.int lo t, .int hi u, .int 1 v] }
 | .GF o u=>h.get? a=some o/\cU H h a u
 | .Ki ps=>h.get? a=some { cls:= .none,data:= .fields ps }
 | .met f x=>h.get? a=some (PySem.W.methodObj (.ref f) (.ref x))
 | .ext φ=>φ h/\(∃o,h.get? a=some o)/\ ∀h1 h2:Heap,φ h1->(∀o,h1.get? a=some o->h2.get? a=some o)->φ h2
def kX (H:Hp) (h:Heap):Prop:= ∀a o,H a=some o->cU P w H h a o
end
section
variable {P:Program} {w:World} {H H':Hp} {h h':Heap} {a:Addr} {o:HO}
theorem cU.lt (x:cU P w H h a o):a<h.objs.size:=by
 cases o with
 | lst xs=>obtain ⟨_,_,_,_,e⟩:=x;exact ZA e
 | tup xs=>obtain ⟨_,_,_,p⟩:=x;exact p.lt
 | dK aL=>obtain ⟨_,_,_,_,o,_,_,e,_⟩:=x;exact ZA e
 | dT aL=>obtain ⟨_,_,_,_,o,_,_,e,_⟩:=x;exact ZA e
 | set S n=>obtain ⟨o,_,_,_,e,_⟩:=x;exact ZA e
 | ins C dx fs=>obtain ⟨_,_,_,e,_⟩:=x;exact ZA e
 | own y=>obtain ⟨_,e⟩:=x;exact ZA e
 | xd fs=>obtain ⟨_,⟨_,_,_,e,_⟩,_⟩:=x;exact ZA e
 | Si lo hi=>obtain ⟨_,_,_,e⟩:=x;exact ZA e
 | GF ob u=>obtain ⟨e,_⟩:=x;exact ZA e
 | Ki ps=>exact ZA (show h.get? a=some _ from x)
 | met f y=>exact ZA (show h.get? a=some _ from x)
 | ext φ=>obtain ⟨_,⟨_,e⟩,_⟩:=x;exact ZA e
theorem Paired.Kj {α β:Type} {F G:α->β->Prop}: ∀{l₁:List α} {l₂:List β},Paired F l₁ l₂->(∀a b,F a b->G a b)->Paired G l₁ l₂
 | _,_, .nil,_=> .nil
 | _,_, .cons r t,f=> .cons (f _ _ r) (Paired.Kj t f)
theorem cU.wY (x:cU P w H h a o) (k: ∀b u,(b=a\/H b=some (.own a))->h.get? b=some u->h'.get? b=some u)
  (ho: ∀b,H b=some (.own a)->H' b=some (.own a)) (ht: ∀b xs,H b=some (.tup xs)->H' b=some (.tup xs)):cU P w H' h' a o:=by
 induction o with
 | lst xs=>obtain ⟨z,aJ,n,r,e⟩:=x;exact ⟨z,aJ,n,r,k _ _ (.inl rfl) e⟩
 | tup xs=>obtain ⟨z,aJ,r,ob,e,c⟩:=x;exact ⟨z,aJ,r,ob,k _ _ (.inl rfl) e,c⟩
 | dK aL=>obtain ⟨z,y,vs,r,ob,es,ep,e,c⟩:=x;exact ⟨z,y,vs,r,ob,es,ep,k _ _ (.inl rfl) e,c⟩
 | dT aL=>
  obtain ⟨z,y,xs,r,ob,es,ep,e,c⟩:=x
  exact ⟨z,y,xs,Paired.Kj r fun p q z=>⟨z.1,ht _ _ z.2.1,z.2.2⟩,ob,es,ep,k _ _ (.inl rfl) e,c⟩
 | set S n=>obtain ⟨ob,es,ep,t,e,c⟩:=x;exact ⟨ob,es,ep,t,k _ _ (.inl rfl) e,c⟩
 | ins C dx fs=>
  obtain ⟨d,z,ne,e,mA,⟨od,es,ep,e2,c⟩,r⟩:=x
  exact ⟨ho _ d,z,ne,k _ _ (.inl rfl) e,mA,⟨od,es,ep,k _ _ (.inr d) e2,c⟩,r⟩
 | own y=>obtain ⟨ob,e⟩:=x;exact ⟨ob,k _ _ (.inl rfl) e⟩
 | xd fs=>obtain ⟨mA,⟨od,es,ep,e,c⟩,r⟩:=x;exact ⟨mA,⟨od,es,ep,k _ _ (.inl rfl) e,c⟩,r⟩
 | Si lo hi=>obtain ⟨t,u,v,e⟩:=x;exact ⟨t,u,v,k _ _ (.inl rfl) e⟩
 | GF ob u ih=>obtain ⟨e,q⟩:=x;exact ⟨k _ _ (.inl rfl) e,ih q⟩
 | Ki ps=>
  have e:h.get? a=some { cls:= .none,data:= .fields ps }:=x
  show h'.get? a=some { cls:= .none,data:= .fields ps }
  exact k a _ (.inl rfl) e
 | met f y=>
  have e:h.get? a=some (PySem.W.methodObj (.ref f) (.ref y)):=x
  show h'.get? a=some (PySem.W.methodObj (.ref f) (.ref y))
  exact k a _ (.inl rfl) e
 | ext φ=>obtain ⟨p,⟨o,e⟩,st⟩:=x;exact ⟨st _ _ p fun o q=>k _ _ (.inl rfl) q,⟨o,k _ _ (.inl rfl) e⟩,st⟩
theorem kX.lt (x:kX P w H h) (e:H a=some o):a<h.objs.size:=(x a o e).lt
theorem kX.fresh (x:kX P w H h) (e:h.objs.size<=a):H a=none:=by
 cases q:H a with
 | none=>rfl
 | some u=>exact absurd (ZJ (x.lt q) e) (Z5 _)
theorem kX.kept (x:kX P w H h) (k: ∀b u,h.get? b=some u->h'.get? b=some u):kX P w H h':=fun a o e=>
 (x a o e).wY (fun b u _ q=>k b u q) (fun _ q=>q) fun _ _ q=>q
theorem kX.laid (x:kX P w H h) (k: ∀b u,h.get? b=some u->h'.get? b=some u) (hp:h.objs.size<=a) (new:cU P w (upd H a o) h' a o):kX P w (upd H a o) h':=fun b u e=>by
 have hn:=x.fresh hp
 by_cases hb:b=a
 ·subst hb;rw[ag]at e;cases e;exact new
 ·rw[au hb]at e
  exact (x b u e).wY (fun c v _ q=>k c v q) (fun c q=>by rw[au (aq q hn)];exact q) fun c xs q=>by rw[au (aq q hn)];exact q
end
def Rd (H:Hp) (a:Addr) (u:HO):Prop:=H a=some u\/ ∃o,H a=some (.GF o u)
theorem Rd.ok {P:Program} {w:World} {H:Hp} {h:Heap} {a:Addr} {u:HO} (r:Rd H a u) (x:kX P w H h):cU P w H h a u:=by
 rcases r with r | ⟨o,r⟩
 ·exact x a u r
 ·obtain ⟨_,q⟩:=x a _ r
  exact q
def OB:Option HO->Prop
 | some (.lst _)=>True
 | some (.dK _)=>True
 | some (.dT _)=>True
 | some (.set _ _)=>True
 | some (.ins _ _ _)=>True
 | some (.ext _)=>True
 | _=>False
section
variable {P:Program} {w:World} {H:Hp} {h h':Heap} {x e:Addr} {o':HO}
theorem kX.write (ok:kX P w H h) (mu:OB (H x)) (he:e=x\/H e=some (.own x)) (k: ∀b u,b≠e->h.get? b=some u->h'.get? b=some u) (MJ: ∃u,h'.get? e=some u)
  (new:cU P w (upd H x o') h' x o'):kX P w (upd H x o') h':=fun b u q=>by
 have OC: ∀c y,H c=some (.own y)->c≠x:=fun c y r z=>by subst z;rw[r]at mu;exact mu
 have Sj: ∀c xs,H c=some (.tup xs)->c≠x:=fun c xs r z=>by subst z;rw[r]at mu;exact mu
 by_cases hb:b=x
 ·subst hb;rw[ag]at q;cases q;exact new
 ·rw[au hb]at q
  by_cases GG:b=e
  ·have q':H b=some (.own x):=by
    rcases he with z | z
    ·exact absurd (GG.trans z) hb
    ·rw[GG];exact z
   rw[q]at q';cases q'
   obtain ⟨v,hv⟩:=MJ
   exact ⟨v,by rw[GG];exact hv⟩
  ·refine (ok b u q).wY (fun c v hc r=>k c v ?_ r) (fun c r=>by rw[au (OC c b r)];exact r) fun c xs r=>by rw[au (Sj c xs r)];exact r
   rcases hc with rfl | hc
   ·exact GG
   ·rintro rfl
    rcases he with z | z
    ·exact OC c b hc z
    ·rw[hc]at z;cases z;exact hb rfl
end
structure Un (fs ex:List Addr) (H H':Hp) (h h':Heap):Prop where
 keep: ∀b o,h.get? b=some o->H b=none->b∉fs->b∉ex->h'.get? b=some o
 slot: ∀b o,h.get? b=some o->H b=none->b∈fs->b∉ex-> ∃sl,h'.get? b=some { o with slots:=sl }
 free: ∀b o,h.get? b=some o->H b=none->b∉ex->H' b=none
 there: ∀b o,h.get? b=some o->b∉ex-> ∃o',h'.get? b=some o'
 nC: ∀b xs,H b=some (.tup xs)->H' b=some (.tup xs)
 ql: ∀b o u,H b=some (.GF o u)->H' b=some (.GF o u)
 uL: ∀b ps,H b=some (.Ki ps)-> ∃more,H' b=some (.Ki (ps++more))
section
variable {fs Wr ex YX:List Addr} {H H1 H2:Hp} {h h1 h2 h':Heap} {a x e:Addr} {o:HO}
theorem Un.any (u:Un fs ex H H1 h h1) {b:Addr} {ob:Obj} (q:h.get? b=some ob) (n:H b=none) (hx:b∉ex): ∃sl,h1.get? b=some { ob with slots:=sl }:=by
 by_cases hb:b∈fs
 ·exact u.slot b ob q n hb hx
 ·exact ⟨ob.slots,u.keep b ob q n hb hx⟩
theorem Un.kept (k: ∀b u,h.get? b=some u->h'.get? b=some u):Un fs ex H H h h':=
 ⟨fun b ob q _ _ _=>k b ob q,fun b ob q _ _ _=>⟨ob.slots,k b ob q⟩,fun _ _ _ n _=>n,fun b ob q _=>⟨ob,k b ob q⟩,fun _ _ q=>q,fun _ _ _ q=>q,fun _ ps q=>⟨#[],by rw[q];simp⟩⟩
theorem Un.refl:Un fs ex H H h h:=Un.kept fun _ _ q=>q
theorem Un.laid (k: ∀b u,h.get? b=some u->h'.get? b=some u) (hp:h.objs.size<=a) (hn:H a=none):Un fs ex H (upd H a o) h h' where
 keep:=fun b u q _ _ _=>k b u q
 slot:=fun b u q _ _ _=>⟨u.slots,k b u q⟩
 free:=fun b u q n _=>by rw[au (ZE (ZJ (ZA q) hp))];exact n
 there:=fun b u q _=>⟨u,k b u q⟩
 nC:=fun b xs q=>by rw[au (aq q hn)];exact q
 ql:=fun b u xs q=>by rw[au (aq q hn)];exact q
 uL:=fun b ps q=>⟨#[],by rw[au (aq q hn),q];simp⟩
theorem Un.write (mu:OB (H x)) (he:e=x\/H e=some (.own x)) (k: ∀b u,b≠e->h.get? b=some u->h'.get? b=some u) (MJ: ∃u,h'.get? e=some u):Un fs ex H (upd H x o) h h':=by
 have hx: ∀b,H b=none->b≠x:=fun b n z=>by subst z;rw[n]at mu;exact mu
 have hb: ∀b,H b=none->b≠e:=fun b n z=>by
  subst z
  rcases he with r | r
  ·exact hx b n r
  ·rw[n]at r;cases r
 have hm: ∀b u,H b=some u-> ¬OB (some u)->b≠x:=fun b u q nm z=>by subst z;rw[q]at mu;exact nm mu
 refine ⟨fun b u q n _ _=>k b u (hb b n) q,fun b u q n _ _=>⟨u.slots,k b u (hb b n) q⟩,fun b u q n _=>by rw[au (hx b n)];exact n,fun b u q _=>?_,
  fun b xs q=>by rw[au (hm b _ q fun z=>z)];exact q,fun b u xs q=>by rw[au (hm b _ q fun z=>z)];exact q,fun b ps q=>⟨#[],by rw[au (hm b _ q fun z=>z),q];simp⟩⟩
 by_cases GG:b=e
 ·subst GG;exact MJ
 ·exact ⟨u,k b u GG q⟩
end
noncomputable def Q3 (h:Heap) (H:Hp):List Addr:=(List.range h.objs.size).filter fun a=>(H a).isSome
noncomputable def uM (h:Heap) (H:Hp):Heap:=PySem.W.hideAll h (Q3 h H)
theorem BW (h:Heap) (H:Hp):(uM h H).objs.size=h.objs.size:=PySem.W.hideAll_size _ _
theorem Dz {h:Heap} {H:Hp} {b:Addr} {o:Obj} (e:h.get? b=some o) (n:H b=none):(uM h H).get? b=some o:=
 PySem.W.hideAll_get _ e fun hm=>by
  have q:(H b).isSome=true:=(ZU.mp hm).2
  rw[n]at q;simp at q
theorem G7 {h:Heap} {H:Hp} {b:Addr} {o:Obj} (e:(uM h H).get? b=some o):h.get? b=some o/\H b=none:=by
 have e':h.get? b=some o:=PySem.W.of_hideAll (Q3 h H) e
 refine ⟨e',?_⟩
 cases q:H b with
 | none=>rfl
 | some x=>
  have hm:b∈Q3 h H:=ZU.mpr ⟨Z_.mpr (ZA e'),by simp[q]⟩
  have z:(uM h H).get? b=none:=PySem.W.hideAll_none (Q3 h H) hm
  rw[z]at e;cases e
structure Mod (K:PySem.W.Frag) (mg:Str->Option Value) (base:Heap):Prop where
 MK:K.In base
 glob:base.Ns mainGlobals mg
 blt: ∃mb,base.Ns builtinsNs mb/\ ∀x:Str,x≠"__name__"->mb x=bootBuiltins x
 nolimit:base.NoLimit
structure Cx where
 prog:Program
 w:World
 K:PySem.W.Frag
 mg:Str->Option Value
 base:Heap
 A:Around
 N:List Str
 s₀:Shared
 H₀:Hp
 env:Env
 outer:List Env
 stack:List Env
 ex:List Addr
 fn:Str->Bool
 calm:Bool
 pn:List (Addr×Obj)
 xe:Value->Shared->Prop
noncomputable def Aw (l:List Env):List Addr:=l.filterMap (·.frame)
noncomputable abbrev Cx.fs (X:Cx):List Addr:=Aw X.outer
def OD (sc:Scope) (x:Str):Prop:=sc.names.lookup x=some .local\/sc.names.lookup x=some .cell\/sc.names.lookup x=some .free
def Loc (sc:Scope) (x:Str):Prop:=sc.names.lookup x=some .local\/sc.names.lookup x=some .cell
def Look (env:Env) (h:Heap) (m:Str->Option Value) (x:Str) (u:Value):Prop:=
 (env.kindOf x=some .local/\m x=some u)\/((env.kindOf x=some .cell\/env.kindOf x=some .free)/\ ∃c,env.cells.lookup x=some c/\h.IsCell c (some u))
structure Cx.Ok (X:Cx):Prop where
 mod:Mod X.K X.mg X.base
 kind:X.env.scope.kind= .function
 glob:X.env.globals=mainGlobals
 blt:X.env.builtins=builtinsNs
 above:X.s₀.heap.objs.size<=X.env.locals
 inj: ∀x y c,X.env.cells.lookup x=some c->X.env.cells.lookup y=some c->x=y
 has: ∀x,(X.env.kindOf x=some .cell\/X.env.kindOf x=some .free)-> ∃c,X.env.cells.lookup x=some c
 OE: ∀x c,X.fn x=true->X.env.cells.lookup x=some c->X.s₀.heap.objs.size<=c
 hd:X.calm=true->X.A.handled=none
 frames:X.A.frames=some X.stack
 Q5:X.stack=X.outer\/(X.stack=X.env::X.outer/\X.env.frame=some X.env.locals)
 UP: ∀b∈X.ex,b≠X.env.locals/\ ∀x c,X.env.cells.lookup x=some c->c≠b
 bs: ∀b o,X.base.get? b=some o->X.s₀.heap.get? b=some o/\X.H₀ b=none
 G8:X.base.objs.size<=X.s₀.heap.objs.size
 DA: ∀b o,X.base.get? b=some o->b∉X.ex
 G9: ∀b∈X.ex,b∉X.fs
 oY:X.s₀.heap.FunFrames X.base X.outer
 Kk: ∀b∈X.fs,X.H₀ b=none
structure Inv (X:Cx) (pins:List (Addr×Obj)) (σ:List (Option V)) (H:Hp) (s:Shared):Prop where
 ok:X.Ok
 os:s.os=X.s₀.os
 bare:AllBare s.gens
 base:Un X.fs X.ex X.H₀ H X.s₀.heap s.heap
 loc: ∃m,s.heap.Ns X.env.locals m/\ ∀(i:Nat) (x:Str) (v:V),X.N[i]? =some x->σ[i]? =some (some v)->OD X.env.scope x-> ∃u,RelV v u/\Look X.env s.heap m x u
 cell: ∀x c,X.env.cells.lookup x=some c-> ∃v,s.heap.IsCell c v
 free:H X.env.locals=none
 jl: ∀x c,X.env.cells.lookup x=some c->H c=none
 pin: ∀p∈X.pn++pins,s.heap.get? p.1=some p.2/\H p.1=none/\p.1≠X.env.locals/\p.1∉X.fs/\ ∀v,p.2.data≠ .cell v
 bX:kX X.prog X.w H s.heap
 len:σ.length=X.N.length
section
variable {X:Cx} {pins:List (Addr×Obj)} {σ:List (Option V)} {H H':Hp} {s:Shared} {h':Heap}
theorem Cx.Ok.Sk (ok:X.Ok) {b:Addr} {o:Obj} (e:X.base.get? b=some o):b∉X.fs:=fun hb=>by
 have:=(ok.oY.mem hb).1
 rw[e]at this;cases this
theorem Inv.bs (I:Inv X pins σ H s): ∀b o,X.base.get? b=some o->s.heap.get? b=some o/\H b=none:=fun b o e=>
 ⟨I.base.keep b o (I.ok.bs b o e).1 (I.ok.bs b o e).2 (I.ok.Sk e) (I.ok.DA b o e),I.base.free b o (I.ok.bs b o e).1 (I.ok.bs b o e).2 (I.ok.DA b o e)⟩
theorem Inv.bk (I:Inv X pins σ H s): ∀b o,X.base.get? b=some o->s.heap.get? b=some o:=fun b o e=>(I.bs b o e).1
theorem Inv.mod (I:Inv X pins σ H s):Mod X.K X.mg X.base:=I.ok.mod
theorem Inv.BX (I:Inv X pins σ H s):X.K.In s.heap:=I.ok.mod.MK.keeps I.bk
theorem Inv.lt (I:Inv X pins σ H s):X.env.locals<s.heap.objs.size:=let ⟨_,hn,_⟩:=I.loc;hn.lt
theorem Inv.sz (I:Inv X pins σ H s):X.s₀.heap.objs.size<=s.heap.objs.size:=ZN I.ok.above (Z4 I.lt)
theorem Inv.Kl (I:Inv X pins σ H s) {a:Addr} (h:s.heap.objs.size<=a):a∉X.fs:=fun hb=>by
 obtain ⟨_,o,ho,_⟩:=I.ok.oY.mem hb
 exact absurd (ZJ (ZA ho) (ZN I.sz h)) (Z5 _)
theorem Inv.Km (I:Inv X pins σ H s): ∀x c,X.env.cells.lookup x=some c->c≠X.env.locals:=fun x c e z=>by
 obtain ⟨v,o,ho,hd⟩:=I.cell x c e
 obtain ⟨m,⟨o',es,ep,DB,Sl,_⟩,_⟩:=I.loc
 rw[z,DB]at ho;cases ho;rw[Sl]at hd;cases hd
theorem Inv.oY (I:Inv X pins σ H s):s.heap.FunFrames X.base X.outer:=by
 have all: ∀(l:List Env),(∀b∈Aw l,b∈X.fs)->X.s₀.heap.FunFrames X.base l->s.heap.FunFrames X.base l:=by
  intro l
  induction l with
  | nil=>intro _ _;trivial
  | cons env r ih=>
   intro hs hl
   obtain ⟨hk,⟨L,o,hf,hn,ho,hd⟩,hr⟩:=hl
   have hL:L∈X.fs:=hs L (by unfold Aw;rw[Qdm,hf];exact Zv)
   obtain ⟨sl,e⟩:=I.base.slot L o ho (I.ok.Kk L hL) hL fun z=>I.ok.G9 L z hL
   exact ⟨hk,⟨L,_,hf,hn,e,hd⟩,ih (fun b hb=>hs b (by unfold Aw;rw[Qdm,hf];exact Zs _ hb)) hr⟩
 exact all X.outer (fun _ hb=>hb) I.ok.oY
theorem Inv.stack (I:Inv X pins σ H s):s.heap.FunFrames X.base X.stack:=by
 rcases I.ok.Q5 with e | ⟨e,hf⟩
 ·rw[e];exact I.oY
 ·rw[e]
  obtain ⟨m,hn,_⟩:=I.loc
  refine .cons (by rw[I.ok.kind];decide) hf hn ?_ I.oY
  exact Heap.get?_none_of_le (ZN I.ok.G8 I.ok.above)
theorem Inv.qm (I:Inv X pins σ H s): ∀b∈Aw X.stack,b∈X.env.locals::X.fs:=fun b hb=>by
 rcases I.ok.Q5 with e | ⟨e,hf⟩
 ·rw[e]at hb;exact Zs _ hb
 ·rw[e]at hb
  unfold Aw at hb
  rw[Qdm,hf]at hb
  exact hb
theorem Inv.Ax (I:Inv X pins σ H s): ∀b∈Aw X.stack,H b=none:=fun b hb=>by
 rcases Zt.mp (I.qm b hb) with e | hb
 ·rw[e];exact I.free
 ·obtain ⟨_,o,ho,_⟩:=I.ok.oY.mem hb
  exact I.base.free b o ho (I.ok.Kk b hb) fun z=>I.ok.G9 b z hb
theorem Inv.step {g':Array GenState} {t':Nat} {d':Drawn} {ch:List Addr} (I:Inv X pins σ H s)
  (GH: ∀b∈ch,(b∈X.ex\/X.s₀.heap.objs.size<=b)/\b≠X.env.locals/\(∀x c,X.env.cells.lookup x=some c->c≠b)/\ ∀p∈X.pn++pins,p.1≠b)
  (keep: ∀b o,b≠X.env.locals->b∉X.fs->b∉ch->s.heap.get? b=some o->H b=none->h'.get? b=some o)
  (slot: ∀b o,b≠X.env.locals->b∈X.fs->b∉ch->s.heap.get? b=some o->H b=none-> ∃sl,h'.get? b=some { o with slots:=sl }) (free: ∀b o,b∉ch->s.heap.get? b=some o->H b=none->H' b=none)
  (there: ∀b o,b∉ch->s.heap.get? b=some o-> ∃o',h'.get? b=some o')
  (nC: ∀b xs,H b=some (.tup xs)->H' b=some (.tup xs)) (ql: ∀b o u,H b=some (.GF o u)->H' b=some (.GF o u)) (uL: ∀b ps,H b=some (.Ki ps)-> ∃more,H' b=some (.Ki (ps++more)))
  (ns: ∀m,s.heap.Ns X.env.locals m->h'.Ns X.env.locals m) (bX:kX X.prog X.w H' h') (hg:AllBare g'):
  Inv X pins σ H' { s with heap:=h',gens:=g',drawn:=d',toks:=t' }:=by
 have UQ: ∀b o,X.s₀.heap.get? b=some o->b≠X.env.locals:=fun b o e=>ZE (ZJ (ZA e) I.ok.above)
 have Kn: ∀b o,X.s₀.heap.get? b=some o->b∉X.ex->b∉ch:=fun b o e hx hb=>by
  rcases (GH b hb).1 with z | z
  ·exact hx z
  ·exact absurd (ZJ (ZA e) z) (Z5 _)
 have cellK: ∀x c,X.env.cells.lookup x=some c-> ∀v,s.heap.IsCell c v->h'.IsCell c v:=fun x c e v ⟨o,ho,hd⟩=>by
  have OF:c∉ch:=fun z=>(GH c z).2.2.1 x c e rfl
  by_cases hc:c∈X.fs
  ·obtain ⟨sl,q⟩:=slot c o (I.Km x c e) hc OF ho (I.jl x c e)
   exact ⟨_,q,hd⟩
  ·exact ⟨o,keep c o (I.Km x c e) hc OF ho (I.jl x c e),hd⟩
 refine ⟨I.ok,I.os,hg,⟨fun b o e n hb hx=>?_,fun b o e n hb hx=>?_,fun b o e n hx=>?_,fun b o e hx=>?_,fun b xs e=>nC b xs (I.base.nC b xs e),fun b o xs e=>ql b o xs (I.base.ql b o xs e),fun b ps e=>?_⟩,?_,fun x c e=>?_,?_,fun x c e=>?_,fun p hp=>?_,bX,I.len⟩
 ·exact keep b o (UQ b o e) hb (Kn b o e hx) (I.base.keep b o e n hb hx) (I.base.free b o e n hx)
 ·obtain ⟨sl,e1⟩:=I.base.slot b o e n hb hx
  obtain ⟨Ws,e2⟩:=slot b _ (UQ b o e) hb (Kn b o e hx) e1 (I.base.free b o e n hx)
  exact ⟨Ws,e2⟩
 ·obtain ⟨o',e1⟩:=I.base.there b o e hx
  exact free b o' (Kn b o e hx) e1 (I.base.free b o e n hx)
 ·obtain ⟨o',e1⟩:=I.base.there b o e hx
  exact there b o' (Kn b o e hx) e1
 ·obtain ⟨m1,e1⟩:=I.base.uL b ps e
  obtain ⟨m2,e2⟩:=uL b _ e1
  exact ⟨m1++m2,by rw[e2,Array.append_assoc]⟩
 ·obtain ⟨m,hn,hl⟩:=I.loc
  refine ⟨m,ns m hn,fun i x v e1 e2 e3=>?_⟩
  obtain ⟨u,r,l⟩:=hl i x v e1 e2 e3
  refine ⟨u,r,?_⟩
  rcases l with l | ⟨k,c,e,z⟩
  ·exact .inl l
  ·exact .inr ⟨k,c,e,cellK x c e _ z⟩
 ·obtain ⟨v,z⟩:=I.cell x c e
  exact ⟨v,cellK x c e v z⟩
 ·obtain ⟨m,⟨o,_,_,ho,_⟩,_⟩:=I.loc
  exact free _ o (fun z=>(GH _ z).2.1 rfl) ho I.free
 ·obtain ⟨v,o,ho,hd⟩:=I.cell x c e
  exact free c o (fun z=>(GH c z).2.2.1 x c e rfl) ho (I.jl x c e)
 ·obtain ⟨e,n,ne,nf,d⟩:=I.pin p hp
  have OF:p.1∉ch:=fun z=>(GH p.1 z).2.2.2 p hp rfl
  exact ⟨keep p.1 p.2 ne nf OF e n,free p.1 p.2 OF e n,ne,nf,d⟩
theorem Inv.un {t':Nat} (I:Inv X pins σ H s) (u:Un X.fs [] H H' s.heap h') (bX:kX X.prog X.w H' h'):Inv X pins σ H' { s with heap:=h',toks:=t' }:=by
 obtain ⟨m,⟨o,es,ep,ho,r⟩,_⟩:=id I.loc
 obtain ⟨sl,hL⟩:=u.any ho I.free (by simp)
 exact I.step (g':=s.gens) (d':=s.drawn) (ch:=[]) (fun _ z=>nomatch z) (fun b o _ hb _ e n=>u.keep b o e n hb (by simp)) (fun b o _ hb _ e n=>u.slot b o e n hb (by simp)) (fun b o _ e n=>u.free b o e n (by simp)) (fun b o _ e=>u.there b o e (by simp)) u.nC u.ql u.uL (fun m' hm=>by
  obtain ⟨o',Sm,OG,DB,r'⟩:=hm
  rw[ho]at DB;cases DB
  exact ⟨_,Sm,OG,hL,r'⟩) bX I.bare
theorem Inv.call {g':Array GenState} {t':Nat} {d':Drawn} {ch:List Addr} (I:Inv X pins σ H s) (u:Un (Aw X.stack) ch H H' s.heap h') (bX:kX X.prog X.w H' h') (hg:AllBare g')
  (GH: ∀b∈ch,(b∈X.ex\/X.s₀.heap.objs.size<=b)/\b≠X.env.locals/\(∀x c,X.env.cells.lookup x=some c->c≠b)/\ ∀p∈X.pn++pins,p.1≠b):
  Inv X pins σ H' { s with heap:=h',gens:=g',drawn:=d',toks:=t' }:=by
 obtain ⟨m,⟨o,es,ep,ho,r⟩,_⟩:=id I.loc
 obtain ⟨sl,hL⟩:=u.any ho I.free fun z=>(GH _ z).2.1 rfl
 exact I.step (ch:=ch) GH (fun b o hL hb hc e n=>u.keep b o e n (fun z=>(Zt.mp (I.qm b z)).elim hL hb) hc) (fun b o _ _ hc e n=>u.any e n hc) (fun b o hc e n=>u.free b o e n hc) (fun b o hc e=>u.there b o e hc) u.nC u.ql u.uL (fun m' hm=>by
  obtain ⟨o',Sm,OG,DB,r'⟩:=hm
  rw[ho]at DB;cases DB
  exact ⟨_,Sm,OG,hL,r'⟩) bX hg
theorem Inv.turned {t':Nat} {it:Addr} (I:Inv X pins σ H s) (k: ∀b o,b≠it->s.heap.get? b=some o->h'.get? b=some o) (hn:H it=none) (hL:it≠X.env.locals)
  (h1:it∈X.ex\/X.s₀.heap.objs.size<=it) (h2: ∀x c,X.env.cells.lookup x=some c->c≠it) (h3: ∀p∈X.pn++pins,p.1≠it):Inv X pins σ H { s with heap:=h',toks:=t' }:=by
 have Jw: ∀b u,H b=some u->b≠it:=fun b u e z=>by rw[z,hn]at e;cases e
 refine I.step (g':=s.gens) (d':=s.drawn) (ch:=[it]) (fun b hb=>?_) (fun b o _ _ hc e _=>k b o (fun z=>hc (by simp[z])) e) (fun b o _ _ hc e _=>⟨o.slots,k b o (fun z=>hc (by simp[z])) e⟩) (fun _ _ _ _ n=>n)
  (fun b o hc e=>⟨o,k b o (fun z=>hc (by simp[z])) e⟩) (fun _ _ e=>e) (fun _ _ _ e=>e) (fun b ps e=>⟨#[],by rw[e];simp⟩) (fun m hm=>?_) (fun b u e=>?_) I.bare
 ·have e:b=it:=by simpa using hb
  subst e
  exact ⟨h1,hL,h2,h3⟩
 ·obtain ⟨o,es,ep,ho,r⟩:=hm
  exact ⟨o,es,ep,k _ o (Ne.symm hL) ho,r⟩
 ·refine (I.bX b u e).wY (fun c v hc q=>k c v ?_ q) (fun _ q=>q) fun _ _ q=>q
  rcases hc with z | z
  ·rw[z];exact Jw b u e
  ·exact Jw c _ z
theorem Inv.tok (I:Inv X pins σ H s) (t:Nat):Inv X pins σ H { s with toks:=t }:=I.un (h':=s.heap) (t':=t) Un.refl I.bX
theorem Inv.kept {t':Nat} (I:Inv X pins σ H s) (k: ∀b u,s.heap.get? b=some u->h'.get? b=some u):Inv X pins σ H { s with heap:=h',toks:=t' }:=I.un (Un.kept k) (I.bX.kept k)
theorem Inv.laid {a:Addr} {o:HO} {t':Nat} (I:Inv X pins σ H s) (k: ∀b u,s.heap.get? b=some u->h'.get? b=some u) (hp:s.heap.objs.size<=a) (new:cU X.prog X.w (upd H a o) h' a o):
  Inv X pins σ (upd H a o) { s with heap:=h',toks:=t' }:=I.un (Un.laid k hp (I.bX.fresh hp)) (I.bX.laid k hp new)
theorem Inv.write {x e:Addr} {o:HO} {t':Nat} (I:Inv X pins σ H s) (mu:OB (H x)) (he:e=x\/H e=some (.own x)) (k: ∀b u,b≠e->s.heap.get? b=some u->h'.get? b=some u) (MJ: ∃u,h'.get? e=some u)
  (new:cU X.prog X.w (upd H x o) h' x o):Inv X pins σ (upd H x o) { s with heap:=h',toks:=t' }:=I.un (Un.write mu he k MJ) (I.bX.write mu he k MJ new)
theorem Inv.weak {σ':List (Option V)} (I:Inv X pins σ H s) (hl:σ'.length=σ.length) (w: ∀(i:Nat) v,σ'[i]? =some (some v)->σ[i]? =some (some v)):Inv X pins σ' H s:=
 ⟨I.ok,I.os,I.bare,I.base,let ⟨m,hn,Ay⟩:=I.loc;⟨m,hn,fun i x v e1 e2 e3=>Ay i x v e1 (w i v e2) e3⟩,I.cell,I.free,I.jl,I.pin,I.bX,hl.trans I.len⟩
theorem Inv.lV {Az:List (Addr×Obj)} (I:Inv X pins σ H s) (h: ∀p∈Az,s.heap.get? p.1=some p.2/\H p.1=none/\p.1≠X.env.locals/\p.1∉X.fs/\ ∀v,p.2.data≠ .cell v):Inv X Az σ H s:=
 ⟨I.ok,I.os,I.bare,I.base,I.loc,I.cell,I.free,I.jl,fun p hp=>(Zx.mp hp).elim (fun z=>I.pin p (Qbp _ z)) (h p),I.bX,I.len⟩
theorem wZ {N:List Str} (hN:N.Nodup) {i j:Nat} {x:Str} (a:N[i]? =some x) (b:N[j]? =some x):i=j:=by
 obtain ⟨h1,e1⟩:=K4.mp a
 obtain ⟨h2,e2⟩:=K4.mp b
 exact (List.getElem_inj hN).mp (e1.trans e2.symm)
theorem BY {M:Model} {A:Around} {E:Value->Shared->Prop} {i:Nat} {x:Str} {v:V} {u:Value} {Q:Unit->Shared->Prop} (I:Inv X pins σ H s) (hN:X.N.Nodup) (hi:X.N[i]? =some x) (hx:Loc X.env.scope x) (r:RelV v u)
  (h: ∀s',Inv X pins (σ.set i (some v)) H s'->(∃a,Heap.SameBut a s.heap s'.heap/\(a=X.env.locals\/X.env.cells.lookup x=some a))->Q () s') (hf:X.fn x=true\/X.env.scope.names.lookup x=some .local:=by first | exact .inl rfl | exact .inr rfl | assumption):wpAny M A (storeName X.env x u) Q E s:=by
 obtain ⟨m,hn,hl⟩:=id I.loc
 have So:(X.env.scope.kind== .class||(X.env.scope.kind== .module&&X.env.locals != X.env.globals))=false:=by rw[I.ok.kind];rfl
 have UR:i<σ.length:=by rw[I.len];exact (K4.mp hi).1
 have Km:=I.Km
 have tracked: ∀{a:Addr} {h':Heap},(∃o,s.heap.get? a=some o/\H a=none)->Heap.SameBut a s.heap h'->kX X.prog X.w H h':=fun {a h'} ha hs b ob e=>by
  obtain ⟨_,_,Jx⟩:=ha
  refine (I.bX b ob e).wY (fun c w' hc q=>(hs.2 c ?_).trans q) (fun _ q=>q) fun _ _ q=>q
  rintro rfl
  rcases hc with rfl | hc
  ·rw[Jx]at e;cases e
  ·rw[Jx]at hc;cases hc
 rcases hx with hk | hk
 ·refine wpAny_storeName_local hk hn (fun h' Q6 hs=>?_) So
  obtain ⟨oL,_,_,G_,_⟩:=id hn
  refine h _ ⟨I.ok,I.os,I.bare,⟨fun b o e n hb hx=>?_,fun b o e n hb hx=>?_,I.base.free,fun b o e hx=>?_,I.base.nC,I.base.ql,I.base.uL⟩,⟨_,Q6,fun j y v' e1 e2 e3=>?_⟩,fun y c e=>?_,I.free,I.jl,fun p hp=>?_,tracked ⟨oL,G_,I.free⟩ hs,by simpa using I.len⟩ ⟨_,hs, .inl rfl⟩
  ·exact (hs.2 b (ZE (ZJ (ZA e) I.ok.above))).trans (I.base.keep b o e n hb hx)
  ·obtain ⟨sl,e1⟩:=I.base.slot b o e n hb hx
   exact ⟨sl,(hs.2 b (ZE (ZJ (ZA e) I.ok.above))).trans e1⟩
  ·obtain ⟨o',e1⟩:=I.base.there b o e hx
   exact ⟨o',(hs.2 b (ZE (ZJ (ZA e) I.ok.above))).trans e1⟩
  ·by_cases hj:j=i
   ·subst hj
    rw[hi]at e1;cases e1
    rw[List.getElem?_set_self UR]at e2
    cases e2
    exact ⟨u,r, .inl ⟨hk,by simp⟩⟩
   ·rw[List.getElem?_set_ne (Ne.symm hj)]at e2
    obtain ⟨u',r',q⟩:=hl j y v' e1 e2 e3
    refine ⟨u',r',?_⟩
    rcases q with ⟨k,e⟩ | ⟨k,c,e,z⟩
    ·refine .inl ⟨k,?_⟩
     have:y≠x:=fun e=>hj (wZ hN e1 (e▸hi))
     simp[this,e]
    ·exact .inr ⟨k,c,e,z.sameBut hs (Km y c e)⟩
  ·obtain ⟨w',z⟩:=I.cell y c e
   exact ⟨w',z.sameBut hs (Km y c e)⟩
  ·obtain ⟨e,n,ne,nf,d⟩:=I.pin p hp
   exact ⟨(hs.2 p.1 ne).trans e,n,ne,nf,d⟩
 ·have Sq:X.fn x=true:=by
   rcases hf with z | z
   ·exact z
   ·rw[z]at hk;cases hk
  obtain ⟨c,hc⟩:=I.ok.has x (.inl hk)
  obtain ⟨w',z⟩:=I.cell x c hc
  refine wpAny_storeName_cell I.ok.kind hk hc z (fun h' si hs=>?_)
  obtain ⟨oc,US,Sr⟩:=id z
  refine h { s with heap:=h' } ⟨I.ok,I.os,I.bare,⟨fun b o e n hb hx=>?_,fun b o e n hb hx=>?_,I.base.free,fun b o e hx=>?_,I.base.nC,I.base.ql,I.base.uL⟩,⟨m,hn.sameBut hs (Ne.symm (Km x c hc)),fun j y v' e1 e2 e3=>?_⟩,fun y c' e=>?_,I.free,I.jl,fun p hp=>?_,tracked ⟨oc,US,I.jl x c hc⟩ hs,by simpa using I.len⟩ ⟨c,hs, .inr hc⟩
  ·exact (hs.2 b (ZE (ZJ (ZA e) (I.ok.OE x c Sq hc)))).trans (I.base.keep b o e n hb hx)
  ·obtain ⟨sl,e1⟩:=I.base.slot b o e n hb hx
   exact ⟨sl,(hs.2 b (ZE (ZJ (ZA e) (I.ok.OE x c Sq hc)))).trans e1⟩
  ·obtain ⟨o',e1⟩:=I.base.there b o e hx
   exact ⟨o',(hs.2 b (ZE (ZJ (ZA e) (I.ok.OE x c Sq hc)))).trans e1⟩
  ·by_cases hj:j=i
   ·subst hj
    rw[hi]at e1;cases e1
    rw[List.getElem?_set_self UR]at e2
    cases e2
    exact ⟨u,r, .inr ⟨.inl hk,c,hc,si⟩⟩
   ·rw[List.getElem?_set_ne (Ne.symm hj)]at e2
    obtain ⟨u',r',q⟩:=hl j y v' e1 e2 e3
    refine ⟨u',r',?_⟩
    rcases q with q | ⟨k,c',e,z'⟩
    ·exact .inl q
    ·refine .inr ⟨k,c',e,z'.sameBut hs ?_⟩
     rintro rfl
     exact hj (wZ hN e1 (I.ok.inj _ _ _ e hc▸hi))
  ·by_cases ML:c'=c
   ·subst ML;exact ⟨_,si⟩
   ·obtain ⟨w2,z2⟩:=I.cell y c' e
    exact ⟨w2,z2.sameBut hs ML⟩
  ·obtain ⟨e,n,ne,nf,d⟩:=I.pin p hp
   refine ⟨(hs.2 p.1 ?_).trans e,n,ne,nf,d⟩
   intro q
   rw[q,US]at e
   have q':oc=p.2:=Zy e
   exact d w' (by rw[<-q'];exact Sr)
theorem lW {M:Model} {A:Around} {E:Value->Shared->Prop} {i:Nat} {x:Str} {v:V} {u:Value} {Q:Unit->Shared->Prop} (I:Inv X pins σ H s) (hN:X.N.Nodup) (hi:X.N[i]? =some x) (hx:Loc X.env.scope x) (r:RelV v u)
  (h: ∀s',Inv X pins (σ.set i (some v)) H s'->Q () s') (hf:X.fn x=true\/X.env.scope.names.lookup x=some .local:=by first | exact .inl rfl | exact .inr rfl | assumption):wpAny M A (storeName X.env x u) Q E s:=
 BY I hN hi hx r (fun s' I' _=>h s' I') hf
theorem Inv.OH {s':Shared} {ch:List Addr} (I:Inv X pins σ H s) (ho:s'.os=s.os) (u:Un (Aw X.stack) ch H H' s.heap s'.heap) (bX:kX X.prog X.w H' s'.heap) (hg:AllBare s'.gens)
  (GH: ∀b∈ch,(b∈X.ex\/X.s₀.heap.objs.size<=b)/\b≠X.env.locals/\(∀x c,X.env.cells.lookup x=some c->c≠b)/\ ∀p∈X.pn++pins,p.1≠b):Inv X pins σ H' s':=by
 obtain ⟨h',g',d',t',o'⟩:=s'
 have e:o'=s.os:=ho
 subst e
 exact I.call (g':=g') (t':=t') (d':=d') u bX hg GH
end
abbrev XK:=Value->Option Addr->Hp->Prop
abbrev St:=List (Option V)
abbrev VK:=V->Hp->Prop
abbrev TE:=St->Hp->VK->Prop
abbrev TT:=St->Hp->(Bool->Hp->Prop)->Prop
abbrev TA:=St->Hp->(List V->Hp->Prop)->Prop
structure Ends where
 nx:St->Hp->Prop
 rt:VK
 bk:St->Hp->Prop:=fun _ _=>False
 ct:St->Hp->Prop:=fun _ _=>False
abbrev TS:=Ends->St->Hp->Prop
def EP (X:Cx) (pins:List (Addr×Obj)) (σ:St) (Q:VK) (u:Value) (s':Shared):Prop:= ∃v H',Inv X pins σ H' s'/\RelV v u/\Q v H'
def TP (X:Cx) (pins:List (Addr×Obj)) (σ:St) (Q:Bool->Hp->Prop) (b:Bool) (s':Shared):Prop:= ∃H',Inv X pins σ H' s'/\Q b H'
def AP (X:Cx) (pins:List (Addr×Obj)) (σ:St) (Q:List V->Hp->Prop) (us:List Value) (s':Shared):Prop:= ∃vs H',Inv X pins σ H' s'/\Vals vs us/\Q vs H'
def SP (X:Cx) (pins:List (Addr×Obj)) (D:Ends) (f:Flow) (s':Shared):Prop:=
 match f with
 | .next=> ∃σ' H',Inv X pins σ' H' s'/\D.nx σ' H'
 | .brk=> ∃σ' H',Inv X pins σ' H' s'/\D.bk σ' H'
 | .cont=> ∃σ' H',Inv X pins σ' H' s'/\D.ct σ' H'
 | .ret u=> ∃v σ' H',Inv X pins σ' H' s'/\RelV v u/\D.rt v H'
def PE (X:Cx) (e:Expr) (t:TE):Prop:=
 ∀(pins:List (Addr×Obj)) (s:Shared) (σ:St) (H:Hp) (Q:VK),Inv X pins σ H s->t σ H Q->wpAny (model X.prog X.w) X.A (eval e X.env) (EP X pins σ Q) X.xe s
def PT (X:Cx) (e:Expr) (t:TT):Prop:=
 ∀(pins:List (Addr×Obj)) (s:Shared) (σ:St) (H:Hp) (Q:Bool->Hp->Prop),Inv X pins σ H s->t σ H Q->wpAny (model X.prog X.w) X.A (isTrue e X.env (eval e X.env)) (TP X pins σ Q) X.xe s
def PW (X:Cx) (e:Expr) (t:TT):Prop:=
 ∀(whole:Sem Value) (pins:List (Addr×Obj)) (s:Shared) (σ:St) (H:Hp) (Q:Bool->Hp->Prop),Inv X pins σ H s->t σ H Q->wpAny (model X.prog X.w) X.A (isTrue e X.env whole) (TP X pins σ Q) X.xe s
theorem PW.pt {X:Cx} {e:Expr} {t:TT} (h:PW X e t):PT X e t:=h _
def PA (X:Cx) (es:List Expr) (t:TA):Prop:=
 ∀(pos:Pos) (pins:List (Addr×Obj)) (s:Shared) (σ:St) (H:Hp) (Q:List V->Hp->Prop),Inv X pins σ H s->t σ H Q->wpAny (model X.prog X.w) X.A (spliced (backTo pos (starEach es X.env))) (AP X pins σ Q) X.xe s
def PS (X:Cx) (st:Stmt) (t:TS):Prop:=
 ∀(pins:List (Addr×Obj)) (s:Shared) (σ:St) (H:Hp) (D:Ends),Inv X pins σ H s->t D σ H->wpAny (model X.prog X.w) X.A (exec st X.env) (SP X pins D) X.xe s
def yU (X:Cx) (st:List Stmt) (t:TS):Prop:=
 ∀(pins:List (Addr×Obj)) (s:Shared) (σ:St) (H:Hp) (D:Ends),Inv X pins σ H s->t D σ H->wpAny (model X.prog X.w) X.A (execs st X.env) (SP X pins D) X.xe s
theorem b8 {α:Type} {t:Sem α} {Q Q':α->Shared->Prop} {M:Model} {A:Around} {E:Value->Shared->Prop} {s:Shared} (h:wpAny M A t Q E s) (hQ: ∀a s,Q a s->Q' a s):wpAny M A t Q' E s:=wpAny_mono h hQ fun _ _ x=>x
section
variable {X:Cx}
def Ko (i:Nat):TE:=fun σ H Q=> ∃v,σ[i]? =some (some v)/\Q v H
def tC (v:V):TE:=fun _ H Q=>Q v H
theorem Kp {i:Nat} {x:Str} {pos:Pos} (hN:X.N[i]? =some x) (hv:OD X.env.scope x) (hd:(x==("__debug__":Str))=false:=by decide) (iB:(x==("__classdict__":Str))=false:=by decide):PE X (.Name x pos) (Ko i):=by
 intro pins s σ H Q I h
 obtain ⟨v,e,h⟩:=h
 obtain ⟨m,hn,hl⟩:=I.loc
 obtain ⟨u,r,l⟩:=hl i x v hN e hv
 have fin:EP X pins σ Q u s:=⟨v,H,I,r,h⟩
 rcases l with ⟨hk,hm⟩ | ⟨hk,c,hc,g9⟩
 ·exact wpAny_Name (wpAny_loadName_local I.ok.kind hk hn hm fin) hd
 ·rcases hk with hk | hk
  ·exact wpAny_Name (wpAny_loadName_cell I.ok.kind hk hc g9 fin) hd
  ·exact wpAny_Name (wpAny_loadName_free I.ok.kind hk hc g9 fin iB) hd
theorem ah {i j pos}:PE X (.Constant (.int i) j pos) (tC (.int i)):=fun _ _ _ H _ I h=>wpAny_Constant_int ⟨.int i,H,I.tok _,⟨_,rfl⟩,h⟩
theorem AA {b j pos}:PE X (.Constant (.bool b) j pos) (tC (.bl b)):=fun _ _ _ H _ I h=>Constant_bool ⟨.bl b,H,I,rfl,h⟩
theorem Kq {x j pos}:PE X (.Constant (.str x) j pos) (tC (.str x)):=fun _ _ _ H _ I h=>Calls.Constant_str ⟨.str x,H,I.tok _,⟨_,rfl⟩,h⟩
def Gl (X:Cx) (x:Str):Prop:=X.env.kindOf x=some .globalImplicit
theorem uN {E:Value->Shared->Prop} {pins:List (Addr×Obj)} {s:Shared} {σ:St} {H:Hp} {x:Str} {u:Value} {pos:Pos} {Q:Value->Shared->Prop} (I:Inv X pins σ H s) (hg:Gl X x) (hm:X.mg x=some u) (h:Q u s)
  (hd:(x==("__debug__":Str))=false:=by decide):wpAny (model X.prog X.w) X.A (eval (.Name x pos) X.env) Q E s:=
 Calls.Name_function_global I.ok.kind hg (Calls.loadGlobal_global (by rw[I.ok.glob];exact I.mod.glob.keeps I.bk) hm h) hd
theorem iE {E:Value->Shared->Prop} {pins:List (Addr×Obj)} {s:Shared} {σ:St} {H:Hp} {x:Str} {u:Value} {pos:Pos} {Q:Value->Shared->Prop} (I:Inv X pins σ H s) (hg:Gl X x) (hm:X.mg x=none) (hv:bootBuiltins x=some u) (h:Q u s)
  (hn:x≠"__name__":=by decide) (hd:(x==("__debug__":Str))=false:=by decide):wpAny (model X.prog X.w) X.A (eval (.Name x pos) X.env) Q E s:=by
 obtain ⟨mb,h1,h2⟩:=I.mod.blt
 exact Calls.Name_function_global I.ok.kind hg (Calls.loadGlobal_builtin (by rw[I.ok.glob];exact I.mod.glob.keeps I.bk) hm (by rw[I.ok.blt];exact h1.keeps I.bk) ((h2 x hn).trans hv) h) hd
theorem AB {x:Str} {v:V} {u:Value} {pos:Pos} (hg:Gl X x) (hm:X.mg x=some u) (r:RelV v u) (hd:(x==("__debug__":Str))=false:=by decide):PE X (.Name x pos) (tC v):=
 fun _ _ _ H _ I h=>uN I hg hm ⟨v,H,I,r,h⟩ hd
variable {a b:Expr} {ta tb:TE} {pos:Pos}
def tB (t:TE):TT:=fun σ H Q=>t σ H fun x H1=> ∃c,x= .bl c/\Q c H1
theorem iF {e:Expr} {t:TE} (h:PE X e t) (he: ∀whole,isTrue e X.env whole=(do let v <-whole;standAt e.pos;holding [v] (truthy v)):=by intro _;rfl):PT X e (tB t):=by
 intro pins s σ H Q I hw
 refine isTrue_plain (b8 (h pins s σ H _ I hw) fun v s1 ⟨x,H1,I1,r1,q1⟩=>?_) (he _)
 obtain ⟨d,rfl,q⟩:=q1
 cases r1
 exact wpAny_truthy_bool ⟨H1,I1,q⟩
variable {tA Q7:TT} {rest:List Expr}
def Ss (t u:TT):TT:=fun σ H Q=>t σ H fun c H1=>if c=true then u σ H1 Q else Q false H1
def Wt (t u:TT):TT:=fun σ H Q=>t σ H fun c H1=>if c=true then Q true H1 else u σ H1 Q
def Su (t:TT):TT:=fun σ H Q=>t σ H fun c H1=>Q (!c) H1
theorem iG (ha:PT X a tA):PW X (.BoolOp .And [a] pos) tA:=by
 intro wh pins s σ H Q I h
 refine isTrue_and (b8 (ha pins s σ H Q I h) fun c s1 e=>?_)
 cases c with
 | true=>exact isTrue_and_nil e
 | false=>exact e
theorem qp (ha:PT X a tA):PW X (.BoolOp .Or [a] pos) tA:=by
 intro wh pins s σ H Q I h
 refine isTrue_or (b8 (ha pins s σ H Q I h) fun c s1 e=>?_)
 cases c with
 | false=>exact isTrue_or_nil e
 | true=>exact e
theorem jm (ha:PT X a tA) (hb:PW X (.BoolOp .And (b::rest) pos) Q7):PW X (.BoolOp .And (a::b::rest) pos) (Ss tA Q7):=by
 intro wh pins s σ H Q I h
 refine isTrue_and (b8 (ha pins s σ H _ I h) fun c s1 ⟨H1,I1,q1⟩=>?_)
 cases c with
 | true=>exact hb wh pins s1 σ H1 Q I1 q1
 | false=>exact ⟨H1,I1,q1⟩
theorem w4 (ha:PT X a tA) (hb:PW X (.BoolOp .Or (b::rest) pos) Q7):PW X (.BoolOp .Or (a::b::rest) pos) (Wt tA Q7):=by
 intro wh pins s σ H Q I h
 refine isTrue_or (b8 (ha pins s σ H _ I h) fun c s1 ⟨H1,I1,q1⟩=>?_)
 cases c with
 | true=>exact ⟨H1,I1,q1⟩
 | false=>exact hb wh pins s1 σ H1 Q I1 q1
theorem Kr (ha:PT X a tA):PT X (.UnaryOp .Not a pos) (Su tA):=by
 intro pins s σ H Q I h
 exact isTrue_not (ha pins s σ H (fun c H1=>Q (!c) H1) I h)
def Wu (t:TT) (ta tb:TE):TE:=fun σ H Q=>t σ H fun c H1=>if c=true then ta σ H1 Q else tb σ H1 Q
theorem DC {c:Expr} (hc:PT X c tA) (ha:PE X a ta) (hb:PE X b tb):PE X (.IfExp c a b pos) (Wu tA ta tb):=by
 intro pins s σ H Q I h
 refine wpAny_IfExp (b8 (hc pins s σ H _ I h) fun d s1 ⟨H1,I1,q1⟩=>?_)
 cases d with
 | true=>exact ha pins s1 σ H1 Q I1 q1
 | false=>exact hb pins s1 σ H1 Q I1 q1
end
def bu (K:PySem.W.Frag) (H:Hp) (a:Addr) (xs:List V):Prop:=
 Rd H a (.lst xs)\/
  ∃(o:Obj) (aJ:Array Value) (n:Nat),K.lookup a=some o/\o.cls= .type "list"/\o.dict=none/\o.data= .seq aJ n/\aJ.size<=sizeLine/\Vals xs aJ.toList
def aX (K:PySem.W.Frag) (H:Hp) (a:Addr) (xs:List V):Prop:=
 Rd H a (.tup xs)\/
  ∃(o:Obj) (aJ:Array Value) (n:Nat),K.lookup a=some o/\o.cls= .type "tuple"/\o.data= .seq aJ n/\aJ.size<=sizeLine/\Vals xs aJ.toList
noncomputable def Sv:Value->Option V
 | .none=>some .f_
 | .bool b=>some (.bl b)
 | .int i _=>some (.int i)
 | .str x _=>some (.str x)
 | .bytes b _=>some (.Av b)
 | .float b _=>some (.Q0 b)
 | .ref a=>some (.ref a)
 | .type n=>some (.ty n)
 | _=>none
theorem RelV.abs {x:V} {u:Value} (r:RelV x u):Sv u=some x:=by
 cases x with
 | f_=>cases r;rfl
 | bl _=>cases r;rfl
 | int _=>obtain ⟨t,rfl⟩:=r;rfl
 | str _=>obtain ⟨t,rfl⟩:=r;rfl
 | Av _=>obtain ⟨t,rfl⟩:=r;rfl
 | Q0 _=>obtain ⟨t,rfl⟩:=r;rfl
 | ref _=>cases r;rfl
 | ty _=>cases r;rfl
theorem RelV.inj {x y:V} {u:Value} (r:RelV x u) (q:RelV y u):x=y:=Zy (r.abs.symm.trans q.abs)
theorem Vals.inj: ∀{xs ys:List V} {us:List Value},Vals xs us->Vals ys us->xs=ys
 | _,_,_, .nil, .nil=>rfl
 | _,_,_, .cons r t, .cons r' t'=>by rw[r.inj r',Vals.inj t t']
section
variable {X:Cx} {pins:List (Addr×Obj)} {σ:St} {H:Hp} {s:Shared} {a:Addr} {xs ys:List V}
theorem bu.of {K:PySem.W.Frag} (h:H a=some (.lst xs)):bu K H a xs:= .inl (.inl h)
theorem aX.of {K:PySem.W.Frag} (h:H a=some (.tup xs)):aX K H a xs:= .inl (.inl h)
theorem Inv.list (I:Inv X pins σ H s) (h:bu X.K H a xs): ∃aJ:List Value,Vals xs aJ/\PlainL s.heap a aJ.toArray/\xs.length<=sizeLine:=by
 rcases h with h | ⟨o,aJ,n,hk,hc,hd,hs,hz,r⟩
 ·obtain ⟨z,aJ,n,r,e⟩:=h.ok I.bX
  exact ⟨aJ,r,⟨_,n,e,rfl,rfl,rfl⟩,z⟩
 ·refine ⟨aJ.toList,r,⟨o,n,I.BX a o hk,hc,hd,by simpa using hs⟩,?_⟩
  have e:=r.length
  simp only[Qck]at e
  omega
theorem Inv.tuple (I:Inv X pins σ H s) (h:aX X.K H a xs): ∃aJ:List Value,Vals xs aJ/\IsTup s.heap a aJ.toArray/\xs.length<=sizeLine:=by
 rcases h with h | ⟨o,aJ,n,hk,hc,hs,hz,r⟩
 ·obtain ⟨z,aJ,r,p⟩:=h.ok I.bX
  exact ⟨aJ,r,p,z⟩
 ·refine ⟨aJ.toList,r,⟨o,I.BX a o hk,hc,n,by simpa using hs⟩,?_⟩
  have e:=r.length
  simp only[Qck]at e
  omega
theorem Inv.w5 (I:Inv X pins σ H s) (h:bu X.K H a xs) (h':bu X.K H a ys):xs=ys:=by
 obtain ⟨aJ,r,⟨o,n,e,_,_,d⟩,_⟩:=I.list h
 obtain ⟨its',r',⟨o',n',e',_,_,d'⟩,_⟩:=I.list h'
 rw[e]at e';cases e'
 rw[d]at d'
 injection d' with d1 _
 have:aJ=its':=by simpa using congrArg Array.toList d1
 subst this
 exact r.inj r'
theorem Inv.sX (I:Inv X pins σ H s) (h:aX X.K H a xs) (h':aX X.K H a ys):xs=ys:=by
 obtain ⟨aJ,r,⟨o,e,_,n,d⟩,_⟩:=I.tuple h
 obtain ⟨its',r',⟨o',e',_,n',d'⟩,_⟩:=I.tuple h'
 rw[e]at e';cases e'
 rw[d]at d'
 injection d' with d1 _
 have:aJ=its':=by simpa using congrArg Array.toList d1
 subst this
 exact r.inj r'
end
noncomputable abbrev Cx.sj (X:Cx) (E:Value->Shared->Prop):Cx:={ X with xe:=E }
noncomputable abbrev Cx.Q8 (X:Cx):Cx:=X.sj fun _ _=>False
theorem Cx.Ok.sj {X:Cx} (ok:X.Ok) (E:Value->Shared->Prop):(X.sj E).Ok:=
 ⟨ok.mod,ok.kind,ok.glob,ok.blt,ok.above,ok.inj,ok.has,ok.OE,ok.hd,ok.frames,ok.Q5,ok.UP,ok.bs,ok.G8,ok.DA,ok.G9,ok.oY,ok.Kk⟩
theorem Cx.Ok.jn {X:Cx} {E:Value->Shared->Prop} (ok:(X.sj E).Ok):X.Ok:=
 ⟨ok.mod,ok.kind,ok.glob,ok.blt,ok.above,ok.inj,ok.has,ok.OE,ok.hd,ok.frames,ok.Q5,ok.UP,ok.bs,ok.G8,ok.DA,ok.G9,ok.oY,ok.Kk⟩
section
variable {X:Cx} {pins:List (Addr×Obj)} {σ:St} {H:Hp} {s:Shared} {E:Value->Shared->Prop}
theorem Inv.sj (I:Inv X pins σ H s) (E:Value->Shared->Prop):Inv (X.sj E) pins σ H s:=⟨I.ok.sj E,I.os,I.bare,I.base,I.loc,I.cell,I.free,I.jl,I.pin,I.bX,I.len⟩
theorem Inv.jn (I:Inv (X.sj E) pins σ H s):Inv X pins σ H s:=⟨I.ok.jn,I.os,I.bare,I.base,I.loc,I.cell,I.free,I.jl,I.pin,I.bX,I.len⟩
theorem SP.jn {D:Ends} {f:Flow} {s':Shared} (h:SP (X.sj E) pins D f s'):SP X pins D f s':=by
 cases f with
 | next=>obtain ⟨σ',H',I,q⟩:=h;exact ⟨σ',H',I.jn,q⟩
 | brk=>obtain ⟨σ',H',I,q⟩:=h;exact ⟨σ',H',I.jn,q⟩
 | cont=>obtain ⟨σ',H',I,q⟩:=h;exact ⟨σ',H',I.jn,q⟩
 | ret u=>obtain ⟨v,σ',H',I,r,q⟩:=h;exact ⟨v,σ',H',I.jn,r,q⟩
theorem yU.Q8 {st:List Stmt} {t:TS} (h:yU X.Q8 st t):yU X st t:=fun pins s σ H D I hw=>
 wpAny_mono (h pins s σ H D (I.sj _) hw) (fun _ _ q=>q.jn) fun _ _ z=>False.elim z
end
section
variable {X:Cx} {st:Stmt} {rest:List Stmt} {t u:TS} {e:Expr} {te:TE} {pos:Pos}
def OI:TS:=fun D σ H=>D.nx σ H
def Sw (t u:TS):TS:=fun D σ H=>t { D with nx:=u D } σ H
theorem a_:yU X [] OI:=fun _ _ σ H _ I h=>wpAny_execs_nil ⟨σ,H,I,h⟩
theorem ae (h1:PS X st t) (h2:yU X rest u):yU X (st::rest) (Sw t u):=by
 intro pins s σ H D I h
 refine wpAny_execs_cons (b8 (h1 pins s σ H { D with nx:=u D } I h) fun f s1 q=>?_)
 cases f with
 | next=>
  obtain ⟨σ',H',I',q⟩:=q
  exact h2 pins s1 σ' H' D I' q
 | ret v=>exact q
 | brk=>exact q
 | cont=>exact q
theorem ai (h1:PS X st t):yU X [st] t:=by
 intro pins s σ H D I h
 refine wpAny_execs_cons (b8 (h1 pins s σ H D I h) fun f s1 q=>?_)
 cases f with
 | next=>exact wpAny_execs_nil q
 | ret v=>exact q
 | brk=>exact q
 | cont=>exact q
theorem Inv.quiet {pins:List (Addr×Obj)} {σ:St} {H:Hp} {s:Shared} (I:Inv X pins σ H s):interactive X.env=false:=by simp[interactive,I.ok.kind]
def OJ (te:TE):TS:=fun D σ H=>te σ H fun _ H1=>D.nx σ H1
theorem b7 (he:PE X e te) (hs:swapsWith e none pos.line X.env=pure false:=by rfl):PS X (.Expr e pos) (OJ te):=by
 intro pins s σ H D I h
 exact wpAny_Expr_any (b8 (he pins s σ H _ I h) fun v s1 ⟨x,H1,I1,r1,q1⟩=>⟨σ,H1,I1,q1⟩) I.quiet hs
def Sx (te:TE):TS:=fun D σ H=>te σ H D.rt
theorem aF (he:PE X e te):PS X (.Return (some e) pos) (Sx te):=by
 intro pins s σ H D I h
 exact wpAny_Return_some (b8 (he pins s σ H _ I h) fun v s1 ⟨x,H1,I1,r1,q1⟩=>⟨x,σ,H1,I1,r1,q1⟩)
def Sy (c:TT) (t u:TS):TS:=fun D σ H=>c σ H fun b H1=>if b=true then t D σ H1 else u D σ H1
theorem bI {c:Expr} {a b:List Stmt} {tc:TT} (hc:PT X c tc) (ha:yU X a t) (hb:yU X b u):PS X (.If c a b pos) (Sy tc t u):=by
 intro pins s σ H D I h
 refine wpAny_If (b8 (hc pins s σ H _ I h) fun d s1 ⟨H1,I1,q1⟩=>?_)
 cases d with
 | true=>exact ha pins s1 σ H1 D I1 q1
 | false=>exact hb pins s1 σ H1 D I1 q1
end
abbrev TG:=V->St->Hp->(St->Hp->Prop)->Prop
abbrev Jy:=List V->St->Hp->(St->Hp->Prop)->Prop
def PG (X:Cx) (target:Expr) (t:TG):Prop:=
 ∀(pins:List (Addr×Obj)) (s:Shared) (σ:St) (H:Hp) (v:V) (u:Value) (Q:St->Hp->Prop),Inv X pins σ H s->RelV v u->t v σ H Q->
  wpAny (model X.prog X.w) X.A (assign target X.env u) (fun _ s'=> ∃σ' H',Inv X pins σ' H' s'/\Q σ' H') X.xe s
def OK (X:Cx) (ts:List Expr) (t:Jy):Prop:=
 ∀(pins:List (Addr×Obj)) (s:Shared) (σ:St) (H:Hp) (vs:List V) (us:List Value) (Q:St->Hp->Prop),Inv X pins σ H s->Vals vs us->t vs σ H Q->
  wpAny (model X.prog X.w) X.A (assignInOrder ((assignEach ts X.env).map (·.2)) us) (fun _ s'=> ∃σ' H',Inv X pins σ' H' s'/\Q σ' H') X.xe s
abbrev Ks:=V->V->V->Hp->(Hp->Prop)->Prop
def OL (X:Cx) (t:Ks):Prop:=
 ∀(pins:List (Addr×Obj)) (s:Shared) (σ:St) (H:Hp) (o i v:V) (ov iv u:Value) (Q:Hp->Prop),Inv X pins σ H s->RelV o ov->RelV i iv->RelV v u->t o i v H Q->
  wpAny (model X.prog X.w) X.A (setItem ov iv u) (fun _ s'=> ∃H',Inv X pins σ H' s'/\Q H') X.xe s
abbrev Q9:=V->V->Hp->VK->Prop
def OM (X:Cx) (op:Operator) (t:Q9):Prop:=
 ∀(pins:List (Addr×Obj)) (s:Shared) (σ:St) (H:Hp) (x y:V) (v u:Value) (Q:VK),Inv X pins σ H s->RelV x v->RelV y u->t x y H Q->
  wpAny (model X.prog X.w) X.A (inplaceOp op v u) (EP X pins σ Q) X.xe s
section
variable {X:Cx} {pos:Pos}
def w6 (i:Nat):TG:=fun v σ H Q=>Q (σ.set i (some v)) H
theorem aP {i:Nat} {x:Str} (hN:X.N.Nodup) (hi:X.N[i]? =some x) (hx:Loc X.env.scope x) (hf:X.fn x=true\/X.env.scope.names.lookup x=some .local:=by first | exact .inl rfl | exact .inr rfl | assumption):PG X (.Name x pos) (w6 i):=by
 intro pins s σ H v u Q I r h
 exact wpAny_assign_Name (lW I hN hi hx r (fun s' I'=>⟨_,H,I',h⟩) hf)
def Sz:Jy:=fun vs σ H Q=>vs=[]/\Q σ H
def ON (t:TG) (u:Jy):Jy:=fun vs σ H Q=> ∃v r,vs=v::r/\t v σ H fun σ' H'=>u r σ' H' Q
theorem iH:OK X [] Sz:=by
 intro pins s σ H vs us Q I r h
 obtain ⟨e,h⟩:=h
 subst e
 cases r
 exact assignInOrder_nil ⟨σ,H,I,h⟩
theorem cj {e:Expr} {es:List Expr} {t:TG} {u:Jy} (h1:PG X e t) (h2:OK X es u)
  (hs:(assignEach (e::es) X.env).map (·.2)=assign e X.env::(assignEach es X.env).map (·.2):=by rfl):OK X (e::es) (ON t u):=by
 intro pins s σ H vs us Q I r h
 obtain ⟨v,vr,e1,h⟩:=h
 subst e1
 cases r with
 | cons r rr=>
  rw[hs]
  refine assignInOrder_cons (b8 (h1 pins s σ H _ _ _ I r h) fun _ s1 ⟨σ1,H1,I1,q1⟩=>?_)
  exact h2 pins s1 σ1 H1 _ _ Q I1 rr q1
def OO (K:PySem.W.Frag) (n:Nat) (t:Jy):TG:=fun v σ H Q=> ∃a xs,v= .ref a/\aX K H a xs/\xs.length=n/\t xs σ H Q
theorem Kt {es:List Expr} {k:Nat} {t:Jy} {n:Nat} (hc:X.calm=true) (h:OK X es t)
  (hn:(assignEach es X.env).length=n:=by rfl) (oG:(assignEach es X.env).findIdx? (·.1)=none:=by rfl):PG X (.Tuple es k pos) (OO X.K n t):=by
 intro pins s σ H v u Q I r hw
 obtain ⟨a,xs,e1,hq,hl,hw⟩:=hw
 subst e1
 cases r
 obtain ⟨aJ,rv,ht,hz⟩:=I.tuple hq
 refine assign_Tuple_tuple (I.ok.hd hc) ht (by simp[hn, <-hl,rv.length]) oG fun h' hx=>?_
 have I1:Inv X pins σ H { s with heap:=h' }:=I.kept (t':=s.toks) fun b o e=>hx b o (ZE (ZA e)) e
 exact h pins _ σ H xs _ Q I1 (by simpa using rv) hw
def SA (to ti:TE) (t:Ks):TG:=fun v σ H Q=>to σ H fun o H1=>ti σ H1 fun i H2=>t o i v H2 fun H3=>Q σ H3
theorem DD {o i:Expr} {to ti:TE} {t:Ks} (ho:PE X o to) (hi:PE X i ti) (hs:OL X t)
  (ha: ∀v,assign (.Subscript o i pos) X.env v=(do
   let ov <-holding [v] (eval o X.env)
   let iv <-holding [v,ov] (eval i X.env)
   standAt pos
   holding [v,ov,iv] (setItem ov iv v)
   release [v,ov,iv] []):=by intro _;rfl):PG X (.Subscript o i pos) (SA to ti t):=by
 intro pins s σ H v u Q I r h
 rw[ha]
 refine wpAny_bind (wpAny_holding (b8 (ho pins s σ H _ I h) fun ov s1 ⟨x,H1,I1,r1,q1⟩=>?_))
 refine wpAny_bind (wpAny_holding (b8 (hi pins s1 σ H1 _ I1 q1) fun iv s2 ⟨y,H2,I2,r2,q2⟩=>?_))
 refine wpAny_bind (wpAny_standAt (wpAny_bind (wpAny_holding (b8 (hs pins s2 σ H2 x y v ov iv u _ I2 r1 r2 r q2) fun _ s3 ⟨H3,I3,q3⟩=>?_))))
 exact wpAny_release ⟨σ,H3,I3,q3⟩
def Ha (te:TE) (g:TG):TS:=fun D σ H=>te σ H fun x H1=>g x σ H1 D.nx
theorem yV {tg e:Expr} {te:TE} {g:TG} (he:PE X e te) (hg:PG X tg g) (hs:swapsWithSole [tg] e pos.line X.env=pure false:=by rfl) (hw:swappedStores [tg] e X.env=pure none:=by rfl)
  (h1:(assignEach [tg] X.env).map (·.2)=[assign tg X.env]:=by rfl):PS X (.Assign [tg] e pos) (Ha te g):=by
 intro pins s σ H D I h
 refine wpAny_Assign_stores (b8 (he pins s σ H _ I h) fun v s1 ⟨x,H1,I1,r1,q1⟩=>?_) hs hw
 rw[h1]
 exact b8 (hg pins s1 σ H1 x v _ I1 r1 q1) fun _ s2 q=>q
theorem ao {i:Nat} {x:Str} {e:Expr} {te:TE} {pos':Pos} (hN:X.N.Nodup) (hi:X.N[i]? =some x) (hx:Loc X.env.scope x) (he:PE X e te) (hs:swapsWith e (some (.Name x pos')) pos.line X.env=pure false:=by rfl) (hf:X.fn x=true\/X.env.scope.names.lookup x=some .local:=by first | exact .inl rfl | exact .inr rfl | assumption):
  PS X (.Assign [.Name x pos'] e pos) (Ha te (w6 i)):=by
 intro pins s σ H D I h
 refine wpAny_Assign_Name (b8 (he pins s σ H _ I h) fun v s1 ⟨y,H1,I1,r1,q1⟩=>?_) hs
 exact lW I1 hN hi hx r1 (fun s2 I2=>⟨_,H1,I2,q1⟩) hf
def SD (i:Nat) (te:TE) (ti:Q9):TS:=fun D σ H=> ∃x,σ[i]? =some (some x)/\te σ H fun y H1=>ti x y H1 fun z H2=>D.nx (σ.set i (some z)) H2
theorem jo {i:Nat} {x:Str} {e:Expr} {te:TE} {op:Operator} {ti:Q9} {pos':Pos} (hN:X.N.Nodup) (hi:X.N[i]? =some x) (hx:Loc X.env.scope x) (he:PE X e te) (ho:OM X op ti) (hf:X.fn x=true\/X.env.scope.names.lookup x=some .local:=by first | exact .inl rfl | exact .inr rfl | assumption):
  PS X (.AugAssign (.Name x pos') op e pos) (SD i te ti):=by
 intro pins s σ H D I h
 obtain ⟨v,e1,h⟩:=h
 obtain ⟨m,hn,hl⟩:=I.loc
 have Wv:OD X.env.scope x:=by rcases hx with k | k;exact .inl k;exact .inr (.inl k)
 obtain ⟨u,r,l⟩:=hl i x v hi e1 Wv
 refine wpAny_AugAssign_Name ?_
 have go:wpAny (model X.prog X.w) X.A (eval e X.env) (fun w s₂=>wpAny (model X.prog X.w) X.A (inplaceOp op u w) (fun r s₃=>wpAny (model X.prog X.w) X.A (storeName X.env x r) (fun _=>SP X pins D .next) X.xe s₃) X.xe s₂) X.xe s:=by
  refine b8 (he pins s σ H _ I h) fun w s1 ⟨y,H1,I1,r1,q1⟩=>?_
  refine b8 (ho pins s1 σ H1 v y u w _ I1 r r1 q1) fun z s2 ⟨zv,H2,I2,r2,q2⟩=>?_
  exact lW I2 hN hi hx r2 (fun s3 I3=>⟨_,H2,I3,q2⟩) hf
 rcases l with ⟨hk,hm⟩ | ⟨hk,c,hc,g9⟩
 ·exact wpAny_loadName_local I.ok.kind hk hn hm go
 ·rcases hk with hk | hk
  ·exact wpAny_loadName_cell I.ok.kind hk hc g9 go
  ·rcases hx with k | k
   ·have:X.env.scope.names.lookup x=some .free:=hk
    rw[k]at this;cases this
   ·have:X.env.scope.names.lookup x=some .free:=hk
    rw[k]at this;cases this
def UT (f:Int->Int->Int):Q9:=fun x y H Q=> ∃i j,x= .int i/\y= .int j/\Q (.int (f i j)) H
theorem qq:OM X .Add (UT fun i j=>i+j):=by
 intro pins s σ H x y v u Q I r1 r2 h
 obtain ⟨i,j,e1,e2,q⟩:=h
 subst e1;subst e2
 obtain ⟨t,rfl⟩:=r1
 obtain ⟨t',rfl⟩:=r2
 exact iadd_int ⟨.int _,H,I.tok _,⟨_,rfl⟩,q⟩
theorem Ku:OM X .Sub (UT fun i j=>i - j):=by
 intro pins s σ H x y v u Q I r1 r2 h
 obtain ⟨i,j,e1,e2,q⟩:=h
 subst e1;subst e2
 obtain ⟨t,rfl⟩:=r1
 obtain ⟨t',rfl⟩:=r2
 exact isub_int ⟨.int _,H,I.tok _,⟨_,rfl⟩,q⟩
end
structure It where
 go:Nat->Hp->Prop
 Di:Nat->Hp->V->Hp->Prop
 stop:Nat->Hp->Prop
def oZ (X:Cx) (pins:List (Addr×Obj)) (H:Hp) (b:Addr):Prop:=
 H b=none/\b≠X.env.locals/\b∉X.fs/\(b∈X.ex\/X.s₀.heap.objs.size<=b)/\(∀x c,X.env.cells.lookup x=some c->c≠b)/\ ∀p∈X.pn++pins,p.1≠b
theorem Inv.o4 {X:Cx} {pins:List (Addr×Obj)} {σ:St} {H H':Hp} {s:Shared} {b:Addr} (I:Inv X pins σ H s) (hb:s.heap.objs.size<=b) (hn:H' b=none):oZ X pins H' b:=by
 refine ⟨hn,Qc8 (ZJ I.lt hb),I.Kl hb, .inr (ZN I.sz hb),fun x c e z=>?_,fun p hp z=>?_⟩
 ·obtain ⟨v,q⟩:=I.cell x c e
  exact absurd (ZJ q.lt (by rw[z];exact hb)) (Z5 _)
 ·exact absurd (ZJ (ZA (I.pin p hp).1) (by rw[z];exact hb)) (Z5 _)
structure Turn (P:Program) (w:World) (K:PySem.W.Frag) (tg:Expr) (J:It) (fp:List Addr) (it:Addr) (tn:Nat->Heap->Prop):Prop where
 mem:it∈fp
 obj: ∀i h,tn i h-> ∀b∈fp, ∃o,h.get? b=some o/\ ∀v,o.data≠ .cell v
 keep: ∀i h h',tn i h->(∀b∈fp, ∀o,h.get? b=some o->h'.get? b=some o)->tn i h'
 item: ∀(X:Cx),X.prog=P->X.w=w->X.K=K->X.calm=true-> ∀(i:Nat) (pins:List (Addr×Obj)) (s:Shared) (σ:St) (H:Hp) (E:Value->Shared->Prop),Inv X pins σ H s->(∀b∈fp,oZ X pins H b)->tn i s.heap->J.go i H->
  wpAny (model P w) X.A (pyNext (.ref it)) (fun r s1=> ∃u,r=some u/\
   wpAny (model P w) X.A (letOwnedTupleGo tg (.ref it) u) (fun _ s2=> ∃x H',Inv X pins σ H' s2/\RelV x u/\J.Di i H x H'/\tn (i+1) s2.heap/\ ∀b∈fp,H' b=none) E s1) E s
 done: ∀(X:Cx),X.prog=P->X.w=w->X.K=K->X.calm=true-> ∀(i:Nat) (pins:List (Addr×Obj)) (s:Shared) (σ:St) (H:Hp) (E:Value->Shared->Prop),Inv X pins σ H s->(∀b∈fp,oZ X pins H b)->tn i s.heap->J.stop i H->
  wpAny (model P w) X.A (pyNext (.ref it)) (fun r s1=>r=none/\Inv X pins σ H s1) E s
 self: ∀(A:Around) (i:Nat) (s:Shared) (Q:Value->Shared->Prop) (E:Value->Shared->Prop),tn i s.heap->Q (.ref it) s->wpAny (model P w) A (pyIter (.ref it)) Q E s
abbrev TI:=St->Hp->(It->Hp->Prop)->Prop
def UU (X:Cx) (pins:List (Addr×Obj)) (σ:St) (tg:Expr) (R:It->Hp->Prop) (SE:Value) (s2:Shared):Prop:=
 ∃(it:Addr) (fp:List Addr) (tn:Nat->Heap->Prop) (J:It) (H':Hp),SE= .ref it/\Inv X pins σ H' s2/\Turn X.prog X.w X.K tg J fp it tn/\tn 0 s2.heap/\(∀b∈fp,oZ X pins H' b)/\R J H'
def PI (X:Cx) (tg iter:Expr) (wi:TI):Prop:=
 ∀(pins:List (Addr×Obj)) (s:Shared) (σ:St) (H:Hp) (R:It->Hp->Prop),Inv X pins σ H s->wi σ H R->
  wpAny (model X.prog X.w) X.A (eval iter X.env) (fun v s1=>wpAny (model X.prog X.w) X.A (pyIter v) (UU X pins σ tg R) X.xe s1) X.xe s
theorem w9 {M:Model} {A:Around} {E:Value->Shared->Prop} {s:Shared} {tg:Expr} {it:Addr} {u:Value} {o:Obj} {n:String} {vs:Array Value} {Q:Unit->Shared->Prop} (ho:s.heap.get? it=some o) (hc:o.cls= .type n) (hd:o.data= .fields vs)
  (hn:["enumerate","zip","dict_itemiterator","dict_reverseitemiterator","odict_iterator","itertools.zip_longest","itertools.pairwise"].contains n=false) (hQ:Q () s):wpAny M A (letOwnedTupleGo tg (.ref it) u) Q E s:=by
 unfold letOwnedTupleGo
 cases tg<;>first
  | exact wpAny_pure hQ
  |(cases u<;>first
    | exact wpAny_pure hQ
    |(refine wpAny_bind (wpAny_load ho ?_)
      rw[hc,hd]
      show wpAny M A (if (["enumerate","zip","dict_itemiterator","dict_reverseitemiterator","odict_iterator","itertools.zip_longest","itertools.pairwise"].contains n&&vs[0]? ==some (rawInt _))=true then _ else _) Q E s
      rw[if_neg (by intro h;rw[hn,Bool.false_and]at h;cases h)]
      exact wpAny_pure hQ))
noncomputable def Kv (K:PySem.W.Frag) (a:Addr):It:=
 ⟨fun i H=> ∃xs x,bu K H a xs/\xs[i]? =some x,fun i H x H'=>H'=H/\ ∀xs,bu K H a xs->xs[i]? =some x,fun i H=> ∃xs,bu K H a xs/\xs.length<=i⟩
noncomputable def Kw (K:PySem.W.Frag) (a:Addr):It:=
 ⟨fun i H=> ∃xs x,aX K H a xs/\xs[i]? =some x,fun i H x H'=>H'=H/\ ∀xs,aX K H a xs->xs[i]? =some x,fun i H=> ∃xs,aX K H a xs/\xs.length<=i⟩
noncomputable def Jz (lo:Int) (n:Nat):It:=⟨fun i _=>i<n,fun i H x H'=>H'=H/\x= .int (lo+i),fun i _=>n<=i⟩
theorem sY {P:Program} {w:World} {K:PySem.W.Frag} {tg:Expr} (a it:Addr):Turn P w K tg (Kv K a) [it] it (fun i h=>h.IsListIter it a i) where
 mem:=by simp
 obj:=fun i h st b hb=>by
  have e:b=it:=by simpa using hb
  subst e
  obtain ⟨o,e,c,d⟩:=st
  exact ⟨o,e,fun v z=>by rw[d]at z;cases z⟩
 keep:=fun i h h' st k=>st.at fun o e=>k it (by simp) o e
 item:=by
  intro X hP hw hK hc i pins s σ H E I hf st hg
  subst hP hw hK
  obtain ⟨xs,x,hq,hx⟩:=hg
  obtain ⟨aJ,rv,p,hz⟩:=I.list hq
  obtain ⟨u,hu,ru⟩:=rv.get hx
  obtain ⟨f0,f1,f2,f3,f4,f5⟩:=hf it (by simp)
  refine wpAny_pyNext_list_item st p.isList (x:=u) (by simpa using hu) fun h' nq sb=>?_
  have I1:Inv X pins σ H { s with heap:=h' }:=I.turned (t':=s.toks) (fun b o hb e=>(sb.2 b hb).trans e) f0 f1 f3 f4 f5
  obtain ⟨o,e,c,d⟩:=id nq
  exact ⟨u,rfl,w9 (s:={ s with heap:=h' }) e c d (by decide) ⟨x,H,I1,ru,⟨rfl,fun ys hy=>by rw[I.w5 hy hq];exact hx⟩,nq,fun b hb=>(hf b hb).1⟩⟩
 done:=by
  intro X hP hw hK hc i pins s σ H E I hf st hg
  subst hP hw hK
  obtain ⟨xs,hq,hx⟩:=hg
  obtain ⟨aJ,rv,p,hz⟩:=I.list hq
  obtain ⟨f0,f1,f2,f3,f4,f5⟩:=hf it (by simp)
  have hl:=rv.length
  exact wpAny_pyNext_list_end (I.ok.hd hc) st p.isList (by simp;omega) fun h' eb=>⟨rfl,I.turned (t':=s.toks) (fun b o hb e=>eb b o hb e) f0 f1 f3 f4 f5⟩
 self:=fun _ _ _ _ _ st h=>wpAny_pyIter_listiter st h
theorem qr {P:Program} {w:World} {K:PySem.W.Frag} {tg:Expr} (a it:Addr):Turn P w K tg (Kw K a) [it] it (fun i h=>h.IsTupleIter it a i) where
 mem:=by simp
 obj:=fun i h st b hb=>by
  have e:b=it:=by simpa using hb
  subst e
  obtain ⟨o,e,c,d⟩:=st
  exact ⟨o,e,fun v z=>by rw[d]at z;cases z⟩
 keep:=fun i h h' st k=>st.at fun o e=>k it (by simp) o e
 item:=by
  intro X hP hw hK hc i pins s σ H E I hf st hg
  subst hP hw hK
  obtain ⟨xs,x,hq,hx⟩:=hg
  obtain ⟨aJ,rv,p,hz⟩:=I.tuple hq
  obtain ⟨u,hu,ru⟩:=rv.get hx
  obtain ⟨f0,f1,f2,f3,f4,f5⟩:=hf it (by simp)
  refine wpAny_pyNext_tuple_item st (show s.heap.IsTuple a aJ.toArray from p) (x:=u) (by simpa using hu) fun h' nq sb=>?_
  have I1:Inv X pins σ H { s with heap:=h' }:=I.turned (t':=s.toks) (fun b o hb e=>(sb.2 b hb).trans e) f0 f1 f3 f4 f5
  obtain ⟨o,e,c,d⟩:=id nq
  exact ⟨u,rfl,w9 (s:={ s with heap:=h' }) e c d (by decide) ⟨x,H,I1,ru,⟨rfl,fun ys hy=>by rw[I.sX hy hq];exact hx⟩,nq,fun b hb=>(hf b hb).1⟩⟩
 done:=by
  intro X hP hw hK hc i pins s σ H E I hf st hg
  subst hP hw hK
  obtain ⟨xs,hq,hx⟩:=hg
  obtain ⟨aJ,rv,p,hz⟩:=I.tuple hq
  obtain ⟨f0,f1,f2,f3,f4,f5⟩:=hf it (by simp)
  have hl:=rv.length
  exact wpAny_pyNext_tuple_end (I.ok.hd hc) st (show s.heap.IsTuple a aJ.toArray from p) (by simp;omega) fun h' eb=>⟨rfl,I.turned (t':=s.toks) (fun b o hb e=>eb b o hb e) f0 f1 f3 f4 f5⟩
 self:=fun _ _ _ _ _ st h=>wpAny_pyIter_tupleiter st h
theorem yW {P:Program} {w:World} {K:PySem.W.Frag} {tg:Expr} (it:Addr) (lo:Int) (n:Nat):Turn P w K tg (Jz lo n) [it] it (fun i h=>IsRangeIter h it (lo+(i:Nat)*1) ((n:Int) - (i:Nat)) 1) where
 mem:=by simp
 obj:=fun i h st b hb=>by
  have e:b=it:=by simpa using hb
  subst e
  exact ⟨_,st,fun v z=>by
   have z':Data.fields _=Data.cell v:=z
   cases z'⟩
 keep:=fun i h h' st k=>k it (by simp) _ st
 item:=by
  intro X hP hw hK hc i pins s σ H E I hf st hg
  subst hP hw hK
  obtain ⟨f0,f1,f2,f3,f4,f5⟩:=hf it (by simp)
  have W:=Walks.range (prog:=X.prog) (w:=X.w) (I.ok.hd hc) it lo 1 n
  refine W.item i s _ _ hg st fun v h' tk hv nq kk=>?_
  obtain ⟨t,rfl⟩:=hv
  have I1:Inv X pins σ H { s with heap:=h',toks:=tk }:=I.turned (fun b o hb e=>kk b o (by simpa using hb) e) f0 f1 f3 f4 f5
  refine ⟨_,rfl,w9 (s:={ s with heap:=h',toks:=tk }) (n:="range_iterator") nq rfl rfl (by decide) ⟨.int (lo+i),H,I1,⟨t,?_⟩,⟨rfl,rfl⟩,nq,fun b hb=>(hf b hb).1⟩⟩
  rw[Int.mul_one]
 done:=by
  intro X hP hw hK hc i pins s σ H E I hf st hg
  subst hP hw hK
  obtain ⟨f0,f1,f2,f3,f4,f5⟩:=hf it (by simp)
  exact wpAny_pyNext_range_end (I.ok.hd hc) st (by have:n<=i:=hg;omega) fun h' eb=>⟨rfl,I.turned (t':=s.toks) (fun b o hb e=>eb b o hb e) f0 f1 f3 f4 f5⟩
 self:=fun _ _ _ _ _ st h=>wpAny_pyIter_rangeiter st h
section
variable {X:Cx} {tg:Expr}
def JA (K:PySem.W.Frag) (tl:TE):TI:=fun σ H R=>tl σ H fun x H1=> ∃a,x= .ref a/\(∃xs,bu K H1 a xs)/\R (Kv K a) H1
def OP (K:PySem.W.Frag) (tl:TE):TI:=fun σ H R=>tl σ H fun x H1=> ∃a,x= .ref a/\(∃xs,aX K H1 a xs)/\R (Kw K a) H1
theorem Hb {l:Expr} {tl:TE} (hl:PE X l tl):PI X tg l (JA X.K tl):=by
 intro pins s σ H R I h
 refine b8 (hl pins s σ H _ I h) fun v s1 ⟨x,H1,I1,r1,q1⟩=>?_
 obtain ⟨a,e,⟨xs,hq⟩,q⟩:=q1
 subst e
 cases r1
 obtain ⟨aJ,rv,p,hz⟩:=I1.list hq
 refine wpAny_pyIter_list p.isList ?_
 refine ⟨s1.heap.objs.size,[s1.heap.objs.size],_,_,H1,rfl,I1.kept (t':=s1.toks) fun b o e=>U4 _ e,sY a _,⟨_,Zw _ rfl,rfl,rfl⟩,fun b hb=>?_,q⟩
 have e:b=s1.heap.objs.size:=by simpa using hb
 subst e
 exact I1.o4 (Ri _) (I1.bX.fresh (Ri _))
theorem Kx {l:Expr} {tl:TE} (hl:PE X l tl):PI X tg l (OP X.K tl):=by
 intro pins s σ H R I h
 refine b8 (hl pins s σ H _ I h) fun v s1 ⟨x,H1,I1,r1,q1⟩=>?_
 obtain ⟨a,e,⟨xs,hq⟩,q⟩:=q1
 subst e
 cases r1
 obtain ⟨aJ,rv,p,hz⟩:=I1.tuple hq
 refine wpAny_pyIter_tuple (show s1.heap.IsTuple a aJ.toArray from p) ?_
 refine ⟨s1.heap.objs.size,[s1.heap.objs.size],_,_,H1,rfl,I1.kept (t':=s1.toks) fun b o e=>U4 _ e,qr a _,⟨_,Zw _ rfl,rfl,rfl⟩,fun b hb=>?_,q⟩
 have e:b=s1.heap.objs.size:=by simpa using hb
 subst e
 exact I1.o4 (Ri _) (I1.bX.fresh (Ri _))
theorem w_ {pins:List (Addr×Obj)} {σ:St} {H:Hp} {s:Shared} {R:It->Hp->Prop} {E:Value->Shared->Prop} {lo hi:Int} {t u v:Tok} {tk:Nat} (I:Inv X pins σ H s) (h1: -(2 ^ 62)<=lo) (h2:lo<2 ^ 62) (h3: -(2 ^ 62)<=hi) (h4:hi<2 ^ 62)
  (q:R (Jz lo (hi - lo).toNat) H):wpAny (model X.prog X.w) X.A (pyIter (.ref s.heap.objs.size)) (UU X pins σ tg R) E { s with heap:=s.heap.push { cls:= .type "range",data:= .fields #[.int lo t, .int hi u, .int 1 v] },toks:=tk }:=by
 refine wpAny_pyIter_range (IsRange.new ..) (small_one h1 h2 h3 h4) ?_
 have I1:Inv X pins σ H { s with heap:=s.heap.push { cls:= .type "range",data:= .fields #[.int lo t, .int hi u, .int 1 v] },toks:=tk }:=I.kept fun b o e=>U4 _ e
 refine ⟨(s.heap.push { cls:= .type "range",data:= .fields #[.int lo t, .int hi u, .int 1 v] }).objs.size,[(s.heap.push { cls:= .type "range",data:= .fields #[.int lo t, .int hi u, .int 1 v] }).objs.size],_,_,H,rfl,
  I1.kept (t':=tk) fun b o e=>U4 _ e,yW _ lo (hi - lo).toNat,?_,fun b hb=>?_,q⟩
 ·have e1:lo+((0:Nat):Int)*1=lo:=by simp
  have e2:(((hi - lo).toNat:Nat):Int) - ((0:Nat):Int)=Builtin.Range.rangeSize lo hi 1:=by rw[rangeSize_one];split<;>omega
  show IsRangeIter _ _ (lo+((0:Nat):Int)*1) ((((hi - lo).toNat:Nat):Int) - ((0:Nat):Int)) 1
  rw[e1,e2]
  exact Zw _ rfl
 ·have e:b=(s.heap.push { cls:= .type "range",data:= .fields #[.int lo t, .int hi u, .int 1 v] }).objs.size:=by simpa using hb
  subst e
  exact I1.o4 (Ri _) (I1.bX.fresh (Ri _))
def OQ (ta:TA):TI:=fun σ H R=>ta σ H fun vs H1=> ∃j:Int,vs=[.int j]/\ -(2 ^ 62)<=j/\j<2 ^ 62/\R (Jz 0 j.toNat) H1
def OR (ta:TA):TI:=fun σ H R=>ta σ H fun vs H1=> ∃i j:Int,vs=[.int i, .int j]/\(-(2 ^ 62)<=i/\i<2 ^ 62/\ -(2 ^ 62)<=j/\j<2 ^ 62)/\R (Jz i (j - i).toNat) H1
theorem eL {a:Expr} {ta:TA} {p pos:Pos} (hg:Gl X "range") (hm:X.mg "range"=none) (ha:PA X [a] ta) (hs:starEach [a] X.env=[(false,eval a X.env)]:=by rfl):PI X tg (.Call (.Name "range" p) [a] [] pos) (OQ ta):=by
 intro pins s σ H R I h
 refine Call_ (iE I hg hm boot_range (Qae (b8 (ha pos pins s σ H _ I h) fun us s1 ⟨vs,H1,I1,r1,q1⟩=>?_) hs rfl))
 obtain ⟨j,e,q1,q2,q⟩:=q1
 subst e
 cases r1 with
 | cons r rr=>
  cases rr
  obtain ⟨t,rfl⟩:=r
  exact call_range_1 (w_ I1 (by omega) (by omega) q1 q2 (by simpa using q))
theorem nE {a b:Expr} {ta:TA} {p pos:Pos} (hg:Gl X "range") (hm:X.mg "range"=none) (ha:PA X [a,b] ta) (hs:starEach [a,b] X.env=[(false,eval a X.env),(false,eval b X.env)]:=by rfl) (OS:starEach [b] X.env=[(false,eval b X.env)]:=by rfl):
  PI X tg (.Call (.Name "range" p) [a,b] [] pos) (OR ta):=by
 intro pins s σ H R I h
 refine Call_ (iE I hg hm boot_range (Qae (b8 (ha pos pins s σ H _ I h) fun us s1 ⟨vs,H1,I1,r1,q1⟩=>?_) (by rw[hs,OS]) (by rw[OS];rfl)))
 obtain ⟨i,j,e,⟨q1,q2,q3,q4⟩,q⟩:=q1
 subst e
 cases r1 with
 | cons r rr=>
  cases rr with
  | cons r' rr=>
   cases rr
   obtain ⟨t,rfl⟩:=r
   obtain ⟨t',rfl⟩:=r'
   exact call_range_2 (w_ I1 q1 q2 q3 q4 q)
def SF (wi:TI) (g:TG) (tb:TS):TS:=fun D σ H=>wi σ H fun J H1=> ∃W:Nat->Nat->St->Hp->Prop,(∃m,W 0 m σ H1)/\ ∀i m σ H,W i m σ H->
 (J.stop i H/\D.nx σ H)\/(J.go i H/\ ∃N:St->Hp->Prop,(∀σ' H',N σ' H'-> ∃m',m'<m/\W (i+1) m' σ' H')/\ ∀x H',J.Di i H x H'->g x σ H' fun σ2 H2=>tb { D with nx:=N,ct:=N,bk:=D.nx } σ2 H2)
noncomputable def qt (fp:List Addr) (h:Heap):List (Addr×Obj):=fp.filterMap fun b=>(h.get? b).map fun o=>(b,o)
theorem iI {fp:List Addr} {h:Heap} {b:Addr} {o:Obj} (hb:b∈fp) (e:h.get? b=some o):(b,o)∈qt fp h:=List.mem_filterMap.mpr ⟨b,hb,by rw[e];rfl⟩
theorem BZ {fp:List Addr} {h:Heap} {p:Addr×Obj} (hp:p∈qt fp h):p.1∈fp/\h.get? p.1=some p.2:=by
 obtain ⟨b,hb,e⟩:=List.mem_filterMap.mp hp
 cases q:h.get? b with
 | none=>rw[q]at e;cases e
 | some o=>
  rw[q]at e
  have e':(b,o)=p:=Zy e
  subst e'
  exact ⟨hb,q⟩
theorem Inv.pinned {pins:List (Addr×Obj)} {σ:St} {H:Hp} {s:Shared} {fp:List Addr} (I:Inv X pins σ H s) (hf: ∀b∈fp,oZ X pins H b) (ho: ∀b∈fp, ∃o,s.heap.get? b=some o/\ ∀v,o.data≠ .cell v):Inv X (pins++qt fp s.heap) σ H s:=
 I.lV fun p hp=>(Zx.mp hp).elim (fun z=>I.pin p (ZK _ z)) fun z=>by
  obtain ⟨hb,e⟩:=BZ z
  obtain ⟨f0,f1,f2,_⟩:=hf p.1 hb
  obtain ⟨o,e',d⟩:=ho p.1 hb
  rw[e]at e';cases e'
  exact ⟨e,f0,f1,f2,d⟩
theorem Inv.jq {pins pl:List (Addr×Obj)} {σ:St} {H:Hp} {s:Shared} (I:Inv X (pins++pl) σ H s):Inv X pins σ H s:=I.lV fun p hp=>I.pin p (ZK _ (Qbp _ hp))
theorem bS {iter:Expr} {body:List Stmt} {wi:TI} {g:TG} {tb:TS} {pos:Pos} (hp:PassesOwn (model X.prog X.w) X.A X.env X.xe) (hc:X.calm=true) (hi:PI X tg iter wi) (hg:PG X tg g) (hb:yU X body tb)
  (hs: ∀x,foldedSetIterable iter X.env x=pure x:=by intro _;rfl):PS X (.For tg iter body [] pos) (SF wi g tb):=by
 intro pins s σ H D I h
 refine wpAny_For (b8 (hi pins s σ H _ I h) fun v s1 h1=>b8 h1 fun SE s2 h2=>?_) hs
 obtain ⟨it,fp,tn,J,H2,e,I2,T,yL,f2,W,⟨m0,w0⟩,turn⟩:=h2
 subst e
 -- Ww stays true of GI Ky objects through GI loop
 have Kz: ∀{H':Hp},(∀b∈fp,H' b=none)-> ∀b∈fp,oZ X pins H' b:=fun hn b hb=>⟨hn b hb,(f2 b hb).2⟩
 refine codeAny_forLoop_any (fun n s'=> ∃i σ' H',Inv X pins σ' H' s'/\tn i s'.heap/\(∀b∈fp,H' b=none)/\W i n σ' H') ?_ m0 ⟨0,σ,H2,I2,yL,fun b hb=>(f2 b hb).1,w0⟩
 rintro n s3 ⟨i,σ3,H3,I3,OT,OU,w3⟩
 rcases turn i n σ3 H3 w3 with ⟨stop,qn⟩ | ⟨go,N,hN,step⟩
 ·refine wpAny_passesOwn hp (b8 (T.done X rfl rfl rfl hc i pins s3 σ3 H3 X.xe I3 (Kz OU) OT stop) fun r s4 ⟨hr,I4⟩=>?_)
  subst hr
  exact wpAny_execs_nil ⟨σ3,H3,I4,qn⟩
 ·refine wpAny_passesOwn hp (b8 (T.item X rfl rfl rfl hc i pins s3 σ3 H3 X.xe I3 (Kz OU) OT go) fun r s4 ⟨u,hr,h4⟩=>?_)
  subst hr
  refine wpAny_passesOwn hp (b8 h4 fun _ s5 ⟨x,H5,I5,r5,y5,KA,SG⟩=>?_)
  have SH:=I5.pinned (Kz SG) (T.obj _ _ KA)
  refine wpAny_passesOwn hp (b8 (hg _ s5 σ3 H5 x u _ SH r5 (step x H5 y5)) fun _ s6 ⟨σ6,H6,I6,q6⟩=>?_)
  refine wpAny_passesOwn hp (b8 (hb _ s6 σ6 H6 _ I6 q6) fun f s7 q7=>?_)
  have again: ∀{σ7:St} {H7:Hp},Inv X (pins++qt fp s5.heap) σ7 H7 s7->N σ7 H7-> ∃m,m<n/\ ∃i σ' H',Inv X pins σ' H' s7/\tn i s7.heap/\(∀b∈fp,H' b=none)/\W i m σ' H':=fun {σ7 H7} I7 n7=>by
   obtain ⟨m',hm,w7⟩:=hN σ7 H7 n7
   refine ⟨m',hm,i+1,σ7,H7,I7.jq,T.keep _ _ _ KA fun b hb o e=>(I7.pin (b,o) (ZK _ (ZK _ (iI hb e)))).1,fun b hb=>?_,w7⟩
   obtain ⟨o,e,d⟩:=T.obj _ _ KA b hb
   exact (I7.pin (b,o) (ZK _ (ZK _ (iI hb e)))).2.1
  cases f with
  | next=>obtain ⟨σ7,H7,I7,n7⟩:=q7;exact again I7 n7
  | cont=>obtain ⟨σ7,H7,I7,n7⟩:=q7;exact again I7 n7
  | brk=>obtain ⟨σ7,H7,I7,q7⟩:=q7;exact ⟨σ7,H7,I7.jq,q7⟩
  | ret v=>obtain ⟨x7,σ7,H7,I7,r7,q7⟩:=q7;exact ⟨x7,σ7,H7,I7.jq,r7,q7⟩
end
theorem fg {K:PySem.W.Frag} {a:Addr} {xs:List V} {g:TG} {tb:TS} {D:Ends} {σ:St} {H:Hp} (Pv:Nat->St->Hp->Prop) (h0:Pv 0 σ H) (hl: ∀i σ H,i<=xs.length->Pv i σ H->bu K H a xs)
  (hs: ∀i x σ H,xs[i]? =some x->Pv i σ H->g x σ H fun σ2 H2=>tb { D with nx:=Pv (i+1),ct:=Pv (i+1),bk:=D.nx } σ2 H2) (hd: ∀σ H,Pv xs.length σ H->D.nx σ H):
  ∃W:Nat->Nat->St->Hp->Prop,(∃m,W 0 m σ H)/\ ∀i m σ H,W i m σ H->
   ((Kv K a).stop i H/\D.nx σ H)\/((Kv K a).go i H/\ ∃N:St->Hp->Prop,(∀σ' H',N σ' H'-> ∃m',m'<m/\W (i+1) m' σ' H')/\ ∀x H',(Kv K a).Di i H x H'->g x σ H' fun σ2 H2=>tb { D with nx:=N,ct:=N,bk:=D.nx } σ2 H2):=by
 refine ⟨fun i m σ H=>m=xs.length - i/\i<=xs.length/\Pv i σ H,⟨xs.length,by simp,WT _,h0⟩,?_⟩
 rintro i m σ H ⟨rfl,hi,p⟩
 have q:=hl i σ H hi p
 by_cases dq:i<xs.length
 ·refine .inr ⟨⟨xs,xs[i],q,by simp[dq]⟩,Pv (i+1),fun σ' H' p'=>⟨xs.length - (i+1),by omega,rfl,dq,p'⟩,fun x H' y=>?_⟩
  obtain ⟨e,y⟩:=y
  subst e
  exact hs i x σ _ (y xs q) p
 ·have e:i=xs.length:=by omega
  subst e
  exact .inl ⟨⟨xs,q,Ri _⟩,hd σ H p⟩
theorem Hc {K:PySem.W.Frag} {a:Addr} {xs:List V} {g:TG} {tb:TS} {D:Ends} {σ:St} {H:Hp} (Pv:Nat->St->Hp->Prop) (h0:Pv 0 σ H) (hl: ∀i σ H,i<=xs.length->Pv i σ H->aX K H a xs)
  (hs: ∀i x σ H,xs[i]? =some x->Pv i σ H->g x σ H fun σ2 H2=>tb { D with nx:=Pv (i+1),ct:=Pv (i+1),bk:=D.nx } σ2 H2) (hd: ∀σ H,Pv xs.length σ H->D.nx σ H):
  ∃W:Nat->Nat->St->Hp->Prop,(∃m,W 0 m σ H)/\ ∀i m σ H,W i m σ H->
   ((Kw K a).stop i H/\D.nx σ H)\/((Kw K a).go i H/\ ∃N:St->Hp->Prop,(∀σ' H',N σ' H'-> ∃m',m'<m/\W (i+1) m' σ' H')/\ ∀x H',(Kw K a).Di i H x H'->g x σ H' fun σ2 H2=>tb { D with nx:=N,ct:=N,bk:=D.nx } σ2 H2):=by
 refine ⟨fun i m σ H=>m=xs.length - i/\i<=xs.length/\Pv i σ H,⟨xs.length,by simp,WT _,h0⟩,?_⟩
 rintro i m σ H ⟨rfl,hi,p⟩
 have q:=hl i σ H hi p
 by_cases dq:i<xs.length
 ·refine .inr ⟨⟨xs,xs[i],q,by simp[dq]⟩,Pv (i+1),fun σ' H' p'=>⟨xs.length - (i+1),by omega,rfl,dq,p'⟩,fun x H' y=>?_⟩
  obtain ⟨e,y⟩:=y
  subst e
  exact hs i x σ _ (y xs q) p
 ·have e:i=xs.length:=by omega
  subst e
  exact .inl ⟨⟨xs,q,Ri _⟩,hd σ H p⟩
theorem dc {lo:Int} {n:Nat} {g:TG} {tb:TS} {D:Ends} {σ:St} {H:Hp} (Pv:Nat->St->Hp->Prop) (h0:Pv 0 σ H)
  (hs: ∀i σ H,i<n->Pv i σ H->g (.int (lo+i)) σ H fun σ2 H2=>tb { D with nx:=Pv (i+1),ct:=Pv (i+1),bk:=D.nx } σ2 H2) (hd: ∀σ H,Pv n σ H->D.nx σ H):
  ∃W:Nat->Nat->St->Hp->Prop,(∃m,W 0 m σ H)/\ ∀i m σ H,W i m σ H->
   ((Jz lo n).stop i H/\D.nx σ H)\/((Jz lo n).go i H/\ ∃N:St->Hp->Prop,(∀σ' H',N σ' H'-> ∃m',m'<m/\W (i+1) m' σ' H')/\ ∀x H',(Jz lo n).Di i H x H'->g x σ H' fun σ2 H2=>tb { D with nx:=N,ct:=N,bk:=D.nx } σ2 H2):=by
 refine ⟨fun i m σ H=>m=n - i/\i<=n/\Pv i σ H,⟨n,by simp,WT _,h0⟩,?_⟩
 rintro i m σ H ⟨rfl,hi,p⟩
 by_cases dq:i<n
 ·refine .inr ⟨dq,Pv (i+1),fun σ' H' p'=>⟨n - (i+1),by omega,rfl,dq,p'⟩,fun x H' y=>?_⟩
  obtain ⟨e,y⟩:=y
  subst e y
  exact hs i σ _ dq p
 ·have e:i=n:=by omega
  subst e
  exact .inl ⟨Ri _,hd σ H p⟩
abbrev R2:=V->V->Hp->VK->Prop
def g_ (X:Cx) (f:Value->Value->Sem Value) (r:R2):Prop:=
 ∀(pins:List (Addr×Obj)) (s:Shared) (σ:St) (H:Hp) (x y:V) (v u:Value) (Q:VK),Inv X pins σ H s->RelV x v->RelV y u->r x y H Q->
  wpAny (model X.prog X.w) X.A (f v u) (EP X pins σ Q) X.xe s
def SI (X:Cx) (f:Value->Sem Value) (r:V->Hp->VK->Prop):Prop:=
 ∀(pins:List (Addr×Obj)) (s:Shared) (σ:St) (H:Hp) (x:V) (v:Value) (Q:VK),Inv X pins σ H s->RelV x v->r x H Q->
  wpAny (model X.prog X.w) X.A (f v) (EP X pins σ Q) X.xe s
def dZ (X:Cx) (f:Value) (r:List V->Hp->VK->Prop):Prop:=
 ∀(pins:List (Addr×Obj)) (s:Shared) (σ:St) (H:Hp) (xs:List V) (us:List Value) (Q:VK),Inv X pins σ H s->Vals xs us->r xs H Q->
  wpAny (model X.prog X.w) X.A (call f us) (EP X pins σ Q) X.xe s
def SJ (X:Cx) (r:V->Hp->(Bool->Hp->Prop)->Prop):Prop:=
 ∀(pins:List (Addr×Obj)) (s:Shared) (σ:St) (H:Hp) (x:V) (v:Value) (Q:Bool->Hp->Prop),Inv X pins σ H s->RelV x v->r x H Q->
  wpAny (model X.prog X.w) X.A (truthy v) (TP X pins σ Q) X.xe s
def Q_ (r:R2) (ta tb:TE):TE:=fun σ H Q=>ta σ H fun x H1=>tb σ H1 fun y H2=>r x y H2 Q
def Wx (r:V->Hp->VK->Prop) (ta:TE):TE:=fun σ H Q=>ta σ H fun x H1=>r x H1 Q
def rI (C:Int->Int->Prop) (g:Int->Int->V):R2:=fun x y H Q=> ∃i j,x= .int i/\y= .int j/\C i j/\Q (g i j) H
def GJ (g:Int->Int->V):R2:=fun x y H Q=> ∃i j,x= .int i/\y= .int j/\Q (g i j) H
def rU (g:Int->V):V->Hp->VK->Prop:=fun x H Q=> ∃i,x= .int i/\Q (g i) H
section
variable {X:Cx} {a b c:Expr} {ta tb tc:TE} {pos:Pos}
theorem KC (ha:PE X a ta) (hb:PE X b tb) {pins:List (Addr×Obj)} {s:Shared} {σ:St} {H:Hp} {R:V->V->Hp->Prop} (I:Inv X pins σ H s)
  (h:ta σ H fun x H1=>tb σ H1 fun y H2=>R x y H2) {Q:Value->Shared->Prop} {f:Value->Value->Sem Value}
  (hf: ∀v u s2 x y H2,Inv X pins σ H2 s2->RelV x v->RelV y u->R x y H2->wpAny (model X.prog X.w) X.A (f v u) Q X.xe s2):
  wpAny (model X.prog X.w) X.A (eval a X.env) (fun v s₁=>wpAny (model X.prog X.w) X.A (eval b X.env) (fun u s₂=>wpAny (model X.prog X.w) X.A (f v u) Q X.xe s₂) X.xe s₁) X.xe s:=by
 refine b8 (ha pins s σ H _ I h) fun v s1 ⟨x,H1,I1,r1,q1⟩=>?_
 refine b8 (hb pins s1 σ H1 _ I1 q1) fun u s2 ⟨y,H2,I2,r2,q2⟩=>?_
 exact hf v u s2 x y H2 I2 r1 r2 q2
theorem ay {op:Operator} {r:R2} (ho:g_ X (binaryOp op) r) (ha:PE X a ta) (hb:PE X b tb):PE X (.BinOp a op b pos) (Q_ r ta tb):=by
 intro pins s σ H Q I h
 exact wpAny_BinOp (KC ha hb I h fun v u s2 x y H2 I2 rx ry q=>ho pins s2 σ H2 x y v u Q I2 rx ry q)
theorem lX {op:UnaryOp} {r:V->Hp->VK->Prop} (ho:SI X (unaryOp op) r) (ha:PE X a ta):PE X (.UnaryOp op a pos) (Wx r ta):=by
 intro pins s σ H Q I h
 exact UnaryOp_ (b8 (ha pins s σ H _ I h) fun v s1 ⟨x,H1,I1,r1,q1⟩=>ho pins s1 σ H1 x v Q I1 r1 q1)
theorem Ra {f:Value->Value->Sem Value} {C:Int->Int->Prop} {g:Int->Int->Int}
  (rule: ∀(i j:Int) (t u:Tok) (s:Shared) (Q:Value->Shared->Prop) (E:Value->Shared->Prop),C i j->Q (.int (g i j) s.toks) { s with toks:=s.toks+1 }->wpAny (model X.prog X.w) X.A (f (.int i t) (.int j u)) Q E s):
  g_ X f (rI C fun i j=> .int (g i j)):=by
 intro pins s σ H x y v u Q I rx ry h
 obtain ⟨i,j,rfl,rfl,hc,q⟩:=h
 obtain ⟨t,rfl⟩:=rx
 obtain ⟨t',rfl⟩:=ry
 exact rule i j t t' s _ _ hc ⟨.int (g i j),H,I.tok _,⟨_,rfl⟩,q⟩
theorem OV {f:Value->Value->Sem Value} {g:Int->Int->Int}
  (rule: ∀(i j:Int) (t u:Tok) (s:Shared) (Q:Value->Shared->Prop) (E:Value->Shared->Prop),Q (.int (g i j) s.toks) { s with toks:=s.toks+1 }->wpAny (model X.prog X.w) X.A (f (.int i t) (.int j u)) Q E s):
  g_ X f (GJ fun i j=> .int (g i j)):=by
 intro pins s σ H x y v u Q I rx ry h
 obtain ⟨i,j,rfl,rfl,q⟩:=h
 obtain ⟨t,rfl⟩:=rx
 obtain ⟨t',rfl⟩:=ry
 exact rule i j t t' s _ _ ⟨.int (g i j),H,I.tok _,⟨_,rfl⟩,q⟩
theorem Hd {f:Value->Value->Sem Value} {g:Int->Int->Bool}
  (rule: ∀(i j:Int) (t u:Tok) (s:Shared) (Q:Value->Shared->Prop) (E:Value->Shared->Prop),Q (.bool (g i j)) s->wpAny (model X.prog X.w) X.A (f (.int i t) (.int j u)) Q E s):
  g_ X f (GJ fun i j=> .bl (g i j)):=by
 intro pins s σ H x y v u Q I rx ry h
 obtain ⟨i,j,rfl,rfl,q⟩:=h
 obtain ⟨t,rfl⟩:=rx
 obtain ⟨t',rfl⟩:=ry
 exact rule i j t t' s _ _ ⟨.bl (g i j),H,I,rfl,q⟩
def SK (i j:Int):Prop:=0<j/\j<1073741824
def SM (i j:Int):Prop:=0<=j/\j<=1000000/\i.natAbs<2 ^ 64
def He (i j:Int):Prop:=(-(2 ^ 64)<i/\i<2 ^ 64)\/(-(2 ^ 64)<j/\j<2 ^ 64)
theorem He.ok {i j:Int} (h:He i j):IntMulOk i j:=by
 rcases h with ⟨h1,h2⟩ | ⟨h1,h2⟩
 ·exact .of_left (intBits_le_64 h1 h2)
 ·exact .of_right (intBits_le_64 h1 h2)
theorem aU:g_ X (binaryOp .Add) (GJ fun i j=> .int (i+j)):=OV fun _ _ _ _ _ _ _ q=>add_int q
theorem bJ:g_ X (binaryOp .Sub) (GJ fun i j=> .int (i - j)):=OV fun _ _ _ _ _ _ _ q=>sub_int q
theorem kY:g_ X (binaryOp .Mult) (rI He fun i j=> .int (i*j)):=Ra fun _ _ _ _ _ _ _ hc q=>mul_int q hc.ok
theorem cI:g_ X (binaryOp .Mod) (rI (fun _ j=>0<j) fun i j=> .int (i%j)):=Ra fun i j _ _ _ _ _ hc q=>by
 have h1:(0:Int)<j:=hc
 exact mod_int' (by omega) (by rw[Int.fmod_eq_emod_of_nonneg i (by omega)];exact q)
theorem DE:g_ X (binaryOp .Pow) (rI SM fun i j=> .int (i ^ j.toNat)):=Ra fun _ _ _ _ _ _ _ hc q=>pow_int_small hc.1 hc.2.1 hc.2.2 q
theorem Wy {f:Value->Sem Value} {g:Int->Int}
  (rule: ∀(i:Int) (t:Tok) (s:Shared) (Q:Value->Shared->Prop) (E:Value->Shared->Prop),Q (.int (g i) s.toks) { s with toks:=s.toks+1 }->wpAny (model X.prog X.w) X.A (f (.int i t)) Q E s):
  SI X f (rU fun i=> .int (g i)):=by
 intro pins s σ H x v Q I rx h
 obtain ⟨i,rfl,q⟩:=h
 obtain ⟨t,rfl⟩:=rx
 exact rule i t s _ _ ⟨.int (g i),H,I.tok _,⟨_,rfl⟩,q⟩
theorem iJ:SI X (unaryOp .USub) (rU fun i=> .int (-i)):=Wy fun _ _ _ _ _ q=>neg_int q
end
noncomputable def OW:V->V->Bool
 | .f_, .f_=>true | .f_, .int _=>true | .int _, .f_=>true | .f_, .bl _=>true | .bl _, .f_=>true | .f_, .str _=>true | .str _, .f_=>true
 | .int _, .int _=>true | .bl _, .bl _=>true | .str _, .str _=>true | .Av _, .Av _=>true
 | .int _, .str _=>true | .str _, .int _=>true | .bl _, .str _=>true | .str _, .bl _=>true
 | _,_=>false
def Wz:R2:=fun x y H Q=>OW x y=true/\Q (.bl (decide (x=y))) H
def WA:R2:=fun x y H Q=>OW x y=true/\Q (.bl (!decide (x=y))) H
theorem AD {i j:Int}:decide (V.int i=V.int j)=(i==j):=by
 rw[Qci]
 simp
theorem DF {i j:Bool}:decide (V.bl i=V.bl j)=(i==j):=by
 rw[Qci]
 simp
theorem AE {i j:Str}:decide (V.str i=V.str j)=(i==j):=by
 rw[Qci]
 simp
theorem AF {i j:Array UInt8}:decide (V.Av i=V.Av j)=(i.toList==j.toList):=by
 rw[Qci]
 cases i
 cases j
 simp
section
variable {X:Cx} {a b c:Expr} {ta tb tc:TE} {pos:Pos}
theorem br {pins:List (Addr×Obj)} {σ:St} {H:Hp} {s:Shared} {Q:VK} {k k':Bool} (I:Inv X pins σ H s) (q:Q (.bl k) H) (e:k=k'):EP X pins σ Q (.bool k') s:=by
 subst e
 exact ⟨.bl k,H,I,rfl,q⟩
theorem xa:g_ X (compareOp .Eq) Wz:=by
 intro pins s σ H x y v u Q I rx ry h
 obtain ⟨hs,q⟩:=h
 cases x with
 | f_=>
  cases rx
  cases y with
  | f_=>cases ry;exact PySem.EqNone.eq_none_none (br I q (by simp))
  | bl j=>cases ry;exact PySem.EqNone.eq_none_bool (br I q (by simp))
  | int j=>obtain ⟨t',rfl⟩:=ry;exact PySem.EqNone.eq_none_int (br I q (by simp))
  | str j=>obtain ⟨t',rfl⟩:=ry;exact PySem.EqNone.eq_none_str (br I q (by simp))
  | _=>exact absurd (show false=true from hs) Zz
 | bl i=>
  cases rx
  cases y with
  | f_=>cases ry;exact PySem.EqNone.eq_bool_none (br I q (by simp))
  | bl j=>cases ry;exact eq_bool (br I q DF)
  | str j=>obtain ⟨t',rfl⟩:=ry;exact PySem.EqMixed.eq_bool_str (br I q (by simp))
  | _=>exact absurd (show false=true from hs) Zz
 | int i=>
  obtain ⟨t,rfl⟩:=rx
  cases y with
  | f_=>cases ry;exact PySem.EqNone.eq_int_none (br I q (by simp))
  | int j=>obtain ⟨t',rfl⟩:=ry;exact eq_int (br I q AD)
  | str j=>obtain ⟨t',rfl⟩:=ry;exact PySem.EqMixed.eq_int_str (br I q (by simp))
  | _=>exact absurd (show false=true from hs) Zz
 | str i=>
  obtain ⟨t,rfl⟩:=rx
  cases y with
  | f_=>cases ry;exact PySem.EqNone.eq_str_none (br I q (by simp))
  | bl j=>cases ry;exact PySem.EqMixed.eq_str_bool (br I q (by simp))
  | int j=>obtain ⟨t',rfl⟩:=ry;exact PySem.EqMixed.eq_str_int (br I q (by simp))
  | str j=>obtain ⟨t',rfl⟩:=ry;exact eq_str (br I q AE)
  | _=>exact absurd (show false=true from hs) Zz
 | Av i=>
  obtain ⟨t,rfl⟩:=rx
  cases y with
  | Av j=>obtain ⟨t',rfl⟩:=ry;exact PySem.W.eq_bytes (br I q AF)
  | _=>exact absurd (show false=true from hs) Zz
 | _=>cases y<;>exact absurd (show false=true from hs) Zz
theorem DG:g_ X (compareOp .NotEq) WA:=by
 intro pins s σ H x y v u Q I rx ry h
 obtain ⟨hs,q⟩:=h
 cases x with
 | f_=>
  cases rx
  cases y with
  | f_=>cases ry;exact PySem.EqNone.ne_none_none (br I q (by simp))
  | bl j=>cases ry;exact PySem.EqNone.ne_none_bool (br I q (by simp))
  | int j=>obtain ⟨t',rfl⟩:=ry;exact PySem.EqNone.ne_none_int (br I q (by simp))
  | str j=>obtain ⟨t',rfl⟩:=ry;exact PySem.EqNone.ne_none_str (br I q (by simp))
  | _=>exact absurd (show false=true from hs) Zz
 | bl i=>
  cases rx
  cases y with
  | f_=>cases ry;exact PySem.EqNone.ne_bool_none (br I q (by simp))
  | bl j=>cases ry;exact ne_bool (br I q (congrArg not DF))
  | str j=>obtain ⟨t',rfl⟩:=ry;exact PySem.EqMixed.ne_bool_str (br I q (by simp))
  | _=>exact absurd (show false=true from hs) Zz
 | int i=>
  obtain ⟨t,rfl⟩:=rx
  cases y with
  | f_=>cases ry;exact PySem.EqNone.ne_int_none (br I q (by simp))
  | int j=>obtain ⟨t',rfl⟩:=ry;exact ne_int (br I q (congrArg not AD))
  | str j=>obtain ⟨t',rfl⟩:=ry;exact PySem.EqMixed.ne_int_str (br I q (by simp))
  | _=>exact absurd (show false=true from hs) Zz
 | str i=>
  obtain ⟨t,rfl⟩:=rx
  cases y with
  | f_=>cases ry;exact PySem.EqNone.ne_str_none (br I q (by simp))
  | bl j=>cases ry;exact PySem.EqMixed.ne_str_bool (br I q (by simp))
  | int j=>obtain ⟨t',rfl⟩:=ry;exact PySem.EqMixed.ne_str_int (br I q (by simp))
  | str j=>obtain ⟨t',rfl⟩:=ry;exact ne_str (br I q (congrArg not AE))
  | _=>exact absurd (show false=true from hs) Zz
 | Av i=>
  obtain ⟨t,rfl⟩:=rx
  cases y with
  | Av j=>obtain ⟨t',rfl⟩:=ry;exact PySem.W.ne_bytes (br I q (congrArg not AF))
  | _=>exact absurd (show false=true from hs) Zz
 | _=>cases y<;>exact absurd (show false=true from hs) Zz
theorem i5:g_ X (compareOp .Lt) (GJ fun i j=> .bl (decide (i<j))):=Hd fun _ _ _ _ _ _ _ q=>lt_int q
theorem DH:g_ X (compareOp .LtE) (GJ fun i j=> .bl (decide (i<=j))):=Hd fun _ _ _ _ _ _ _ q=>le_int q
theorem qu:g_ X (compareOp .Gt) (GJ fun i j=> .bl (decide (j<i))):=Hd fun _ _ _ _ _ _ _ q=>gt_int q
theorem DI:g_ X (compareOp .GtE) (GJ fun i j=> .bl (decide (j<=i))):=Hd fun _ _ _ _ _ _ _ q=>ge_int q
theorem B2:g_ X (compareOp .Lt) (fun x y H Q=> ∃i j,x= .str i/\y= .str j/\Q (.bl (decide (i.cps.toList<j.cps.toList))) H):=by
 intro pins s σ H x y v u Q I rx ry h
 obtain ⟨i,j,rfl,rfl,q⟩:=h
 obtain ⟨t,rfl⟩:=rx
 obtain ⟨t',rfl⟩:=ry
 exact lt_str (br I q rfl)
theorem B3:g_ X (compareOp .In) (fun x y H Q=> ∃i j,x= .str i/\y= .str j/\Q (.bl (!(Builtin.Str.occurrences j i 0 j.length 1).isEmpty)) H):=by
 intro pins s σ H x y v u Q I rx ry h
 obtain ⟨i,j,rfl,rfl,q⟩:=h
 obtain ⟨t,rfl⟩:=rx
 obtain ⟨t',rfl⟩:=ry
 exact in_str (br I q rfl)
theorem aM (b:Expr) {op:CmpOp} (h:op≠ .In:=by decide) (h2:op≠ .NotIn:=by decide):behindInMarks op b=false:=by
 have e1:(op==CmpOp.In)=false:=by cases op<;>first | rfl | exact absurd rfl h
 have e2:(op==CmpOp.NotIn)=false:=by cases op<;>first | rfl | exact absurd rfl h2
 cases b<;>simp[behindInMarks,e1,e2]
theorem gD {op:CmpOp} {r:R2} (ho:g_ X (compareOp op) r) (ha:PE X a ta) (hb:PE X b tb) (hm:behindInMarks op b=false):PE X (.Compare a [op] [b] pos) (Q_ r ta tb):=by
 intro pins s σ H Q I h
 exact wpAny_Compare1 (KC ha hb I h fun v u s2 x y H2 I2 rx ry q=>ho pins s2 σ H2 x y v u Q I2 rx ry q) hm
def OX (t:TE):TT:=fun σ H Q=>t σ H fun x H'=> ∃k,x= .bl k/\Q k H'
theorem aH {op:CmpOp} {r:R2} (ho:g_ X (compareOp op) r) (ha:PE X a ta) (hb:PE X b tb) (hm:behindInMarks op b=false):PT X (.Compare a [op] [b] pos) (OX (Q_ r ta tb)):=by
 intro pins s σ H Q I h
 refine wpAny_isTrue_Compare1 (b8 (ha pins s σ H _ I h) fun v s1 ⟨x,H1,I1,r1,q1⟩=>b8 (hb pins s1 σ H1 _ I1 q1) fun u s2 ⟨y,H2,I2,r2,q2⟩=>
  b8 (ho pins s2 σ H2 x y v u _ I2 r1 r2 q2) fun c s3 ⟨z,H3,I3,r3,k,e,q3⟩=>?_) hm
 subst e
 cases r3
 exact wpAny_truthy_bool ⟨H3,I3,q3⟩
def KD (r r':R2) (ta tb tc:TE):TE:=fun σ H Q=>ta σ H fun x H1=>tb σ H1 fun y H2=>r x y H2 fun z H3=> ∃k,z= .bl k/\
 (if k=true then tc σ H3 fun w' H4=>r' y w' H4 Q else Q (.bl false) H3)
theorem qv {op SN:CmpOp} {r r':R2} (ho:g_ X (compareOp op) r) (DB:g_ X (compareOp SN) r') (ha:PE X a ta) (hb:PE X b tb) (hc:PE X c tc)
  (hm:lastMarks [op,SN] [b,c]=false:=by with_unfolding_all rfl):PE X (.Compare a [op,SN] [b,c] pos) (KD r r' ta tb tc):=by
 intro pins s σ H Q I h
 refine Compare_chain (b8 (ha pins s σ H _ I h) fun v s1 ⟨x,H1,I1,r1,q1⟩=>chain_link (b8 (hb pins s1 σ H1 _ I1 q1) fun u s2 ⟨y,H2,I2,r2,q2⟩=>
  b8 (ho pins s2 σ H2 x y v u _ I2 r1 r2 q2) fun d s3 ⟨z,H3,I3,r3,k,e,q3⟩=>?_)) hm
 subst e
 cases r3
 refine wpAny_truthy_bool ?_
 cases k with
 | false=>exact ite_ff ⟨.bl false,H3,I3,rfl,q3⟩
 | true=>exact ite_tt (chain_last (b8 (hc pins s3 σ H3 _ I3 q3) fun w' s4 ⟨z',H4,I4,r4,q4⟩=>DB pins s4 σ H4 y z' u w' Q I4 r2 r4 q4))
def SO (K:PySem.W.Frag) (x:V) (H:Hp) (k:Bool):Prop:=
 match x with
 | .f_=>k=false
 | .bl b=>k=b
 | .int i=>k=(i != 0)
 | .str y=>y.length<=sizeLine/\k=((y.length:Int) != 0)
 | .Av y=>y.size<=sizeLine/\k=((y.size:Int) != 0)
 | .ref p=>(∃xs,bu K H p xs/\k=!xs.isEmpty)\/(∃xs,aX K H p xs/\k=!xs.isEmpty)\/ ∃aL,H p=some (.dK aL)/\k=!aL.isEmpty
 | _=>False
theorem yX {κ:Type} {aL:List (κ×V)} {vs:List (κ×Value)} (r:KV aL vs):(!vs.isEmpty)=!aL.isEmpty:=by
 cases r<;>rfl
theorem qw {xs:List V} {aJ:List Value} (r:Vals xs aJ):(!aJ.toArray.isEmpty)=!xs.isEmpty:=by
 cases r<;>simp
theorem gk:(sizeLine:Nat)<2 ^ 63:=by rw[sizeLine_eq];decide
theorem KG:SJ X (fun x H Q=> ∃k,SO X.K x H k/\Q k H):=by
 intro pins s σ H x v Q I rx h
 obtain ⟨k,e,q⟩:=h
 have hl:=gk
 have hs:sizeLine=16777216:=sizeLine_eq
 cases x with
 | f_=>
  cases rx
  have e':k=false:=e
  subst e'
  exact truthy_none ⟨H,I,q⟩
 | bl b=>
  cases rx
  have e':k=b:=e
  subst e'
  exact wpAny_truthy_bool ⟨H,I,q⟩
 | int i=>
  obtain ⟨t,rfl⟩:=rx
  have e':k=(i != 0):=e
  subst e'
  exact PySem.P.truthy_int ⟨H,I,q⟩
 | str y=>
  obtain ⟨t,rfl⟩:=rx
  obtain ⟨hy,e'⟩:y.length<=sizeLine/\k=((y.length:Int) != 0):=e
  subst e'
  exact PySem.P.truthy_str (by omega) ⟨H,I.tok _,q⟩
 | Av y=>
  obtain ⟨t,rfl⟩:=rx
  obtain ⟨hy,e'⟩:y.size<=sizeLine/\k=((y.size:Int) != 0):=e
  subst e'
  exact PySem.W.truthy_bytes (by omega) ⟨H,I.tok _,q⟩
 | ref p=>
  cases rx
  have e':(∃xs,bu X.K H p xs/\k=!xs.isEmpty)\/(∃xs,aX X.K H p xs/\k=!xs.isEmpty)\/ ∃aL,H p=some (.dK aL)/\k=!aL.isEmpty:=e
  rcases e' with ⟨xs,hx,e'⟩ | ⟨xs,hx,e'⟩ | ⟨aL,hx,e'⟩
  ·subst e'
   obtain ⟨aJ,r,pl,hz⟩:=I.list hx
   have hlen:=r.length
   exact wpAny_truthy_list pl.isList (by simp only[WR];omega) ⟨H,I.tok _,by rw[qw r];exact q⟩
  ·subst e'
   obtain ⟨aJ,r,pl,hz⟩:=I.tuple hx
   have hlen:=r.length
   exact truthy_tuple pl (by simp only[WR];omega) ⟨H,I.tok _,by rw[qw r];exact q⟩
  ·subst e'
   obtain ⟨hz,hS,vs,r,m⟩:aL.length<=sizeLine/\(p==sysModules)=false/\ ∃vs,KV aL vs/\s.heap.DictOf (cg X.prog X.w) p vs:=I.bX p _ hx
   have hlen:aL.length=vs.length:=Paired.length r
   exact wpAny_truthy_dict hS m (by omega) ⟨H,I.tok _,by rw[yX r];exact q⟩
 | _=>exact (show False from e).elim
theorem yY:g_ X (binaryOp .Add) (fun x y H Q=> ∃i j,x= .str i/\y= .str j/\i.length+j.length<=sizeLine/\Q (.str (i++j)) H):=by
 intro pins s σ H x y v u Q I rx ry h
 obtain ⟨i,j,rfl,rfl,hz,q⟩:=h
 obtain ⟨t,rfl⟩:=rx
 obtain ⟨t',rfl⟩:=ry
 exact add_str (fun t' tk=>⟨.str (i++j),H,I.tok _,⟨_,rfl⟩,q⟩) hz
theorem vals1 {x:V} {us:List Value} (r:Vals [x] us): ∃u,us=[u]/\RelV x u:=by
 cases r with
 | cons r1 r2=>cases r2;exact ⟨_,rfl,r1⟩
theorem vals2 {x y:V} {us:List Value} (r:Vals [x,y] us): ∃u w',us=[u,w']/\RelV x u/\RelV y w':=by
 cases r with
 | cons r1 r2=>
  cases r2 with
  | cons r3 r4=>cases r4;exact ⟨_,_,rfl,r1,r3⟩
theorem sZ (hc:X.calm=true):dZ X (.builtin "max") (fun xs H Q=> ∃i j,xs=[.int i, .int j]/\Q (.int (if j>i then j else i)) H):=by
 intro pins s σ H xs us Q I r h
 obtain ⟨i,j,rfl,q⟩:=h
 obtain ⟨u,w',rfl,⟨t,rfl⟩,⟨t',rfl⟩⟩:=vals2 r
 refine max_two_ints (I.ok.hd hc) fun h' tk k=>⟨_,H,I.kept k,?_,q⟩
 by_cases hj:j>i
 ·rw[if_pos hj,if_pos hj];exact ⟨_,rfl⟩
 ·rw[if_neg hj,if_neg hj];exact ⟨_,rfl⟩
theorem nG (hc:X.calm=true):dZ X (.builtin "min") (fun xs H Q=> ∃i j,xs=[.int i, .int j]/\Q (.int (if j<i then j else i)) H):=by
 intro pins s σ H xs us Q I r h
 obtain ⟨i,j,rfl,q⟩:=h
 obtain ⟨u,w',rfl,⟨t,rfl⟩,⟨t',rfl⟩⟩:=vals2 r
 refine min_two_ints (I.ok.hd hc) fun h' tk k=>⟨_,H,I.kept k,?_,q⟩
 by_cases hj:j<i
 ·rw[if_pos hj,if_pos hj];exact ⟨_,rfl⟩
 ·rw[if_neg hj,if_neg hj];exact ⟨_,rfl⟩
theorem B4:dZ X (.type "int") (fun xs H Q=>(∃i,xs=[.int i]/\Q (.int i) H)\/ ∃k,xs=[.bl k]/\Q (.int (if k then 1 else 0)) H):=by
 intro pins s σ H xs us Q I r h
 rcases h with ⟨i,rfl,q⟩ | ⟨k,rfl,q⟩
 ·obtain ⟨u,rfl,t,rfl⟩:=vals1 r
  exact call_int_int ⟨.int i,H,I,⟨_,rfl⟩,q⟩
 ·obtain ⟨u,rfl,r1⟩:=vals1 r
  cases r1
  exact call_int_bool ⟨.int (if k then 1 else 0),H,I.tok _,⟨_,rfl⟩,q⟩
theorem uO:dZ X (.type "str") (fun xs H Q=> ∃i,xs=[.int i]/\i.natAbs.log2<1920/\Q (.str (toString i)) H):=by
 intro pins s σ H xs us Q I r h
 obtain ⟨i,rfl,hz,q⟩:=h
 obtain ⟨u,rfl,t,rfl⟩:=vals1 r
 exact PySem.P.str_of_int hz ⟨.str _,H,I.tok _,⟨_,rfl⟩,q⟩
end
structure B5 (h:Heap) (x dx C:Addr) (mA:Str->Option Value):Prop where
 obj:h.get? x=some (PySem.W.instObj C dx)
 ns:h.Ns1 dx mA
 ne:dx≠x
theorem B6 {h:Heap} {dx:Addr} {mA:Str->Option Value} (n:h.Ns1 dx mA): ∃od,h.get? dx=some od/\ ∀name,PySem.W.lookIn name od=some (mA name):=by
 obtain ⟨o,es,ep,ho,hd,hk,_,hm⟩:=n
 refine ⟨o,ho,fun name=>?_⟩
 have e:=hm name
 unfold nsFind findBy at e
 rw[<-Array.find?_toList]at e
 unfold PySem.W.lookIn
 rw[hd]
 dsimp only
 split
 ·rename_i y q
  rw[q]at e
  exact congrArg some e
 ·rename_i q
  rw[q]at e
  have a:es.toList.any (·.refKey)=false:=by
   rw[Qd1]
   intro y hy
   obtain ⟨z,t,SQ⟩:=hk y (Array.mem_toList_iff.mp hy)
   simp[DictEntry.refKey,SQ]
  have a': ¬es.toList.any (·.refKey)=true:=by rw[a];exact Zz
  rw[if_neg a']
  exact congrArg some e
theorem B5.look {h:Heap} {x dx C:Addr} {mA:Str->Option Value} (I:B5 h x dx C mA): ∃od,PySem.W.InstAt h x (PySem.W.instObj C dx) C (some od)/\ ∀name,PySem.W.lookIn name od=some (mA name):=
 let ⟨od,ho,hl⟩:=B6 I.ns
 ⟨od,⟨I.obj,rfl,rfl,ho⟩,hl⟩
section
variable {prog:Program} {w:World} {A:Around} {E:Value->Shared->Prop} {s:Shared} {K:PySem.W.Frag} {x dx C f:Addr} {mA:Str->Option Value} {name:Str} {v:Value}
theorem get_map {expr:Bool} {Q:Value->Shared->Prop} (X:K.In s.heap) (I:B5 s.heap x dx C mA) (hg:PySem.W.plainGet K C name=true) (hh:PySem.W.hasDictIn K C=true)
  (ha:PySem.W.findIn K (.ref C) name=some none) (hv:mA name=some v) (WB:PySem.W.handedIn v=true) (h:Q v { s with toks:=s.toks+1 }):
  wpAny (model prog w) A (getAttr (.ref x) name expr) Q E s:=by
 obtain ⟨od,J,hl⟩:=I.look
 exact PySem.W.get_value X J (PySem.W.plainGet_of hg).1 (PySem.W.findObj_own hh ha rfl (by rw[hl,hv])) WB h
theorem Hf {ns:List Str} {Q:Unit->Shared->Prop} (X:K.In s.heap) (I:B5 s.heap x dx C mA)
  (hs:PySem.W.findIn K (.ref C) "__setattr__"=some (some (.builtin "object.__setattr__"))) (hp:PySem.W.plainOver K C=true) (ht:PySem.W.takerIn K C name=some none) (hh:PySem.W.hasDictIn K C=true)
  (hw:PySem.Within mA ns) (hsz:ns.length<=sizeLine)
  (h: ∀h',B5 h' x dx C (fun y=>if y=name then some v else mA y)->Heap.SameBut dx s.heap h'->Q () { s with heap:=h',toks:=s.toks+2 }):
  wpAny (model prog w) A (setAttr (.ref x) name v) Q E s:=by
 obtain ⟨od,J,hl⟩:=I.look
 refine PySem.W.set_plain X J hs (PySem.W.osa_open (s:={ s with toks:=s.toks+1 }) (r:=none) X J hp ht fun b=>?_)
 obtain ⟨cd,hc,Sl⟩:=PySem.W.any_some hh
 have hx:s.heap.get? x=some ⟨.ref C,some dx, .plain, #[]⟩:=I.obj
 refine wpAny_bind (wpAny_pure (wpAny_bind (wpAny_bind (wpAny_loadPart hx (wpAny_bind (PySem.W.Looks.here (s:={ s with toks:=s.toks+1 }) (PySem.W.looks_clsIn X hc) ?_))))))
 rw[Sl]
 refine wpAny_pure (a:=some dx) (wpAny_bind (wpAny_pure (wpAny_bind ?_)))
 refine wpAny_nsSet1 (s:={ s with toks:=s.toks+1 }) I.ns fun h' yZ OS=>?_
 obtain ⟨oD,YY,YZ,WC,WD,WE⟩:=yZ.count (PySem.Within.cons name v hw)
 refine wpAny_bind (wpAny_lookBehind WC (by rw[WD];exact pastItsLine_dict (ZN WE (by rw[ZR];omega))) ?_)
 exact wpAny_pure (h _ ⟨(OS.2 _ (Ne.symm I.ne)).trans I.obj,yZ,I.ne⟩ OS)
theorem DJ {R:Result->Shared->Prop} {vs:List Value} {kw:List (Str×Value)} (X:K.In s.heap) (hm:PySem.W.makesIn K C=true)
  (hi:PySem.W.findIn K (.ref C) "__init__"=some (some (.ref f))) (hf:PySem.W.typeIn K (.ref f)=some (.type "function"))
  (h:codeAny (model prog w) (A.under (.builtin "type.__call__" ⟨.ref C::vs,kw⟩)) (.call (.ref f) ⟨.ref (s.heap.objs.size+1)::vs,kw⟩) (PySem.W.InitBack (s.heap.objs.size+1) R)
   { s with heap:=(s.heap.push PySem.W.emptyDict).push (PySem.W.instObj C s.heap.objs.size) }):
  codeAny (model prog w) A (.call (.ref C) ⟨vs,kw⟩) R s:=by
 obtain ⟨hh,g,d,t,os⟩:=s
 exact PySem.W.make_core (PySem.W.makes_of X hm) (PySem.W.looks_findIn X hi) (fun self=>PySem.W.bind_fn X self hf) (.inl rfl) h
end
noncomputable def d_ (f:Str) (v:V):List (Str×V)->List (Str×V)
 | []=>[(f,v)]
 |(g,x)::r=>if g=f then (g,v)::r else (g,x)::d_ f v r
theorem aN (f g:Str) (v:V): ∀fs:List (Str×V),(d_ f v fs).lookup g=if g=f then some v else fs.lookup g
 | []=>by
  show List.lookup g [(f,v)]=_
  by_cases h:g=f
  ·have hb:(g==f)=true:=beq_iff_eq.mpr h
   simp only[List.lookup,hb,if_pos h]
  ·have hb:(g==f)=false:=beq_eq_false_iff_ne.mpr h
   simp only[List.lookup,hb,if_neg h]
 |(k,x)::r=>by
  have ih:=aN f g v r
  rw[show d_ f v ((k,x)::r)=(if k=f then (k,v)::r else (k,x)::d_ f v r) from rfl]
  by_cases hk:k=f
  ·rw[if_pos hk]
   by_cases h:g=k
   ·have hb:(g==k)=true:=beq_iff_eq.mpr h
    simp only[List.lookup,hb,if_pos (h.trans hk)]
   ·have hb:(g==k)=false:=beq_eq_false_iff_ne.mpr h
    simp only[List.lookup,hb,if_neg (fun e:g=f=>h (e.trans hk.symm))]
  ·rw[if_neg hk]
   by_cases h:g=k
   ·have hb:(g==k)=true:=beq_iff_eq.mpr h
    simp only[List.lookup,hb,if_neg (fun e:g=f=>hk (h.symm.trans e))]
   ·have hb:(g==k)=false:=beq_eq_false_iff_ne.mpr h
    simp only[List.lookup,hb]
    exact ih
theorem nH (f:Str) (v:V): ∀fs:List (Str×V),f∈(d_ f v fs).map (·.1)/\ ∀g,g∈fs.map (·.1)->g∈(d_ f v fs).map (·.1)
 | []=>⟨by simp[d_],fun g h=>by simp at h⟩
 |(k,x)::r=>by
  obtain ⟨i1,i2⟩:=nH f v r
  rw[show d_ f v ((k,x)::r)=(if k=f then (k,v)::r else (k,x)::d_ f v r) from rfl]
  by_cases hk:k=f
  ·rw[if_pos hk]
   subst hk
   exact ⟨by simp,fun g h=>by simpa using h⟩
  ·rw[if_neg hk]
   refine ⟨?_,fun g h=>?_⟩
   ·rw[ZC]
    exact Zs _ i1
   ·rw[ZC]at h ⊢
    rcases Zt.mp h with e | e
    ·exact Zt.mpr (.inl e)
    ·exact Zs _ (i2 g e)
theorem oH (f:Str) (v:V): ∀fs:List (Str×V),(d_ f v fs).length<=fs.length+1
 | []=>by simp[d_]
 |(k,x)::r=>by
  have ih:=oH f v r
  rw[show d_ f v ((k,x)::r)=(if k=f then (k,v)::r else (k,x)::d_ f v r) from rfl]
  by_cases hk:k=f
  ·rw[if_pos hk,ZR,ZR];omega
  ·rw[if_neg hk,ZR,ZR];omega
theorem kW.some_of {v:V} {o:Option Value} (r:kW (some v) o): ∃u,o=some u/\RelV v u:=by
 cases o with
 | none=>exact (show False from r).elim
 | some u=>exact ⟨u,rfl,r⟩
theorem B7 {v:V} {u:Value} (r:RelV v u):PySem.W.handedIn u=true:=by
 cases v with
 | f_=>cases (show u=Value.none from r);rfl
 | bl b=>cases (show u=Value.bool b from r);rfl
 | int i=>obtain ⟨t,e⟩:=(show ∃t,u=Value.int i t from r);cases e;rfl
 | str x=>obtain ⟨t,e⟩:=(show ∃t,u=Value.str x t from r);cases e;rfl
 | Av b=>obtain ⟨t,e⟩:=(show ∃t,u=Value.bytes b t from r);cases e;rfl
 | Q0 b=>obtain ⟨t,e⟩:=(show ∃t,u=Value.float b t from r);cases e;rfl
 | ref a=>cases (show u=Value.ref a from r);rfl
 | ty n=>cases (show u=Value.type n from r);rfl
section
variable {P:Program} {w:World} {H H':Hp} {h h':Heap} {a C dx:Addr} {fs Wr:List (Str×V)}
theorem AG (bX:kX P w H h) (e:H a=some (.ins C dx fs)): ∃mA,B5 h a dx C mA/\(∀f,kW (fs.lookup f) (mA f))/\PySem.Within mA (fs.map (·.1))/\fs.length<=1000/\H dx=some (.own a):=by
 obtain ⟨d,z,ne,ob,mA,n,r,q⟩:=(show cU P w H h a (.ins C dx fs) from bX a _ e)
 exact ⟨mA,⟨ob,n,ne⟩,r,q,z,d⟩
end
structure JB (K:PySem.W.Frag) (C:Addr):Prop where
 pg:PySem.W.plainGet K C Str.empty=true
 hd:PySem.W.hasDictIn K C=true
 po:PySem.W.plainOver K C=true
 sa:PySem.W.findIn K (.ref C) "__setattr__"=some (some (.builtin "object.__setattr__"))
theorem JB.get {K:PySem.W.Frag} {C:Addr} (c:JB K C) (f:Str):PySem.W.plainGet K C f=true:=c.pg
def eh (K:PySem.W.Frag) (C:Addr) (f:Str):Prop:=PySem.W.findIn K (.ref C) f=some none
theorem eh.OY {K:PySem.W.Frag} {C:Addr} {f:Str} (n:eh K C f):PySem.W.takerIn K C f=some none:=by
 unfold PySem.W.takerIn
 rw[show PySem.W.findIn K (.ref C) f=some none from n]
 rfl
section
variable {X:Cx} {pins:List (Addr×Obj)} {σ:St} {H:Hp} {s:Shared} {a C dx:Addr} {fs:List (Str×V)} {f:Str} {v:V} {A:Around} {E:Value->Shared->Prop}
theorem y0 {b:Bool} {Q:Value->Shared->Prop} (I:Inv X pins σ H s) (e:H a=some (.ins C dx fs)) (c:JB X.K C) (n:eh X.K C f) (l:fs.lookup f=some v)
  (h: ∀u s',Inv X pins σ H s'->RelV v u->Q u s'):wpAny (model X.prog X.w) A (getAttr (.ref a) f b) Q E s:=by
 obtain ⟨mA,O,r,_,_,_⟩:=AG I.bX e
 obtain ⟨u,hu,ru⟩:=kW.some_of (v:=v) (o:=mA f) (by rw[<-l];exact r f)
 exact get_map I.BX O (c.get f) c.hd n hu (B7 ru) (h u _ (I.tok _) ru)
theorem y6 {y:V} {u:Value} {Q:Unit->Shared->Prop} (I:Inv X pins σ H s) (e:H a=some (.ins C dx fs)) (c:JB X.K C) (n:eh X.K C f) (hl:fs.length<1000) (ry:RelV y u)
  (h: ∀s',Inv X pins σ (upd H a (.ins C dx (d_ f y fs))) s'->Q () s'):wpAny (model X.prog X.w) A (setAttr (.ref a) f u) Q E s:=by
 obtain ⟨mA,O,r,wi,_,ho⟩:=AG I.bX e
 have hz:(fs.map (·.1)).length<=sizeLine:=by rw[MO,sizeLine_eq];omega
 refine Hf I.BX O c.sa c.po n.OY c.hd wi hz fun h' O' sb=>h _ ?_
 have hd: ∃o,h'.get? dx=some o:=let ⟨o,_,_,e',_⟩:=O'.ns;⟨o,e'⟩
 refine I.write (x:=a) (e:=dx) (by rw[e];exact True.intro) (.inr ho) (fun b q hb z=>(sb.2 b hb).trans z) hd ?_
 refine ⟨by rw[au O.ne];exact ho,?_,O.ne,O'.obj,_,O'.ns,fun g=>?_,fun g hg=>?_⟩
 ·have:=oH f y fs;omega
 ·show kW ((d_ f y fs).lookup g) (if g=f then some u else mA g)
  rw[aN]
  by_cases q:g=f
  ·rw[if_pos q,if_pos q];exact ry
  ·rw[if_neg q,if_neg q];exact r g
 ·by_cases q:g=f
  ·rw[q];exact (nH f y fs).1
  ·refine (nH f y fs).2 g (wi g fun z=>hg ?_)
   show (if g=f then some u else mA g)=none
   rw[if_neg q];exact z
theorem Inv.made (I:Inv X pins σ H s):Inv X pins σ (upd (upd H s.heap.objs.size (.own (s.heap.objs.size+1))) (s.heap.objs.size+1) (.ins C s.heap.objs.size []))
  { s with heap:=(s.heap.push PySem.W.emptyDict).push (PySem.W.instObj C s.heap.objs.size) }:=by
 have e1:(s.heap.push PySem.W.emptyDict).get? s.heap.objs.size=some PySem.W.emptyDict:=Zw s.heap rfl
 have e2:((s.heap.push PySem.W.emptyDict).push (PySem.W.instObj C s.heap.objs.size)).get? (s.heap.objs.size+1)=some (PySem.W.instObj C s.heap.objs.size):=by
  have:=Zw (s.heap.push PySem.W.emptyDict) (o:=PySem.W.instObj C s.heap.objs.size) rfl
  rwa [Qce]at this
 have e3:(s.heap.push PySem.W.emptyDict).Ns s.heap.objs.size (fun _=>none):=⟨PySem.W.emptyDict, #[],_,e1,rfl,(fun e he=>absurd he (by simp)),fun _=>rfl⟩
 have I1:=I.laid (a:=s.heap.objs.size) (o:= .own (s.heap.objs.size+1)) (h':=s.heap.push PySem.W.emptyDict) (t':=s.toks) (fun b u q=>U4 _ q) (Ri _) ⟨_,e1⟩
 refine I1.laid (a:=s.heap.objs.size+1) (o:= .ins C s.heap.objs.size []) (t':=s.toks) (fun b u q=>U4 _ q) (Nat.le_of_eq (Qce _ _)) ?_
 have ne:s.heap.objs.size≠s.heap.objs.size+1:=ZE (Qau _)
 refine ⟨by rw[au ne,ag],WT _,ne,e2,fun _=>none,(Heap.Ns1.of_empty e3).at fun o q=>U4 _ q,fun _=>True.intro,fun y hy=>absurd rfl hy⟩
theorem Hg {prog:Program} {w:World} {env:Env} {e:Expr} {f:Str} {pos:Pos} {s:Shared} {Q:Value->Shared->Prop} (hb:attributeBase e f env (eval e env)=eval e env)
  (h:wpAny (model prog w) A (eval e env) (fun o s₁=>wpAny (model prog w) A (getAttr o f true) Q E s₁) E s):wpAny (model prog w) A (eval (.Attribute e f pos) env) Q E s:=
 Attribute_any_ h (by rw[arm_eval_Attribute,hb])
end
def OZ (K:PySem.W.Frag) (ta:TE) (f:Str):TE:=fun σ H Q=>ta σ H fun x H1=> ∃a C dx fs v,x= .ref a/\H1 a=some (.ins C dx fs)/\JB K C/\eh K C f/\fs.lookup f=some v/\Q v H1
def SR (K:PySem.W.Frag) (ta tv:TE) (f:Str):TS:=fun D σ H=>tv σ H fun y H1=>ta σ H1 fun x H2=> ∃a C dx fs,x= .ref a/\H2 a=some (.ins C dx fs)/\JB K C/\eh K C f/\fs.length<1000/\
 D.nx σ (upd H2 a (.ins C dx (d_ f y fs)))
section
variable {X:Cx} {o e value:Expr} {f:Str} {pos pos' O0:Pos} {ta tv:TE}
theorem KH (he:PE X e ta) (hb:attributeBase e f X.env (eval e X.env)=eval e X.env):PE X (.Attribute e f pos) (OZ X.K ta f):=by
 intro pins s σ H Q I h
 refine Hg hb (b8 (he pins s σ H _ I h) fun u s1 ⟨x,H1,I1,rx,a,C,dx,fs,v,ex,ea,c,n,l,q⟩=>?_)
 subst ex
 obtain rfl:u=Value.ref a:=rx
 exact y0 I1 ea c n l fun u' s2 I2 ru=>⟨v,H1,I2,ru,q⟩
theorem jr (ha:PE X o ta) (hv:PE X value tv) (hs:swapsWith value (some (.Attribute o f pos')) pos.line X.env=pure false):PS X (.Assign [.Attribute o f pos'] value pos) (SR X.K ta tv f):=by
 intro pins s σ H D I h
 refine plainObj_wpAny_Assign_Attribute (b8 (hv pins s σ H _ I h) fun u s1 ⟨y,H1,I1,ry,q⟩=>b8 (ha pins s1 σ H1 _ I1 q) fun ov s2 ⟨x,H2,I2,rx,a,C,dx,fs,ex,ea,c,n,l,q2⟩=>?_) hs
 subst ex
 obtain rfl:ov=Value.ref a:=rx
 exact y6 I2 ea c n l ry fun s3 I3=>⟨σ,_,I3,q2⟩
end
structure fh (k:Nat) (A:Around):Prop where
 hd:A.handled=none
 dp:A.depth+3*k+5<recursionLimit
 un:A.units+16*k+200<cLine
 gd:A.guards=some []
theorem fh.mono {j k:Nat} {A:Around} (r:fh k A) (h:j<=k):fh j A:=⟨r.hd,by have:=r.dp;omega,by have:=r.un;omega,r.gd⟩
theorem fh.deeper {k:Nat} {A:Around} (r:fh (k+1) A) (env:Env):fh k (A.deeper env):=
 ⟨r.hd,by have:=r.dp;show A.depth+1+3*k+5<_;omega,by have:=r.un;show A.units+3+16*k+200<_;omega,r.gd⟩
theorem y7 {A:Around} {C:Addr} {us:List Value} {kw:List (Str×Value)}:(A.under (.builtin "type.__call__" ⟨.ref C::us,kw⟩)).depth=A.depth+1:=by
 first | rfl | simp[Around.under,Code.weight,Code.isCreation,Code.isGuard,Code.isCaller,Code.frames,Code.isFrame,guardIds]
theorem y8 {A:Around} {C:Addr} {us:List Value} {kw:List (Str×Value)}:(A.under (.builtin "type.__call__" ⟨.ref C::us,kw⟩)).units=A.units+1:=by
 first | rfl | simp[Around.under,Code.cUnits,Code.frames,Code.isFrame]
theorem fh.make {k:Nat} {A:Around} (r:fh (k+1) A) (C:Addr) (us:List Value) (kw:List (Str×Value)):fh k (A.under (.builtin "type.__call__" ⟨.ref C::us,kw⟩)):=
 ⟨r.hd,by have:=r.dp;rw[y7];omega,by have:=r.un;rw[y8];omega,by first | exact r.gd | (simpa [Around.under,Code.guards,Code.isGuard,pushGuards,guardIds]using r.gd)⟩
theorem fh.depth {k:Nat} {A:Around} (r:fh k A):A.depth<recursionLimit:=by have:=r.dp;omega
theorem fh.units {k:Nat} {A:Around} (r:fh k A):A.units+64<cLine:=by have:=r.un;omega
def SU:TA:=fun _ H Q=>Q [] H
def O1 (ta:TE) (tr:TA):TA:=fun σ H Q=>ta σ H fun x H1=>tr σ H1 fun xs H2=>Q (x::xs) H2
section
variable {X:Cx} {e:Expr} {es:List Expr} {te:TE} {t:TA} {pos:Pos}
theorem ab:PA X [] SU:=fun _ _ _ _ H Q I h=>Calls.spliced_nil ⟨[],H,I, .nil,h⟩
theorem aa (ha:PE X e te) (hr:PA X es t) (hs:starEach (e::es) X.env=(false,eval e X.env)::starEach es X.env:=by rfl):PA X (e::es) (O1 te t):=by
 intro pos pins s σ H Q I h
 rw[hs]
 show wpAny _ _ (spliced ((false,eval e X.env)::backTo pos (starEach es X.env))) _ _ s
 refine Qee (b8 (ha pins s σ H _ I h) fun u s1 ⟨x,H1,I1,r1,q1⟩=>?_)
 exact b8 (hr pos pins s1 σ H1 _ I1 q1) fun us s2 ⟨xs,H2,I2,r2,q2⟩=>⟨x::xs,H2,I2, .cons r1 r2,q2⟩
def SV (t:TA):TE:=fun σ H Q=>t σ H fun xs H1=>xs.length<=sizeLine/\ ∀p,H1 p=none->Q (.ref p) (upd H1 p (.tup xs))
def SX (t:TA):TE:=fun σ H Q=>t σ H fun xs H1=>xs.length<=sizeLine/\ ∀p,H1 p=none->Q (.ref p) (upd H1 p (.lst xs))
theorem bP {x1} (h:PA X es t):PE X (.Tuple es x1 pos) (SV t):=by
 intro pins s σ H Q I hq
 refine wpAny_Tuple_spliced (b8 (h pos pins s σ H _ I hq) fun us s1 ⟨xs,H1,I1,r,z,q⟩=>⟨by rw[<-r.length];exact z,?_⟩)
 have hf:H1 s1.heap.objs.size=none:=I1.bX.fresh (Ri _)
 refine ⟨.ref s1.heap.objs.size,upd H1 s1.heap.objs.size (.tup xs),I1.laid (t':=s1.toks) (fun b u e=>U4 _ e) (Ri _) ?_,rfl,q _ hf⟩
 exact ⟨z,us,r,⟨_,Zw _ rfl,rfl,_,rfl⟩⟩
theorem cJ (h:PA X es t):PE X (.List es pos) (SX t):=by
 intro pins s σ H Q I hq
 refine wpAny_List_spliced (b8 (h pos pins s σ H _ I hq) fun us s1 ⟨xs,H1,I1,r,z,q⟩=>⟨by rw[<-r.length];exact z,?_⟩)
 have hf:H1 s1.heap.objs.size=none:=I1.bX.fresh (Ri _)
 refine ⟨.ref s1.heap.objs.size,upd H1 s1.heap.objs.size (.lst xs),I1.laid (t':=s1.toks) (fun b u e=>U4 _ e) (Ri _) ?_,rfl,q _ hf⟩
 exact ⟨z,us,0,r,Zw _ rfl⟩
end
abbrev Sp:=List V->Hp->VK->XK->Prop
abbrev B8:=List Env->Hp->Shared->XK->Value->Shared->Prop
structure y9 (P:Program) (w:World) (K:PySem.W.Frag) (mg:Str->Option Value) (base:Heap) (A:Around) (outer:List Env) (s:Shared) (H:Hp):Prop where
 frames:A.frames=some outer
 mod:Mod K mg base
 bs: ∀b o,base.get? b=some o->s.heap.get? b=some o/\H b=none
 G8:base.objs.size<=s.heap.objs.size
 oY:s.heap.FunFrames base outer
 Kk: ∀b∈Aw outer,H b=none
 bX:kX P w H s.heap
 bare:AllBare s.gens
def CE (outer:List Env) (P:Program) (w:World) (H:Hp) (s:Shared) (Q:VK) (u:Value) (s':Shared):Prop:=
 ∃v H',s'.os=s.os/\AllBare s'.gens/\Un (Aw outer) [] H H' s.heap s'.heap/\kX P w H' s'.heap/\RelV v u/\Q v H'
def CR (CX:B8) (outer:List Env) (P:Program) (w:World) (H:Hp) (s:Shared) (Q:VK) (E:XK) (r:Result) (s':Shared):Prop:=
 match r with
 | .ok (.ret u)=>CE outer P w H s Q u s'
 | .ok _=>False
 | .error e=>CX outer H s E e s'
structure bp (P:Program) (w:World) (K:PySem.W.Frag) (mg:Str->Option Value) (base:Heap) (CX:B8) (k:Nat) (f:Addr) (fd:FuncData) (ps:List Str) (sp:Sp):Prop where
 len: ∀vs H Q E,sp vs H Q E->vs.length=ps.length
 run: ∀(A:Around) (outer:List Env) (s:Shared) (H:Hp) (args:Args) (us:List Value) (vs:List V) (Q:VK) (E:XK),fh k A->y9 P w K mg base A outer s H->BindsTo s fd args (ps.zip us)->Vals vs us->sp vs H Q E->
  codeAny (model P w) A (.call (.ref f) args) (CR CX outer P w H s Q E) s
theorem y9.make {P:Program} {w:World} {K:PySem.W.Frag} {mg:Str->Option Value} {base:Heap} {A:Around} {outer:List Env} {s:Shared} {H:Hp} (e:y9 P w K mg base A outer s H) (C:Addr) (us:List Value) (kw:List (Str×Value)):
  y9 P w K mg base (A.under (.builtin "type.__call__" ⟨.ref C::us,kw⟩)) outer s H:=⟨by first | exact e.frames | (simpa [Around.under,Code.envs,Code.isFrame,pushEnvs]using e.frames),e.mod,e.bs,e.G8,e.oY,e.Kk,e.bX,e.bare⟩
section
variable {X:Cx} {pins:List (Addr×Obj)} {σ:St} {H:Hp} {s s':Shared}
theorem Inv.O2 (I:Inv X pins σ H s):y9 X.prog X.w X.K X.mg X.base X.A X.stack s H:=
 ⟨I.ok.frames,I.ok.mod,I.bs,ZN I.ok.G8 I.sz,I.stack,I.Ax,I.bX,I.bare⟩
theorem Inv.after {Q:VK} {u:Value} (I:Inv X pins σ H s) (h:CE X.stack X.prog X.w H s Q u s'):EP X pins σ Q u s':=by
 obtain ⟨v,H',os,bare,un,bX,r,q⟩:=h
 obtain ⟨hh,g,d,t,WG⟩:=s'
 obtain rfl:WG=s.os:=os
 exact ⟨v,H',I.call (h':=hh) (g':=g) (d':=d) (t':=t) (ch:=[]) un bX bare (fun b z=>absurd z (by simp)),r,q⟩
end
def O3 (sp:Sp) (dvs:List V) (E:XK) (t:TA):TE:=fun σ H Q=>t σ H fun vs H1=>sp (vs++dvs) H1 Q E
def O4 (C:Addr) (sp:Sp) (dvs:List V) (E:XK) (t:TA):TE:=fun σ H Q=>t σ H fun vs H1=> ∀x dx,H1 x=none->H1 dx=none->dx≠x->
 sp (.ref x::(vs++dvs)) (upd (upd H1 dx (.own x)) x (.ins C dx [])) (fun v H2=>v= .f_/\Q (.ref x) H2) E
def Binds (K:PySem.W.Frag) (fd:FuncData) (ps:List Str) (ds:List Value):Prop:=
 ∀(s:Shared) (us:List Value),K.In s.heap->(us++ds).length=ps.length->BindsTo s fd ⟨us,[]⟩ (ps.zip (us++ds))
theorem Binds.all {K:PySem.W.Frag} {fd:FuncData} {ps:List Str} (h: ∀us:List Value,us.length=ps.length->bindArgs fd ⟨us,[]⟩=pure (ps.zip us)):Binds K fd ps []:=fun s us _ hl=>by
 rw[ZV]at hl ⊢
 exact .of_eq (h us hl)
def Passes (CX:B8) (X:Cx) (E:XK):Prop:= ∀(pins:List (Addr×Obj)) (σ:St) (H:Hp) (s:Shared) (e:Value) (s':Shared),Inv X pins σ H s->CX X.stack H s E e s'->X.xe e s'
section
variable {X:Cx} {CX:B8} {k:Nat} {f C:Addr} {fd:FuncData} {ps:List Str} {sp:Sp} {dvs:List V} {ds:List Value} {E:XK} {x m:Str} {p pos apos:Pos} {e o:Expr} {es:List Expr} {ta:TE} {t:TA}
theorem y_ {pins:List (Addr×Obj)} {σ:St} {H:Hp} {s:Shared} {Q:VK} {us:List Value} {vs:List V} (F:bp X.prog X.w X.K X.mg X.base CX k f fd ps sp) (hr:fh k X.A) (hb:Binds X.K fd ps ds) (hd:Vals dvs ds) (hx:Passes CX X E)
  (I:Inv X pins σ H s) (r:Vals vs us) (h:sp (vs++dvs) H Q E):wpAny (model X.prog X.w) X.A (call (.ref f) us) (EP X pins σ Q) X.xe s:=by
 have r2:Vals (vs++dvs) (us++ds):=r.append hd
 have hl:(us++ds).length=ps.length:=by rw[<-r2.length];exact F.len _ _ _ _ h
 refine wpAny_call (codeAny_mono (F.run X.A X.stack s H ⟨us,[]⟩ (us++ds) (vs++dvs) Q E hr I.O2 (hb s us I.BX hl) r2 h) fun r s' hq=>?_)
 cases r with
 | error e=>exact hx pins σ H s e s' I hq
 | ok fl=>
  cases fl with
  | ret u=>exact I.after hq
  | next=>exact False.elim hq
  | brk=>exact False.elim hq
  | cont=>exact False.elim hq
theorem aj (F:bp X.prog X.w X.K X.mg X.base CX k f fd ps sp) (hr:fh k X.A) (hg:Gl X x) (hm:X.mg x=some (.ref f)) (hk:PySem.W.keepIn X.K (.ref f)=true) (hb:Binds X.K fd ps ds) (hd:Vals dvs ds) (hx:Passes CX X E)
  (ha:PA X (e::es) t) (KI:(x==("__debug__":Str))=false:=by decide) (he:starEach (e::es) X.env=(false,eval e X.env)::starEach es X.env:=by rfl) (j9:(backTo pos (starEach es X.env)).any (·.1)=false:=by rfl):
  PE X (.Call (.Name x p) (e::es) [] pos) (O3 sp dvs E t):=by
 intro pins s σ H Q I h
 refine wpAny_Call_Name_kw (uN I hg hm ?_ KI)
 refine Qco (h₀:=X.base) I.ok.mod.MK hk (b8 (ha pos pins s σ H _ I h) fun us s1 ⟨vs,H1,I1,r,q⟩=>⟨I1.BX,?_⟩) he j9
 exact y_ F hr hb hd hx I1 r q
structure Mk (K:PySem.W.Frag) (C f:Addr):Prop where
 makes:PySem.W.makesIn K C=true
 init:PySem.W.findIn K (.ref C) "__init__"=some (some (.ref f))
 fn:PySem.W.isFn K (.ref f)=true
 kp:PySem.W.keepIn K (.ref C)=true
theorem DK {pins:List (Addr×Obj)} {σ:St} {H:Hp} {s:Shared} {Q:VK} {us:List Value} {vs:List V} (M:Mk X.K C f) (F:bp X.prog X.w X.K X.mg X.base CX k f fd ps sp) (hr:fh (k+1) X.A) (hb:Binds X.K fd ps ds) (hd:Vals dvs ds)
  (hx:Passes CX X E) (I:Inv X pins σ H s) (r:Vals vs us)
  (h: ∀x dx,H x=none->H dx=none->dx≠x->sp (.ref x::(vs++dvs)) (upd (upd H dx (.own x)) x (.ins C dx [])) (fun v H2=>v= .f_/\Q (.ref x) H2) E):
  wpAny (model X.prog X.w) X.A (call (.ref C) us) (EP X pins σ Q) X.xe s:=by
 have hq:=h (s.heap.objs.size+1) s.heap.objs.size (I.bX.fresh (Qbf _)) (I.bX.fresh (Ri _)) (ZE (Qau _))
 have I2:=Inv.made (C:=C) I
 have r2:Vals (V.ref (s.heap.objs.size+1)::(vs++dvs)) (Value.ref (s.heap.objs.size+1)::(us++ds)):= .cons rfl (r.append hd)
 have hl:(Value.ref (s.heap.objs.size+1)::us++ds).length=ps.length:=by
  have e:=r2.length
  rw[F.len _ _ _ _ hq]at e
  exact e.symm
 refine wpAny_call (DJ (f:=f) I.BX M.makes M.init (beq_iff_eq.mp M.fn) (codeAny_mono (F.run _ X.stack _ _ ⟨Value.ref (s.heap.objs.size+1)::us,[]⟩ (Value.ref (s.heap.objs.size+1)::(us++ds)) _ _ E (hr.make C us [])
  (I2.O2.make C us []) (hb _ (Value.ref (s.heap.objs.size+1)::us) I2.BX hl) r2 hq) fun r s' O5=>?_))
 cases r with
 | error e=>exact hx pins σ _ _ e s' I2 O5
 | ok fl=>
  cases fl with
  | ret u=>
   obtain ⟨v,H',I3,rv,ev,q3⟩:=I2.after O5
   subst ev
   exact ⟨rv,⟨V.ref (s.heap.objs.size+1),H',I3,rfl,q3⟩⟩
  | next=>exact False.elim O5
  | brk=>exact False.elim O5
  | cont=>exact False.elim O5
theorem pX (M:Mk X.K C f) (F:bp X.prog X.w X.K X.mg X.base CX k f fd ps sp) (hr:fh (k+1) X.A) (hg:Gl X x) (hm:X.mg x=some (.ref C)) (hb:Binds X.K fd ps ds) (hd:Vals dvs ds) (hx:Passes CX X E)
  (ha:PA X (e::es) t) (KI:(x==("__debug__":Str))=false:=by decide) (he:starEach (e::es) X.env=(false,eval e X.env)::starEach es X.env:=by rfl) (j9:(backTo pos (starEach es X.env)).any (·.1)=false:=by rfl):
  PE X (.Call (.Name x p) (e::es) [] pos) (O4 C sp dvs E t):=by
 intro pins s σ H Q I h
 refine wpAny_Call_Name_kw (uN I hg hm ?_ KI)
 refine Qco (h₀:=X.base) I.ok.mod.MK M.kp (b8 (ha pos pins s σ H _ I h) fun us s1 ⟨vs,H1,I1,r,q⟩=>⟨I1.BX,?_⟩) he j9
 exact DK M F hr hb hd hx I1 r q
end
structure aE (N P:List Str) (sc:Scope):Prop where
 kind:sc.kind= .function
 co:sc.isCoroutine=false
 gen:sc.isGenerator=false
 nd:N.Nodup
 pre:N.take P.length=P
 par: ∀x∈P,sc.names.lookup x=some .local\/sc.names.lookup x=some .cell
 KJ: ∀y∈sc.names,y.2≠ .free
theorem s_ {kindOf:Str->Option NameKind} {x:Str}: ∀{binds:List (Str×Value)} {m:Str->Option Value},(∀v,(x,v)∉binds)->bindL kindOf binds m x=m x
 | [],_,_=>rfl
 |(n,v)::r,m,h=>by
  unfold bindL
  rw[s_ fun w hw=>h w (Zs _ hw)]
  split
  ·have:x≠n:=by rintro rfl;exact h v Zv
   simp[this]
  ·rfl
theorem tf {kindOf:Str->Option NameKind} {x:Str}: ∀{binds:List (Str×Value)} {m:Str->Option Value},(∀v,(x,v)∉binds)->bindC kindOf binds m x=m x
 | [],_,_=>rfl
 |(n,v)::r,m,h=>by
  unfold bindC
  rw[tf fun w hw=>h w (Zs _ hw)]
  split
  ·rfl
  ·have:x≠n:=by rintro rfl;exact h v Zv
   simp[this]
theorem tm {kindOf:Str->Option NameKind} {x:Str} {v:Value}: ∀{P:List Str} {vs:List Value} {i:Nat} {m:Str->Option Value},P.Nodup->P[i]? =some x->vs[i]? =some v->kindOf x=some .local->
  bindL kindOf (P.zip vs) m x=some v
 | [],_,_,_,_,h,_,_=>by simp at h
 | _::_,[],_,_,_,_,h,_=>by simp at h
 | p::P,w::vs,0,m,nd,h1,h2,hk=>by
  simp at h1 h2;subst h1;subst h2
  show bindL kindOf ((p,w)::P.zip vs) m p=_
  unfold bindL
  rw[s_ fun v hv=>(Z6.mp nd).1 (Qea hv).1,if_pos hk]
  simp
 | p::P,w::vs,i+1,m,nd,h1,h2,hk=>by
  show bindL kindOf ((p,w)::P.zip vs) m x=_
  unfold bindL
  exact tm (i:=i) (Z6.mp nd).2 (by simpa using h1) (by simpa using h2) hk
theorem tu {kindOf:Str->Option NameKind} {x:Str} {v:Value}: ∀{P:List Str} {vs:List Value} {i:Nat} {m:Str->Option Value},P.Nodup->P[i]? =some x->vs[i]? =some v->kindOf x≠some .local->
  bindC kindOf (P.zip vs) m x=some v
 | [],_,_,_,_,h,_,_=>by simp at h
 | _::_,[],_,_,_,_,h,_=>by simp at h
 | p::P,w::vs,0,m,nd,h1,h2,hk=>by
  simp at h1 h2;subst h1;subst h2
  show bindC kindOf ((p,w)::P.zip vs) m p=_
  unfold bindC
  rw[tf fun v hv=>(Z6.mp nd).1 (Qea hv).1,if_neg hk]
  simp
 | p::P,w::vs,i+1,m,nd,h1,h2,hk=>by
  show bindC kindOf ((p,w)::P.zip vs) m x=_
  unfold bindC
  exact tu (i:=i) (Z6.mp nd).2 (by simpa using h1) (by simpa using h2) hk
noncomputable def start (N:List Str) (vs:List V):St:=vs.map some++List.replicate (N.length - vs.length) none
noncomputable def B9 (CX:B8) (P:Program) (w:World) (K:PySem.W.Frag) (mg:Str->Option Value) (base:Heap) (N:List Str) (qual:Str) (scope:Scope) (f:Addr) (cd:Value) (A:Around) (outer:List Env) (s:Shared) (H:Hp) (E:XK):Cx where
 prog:=P
 w:=w
 K:=K
 mg:=mg
 base:=base
 A:=A.deeper (envOfC qual scope s.heap.objs.size f cd)
 N:=N
 s₀:=s
 H₀:=H
 env:=envOfC qual scope s.heap.objs.size f cd
 outer:=outer
 stack:=envOfC qual scope s.heap.objs.size f cd::outer
 ex:=[]
 calm:=true
 fn:=fun _=>true
 pn:=[]
 xe:=fun e s'=>wpAny (model P w) (A.deeper (envOfC qual scope s.heap.objs.size f cd)) (leaving (envOfC qual scope s.heap.objs.size f cd) e) (fun _ O6=>CX outer H s E e O6) (fun e' O6=>CX outer H s E e' O6) s'
theorem xb {sc:Scope} {n:Nat} {x:Str} (h:sc.names.lookup x=some .cell): ∃c,(cellsFrom n sc.names []).lookup x=some c:=by
 have q:=PySem.W.cellsFrom_some sc.names n [] (.inl h)
 exact Option.isSome_iff_exists.mp q
theorem B_ {CX:B8} {P:Program} {w:World} {K:PySem.W.Frag} {mg:Str->Option Value} {base:Heap} {N ps:List Str} {qual:Str} {scope:Scope} {f:Addr} {cd:Value} {A:Around} {outer:List Env} {s s1:Shared} {H:Hp} {E:XK} {us:List Value} {vs:List V}
  (S:aE N ps scope) (hd:A.handled=none) (e0:y9 P w K mg base A outer s H) (hl:vs.length=ps.length) (r:Vals vs us)
  (x:InCallC s s.heap.objs.size (bindL (envOfC qual scope s.heap.objs.size f cd).kindOf (ps.zip us) fun _=>none) (cellsFrom (s.heap.objs.size+1) scope.names []) (bindC (envOfC qual scope s.heap.objs.size f cd).kindOf (ps.zip us) fun _=>none) s1):
  Inv (B9 CX P w K mg base N qual scope f cd A outer s H E) [] (start N vs) H s1:=by
 have j9:ps.length<=N.length:=by have:=congrArg List.length S.pre;rw[ZG]at this;omega
 obtain ⟨h1,tk,rfl,hk⟩:=x.done
 have O7: ∀b:Addr,b∉(B9 CX P w K mg base N qual scope f cd A outer s H E).ex:=fun b z=>absurd (show b∈([]:List Addr) from z) (by simp)
 refine ⟨⟨e0.mod,S.kind,rfl,rfl,Ri _,fun y z c h1 h2=>?_,fun y hy=>?_,fun y c _ h=>?_,fun _=>hd,Around.frames_deeper e0.frames, .inr ⟨rfl,rfl⟩,fun b z=>absurd z (O7 b),e0.bs,e0.G8,fun b _ _=>O7 b,fun b z=>absurd z (O7 b),e0.oY,e0.Kk⟩,
  rfl,e0.bare,Un.kept hk,⟨_,x.toInCall.ns,fun i y v h1 h2 h3=>?_⟩,fun y c h=>⟨_,x.cell y c h⟩,e0.bX.fresh (Ri _),fun y c h=>?_,fun p hp=>absurd (show p∈([]:List (Addr×Obj)) from hp) (by simp),e0.bX.kept hk,?_⟩
 ·exact name_of_addr x.apart (Qbv h1) (Qbv h2)
 ·have hy:scope.names.lookup y=some .cell\/scope.names.lookup y=some .free:=hy
  rcases hy with hy | hy
  ·exact xb hy
  ·exact absurd rfl (S.KJ _ (Qbv hy))
 ·exact Z4 (x.above y c (Qbv h))
 ·have hi:i<vs.length:=by
   unfold start at h2
   by_cases hi:i<vs.length
   ·exact hi
   ·rw[Qag (by simpa using hi)]at h2
    rw[List.getElem?_replicate]at h2
    split at h2<;>cases h2
  have ha:vs[i]? =some v:=by
   unfold start at h2
   rw[Z7 (by simpa using hi),Y5]at h2
   cases e:vs[i]? with
   | none=>rw[e]at h2;cases h2
   | some a=>rw[e]at h2;cases h2;rfl
  obtain ⟨u,hu,rv⟩:=r.get ha
  have hp:ps[i]? =some y:=by
   rw[<-S.pre,List.getElem?_take_of_lt (by omega)];exact h1
  have UW:ps.Nodup:=by rw[<-S.pre];exact S.nd.sublist (List.take_sublist _ _)
  refine ⟨u,rv,?_⟩
  rcases S.par y (Y4 hp) with k | k
  ·exact .inl ⟨k,tm UW hp hu k⟩
  ·obtain ⟨c,e⟩:=xb (n:=s.heap.objs.size+1) k
   refine .inr ⟨.inl k,c,e,?_⟩
   have q:=x.cell y c e
   rw[tu UW hp hu (by show scope.names.lookup y≠_;rw[k];decide)]at q
   exact q
 ·exact e0.bX.fresh (Z4 (x.above y c (Qbv h)))
 ·unfold start
  show _=N.length
  rw[U5,MO,List.length_replicate]
  omega
theorem O8 {CX:B8} {P:Program} {w:World} {K:PySem.W.Frag} {mg:Str->Option Value} {base:Heap} {k:Nat} {f:Addr} {name qual:Str} {params:Arguments} {body:List Stmt} {scope:Scope} {dV kV doc pm cx ct oc:Value} {an od:Option Addr}
  {GK:Array (Option Value)} {N ps:List Str} {sp:Sp} (lk:K.lookup f=some ⟨oc,od, .func (PySem.W.fnOf name qual params body scope dV kV doc pm an cx ct),GK⟩) (iB:PySem.W.codeIn K cx qual=true) (S:aE N ps scope)
  (len: ∀vs H Q E,sp vs H Q E->vs.length=ps.length)
  (DL: ∀(A:Around) (outer:List Env) (s:Shared) (H:Hp) (vs:List V) (Q:VK) (E:XK),fh k (A.deeper (envOfC qual scope s.heap.objs.size f cx))->sp vs H Q E->
   ∃t,yU (B9 CX P w K mg base N qual scope f cx A outer s H E) body t/\t { nx:=fun _ H'=>Q .f_ H',rt:=Q } (start N vs) H):
  bp P w K mg base CX (k+1) f (PySem.W.fnOf name qual params body scope dV kV doc pm an cx ct) ps sp:=by
 refine ⟨len,fun A outer s H args us vs Q E hr e0 hb r JC=>?_⟩
 have hl:=len _ _ _ _ JC
 have KX:K.In s.heap:=e0.mod.MK.keeps fun b o e=>(e0.bs b o e).1
 have lim:s.heap.NoLimit:=e0.mod.nolimit.keeps fun b o e=>(e0.bs b o e).1
 have i6: ∀y∈ps.zip us,scope.names.lookup y.1=some .local\/(scope.names.lookup y.1=some .cell/\((cellsFrom (s.heap.objs.size+1) scope.names []).lookup y.1).isSome=true):=fun ⟨n,v⟩ hy=>by
  rcases S.par n (Qea hy).1 with q | q
  ·exact .inl q
  ·exact .inr ⟨q,PySem.W.cellsFrom_some _ _ _ (.inl q)⟩
 refine codeAny_call_function hr.depth (KX _ _ lk) rfl S.co S.gen rfl (PySem.W.codeRec_of KX iB) (hb _ _ _ _ ?_)
 refine wpAny_newFunctionEnv_cells S.kind i6 fun env he s1 x=>?_
 subst he
 refine ⟨lim.keeps x.toInCall.keep,codeAny_func ?_⟩
 obtain ⟨t,ht,hq⟩:=DL A outer s H vs Q E (hr.deeper _) JC
 have I:Inv (B9 CX P w K mg base N qual scope f cx A outer s H E) [] (start N vs) H s1:=B_ S hr.hd e0 hl r x
 refine wpAny_mono (ht [] s1 (start N vs) H _ I hq) (fun fl s' hs=>?_) fun e s' hs=>hs
 have fin: ∀{σ':St} {H':Hp} {v:V} {u:Value},Inv (B9 CX P w K mg base N qual scope f cx A outer s H E) [] σ' H' s'->RelV v u->Q v H'->CE outer P w H s Q u s':=
  fun {σ' H' v u} J rv q=>⟨v,H',J.os,J.bare,J.base,J.bX,rv,q⟩
 cases fl with
 | ret u=>
  obtain ⟨v,σ',H',J,rv,q⟩:=hs
  exact fin J rv q
 | next=>
  obtain ⟨σ',H',J,q⟩:=hs
  exact fin (v:=V.f_) (u:=Value.none) J rfl q
 | brk=>
  obtain ⟨_,_,_,q⟩:=hs
  exact False.elim q
 | cont=>
  obtain ⟨_,_,_,q⟩:=hs
  exact False.elim q
section
variable {X:Cx} {x:Str} {p pos:Pos} {e:Expr} {es:List Expr} {t:TA} {id T:String} {r:List V->Hp->VK->Prop}
def UX (r:List V->Hp->VK->Prop) (t:TA):TE:=fun σ H Q=>t σ H fun vs H1=>r vs H1 Q
theorem aC (hc:dZ X (.builtin id) r) (hg:Gl X x) (hm:X.mg x=none) (hv:bootBuiltins x=some (.builtin id)) (ha:PA X (e::es) t) (hn:x≠"__name__":=by decide) (KI:(x==("__debug__":Str))=false:=by decide)
  (he:starEach (e::es) X.env=(false,eval e X.env)::starEach es X.env:=by rfl) (j9:(backTo pos (starEach es X.env)).any (·.1)=false:=by rfl):PE X (.Call (.Name x p) (e::es) [] pos) (UX r t):=by
 intro pins s σ H Q I h
 refine wpAny_Call_Name_kw (iE I hg hm hv ?_ hn KI)
 exact PyProof.Rows.callWith_builtin1 (b8 (ha pos pins s σ H _ I h) fun us s1 ⟨vs,H1,I1,r1,q1⟩=>hc pins s1 σ H1 vs us Q I1 r1 q1) he j9
theorem de (hc:dZ X (.type T) r) (hg:Gl X x) (hm:X.mg x=none) (hv:bootBuiltins x=some (.type T)) (ha:PA X (e::es) t) (hn:x≠"__name__":=by decide) (KI:(x==("__debug__":Str))=false:=by decide)
  (he:starEach (e::es) X.env=(false,eval e X.env)::starEach es X.env:=by rfl) (j9:(backTo pos (starEach es X.env)).any (·.1)=false:=by rfl):PE X (.Call (.Name x p) (e::es) [] pos) (UX r t):=by
 intro pins s σ H Q I h
 refine wpAny_Call_Name_kw (iE I hg hm hv ?_ hn KI)
 exact Qae (b8 (ha pos pins s σ H _ I h) fun us s1 ⟨vs,H1,I1,r1,q1⟩=>hc pins s1 σ H1 vs us Q I1 r1 q1) he j9
end
end L2
namespace HT
open PySem PyProof.Rows
section
variable {prog:Program} {w:World} {A:Around} {E:Value->Shared->Prop} {s:Shared}
theorem Hh {t b:Addr} {vs ws:List Value} {Q:Value->Shared->Prop} (ht:IsTup s.heap t vs.toArray) (hb:IsTup s.heap b ws.toArray) (hv:vs≠[])
  (h1:ws=[]->Q (.ref t) s) (h2:ws≠[]->Q (.ref s.heap.objs.size) { s with heap:=s.heap.push { cls:= .type "tuple",data:= .seq (vs++ws).toArray } })
  (hsz:vs.length+ws.length<=sizeLine):wpAny (model prog w) A (binaryOp .Add (.ref t) (.ref b)) Q E s:=by
 obtain ⟨⟨cls,dd,data,sl⟩,ho,hc,n,hd⟩:=id ht
 obtain ⟨⟨WI,UY,data2,UZ⟩,KL,Rb,n2,hd2⟩:=id hb
 simp only at hc hd Rb hd2
 subst hc hd Rb hd2
 have e:vs.toArray++ws.toArray=(vs++ws).toArray:=by simp
 by_cases hw:ws=[]
 ·exact concat_meets ⟨_,ho,rfl⟩ ⟨_,KL,rfl⟩ noFill_tuple_add seq_tuple_add PySem.F.slot_tuple_add PySem.F.entry_tuple_add (PySem.F.args_tuple_add_2 _ _)
   (tuple_addW1 t b vs.toArray ws.toArray n n2 dd UY sl UZ (by simpa using hv) (by simp[hw])) ⟨ho,KL,h1 hw⟩
 ·refine concat_meets ⟨_,ho,rfl⟩ ⟨_,KL,rfl⟩ noFill_tuple_add seq_tuple_add PySem.F.slot_tuple_add PySem.F.entry_tuple_add (PySem.F.args_tuple_add_2 _ _)
   (tuple_addW2 t b vs.toArray ws.toArray n n2 dd UY sl UZ (by simpa using hv) (by simpa using hw) (by rw[WR,WR];exact hsz)) ⟨ho,KL,?_⟩
  rw[e]
  exact h2 hw
noncomputable def i7 (n d:Nat):Option Int->Nat
 | none=>d
 | some v=>if v<0 then (v+(n:Int)).toNat else min v.toNat n
theorem lY (n d:Nat):i7 n d none=d:=rfl
theorem gE (n d k:Nat):i7 n d (some (k:Int))=min k n:=by
 show (if (k:Int)<0 then ((k:Int)+(n:Int)).toNat else min (k:Int).toNat n)=min k n
 rw[if_neg (by omega),U6]
theorem KN (n d:Nat) (hd:d<=n) (o:Option Int):i7 n d o<=n:=by
 cases o with
 | none=>exact hd
 | some v=>
  show (if v<0 then (v+(n:Int)).toNat else min v.toNat n)<=n
  by_cases hv:v<0
  ·rw[if_pos hv];omega
  ·rw[if_neg hv];exact Nat.min_le_right _ _
end
end HT
namespace L2
open PySem PySem.Spec PyProof.Rows
abbrev TO:=St->Hp->(Option Int->Hp->Prop)->Prop
def PO (X:Cx) (e:Option Expr) (t:TO):Prop:=
 ∀(pins:List (Addr×Obj)) (s:Shared) (σ:St) (H:Hp) (Q:Option Int->Hp->Prop),Inv X pins σ H s->t σ H Q->
  wpAny (model X.prog X.w) X.A (evalPart e X.env) (fun u s'=> ∃o H',Inv X pins σ H' s'/\IsPart u o/\Q o H') X.xe s
def Hi:TO:=fun _ H Q=>Q none H
def O9 (t:TE):TO:=fun σ H Q=>t σ H fun x H1=> ∃i,x= .int i/\Q (some i) H1
section
variable {X:Cx} {e:Expr} {te:TE} {lo hi:Option Expr} {tl th:TO} {pos p2:Pos}
theorem dH:PO X none Hi:=by
 intro pins s σ H Q I h
 rw[evalPart_none]
 exact wpAny_pure ⟨none,H,I, .none,h⟩
theorem bM (h:PE X e te):PO X (some e) (O9 te):=by
 intro pins s σ H Q I hw
 rw[evalPart_some]
 refine b8 (h pins s σ H _ I hw) fun u s1 ⟨x,H1,I1,r1,q1⟩=>?_
 obtain ⟨i,rfl,q⟩:=q1
 obtain ⟨t,rfl⟩:=r1
 exact ⟨some i,H1,I1, .int i t,q⟩
def Rc (X:Cx) (r:V->Option Int->Option Int->Hp->VK->Prop):Prop:=
 ∀(pins:List (Addr×Obj)) (s:Shared) (σ:St) (H:Hp) (x:V) (v vl vu:Value) (lo hi:Option Int) (sl:Addr) (Q:VK),Inv X pins σ H s->RelV x v->s.heap.IsSliceOf sl vl vu .none->IsPart vl lo->IsPart vu hi->r x lo hi H Q->
  ∃T id,typeLookup (.type T) "__getitem__"=pure (some (.builtin id))/\s.TypeIs v T/\wpAny (model X.prog X.w) X.A (getItem v (.ref sl)) (EP X pins σ Q) X.xe s
def WJ (r:V->Option Int->Option Int->Hp->VK->Prop) (te:TE) (tl th:TO):TE:=fun σ H Q=>te σ H fun x H1=>tl σ H1 fun l H2=>th σ H2 fun u H3=>r x l u H3 Q
theorem bV {r:V->Option Int->Option Int->Hp->VK->Prop} (hr:Rc X r) (he:PE X e te) (hl:PO X lo tl) (hu:PO X hi th):PE X (.Subscript e (.Slice lo hi none p2) pos) (WJ r te tl th):=by
 intro pins s σ H Q I h
 refine Subscript_ (b8 (he pins s σ H _ I h) fun v s1 ⟨x,H1,I1,r1,q1⟩=>?_)
 refine wpAny_Slice (b8 (hl pins s1 σ H1 _ I1 q1) fun vl s2 ⟨l,H2,I2,pl,q2⟩=>b8 (hu pins s2 σ H2 _ I2 q2) fun vu s3 ⟨u,H3,I3,pu,q3⟩=>?_)
 rw[evalPart_none]
 refine wpAny_pure ?_
 have I4:Inv X pins σ H3 { s3 with heap:=s3.heap.push { cls:= .type "slice",data:= .fields #[vl,vu, .none] } }:=I3.kept (t':=s3.toks) fun b ob q=>U4 _ q
 obtain ⟨T,id,hT,ht,hg⟩:=hr pins { s3 with heap:=s3.heap.push { cls:= .type "slice",data:= .fields #[vl,vu, .none] } } σ H3 x v vl vu l u s3.heap.objs.size Q I4 r1 (Heap.IsSliceOf.new ..) pl pu q3
 show wpAny (model X.prog X.w) X.A (subscriptTail e (.Slice lo hi none p2) v (.ref s3.heap.objs.size)) (EP X pins σ Q) X.xe { s3 with heap:=s3.heap.push { cls:= .type "slice",data:= .fields #[vl,vu, .none] } }
 exact tail_any (ops:=[.ref s3.heap.objs.size,v]) ht hT hg (by with_unfolding_all rfl)
noncomputable def o5 (xs:List V) (lo hi:Option Int):List V:=(xs.drop (HT.i7 xs.length 0 lo)).take (HT.i7 xs.length xs.length hi - HT.i7 xs.length 0 lo)
theorem xc (xs:List V) (lo hi:Option Int):(o5 xs lo hi).length<=xs.length:=by
 unfold o5
 rw[ZG,ZH]
 omega
def JD (K:PySem.W.Frag):R2:=fun x y H Q=> ∃a b xs ys,x= .ref a/\y= .ref b/\aX K H a xs/\aX K H b ys/\xs≠[]/\xs.length+ys.length<=sizeLine/\
 (ys=[]->Q (.ref a) H)/\(ys≠[]-> ∀p,H p=none->Q (.ref p) (upd H p (.tup (xs++ys))))
theorem Vals.uQ {xs:List V} {us:List Value} (r:Vals xs us):us=[]↔xs=[]:=by
 cases r with
 | nil=>simp
 | cons _ _=>simp
theorem Hj:g_ X (binaryOp .Add) (JD X.K):=by
 intro pins s σ H x y v u Q I rx ry h
 obtain ⟨a,b,xs,ys,rfl,rfl,ha,hb,hx,hz,q1,q2⟩:=h
 cases rx
 cases ry
 obtain ⟨aJ,r1,p1,_⟩:=I.tuple ha
 obtain ⟨xf,r2,p2,_⟩:=I.tuple hb
 refine HT.Hh p1 p2 (fun z=>hx (r1.uQ.mp z)) (fun z=>⟨.ref a,H,I,rfl,q1 (r2.uQ.mp z)⟩) (fun z=>?_) (by rw[<-r1.length, <-r2.length];exact hz)
 refine ⟨.ref s.heap.objs.size,_,I.laid (t':=s.toks) (o:= .tup (xs++ys)) (fun b ob q=>U4 _ q) (Ri _) ?_,rfl,q2 (fun w=>z (r2.uQ.mpr w)) _ (I.bX.fresh (Ri _))⟩
 exact ⟨by rw[U5];exact hz,_,r1.append r2,IsTup.new _ _⟩
end
noncomputable def GL (n:Nat) (i:Int):Option Nat:=if 0<=i then (if i<n then some i.toNat else none) else if -(n:Int)<=i then some (i+n).toNat else none
noncomputable def o6 {α:Type} (xs:List α) (i:Int):Option α:=(GL xs.length i).bind fun j=>xs[j]?
theorem AH {n:Nat} {i:Int} {j:Nat} (h:GL n i=some j):seqIndex? i n=some j/\j<n/\ -(n:Int)<=i/\i<n:=by
 unfold GL at h
 by_cases h0:0<=i
 ·rw[if_pos h0]at h
  by_cases h1:i<n
  ·rw[if_pos h1]at h
   have e:i.toNat=j:=Zy h
   exact ⟨by rw[seqIndex_of h0 h1,e],by omega,by omega,h1⟩
  ·rw[if_neg h1]at h;cases h
 ·rw[if_neg h0]at h
  by_cases h1: -(n:Int)<=i
  ·rw[if_pos h1]at h
   have e:(i+n).toNat=j:=Zy h
   exact ⟨by rw[seqIndex_neg (by omega) h1,e],by omega,h1,by omega⟩
  ·rw[if_neg h1]at h;cases h
theorem uR {α:Type} {xs:List α} {i:Int} {v:α} (h:o6 xs i=some v): ∃j,seqIndex? i xs.length=some j/\xs[j]? =some v/\j<xs.length/\ -(xs.length:Int)<=i/\i<xs.length:=by
 unfold o6 at h
 cases e:GL xs.length i with
 | none=>rw[e]at h;cases h
 | some j=>
  rw[e]at h
  obtain ⟨h1,h2,h3,h4⟩:=AH e
  exact ⟨j,h1,h,h2,h3,h4⟩
theorem bC {α:Type} {xs:List α} {j:Nat} {v:α} (h:xs[j]? =some v):o6 xs (j:Int)=some v:=by
 have hj:j<xs.length:=(K4.mp h).1
 have e:GL xs.length (j:Int)=some j:=by
  unfold GL
  rw[if_pos (by omega),if_pos (by omega)];simp
 unfold o6;rw[e];exact h
theorem DM {α:Type} (xs:List α) (v:α):o6 (xs++[v]) (-1)=some v:=by
 have hl:(xs++[v]).length=xs.length+1:=by simp
 have e:GL (xs++[v]).length (-1)=some xs.length:=by
  unfold GL
  rw[hl,if_neg (by decide),if_pos (by omega)]
  congr 1
  omega
 unfold o6
 rw[e]
 show (xs++[v])[xs.length]? =some v
 simp
def Hk (b:Expr):Prop:= ∀o i,subscripted b false o i=operate [o,i] (getItem o i)
def KO (X:Cx) (r:R2):Prop:=
 ∀(value slice:Expr) (pins:List (Addr×Obj)) (s:Shared) (σ:St) (H:Hp) (x y:V) (v u:Value) (Q:VK),Inv X pins σ H s->RelV x v->RelV y u->r x y H Q->
  subscripted slice false v u=operate [v,u] (getItem v u)->wpAny (model X.prog X.w) X.A (subscriptTail value slice v u) (EP X pins σ Q) X.xe s
def Ca (X:Cx) (id:String) (r:V->List V->Hp->VK->Prop):Prop:=
 ∀(pins:List (Addr×Obj)) (s:Shared) (σ:St) (H:Hp) (x:V) (xs:List V) (v:Value) (us:List Value) (Q:VK),Inv X pins σ H s->RelV x v->Vals xs us->r x xs H Q->
  wpAny (model X.prog X.w) X.A (call (.builtin id) (v::us)) (EP X pins σ Q) X.xe s
section
variable {X:Cx} {a b:Expr} {ta tb:TE} {pos:Pos}
theorem aA {r:R2} (hr:KO X r) (ha:PE X a ta) (hb:PE X b tb) (hs:Hk b):PE X (.Subscript a b pos) (Q_ r ta tb):=by
 intro pins s σ H Q I h
 exact Subscript_ (KC ha hb I h fun v u s2 x y H2 I2 rx ry q=>hr a b pins s2 σ H2 x y v u Q I2 rx ry q (hs _ _))
def O_ (K:PySem.W.Frag):R2:=fun x y H Q=> ∃p xs i v,x= .ref p/\y= .int i/\bu K H p xs/\o6 xs i=some v/\Q v H
def Pa (K:PySem.W.Frag):R2:=fun x y H Q=> ∃p xs i v,x= .ref p/\y= .int i/\aX K H p xs/\o6 xs i=some v/\Q v H
def SY:R2:=fun x y H Q=> ∃z i c,x= .str z/\y= .int i/\z.length<=sizeLine/\o6 z.cps.toList i=some c/\Q (.str ⟨#[c]⟩) H
theorem Hl:KO X (O_ X.K):=by
 intro value slice pins s σ H x y v u Q I rx ry h hs
 obtain ⟨p,xs,i,z,rfl,rfl,hq,he,q⟩:=h
 cases rx
 obtain ⟨t,rfl⟩:=ry
 obtain ⟨aJ,r,pl,hz⟩:=I.list hq
 obtain ⟨j,h1,h2,h3,h4,h5⟩:=uR he
 obtain ⟨w,ew,uS⟩:=r.get h2
 have hl:=r.length
 have hn:=gk
 have fin:EP X pins σ Q w s:=⟨z,H,I,uS,q⟩
 by_cases h0:0<=i
 ·have hj:i.toNat=j:=by
   rw[seqIndex_of h0 h5]at h1
   exact Zy h1
  exact item_listR pl.isList h0 (by omega) (by rw[hj];simpa using ew) fin hs
 ·have hj:(i+(aJ.toArray.size:Int)).toNat=j:=by
   rw[seqIndex_neg (by omega) h4]at h1
   rw[WR, <-hl]
   exact Zy h1
  exact subscriptTail_builtinR (x:=w) pl.isList.typeIs slot_list_getitem.lookup
   (wpAny_getItem_list_neg (Q:=fun r s'=>r=w/\EP X pins σ Q r s') pl.isList (by omega) (by rw[WR]<;>omega) (by omega) (by rw[hj];simpa using ew) ⟨rfl,fin⟩) hs
theorem KP:KO X (Pa X.K):=by
 intro value slice pins s σ H x y v u Q I rx ry h hs
 obtain ⟨p,xs,i,z,rfl,rfl,hq,he,q⟩:=h
 cases rx
 obtain ⟨t,rfl⟩:=ry
 obtain ⟨aJ,r,pl,hz⟩:=I.tuple hq
 obtain ⟨j,h1,h2,h3,h4,h5⟩:=uR he
 obtain ⟨w,ew,uS⟩:=r.get h2
 have hl:=r.length
 have hn:=gk
 have fin:EP X pins σ Q w s:=⟨z,H,I,uS,q⟩
 exact subscriptTail_builtinR (x:=w) pl.typeIs slot_tuple_getitem.lookup
  (getItem_tuple (j:=j) (Q:=fun r s'=>r=w/\EP X pins σ Q r s') pl (by omega) (by omega) (by rw[WR, <-hl];exact h1) (by simpa using ew) ⟨rfl,fin⟩) hs
theorem KQ:KO X SY:=by
 intro value slice pins s σ H x y v u Q I rx ry h hs
 obtain ⟨z,i,c,rfl,rfl,hz,he,q⟩:=h
 obtain ⟨t,rfl⟩:=rx
 obtain ⟨t',rfl⟩:=ry
 obtain ⟨j,h1,h2,h3,h4,h5⟩:=uR he
 have hl:z.cps.toList.length=z.length:=by simp[Str.length]
 rw[hl]at h1 h4 h5
 have hn:=gk
 exact tail_any (typeIs_str s z t) slot_str_getitem.lookup (getItem_str (c:=c) (by
  have e1:decide (i< -(2 ^ 63:Int))=false:=decide_eq_false (by omega)
  have e2:decide (i ≥ 2 ^ 63)=false:=decide_eq_false (by omega)
  rw[e1,e2,Qdq]) (by rw[h1];simpa using h2) ⟨.str ⟨#[c]⟩,H,I.tok _,⟨_,rfl⟩,q⟩) hs
theorem za (aJ:List Value) (n j:Nat) (u:Value):Obj.mapSeq (·.setIfInBounds j u) { cls:= .type "list",data:= .seq aJ.toArray n }={ cls:= .type "list",data:= .seq (aJ.set j u).toArray n }:=by
 simp[Obj.mapSeq]
theorem Inv.lst {pins:List (Addr×Obj)} {σ:St} {H:Hp} {s:Shared} {p:Addr} {xs:List V} (I:Inv X pins σ H s) (h:H p=some (.lst xs)):
  ∃(aJ:List Value) (n:Nat),Vals xs aJ/\s.heap.get? p=some { cls:= .type "list",data:= .seq aJ.toArray n }/\xs.length<=sizeLine:=by
 obtain ⟨z,aJ,n,r,e⟩:=I.bX p _ h
 exact ⟨aJ,n,r,e,z⟩
theorem Inv.KR {pins:List (Addr×Obj)} {σ:St} {H:Hp} {s:Shared} {p:Addr} {xs ys:List V} {aJ its':List Value} {n n':Nat} {f:Obj->Obj} (I:Inv X pins σ H s) (h:H p=some (.lst xs))
  (ho:s.heap.get? p=some { cls:= .type "list",data:= .seq aJ.toArray n }) (hf:f { cls:= .type "list",data:= .seq aJ.toArray n }={ cls:= .type "list",data:= .seq its'.toArray n' }) (r:Vals ys its') (hz:ys.length<=sizeLine) (t:Nat):
  Inv X pins σ (upd H p (.lst ys)) { s with heap:=s.heap.update p f,toks:=t }:=by
 have e:(s.heap.update p f).get? p=some { cls:= .type "list",data:= .seq its'.toArray n' }:=by
  rw[Qan f ho (by rw[hf]<;>rfl),hf]
 refine I.write (x:=p) (e:=p) (by rw[h];trivial) (.inl rfl) (fun b u hb q=>(Z3 _ _ (Ne.symm hb)).trans q) ⟨_,e⟩ ?_
 exact ⟨hz,its',n',r,e⟩
def Pb:V->V->V->Hp->(Hp->Prop)->Prop:=fun o i v H Q=> ∃p xs k j,o= .ref p/\i= .int k/\H p=some (.lst xs)/\GL xs.length k=some j/\Q (upd H p (.lst (xs.set j v)))
theorem set_list:OL X Pb:=by
 intro pins s σ H o i v ov iv u Q I ro ri rv h
 obtain ⟨p,xs,k,j,rfl,rfl,hp,hj,q⟩:=h
 cases ro
 obtain ⟨t,rfl⟩:=ri
 obtain ⟨aJ,n,r,ho,hz⟩:=I.lst hp
 obtain ⟨h1,h2,h3,h4⟩:=AH hj
 have hl:=r.length
 have hn:=gk
 have I':Inv X pins σ (upd H p (.lst (xs.set j v))) { s with heap:=s.heap.update p (Obj.mapSeq (·.setIfInBounds j u)) }:=
  I.KR hp ho (za aJ n j u) (r.set rv j) (by rw[List.length_set];exact hz) s.toks
 by_cases h0:0<=k
 ·have hk:k.toNat=j:=by
   rw[seqIndex_of h0 h4]at h1
   exact Zy h1
  exact PySem.W.ki_setAt ho h0 (by omega) (by rw[WR, <-hl];exact h4) (by rw[hk];exact ⟨_,I',q⟩)
 ·have hk:(k+(aJ.toArray.size:Int)).toNat=j:=by
   rw[seqIndex_neg (by omega) h3]at h1
   rw[WR, <-hl]
   exact Zy h1
  exact PySem.W.ki_setBack ho (by omega) (by rw[WR, <-hl];exact h3) (by omega) (by rw[hk];exact ⟨_,I',q⟩)
theorem uT (lo hi:Option Int) (n:Nat):(sliceBounds lo hi none n).1=((HT.i7 n 0 lo:Nat):Int)/\(sliceBounds lo hi none n).2.1=((HT.i7 n n hi:Nat):Int)/\(sliceBounds lo hi none n).2.2=1:=by
 refine ⟨?_,?_,rfl⟩
 ·cases lo with
  | none=>simp[sliceBounds,HT.i7]
  | some i=>
   simp only[sliceBounds,HT.i7,Option.getD_none,show (1:Int)>0 by decide,if_true]
   by_cases h:i<0
   ·simp only[h,if_true]<;>omega
   ·simp only[h,if_false]<;>omega
 ·cases hi with
  | none=>simp[sliceBounds,HT.i7]
  | some i=>
   simp only[sliceBounds,HT.i7,Option.getD_none,show (1:Int)>0 by decide,if_true]
   by_cases h:i<0
   ·simp only[h,if_true]<;>omega
   ·simp only[h,if_false]<;>omega
theorem sk (aJ:List Value) (lo hi:Option Int):slicePick aJ.toArray lo hi none=((aJ.drop (HT.i7 aJ.length 0 lo)).take (HT.i7 aJ.length aJ.length hi - HT.i7 aJ.length 0 lo)).toArray:=by
 obtain ⟨h1,h2,h3⟩:=uT lo hi aJ.toArray.size
 unfold slicePick
 rw[h1,h2,h3]
 simp only[sliceRange_one,pick_run,WR]<;>rfl
def Pc (K:PySem.W.Frag):V->Option Int->Option Int->Hp->VK->Prop:=fun x lo hi H Q=> ∃a xs,x= .ref a/\bu K H a xs/\ ∀p,H p=none->Q (.ref p) (upd H p (.lst (o5 xs lo hi)))
theorem Hm:Rc X (Pc X.K):=by
 intro pins s σ H x v vl vu lo hi sl Q I rx hs pl pu h
 obtain ⟨a,xs,rfl,hx,q⟩:=h
 cases rx
 obtain ⟨aJ,r,ht,hz⟩:=I.list hx
 have hlen:=r.length
 refine ⟨"list",_,slot_list_getitem.lookup,ht.isList.typeIs,?_⟩
 refine wpAny_getItem_list_slice ht.isList hs pl pu .none (by simp) ?_ (by rw[WR]<;>omega)
 rw[sk, <-hlen]
 refine ⟨.ref s.heap.objs.size,_,I.laid (t':=s.toks) (o:= .lst (o5 xs lo hi)) (fun b ob q=>U4 _ q) (Ri _) ?_,rfl,q _ (I.bX.fresh (Ri _))⟩
 exact ⟨ZN (xc xs lo hi) hz,_,0,(r.drop (HT.i7 xs.length 0 lo)).take (HT.i7 xs.length xs.length hi - HT.i7 xs.length 0 lo),Zw _ rfl⟩
noncomputable def lZ:V->Bool
 | .f_=>true
 | .bl _=>true
 | .int _=>true
 | .str _=>true
 | _=>false
noncomputable def Hn:V->V->Bool
 | .f_, .f_=>true
 | .bl a, .bl b=>a==b
 | .bl a, .int b=>(if a then 1 else 0)==b
 | .int a, .bl b=>a==(if b then 1 else 0)
 | .int a, .int b=>a==b
 | .str a, .str b=>a==b
 | _,_=>false
theorem KS {A:Around} {s:Shared} {y x:V} {u v:Value} (ry:RelV y u) (rx:RelV x v) (fy:lZ y=true) (fx:lZ x=true):SeqAt.EqAt A s u v (Hn y x):=by
 cases y with
 | f_=>
  cases ry
  cases x with
  | f_=>cases rx;exact SeqAt.EqAt.same _
  | bl b=>cases rx;exact SeqAt.EqAt.none_bool b
  | int b=>obtain ⟨t,rfl⟩:=rx;exact SeqAt.EqAt.none_int b t
  | str b=>obtain ⟨t,rfl⟩:=rx;exact SeqAt.EqAt.none_str b t
  | _=>exact absurd (show false=true from fx) Zz
 | bl a=>
  cases ry
  cases x with
  | f_=>cases rx;exact SeqAt.EqAt.bool_none a
  | bl b=>cases rx;exact SeqAt.EqAt.bool_bool a b
  | int b=>obtain ⟨t,rfl⟩:=rx;exact SeqAt.EqAt.bool_int a b t
  | str b=>obtain ⟨t,rfl⟩:=rx;exact SeqAt.EqAt.bool_str a b t
  | _=>exact absurd (show false=true from fx) Zz
 | int a=>
  obtain ⟨t',rfl⟩:=ry
  cases x with
  | f_=>cases rx;exact SeqAt.EqAt.int_none a t'
  | bl b=>cases rx;exact SeqAt.EqAt.int_bool a t' b
  | int b=>obtain ⟨t,rfl⟩:=rx;exact SeqAt.EqAt.int_int a t' b t
  | str b=>obtain ⟨t,rfl⟩:=rx;exact SeqAt.EqAt.int_str a t' b t
  | _=>exact absurd (show false=true from fx) Zz
 | str a=>
  obtain ⟨t',rfl⟩:=ry
  cases x with
  | f_=>cases rx;exact SeqAt.EqAt.str_none a t'
  | bl b=>cases rx;exact SeqAt.EqAt.str_bool a t' b
  | int b=>obtain ⟨t,rfl⟩:=rx;exact SeqAt.EqAt.str_int a t' b t
  | str b=>obtain ⟨t,rfl⟩:=rx;exact SeqAt.EqAt.str_str a t' b t
  | _=>exact absurd (show false=true from fx) Zz
 | _=>exact absurd (show false=true from fy) Zz
noncomputable def zc (x:V) (u:Value):Bool:=match u with
 | .none=>Hn .f_ x
 | .bool b=>Hn (.bl b) x
 | .int i _=>Hn (.int i) x
 | .str z _=>Hn (.str z) x
 | _=>false
theorem DN {x y:V} {u:Value} (r:RelV y u) (f:lZ y=true):zc x u=Hn y x:=by
 cases y with
 | f_=>cases r;rfl
 | bl b=>cases r;rfl
 | int i=>obtain ⟨t,rfl⟩:=r;rfl
 | str z=>obtain ⟨t,rfl⟩:=r;rfl
 | _=>exact absurd (show false=true from f) Zz
theorem l_ {x:V}: ∀{xs:List V} {us:List Value},Vals xs us->xs.all lZ=true->us.any (zc x)=xs.any fun y=>Hn y x
 | _,_, .nil,_=>rfl
 | y::xs,u::us, .cons r t,f=>by
  rw[List.all_cons,Z0]at f
  rw[Qa1,Qa1,DN r f.1,l_ t f.2]
theorem js {A:Around} {s:Shared} {x:V} {v:Value} (rx:RelV x v) (fx:lZ x=true): ∀{xs:List V} {us:List Value},Vals xs us->xs.all lZ=true-> ∀u∈us,SeqAt.EqAt A s u v (zc x u)
 | _,_, .nil,_=>fun u hu=>by cases hu
 | y::xs,u::us, .cons r t,f=>fun u' hu=>by
  rw[List.all_cons,Z0]at f
  rcases Zt.mp hu with rfl | hu
  ·rw[DN r f.1];exact KS r rx f.1 fx
  ·exact js rx fx t f.2 u' hu
noncomputable def MM (x:V) (xs:List V):Bool:=xs.any fun y=>Hn y x
def Rf (K:PySem.W.Frag) (neg:Bool):R2:=fun x y H Q=> ∃p xs,y= .ref p/\(bu K H p xs\/aX K H p xs)/\lZ x=true/\xs.all lZ=true/\Q (.bl (if neg then !MM x xs else MM x xs)) H
theorem Cb:g_ X (compareOp .In) (Rf X.K false):=by
 intro pins s σ H x y v u Q I rx ry h
 obtain ⟨p,xs,rfl,hq,fx,fs,q⟩:=h
 cases ry
 rcases hq with hq | hq
 ·obtain ⟨aJ,r,pl,hz⟩:=I.list hq
  refine SeqAt.in_listAt (zc x) pl.isList (fun w hw=>js rx fx r fs w (by simpa using hw)) ⟨.bl _,H,I,rfl,?_⟩
  rw[show aJ.toArray.any (zc x)=aJ.any (zc x) by simp,l_ r fs]
  exact q
 ·obtain ⟨aJ,r,pl,hz⟩:=I.tuple hq
  refine SeqAt.in_tupleAt (zc x) pl (fun w hw=>js rx fx r fs w (by simpa using hw)) ⟨.bl _,H,I,rfl,?_⟩
  rw[show aJ.toArray.any (zc x)=aJ.any (zc x) by simp,l_ r fs]
  exact q
theorem uU:g_ X (compareOp .NotIn) (Rf X.K true):=by
 intro pins s σ H x y v u Q I rx ry h
 obtain ⟨p,xs,rfl,hq,fx,fs,q⟩:=h
 cases ry
 rcases hq with hq | hq
 ·obtain ⟨aJ,r,pl,hz⟩:=I.list hq
  refine SeqAt.notIn_listAt (zc x) pl.isList (fun w hw=>js rx fx r fs w (by simpa using hw)) ⟨.bl _,H,I,rfl,?_⟩
  rw[show aJ.toArray.any (zc x)=aJ.any (zc x) by simp,l_ r fs]
  exact q
 ·obtain ⟨aJ,r,pl,hz⟩:=I.tuple hq
  refine SeqAt.notIn_tupleAt (zc x) pl (fun w hw=>js rx fx r fs w (by simpa using hw)) ⟨.bl _,H,I,rfl,?_⟩
  rw[show aJ.toArray.any (zc x)=aJ.any (zc x) by simp,l_ r fs]
  exact q
theorem uV:dZ X (.builtin "len") (fun xs H Q=> ∃p ys,xs=[.ref p]/\(bu X.K H p ys\/aX X.K H p ys)/\Q (.int ys.length) H):=by
 intro pins s σ H xs us Q I r h
 obtain ⟨p,ys,rfl,hq,q⟩:=h
 obtain ⟨u,rfl,rx⟩:=vals1 r
 cases rx
 have hn:=gk
 rcases hq with hq | hq
 ·obtain ⟨aJ,r',pl,hz⟩:=I.list hq
  have hlen:=r'.length
  exact Calls.call_len_list pl.isList (by simp only[WR]<;>omega) ⟨.int ys.length,H,I.tok _,⟨s.toks+1,by rw[WR,hlen]⟩,q⟩
 ·obtain ⟨aJ,r',pl,hz⟩:=I.tuple hq
  have hlen:=r'.length
  exact len_tuple pl (by simp only[WR]<;>omega) ⟨.int ys.length,H,I.tok _,⟨s.toks+1,by rw[WR,hlen]⟩,q⟩
theorem uW:dZ X (.builtin "len") (fun xs H Q=> ∃z,xs=[.str z]/\z.length<=sizeLine/\Q (.int z.length) H):=by
 intro pins s σ H xs us Q I r h
 obtain ⟨z,rfl,hz,q⟩:=h
 obtain ⟨u,rfl,t,rfl⟩:=vals1 r
 have hn:=gk
 exact len_str (by omega) ⟨.int z.length,H,I.tok _,⟨_,rfl⟩,q⟩
theorem uX:dZ X (.type "list") (fun xs H Q=> ∃p ys,xs=[.ref p]/\(bu X.K H p ys\/aX X.K H p ys)/\ ∀l,H l=none->Q (.ref l) (upd H l (.lst ys))):=by
 intro pins s σ H xs us Q I r h
 obtain ⟨p,ys,rfl,hq,q⟩:=h
 obtain ⟨u,rfl,rx⟩:=vals1 r
 cases rx
 have fin: ∀(aJ:List Value),Vals ys aJ->ys.length<=sizeLine-> ∀(h':Heap) (c':Nat),(∀b o',s.heap.get? b=some o'->h'.get? b=some o')->
   h'.get? s.heap.objs.size=some { cls:= .type "list",dict:=none,data:= .seq aJ.toArray c',slots:= #[] }->EP X pins σ Q (.ref s.heap.objs.size) { s with heap:=h' }:=fun aJ r' hz h' c' kp e=>
  ⟨.ref s.heap.objs.size,_,I.laid (t':=s.toks) kp (Ri _) (show cU X.prog X.w _ h' _ (.lst ys) from ⟨hz,aJ,c',r',e⟩),rfl,q _ (I.bX.fresh (Ri _))⟩
 rcases hq with hq | hq
 ·obtain ⟨aJ,r',pl,hz⟩:=I.list hq
  have hlen:=r'.length
  obtain ⟨o,ho,hc,n,hd⟩:=pl.isList
  exact call_list_seq p (.inl rfl) ho hc hd (fun h' c' kp e=>fin aJ r' hz h' c' kp e) (by simp only[WR]<;>omega)
 ·obtain ⟨aJ,r',pl,hz⟩:=I.tuple hq
  have hlen:=r'.length
  obtain ⟨o,ho,hc,n,hd⟩:=pl
  exact call_list_seq p (.inr rfl) ho hc hd (fun h' c' kp e=>fin aJ r' hz h' c' kp e) (by simp only[WR]<;>omega)
theorem sx:dZ X (.type "tuple") (fun xs H Q=> ∃p ys,xs=[.ref p]/\((bu X.K H p ys/\ ∀l,H l=none->Q (.ref l) (upd H l (.tup ys)))\/(aX X.K H p ys/\Q (.ref p) H))):=by
 intro pins s σ H xs us Q I r h
 obtain ⟨p,ys,rfl,h⟩:=h
 obtain ⟨u,rfl,rx⟩:=vals1 r
 cases rx
 rcases h with ⟨hq,q⟩ | ⟨hq,q⟩
 ·obtain ⟨aJ,r',pl,hz⟩:=I.list hq
  have hlen:=r'.length
  refine call_tuple_list pl.isList (fun h' kp=>?_) (by simp only[WR]<;>omega)
  have I1:Inv X pins σ H { s with heap:=h' }:=I.kept (t':=s.toks) kp
  have I2:Inv X pins σ (upd H h'.objs.size (.tup ys)) { s with heap:=h'.push { cls:= .type "tuple",data:= .seq aJ.toArray } }:=
   I1.laid (t':=s.toks) (fun b o e=>U4 _ e) (Ri _) (show cU X.prog X.w _ _ _ (.tup ys) from ⟨hz,aJ,r',IsTup.new _ _⟩)
  exact ⟨.ref h'.objs.size,_,I2,rfl,q _ (I1.bX.fresh (Ri _))⟩
 ·obtain ⟨aJ,r',pl,hz⟩:=I.tuple hq
  exact call_tuple_same pl ⟨.ref p,H,I,rfl,q⟩
def S0 (K:PySem.W.Frag) (T:String) (x:V) (H:Hp):Prop:=match x with
 | .str _=>T="str"
 | .int _=>T="int"
 | .ref p=>(T="list"/\ ∃xs,bu K H p xs)\/(T="tuple"/\ ∃o,K.lookup p=some o/\o.cls= .type "tuple"/\o.dict=none)\/
   (T="dict"/\((∃aL,H p=some (.dK aL))\/ ∃aL,H p=some (.dT aL)))\/(T="set"/\ ∃S n,H p=some (.set S n))
 | _=>False
theorem DO {pins:List (Addr×Obj)} {σ:St} {H:Hp} {s:Shared} {T:String} {x:V} {v:Value} (I:Inv X pins σ H s) (r:RelV x v) (ty:S0 X.K T x H):
  s.TypeIs v T/\ ∀a,v= .ref a-> ∃ob,s.heap.get? a=some ob/\ob.dict=none:=by
 cases x with
 | str z=>
  obtain ⟨t,rfl⟩:=r
  cases (show T="str" from ty)
  exact ⟨typeIs_str s z t,fun _ e=>nomatch e⟩
 | int i=>
  obtain ⟨t,rfl⟩:=r
  cases (show T="int" from ty)
  exact ⟨typeIs_int s i t,fun _ e=>nomatch e⟩
 | ref p=>
  cases r
  rcases ty with ⟨rfl,xs,hq⟩ | ⟨rfl,o,hk,hc,hd⟩ | ⟨rfl,hk⟩ | ⟨rfl,S,n,hk⟩
  ·obtain ⟨aJ,_,pl,_⟩:=I.list hq
   refine ⟨pl.isList.typeIs,fun a e=>?_⟩
   cases e
   obtain ⟨o,n,e,c,hd,_⟩:=pl
   exact ⟨o,e,hd⟩
  ·refine ⟨⟨o,I.BX p o hk,hc⟩,fun a e=>?_⟩
   cases e
   exact ⟨o,I.BX _ o hk,hd⟩
  ·have z: ∃o,s.heap.get? p=some o/\o.ExactDict:=by
    rcases hk with ⟨aL,hk⟩ | ⟨aL,hk⟩
    ·obtain ⟨_,_,_,_,o,_,_,e,ex,_⟩:=I.bX p _ hk
     exact ⟨o,e,ex⟩
    ·obtain ⟨_,_,_,_,o,_,_,e,ex,_⟩:=I.bX p _ hk
     exact ⟨o,e,ex⟩
   obtain ⟨o,e,ex⟩:=z
   refine ⟨⟨o,e,ex.1⟩,fun a e2=>?_⟩
   cases e2
   exact ⟨o,e,ex.2.1⟩
  ·obtain ⟨o,_,_,_,e,ex,_⟩:=I.bX p _ hk
   refine ⟨⟨o,e,ex.1⟩,fun a e2=>?_⟩
   cases e2
   exact ⟨o,e,ex.2.1⟩
 | _=>exact False.elim ty
def Pd (K:PySem.W.Frag) (T:String) (r:V->List V->Hp->VK->Prop) (to:TE):TE:=fun σ H Q=>to σ H fun x H1=>S0 K T x H1/\r x [] H1 Q
def U0 (K:PySem.W.Frag) (T:String) (r:V->List V->Hp->VK->Prop) (to:TE) (t:TA):TE:=fun σ H Q=>to σ H fun x H1=>S0 K T x H1/\t σ H1 fun xs H2=>r x xs H2 Q
variable {o e:Expr} {es:List Expr} {to:TE} {t:TA} {name:Str} {apos fI:Pos} {T id:String} {r:V->List V->Hp->VK->Prop}
theorem KU (pa:PlainAttrs T) (slot:Slot T name id) (KW:typeOf (.builtin id)=pure (.type "method_descriptor")) (hm:Ca X id r) (ho:PE X o to)
  (qx:attributeBase o name X.env (eval o X.env)=eval o X.env:=by rfl) (oI:(apos.endLine==fI.line)=true:=by rfl):PE X (.Call (.Attribute o name apos) [] [] fI) (Pd X.K T r to):=by
 intro pins s σ H Q I h
 refine wpAny_Call_method0_late qx oI (b8 (ho pins s σ H _ I h) fun v s1 ⟨x,H1,I1,r1,ty,q1⟩=>?_)
 obtain ⟨h1,h2⟩:=DO I1 r1 ty
 exact ⟨T,id,pa,slot,KW,h1,h2,Qdn rfl (PySem.evalArgs_none (hm pins s1 σ H1 x [] v [] Q I1 r1 .nil q1))⟩
theorem Pe (pa:PlainAttrs T) (slot:Slot T name id) (KW:typeOf (.builtin id)=pure (.type "method_descriptor")) (hm:Ca X id r) (ho:PE X o to) (ha:PA X (e::es) t)
  (qx:attributeBase o name X.env (eval o X.env)=eval o X.env:=by rfl)
  (xg:((backTo fI (starEach (e::es) X.env)).all (fun x=>!x.1)&&(backToKw fI (keywordEach [] X.env)).all (fun x=>x.1.isSome)
   &&decide ((e::es).length+([]:List Keyword).length+(if ([]:List Keyword).isEmpty then 0 else 1)<30))=true:=by rfl)
  (oI:(apos.endLine==fI.line)=true:=by rfl) (hs:starEach (e::es) X.env=(false,eval e X.env)::starEach es X.env:=by rfl) (zd:(backTo fI (starEach es X.env)).any (·.1)=false:=by rfl):
  PE X (.Call (.Attribute o name apos) (e::es) [] fI) (U0 X.K T r to t):=by
 intro pins s σ H Q I h
 refine wpAny_Call_method_late qx xg oI rfl (b8 (ho pins s σ H _ I h) fun v s1 ⟨x,H1,I1,r1,ty,q1⟩=>?_)
 obtain ⟨h1,h2⟩:=DO I1 r1 ty
 refine ⟨T,id,pa,slot,KW,h1,h2,?_⟩
 have hA:=ha fI pins s1 σ H1 _ I1 q1
 rw[hs]at hA ⊢
 refine Qdn (by show (false||(backTo fI (starEach es X.env)).any (·.1))=false;rw[zd]<;>rfl) (Calls.evalArgs_plain ?_)
 exact b8 hA fun us s2 ⟨vs,H2,I2,r2,q2⟩=>hm pins s2 σ H2 x vs v us Q I2 r1 r2 q2
end
def MN (X:Cx) (id:String) (r:V->List V->Hp->VK->Prop):Prop:=
 ∀(pins:List (Addr×Obj)) (s:Shared) (σ:St) (H:Hp) (x:V) (xs:List V) (v:Value) (us:List Value) (Q:VK),Inv X pins σ H s->RelV x v->Vals xs us->r x xs H Q->
  wpAny (model X.prog X.w) X.A (call (.builtin id) (v::us)) (EP X pins σ Q) X.xe s
theorem Vals.one: ∀{x:V} {us:List Value},Vals [x] us-> ∃u,us=[u]/\RelV x u
 | _,_, .cons r .nil=>⟨_,rfl,r⟩
theorem Vals.zero: ∀{us:List Value},Vals [] us->us=[]
 | _, .nil=>rfl
theorem Vals.dropLast {xs:List V} {us:List Value} (h:Vals xs us):Vals xs.dropLast us.dropLast:=by
 induction h with
 | nil=>exact .nil
 | cons r t ih=>
  cases t with
  | nil=>exact .nil
  | cons q t'=>exact .cons r ih
theorem Vals.eraseIdx: ∀{xs:List V} {us:List Value} (i:Nat),Vals xs us->Vals (xs.eraseIdx i) (us.eraseIdx i)
 | _,_,_, .nil=> .nil
 | _,_,0, .cons _ t=>t
 | _,_,i+1, .cons r t=> .cons r (Vals.eraseIdx i t)
theorem Vals.reverse {xs:List V} {us:List Value} (h:Vals xs us):Vals xs.reverse us.reverse:=by
 induction h with
 | nil=>exact .nil
 | cons r t ih=>rw[List.reverse_cons,List.reverse_cons];exact Vals.append ih (.cons r .nil)
theorem ze {α:Type} (l:List α):l.eraseIdx (l.length - 1)=l.dropLast:=by
 induction l with
 | nil=>rfl
 | cons a r ih=>
  cases r with
  | nil=>rfl
  | cons b r=>
   have e:(a::b::r).length - 1=((b::r).length - 1)+1:=by
    have h1:(a::b::r).length=r.length+2:=rfl
    have h2:(b::r).length=r.length+1:=rfl
    omega
   rw[e,Qbz,ih]
   all_goals rfl
theorem tw {α:Type}: ∀(l:List α) (i:Nat),(l.eraseIdx i).length<=l.length
 | [],_=>Ri _
 | _::_,0=>Qbf _
 | _::r,i+1=>Qa2 (tw r i)
section
variable {X:Cx} {pins:List (Addr×Obj)} {σ:St} {H:Hp} {s:Shared} {l b:Addr} {xs ys zs:List V}
theorem Inv.Cc {aJ its':List Value} {n:Nat} {f:Array Value->Array Value} {t':Nat} (I:Inv X pins σ H s) (hH:H l=some (.lst xs))
  (e:s.heap.get? l=some { cls:= .type "list",data:= .seq aJ.toArray n }) (hf:f aJ.toArray=its'.toArray) (hv:Vals ys its') (hz:ys.length<=sizeLine):
  Inv X pins σ (upd H l (.lst ys)) { s with heap:=s.heap.update l (Obj.mapSeq f),toks:=t' }:=by
 have q:=PySem.IsL.update e f
 rw[hf]at q
 refine I.write (x:=l) (e:=l) (by rw[hH];exact trivial) (.inl rfl) (fun b' u hb hu=>(Z3 s.heap (Obj.mapSeq f) (Ne.symm hb)).trans hu) ⟨_,q⟩ ?_
 exact ⟨hz,its',_,hv,q⟩
theorem Inv.S3 {aJ:List Value} {t':Nat} (I:Inv X pins σ H s) (hv:Vals ys aJ) (hz:ys.length<=sizeLine):
  Inv X pins σ (upd H s.heap.objs.size (.lst ys)) { s with heap:=s.heap.push { cls:= .type "list",data:= .seq aJ.toArray },toks:=t' }:=
 I.laid (fun _ _ q=>U4 _ q) (Ri _) ⟨hz,aJ,0,hv,Zw _ rfl⟩
theorem Inv.fresh (I:Inv X pins σ H s):H s.heap.objs.size=none:=I.bX.fresh (Ri _)
theorem Inv.uY (I:Inv X pins σ H s) (hH:H l=some (.lst xs)):xs.length<=sizeLine/\ ∃(aJ:List Value) (n:Nat),Vals xs aJ/\xs.length=aJ.length/\s.heap.get? l=some { cls:= .type "list",data:= .seq aJ.toArray n }:=by
 obtain ⟨z,aJ,n,r,e⟩:=I.bX l _ hH
 exact ⟨z,aJ,n,r,r.length,e⟩
theorem DQ {n:Nat} (h:n<=sizeLine):Builtin.List.listTooLong n=false:=by
 unfold Builtin.List.listTooLong
 exact decide_eq_false (by omega)
end
section
variable {X:Cx}
def Ho:V->List V->Hp->VK->Prop:=fun x vs H Q=> ∃l xs y,x= .ref l/\vs=[y]/\H l=some (.lst xs)/\xs.length<sizeLine/\Q .f_ (upd H l (.lst (xs++[y])))
theorem cy:MN X "list.append" Ho:=by
 intro pins s σ H x vs v us Q I rx rv h
 obtain ⟨l,xs,y,rfl,rfl,hH,hz,q⟩:=h
 cases rx
 obtain ⟨u,rfl,ru⟩:=rv.one
 obtain ⟨z,aJ,n,r,hl,e⟩:=I.uY hH
 refine call_meets F.slot_list_append ⟨_,e,rfl⟩ F.entry_list_append (F.args_list_append_2 _ _) (PySem.list_append l aJ.toArray n u (by rw[WR];omega)) ⟨e,?_⟩
 refine ⟨.f_,_,I.Cc (its':=aJ++[u]) hH e (by simp) (r.append (.cons ru .nil)) ?_,rfl,q⟩
 rw[U5,List.length_singleton]
 omega
def Hq:V->List V->Hp->VK->Prop:=fun x vs H Q=> ∃l b xs zs,x= .ref l/\vs=[.ref b]/\H l=some (.lst xs)/\H b=some (.lst zs)/\xs.length+zs.length<=sizeLine/\Q .f_ (upd H l (.lst (xs++zs)))
theorem nI:MN X "list.extend" Hq:=by
 intro pins s σ H x vs v us Q I rx rv h
 obtain ⟨l,b,xs,zs,rfl,rfl,hH,hB,hz,q⟩:=h
 cases rx
 obtain ⟨u,rfl,ru⟩:=rv.one
 cases ru
 obtain ⟨z,aJ,n,r,hl,e⟩:=I.uY hH
 obtain ⟨z2,xf,n2,r2,Hr,e2⟩:=I.uY hB
 have hsz:aJ.toArray.size+xf.toArray.size<=sizeLine:=by rw[WR,WR];omega
 have Ph: ¬(!aJ.toArray.isEmpty&&Builtin.List.listTooLong (aJ.toArray.size+xf.toArray.size))=true:=by
  rw[DQ hsz,Qcq]
  exact Zz
 refine call_meets F.slot_list_extend ⟨_,e,rfl⟩ F.entry_list_extend (F.args_list_extend_2 _ _)
  (AutoSeq1.list_extend_list_list_0 l aJ.toArray n b xf.toArray n2 Ph (by rw[WR];omega) (by omega)) ⟨e,e2,?_⟩
 refine ⟨.f_,_,I.Cc (its':=aJ++xf) hH e (by simp) (r.append r2) ?_,rfl,q⟩
 rw[U5]
 omega
def S4:V->List V->Hp->VK->Prop:=fun x vs H Q=> ∃l xs y,x= .ref l/\vs=[]/\H l=some (.lst xs)/\xs[xs.length - 1]? =some y/\Q y (upd H l (.lst xs.dropLast))
theorem KY:MN X "list.pop" S4:=by
 intro pins s σ H x vs v us Q I rx rv h
 obtain ⟨l,xs,y,rfl,rfl,hH,hy,q⟩:=h
 cases rx
 have sC:=rv.zero
 subst sC
 obtain ⟨z,aJ,n,r,hl,e⟩:=I.uY hH
 obtain ⟨u,hu,ru⟩:=r.get hy
 have WK:aJ.toArray[aJ.toArray.size - 1]? =some u:=by
  show aJ.toArray[aJ.length - 1]? =some u
  rw[<-Qdi, <-hl]
  exact hu
 refine call_meets F.slot_list_pop ⟨_,e,rfl⟩ F.entry_list_pop (F.args_list_pop_1 _) (MeetsSeq.list_pop_last l aJ.toArray n u WK (by rw[WR];omega)) ⟨e,?_⟩
 refine ⟨y,_,I.Cc (its':=aJ.dropLast) hH e ?_ r.dropLast ?_,ru,q⟩
 ·show aJ.toArray.eraseIdxIfInBounds (aJ.toArray.size - 1)=aJ.dropLast.toArray
  rw[WR,List.eraseIdxIfInBounds_toArray,ze]
 ·rw[List.length_dropLast]
  omega
def KZ:V->List V->Hp->VK->Prop:=fun x vs H Q=> ∃l xs i k y,x= .ref l/\vs=[.int i]/\H l=some (.lst xs)/\ -(2 ^ 63)<=i/\i<2 ^ 63/\seqIndex? i xs.length=some k/\xs[k]? =some y/\Q y (upd H l (.lst (xs.eraseIdx k)))
theorem qy:MN X "list.pop" KZ:=by
 intro pins s σ H x vs v us Q I rx rv h
 obtain ⟨l,xs,i,k,y,rfl,rfl,hH,h1,h2,hk,hy,q⟩:=h
 cases rx
 obtain ⟨u,rfl,ru⟩:=rv.one
 obtain ⟨t,rfl⟩:=ru
 obtain ⟨z,aJ,n,r,hl,e⟩:=I.uY hH
 obtain ⟨w,hw,uS⟩:=r.get hy
 refine call_meets F.slot_list_pop ⟨_,e,rfl⟩ F.entry_list_pop (F.args_list_pop_2 _ _)
  (MeetsSeq.list_pop_at l aJ.toArray n i t k w (fitsIndex_both h1 h2) (by rw[WR, <-hl];exact hk) (by rw[<-Qdi];exact hw) (by rw[WR];omega)) ⟨e,?_⟩
 refine ⟨y,_,I.Cc (its':=aJ.eraseIdx k) hH e ?_ (r.eraseIdx k) ?_,uS,q⟩
 ·show aJ.toArray.eraseIdxIfInBounds k=(aJ.eraseIdx k).toArray
  rw[List.eraseIdxIfInBounds_toArray]
 ·have:=tw xs k
  omega
def DR:V->List V->Hp->VK->Prop:=fun x vs H Q=> ∃l xs,x= .ref l/\vs=[]/\H l=some (.lst xs)/\Q .f_ (upd H l (.lst xs.reverse))
theorem zf:MN X "list.reverse" DR:=by
 intro pins s σ H x vs v us Q I rx rv h
 obtain ⟨l,xs,rfl,rfl,hH,q⟩:=h
 cases rx
 have sC:=rv.zero
 subst sC
 obtain ⟨z,aJ,n,r,hl,e⟩:=I.uY hH
 refine call_meets F.slot_list_reverse ⟨_,e,rfl⟩ F.entry_list_reverse (F.args_list_reverse_1 _) (AutoSeq1.list_reverse_list_0 l aJ.toArray n (by rw[WR];omega)) ⟨e,?_⟩
 refine ⟨.f_,_,I.Cc (its':=aJ.reverse) hH e (by simp) r.reverse ?_,rfl,q⟩
 rw[ZX]
 omega
def S5:R2:=fun x y H Q=> ∃l b xs zs,x= .ref l/\y= .ref b/\H l=some (.lst xs)/\H b=some (.lst zs)/\xs.length+zs.length<=sizeLine/\ ∀p,H p=none->Q (.ref p) (upd H p (.lst (xs++zs)))
theorem K0:g_ X (binaryOp .Add) S5:=by
 intro pins s σ H x y v u Q I rx ry h
 obtain ⟨l,b,xs,zs,rfl,rfl,hH,hB,hz,q⟩:=h
 cases rx
 cases ry
 obtain ⟨z,aJ,n,r,hl,e⟩:=I.uY hH
 obtain ⟨z2,xf,n2,r2,Hr,e2⟩:=I.uY hB
 refine PySem.P.add_list e e2 ?_ (by rw[WR,WR];omega)
 have ea:aJ.toArray++xf.toArray=(aJ++xf).toArray:=by simp
 rw[ea]
 exact ⟨.ref _,_,I.S3 (t':=s.toks) (r.append r2) (by rw[U5];omega),rfl,q _ I.fresh⟩
end
end L2
namespace U1
open PySem PySem.W PySem.Calls PyProof.Rows
theorem o7 {P:Params} {h:Heap}: ∀(ns:List Int) (vs:List Value),WellAll P h vs (ns.map WData.int)->IntsAre vs ns:=by
 intro ns
 induction ns with
 | nil=>
  intro vs w
  rw[List.map_nil]at w
  cases w
  exact .nil
 | cons n ns ih=>
  intro vs w
  rw[ZC]at w
  cases w with
  | cons a b=>
   cases a
   exact .cons _ _ (ih _ b)
theorem Cd {l:OpenLaw} {n:Nat} (hn:l.most=some n) {P:Params} {h:Heap} {args:List WData} {vals:List Value}
  (Hs:l.row.toRowW.claim.pre args=true) (zg:WellAll P h vals args):
  ∃a vs ns,vals=[Value.ref a]/\args=[WData.list (ns.map WData.int)]/\h.get? a=some { cls:= .type "list",data:= .seq vs.toArray }/\IntsAre vs ns/\ns.length<=n:=by
 have WL:WShape.hasAll [] args [.list .int]=true:=(pre_splitW Hs).1
 have hc:l.pre.holds [] { args:=args }=true:=(pre_splitW Hs).2
 obtain ⟨d,r,rfl,h1,h2⟩:=hasAllW_cons WL
 obtain rfl:=hasAllW_nil h2
 obtain ⟨xs,rfl,h3⟩:=hasW_list h1
 obtain ⟨ns,rfl⟩:=items_int h3
 have hlen:ns.length<=n:=by
  unfold OpenLaw.pre at hc
  have h4:(WTm.not (.lt (.lit (.int (n:Int))) (.len (.arg 0)))).holds [] { args:=[.list (ns.map .int)] }=true:=by
   have h4:=(holds_andW hc).1
   rw[hn]at h4
   exact h4
  have h5:=condW_of h4 (w_not (w_lt w_lit (w_len_list (w_arg rfl))))
  rw[MO]at h5
  refine Nat.le_of_not_lt fun q=>?_
  have q':(n:Int)<((ns.length:Nat):Int):=by omega
  first
   |(rw[decide_eq_true q']at h5;exact absurd h5 (by decide))
   |(simp at h5;omega)
 cases zg with
 | cons w1 w2=>
  cases w2
  cases w1 with
  | list ho Pj=>exact ⟨_,_,ns,rfl,rfl,ho,o7 ns _ Pj,hlen⟩
theorem Ce (l:OpenLaw) (args:List WData):l.row.toRowW.claim.post args (.bool true) args=true:=
 postW_of (r:=l.row.toRowW) (X:=(true==true))
  (show WShape.has [] (.bool true) .bool=true by first | rfl | decide | simp[WShape.has,WShape.arms,WShape.armsAll])
  (show (WTm.eq .res (.lit (.bool true))).value [] { args:=args,res:=some (.bool true),after:=args }=some (.bool (true==true)) from w_eq_bool (w_res rfl) w_lit) rfl
theorem xh {l:OpenLaw} {n:Nat} {q:Program} {loose:List Str} {XP:(Str->Option Value)->Heap->Prop} {YP:World->Heap->Prop} {d:DefRec}
  (hn:l.most=some n) (Pk:d.params.defaults=[])
  (call: ∀(w:World) (s₀ s₁:Shared) (mg mb:Str->Option Value) (fa:Addr) (o:Obj) (pm cd doc:Value) (a:Addr) (vs:List Value) (ns:List Int),
   Ground q loose [] XP w s₀ mg mb s₁.heap->YP w s₁.heap->
   s₁.heap.get? fa=some o->o.data= .func (docDef d.name d.params d.body d.scope pm cd doc)->s₁.heap.CodeRec cd d.name->mg d.name=some (.ref fa)->
   s₁.heap.get? a=some { cls:= .type "list",data:= .seq vs.toArray }->IntsAre vs ns->ns.length<=n->s₁.gens= #[]->
   codeAny (model l.prog w) callerA (.call (.ref fa) ⟨[.ref a],[]⟩) (fun r s'=>r= .ok (.ret (.bool true))/\OldK s₁.heap s'.heap/\s'.os=s₁.os/\AllBare s'.gens) s₁):
  WalkO q loose XP YP l.row.toRowW d [] (fun f vs=>PySem.call f vs):=by
 intro w s₀ s₁ mg mb G Y fa o pm cd doc dV kV ho hd iB hD hmg hg args vals as Hs WM Y1 zg Y2
 obtain rfl:dV= .none:=Dflts.none hD Pk
 obtain rfl:kV= .none:=Dflts.noKw hD
 obtain ⟨a,vs,ns,rfl,rfl,K1,hints,hlen⟩:=Cd hn Hs zg
 refine enter_call (codeAny_mono (call w s₀ s₁ mg mb fa o pm cd doc a vs ns G Y ho (fd_plain hd) iB hmg K1 hints hlen hg) fun r s' hq=>?_)
 obtain ⟨rfl,h2,h3,h4⟩:=hq
 exact ⟨.inl ⟨.bool true, .bool true,[],rfl,fun _=>rfl, .bool true,Ce l _,fun _=>⟨List.Pairwise.nil,fun _ hm=>(nomatch hm)⟩⟩,h2,h3,h4⟩
end U1
namespace L2
open PySem PySem.Spec PyProof.Rows
theorem tD: ∀{vs:List Value} {ns:List Int},IntsAre vs ns->Vals (ns.map V.int) vs
 | _,_, .nil=> .nil
 | _,_, .cons n t h=> .cons ⟨t,rfl⟩ (tD h)
def K2 (H:Hp):Prop:= ∀b,H b=none\/ ∃o xs,H b=some (.GF o (.lst xs))
theorem DS {P:Program} {w:World} {K:PySem.W.Frag} {mg mb:Str->Option Value} {CX:B8} {k:Nat} {fa a:Addr} {fd:FuncData} {x:Str} {sp:Sp} {s₁:Shared} {vs:List Value} {ns:List Int}
  (KX:K.In s₁.heap) (Rg:s₁.heap.Ns mainGlobals mg) (hb:s₁.heap.Ns builtinsNs mb) (WN: ∀x:Str,x≠"__name__"->mb x=bootBuiltins x) (S6:s₁.heap.NoLimit) (hg:s₁.gens= #[])
  (ha:s₁.heap.get? a=some { cls:= .type "list",data:= .seq vs.toArray }) (hi:IntsAre vs ns) (hl:ns.length<=sizeLine) (hr:fh k callerA)
  (F: ∀base:Heap,K.In base->base.Ns mainGlobals mg->bp P w K mg base CX k fa fd [x] sp) (Pl: ∀(s:Shared) (u:Value),BindsTo s fd ⟨[u],[]⟩ [(x,u)])
  (JC: ∀H:Hp,K2 H->bu K H a (ns.map V.int)->sp [.ref a] H (fun v _=>v= .bl true) fun _ _ _=>False)
  (S7: ∀H e s',CX [] H s₁ (fun _ _ _=>False) e s'->False):
  codeAny (model P w) callerA (.call (.ref fa) ⟨[.ref a],[]⟩) (fun r s'=>r= .ok (.ret (.bool true))/\OldK s₁.heap s'.heap/\s'.os=s₁.os/\AllBare s'.gens) s₁:=by
 have rv:=tD hi
 have S8:=hi.length
 -- from an abstract heap in U2 nothing but GI script may be tracked
 have core: ∀H:Hp,K2 H->bu K H a (ns.map V.int)->kX P w H s₁.heap->(∀b,H b≠none->b=a)->(H a≠none->K.lookup a=none)->
   codeAny (model P w) callerA (.call (.ref fa) ⟨[.ref a],[]⟩) (fun r s'=>r= .ok (.ret (.bool true))/\OldK s₁.heap s'.heap/\s'.os=s₁.os/\AllBare s'.gens) s₁:=by
  intro H hO hS bX hA hK
  have AI: ∀{b:Addr} {o:Obj},s₁.heap.get? b=some o->H b=none->(uM s₁.heap H).get? b=some o:=fun e n=>Dz e n
  have O7: ∀{b:Addr} {o:Obj} {es:Array DictEntry} {ep:Nat},s₁.heap.get? b=some o->o.data= .dict es ep->H b=none:=fun {b o es ep} e d=>by
   cases q:H b with
   | none=>rfl
   | some u=>
    have e':b=a:=hA b (by rw[q];simp)
    subst e'
    rw[ha]at e;cases e
    have d':Data.seq vs.toArray _=Data.dict es ep:=d
    cases d'
  have Rh: ∀{b:Addr} {m:Str->Option Value},s₁.heap.Ns b m->(uM s₁.heap H).Ns b m:=fun {b m} ⟨o,es,ep,e,d,r⟩=>⟨o,es,ep,AI e (O7 e d),d,r⟩
  have U3:K.In (uM s₁.heap H):=fun b o e=>AI (KX b o e) (by
   cases q:H b with
   | none=>rfl
   | some u=>
    have e':b=a:=hA b (by rw[q];simp)
    subst e'
    rw[hK (by rw[q];simp)]at e;cases e)
  have hM:Mod K mg (uM s₁.heap H):=⟨U3,Rh Rg,⟨mb,Rh hb,WN⟩,let ⟨mc,h1,h2⟩:=S6;⟨mc,Rh h1,h2⟩⟩
  have e0:y9 P w K mg (uM s₁.heap H) callerA [] s₁ H:=⟨rfl,hM,fun b o e=>G7 e,Nat.le_of_eq (BW _ _),trivial,fun b hb=>absurd (show b∈([]:List Addr) from hb) (by simp),bX, .of_eq hg⟩
  refine codeAny_mono ((F _ U3 (Rh Rg)).run callerA [] s₁ H ⟨[.ref a],[]⟩ [.ref a] [.ref a] _ _ hr e0 (Pl s₁ (.ref a)) (.cons rfl .nil) (JC H hO hS)) fun r s' h=>?_
  cases r with
  | error e=>exact (S7 H e s' h).elim
  | ok fl=>
   cases fl with
   | next=>exact False.elim h
   | brk=>exact False.elim h
   | cont=>exact False.elim h
   | ret u=>
    obtain ⟨v,H',os,bare,un,S9,r',q⟩:=h
    have q':v= .bl true:=q
    subst q'
    obtain rfl:u=Value.bool true:=r'
    refine ⟨rfl,OldK.of_keep fun b o e=>?_,os,bare⟩
    cases q:H b with
    | none=>exact un.keep b o e q (by intro z;exact absurd (show b∈([]:List Addr) from z) (by simp)) (by simp)
    | some u=>
     rcases hO b with z | ⟨ob,xs,z⟩
     ·rw[q]at z;cases z
     ·have z2:=un.ql b ob _ z
      obtain ⟨e1,_⟩:=bX b _ z
      obtain ⟨e2,_⟩:=S9 b _ z2
      rw[e]at e1;cases e1
      exact e2
 cases hk:K.lookup a with
 | some o=>
  -- GI script is one of GI DP own objects
  have e:=KX a o hk
  rw[ha]at e
  cases e
  refine core (fun _=>none) (fun _=> .inl rfl) (.inr ⟨_,vs.toArray,_,hk,rfl,rfl,rfl,by rw[WR,S8];exact hl,by simpa using rv⟩) (fun b u z=>by have z':(none:Option HO)=some u:=z;cases z') (fun b z=>absurd rfl z) fun z=>absurd rfl z
 | none=>
  refine core (fun b=>if b=a then some (.GF { cls:= .type "list",data:= .seq vs.toArray } (.lst (ns.map V.int))) else none) (fun b=>?_) (.inl (.inr ⟨{ cls:= .type "list",data:= .seq vs.toArray },if_pos rfl⟩)) (fun b u z=>?_) (fun b z=>?_) fun _=>hk
  ·by_cases hb:b=a
   ·exact .inr ⟨_,_,if_pos hb⟩
   ·exact .inl (if_neg hb)
  ·by_cases hb:b=a
   ·have z':=(if_pos hb).symm.trans z
    cases z'
    subst hb
    exact ⟨ha,by rw[MO];exact hl,vs,_,rv,ha⟩
   ·have z':=(if_neg hb).symm.trans z
    cases z'
  ·by_cases hb:b=a
   ·exact hb
   ·exact absurd (if_neg hb) z
theorem AJ {l:PySem.W.OpenLaw} {n k:Nat} {q:Program} {loose:List Str} {XP:(Str->Option Value)->Heap->Prop} {YP:World->Heap->Prop} {d:DefRec} {K:Params->PySem.W.Frag} {CX:World->B8} {sp:World->Sp} {x:Str}
  (hn:l.most=some n) (yZ:n<=sizeLine) (Pk:d.params.defaults=[]) (hr:fh k callerA)
  (hY: ∀(w:World) (h:Heap),YP w h->(K w.params).In h)
  (F: ∀(w:World) (mg:Str->Option Value) (fa:Addr) (h:Heap),(K w.params).In h->h.Ns mainGlobals mg->mg d.name=some (.ref fa)->
   ∃fd:FuncData,(∀(s:Shared) (u:Value),BindsTo s fd ⟨[u],[]⟩ [(x,u)])/\
    ∀base:Heap,(K w.params).In base->base.Ns mainGlobals mg->bp l.prog w (K w.params) mg base (CX w) k fa fd [x] (sp w))
  (JC: ∀(w:World) (H:Hp) (a:Addr) (ns:List Int),ns.length<=n->K2 H->bu (K w.params) H a (ns.map V.int)->sp w [.ref a] H (fun v _=>v= .bl true) fun _ _ _=>False)
  (S7: ∀(w:World) (H:Hp) (s:Shared) (e:Value) (s':Shared),CX w [] H s (fun _ _ _=>False) e s'->False):
  PySem.W.WalkO q loose XP YP l.row.toRowW d [] (fun f vs=>PySem.call f vs):=by
 refine U1.xh hn Pk fun w s₀ s₁ mg mb fa o pm cd doc a vs ns G Y ho hd iB hmg K1 hints hlen hg=>?_
 have KX:=hY w _ Y
 obtain ⟨fd,hb,hF⟩:=F w mg fa _ KX G.T.g hmg
 exact DS KX G.T.g G.T.b G.T.builtins G.T.nolimit hg K1 hints (ZN hlen yZ) hr hF hb (fun H hO hS=>JC w H a ns hlen hO hS) fun H e s'=>S7 w H s₁ e s'
noncomputable def gc (s:Stmt):Arguments:=match s with
 | .FunctionDef _ a _ _ _ _ _ _ _ _=>a
 | _=>{ posonlyargs:=[],args:=[],vararg:=none,kwonlyargs:=[],kw_defaults:=[],kwarg:=none,defaults:=[] }
noncomputable def eX (s:Stmt):List Stmt:=match s with
 | .FunctionDef _ _ b _ _ _ _ _ _ _=>b
 | _=>[]
noncomputable def ar (s:Stmt):Scope:=match s with
 | .FunctionDef _ _ _ _ _ _ sc _ _ _=>sc
 | _=>{ kind:= .function,names:=[],isGenerator:=false,isCoroutine:=false }
abbrev dY:B8:=fun _ _ _ _ _ _=>False
abbrev E0:XK:=fun _ _ _=>False
theorem aB {X:Cx}:Passes dY X E0:=fun _ _ _ _ _ _ _ h=>h.elim
structure Ht (K:PySem.W.Frag) (x qual:Str) (st:Stmt) (f:Addr) (fd:FuncData):Prop where
 ex: ∃(oc:Value) (od:Option Addr) (kV doc pm:Value) (an:Option Addr) (cx ct:Value) (GK:Array (Option Value)),
  fd=PySem.W.fnOf x qual (gc st) (eX st) (ar st) .none kV doc pm an cx ct/\K.lookup f=some ⟨oc,od, .func fd,GK⟩/\PySem.W.codeIn K cx qual=true
 kp:PySem.W.keepIn K (.ref f)=true
section
variable {P:Program} {w:World} {K:PySem.W.Frag} {mg:Str->Option Value} {base:Heap}
theorem Ht.ok {x qual:Str} {st:Stmt} {f:Addr} {fd:FuncData} {N ps:List Str} {k:Nat} {sp:Sp} (F:Ht K x qual st f fd) (S:aE N ps (ar st)) (len: ∀vs H Q E,sp vs H Q E->vs.length=ps.length)
  (DL: ∀(cx:Value) (A:Around) (outer:List Env) (s:Shared) (H:Hp) (vs:List V) (Q:VK) (E:XK),fh k (A.deeper (envOfC qual (ar st) s.heap.objs.size f cx))->sp vs H Q E->
   ∃t,yU (B9 dY P w K mg base N qual (ar st) f cx A outer s H E).Q8 (eX st) t/\t { nx:=fun _ H'=>Q .f_ H',rt:=Q } (start N vs) H):bp P w K mg base dY (k+1) f fd ps sp:=by
 obtain ⟨oc,od,kV,doc,pm,an,cx,ct,GK,rfl,lk,iB⟩:=F.ex
 refine O8 lk iB S len fun A outer s H vs Q E hr JC=>?_
 obtain ⟨t,h,q⟩:=DL cx A outer s H vs Q E hr JC
 exact ⟨t,h.Q8,q⟩
theorem Ht.binds {x qual:Str} {st:Stmt} {f:Addr} {fd:FuncData} {ps:List Str} (F:Ht K x qual st f fd)
  (h: ∀(kV doc pm:Value) (an:Option Addr) (cx ct:Value) (us:List Value),us.length=ps.length->bindArgs (PySem.W.fnOf x qual (gc st) (eX st) (ar st) .none kV doc pm an cx ct) ⟨us,[]⟩=pure (ps.zip us)):Binds K fd ps []:=by
 obtain ⟨oc,od,kV,doc,pm,an,cx,ct,GK,rfl,lk,iB⟩:=F.ex
 exact .all (h kV doc pm an cx ct)
theorem zh {x qual:Str} {st:Stmt} {f:Addr} {oc:Value} {od an:Option Addr} {GK:Array (Option Value)} {kV doc pm cx ct:Value} (l:K.lookup f=some ⟨oc,od, .func (PySem.W.fnOf x qual (gc st) (eX st) (ar st) .none kV doc pm an cx ct),GK⟩)
  (c:PySem.W.codeIn K cx qual=true) (k:PySem.W.keepIn K (.ref f)=true):Ht K x qual st f (PySem.W.fnOf x qual (gc st) (eX st) (ar st) .none kV doc pm an cx ct):=⟨⟨oc,od,kV,doc,pm,an,cx,ct,GK,rfl,l,c⟩,k⟩
end
theorem jt {A:Around} {k:Nat} (hr:fh k A):A.units+1<cLine:=ZW (Nat.add_le_add_left (by decide:1<=64) _) hr.units
section
variable {X:Cx}
theorem pv (i:Nat) {x:Str} {pos:Pos} (hN:X.N[i]? =some x:=by rfl) (hv:OD X.env.scope x:=by first | exact Or.inl rfl | exact Or.inr (Or.inl rfl) | exact Or.inr (Or.inr rfl)) (hd:(x==("__debug__":Str))=false:=by decide)
  (iB:(x==("__classdict__":Str))=false:=by decide):PE X (.Name x pos) (Ko i):=Kp hN hv hd iB
end
theorem zi {A B:Prop} (h:B):if false=true then A else B:=by
 rw[if_neg Zz]
 exact h
theorem DT {A B:Prop} (h:A):if true=true then A else B:=by
 rw[if_pos rfl]
 exact h
theorem bz {c A B:Prop} [Decidable c] (h1:c->A) (h2: ¬c->B):if c then A else B:=by
 by_cases h:c
 ·rw[if_pos h]
  exact h1 h
 ·rw[if_neg h]
  exact h2 h
def ak (H H':Hp):Prop:= ∀b o,H b=some o->H' b=some o
theorem ak.refl (H:Hp):ak H H:=fun _ _ h=>h
theorem ak.trans {H H1 H2:Hp} (a:ak H H1) (b:ak H1 H2):ak H H2:=fun c o h=>b c o (a c o h)
theorem ak.free {H H':Hp} (e:ak H H') {l:Addr} (h:H' l=Option.none):H l=Option.none:=by
 cases q:H l with
 | none=>rfl
 | some o=>
  rw[e l o q]at h
  cases h
theorem ak.seq {K:PySem.W.Frag} {H H':Hp} {a:Addr} {xs:List V} (e:ak H H') (h:bu K H a xs):bu K H' a xs:=by
 rcases h with (h | ⟨o,h⟩) | h
 ·exact .inl (.inl (e _ _ h))
 ·exact .inl (.inr ⟨o,e _ _ h⟩)
 ·exact .inr h
noncomputable def jf (env:Env):List (Str×NameKind)->List (Str×Addr)->List (Str×Addr)
 | [],acc=>acc
 |(n,k)::r,acc=>jf env r (if k== .free then (match env.cells.lookup n with | some a=>(n,a)::acc | none=>acc) else acc)
theorem fJ {env:Env}: ∀(names:List (Str×NameKind)) (acc:List (Str×Addr)),(∀y∈names,y.2= .free-> ∃c,env.cells.lookup y.1=some c)->
  (forIn names acc fun (x:Str×NameKind) (cs:List (Str×Addr))=>(if (x.2==NameKind.free)=true then do let a <-cellOf env x.1;pure (ForInStep.yield ((x.1,a)::cs)) else pure (ForInStep.yield cs):Sem (ForInStep (List (Str×Addr)))))=pure (jf env names acc)
 | [],acc,_=>rfl
 |(n,k)::r,acc,h=>by
  rw[Qcg]
  have hr: ∀y∈r,y.2= .free-> ∃c,env.cells.lookup y.1=some c:=fun y hy=>h y (Zs _ hy)
  cases hk:(k==NameKind.free) with
  | false=>
   have e1:jf env ((n,k)::r) acc=jf env r acc:=by
    show jf env r (if (k==NameKind.free)=true then (match env.cells.lookup n with | some a=>(n,a)::acc | none=>acc) else acc)=_
    rw[hk,if_neg Zz]
   rw[e1, <-fJ r acc hr]
   simp only[hk,Qa6,if_false,pure_bind]
  | true=>
   obtain ⟨c,hc⟩:=h (n,k) Zv (by simpa using hk)
   have e1:jf env ((n,k)::r) acc=jf env r ((n,c)::acc):=by
    have si:env.cells.lookup n=some c:=hc
    show jf env r (if (k==NameKind.free)=true then (match env.cells.lookup n with | some a=>(n,a)::acc | none=>acc) else acc)=_
    rw[hk,si,if_pos rfl]
   have e2:cellOf env n=pure c:=by
    have si:env.cells.lookup n=some c:=hc
    unfold cellOf
    rw[si]
   rw[e1, <-fJ r ((n,c)::acc) hr]
   simp only[hk,if_true,e2,pure_bind]
theorem kG {scope:Scope} {env:Env} (h: ∀y∈scope.names,y.2= .free-> ∃c,env.cells.lookup y.1=some c):closureFor scope env=pure (jf env scope.names []):=by
 have e:=fJ scope.names [] h
 simp only[closureFor]
 rw[e]
 rfl
theorem nK {env:Env} {x:Str} {c:Addr}: ∀(names:List (Str×NameKind)) (acc:List (Str×Addr)),(∀y d,acc.lookup y=some d->env.cells.lookup y=some d)->(jf env names acc).lookup x=some c->env.cells.lookup x=some c
 | [],acc,ha,h=>ha x c h
 |(n,k)::r,acc,ha,h=>by
  refine nK r _ (fun y d q=>?_) h
  by_cases hk:(k==NameKind.free)=true
  ·rw[if_pos hk]at q
   cases e:env.cells.lookup n with
   | none=>rw[e]at q;exact ha y d q
   | some a=>
    rw[e]at q
    have q':List.lookup y ((n,a)::acc)=some d:=q
    rw[Z9]at q'
    cases hy:(y==n) with
    | true=>
     rw[hy]at q'
     have:y=n:=by simpa using hy
     subst this
     rw[e];exact q'
    | false=>rw[hy]at q';exact ha y d q'
  ·rw[if_neg hk]at q;exact ha y d q
theorem xi {env:Env} {x:Str}: ∀(names:List (Str×NameKind)) (acc:List (Str×Addr)),(∃c,acc.lookup x=some c)-> ∃c,(jf env names acc).lookup x=some c
 | [],acc,h=>h
 |(n,k)::r,acc,⟨c,hc⟩=>by
  refine xi r _ ?_
  by_cases hk:(k==NameKind.free)=true
  ·rw[if_pos hk]
   cases e:env.cells.lookup n with
   | none=>exact ⟨c,hc⟩
   | some a=>
    show ∃c,List.lookup x ((n,a)::acc)=some c
    rw[Z9]
    cases hy:(x==n) with
    | true=>exact ⟨a,rfl⟩
    | false=>exact ⟨c,hc⟩
  ·rw[if_neg hk];exact ⟨c,hc⟩
theorem qz {env:Env} {x:Str}: ∀(names:List (Str×NameKind)) (acc:List (Str×Addr)),(∀y∈names,y.2= .free-> ∃c,env.cells.lookup y.1=some c)->names.lookup x=some .free-> ∃c,(jf env names acc).lookup x=some c
 | [],acc,_,h=>by simp at h
 |(n,k)::r,acc,hf,h=>by
  have hr: ∀y∈r,y.2= .free-> ∃c,env.cells.lookup y.1=some c:=fun y hy=>hf y (Zs _ hy)
  rw[Z9]at h
  cases hy:(x==n) with
  | true=>
   rw[hy]at h
   have hk:k= .free:=Zy h
   subst hk
   have hx:x=n:=by simpa using hy
   subst hx
   obtain ⟨c,hc⟩:=hf (x, .free) Zv rfl
   have si:env.cells.lookup x=some c:=hc
   refine xi r _ ⟨c,?_⟩
   rw[if_pos (show (NameKind.free==NameKind.free)=true by decide),si]
   show List.lookup x ((x,c)::acc)=some c
   rw[Z9]
   simp
  | false=>
   rw[hy]at h
   exact qz r _ hr h
theorem md {env:Env}: ∀{names:List (Str×NameKind)} {x:Str},names.lookup x=some .free->
  ((names.map fun (n,k)=>if (k==NameKind.free&&env.scope.kind== .function&&env.kindOf n==some .cell) then (n,NameKind.cell) else (n,k)).lookup x=some .cell\/
   (names.map fun (n,k)=>if (k==NameKind.free&&env.scope.kind== .function&&env.kindOf n==some .cell) then (n,NameKind.cell) else (n,k)).lookup x=some .free)
 | [],_,h=>by simp at h
 |(n,k)::r,x,h=>by
  have ih:= @md env r x
  show (List.lookup x ((if (k==NameKind.free&&env.scope.kind== .function&&env.kindOf n==some .cell)=true then (n,NameKind.cell) else (n,k))::_)=_\/List.lookup x ((if (k==NameKind.free&&env.scope.kind== .function&&env.kindOf n==some .cell)=true then (n,NameKind.cell) else (n,k))::_)=_)
  cases hx:x==n with
  | true=>
   simp only[Z9,hx]at h
   cases h
   by_cases hc:((NameKind.free==NameKind.free)&&env.scope.kind== .function&&env.kindOf n==some .cell)=true
   ·rw[if_pos hc];simp[Z9,hx]
   ·rw[if_neg hc];simp[Z9,hx]
  | false=>
   simp only[Z9,hx]at h
   by_cases hc:(k==NameKind.free&&env.scope.kind== .function&&env.kindOf n==some .cell)=true
   ·rw[if_pos hc];simp only[Z9,hx];exact ih h
   ·rw[if_neg hc];simp only[Z9,hx];exact ih h
theorem me {env:Env}: ∀{names:List (Str×NameKind)} {x:Str},(∀y∈names,y.2≠ .cell)->
  ((names.map fun (n,k)=>if (k==NameKind.free&&env.scope.kind== .function&&env.kindOf n==some .cell) then (n,NameKind.cell) else (n,k)).lookup x=some .cell\/
   (names.map fun (n,k)=>if (k==NameKind.free&&env.scope.kind== .function&&env.kindOf n==some .cell) then (n,NameKind.cell) else (n,k)).lookup x=some .free)->names.lookup x=some .free
 | [],_,_,h=>by simp at h
 |(n,k)::r,x,hn,h=>by
  have ih:= @me env r x (fun y hy=>hn y (Zs _ hy))
  have hk:=hn (n,k) Zv
  have h':(List.lookup x ((if (k==NameKind.free&&env.scope.kind== .function&&env.kindOf n==some .cell)=true then (n,NameKind.cell) else (n,k))::(r.map fun (n,k)=>if (k==NameKind.free&&env.scope.kind== .function&&env.kindOf n==some .cell) then (n,NameKind.cell) else (n,k)))=some .cell\/List.lookup x ((if (k==NameKind.free&&env.scope.kind== .function&&env.kindOf n==some .cell)=true then (n,NameKind.cell) else (n,k))::(r.map fun (n,k)=>if (k==NameKind.free&&env.scope.kind== .function&&env.kindOf n==some .cell) then (n,NameKind.cell) else (n,k)))=some .free):=h
  cases hx:x==n with
  | true=>
   rw[Z9,hx]
   by_cases hc:(k==NameKind.free&&env.scope.kind== .function&&env.kindOf n==some .cell)=true
   ·have:(k==NameKind.free)=true:=by
     rw[Z0,Z0]at hc;exact hc.1.1
    have Pm:k= .free:=by simpa using this
    rw[Pm]
   ·rw[if_neg hc]at h'
    simp only[Z9,hx]at h'
    rcases h' with h' | h'
    ·exact absurd (Zy h') hk
    ·exact h'
  | false=>
   rw[Z9,hx]
   by_cases hc:(k==NameKind.free&&env.scope.kind== .function&&env.kindOf n==some .cell)=true
   ·rw[if_pos hc]at h';simp only[Z9,hx]at h';exact ih h'
   ·rw[if_neg hc]at h';simp only[Z9,hx]at h';exact ih h'
abbrev GN:Value->Shared->Prop:=fun _ _=>False
theorem uZ {prog:Program} {w:World} {A:Around} {R:Result->Shared->Prop} {s:Shared} {elt target iter:Expr} {ifs:List Expr} {scope:Scope} {pos:Pos} {it acc:Value} {env:Env} (I:Nat->Shared->Prop)
  (turn: ∀n s,I n s->wpAny (model prog w) A (pyNext it) (fun r s₁=>match r with
   | none=>R (.ok .next) s₁
   | some v=>wpAny (model prog w) A (letOwnedTupleGo target it v) (fun _ U8=>wpAny (model prog w) A (assign target env v) (fun _ s₂=>
     wpAny (model prog w) A (forIn ifs true fun c r=>if r=true then do let ok <-isTrue c env (eval c env);pure (ForInStep.yield ok) else pure (ForInStep.yield r)) (fun ok s₃=>
      if ok=true then wpAny (model prog w) A (eval elt env) (fun x s₄=>
       wpAny (model prog w) A (call (.builtin "list.append") [acc,x]) (fun _ s₅=> ∃m,m<n/\I m s₅) GN s₄) GN s₃
      else ∃m,m<n/\I m s₃) GN s₂) GN U8) GN s₁) GN s)
  (n:Nat) (h:I n s):codeAny (model prog w) A (.compLoop (.ListComp elt [⟨target,iter,ifs,0⟩] scope pos) 0 it acc env) R s:=by
 refine codeAny_loop rfl I (fun n s hI=>?_) n h
 show wpAny _ A ((compTurn (.ListComp elt [⟨target,iter,ifs,0⟩] scope pos) 0 it acc env).onRaise (fun x=>do noteFrame x env;theTreesLotGoes x)) _ _ s
 refine wpAny_noted ?_
 rw[compTurn_list]
 have no: ∀{F:Value->Shared->Prop} (e:Value) (s':Shared),GN e s'->F e s':=fun _ _ h=>h.elim
 refine wpAny_bind (wpAny_standAt (wpAny_bind (wpAny_mono (turn n s hI) (fun r s₁ h₁=>?_) no)))
 cases r with
 | none=>exact wpAny_pure h₁
 | some v=>
  refine wpAny_bind (wpAny_mono h₁ (fun _ U8 WU=>?_) no)
  refine wpAny_bind (wpAny_mono WU (fun _ s₂ h₂=>wpAny_bind (wpAny_mono h₂ (fun ok s₃ h₃=>?_) no)) no)
  cases ok with
  | false=>exact wpAny_pure ⟨rfl,h₃⟩
  | true=>
   exact wpAny_bind (wpAny_bind (wpAny_mono h₃ (fun x s₄ h₄=>wpAny_bind (wpAny_mono h₄ (fun _ s₅ h₅=>wpAny_pure (wpAny_pure ⟨rfl,h₅⟩)) no)) no))
noncomputable def bT (X:Cx) (scope:Scope) (C:Addr) (Nc:List Str) (s:Shared) (H:Hp) (fp:List Addr):Cx where
 prog:=X.prog
 w:=X.w
 K:=X.K
 mg:=X.mg
 base:=X.base
 A:=X.A
 N:=Nc
 s₀:=s
 H₀:=H
 env:=compEnvC scope (jf X.env scope.names []) C X.env
 outer:=X.stack
 stack:=X.stack
 ex:=fp
 fn:=fun _=>false
 calm:=X.calm
 pn:=[]
 xe:=GN
def kA (X:Cx) (scope:Scope):List Str->List (Option Nat)->Prop
 | [],[]=>True
 | _::ys,none::os=>kA X scope ys os
 | y::ys,some j::os=>(X.N[j]? =some y/\scope.names.lookup y=some .free/\(X.env.kindOf y=some .cell\/X.env.kindOf y=some .free))/\kA X scope ys os
 | _,_=>False
noncomputable def mf (σ:St) (ix:List (Option Nat)):St:=ix.map fun o=>match o with | none=>none | some j=>(σ[j]?).getD none
def Wk:St->St->Prop
 | [],[]=>True
 | none::a,_::b=>Wk a b
 | some v::a,w::b=>w=some v/\Wk a b
 | _,_=>False
theorem Wk.len: ∀{a b:St},Wk a b->a.length=b.length
 | [],[],_=>rfl
 | none::a,_::b,h=>congrArg (· +1) (Wk.len (a:=a) (b:=b) h)
 | some _::a,_::b,h=>congrArg (· +1) (Wk.len (a:=a) (b:=b) h.2)
theorem Wk.get: ∀{a b:St} {i:Nat} {v:V},Wk a b->a[i]? =some (some v)->b[i]? =some (some v)
 | [],[],i,v,_,h=>by simp at h
 | none::a,x::b,0,v,_,h=>by simp at h
 | none::a,x::b,i+1,v,k,h=>by
  have:=Wk.get (a:=a) (b:=b) (i:=i) (v:=v) k (by simpa using h)
  simpa using this
 | some y::a,x::b,0,v,k,h=>by
  have e:y=v:=by simpa using h
  subst e
  simp[k.1]
 | some y::a,x::b,i+1,v,k,h=>by
  have:=Wk.get (a:=a) (b:=b) (i:=i) (v:=v) k.2 (by simpa using h)
  simpa using this
theorem kA.len {X:Cx} {scope:Scope}: ∀{N:List Str} {ix:List (Option Nat)},kA X scope N ix->ix.length=N.length
 | [],[],_=>rfl
 | _::ys,none::os,h=>congrArg (· +1) (kA.len (N:=ys) (ix:=os) h)
 | _::ys,some _::os,h=>congrArg (· +1) (kA.len (N:=ys) (ix:=os) h.2)
theorem kA.get {X:Cx} {scope:Scope}: ∀{N:List Str} {ix:List (Option Nat)} {i j:Nat},kA X scope N ix->ix[i]? =some (some j)-> ∃y,N[i]? =some y/\X.N[j]? =some y/\scope.names.lookup y=some .free/\(X.env.kindOf y=some .cell\/X.env.kindOf y=some .free)
 | [],[],i,j,_,h=>by simp at h
 | y::ys,none::os,0,j,_,h=>by simp at h
 | y::ys,none::os,i+1,j,k,h=>by
  obtain ⟨z,h1,h2⟩:=kA.get (N:=ys) (ix:=os) (i:=i) (j:=j) k (by simpa using h)
  exact ⟨z,by simpa using h1,h2⟩
 | y::ys,some j'::os,0,j,k,h=>by
  have e:j'=j:=by simpa using h
  subst e
  exact ⟨y,by simp,k.1⟩
 | y::ys,some j'::os,i+1,j,k,h=>by
  obtain ⟨z,h1,h2⟩:=kA.get (N:=ys) (ix:=os) (i:=i) (j:=j) k.2 (by simpa using h)
  exact ⟨z,by simpa using h1,h2⟩
theorem Cf {σ:St} {ix:List (Option Nat)} {i:Nat} {v:V} (h:(mf σ ix)[i]? =some (some v)): ∃j,ix[i]? =some (some j)/\σ[j]? =some (some v):=by
 unfold mf at h
 rw[Y5]at h
 cases e:ix[i]? with
 | none=>rw[e]at h;cases h
 | some o=>
  rw[e]at h
  cases o with
  | none=>cases h
  | some j=>
   refine ⟨j,rfl,?_⟩
   have h':some ((σ[j]?).getD none)=some (some v):=h
   cases q:σ[j]? with
   | none=>rw[q]at h';cases h'
   | some z=>rw[q]at h';cases h';rfl
theorem zj {X:Cx} {pins:List (Addr×Obj)} {σ:St} {H:Hp} {s:Shared} (I:Inv X pins σ H s) {scope:Scope} {Nc:List Str} {ix:List (Option Nat)} (zk:kA X scope Nc ix) (g9: ∀y∈scope.names,y.2≠ .cell)
  (i6:scope.kind= .function) (Hu: ∀y∈scope.names,y.2= .free->X.env.kindOf y.1=some .cell\/X.env.kindOf y.1=some .free) {fp:List Addr} (hf: ∀b∈fp,oZ X pins H b) (Pn: ∀b∈fp, ∃o,s.heap.get? b=some o)
  {C:Addr} {h':Heap} {t':Nat} {m0:Str->Option Value} (hC:s.heap.objs.size<=C) (Rg:h'.Ns C m0) (k: ∀b o,s.heap.get? b=some o->h'.get? b=some o):
  Inv (bT X scope C Nc s H fp) [] (mf σ ix) H { s with heap:=h',toks:=t' }:=by
 have MP: ∀y∈scope.names,y.2= .free-> ∃c,X.env.cells.lookup y.1=some c:=fun y hy e=>I.ok.has y.1 (Hu y hy e)
 have mh: ∀{x:Str} {c:Addr},(jf X.env scope.names []).lookup x=some c->X.env.cells.lookup x=some c:=fun {x c} e=>nK scope.names [] (fun y d q=>by simp at q) e
 refine ⟨⟨I.ok.mod,i6,I.ok.glob,I.ok.blt,hC,fun x y c h1 h2=>I.ok.inj x y c (mh h1) (mh h2),fun x hx=>?_,fun x c h=>?_,I.ok.hd,I.ok.frames, .inl rfl,fun b hb=>?_,I.bs,ZN I.ok.G8 I.sz,fun b o e hb=>?_,fun b hb hs=>?_,I.stack,I.Ax⟩,
  rfl,I.bare,Un.kept k,⟨m0,Rg,fun i x v h1 h2 h3=>?_⟩,fun x c e=>?_,I.bX.fresh hC,fun x c e=>I.jl x c (mh e),fun p hp=>absurd (show p∈([]:List (Addr×Obj)) from hp) (by simp),I.bX.kept k,?_⟩
 ·have MQ:scope.names.lookup x=some .free:=me g9 hx
  exact qz scope.names [] MP MQ
 ·exact absurd (show false=true from h) (by decide)
 ·refine ⟨?_,fun x c e=>(hf b hb).2.2.2.2.1 x c (mh e)⟩
  obtain ⟨o,ho⟩:=Pn b hb
  exact ZE (ZJ (ZA ho) hC)
 ·rcases (hf b hb).2.2.2.1 with z | z
  ·exact I.ok.DA b o e z
  ·exact absurd (ZJ (ZA e) (ZN I.ok.G8 z)) (Z5 _)
 ·rcases Zt.mp (I.qm b hs) with z | z
  ·exact (hf b hb).2.1 z
  ·exact (hf b hb).2.2.1 z
 ·obtain ⟨j,e1,e2⟩:=Cf h2
  obtain ⟨y,y1,y2,y3,y4⟩:=zk.get e1
  have U9:Nc[i]? =some x:=h1
  rw[y1]at U9
  cases U9
  obtain ⟨m,hn,hl⟩:=I.loc
  have hv:OD X.env.scope x:=by
   rcases y4 with z | z
   ·exact .inr (.inl z)
   ·exact .inr (.inr z)
  obtain ⟨u,r,l⟩:=hl j x v y2 e2 hv
  refine ⟨u,r, .inr ⟨md y3,?_⟩⟩
  rcases l with ⟨l,_⟩ | ⟨_,c,hc,q⟩
  ·rcases y4 with z | z
   ·rw[z]at l;cases l
   ·rw[z]at l;cases l
  ·obtain ⟨c',si⟩:=qz scope.names [] MP y3
   have e:=mh si
   rw[hc]at e
   cases e
   obtain ⟨o,ho,hd⟩:=q
   exact ⟨c,si,o,k _ _ ho,hd⟩
 ·obtain ⟨v,o,ho,hd⟩:=I.cell x c (mh e)
  exact ⟨v,o,k _ _ ho,hd⟩
 ·show (mf σ ix).length=Nc.length
  unfold mf
  rw[MO]
  exact zk.len
theorem Cg {X:Cx} {pins Az:List (Addr×Obj)} {σ σ':St} {H H':Hp} {s s':Shared} (I:Inv X pins σ H s) {scope:Scope} {Nc:List Str} {fp:List Addr} {C D:Addr} (J:Inv (bT X scope C Nc s H fp) Az σ' H' s')
  (hf: ∀b∈fp,oZ X pins H b) (hD:s.heap.objs.size<=D) (hC:s.heap.objs.size<=C) (K5:D≠C) {aJ:List Value} {n:Nat} {acc:List V} (eD:s'.heap.get? D=some { cls:= .type "list",data:= .seq aJ.toArray n }) (r:Vals acc aJ)
  (hz:acc.length<=sizeLine) (nD:H' D=none) {oC:Obj} (eC:s'.heap.get? C=some oC) (dC: ∀v,oC.data≠ .cell v):Inv X (pins++[(C,oC)]) σ (upd H' D (.lst acc)) s':=by
 have lt: ∀b o,s.heap.get? b=some o->b≠D:=fun b o e=>ZE (ZJ (ZA e) hD)
 have U:Un (Aw X.stack) fp H H' s.heap s'.heap:=J.base
 have U':Un (Aw X.stack) fp H (upd H' D (.lst acc)) s.heap s'.heap:=
  ⟨U.keep,U.slot,fun b o e n hx=>by rw[au (lt b o e)];exact U.free b o e n hx,U.there,fun b xs e=>by rw[au (aq (U.nC b xs e) nD)];exact U.nC b xs e,
   fun b o u e=>by rw[au (aq (U.ql b o u e) nD)];exact U.ql b o u e,fun b ps e=>by
    obtain ⟨more,q⟩:=U.uL b ps e
    exact ⟨more,by rw[au (aq q nD)];exact q⟩⟩
 have bX:kX X.prog X.w (upd H' D (.lst acc)) s'.heap:=fun b u e=>by
  by_cases hb:b=D
  ·subst hb
   rw[ag]at e;cases e
   exact ⟨hz,aJ,n,r,eD⟩
  ·rw[au hb]at e
   exact (J.bX b u e).wY (fun c v _ q=>q) (fun c q=>by rw[au (aq q nD)];exact q) fun c xs q=>by rw[au (aq q nD)];exact q
 have I':Inv X pins σ (upd H' D (.lst acc)) s':=I.OH (ch:=fp) J.os U' bX J.bare fun b hb=>by
  obtain ⟨_,h1,_,h2,h3,h4⟩:=hf b hb
  exact ⟨h2,h1,h3,h4⟩
 refine I'.lV fun p hp=>?_
 rcases Zx.mp hp with z | z
 ·exact I'.pin p (ZK _ z)
 ·have e:p=(C,oC):=U7.mp z
  subst e
  refine ⟨eC,?_,Qc8 (ZJ I.lt hC),I.Kl hC,dC⟩
  rw[au (Ne.symm K5)]
  exact J.free
def PF (Y:Cx) (ifs:List Expr) (tc:TT):Prop:=
 ∀(pins:List (Addr×Obj)) (s:Shared) (σ:St) (H:Hp) (Q:Bool->Hp->Prop),Inv Y pins σ H s->tc σ H Q->
  wpAny (model Y.prog Y.w) Y.A (forIn ifs true fun c r=>if r=true then do let ok <-isTrue c Y.env (eval c Y.env);pure (ForInStep.yield ok) else pure (ForInStep.yield r)) (TP Y pins σ Q) Y.xe s
def Po:TT:=fun _ H Q=>Q true H
theorem ju {Y:Cx}:PF Y [] Po:=fun _ _ _ H _ I h=>wpAny_tests_nil ⟨H,I,h⟩
theorem K6 {Y:Cx} {c:Expr} {tc:TT} (h:PT Y c tc):PF Y [c] tc:=fun pins s σ H Q I hw=>wpAny_tests_one (h pins s σ H Q I hw)
def tE (J:It) (σc:St) (g:TG) (tc:TT) (te:TE) (Q:VK) (H1:Hp):Prop:=
 ∃W:Nat->Nat->List V->Hp->Prop,(∃m,W 0 m [] H1)/\ ∀i m acc H,W i m acc H->acc.length<sizeLine/\
 ((J.stop i H/\ ∀D,H D=none->Q (.ref D) (upd H D (.lst acc)))\/
  (J.go i H/\ ∀x H',J.Di i H x H'->g x σc H' fun σ2 H2=>Wk σc σ2/\tc σ2 H2 fun b H3=>if b=true then te σ2 H3 fun v H4=> ∃m',m'<m/\W (i+1) m' (acc++[v]) H4 else ∃m',m'<m/\W (i+1) m' acc H3))
def xj (wi:TI) (ix:List (Option Nat)) (g:TG) (tc:TT) (te:TE):TE:=fun σ H Q=>wi σ H fun J H1=>tE J (mf σ ix) g tc te Q H1
theorem tF {X:Cx} {tg iter elt:Expr} {ifs:List Expr} {scope:Scope} {pos:Pos} {wi:TI} {g:TG} {tc:TT} {te:TE} {Nc:List Str} {ix:List (Option Nat)} (hi:PI X tg iter wi) (kH:X.calm=true) (zk:kA X scope Nc ix)
  (g9: ∀y∈scope.names,y.2≠ .cell) (i6:scope.kind= .function) (Hu: ∀y∈scope.names,y.2= .free->X.env.kindOf y.1=some .cell\/X.env.kindOf y.1=some .free)
  (hG: ∀C s H fp,PG (bT X scope C Nc s H fp) tg g) (hT: ∀C s H fp,PF (bT X scope C Nc s H fp) ifs tc) (hE: ∀C s H fp,PE (bT X scope C Nc s H fp) elt te)
  {pins:List (Addr×Obj)} {s:Shared} {σ:St} {H:Hp} {Q:VK} (I:Inv X pins σ H s) (h:xj wi ix g tc te σ H Q) {RR:Value->Addr->Result->Shared->Prop}
  (WV: ∀(D C:Addr) (oC:Obj) (m:Str->Option Value) (H':Hp) (s':Shared),s'.heap.get? C=some oC->s'.heap.Ns C m->oZ X pins H' C->Inv X (pins++[(C,oC)]) σ H' s'->Q (.ref D) H'->RR (.ref D) C (.ok .next) s'):
  wpAny (model X.prog X.w) X.A (eval iter X.env) (fun v s1=>wpAny (model X.prog X.w) X.A (pyIter v) (fun it s2=>wpAny (model X.prog X.w) X.A (newList []) (fun acc s3=>
   wpAny (model X.prog X.w) X.A (newFunctionEnv scope X.env.globals (jf X.env scope.names []) [] X.env.qual none .none (some X.env)) (fun Pp s4=>
    codeAny (model X.prog X.w) X.A (.compStart (.ListComp elt [⟨tg,iter,ifs,0⟩] scope pos) 0 it acc { Pp with scope:=relabel scope X.env }) (RR acc Pp.locals) s4) X.xe s3) X.xe s2) X.xe s1) X.xe s:=by
 refine b8 (hi pins s σ H _ I h) fun v s1 h1=>b8 h1 fun SE s2 h2=>?_
 obtain ⟨it,fp,tn,J,H2,e,I2,T,yL,f2,W,⟨m0,w0⟩,turn⟩:=h2
 subst e
 refine wpAny_newObj_type (wpAny_newFunctionEnv g9 (by intro y hy;simp at hy) (fun h₁ K7 Hv=>?_) i6)
 dsimp only at K7 Hv ⊢
 generalize JE:s2.heap.push { cls:= .type "list",dict:=none,data:= .seq ([]:List Value).toArray }=P2 at K7 Hv ⊢
 have hC:P2.objs.size=s2.heap.objs.size+1:=by rw[<-JE,Qce]
 have K5:s2.heap.objs.size≠P2.objs.size:=by rw[hC];exact ZE (Qau _)
 have K8:s2.heap.objs.size<=P2.objs.size:=by rw[hC];exact Qbf _
 have Kn: ∀b,b<s2.heap.objs.size->b≠P2.objs.size:=fun b hb=>by rw[hC];exact ZE (Qbc hb)
 have old: ∀b o,s2.heap.get? b=some o->h₁.get? b=some o:=fun b o e=>Hv.extBut b o (Kn b (ZA e)) (U4 _ (JE▸U4 _ e))
 have zl:h₁.get? s2.heap.objs.size=some { cls:= .type "list",data:= .seq ([]:List Value).toArray }:=Hv.extBut _ _ K5 (U4 _ (JE▸Zw _ rfl))
 have U_:tn 0 h₁:=T.keep 0 _ _ yL fun b _ o e=>old b o e
 have Pn: ∀b∈fp, ∃o,s2.heap.get? b=some o:=fun b hb=>let ⟨o,e,_⟩:=T.obj 0 _ yL b hb;⟨o,e⟩
 have Va: ∀b∈fp,s2.heap.objs.size≠b:=fun b hb=>let ⟨o,e⟩:=Pn b hb;Qc8 (ZA e)
 have IY:=zj I2 zk g9 i6 Hu f2 Pn (t':=s2.toks+([]:List (Str×Value)).length) K8 K7 old
 have S_: ∀b,s2.heap.objs.size<=b->b∉Aw X.stack:=fun b hb hs=>by
  rcases Zt.mp (I2.qm b hs) with z | z
  ·exact absurd (ZJ I2.lt hb) (by rw[z];exact Z5 _)
  ·exact I2.Kl hb z
 have mh: ∀{x:Str} {c:Addr},(jf X.env scope.names []).lookup x=some c->X.env.cells.lookup x=some c:=fun {x c} e=>nK scope.names [] (fun y d q=>by simp at q) e
 have Pq: ∀x c,(jf X.env scope.names []).lookup x=some c->c≠s2.heap.objs.size:=fun x c e z=>by
  obtain ⟨v,q⟩:=I2.cell x c (mh e)
  exact absurd (q.lt) (by rw[z];exact Z5 _)
 have fY: ∀{pl:List (Addr×Obj)} {H':Hp},(∀p∈pl,p.1=s2.heap.objs.size)->(∀b∈fp,H' b=none)-> ∀b∈fp,oZ (bT X scope P2.objs.size Nc s2 H2 fp) pl H' b:=fun {pl H'} j9 hn b hb=>by
  refine ⟨hn b hb,?_,?_, .inl hb,fun x c e=>(f2 b hb).2.2.2.2.1 x c (mh e),fun p hp=>?_⟩
  ·obtain ⟨o,e⟩:=Pn b hb
   exact Kn b (ZA e)
  ·intro hs
   rcases Zt.mp (I2.qm b hs) with z | z
   ·exact (f2 b hb).2.1 z
   ·exact (f2 b hb).2.2.1 z
  ·rw[j9 p hp]
   exact Va b hb
 have loop: ∀s₃:Shared,s₃={ s2 with heap:=h₁,toks:=s2.toks+([]:List (Str×Value)).length }->
   codeAny (model X.prog X.w) X.A (.compLoop (.ListComp elt [⟨tg,iter,ifs,0⟩] scope pos) 0 (.ref it) (.ref s2.heap.objs.size) (compEnvC scope (jf X.env scope.names []) P2.objs.size X.env)) (RR (.ref s2.heap.objs.size) P2.objs.size) s₃:=by
  rintro s₃ rfl
  refine uZ (fun n s'=> ∃i acc aJ nn H',Inv (bT X scope P2.objs.size Nc s2 H2 fp) [] (mf σ ix) H' s'/\tn i s'.heap/\(∀b∈fp,H' b=none)/\
   s'.heap.get? s2.heap.objs.size=some { cls:= .type "list",data:= .seq (aJ:List Value).toArray nn }/\Vals acc aJ/\H' s2.heap.objs.size=none/\W i n acc H') ?_ m0
   ⟨0,[],[],0,H2,IY,U_,fun b hb=>(f2 b hb).1,zl, .nil,I2.bX.fresh (Ri _),w0⟩
  rintro n s3 ⟨i,acc,aJ,nn,H3,I3,OT,OU,eD,rv,nD,w3⟩
  obtain ⟨hz,alt⟩:=turn i n acc H3 w3
  have IP:Inv (bT X scope P2.objs.size Nc s2 H2 fp) [(s2.heap.objs.size,{ cls:= .type "list",data:= .seq aJ.toArray nn })] (mf σ ix) H3 s3:=I3.lV fun p hp=>by
   have e:p=(s2.heap.objs.size,_):=U7.mp hp
   subst e
   refine ⟨eD,nD,K5,S_ _ (Ri _),fun v z=>?_⟩
   have z':Data.seq aJ.toArray nn=Data.cell v:=z
   cases z'
  have j9: ∀p∈[(s2.heap.objs.size,({ cls:= .type "list",data:= .seq aJ.toArray nn }:Obj))],p.1=s2.heap.objs.size:=fun p hp=>by
   have e:p=(s2.heap.objs.size,_):=U7.mp hp
   rw[e]
  rcases alt with ⟨stop,fin⟩ | ⟨go,step⟩
  ·refine b8 (T.done (bT X scope P2.objs.size Nc s2 H2 fp) rfl rfl rfl kH i _ s3 _ H3 GN IP (fY j9 OU) OT stop) fun r s4 zz=>?_
   obtain ⟨hr,I4⟩:=zz
   subst hr
   obtain ⟨m,hn,_⟩:=id I4.loc
   obtain ⟨oC,es,ep,eC,dC,_⟩:=id hn
   have WW:=(I4.pin (s2.heap.objs.size,_) (ZK _ (U7.mpr rfl))).1
   have Ta:=fin _ nD
   refine WV _ _ oC m _ s4 eC hn ?_ (Cg I2 I4 f2 (Ri _) K8 K5 WW rv (Z4 hz) nD eC fun v z=>?_) Ta
   ·refine I2.o4 K8 ?_
    rw[au (Ne.symm K5)]
    exact I4.free
   ·rw[dC]at z;cases z
  ·refine b8 (T.item (bT X scope P2.objs.size Nc s2 H2 fp) rfl rfl rfl kH i _ s3 _ H3 GN IP (fY j9 OU) OT go) fun r s4 zz=>?_
   obtain ⟨u,hr,h4⟩:=zz
   subst hr
   refine b8 h4 fun _ s5 zz=>?_
   obtain ⟨x,H5,I5,r5,y5,KA,SG⟩:=zz
   have SH:=I5.pinned (fY j9 SG) (T.obj _ _ KA)
   refine b8 (hG _ s2 H2 fp _ s5 _ H5 x u _ SH r5 (step x H5 y5)) fun _ s6 zz=>?_
   obtain ⟨σ6,H6,I6,wk,q6⟩:=zz
   refine b8 (hT _ s2 H2 fp _ s6 σ6 H6 _ I6 q6) fun b s7 zz=>?_
   obtain ⟨H7,I7,q7⟩:=zz
   have again: ∀{H9:Hp} {s9:Shared} {m':Nat},Inv (bT X scope P2.objs.size Nc s2 H2 fp) ([(s2.heap.objs.size,({ cls:= .type "list",data:= .seq aJ.toArray nn }:Obj))]++qt fp s5.heap) σ6 H9 s9->
     (s9.heap.get? s2.heap.objs.size=some { cls:= .type "list",data:= .seq aJ.toArray nn }/\H9 s2.heap.objs.size=none)/\tn (i+1) s9.heap/\(∀b∈fp,H9 b=none)/\Inv (bT X scope P2.objs.size Nc s2 H2 fp) [] (mf σ ix) H9 s9:=fun {H9 s9 m'} I9=>by
    have pD:=I9.pin (s2.heap.objs.size,_) (ZK _ (Qbp _ (U7.mpr rfl)))
    refine ⟨⟨pD.1,pD.2.1⟩,T.keep _ _ _ KA fun b hb o e=>(I9.pin (b,o) (ZK _ (ZK _ (iI hb e)))).1,fun b hb=>?_,?_⟩
    ·obtain ⟨o,e,d⟩:=T.obj _ _ KA b hb
     exact (I9.pin (b,o) (ZK _ (ZK _ (iI hb e)))).2.1
    ·exact (I9.weak wk.len fun i v e=>wk.get e).lV fun p hp=>absurd hp (by simp)
   cases b with
   | false=>
    rw[if_neg Zz]at q7 ⊢
    obtain ⟨m',hm,w7⟩:=q7
    obtain ⟨⟨e7,n7⟩,t7,f7,J7⟩:=again (m':=0) I7
    exact ⟨m',hm,i+1,acc,aJ,nn,H7,J7,t7,f7,e7,rv,n7,w7⟩
   | true=>
    rw[if_pos rfl]at q7 ⊢
    refine b8 (hE _ s2 H2 fp _ s7 σ6 H7 _ I7 q7) fun y s8 zz=>?_
    obtain ⟨v,H8,I8,r8,m',hm,w8⟩:=zz
    obtain ⟨⟨e8,n8⟩,t8,f8,J8⟩:=again (m':=0) I8
    refine wpAny_list_append_plain (items:=aJ.toArray) ⟨nn,e8⟩ (fun h9 WX Vb=>?_) (by rw[WR, <-rv.length];exact Z4 hz)
    obtain ⟨n9,e9⟩:=WX
    refine ⟨m',hm,i+1,acc++[v],aJ++[y],n9,H8,J8.turned (t':=s8.toks) (fun b o hb e=>(Vb.2 b hb).trans e) n8 K5 (.inr (Ri _)) Pq (fun p hp=>absurd hp (by simp[bT])),?_,f8,?_,rv.append (.cons r8 .nil),n8,w8⟩
    ·exact T.keep _ _ _ t8 fun b hb o e=>(Vb.2 b (Ne.symm (Va b hb))).trans e
    ·simpa using e9
 exact codeAny_compStart_list (loop _ rfl) (T.self _ 0 _ _ _ U_ (loop _ rfl))
theorem Hw {X:Cx} {tg iter elt:Expr} {ifs:List Expr} {scope:Scope} {pos:Pos} {wi:TI} {g:TG} {tc:TT} {te:TE} (Nc:List Str) (ix:List (Option Nat)) (hi:PI X tg iter wi) (kH:X.calm=true) (zk:kA X scope Nc ix)
  (g9: ∀y∈scope.names,y.2≠ .cell) (i6:scope.kind= .function) (Hu: ∀y∈scope.names,y.2= .free->X.env.kindOf y.1=some .cell\/X.env.kindOf y.1=some .free)
  (zm: ∀x∈scope.names,x.2= .local->scope.names.lookup x.1=some .local)
  (hG: ∀C s H fp,PG (bT X scope C Nc s H fp) tg g) (hT: ∀C s H fp,PF (bT X scope C Nc s H fp) ifs tc) (hE: ∀C s H fp,PE (bT X scope C Nc s H fp) elt te)
  (hs: ∀x,foldedSetIterable iter X.env x=pure x:=by intro _;rfl):PE X (.ListComp elt [⟨tg,iter,ifs,0⟩] scope pos) (xj wi ix g tc te):=by
 intro pins s σ H Q I h
 rw[eval_ListComp]
 have MP: ∀y∈scope.names,y.2= .free-> ∃c,X.env.cells.lookup y.1=some c:=fun y hy e=>I.ok.has y.1 (Hu y hy e)
 refine wpAny_comprehension_free (use:=none) rfl hs (kG MP) i6 zm (tF hi kH zk g9 i6 Hu hG hT hE I h (RR:=fun acc C=>compPost (model X.prog X.w) X.A X.xe none (EP X pins σ Q) acc C) ?_)
 intro D C oC m H' s' eC hn fC I' q
 refine ⟨m,hn,fun h' Pu=>⟨.ref D,H',?_,rfl,q⟩⟩
 exact I'.jq.turned (t':=s'.toks) (fun b o hb e=>(Pu.2 b hb).trans e) fC.1 fC.2.1 fC.2.2.2.1 fC.2.2.2.2.1 fC.2.2.2.2.2
theorem Hx {X:Cx} {i:Nat} {x:Str} {tg iter elt:Expr} {ifs:List Expr} {scope:Scope} {pos DU pos':Pos} {wi:TI} {g:TG} {tc:TT} {te:TE} (Nc:List Str) (ix:List (Option Nat)) (hN:X.N.Nodup) (Pw:X.N[i]? =some x) (hx:Loc X.env.scope x)
  (GO:swapsWith (.ListComp elt [⟨tg,iter,ifs,0⟩] scope pos) (some (.Name x pos')) DU.line X.env=pure true) (hi:PI X tg iter wi) (kH:X.calm=true) (zk:kA X scope Nc ix)
  (g9: ∀y∈scope.names,y.2≠ .cell) (i6:scope.kind= .function) (Hu: ∀y∈scope.names,y.2= .free->X.env.kindOf y.1=some .cell\/X.env.kindOf y.1=some .free)
  (zm: ∀x∈scope.names,x.2= .local->scope.names.lookup x.1=some .local)
  (hG: ∀C s H fp,PG (bT X scope C Nc s H fp) tg g) (hT: ∀C s H fp,PF (bT X scope C Nc s H fp) ifs tc) (hE: ∀C s H fp,PE (bT X scope C Nc s H fp) elt te)
  (hs: ∀x,foldedSetIterable iter X.env x=pure x:=by intro _;rfl) (hf:X.fn x=true\/X.env.scope.names.lookup x=some .local:=by first | exact .inl rfl | exact .inr rfl | assumption):
  PS X (.Assign [.Name x pos'] (.ListComp elt [⟨tg,iter,ifs,0⟩] scope pos) DU) (Ha (xj wi ix g tc te) (w6 i)):=by
 intro pins s σ H E I h
 have MP: ∀y∈scope.names,y.2= .free-> ∃c,X.env.cells.lookup y.1=some c:=fun y hy e=>I.ok.has y.1 (Hu y hy e)
 rw[exec_Assign_Name_used _ _ _ _ GO]
 refine wpAny_bind (wpAny_standAt (wpAny_bind ?_))
 show wpAny _ X.A (do let _ <-comprehension (.ListComp elt [⟨tg,iter,ifs,0⟩] scope pos) scope X.env _ (newList []) false (eval iter X.env) (some (assign (.Name x pos') X.env))) _ _ s
 refine wpAny_bind (wpAny_mono (wpAny_comprehension_free (use:=some (assign (.Name x pos') X.env)) (Q:=fun _ s'=>SP X pins E .next s') rfl hs (kG MP) i6 zm
  (tF hi kH zk g9 i6 Hu hG hT hE I h (RR:=fun acc C=>compPost (model X.prog X.w) X.A X.xe (some (assign (.Name x pos') X.env)) (fun _ s'=>SP X pins E .next s') acc C) ?_)) (fun _ s' hq=>wpAny_pure (wpAny_pure hq)) fun _ _ e=>e)
 intro D C oC m H' s' eC hn fC I' q
 show wpAny _ X.A (assign (.Name x pos') X.env (.ref D)) _ _ _
 refine wpAny_assign_Name (lW I' hN Pw hx (show RelV (.ref D) _ from rfl) (fun O6 Vc=>?_) hf)
 have pC:=Vc.pin (C,oC) (ZK _ (ZK _ (U7.mpr rfl)))
 refine ⟨m,?_,fun h' Pu=>?_⟩
 ·obtain ⟨o,es,ep,e,r⟩:=hn
  rw[eC]at e;cases e
  exact ⟨oC,es,ep,pC.1,r⟩
 ·refine ⟨_,H',Vc.jq.turned (t':=O6.toks) (fun b o hb e=>(Pu.2 b hb).trans e) fC.1 fC.2.1 fC.2.2.2.1 fC.2.2.2.2.1 fC.2.2.2.2.2,q⟩
noncomputable def S (l:List Nat):Str:=⟨l.toArray⟩
theorem gm (l:List Nat):(S l).cps.toList=l:=by simp[S]
theorem du (l:List Nat):(S l).length=l.length:=by simp[S,Str.length]
theorem nL (l:List Nat):(S l).cps.size=l.length:=by simp[S]
theorem Px {a b:List Nat} (h:S a=S b):a=b:=by
 have:=congrArg (fun x:Str=>x.cps.toList) h
 simpa [S]using this
theorem Py (x:Str):x=S x.cps.toList:=by cases x;simp[S]
theorem Pz (a b:List Nat):S a++S b=S (a++b):=by
 apply Str.ext'
 apply Qbt.mp
 simp[S,Str.cps_append]
theorem JF {a b:List Nat}:decide (V.str (S a)=V.str (S b))=decide (a=b):=by
 by_cases h:a=b
 ·subst h;simp
 ·rw[decide_eq_false h,decide_eq_false]
  intro q
  exact h (Px (V.str.inj q))
noncomputable def cut {α:Type} (xs:List α) (lo hi:Option Int):List α:=(xs.drop (HT.i7 xs.length 0 lo)).take (HT.i7 xs.length xs.length hi - HT.i7 xs.length 0 lo)
theorem xk (n d:Nat) (v:Int):max 0 (min (if v<0 then v+(n:Int) else v) (n:Int))=((HT.i7 n d (some v):Nat):Int):=by
 show _=(((if v<0 then (v+(n:Int)).toNat else min v.toNat n):Nat):Int)
 by_cases hv:v<0
 ·simp only[if_pos hv];omega
 ·simp only[if_neg hv];omega
theorem oJ (lo hi:Option Int) (n:Nat):Builtin.Str.strSliceIndices lo hi 1 n=(List.range (HT.i7 n n hi - HT.i7 n 0 lo)).map (HT.i7 n 0 lo+ ·):=by
 have h1:(1:Int)>0:=by decide
 rw[<-sliceRange_one]
 unfold Builtin.Str.strSliceIndices
 simp only[h1,if_true]
 congr 1
 ·cases lo with
  | none=>rfl
  | some v=>exact xk n 0 v
 ·cases hi with
  | none=>rfl
  | some v=>exact xk n n v
theorem Hy (l:List Nat) (lo hi:Option Int):Txt.slice (S l) lo hi=S (cut l lo hi):=by
 have hx:((Builtin.Str.strSliceIndices lo hi 1 (S l).length).filterMap ((S l).cps[·]?))=cut l lo hi:=by
  rw[du,oJ,pick_run,gm]
  rfl
 have hlen:(Builtin.Str.strSliceIndices lo hi 1 (S l).length).length=HT.i7 l.length l.length hi - HT.i7 l.length 0 lo:=by
  rw[du,oJ,MO,Qbl]
 unfold Txt.slice
 by_cases hc:((1:Int)==1&&(Builtin.Str.strSliceIndices lo hi 1 (S l).length).length==(S l).length)=true
 ·rw[if_pos hc]
  rw[hlen,du]at hc
  have e:HT.i7 l.length l.length hi - HT.i7 l.length 0 lo=l.length:=by simpa using hc
  have h2:=HT.KN l.length l.length (Ri _) hi
  have e0:HT.i7 l.length 0 lo=0\/l.length=0:=by omega
  unfold cut
  rw[e]
  rcases e0 with z | z
  ·rw[z];simp
  ·have:l=[]:=Qcd z
   subst this
   simp
 ·rw[if_neg hc]
  rw[hx]
  rfl
section
variable {X:Cx}
theorem kZ {x:Str} {j pos} (l:List Nat) (h:x=S l):PE X (.Constant (.str x) j pos) (tC (.str (S l))):=by
 subst h
 exact Kq
def PB:R2:=fun x y H Q=> ∃a b,x= .str (S a)/\y= .str (S b)/\a.length+b.length<=sizeLine/\Q (.str (S (a++b))) H
theorem iK:g_ X (binaryOp .Add) PB:=by
 intro pins s σ H x y v u Q I rx ry h
 obtain ⟨a,b,rfl,rfl,hz,q⟩:=h
 exact yY pins s σ H _ _ v u Q I rx ry ⟨S a,S b,rfl,rfl,by rw[du,du];exact hz,by rw[Pz];exact q⟩
def PC:R2:=fun x y H Q=> ∃l i c,x= .str (S l)/\y= .int i/\l.length<=sizeLine/\o6 l i=some c/\Q (.str (S [c])) H
theorem dW:KO X PC:=by
 intro value slice pins s σ H x y v u Q I rx ry h hs
 obtain ⟨l,i,c,rfl,rfl,hz,he,q⟩:=h
 exact KQ value slice pins s σ H _ _ v u Q I rx ry ⟨S l,i,c,rfl,rfl,by rw[du];exact hz,by rw[gm];exact he,q⟩ hs
def Tb:V->Option Int->Option Int->Hp->VK->Prop:=fun x lo hi H Q=> ∃l,x= .str (S l)/\l.length<=sizeLine/\Q (.str (S (cut l lo hi))) H
theorem o8:Rc X Tb:=by
 intro pins s σ H x v vl vu lo hi sl Q I rx hs pl pu h
 obtain ⟨l,rfl,hz,q⟩:=h
 obtain ⟨t,rfl⟩:=rx
 refine ⟨"str",_,F.slot_str_getitem.lookup,typeIs_str _ _ _,?_⟩
 have key: ∀(a b:Option (Int×Tok)),vl=partValue a->vu=partValue b->a.map (·.1)=lo->b.map (·.1)=hi->wpAny (model X.prog X.w) X.A (getItem (.str (S l) t) (.ref sl)) (EP X pins σ Q) X.xe s:=by
  rintro a b rfl rfl rfl rfl
  obtain ⟨o,e,c,d⟩:=hs
  refine wpAny_getItem_str_slice (l:=a) (u:=b) (st:=none) ⟨o,e,c,d⟩ rfl (post_val_or_str ⟨?_,fun t' k=>?_⟩)
  ·exact ZN (Txt.slice_le (S l) _ _) (by rw[du];exact hz)
  ·exact ⟨.str (S (cut l _ _)),H,I.tok _,⟨t',congrArg (fun z=>Value.str z t') (Hy l _ _)⟩,q⟩
 cases pl with
 | none=>
  cases pu with
  | none=>exact key none none rfl rfl rfl rfl
  | int i ti=>exact key none (some (i,ti)) rfl rfl rfl rfl
 | int i ti=>
  cases pu with
  | none=>exact key (some (i,ti)) none rfl rfl rfl rfl
  | int j tj=>exact key (some (i,ti)) (some (j,tj)) rfl rfl rfl rfl
theorem aK:dZ X (.builtin "len") (fun xs H Q=> ∃l,xs=[.str (S l)]/\l.length<=sizeLine/\Q (.int l.length) H):=by
 intro pins s σ H xs us Q I r h
 obtain ⟨l,rfl,hz,q⟩:=h
 exact uW pins s σ H _ us Q I r ⟨S l,rfl,by rw[du];exact hz,by rw[du];exact q⟩
noncomputable def dX (l:List Nat):List V:=l.map fun c=>V.str (S [c])
theorem zo {l:List Nat}: ∀{acc:List Value},acc.length=l.length->(∀j v,acc[j]? =some v->SignAt (S l) j v)->Vals (dX l) acc:=by
 induction l with
 | nil=>intro acc h _;have:acc=[]:=Qcd h;subst this;exact .nil
 | cons c l ih=>
  intro acc h k
  cases acc with
  | nil=>cases h
  | cons a acc=>
   refine .cons ?_ (ih (by simpa using h) fun j v e=>?_)
   ·obtain ⟨c',u,e1,e2⟩:=k 0 a rfl
    have:c=c':=by simpa [S]using e1
    subst this
    exact ⟨u,e2⟩
   ·obtain ⟨c',u,e1,e2⟩:=k (j+1) v (by simpa using e)
    exact ⟨c',u,by simpa [S]using e1,e2⟩
theorem zp (hc:X.calm=true):dZ X (.type "list") (fun xs H Q=> ∃l,xs=[.str (S l)]/\l.length<=sizeLine/\ ∀p,H p=none->Q (.ref p) (upd H p (.lst (dX l)))):=by
 intro pins s σ H xs us Q I r h
 obtain ⟨l,rfl,hz,q⟩:=h
 obtain ⟨u,rfl,t,rfl⟩:=vals1 r
 refine call_list_str (I.ok.hd hc) (S l) t (fun h' tk eM c' hk e zl=>?_) (by rw[nL];exact hz)
 obtain ⟨h1,h2⟩:=zl
 rw[nL]at h1
 refine ⟨.ref s.heap.objs.size,_,I.laid (t':=tk) (o:= .lst (dX l)) hk (Ri _) ?_,rfl,q _ I.fresh⟩
 exact ⟨by unfold dX;rw[MO];exact hz,eM.toList,c',zo (by simpa using h1) (fun j v e=>h2 j v (by simpa using e)),by simpa using e⟩
def Tc:R2:=fun x y H Q=> ∃c l,x= .str (S [c])/\y= .str (S l)/\Q (.bl (decide (c∈l))) H
theorem K9:g_ X (compareOp .In) Tc:=by
 intro pins s σ H x y v u Q I rx ry h
 obtain ⟨c,l,rfl,rfl,q⟩:=h
 refine B3 pins s σ H _ _ v u Q I rx ry ⟨S [c],S l,rfl,rfl,?_⟩
 have e:=StrLaws.found_one (S l) c
 rw[gm]at e
 rw[show (S [c])=(⟨#[c]⟩:Str) from rfl,e]
 exact q
end
theorem tG (s sub:Str) (hi:Nat): ∀(l:List Nat) (st:Array Nat×Nat),1<=st.fst.size->(forIn l st (StrLaws.occBody s sub hi 1)).run.fst=st.fst
 | [],st,h=>rfl
 | a::l,st,h=>by
  rw[Qcg]
  unfold StrLaws.occBody
  rw[if_neg (fun z=>absurd z.1.1.1 (Nat.not_lt.mpr h))]
  exact tG s sub hi l _ h
theorem occ_first (s sub:Str) (hi:Nat): ∀(l:List Nat) (free:Nat),(∀i∈l,free<=i)->
  (forIn l ((#[]:Array Nat),free) (StrLaws.occBody s sub hi 1)).run.fst.toList=(l.find? fun i=>decide (i+sub.length<=hi)&&Builtin.Str.subAt s sub i).toList
 | [],free,_=>rfl
 | a::l,free,hf=>by
  rw[Qcg,Qa9]
  unfold StrLaws.occBody
  have ha:free<=a:=hf a Zv
  by_cases hc:a+sub.length<=hi/\Builtin.Str.subAt s sub a=true
  ·rw[if_pos ⟨⟨⟨by simp,ha⟩,hc.1⟩,hc.2⟩]
   have:(decide (a+sub.length<=hi)&&Builtin.Str.subAt s sub a)=true:=by simp[hc]
   rw[this]
   show (forIn l (#[].push a,a+sub.length) (StrLaws.occBody s sub hi 1)).run.fst.toList=_
   rw[tG s sub hi l _ (by simp)]
   rfl
  ·rw[if_neg (fun z=>hc ⟨z.1.2,z.2⟩)]
   have:(decide (a+sub.length<=hi)&&Builtin.Str.subAt s sub a)=false:=by
    cases h1:decide (a+sub.length<=hi) with
    | false=>rfl
    | true=>
     cases h2:Builtin.Str.subAt s sub a with
     | false=>rfl
     | true=>exact absurd ⟨of_decide_eq_true h1,h2⟩ hc
   rw[this]
   exact occ_first s sub hi l free fun i pY=>hf i (Zs _ pY)
theorem subAt_one (l:List Nat) (c i:Nat):Builtin.Str.subAt (S l) (S [c]) i=(l[i]? ==some c):=by
 unfold Builtin.Str.subAt
 rw[du]
 show ((S l).cps.extract i (i+1)== #[c])=_
 have e:((S l).cps.extract i (i+1))=((l.drop i).take 1).toArray:=by
  apply Qbt.mp
  simp[S,List.take_drop]
 rw[e]
 by_cases h:i<l.length
 ·have e2:(l.drop i).take 1=[l[i]]:=by
   rw[Qaa h];rfl
  rw[e2,K3 h]
  by_cases hc:l[i]=c
  ·rw[hc];simp
  ·have h1:([l[i]].toArray== #[c])=false:=by
    rw[beq_eq_false_iff_ne]
    intro z
    apply hc
    have:=congrArg Array.toList z
    simpa using this
   have h2:(some l[i]==some c)=false:=by simpa using hc
   rw[h1,h2]
 ·have e2:(l.drop i).take 1=[]:=by rw[Qb3 (by omega)];rfl
  rw[e2,Qa7 (by omega)]
  rfl
theorem qA (l:List Nat) (c:Nat): ∀(k n:Nat),k+n=l.length+1->((List.range' k n).find? fun i=>decide (i+1<=l.length)&&(l[i]? ==some c))=if c∈l.drop k then some (k+(l.drop k).idxOf c) else none
 | k,0,h=>by
  have:l.drop k=[]:=Qb3 (by omega)
  rw[this];simp
 | k,n+1,h=>by
  rw[List.range'_succ,Qa9]
  by_cases hk:k<l.length
  ·have e:l.drop k=l[k]::l.drop (k+1):=Qaa hk
   rw[K3 hk,e]
   by_cases hc:l[k]=c
   ·have:(decide (k+1<=l.length)&&(some l[k]==some c))=true:=by simp[hc];omega
    rw[this,if_pos (by simp[hc])]
    simp[hc]
   ·have:(decide (k+1<=l.length)&&(some l[k]==some c))=false:=by simp[hc]
    rw[this,qA l c (k+1) n (by omega)]
    have si: ¬c=l[k]:=fun z=>hc z.symm
    by_cases hm:c∈l.drop (k+1)
    ·rw[if_pos hm,if_pos (Zs _ hm),List.idxOf_cons]
     have:(l[k]==c)=false:=by simpa using hc
     rw[this]
     show some (k+1+List.idxOf c (List.drop (k+1) l))=some (k+(List.idxOf c (List.drop (k+1) l)+1))
     congr 1
     omega
    ·rw[if_neg hm,if_neg (by intro z;rcases Zt.mp z with z | z;exact si z;exact hm z)]
  ·have:l.drop k=[]:=Qb3 (by omega)
   have e1:(decide (k+1<=l.length)&&(l[k]? ==some c))=false:=by
    rw[decide_eq_false (by omega)];rfl
   have e2:l.drop (k+1)=[]:=Qb3 (by omega)
   rw[e1,qA l c (k+1) n (by omega),this,e2]
   simp
theorem JG (l:List Nat) (c:Nat):Builtin.Str.occurrences (S l) (S [c]) 0 (S l).length 1=if c∈l then [l.idxOf c] else []:=by
 rw[StrLaws.occ_eq,occ_first _ _ _ _ 0 fun _ _=>WT _]
 have e:(fun i=>decide (i+(S [c]).length<=(S l).length)&&Builtin.Str.subAt (S l) (S [c]) i)=fun i=>decide (i+1<=l.length)&&(l[i]? ==some c):=by
  funext i
  rw[subAt_one,du,du]
  rfl
 rw[e,du,Nat.sub_zero,qA l c 0 (l.length+1) (by omega),List.drop_zero]
 by_cases h:c∈l
 ·rw[if_pos h,if_pos h,Qcl];rfl
 ·rw[if_neg h,if_neg h];rfl
section
variable {X:Cx}
def Hz:V->List V->Hp->VK->Prop:=fun x vs H Q=> ∃l c,x= .str (S l)/\vs=[.str (S [c])]/\c∈l/\Q (.int (l.idxOf c:Nat)) H
theorem nM:Ca X "str.index" Hz:=by
 intro pins s σ H x xs v us Q I rx rv h
 obtain ⟨l,c,rfl,rfl,hc,q⟩:=h
 obtain ⟨t,rfl⟩:=rx
 obtain ⟨u,rfl,t',rfl⟩:=vals1 rv
 exact SC.index (i:=l.idxOf c) (rest:=[]) (by rw[JG,if_pos hc]) ⟨.int (l.idxOf c:Nat),H,I.tok _,⟨_,rfl⟩,q⟩
def K_:V->List V->Hp->VK->Prop:=fun x vs H Q=> ∃l c,x= .str (S l)/\vs=[.str (S [c])]/\Q (.int (if c∈l then (l.idxOf c:Nat) else -1)) H
theorem xl:Ca X "str.find" K_:=by
 intro pins s σ H x xs v us Q I rx rv h
 obtain ⟨l,c,rfl,rfl,q⟩:=h
 obtain ⟨t,rfl⟩:=rx
 obtain ⟨u,rfl,t',rfl⟩:=vals1 rv
 refine SC.find ⟨.int _,H,I.tok _,⟨_,rfl⟩,?_⟩
 have e:Txt.find (S l) (S [c])=(if c∈l then ((l.idxOf c:Nat):Int) else -1):=by
  unfold Txt.find
  rw[JG]
  by_cases h:c∈l
  ·rw[if_pos h,if_pos h]
  ·rw[if_neg h,if_neg h]
 rw[e]
 exact q
def JH (f:Nat->Bool):V->List V->Hp->VK->Prop:=fun x vs H Q=> ∃c,x= .str (S [c])/\vs=[]/\c<128/\Q (.bl (f c)) H
def PD (f:Nat->Nat):V->List V->Hp->VK->Prop:=fun x vs H Q=> ∃c,x= .str (S [c])/\vs=[]/\c<128/\Q (.str (S [f c])) H
noncomputable def aD (c:Nat):Bool:=decide (97<=c)&&decide (c<=122)
noncomputable def isUp (c:Nat):Bool:=decide (65<=c)&&decide (c<=90)
theorem HA: ∀c,c<128->Txt.islower ⟨#[c]⟩=aD c:=by decide+kernel
theorem La: ∀c,c<128->Txt.isupper ⟨#[c]⟩=isUp c:=by decide+kernel
theorem k_:Ca X "str.islower" (JH aD):=by
 intro pins s σ H x xs v us Q I rx rv h
 obtain ⟨c,rfl,rfl,hc,q⟩:=h
 obtain ⟨t,rfl⟩:=rx
 have e:us=[]:=by cases rv;rfl
 subst e
 exact SC.islower ⟨.bl (aD c),H,I,congrArg Value.bool (HA c hc),q⟩
theorem zq:Ca X "str.isupper" (JH isUp):=by
 intro pins s σ H x xs v us Q I rx rv h
 obtain ⟨c,rfl,rfl,hc,q⟩:=h
 obtain ⟨t,rfl⟩:=rx
 have e:us=[]:=by cases rv;rfl
 subst e
 exact SC.isupper ⟨.bl (isUp c),H,I,congrArg Value.bool (La c hc),q⟩
theorem upper_one {c:Nat} (hc:c<128):Txt.upper (S [c])=S [up1 c]:=by
 rw[upper_ascii (by intro d hd;rw[gm]at hd;simp at hd;omega)]
 simp[S]
theorem tH {c:Nat} (hc:c<128):Txt.lower (S [c])=S [lo1 c]:=by
 rw[lower_ascii (by intro d hd;rw[gm]at hd;simp at hd;omega)]
 simp[S]
theorem JI (c:Nat):Builtin.Str.tooLong (S [c]).length=false:=by
 rw[du]
 show Builtin.Str.tooLong 1=false
 decide
theorem DV:Ca X "str.upper" (PD up1):=by
 intro pins s σ H x xs v us Q I rx rv h
 obtain ⟨c,rfl,rfl,hc,q⟩:=h
 obtain ⟨t,rfl⟩:=rx
 have e:us=[]:=by cases rv;rfl
 subst e
 exact SC.upper (by rw[upper_one hc];exact JI _) ⟨.str (S [up1 c]),H,I.tok _,⟨_,congrArg (fun z=>Value.str z _) (upper_one hc)⟩,q⟩
theorem qB:Ca X "str.lower" (PD lo1):=by
 intro pins s σ H x xs v us Q I rx rv h
 obtain ⟨c,rfl,rfl,hc,q⟩:=h
 obtain ⟨t,rfl⟩:=rx
 have e:us=[]:=by cases rv;rfl
 subst e
 exact SC.lower (by rw[tH hc];exact JI _) ⟨.str (S [lo1 c]),H,I.tok _,⟨_,congrArg (fun z=>Value.str z _) (tH hc)⟩,q⟩
theorem DW: ∀(ls:List (List Nat)) (a:Array Nat),(ls.map S).foldl (fun acc p=>acc++(S []).cps++p.cps) a=a++ls.flatten.toArray
 | [],a=>by simp
 | l::ls,a=>by
  rw[ZC,Qch,DW ls]
  simp[S]
theorem Lb (ls:List (List Nat)):Txt.join (S []) (ls.map S)=S ls.flatten:=by
 unfold Txt.join Builtin.Str.glued
 cases ls with
 | nil=>rfl
 | cons l ls=>
  show Str.mk ((List.map S ls).foldl (fun acc p=>acc++(S []).cps++p.cps) (S l).cps)=_
  rw[DW]
  simp[S]
theorem qC: ∀{ls:List (List Nat)} {us:List Value},Vals (ls.map fun l=>V.str (S l)) us->StrsAre us (ls.map S)
 | [],us,r=>by cases r;exact .nil
 | l::ls,us,r=>by
  cases r with
  | cons r1 r2=>
   obtain ⟨t,rfl⟩:=r1
   exact .cons _ t (qC r2)
def DX (K:PySem.W.Frag):V->List V->Hp->VK->Prop:=fun x vs H Q=> ∃(p:Addr) (ls:List (List Nat)),x= .str (S [])/\vs=[.ref p]/\bu K H p (ls.map fun l=>V.str (S l))/\(ls.map List.length).sum<=16777216/\Q (.str (S ls.flatten)) H
theorem DY:Ca X "str.join" (DX X.K):=by
 intro pins s σ H x xs v us Q I rx rv h
 obtain ⟨p,ls,rfl,rfl,hq,hz,q⟩:=h
 obtain ⟨t,rfl⟩:=rx
 obtain ⟨u,rfl,ru⟩:=vals1 rv
 cases ru
 obtain ⟨aJ,r,pl,_⟩:=I.list hq
 have e:(S []).length=0:=rfl
 refine join_list pl.isList (by simpa using qC r) ?_ fun t' k=>?_
 ·rw[e,Nat.mul_zero,Qc9,Qac]
  have e2:(Str.length ∘ S)=List.length:=by funext l;exact du l
  have e3:((fun x:Str=>x.length) ∘ S)=List.length:=by funext l;exact du l
  first | (rw[e2];exact hz) | (rw[e3];exact hz)
 ·exact ⟨.str (S ls.flatten),H,I.tok _,⟨t',congrArg (fun z=>Value.str z t') (Lb ls)⟩,q⟩
end
end L2
namespace L2.F2
open PySem PySem.Spec PyProof.Rows
theorem tI:Manifest.owners.lookup (String.ofList ['d','e','s','r','e','v','e','r'].reverse)=some Manifest.sig_reversed:=by kernel_rfl
theorem dB:Slot "reversed" "__next__" "reversed.__next__":=
 .of (owner:="reversed") (n:="__next__") (by rw[typeLookup_type,builtinLookup_eq_fast];kernel_rfl) (by decide+kernel) (by decide+kernel) (by decide+kernel)
  (by first | exact .inl (by decide+kernel) | exact .inr (by decide+kernel)) (by rw[isSubtype_type];kernel_rfl)
theorem jv:entryFor table "reversed.__next__"=some Builtin.«reversed.__next__» :=entryFor_of_tree (by kernel_rfl)
theorem i8 (a:Value):argsOk "reversed.__next__" ⟨[a],[]⟩:=by
 unfold argsOk;rw[signature?_of (id:="reversed.__next__") (n:=['_','_','t','x','e','n','_','_']) (o:=['d','e','s','r','e','v','e','r']) (by kernel_rfl) tI];kernel_rfl
theorem kI:Slot "reversed" "__iter__" "reversed.__iter__":=
 .of (owner:="reversed") (n:="__iter__") (by rw[typeLookup_type,builtinLookup_eq_fast];kernel_rfl) (by decide+kernel) (by decide+kernel) (by decide+kernel)
  (by first | exact .inl (by decide+kernel) | exact .inr (by decide+kernel)) (by rw[isSubtype_type];kernel_rfl)
theorem o9 (a:Value):argsOk "reversed.__iter__" ⟨[a],[]⟩:=by
 unfold argsOk;rw[signature?_of (id:="reversed.__iter__") (n:=['_','_','r','e','t','i','_','_']) (o:=['d','e','s','r','e','v','e','r']) (by kernel_rfl) tI];kernel_rfl
theorem qD:entryFor table "reversed.__iter__"=some Builtin.«dict_keyiterator.__iter__» :=
 entryFor_alias (id':="dict_keyiterator.__iter__") (by kernel_rfl) (by first | rfl | decide+kernel | (unfold String.splitOn;simp+decide [String.splitOnAux])) (by decide+kernel) (by kernel_rfl)
theorem sE:Slot "reversed" "__init__" "object.__init__":=
 .of (owner:="object") (n:="__init__") (by rw[typeLookup_type,builtinLookup_eq_fast];kernel_rfl) (by decide+kernel) (by decide+kernel) (by decide+kernel)
  (by first | exact .inl (by decide+kernel) | exact .inr (by decide+kernel)) (by rw[isSubtype_type];kernel_rfl)
theorem zr:TypeCalled "reversed" "reversed.__new__" "object.__init__":=
 ⟨by decide+kernel,by decide+kernel,⟨_,_,F.mro_reversed⟩,F.made_reversed,by decide+kernel,by rw[isSubtype_type];kernel_rfl,sE⟩
theorem zt:typeLookup (.type "str") "__reversed__"=pure none:=by rw[typeLookup_type,builtinLookup_eq_fast];kernel_rfl
end L2.F2
namespace L2
open PySem PySem.Spec PyProof.Rows
theorem qE (x:Str) (t:Tok) (hz:x.length<=sizeLine):Meets (Builtin.«reversed.__new__» ⟨[.type "reversed", .str x t],[]⟩) (fun _ R s=> ∀tk,R (.ok (.ret (.ref s.heap.objs.size))) { s with heap:=s.heap.push { cls:= .type "reversed",data:= .fields #[.str x t,rawInt ((x.length:Int) - 1)] },toks:=tk }):=by
 refine Meets.of_wp fun prog w A R s h=>?_
 unfold Builtin.«reversed.__new__»
 refine wpAny_bind (wpAny_of_eq (newClass_reversed _) ?_)
 try dsimp only
 refine wpAny_bind (wpAny_of_eq (a:=()) (by first | rfl | kernel_rfl) ?_)
 refine wpAny_bind (wpAny_of_eq (a:=()) (by first | rfl | kernel_rfl) ?_)
 try dsimp only
 refine wpAny_bind (wpAny_specialOf (typeIs_str s x t) F2.zt ?_)
 try dsimp only
 refine wpAny_bind (wpAny_of_eq (a:=true) (by first | rfl | kernel_rfl) ?_)
 rw[if_neg (by decide)]
 have hn:=gk
 refine wpAny_bind (len_str (by omega) ?_)
 refine wpAny_bind (wpAny_of_eq (a:=some (x.length:Int)) (by first | rfl | kernel_rfl) ?_)
 show wpAny _ _ (Builtin.SmallTypes.newRecord (Value.type "reversed") [Value.str x t,rawInt ((x.length:Int) - 1)] >>= _) _ _ _
 refine wpAny_bind ?_
 unfold Builtin.SmallTypes.newRecord
 refine wpAny_newObj_type ?_ (by size_fits)
 exact wpAny_pure ⟨_,rfl,h _⟩
section
variable {prog:Program} {w:World} {A:Around} {E:Value->Shared->Prop} {s:Shared}
theorem qF {x:Str} {t:Tok} {Q:Value->Shared->Prop} (hz:x.length<=sizeLine) (h: ∀tk,Q (.ref s.heap.objs.size) { s with heap:=s.heap.push { cls:= .type "reversed",data:= .fields #[.str x t,rawInt ((x.length:Int) - 1)] },toks:=tk }):
  wpAny (model prog w) A (call (.type "reversed") [.str x t]) Q E s:=
 callType_new F2.zr (by decide+kernel) (F.typeCall_reversed_1 _) (F.newCall_reversed_1 _) (fun obj=>by unfold argsOk;kernel_rfl) F.entry_reversed_new (qE x t hz)
  fun tk=>⟨⟨_,Zw _ rfl,rfl⟩,h tk⟩
def jw (h:Heap) (it:Addr) (x:Str) (t:Tok) (i:Int):Prop:= ∃o,h.get? it=some o/\o.cls= .type "reversed"/\o.data= .fields #[.str x t,rawInt i]
theorem jw.typeIs {it:Addr} {x:Str} {t:Tok} {i:Int} (h:jw s.heap it x t i):s.TypeIs (.ref it) "reversed":=let ⟨o,ho,hc,_⟩:=h;⟨o,ho,hc⟩
theorem qG {it:Addr} {x:Str} {t:Tok} {i:Int} {Q:Value->Shared->Prop} (hit:jw s.heap it x t i) (h:Q (.ref it) s):wpAny (model prog w) A (pyIter (.ref it)) Q E s:=by
 refine wpAny_pyIter_slot hit.typeIs F2.kI (wpAny_call_entry F2.kI hit.typeIs F2.qD ?_ (F2.o9 _))
 show wpAny _ _ (ret (.ref it)) _ _ s
 exact wpAny_pure ⟨_,rfl,"reversed",_,hit.typeIs,F2.dB.lookup,h⟩
theorem o_ {it:Addr} {x:Str} {t:Tok} {i c:Nat} {Q:Option Value->Shared->Prop} (hit:jw s.heap it x t (i:Int)) (hx:x.cps[i]? =some c) (hz:x.length<=sizeLine)
  (hQ: ∀h' tk u,jw h' it x t ((i:Int) - 1)->Heap.SameBut it s.heap h'->Q (some (.str ⟨#[c]⟩ u)) { s with heap:=h',toks:=tk }):wpAny (model prog w) A (pyNext (.ref it)) Q E s:=by
 obtain ⟨o,ho,hc,hd⟩:=id hit
 have hn:=gk
 have hi:i<x.length:=(Array.getElem?_eq_some_iff.mp hx).1
 unfold pyNext
 refine wpAny_bind (wpAny_attempt (wpAny_callSpecial?_slot (name:=Str.ofString "__next__") hit.typeIs F2.dB
  (wpAny_call_entry F2.dB hit.typeIs F2.jv ?_ (F2.i8 _))))
 unfold Builtin.«reversed.__next__»
 refine wpAny_bind (wpAny_of_eq (a:=(Value.ref it,[])) rfl ?_)
 try dsimp only
 refine wpAny_bind (wpAny_field ho hd (x:= .str x t) rfl ?_)
 refine wpAny_bind (wpAny_field ho hd (x:=rawInt (i:Int)) rfl ?_)
 show wpAny _ _ (if (i:Int)<0 then _ else _) _ _ s
 rw[if_neg (by omega)]
 refine wpAny_bind (wpAny_specialOf (typeIs_str s x t) F.slot_str_getitem.lookup ?_)
 show wpAny _ _ (if (some (Value.builtin _)).isNone=true then _ else _) _ _ s
 rw[if_neg (by decide)]
 refine wpAny_bind (wpAny_mkInt ?_)
 refine wpAny_bind (wpAny_attempt (getItem_str (c:=c) (by
  have e1:decide ((i:Int)< -(2 ^ 63:Int))=false:=decide_eq_false (by omega)
  have e2:decide ((i:Int) ≥ 2 ^ 63)=false:=decide_eq_false (by omega)
  rw[e1,e2,Qdq]) (by rw[seqIndex_of (by omega) (by omega),U6];exact hx) ?_))
 show wpAny _ _ (field (Value.ref it) 1 >>= _) _ _ _
 refine wpAny_bind (wpAny_field ho hd (x:=rawInt (i:Int)) rfl ?_)
 show wpAny _ _ (setField (Value.ref it) 1 (rawInt ((i:Int) - 1)) >>= _) _ _ _
 refine wpAny_bind (wpAny_setField ho hd (by simp) ?_)
 refine wpAny_pure ⟨_,rfl,wpAny_pure (hQ _ _ _ ?_ (Qd7 ..))⟩
 exact ⟨_,Qan _ ho (Obj.isFreed_of_fields (Obj.data_mapFields hd _)),(Obj.cls_mapFields ..).trans hc,by
  rw[Obj.data_mapFields hd];simp⟩
theorem qH {it:Addr} {x:Str} {t:Tok} {Q:Option Value->Shared->Prop} (hh:A.handled=none) (hit:jw s.heap it x t (-1))
  (hQ: ∀h',Heap.ExtBut it s.heap h'->Q none { s with heap:=h' }):wpAny (model prog w) A (pyNext (.ref it)) Q E s:=by
 obtain ⟨o,ho,hc,hd⟩:=id hit
 unfold pyNext
 refine wpAny_bind (wpAny_attempt (wpAny_callSpecial?_slot (name:=Str.ofString "__next__") hit.typeIs F2.dB
  (wpAny_call_entry F2.dB hit.typeIs F2.jv ?_ (F2.i8 _))))
 unfold Builtin.«reversed.__next__»
 refine wpAny_bind (wpAny_of_eq (a:=(Value.ref it,[])) rfl ?_)
 try dsimp only
 refine wpAny_bind (wpAny_field ho hd (x:= .str x t) rfl ?_)
 refine wpAny_bind (wpAny_field ho hd (x:=rawInt (-1)) rfl ?_)
 show wpAny _ _ (if (-1:Int)<0 then _ else _) _ _ s
 rw[if_pos (by decide)]
 refine wpAny_bind (wpAny_rule ?_)
 refine wpAny_bind ?_
 show wpAny _ _ (setField (Value.ref it) 1 (rawInt (-1)) >>= fun _=>setField (Value.ref it) 0 .none) _ _ _
 refine wpAny_bind (wpAny_setField ho hd (by simp) ?_)
 refine wpAny_setField (Qan _ ho (Obj.isFreed_of_fields (Obj.data_mapFields hd _))) (Obj.data_mapFields hd _) (by simp) ?_
 first
 | show wpAny _ _ (newExc (.type "StopIteration") [] >>= _) _ _ _
 |(refine wpAny_bind ?_;show wpAny _ _ (newExc (.type "StopIteration") [] >>= _) _ _ _)
 refine wpAny_bind ?_
 simp only[newExc,newTuple]
 refine wpAny_bind (wpAny_newObj_type ?_ (by size_fits))
 refine wpAny_bind (m:=firstArgMember _ _) (wpAny_of_eq (a:=Value.none) (by first | rfl | (simp only[firstArgMember];rfl)) ?_)
 refine wpAny_newObj_type ?_ (by size_fits)
 simp only[raiseNew]
 refine wpAny_bind (wpAny_handled ?_)
 first | rw[show A.in1.handled=none from hh] | rw[hh]
 refine wpAny_bind (wpAny_pure (wpAny_throw ?_))
 refine wpAny_bind (wpAny_isInstance (T:="StopIteration") (b:=true) ⟨_,Zw _ rfl,rfl⟩ isSubtype_stop ?_)
 refine wpAny_pure (hQ _ fun b ob hb e=>?_)
 refine U4 _ (U4 _ ?_)
 exact (Z3 _ _ (Ne.symm hb)).trans ((Z3 _ _ (Ne.symm hb)).trans e)
end
noncomputable def HB (xs:List V):It:=⟨fun i _=>i<xs.length,fun i H x H'=>H'=H/\xs[i]? =some x,fun i _=>xs.length<=i⟩
theorem j_ {l:List Nat} {i:Nat} {x:V} (h:(dX l)[i]? =some x): ∃c,l[i]? =some c/\x= .str (S [c]):=by
 unfold dX at h
 rw[Y5]at h
 cases e:l[i]? with
 | none=>rw[e]at h;cases h
 | some c=>rw[e]at h;cases h;exact ⟨c,rfl,rfl⟩
theorem bf (l:List Nat):(dX l).length=l.length:=by unfold dX;rw[MO]
theorem DZ {P:Program} {w:World} {K:PySem.W.Frag} {tg:Expr} (it:Addr) (l:List Nat) (t:Tok):Turn P w K tg (HB (dX l)) [it] it (fun i h=>h.IsStrIter it (strIterType (S l)) (S l) t i) where
 mem:=by simp
 obj:=fun i h st b hb=>by
  have e:b=it:=by simpa using hb
  subst e
  obtain ⟨o,e,c,d⟩:=st
  exact ⟨o,e,fun v z=>by rw[d]at z;cases z⟩
 keep:=fun i h h' st k=>let ⟨o,e,r⟩:=st;⟨o,k it (by simp) o e,r⟩
 item:=by
  intro X hP hw hK hc i pins s σ H E I hf st hg
  subst hP hw hK
  have Lc:i<l.length:=by have:i<(dX l).length:=hg;rwa [bf]at this
  obtain ⟨f0,f1,f2,f3,f4,f5⟩:=hf it (by simp)
  have fin: ∀(v:Value) (h':Heap) (tk:Nat),SignAt (S l) i v->h'.IsStrIter it (strIterType (S l)) (S l) t (i+1)->(∀b o,b∉[it]->s.heap.get? b=some o->h'.get? b=some o)->
    ∃u,some v=some u/\wpAny (model X.prog X.w) X.A (letOwnedTupleGo tg (.ref it) u) (fun _ s2=> ∃x H',Inv X pins σ H' s2/\RelV x u/\(HB (dX l)).Di i H x H'/\s2.heap.IsStrIter it (strIterType (S l)) (S l) t (i+1)/\ ∀b∈[it],H' b=none) E { s with heap:=h',toks:=tk }:=by
   intro v h' tk hv nq kk
   obtain ⟨c,u,e1,e2⟩:=hv
   subst e2
   have I1:Inv X pins σ H { s with heap:=h',toks:=tk }:=I.turned (fun b o hb e=>kk b o (by simpa using hb) e) f0 f1 f3 f4 f5
   obtain ⟨o,e,cc,d⟩:=id nq
   refine ⟨_,rfl,w9 (s:={ s with heap:=h',toks:=tk }) e cc d (by unfold strIterType;split<;>decide) ⟨.str (S [c]),H,I1,⟨u,rfl⟩,⟨rfl,?_⟩,nq,fun b hb=>(hf b hb).1⟩⟩
   unfold dX
   rw[Y5]
   have D0:l[i]? =some c:=by simpa [S]using e1
   rw[D0]
   rfl
  have hsz:i<(S l).cps.size:=by rw[nL];exact Lc
  by_cases ha:(S l).cps.all (· <128)=true
  ·have et:strIterType (S l)="str_ascii_iterator":=by unfold strIterType;rw[if_pos ha]
   rw[et]at st
   exact (Walks.strAscii (prog:=X.prog) (w:=X.w) (I.ok.hd hc) it (S l) t).item i s _ _ hsz st fun v h' tk hv nq kk=>fin v h' tk hv (by rw[et];exact nq) kk
  ·have et:strIterType (S l)="str_iterator":=by unfold strIterType;rw[if_neg ha]
   rw[et]at st
   exact (Walks.strWide (prog:=X.prog) (w:=X.w) (I.ok.hd hc) it (S l) t).item i s _ _ hsz st fun v h' tk hv nq kk=>fin v h' tk hv (by rw[et];exact nq) kk
 done:=by
  intro X hP hw hK hc i pins s σ H E I hf st hg
  subst hP hw hK
  obtain ⟨f0,f1,f2,f3,f4,f5⟩:=hf it (by simp)
  have Lc:l.length<=i:=by have:(dX l).length<=i:=hg;rwa [bf]at this
  have hx:(S l).cps[i]? =none:=by rw[Array.getElem?_eq_none_iff,nL];exact Lc
  by_cases ha:(S l).cps.all (· <128)=true
  ·have et:strIterType (S l)="str_ascii_iterator":=by unfold strIterType;rw[if_pos ha]
   rw[et]at st
   exact wpAny_pyNext_ascii_end (I.ok.hd hc) st hx fun h' eb=>⟨rfl,I.turned (t':=s.toks) (fun b o hb e=>eb b o hb e) f0 f1 f3 f4 f5⟩
  ·have et:strIterType (S l)="str_iterator":=by unfold strIterType;rw[if_neg ha]
   rw[et]at st
   exact wpAny_pyNext_wide_end (I.ok.hd hc) st hx fun h' eb=>⟨rfl,I.turned (t':=s.toks) (fun b o hb e=>eb b o hb e) f0 f1 f3 f4 f5⟩
 self:=fun _ _ s _ _ st h=>by
  by_cases ha:(S l).cps.all (· <128)=true
  ·have et:strIterType (S l)="str_ascii_iterator":=by unfold strIterType;rw[if_pos ha]
   rw[et]at st
   exact wpAny_pyIter_striter_ascii st h
  ·have et:strIterType (S l)="str_iterator":=by unfold strIterType;rw[if_neg ha]
   rw[et]at st
   exact wpAny_pyIter_striter_wide st h
theorem D1 {P:Program} {w:World} {K:PySem.W.Frag} {tg:Expr} (it:Addr) (l:List Nat) (t:Tok) (hz:l.length<=sizeLine):Turn P w K tg (HB (dX l).reverse) [it] it (fun i h=>i<=l.length/\jw h it (S l) t ((l.length:Int) - 1 - (i:Int))) where
 mem:=by simp
 obj:=fun i h st b hb=>by
  have e:b=it:=by simpa using hb
  subst e
  obtain ⟨_,o,e,c,d⟩:=st
  exact ⟨o,e,fun v z=>by rw[d]at z;cases z⟩
 keep:=fun i h h' st k=>let ⟨q,o,e,r⟩:=st;⟨q,o,k it (by simp) o e,r⟩
 item:=by
  intro X hP hw hK hc i pins s σ H E I hf st hg
  subst hP hw hK
  have Lc:i<l.length:=by have:i<(dX l).reverse.length:=hg;rwa [ZX,bf]at this
  obtain ⟨f0,f1,f2,f3,f4,f5⟩:=hf it (by simp)
  obtain ⟨_,st⟩:=st
  have e:(l.length:Int) - 1 - (i:Int)=((l.length - 1 - i:Nat):Int):=by omega
  rw[e]at st
  have dq:l.length - 1 - i<l.length:=by omega
  refine o_ (c:=l[l.length - 1 - i]) st (by simp[S,dq]) (by rw[du];exact hz) fun h' tk u nq sb=>?_
  have I1:Inv X pins σ H { s with heap:=h',toks:=tk }:=I.turned (fun b o hb e=>(sb.2 b hb).trans e) f0 f1 f3 f4 f5
  obtain ⟨o,e1,cc,d⟩:=id nq
  refine ⟨_,rfl,w9 (s:={ s with heap:=h',toks:=tk }) e1 cc d (by decide) ⟨.str (S [l[l.length - 1 - i]]),H,I1,⟨u,rfl⟩,⟨rfl,?_⟩,⟨Lc,?_⟩,fun b hb=>(hf b hb).1⟩⟩
  ·rw[Qca (by rw[bf];exact Lc),bf]
   unfold dX
   rw[Y5,K3 dq]
   rfl
  ·have e2:(l.length:Int) - 1 - ((i+1:Nat):Int)=((l.length - 1 - i:Nat):Int) - 1:=by omega
   rw[e2]
   exact nq
 done:=by
  intro X hP hw hK hc i pins s σ H E I hf st hg
  subst hP hw hK
  obtain ⟨f0,f1,f2,f3,f4,f5⟩:=hf it (by simp)
  have Lc:l.length<=i:=by have:(dX l).reverse.length<=i:=hg;rwa [ZX,bf]at this
  obtain ⟨hi,st⟩:=st
  have e:(l.length:Int) - 1 - (i:Int)= -1:=by omega
  rw[e]at st
  exact qH (I.ok.hd hc) st fun h' eb=>⟨rfl,I.turned (t':=s.toks) (fun b o hb e=>eb b o hb e) f0 f1 f3 f4 f5⟩
 self:=fun _ _ _ _ _ st h=>qG st.2 h
section
variable {X:Cx} {tg:Expr}
def Td (tl:TE):TI:=fun σ H R=>tl σ H fun x H1=> ∃l,x= .str (S l)/\R (HB (dX l)) H1
theorem u5 {l:Expr} {tl:TE} (hl:PE X l tl):PI X tg l (Td tl):=by
 intro pins s σ H R I h
 refine b8 (hl pins s σ H _ I h) fun v s1 ⟨x,H1,I1,r1,q1⟩=>?_
 obtain ⟨l,rfl,q⟩:=q1
 obtain ⟨t,rfl⟩:=r1
 refine wpAny_pyIter_strU ?_
 refine ⟨s1.heap.objs.size,[s1.heap.objs.size],_,_,H1,rfl,I1.kept (t':=s1.toks) fun b o e=>U4 _ e,DZ _ l t,⟨_,Zw _ rfl,rfl,rfl⟩,fun b hb=>?_,q⟩
 have e:b=s1.heap.objs.size:=by simpa using hb
 subst e
 exact I1.o4 (Ri _) (I1.bX.fresh (Ri _))
def Te (ta:TA):TI:=fun σ H R=>ta σ H fun vs H1=> ∃l,vs=[.str (S l)]/\l.length<=sizeLine/\R (HB (dX l).reverse) H1
theorem D4 {a:Expr} {ta:TA} {p pos:Pos} (hg:Gl X "reversed") (hm:X.mg "reversed"=none) (ha:PA X [a] ta) (hs:starEach [a] X.env=[(false,eval a X.env)]:=by rfl):PI X tg (.Call (.Name "reversed" p) [a] [] pos) (Te ta):=by
 intro pins s σ H R I h
 refine Call_ (iE I hg hm boot_reversed (Qae (b8 (ha pos pins s σ H _ I h) fun us s1 ⟨vs,H1,I1,r1,q1⟩=>?_) hs rfl))
 obtain ⟨l,rfl,hz,q⟩:=q1
 obtain ⟨u,rfl,t,rfl⟩:=vals1 r1
 refine qF (by rw[du];exact hz) fun tk=>?_
 have hit:jw (s1.heap.push { cls:= .type "reversed",data:= .fields #[.str (S l) t,rawInt (((S l).length:Int) - 1)] }) s1.heap.objs.size (S l) t (((S l).length:Int) - 1):=⟨_,Zw _ rfl,rfl,rfl⟩
 refine qG hit ?_
 refine ⟨s1.heap.objs.size,[s1.heap.objs.size],_,_,H1,rfl,I1.kept (t':=tk) fun b o e=>U4 _ e,D1 _ l t hz,⟨WT _,?_⟩,fun b hb=>?_,q⟩
 ·have e:(l.length:Int) - 1 - ((0:Nat):Int)=((S l).length:Int) - 1:=by rw[du];simp
  rw[e]
  exact hit
 ·have e:b=s1.heap.objs.size:=by simpa using hb
  subst e
  exact I1.o4 (Ri _) (I1.bX.fresh (Ri _))
end
theorem AK {xs:List V} {g:TG} {tb:TS} {D:Ends} {σ:St} {H:Hp} (Pv:Nat->St->Hp->Prop) (h0:Pv 0 σ H)
  (hs: ∀i x σ H,xs[i]? =some x->Pv i σ H->g x σ H fun σ2 H2=>tb { D with nx:=Pv (i+1),ct:=Pv (i+1),bk:=D.nx } σ2 H2) (hd: ∀σ H,Pv xs.length σ H->D.nx σ H):
  ∃W:Nat->Nat->St->Hp->Prop,(∃m,W 0 m σ H)/\ ∀i m σ H,W i m σ H->
   ((HB xs).stop i H/\D.nx σ H)\/((HB xs).go i H/\ ∃N:St->Hp->Prop,(∀σ' H',N σ' H'-> ∃m',m'<m/\W (i+1) m' σ' H')/\ ∀x H',(HB xs).Di i H x H'->g x σ H' fun σ2 H2=>tb { D with nx:=N,ct:=N,bk:=D.nx } σ2 H2):=by
 refine ⟨fun i m σ H=>m=xs.length - i/\i<=xs.length/\Pv i σ H,⟨xs.length,by simp,WT _,h0⟩,?_⟩
 rintro i m σ H ⟨rfl,hi,p⟩
 by_cases dq:i<xs.length
 ·refine .inr ⟨dq,Pv (i+1),fun σ' H' p'=>⟨xs.length - (i+1),by omega,rfl,dq,p'⟩,fun x H' y=>?_⟩
  obtain ⟨e,y⟩:=y
  subst e
  exact hs i x σ _ y p
 ·have e:i=xs.length:=by omega
  subst e
  exact .inl ⟨Ri _,hd σ H p⟩
theorem pZ {J:It} {n:Nat} {xs:Nat->V->Prop} {σc:St} {g:TG} {tc:TT} {te:TE} {Q:VK} {H1:Hp} (Pv:Nat->List V->Hp->Prop) (hn:n<sizeLine) (WY: ∀i acc H,i<n->Pv i acc H->J.go i H) (PH: ∀acc H,Pv n acc H->J.stop n H)
  (hy: ∀i acc H x H',i<n->Pv i acc H->J.Di i H x H'->H'=H/\xs i x) (h0:Pv 0 [] H1)
  (hs: ∀(i:Nat) (x:V) (acc:List V) (H:Hp) (Nx:List V->Hp->Prop),i<n->xs i x->acc.length<=i->Pv i acc H->(∀eM H',eM.length<=i+1->Pv (i+1) eM H'->Nx eM H')->
   g x σc H fun σ2 H2=>Wk σc σ2/\tc σ2 H2 fun b H3=>if b=true then te σ2 H3 fun v H4=>Nx (acc++[v]) H4 else Nx acc H3)
  (hd: ∀acc H D,acc.length<=n->Pv n acc H->H D=none->Q (.ref D) (upd H D (.lst acc))):tE J σc g tc te Q H1:=by
 refine ⟨fun i m acc H=>m=n - i/\i<=n/\acc.length<=i/\Pv i acc H,⟨n,by simp,WT _,Ri _,h0⟩,?_⟩
 rintro i m acc H ⟨rfl,hi,hl,p⟩
 refine ⟨by omega,?_⟩
 by_cases dq:i<n
 ·refine .inr ⟨WY i acc H dq p,fun x H' y=>?_⟩
  obtain ⟨rfl,y2⟩:=hy i acc H x H' dq p y
  exact hs i x acc _ (fun eM H'=> ∃m',m'<n - i/\(m'=n - (i+1)/\i+1<=n/\eM.length<=i+1/\Pv (i+1) eM H')) dq y2 hl p fun eM H' h1 h2=>⟨n - (i+1),by omega,rfl,dq,h1,h2⟩
 ·have e:i=n:=by omega
  subst e
  exact .inl ⟨PH acc H p,fun D hD=>hd acc H D hl p hD⟩
theorem mi {xs:List V} {σc:St} {g:TG} {tc:TT} {te:TE} {Q:VK} {H1:Hp} (Pv:Nat->List V->Hp->Prop) (hn:xs.length<sizeLine) (h0:Pv 0 [] H1)
  (hs: ∀(i:Nat) (x:V) (acc:List V) (H:Hp) (Nx:List V->Hp->Prop),i<xs.length->xs[i]? =some x->acc.length<=i->Pv i acc H->(∀eM H',eM.length<=i+1->Pv (i+1) eM H'->Nx eM H')->
   g x σc H fun σ2 H2=>Wk σc σ2/\tc σ2 H2 fun b H3=>if b=true then te σ2 H3 fun v H4=>Nx (acc++[v]) H4 else Nx acc H3)
  (hd: ∀acc H D,acc.length<=xs.length->Pv xs.length acc H->H D=none->Q (.ref D) (upd H D (.lst acc))):tE (HB xs) σc g tc te Q H1:=
 pZ (xs:=fun i x=>xs[i]? =some x) Pv hn (fun i _ _ h _=>h) (fun _ _ _=>Ri _) (fun i _ H x H' _ _ y=>y) h0 hs hd
theorem D5 {lo:Int} {n:Nat} {σc:St} {g:TG} {tc:TT} {te:TE} {Q:VK} {H1:Hp} (Pv:Nat->List V->Hp->Prop) (hn:n<sizeLine) (h0:Pv 0 [] H1)
  (hs: ∀(i:Nat) (acc:List V) (H:Hp) (Nx:List V->Hp->Prop),i<n->acc.length<=i->Pv i acc H->(∀eM H',eM.length<=i+1->Pv (i+1) eM H'->Nx eM H')->
   g (.int (lo+i)) σc H fun σ2 H2=>Wk σc σ2/\tc σ2 H2 fun b H3=>if b=true then te σ2 H3 fun v H4=>Nx (acc++[v]) H4 else Nx acc H3)
  (hd: ∀acc H D,acc.length<=n->Pv n acc H->H D=none->Q (.ref D) (upd H D (.lst acc))):tE (Jz lo n) σc g tc te Q H1:=
 pZ (xs:=fun i x=>x= .int (lo+i)) Pv hn (fun i _ _ h _=>h) (fun _ _ _=>Ri _) (fun i _ H x H' _ _ y=>y) h0 (fun i x acc H Nx h1 h2=>by subst h2;exact hs i acc H Nx h1) hd
theorem Ci {K:PySem.W.Frag} {a:Addr} {xs:List V} {σc:St} {g:TG} {tc:TT} {te:TE} {Q:VK} {H1:Hp} (Pv:Nat->List V->Hp->Prop) (hn:xs.length<sizeLine) (hl: ∀i acc H,Pv i acc H->bu K H a xs) (h0:Pv 0 [] H1)
  (hs: ∀(i:Nat) (x:V) (acc:List V) (H:Hp) (Nx:List V->Hp->Prop),i<xs.length->xs[i]? =some x->acc.length<=i->Pv i acc H->(∀eM H',eM.length<=i+1->Pv (i+1) eM H'->Nx eM H')->
   g x σc H fun σ2 H2=>Wk σc σ2/\tc σ2 H2 fun b H3=>if b=true then te σ2 H3 fun v H4=>Nx (acc++[v]) H4 else Nx acc H3)
  (hd: ∀acc H D,acc.length<=xs.length->Pv xs.length acc H->H D=none->Q (.ref D) (upd H D (.lst acc))):tE (Kv K a) σc g tc te Q H1:=
 pZ (xs:=fun i x=>xs[i]? =some x) Pv hn (fun i acc H h p=>⟨xs,xs[i],hl i acc H p,by simp[h]⟩) (fun acc H p=>⟨xs,hl _ acc H p,Ri _⟩) (fun i acc H x H' h p y=>⟨y.1,y.2 xs (hl i acc H p)⟩) h0 hs hd
def HC (c:TT) (tb:TS):TS:=fun D σ H=> ∃W:Nat->St->Hp->Prop,(∃m,W m σ H)/\ ∀m σ H,W m σ H->
 c σ H fun b H1=>if b=true then tb { D with nx:=fun σ' H'=> ∃m',m'<m/\W m' σ' H',ct:=fun σ' H'=> ∃m',m'<m/\W m' σ' H',bk:=D.nx } σ H1 else D.nx σ H1
theorem dh {X:Cx} {c:Expr} {body:List Stmt} {tc:TT} {tb:TS} {pos:Pos} (hp:PassesOwn (model X.prog X.w) X.A X.env X.xe) (hc:PT X c tc) (hb:yU X body tb):PS X (.While c body [] pos) (HC tc tb):=by
 intro pins s σ H D I h
 obtain ⟨W,⟨m0,w0⟩,turn⟩:=h
 refine wpAny_While (codeAny_whileLoop (fun n s'=> ∃σ' H',Inv X pins σ' H' s'/\W n σ' H') ?_ m0 ⟨σ,H,I,w0⟩)
 rintro n s1 ⟨σ1,H1,I1,w1⟩
 refine wpAny_passesOwn hp (b8 (hc pins s1 σ1 H1 _ I1 (turn n σ1 H1 w1)) fun b s2 ⟨H2,I2,q2⟩=>?_)
 cases b with
 | true=>
  rw[if_pos rfl]at q2 ⊢
  refine wpAny_passesOwn hp (b8 (hb pins s2 σ1 H2 _ I2 q2) fun f s3 q3=>?_)
  cases f with
  | next=>
   obtain ⟨σ3,H3,I3,m',hm,w3⟩:=q3
   exact ⟨m',hm,σ3,H3,I3,w3⟩
  | cont=>
   obtain ⟨σ3,H3,I3,m',hm,w3⟩:=q3
   exact ⟨m',hm,σ3,H3,I3,w3⟩
  | brk=>exact q3
  | ret v=>exact q3
 | false=>
  rw[if_neg Zz]at q2 ⊢
  exact wpAny_execs_nil ⟨σ1,H2,I2,q2⟩
noncomputable def u6 (X:Cx) (scope:Scope):Bool:=(scope.names.all fun y=>y.2 != .cell)&&(scope.kind== .function)&&(scope.names.all fun y=>y.2 != .free||X.env.kindOf y.1==some .cell||X.env.kindOf y.1==some .free)&&(scope.names.all fun y=>y.2 != .local||scope.names.lookup y.1==some .local)
theorem mj {X:Cx} {scope:Scope} (h:u6 X scope=true):(∀y∈scope.names,y.2≠ .cell)/\scope.kind= .function/\(∀y∈scope.names,y.2= .free->X.env.kindOf y.1=some .cell\/X.env.kindOf y.1=some .free)/\(∀x∈scope.names,x.2= .local->scope.names.lookup x.1=some .local):=by
 unfold u6 at h
 simp only[Z0]at h
 obtain ⟨⟨⟨h1,h2⟩,h3⟩,h4⟩:=h
 refine ⟨fun y hy e=>?_,by simpa using h2,fun y hy e=>?_,fun y hy e=>?_⟩
 ·have:=Qd6.mp h1 y hy
  rw[e]at this;simp at this
 ·have:=Qd6.mp h3 y hy
  rw[e]at this
  simpa using this
 ·have:=Qd6.mp h4 y hy
  rw[e]at this
  simpa using this
theorem fi {X:Cx} {tg iter elt:Expr} {ifs:List Expr} {scope:Scope} {pos:Pos} {wi:TI} {g:TG} {tc:TT} {te:TE} (Nc:List Str) (ix:List (Option Nat)) (hi:PI X tg iter wi) (zk:kA X scope Nc ix)
  (hG: ∀C s H fp,PG (bT X scope C Nc s H fp) tg g) (hT: ∀C s H fp,PF (bT X scope C Nc s H fp) ifs tc) (hE: ∀C s H fp,PE (bT X scope C Nc s H fp) elt te) (bX:u6 X scope=true:=by rfl) (kH:X.calm=true:=by rfl)
  (hs: ∀x,foldedSetIterable iter X.env x=pure x:=by intro _;rfl):PE X (.ListComp elt [⟨tg,iter,ifs,0⟩] scope pos) (xj wi ix g tc te):=
 let ⟨h1,h2,h3,h4⟩:=mj bX
 Hw Nc ix hi kH zk h1 h2 h3 h4 hG hT hE hs
theorem D6 {X:Cx} {i:Nat} {x:Str} {tg iter elt:Expr} {ifs:List Expr} {scope:Scope} {pos DU pos':Pos} {wi:TI} {g:TG} {tc:TT} {te:TE} (Nc:List Str) (ix:List (Option Nat)) (hN:X.N.Nodup) (Pw:X.N[i]? =some x) (hx:Loc X.env.scope x)
  (hi:PI X tg iter wi) (zk:kA X scope Nc ix)
  (hG: ∀C s H fp,PG (bT X scope C Nc s H fp) tg g) (hT: ∀C s H fp,PF (bT X scope C Nc s H fp) ifs tc) (hE: ∀C s H fp,PE (bT X scope C Nc s H fp) elt te)
  (GO:swapsWith (.ListComp elt [⟨tg,iter,ifs,0⟩] scope pos) (some (.Name x pos')) DU.line X.env=pure true:=by rfl) (bX:u6 X scope=true:=by rfl) (kH:X.calm=true:=by rfl)
  (hs: ∀x,foldedSetIterable iter X.env x=pure x:=by intro _;rfl) (hf:X.fn x=true\/X.env.scope.names.lookup x=some .local:=by first | exact .inl rfl | exact .inr rfl | assumption):
  PS X (.Assign [.Name x pos'] (.ListComp elt [⟨tg,iter,ifs,0⟩] scope pos) DU) (Ha (xj wi ix g tc te) (w6 i)):=
 let ⟨h1,h2,h3,h4⟩:=mj bX
 Hx Nc ix hN Pw hx GO hi kH zk h1 h2 h3 h4 hG hT hE hs hf
section
variable {X:Cx}
def Tf:R2:=fun x y H Q=> ∃a b,x= .str (S a)/\y= .str (S b)/\Q (.bl (decide (a=b))) H
def Tg:R2:=fun x y H Q=> ∃a b,x= .str (S a)/\y= .str (S b)/\Q (.bl (!decide (a=b))) H
theorem gS:g_ X (compareOp .Eq) Tf:=by
 intro pins s σ H x y v u Q I rx ry h
 obtain ⟨a,b,rfl,rfl,q⟩:=h
 exact xa pins s σ H _ _ v u Q I rx ry ⟨rfl,by rw[JF];exact q⟩
theorem D7:g_ X (compareOp .NotEq) Tg:=by
 intro pins s σ H x y v u Q I rx ry h
 obtain ⟨a,b,rfl,rfl,q⟩:=h
 exact DG pins s σ H _ _ v u Q I rx ry ⟨rfl,by rw[JF];exact q⟩
theorem JJ {i j:Int}:decide (V.int i=V.int j)=decide (i=j):=by
 by_cases h:i=j
 ·subst h;simp
 ·rw[decide_eq_false h,decide_eq_false]
  intro q
  exact h (V.int.inj q)
theorem JK {i j:Bool}:decide (V.bl i=V.bl j)=decide (i=j):=by
 by_cases h:i=j
 ·subst h;simp
 ·rw[decide_eq_false h,decide_eq_false]
  intro q
  exact h (V.bl.inj q)
theorem gT:g_ X (compareOp .Eq) (GJ fun i j=> .bl (decide (i=j))):=by
 intro pins s σ H x y v u Q I rx ry h
 obtain ⟨a,b,rfl,rfl,q⟩:=h
 exact xa pins s σ H _ _ v u Q I rx ry ⟨rfl,by rw[JJ];exact q⟩
theorem D8:g_ X (compareOp .NotEq) (GJ fun i j=> .bl (!decide (i=j))):=by
 intro pins s σ H x y v u Q I rx ry h
 obtain ⟨a,b,rfl,rfl,q⟩:=h
 exact DG pins s σ H _ _ v u Q I rx ry ⟨rfl,by rw[JJ];exact q⟩
def Vd (g:Bool->Bool->V):R2:=fun x y H Q=> ∃i j,x= .bl i/\y= .bl j/\Q (g i j) H
theorem Ld:g_ X (compareOp .Eq) (Vd fun i j=> .bl (decide (i=j))):=by
 intro pins s σ H x y v u Q I rx ry h
 obtain ⟨a,b,rfl,rfl,q⟩:=h
 exact xa pins s σ H _ _ v u Q I rx ry ⟨rfl,by rw[JK];exact q⟩
theorem D9:g_ X (compareOp .NotEq) (Vd fun i j=> .bl (!decide (i=j))):=by
 intro pins s σ H x y v u Q I rx ry h
 obtain ⟨a,b,rfl,rfl,q⟩:=h
 exact DG pins s σ H _ _ v u Q I rx ry ⟨rfl,by rw[JK];exact q⟩
def Th (f:List Nat->List Nat->Bool):R2:=fun x y H Q=> ∃a b,x= .str (S a)/\y= .str (S b)/\Q (.bl (f a b)) H
theorem u7:g_ X (compareOp .Lt) (Th fun a b=>decide (a<b)):=by
 intro pins s σ H x y v u Q I rx ry h
 obtain ⟨a,b,rfl,rfl,q⟩:=h
 exact B2 pins s σ H _ _ v u Q I rx ry ⟨S a,S b,rfl,rfl,by rw[gm,gm];exact q⟩
end
section
variable {X:Cx} {tg:Expr}
theorem b6 (K:PySem.W.Frag) (h:X.K=K):KO X (O_ K):=by subst h;exact Hl
theorem az (K:PySem.W.Frag) (h:X.K=K):KO X (Pa K):=by subst h;exact KP
def PJ (K:PySem.W.Frag):List V->Hp->VK->Prop:=fun xs H Q=> ∃p ys,xs=[.ref p]/\(bu K H p ys\/aX K H p ys)/\Q (.int ys.length) H
theorem aV (K:PySem.W.Frag) (h:X.K=K):dZ X (.builtin "len") (PJ K):=by subst h;exact uV
theorem jx (K:PySem.W.Frag) (h:X.K=K):Ca X "str.join" (DX K):=by subst h;exact DY
def HD (K:PySem.W.Frag):List V->Hp->VK->Prop:=fun xs H Q=> ∃p ys,xs=[.ref p]/\(bu K H p ys\/aX K H p ys)/\ ∀l,H l=none->Q (.ref l) (upd H l (.lst ys))
theorem sF (K:PySem.W.Frag) (h:X.K=K):dZ X (.type "list") (HD K):=by subst h;exact uX
theorem ml (K:PySem.W.Frag) (h:X.K=K):Rc X (Pc K):=by subst h;exact Hm
theorem fj (K:PySem.W.Frag) (h:X.K=K) {l:Expr} {tl:TE} (hl:PE X l tl):PI X tg l (JA K tl):=by subst h;exact Hb hl
theorem u9 (K:PySem.W.Frag) (h:X.K=K) {l:Expr} {tl:TE} (hl:PE X l tl):PI X tg l (OP K tl):=by subst h;exact Kx hl
end
section
variable {X:Cx} {o e:Expr} {es:List Expr} {to:TE} {t:TA} {name:Str} {apos fI:Pos} {T id:String} {r:V->List V->Hp->VK->Prop}
theorem eY (K:PySem.W.Frag) (hK:X.K=K) (pa:PlainAttrs T) (slot:Slot T name id) (KW:typeOf (.builtin id)=pure (.type "method_descriptor")) (hm:Ca X id r) (ho:PE X o to)
  (qx:attributeBase o name X.env (eval o X.env)=eval o X.env:=by rfl) (oI:(apos.endLine==fI.line)=true:=by rfl):PE X (.Call (.Attribute o name apos) [] [] fI) (Pd K T r to):=by
 subst hK
 exact KU pa slot KW hm ho qx oI
theorem bG (K:PySem.W.Frag) (hK:X.K=K) (pa:PlainAttrs T) (slot:Slot T name id) (KW:typeOf (.builtin id)=pure (.type "method_descriptor")) (hm:Ca X id r) (ho:PE X o to) (ha:PA X (e::es) t)
  (qx:attributeBase o name X.env (eval o X.env)=eval o X.env:=by rfl)
  (xg:((backTo fI (starEach (e::es) X.env)).all (fun x=>!x.1)&&(backToKw fI (keywordEach [] X.env)).all (fun x=>x.1.isSome)
   &&decide ((e::es).length+([]:List Keyword).length+(if ([]:List Keyword).isEmpty then 0 else 1)<30))=true:=by rfl)
  (oI:(apos.endLine==fI.line)=true:=by rfl) (hs:starEach (e::es) X.env=(false,eval e X.env)::starEach es X.env:=by rfl) (zd:(backTo fI (starEach es X.env)).any (·.1)=false:=by rfl):
  PE X (.Call (.Attribute o name apos) (e::es) [] fI) (U0 K T r to t):=by
 subst hK
 exact Pe pa slot KW hm ho ha qx xg oI hs zd
end
section
variable {X:Cx}
def PK (K:PySem.W.Frag) (ta:TE):TT:=fun σ H Q=>ta σ H fun x H'=> ∃p xs,x= .ref p/\bu K H' p xs/\Q (!xs.isEmpty) H'
theorem HE {a:Expr} {ta:TE} (K:PySem.W.Frag) (h:X.K=K) (ha:PE X a ta) (he: ∀whole,isTrue a X.env whole=(do let v <-whole;standAt a.pos;holding [v] (truthy v)):=by intro _;rfl):PT X a (PK K ta):=by
 subst h
 intro pins s σ H Q I hw
 refine isTrue_plain (b8 (ha pins s σ H _ I hw) fun v s1 ⟨x,H1,I1,r1,q1⟩=>?_) (he _)
 obtain ⟨p,xs,rfl,hq,q⟩:=q1
 exact KG pins s1 σ H1 _ v Q I1 r1 ⟨_, .inl ⟨xs,hq,rfl⟩,q⟩
theorem iL (K:PySem.W.Frag) (h:X.K=K) {es:List Expr} {k:Nat} {t:Jy} {n:Nat} {pos:Pos} (hc:X.calm=true) (hs:OK X es t)
  (hn:(assignEach es X.env).length=n:=by rfl) (oG:(assignEach es X.env).findIdx? (·.1)=none:=by rfl):PG X (.Tuple es k pos) (OO K n t):=by
 subst h
 exact Kt hc hs hn oG
end
noncomputable def cT (a b:List Nat):List Nat:=if b<a then b else a
noncomputable def ck:List Nat->List (List Nat)->List Nat
 | a,[]=>a
 | a,b::r=>ck (cT a b) r
theorem argBest_lt (bt:Nat->Nat->Bool): ∀n,argBest bt n<=n
 | 0=>Ri _
 | n+1=>by
  unfold argBest
  split
  ·exact Ri _
  ·exact Nat.le_succ_of_le (argBest_lt bt n)
section
variable {X:Cx}
theorem D_ (K:PySem.W.Frag) (h:X.K=K):g_ X (compareOp .In) (Rf K false):=by subst h;exact Cb
theorem HF (K:PySem.W.Frag) (h:X.K=K):g_ X (compareOp .NotIn) (Rf K true):=by subst h;exact uU
end
noncomputable def dM (n:Nat) (l:List Nat):List Nat:=(List.replicate n l).flatten
theorem eN (n:Nat) (l:List Nat):dM (n+1) l=l++dM n l:=by unfold dM;rw[Qdl,Qbm]
theorem zu (n:Nat) (l:List Nat):dM (n+1) l=dM n l++l:=by unfold dM;rw[List.replicate_succ',List.flatten_append,Qbm,List.flatten_nil,ZV]
theorem xm (n:Nat) (l:List Nat):(dM n l).length=n*l.length:=by
 induction n with
 | zero=>simp[dM]
 | succ n ih=>rw[eN,U5,ih,Qb1,Qdx]
theorem tJ (l:List Nat): ∀(n:Nat) (acc:Array Nat),((List.replicate n (S l).cps).foldl (· ++ ·) acc).toList=acc.toList++dM n l
 | 0,acc=>by simp[dM]
 | n+1,acc=>by
  rw[Qdl,Qch,tJ l n,eN]
  simp[S]
def PL:R2:=fun x y H Q=> ∃(l:List Nat) (i:Int),x= .str (S l)/\y= .int i/\(0<=i/\i<=1000000)/\l.length*i.toNat<=sizeLine/\Q (.str (S (dM i.toNat l))) H
theorem u_ {X:Cx}:g_ X (binaryOp .Mult) PL:=by
 intro pins s σ H x y v u Q I rx ry h
 obtain ⟨l,i,rfl,rfl,⟨h0,h1⟩,hz,q⟩:=h
 obtain ⟨t,rfl⟩:=rx
 obtain ⟨t',rfl⟩:=ry
 have hn:=gk
 have Ti:(S l).length=l.length:=du l
 have Tj:(l.length:Int)*i<=2 ^ 63 - 1:=by
  have e:((l.length*i.toNat:Nat):Int)=(l.length:Int)*i:=by rw[Qed,Int.toNat_of_nonneg h0]
  have:((l.length*i.toNat:Nat):Int)<=(sizeLine:Int):=by exact_mod_cast hz
  rw[<-e];omega
 refine P.mul_str (x:=S l) (n:=i) (t:=t) (u:=t') (by
  have e1:decide (i< -(2 ^ 63:Int))=false:=decide_eq_false (by omega)
  have e2:decide (i ≥ 2 ^ 63)=false:=decide_eq_false (by omega)
  rw[e1,e2];rfl) (fun z _=>?_) (fun z _=>?_) ?_
 ·rw[Ti]
  have:(l.length:Int)<=(2 ^ 63 - 1) / i:=(Int.le_ediv_iff_mul_le (by omega)).mpr Tj
  omega
 ·rw[Ti]
  show Builtin.Str.tooLong _=false
  unfold Builtin.Str.tooLong
  exact decide_eq_false (by omega)
 ·by_cases z:i<1
  ·rw[if_pos z]
   have e:i.toNat=0:=by omega
   rw[e]at q
   exact ⟨by decide, .str _,H,I.tok _,⟨_,rfl⟩,q⟩
  ·rw[if_neg z]
   by_cases z2:(i==1||(S l).length==0)=true
   ·rw[if_pos z2]
    have e:dM i.toNat l=l:=by
     rcases Bool.or_eq_true _ _ |>.mp z2 with e | e
     ·have e:i=1:=by simpa using e
      subst e
      show dM 1 l=l
      rw[eN];simp[dM]
     ·have e:l.length=0:=by rw[Ti]at e;simpa using e
      have e:l=[]:=Qap.mp e
      subst e
      unfold dM
      simp
    rw[e]at q
    exact ⟨.str _,H,I,⟨_,rfl⟩,q⟩
   ·rw[if_neg z2]
    have e:(⟨(List.replicate i.toNat (S l).cps).foldl (· ++ ·) #[]⟩:Str)=S (dM i.toNat l):=by
     have:=tJ l i.toNat #[]
     show _=(⟨(dM i.toNat l).toArray⟩:Str)
     congr 1
     apply Qbt.mp
     rw[this]
     simp
    rw[e]
    refine ⟨?_, .str _,H,I.tok _,⟨_,rfl⟩,q⟩
    rw[du,xm,Qbb]
    exact hz
section
variable {X:Cx} {pins:List (Addr×Obj)} {σ:St} {H:Hp} {s:Shared} {h':Heap}
theorem Inv.qI {t':Nat} {ch:List Addr} {T:Addr} {ob:HO} (I:Inv X pins σ H s) (k: ∀b o,b∉ch->s.heap.get? b=some o->h'.get? b=some o) (hf: ∀b∈ch,oZ X pins H b)
  (hT:s.heap.objs.size<=T) (new:cU X.prog X.w (upd H T ob) h' T ob):Inv X pins σ (upd H T ob) { s with heap:=h',toks:=t' }:=by
 have hn:=I.bX.fresh hT
 have Jw: ∀b u,H b=some u->b∉ch:=fun b u e z=>by rw[(hf b z).1]at e;cases e
 have neT: ∀b o,s.heap.get? b=some o->b≠T:=fun b o e z=>absurd (ZJ (ZA e) hT) (by rw[z];exact Z5 _)
 refine I.step (g':=s.gens) (d':=s.drawn) (ch:=ch) (fun b hb=>?_) (fun b o _ _ hc e _=>k b o hc e) (fun b o _ _ hc e _=>⟨o.slots,k b o hc e⟩) (fun b o _ e n=>by rw[au (neT b o e)];exact n)
  (fun b o hc e=>⟨o,k b o hc e⟩) (fun b xs e=>by rw[au (aq e hn)];exact e) (fun b o u e=>by rw[au (aq e hn)];exact e) (fun b ps e=>⟨#[],by rw[au (aq e hn),e];simp⟩) (fun m hm=>?_) (fun b u e=>?_) I.bare
 ·obtain ⟨_,h2,_,h4,h5,h6⟩:=hf b hb
  exact ⟨h4,h2,h5,h6⟩
 ·obtain ⟨o,es,ep,ho,r⟩:=hm
  exact ⟨o,es,ep,k _ o (fun z=>(hf _ z).2.1 rfl) ho,r⟩
 ·by_cases hb:b=T
  ·subst hb;rw[ag]at e;cases e;exact new
  ·rw[au hb]at e
   refine (I.bX b u e).wY (fun c v hc q=>k c v ?_ q) (fun c q=>by rw[au (aq q hn)];exact q) fun c xs q=>by rw[au (aq q hn)];exact q
   rcases hc with z | z
   ·rw[z];exact Jw b u e
   ·exact Jw c _ z
theorem Inv.va {t':Nat} {ch:List Addr} (I:Inv X pins σ H s) (k: ∀b o,b∉ch->s.heap.get? b=some o->h'.get? b=some o) (hf: ∀b∈ch,oZ X pins H b):Inv X pins σ H { s with heap:=h',toks:=t' }:=by
 have Jw: ∀b u,H b=some u->b∉ch:=fun b u e z=>by rw[(hf b z).1]at e;cases e
 refine I.step (g':=s.gens) (d':=s.drawn) (ch:=ch) (fun b hb=>?_) (fun b o _ _ hc e _=>k b o hc e) (fun b o _ _ hc e _=>⟨o.slots,k b o hc e⟩) (fun b o _ e n=>n)
  (fun b o hc e=>⟨o,k b o hc e⟩) (fun b xs e=>e) (fun b o u e=>e) (fun b ps e=>⟨#[],by rw[e];simp⟩) (fun m hm=>?_) (fun b u e=>?_) I.bare
 ·obtain ⟨_,h2,_,h4,h5,h6⟩:=hf b hb
  exact ⟨h4,h2,h5,h6⟩
 ·obtain ⟨o,es,ep,ho,r⟩:=hm
  exact ⟨o,es,ep,k _ o (fun z=>(hf _ z).2.1 rfl) ho,r⟩
 ·refine (I.bX b u e).wY (fun c v hc q=>k c v ?_ q) (fun c q=>q) fun c xs q=>q
  rcases hc with z | z
  ·rw[z];exact Jw b u e
  ·exact Jw c _ z
end
noncomputable def PM (l:List Nat):It:=⟨fun i _=>i<l.length,fun i H x H'=> ∃T c,l[i]? =some c/\x= .ref T/\H T=none/\H'=upd H T (.tup [.int i, .str (S [c])]),fun i _=>l.length<=i⟩
theorem tK {prog:Program} {w:World} {A:Around} (hh:A.handled=none) (it:Addr) (x:Str) (t:Tok):
  Draws prog w A it [it] x.cps.size (fun i v=> ∃c u,x.cps[i]? =some c/\v= .str ⟨#[c]⟩ u) (fun i h=>h.IsStrIter it (strIterType x) x t i):=by
 by_cases ha:x.cps.all (· <128)=true
 ·have et:strIterType x="str_ascii_iterator":=by unfold strIterType;rw[if_pos ha]
  rw[et];exact Draws.strAscii hh it x t
 ·have et:strIterType x="str_iterator":=by unfold strIterType;rw[if_neg ha]
  rw[et];exact Draws.strWide hh it x t
theorem zw {P:Program} {w:World} {K:PySem.W.Frag} {elts:List Expr} {k:Nat} {pos:Pos} (e it:Addr) (AL:e≠it) (l:List Nat) (t:Tok):
  Turn P w K (.Tuple elts k pos) (PM l) [e,it] e (fun i h=>i<=l.length/\(∃old,IsEnum h e it i old)/\h.IsStrIter it (strIterType (S l)) (S l) t i) where
 mem:=by simp
 obj:=fun i h st b hb=>by
  obtain ⟨_,⟨old,he⟩,o,ho,hc,hd⟩:=st
  rcases Zt.mp hb with z | z
  ·rw[z];exact ⟨_,he,fun v z=>by cases z⟩
  ·rw[U7.mp z];exact ⟨o,ho,fun v z=>by rw[hd]at z;cases z⟩
 keep:=fun i h h' st kp=>by
  obtain ⟨h1,⟨old,he⟩,o,ho,r⟩:=st
  exact ⟨h1,⟨old,kp e (by simp) _ he⟩,o,kp it (by simp) o ho,r⟩
 item:=by
  intro X hP hw hK hc i pins s σ H E I hf st hg
  subst hP hw hK
  obtain ⟨_,yM,yL⟩:=st
  have D:=tK (prog:=X.prog) (w:=X.w) (A:=X.A.in1) (I.ok.hd hc) it (S l) t
  have W:=WalksT.enumerateD D e AL (by simpa using AL) (by simp)
  have hi:i<(S l).cps.size:=by rw[nL];exact hg
  refine W.item i s _ _ hi ⟨yM,yL⟩ fun T vals h' tk PN hT Ea xn hk=>⟨_,rfl,?_⟩
  refine W.go elts k pos i T { s with heap:=h',toks:=tk } _ _ xn fun h2 xo zx=>?_
  obtain ⟨tt,x,⟨c,u,Tn,rfl⟩,rfl⟩:=PN
  have JL:T∉[e,it]:=W.apart i T h' xn
  have xp:h2.IsTuple T #[.int i tt, .str ⟨#[c]⟩ u]:=by
   obtain ⟨o,ho,r⟩:=Ea
   exact ⟨o,zx T o JL ho,r⟩
  have hl:l[i]? =some c:=by simpa [S]using Tn
  refine ⟨.ref T,upd H T (.tup [.int i, .str (S [c])]),?_,rfl,⟨T,c,hl,rfl,I.bX.fresh hT,rfl⟩,⟨hg,xo.1,xo.2⟩,fun b hb=>?_⟩
  ·refine I.qI (t':=tk) (h':=h2) (fun b o hb y=>zx b o hb (hk b o hb y)) hf hT ?_
   exact ⟨by show 2<=sizeLine;decide,[.int i tt, .str ⟨#[c]⟩ u], .cons ⟨tt,rfl⟩ (.cons ⟨u,rfl⟩ .nil),xp⟩
  ·rw[au (fun z:b=T=>JL (z▸hb))];exact (hf b hb).1
 done:=by
  intro X hP hw hK hc i pins s σ H E I hf st hg
  subst hP hw hK
  obtain ⟨h1,yM,yL⟩:=st
  have e1:i=l.length:=Qd9 h1 hg
  have D:=tK (prog:=X.prog) (w:=X.w) (A:=X.A.in1) (I.ok.hd hc) it (S l) t
  have W:=WalksT.enumerateD D e AL (by simpa using AL) (by simp)
  refine W.done s _ _ ?_ fun h' tk hk=>⟨rfl,I.va (t':=tk) hk hf⟩
  rw[nL, <-e1]
  exact ⟨yM,yL⟩
 self:=fun _ _ s _ _ st h=>by
  obtain ⟨_,⟨old,he⟩,_⟩:=st
  exact wpAny_pyIter_enum he h
def Le (ta:TA):TI:=fun σ H R=>ta σ H fun vs H1=> ∃l,vs=[.str (S l)]/\R (PM l) H1
theorem Eb {X:Cx} {elts:List Expr} {k:Nat} {pos':Pos} {a:Expr} {ta:TA} {p pos:Pos} (hg:Gl X "enumerate") (hm:X.mg "enumerate"=none) (ha:PA X [a] ta) (hs:starEach [a] X.env=[(false,eval a X.env)]:=by rfl):PI X (.Tuple elts k pos') (.Call (.Name "enumerate" p) [a] [] pos) (Le ta):=by
 intro pins s σ H R I h
 refine Call_ (iE I hg hm boot_enumerate (Qae (b8 (ha pos pins s σ H _ I h) fun us s1 ⟨vs,H1,I1,r1,q1⟩=>?_) hs rfl))
 obtain ⟨l,rfl,q⟩:=q1
 obtain ⟨u,rfl,t,rfl⟩:=vals1 r1
 refine call_enumerate_str fun h' he hit hsz hk=>?_
 refine wpAny_pyIter_enum he ?_
 refine ⟨s1.heap.objs.size+1,[s1.heap.objs.size+1,s1.heap.objs.size],_,_,H1,rfl,I1.kept (t':=s1.toks) hk,zw _ _ (Qcy _) l t,⟨WT _,⟨_,he⟩,hit⟩,fun b hb=>?_,q⟩
 have hJ:s1.heap.objs.size<=b:=by
  rcases Zt.mp hb with z | z
  ·rw[z];exact Qbf _
  ·rw[U7.mp z];exact Ri _
 exact I1.o4 hJ (I1.bX.fresh hJ)
theorem Ec {l:List Nat} {g:TG} {tb:TS} {D:Ends} {σ:St} {H:Hp} (Pv:Nat->St->Hp->Prop) (h0:Pv 0 σ H)
  (hs: ∀i c σ H T,l[i]? =some c->Pv i σ H->H T=none->g (.ref T) σ (upd H T (.tup [.int i, .str (S [c])])) fun σ2 H2=>tb { D with nx:=Pv (i+1),ct:=Pv (i+1),bk:=D.nx } σ2 H2) (hd: ∀σ H,Pv l.length σ H->D.nx σ H):
  ∃W:Nat->Nat->St->Hp->Prop,(∃m,W 0 m σ H)/\ ∀i m σ H,W i m σ H->
   ((PM l).stop i H/\D.nx σ H)\/((PM l).go i H/\ ∃N:St->Hp->Prop,(∀σ' H',N σ' H'-> ∃m',m'<m/\W (i+1) m' σ' H')/\ ∀x H',(PM l).Di i H x H'->g x σ H' fun σ2 H2=>tb { D with nx:=N,ct:=N,bk:=D.nx } σ2 H2):=by
 refine ⟨fun i m σ H=>m=l.length - i/\i<=l.length/\Pv i σ H,⟨l.length,by simp,WT _,h0⟩,?_⟩
 rintro i m σ H ⟨rfl,hi,p⟩
 by_cases dq:i<l.length
 ·refine .inr ⟨dq,Pv (i+1),fun σ' H' p'=>⟨l.length - (i+1),by omega,rfl,dq,p'⟩,fun x H' y=>?_⟩
  obtain ⟨T,c,hc,rfl,hn,rfl⟩:=y
  exact hs i c σ _ T hc p hn
 ·have e:i=l.length:=by omega
  subst e
  exact .inl ⟨Ri _,hd σ H p⟩
section
variable {X:Cx}
theorem HG {ls:List (List Nat)}: ∀{aJ:List Value},Vals (ls.map fun l=>V.str (S l)) aJ->StrsAre aJ (ls.map S):=by
 induction ls with
 | nil=>intro aJ r;cases r;exact .nil
 | cons l ls ih=>
  intro aJ r
  cases r with
  | cons r1 r2=>
   obtain ⟨t,rfl⟩:=r1
   exact .cons _ t (ih r2)
theorem AM: ∀{aJ:List Value} {ss:List Str},StrsAre aJ ss->Vals ((ss.map fun x=>x.cps.toList).map fun l=>V.str (S l)) aJ
 | _,_, .nil=> .nil
 | _,_, .cons x t h=> .cons ⟨t,by rw[<-Py]⟩ (AM h)
theorem tL: ∀(p:Str) (r:List Str),risingS p r=true->(p::r).Pairwise fun a b=> ¬b.cps.toList<a.cps.toList
 | p,[],_=>Qby _ _
 | p,x::r,h=>by
  have h':(!ltCps x.cps.toList p.cps.toList&&risingS x r)=true:=h
  rw[Z0,ltCps_eq]at h'
  have h1: ¬x.cps.toList<p.cps.toList:=by simpa using h'.1
  have ih:=tL x r h'.2
  refine Qa5.mpr ⟨fun y hy=>?_,ih⟩
  rcases Zt.mp hy with z | z
  ·rw[z];exact h1
  ·exact List.le_trans (show p.cps.toList<=x.cps.toList from h1) (show x.cps.toList<=y.cps.toList from List.rel_of_pairwise_cons ih z)
theorem Cj {ss:List Str} (h:sortedS ss=true):(ss.map fun x=>x.cps.toList).Pairwise fun a b=> ¬b<a:=by
 rw[Qaf]
 cases ss with
 | nil=>exact List.Pairwise.nil
 | cons x r=>exact tL x r h
def Lf (K:PySem.W.Frag):List V->Hp->VK->Prop:=fun xs H Q=> ∃(p:Addr) (ls:List (List Nat)),xs=[.ref p]/\bu K H p (ls.map fun l=>V.str (S l))/\ls.length<64/\ ∀(q:Addr) (To:List (List Nat)),H q=none->To.Perm ls->(To.Pairwise fun a b=> ¬b<a)->Q (.ref q) (upd H q (.lst (To.map fun l=>V.str (S l))))
theorem vb (K:PySem.W.Frag) (h:X.K=K):dZ X (.builtin "sorted") (Lf K):=by
 subst h
 intro pins s σ H xs us Q I r h
 obtain ⟨p,ls,rfl,hq,hn,q⟩:=h
 obtain ⟨u,rfl,ru⟩:=vals1 r
 cases ru
 obtain ⟨aJ,rv,pl,hz⟩:=I.list hq
 have hlen:aJ.length=ls.length:=by rw[<-rv.length,MO]
 refine sorted_strs (l:=p) (vs:=aJ) (ss:=ls.map S) pl.isList (HG rv) (by omega) fun out Dj h1 h2 h3=>?_
 obtain ⟨e,he⟩:=sortedAll_at s.heap aJ out
 have xq:(Dj.map fun x=>x.cps.toList).Perm ls:=by
  have:=h2.map fun x:Str=>x.cps.toList
  rw[Qac]at this
  have e2:ls.map ((fun x:Str=>x.cps.toList) ∘ S)=ls:=by
   have: ∀l∈ls,((fun x:Str=>x.cps.toList) ∘ S) l=l:=fun l _=>gm l
   calc ls.map _=ls.map id:=Qbe this
    _=ls:=Qd8 ls
  rwa [e2]at this
 have Hr:=xq.length_eq
 have WZ:(64:Nat)<sizeLine:=by decide
 have PQ:((Dj.map fun x=>x.cps.toList).map fun l=>V.str (S l)).length<=sizeLine:=by rw[MO,Hr];omega
 refine ⟨.ref (s.heap.objs.size+1),_,I.laid (t':=s.toks) (a:=s.heap.objs.size+1) (o:= .lst ((Dj.map fun x=>x.cps.toList).map fun l=>V.str (S l))) (fun b o e=>sortedAll_old e) (Qbf _) ⟨PQ,out.toList,e,AM h1,by simpa [seqObj]using he⟩,rfl,q _ _ (I.bX.fresh (Qbf _)) xq (Cj h3)⟩
end
section
variable {X:Cx}
theorem HH {ls:List (List Nat)} {l:List Nat} (h:ls.Perm (l.map fun c=>[c])): ∃l':List Nat,ls=l'.map (fun c=>[c])/\l'.Perm l:=by
 refine ⟨ls.flatten,?_,?_⟩
 ·have hs: ∀x∈ls, ∃c,x=[c]:=fun x hx=>by
   obtain ⟨c,_,e⟩:=ZL.mp (h.mem_iff.mp hx)
   exact ⟨c,e.symm⟩
  clear h
  induction ls with
  | nil=>rfl
  | cons x ls ih=>
   obtain ⟨c,rfl⟩:=hs x Zv
   rw[Qbm,WQ, <-ih fun y hy=>hs y (Zs _ hy)]
   rfl
 ·have:=h.flatten
  have e:(l.map fun c=>[c]).flatten=l:=by
   clear h this
   induction l with
   | nil=>rfl
   | cons c l ih=>rw[ZC,Qbm,ih];rfl
  rwa [e]at this
theorem HI {l:List Nat} (h:(l.map fun c=>[c]).Pairwise fun a b=> ¬b<a):l.Pairwise fun a b=>a<=b:=by
 rw[Qaf]at h
 refine h.imp fun {a b} z=>?_
 by_cases y:a<=b
 ·exact y
 ·exact absurd (Qdg.mpr (.inl (by omega))) z
end
section
variable {prog:Program} {w:World} {A:Around} {E:Value->Shared->Prop} {s:Shared}
theorem zy {it tp:Addr} {j:Nat} {xs:Array Value} {y:Value} {Q:Value->Shared->Prop} (hi:s.heap.IsTupleIter it tp j) (ht:s.heap.IsTuple tp xs) (hy:xs[j]? =some y)
  (q: ∀h2,h2.IsTupleIter it tp (j+1)->Heap.SameBut it s.heap h2->Q y { s with heap:=h2 }):wpAny (model prog w) A (Builtin.SmallTypes.nextOf (.ref it)) Q E s:=by
 obtain ⟨oi,eo,ec,ed⟩:=id hi
 obtain ⟨ot,et,_,nt,dt⟩:=ht
 unfold Builtin.SmallTypes.nextOf
 refine wpAny_bind (wpAny_callSpecial?_slot (name:=Str.ofString "__next__") hi.typeIs F.slot_tuple_iterator_next (wpAny_call_entry F.slot_tuple_iterator_next hi.typeIs F.entry_tuple_iterator_next ?_ (F.args_tuple_iterator_next_1 _)))
 refine wpAny_bind (m:=field (.ref it) 0) (wpAny_field eo ed (x:= .ref tp) rfl ?_)
 show wpAny (model prog w) _ (if (Value.ref tp==Value.none)=true then _ else _) _ E s
 rw[if_neg (show ¬(Value.ref tp==Value.none)=true from Zz)]
 refine wpAny_bind (m:=field (.ref it) 1) (wpAny_field eo ed (x:= .int j 0) rfl ?_)
 refine wpAny_bind (m:=seqItems? (.ref tp)) (wpAny_seqItems et dt ?_)
 simp only[U6,hy]
 refine wpAny_bind (wpAny_setField eo ed (by simp) (wpAny_pure ⟨y,rfl,wpAny_pure (q _ ⟨_,Qan _ eo (Obj.isFreed_of_fields (Obj.data_mapFields ed _)),(Obj.cls_mapFields ..).trans ec,by rw[Obj.data_mapFields ed];simp[rawInt]⟩ (Qd7 ..))⟩))
theorem Ck {it tp:Addr} {j:Nat} {xs:Array Value} {Q:Value->Shared->Prop} (hh:A.handled=none) (hi:s.heap.IsTupleIter it tp j) (ht:s.heap.IsTuple tp xs) (hy:xs[j]? =none)
  (q: ∀h2 e,Heap.ExtBut it s.heap h2->(∃o,h2.get? e=some o/\o.cls= .type "StopIteration")->E (.ref e) { s with heap:=h2 }):wpAny (model prog w) A (Builtin.SmallTypes.nextOf (.ref it)) Q E s:=by
 obtain ⟨oi,eo,ec,ed⟩:=id hi
 obtain ⟨ot,et,_,nt,dt⟩:=ht
 unfold Builtin.SmallTypes.nextOf
 refine wpAny_bind (wpAny_callSpecial?_slot (name:=Str.ofString "__next__") hi.typeIs F.slot_tuple_iterator_next (wpAny_call_entry F.slot_tuple_iterator_next hi.typeIs F.entry_tuple_iterator_next ?_ (F.args_tuple_iterator_next_1 _)))
 refine wpAny_bind (m:=field (.ref it) 0) (wpAny_field eo ed (x:= .ref tp) rfl ?_)
 show wpAny (model prog w) _ (if (Value.ref tp==Value.none)=true then _ else _) _ E s
 rw[if_neg (show ¬(Value.ref tp==Value.none)=true from Zz)]
 refine wpAny_bind (m:=field (.ref it) 1) (wpAny_field eo ed (x:= .int j 0) rfl ?_)
 refine wpAny_bind (m:=seqItems? (.ref tp)) (wpAny_seqItems et dt ?_)
 simp only[U6,hy]
 refine wpAny_bind (wpAny_rule (wpAny_bind (wpAny_setField eo ed (by simp) ?_)))
 refine wpAny_bind (m:=newExc (.type "StopIteration") []) ?_
 simp only[newExc,newTuple]
 refine wpAny_bind (wpAny_newObj_type (wpAny_bind (m:=firstArgMember _ _) (wpAny_of_eq (a:=Value.none) (by first | rfl | (simp only[firstArgMember];rfl)) (wpAny_newObj_type ?_ (by size_fits)))) (by size_fits))
 simp only[raiseNew]
 refine wpAny_bind (wpAny_handled ?_);first | rw[show A.in1.handled=none from hh] | rw[hh]
 exact wpAny_bind (wpAny_pure (wpAny_throw (q _ _ (((Qd7 ..).extBut.push _).push _) ⟨_,Zw _ rfl,rfl⟩)))
theorem oK (hh:A.handled=none) (it tp:Addr) (ne:tp≠it) (xs:Array Value):
  Draws prog w A it [it,tp] xs.size (fun i v=>xs[i]? =some v) (fun i h=>h.IsTupleIter it tp i/\h.IsTuple tp xs) where
 live:=fun _ _ z=>let ⟨o,e,_⟩:=z.1;⟨o,e⟩
 frame:=fun _ _ _ z k=>by
  obtain ⟨⟨o,e,r⟩,o2,e2,r2⟩:=z
  exact ⟨⟨o,k it (by simp) o e,r⟩,o2,k tp (by simp) o2 e2,r2⟩
 item:=fun i s Q E hi z q=>zy z.1 z.2 (y:=xs[i]) (by simp[hi]) fun h2 z2 sb=>q _ h2 s.toks (by simp[hi]) ⟨z2,z.2.extBut sb.extBut ne⟩ sb
 done:=fun s Q E z q=>Ck hh z.1 z.2 (by simp) q
theorem xr (l:Addr) (items:Array Value) (n:Nat) (Tp:Option Addr) (sl:Array (Option Value)):
  Meets (Builtin.«enumerate.__new__» ⟨[.type "enumerate", .ref l],[]⟩) (fun _ R s=>s.heap.get? l=some { cls:= .type "tuple",dict:=Tp,data:= .seq items n,slots:=sl }/\
   R (.ok (.ret (.ref (s.heap.push { cls:= .type "tuple_iterator",data:= .fields #[.ref l, .int 0 0] }).objs.size)))
    { s with heap:=(s.heap.push { cls:= .type "tuple_iterator",data:= .fields #[.ref l, .int 0 0] }).push { cls:= .type "enumerate",data:= .fields #[.none, .bool false, .ref s.heap.objs.size,rawInt 0, .none, .none] } }):=
 .of_wp fun prog w A R s h=>by
  obtain ⟨hp,g,d,tk,os⟩:=s;obtain ⟨hl,q⟩:=h;have W0:=sub_enumerate
  have hT:Heap.IsTuple (Shared.heap ⟨hp,g,d,tk,os⟩) l items:=⟨_,hl,rfl,n,rfl⟩
  wp_walk using AutoSeq1.wpAny_loadPart' hl
  refine wpAny_stack_any fun st=>wpAny_pure ?_
  split
  ·rename_i c _ _ _ _ _
   cases (c==Value.type "enumerate")<;>(wp_walk using AutoSeq1.wpAny_loadPart' hl,wpAny_pyIter_tuple hT;exact ⟨_,rfl,q⟩)
  ·wp_walk using AutoSeq1.wpAny_loadPart' hl,wpAny_pyIter_tuple hT
   exact ⟨_,rfl,q⟩
theorem zA {l:Addr} {items:Array Value} {Q:Value->Shared->Prop} (hL:s.heap.IsTuple l items)
  (h: ∀h',IsEnum h' (s.heap.objs.size+1) s.heap.objs.size 0 .none->h'.IsTupleIter s.heap.objs.size l 0->(∀b o,s.heap.get? b=some o->h'.get? b=some o)->Q (.ref (s.heap.objs.size+1)) { s with heap:=h' }):
  wpAny (model prog w) A (call (.type "enumerate") [.ref l]) Q E s:=by
 obtain ⟨⟨c,Tp,dt,sl⟩,hl,hc,n,hd⟩:=hL
 cases (show c= .type "tuple" from hc)
 cases (show dt= .seq items n from hd)
 refine callType_new F.called_enumerate (by decide) (F.typeCall_enumerate_1 _) (F.newCall_enumerate_1 _) (fun ob=>F.args_object_init_2 ob _) F.entry_enumerate_new (xr l items n Tp sl) ⟨hl,?_⟩
 have hz:(s.heap.push { cls:= .type "tuple_iterator",data:= .fields #[.ref l, .int 0 0] }).objs.size=s.heap.objs.size+1:=Qce ..
 show _/\_
 rw[hz]
 have he:IsEnum ((s.heap.push { cls:= .type "tuple_iterator",data:= .fields #[.ref l, .int 0 0] }).push { cls:= .type "enumerate",data:= .fields #[.none, .bool false, .ref s.heap.objs.size,rawInt 0, .none, .none] }) (s.heap.objs.size+1) s.heap.objs.size 0 .none:=by
  have:=Zw (s.heap.push { cls:= .type "tuple_iterator",data:= .fields #[.ref l, .int 0 0] }) (o:={ cls:= .type "enumerate",data:= .fields #[.none, .bool false, .ref s.heap.objs.size,rawInt 0, .none, .none] }) rfl
  rwa [hz]at this
 exact ⟨⟨_,he,rfl⟩,h _ he ⟨_,U4 _ (Zw _ rfl),rfl,rfl⟩ fun b o x=>U4 _ (U4 _ x)⟩
end
noncomputable def Ed (K:PySem.W.Frag) (a:Addr):It:=⟨fun i H=> ∃xs x,aX K H a xs/\xs[i]? =some x,fun i H x H'=> ∃T y,(∀xs,aX K H a xs->xs[i]? =some y)/\x= .ref T/\H T=none/\H'=upd H T (.tup [.int i,y]),fun i H=> ∃xs,aX K H a xs/\xs.length=i⟩
noncomputable def Ee (K:PySem.W.Frag) (a:Addr):It:=⟨fun i H=> ∃xs x,bu K H a xs/\xs[i]? =some x,fun i H x H'=> ∃T y,(∀xs,bu K H a xs->xs[i]? =some y)/\x= .ref T/\H T=none/\H'=upd H T (.tup [.int i,y]),fun i H=> ∃xs,bu K H a xs/\xs.length=i⟩
theorem zB {P:Program} {w:World} {K:PySem.W.Frag} {elts:List Expr} {k:Nat} {pos:Pos} (e it a:Addr) (AL:e≠it) (PR:a≠e) (PU:a≠it):
  Turn P w K (.Tuple elts k pos) (Ed K a) [e,it] e (fun i h=>(∃old,IsEnum h e it i old)/\h.IsTupleIter it a i) where
 mem:=by simp
 obj:=fun i h st b hb=>by
  obtain ⟨⟨old,he⟩,o,ho,hc,hd⟩:=st
  rcases Zt.mp hb with z | z
  ·rw[z];exact ⟨_,he,fun v z=>by cases z⟩
  ·rw[U7.mp z];exact ⟨o,ho,fun v z=>by rw[hd]at z;cases z⟩
 keep:=fun i h h' st kp=>by
  obtain ⟨⟨old,he⟩,o,ho,r⟩:=st
  exact ⟨⟨old,kp e (by simp) _ he⟩,o,kp it (by simp) o ho,r⟩
 item:=by
  intro X hP hw hK hc i pins s σ H E I hf st hg
  subst hP hw hK
  obtain ⟨yM,yL⟩:=st
  obtain ⟨xs,x,hq,hx⟩:=hg
  obtain ⟨aJ,rv,p,hz⟩:=I.tuple hq
  obtain ⟨u0,hu,ru⟩:=rv.get hx
  have D:=oK (prog:=X.prog) (w:=X.w) (A:=X.A.in1) (I.ok.hd hc) it a PU aJ.toArray
  have W:=WalksT.enumerateD D e AL (by simp;exact ⟨AL,Ne.symm PR⟩) (by simp)
  have Tq:i<aJ.toArray.size:=by rw[WR];exact (K4.mp hu).1
  refine W.item i s _ _ Tq ⟨yM,yL,p⟩ fun T vals h' tk PN hT Ea xn hk=>⟨_,rfl,?_⟩
  refine W.go elts k pos i T { s with heap:=h',toks:=tk } _ _ xn fun h2 xo zx=>?_
  obtain ⟨tt,x2,PV,rfl⟩:=PN
  have ex:x2=u0:=by
   rw[List.getElem?_toArray]at PV
   exact Zy (PV.symm.trans hu)
  subst ex
  have JL:T∉[e,it]:=W.apart i T h' xn
  have xp:h2.IsTuple T #[.int i tt,x2]:=by
   obtain ⟨o,ho,r⟩:=Ea
   exact ⟨o,zx T o JL ho,r⟩
  refine ⟨.ref T,upd H T (.tup [.int i,x]),?_,rfl,⟨T,x,fun ys hy=>by rw[I.sX hy hq];exact hx,rfl,I.bX.fresh hT,rfl⟩,⟨xo.1,xo.2.1⟩,fun b hb=>?_⟩
  ·refine I.qI (t':=tk) (h':=h2) (fun b o hb y=>zx b o hb (hk b o hb y)) hf hT ?_
   exact ⟨by show 2<=sizeLine;decide,[.int i tt,x2], .cons ⟨tt,rfl⟩ (.cons ru .nil),xp⟩
  ·rw[au (fun z:b=T=>JL (z▸hb))];exact (hf b hb).1
 done:=by
  intro X hP hw hK hc i pins s σ H E I hf st hg
  subst hP hw hK
  obtain ⟨yM,yL⟩:=st
  obtain ⟨xs,hq,hx⟩:=hg
  obtain ⟨aJ,rv,p,hz⟩:=I.tuple hq
  have hl:=rv.length
  have D:=oK (prog:=X.prog) (w:=X.w) (A:=X.A.in1) (I.ok.hd hc) it a PU aJ.toArray
  have W:=WalksT.enumerateD D e AL (by simp;exact ⟨AL,Ne.symm PR⟩) (by simp)
  refine W.done s _ _ ?_ fun h' tk hk=>⟨rfl,I.va (t':=tk) hk hf⟩
  have e1:aJ.toArray.size=i:=by rw[WR];omega
  rw[e1]
  exact ⟨yM,yL,p⟩
 self:=fun _ _ s _ _ st h=>by
  obtain ⟨⟨old,he⟩,_⟩:=st
  exact wpAny_pyIter_enum he h
theorem zC {P:Program} {w:World} {K:PySem.W.Frag} {elts:List Expr} {k:Nat} {pos:Pos} (e it a:Addr) (AL:e≠it) (PR:a≠e) (PU:a≠it):
  Turn P w K (.Tuple elts k pos) (Ee K a) [e,it] e (fun i h=>(∃old,IsEnum h e it i old)/\h.IsListIter it a i) where
 mem:=by simp
 obj:=fun i h st b hb=>by
  obtain ⟨⟨old,he⟩,o,ho,hc,hd⟩:=st
  rcases Zt.mp hb with z | z
  ·rw[z];exact ⟨_,he,fun v z=>by cases z⟩
  ·rw[U7.mp z];exact ⟨o,ho,fun v z=>by rw[hd]at z;cases z⟩
 keep:=fun i h h' st kp=>by
  obtain ⟨⟨old,he⟩,o,ho,r⟩:=st
  exact ⟨⟨old,kp e (by simp) _ he⟩,o,kp it (by simp) o ho,r⟩
 item:=by
  intro X hP hw hK hc i pins s σ H E I hf st hg
  subst hP hw hK
  obtain ⟨yM,yL⟩:=st
  obtain ⟨xs,x,hq,hx⟩:=hg
  obtain ⟨aJ,rv,p,hz⟩:=I.list hq
  obtain ⟨u0,hu,ru⟩:=rv.get hx
  have D:=Draws.list (prog:=X.prog) (w:=X.w) (A:=X.A.in1) (I.ok.hd hc) it a PU aJ.toArray
  have W:=WalksT.enumerateD D e AL (by simp;exact ⟨AL,Ne.symm PR⟩) (by simp)
  have Tq:i<aJ.toArray.size:=by rw[WR];exact (K4.mp hu).1
  refine W.item i s _ _ Tq ⟨yM,yL,p.isList⟩ fun T vals h' tk PN hT Ea xn hk=>⟨_,rfl,?_⟩
  refine W.go elts k pos i T { s with heap:=h',toks:=tk } _ _ xn fun h2 xo zx=>?_
  obtain ⟨tt,x2,PV,rfl⟩:=PN
  have ex:x2=u0:=by
   rw[List.getElem?_toArray]at PV
   exact Zy (PV.symm.trans hu)
  subst ex
  have JL:T∉[e,it]:=W.apart i T h' xn
  have xp:h2.IsTuple T #[.int i tt,x2]:=by
   obtain ⟨o,ho,r⟩:=Ea
   exact ⟨o,zx T o JL ho,r⟩
  refine ⟨.ref T,upd H T (.tup [.int i,x]),?_,rfl,⟨T,x,fun ys hy=>by rw[I.w5 hy hq];exact hx,rfl,I.bX.fresh hT,rfl⟩,⟨xo.1,xo.2.1⟩,fun b hb=>?_⟩
  ·refine I.qI (t':=tk) (h':=h2) (fun b o hb y=>zx b o hb (hk b o hb y)) hf hT ?_
   exact ⟨by show 2<=sizeLine;decide,[.int i tt,x2], .cons ⟨tt,rfl⟩ (.cons ru .nil),xp⟩
  ·rw[au (fun z:b=T=>JL (z▸hb))];exact (hf b hb).1
 done:=by
  intro X hP hw hK hc i pins s σ H E I hf st hg
  subst hP hw hK
  obtain ⟨yM,yL⟩:=st
  obtain ⟨xs,hq,hx⟩:=hg
  obtain ⟨aJ,rv,p,hz⟩:=I.list hq
  have hl:=rv.length
  have D:=Draws.list (prog:=X.prog) (w:=X.w) (A:=X.A.in1) (I.ok.hd hc) it a PU aJ.toArray
  have W:=WalksT.enumerateD D e AL (by simp;exact ⟨AL,Ne.symm PR⟩) (by simp)
  refine W.done s _ _ ?_ fun h' tk hk=>⟨rfl,I.va (t':=tk) hk hf⟩
  have e1:aJ.toArray.size=i:=by rw[WR];omega
  rw[e1]
  exact ⟨yM,yL,p.isList⟩
 self:=fun _ _ s _ _ st h=>by
  obtain ⟨⟨old,he⟩,_⟩:=st
  exact wpAny_pyIter_enum he h
def Lg (K:PySem.W.Frag) (ta:TA):TI:=fun σ H R=>ta σ H fun vs H1=> ∃a,vs=[.ref a]/\(∃xs,aX K H1 a xs)/\R (Ed K a) H1
def Lh (K:PySem.W.Frag) (ta:TA):TI:=fun σ H R=>ta σ H fun vs H1=> ∃a,vs=[.ref a]/\(∃xs,bu K H1 a xs)/\R (Ee K a) H1
theorem qJ {X:Cx} (K:PySem.W.Frag) (hK:X.K=K) {elts:List Expr} {k:Nat} {pos':Pos} {a:Expr} {ta:TA} {p pos:Pos} (hg:Gl X "enumerate") (hm:X.mg "enumerate"=none) (ha:PA X [a] ta) (hs:starEach [a] X.env=[(false,eval a X.env)]:=by rfl):PI X (.Tuple elts k pos') (.Call (.Name "enumerate" p) [a] [] pos) (Lg K ta):=by
 subst hK
 intro pins s σ H R I h
 refine Call_ (iE I hg hm boot_enumerate (Qae (b8 (ha pos pins s σ H _ I h) fun us s1 ⟨vs,H1,I1,r1,q1⟩=>?_) hs rfl))
 obtain ⟨b,rfl,⟨xs,hq⟩,q⟩:=q1
 obtain ⟨u,rfl,ru⟩:=vals1 r1
 cases ru
 obtain ⟨aJ,rv,pl,hz⟩:=I1.tuple hq
 obtain ⟨ob,eb,_⟩:=id pl
 have dq:b<s1.heap.objs.size:=ZA eb
 refine zA pl fun h' he hit hk=>wpAny_pyIter_enum he ?_
 refine ⟨s1.heap.objs.size+1,[s1.heap.objs.size+1,s1.heap.objs.size],_,_,H1,rfl,I1.kept (t':=s1.toks) hk,zB _ _ b (Qcy _) (ZE (Qbc dq)) (ZE dq),⟨⟨_,he⟩,hit⟩,fun c hb=>?_,q⟩
 have hJ:s1.heap.objs.size<=c:=by
  rcases Zt.mp hb with z | z
  ·rw[z];exact Qbf _
  ·rw[U7.mp z];exact Ri _
 exact I1.o4 hJ (I1.bX.fresh hJ)
theorem xt {X:Cx} (K:PySem.W.Frag) (hK:X.K=K) {elts:List Expr} {k:Nat} {pos':Pos} {a:Expr} {ta:TA} {p pos:Pos} (hg:Gl X "enumerate") (hm:X.mg "enumerate"=none) (ha:PA X [a] ta) (hs:starEach [a] X.env=[(false,eval a X.env)]:=by rfl):PI X (.Tuple elts k pos') (.Call (.Name "enumerate" p) [a] [] pos) (Lh K ta):=by
 subst hK
 intro pins s σ H R I h
 refine Call_ (iE I hg hm boot_enumerate (Qae (b8 (ha pos pins s σ H _ I h) fun us s1 ⟨vs,H1,I1,r1,q1⟩=>?_) hs rfl))
 obtain ⟨b,rfl,⟨xs,hq⟩,q⟩:=q1
 obtain ⟨u,rfl,ru⟩:=vals1 r1
 cases ru
 obtain ⟨aJ,rv,pl,hz⟩:=I1.list hq
 obtain ⟨ob,eb,_⟩:=id pl.isList
 have dq:b<s1.heap.objs.size:=ZA eb
 refine call_enumerate_list pl.isList fun h' he hit hsz hk=>wpAny_pyIter_enum he ?_
 refine ⟨s1.heap.objs.size+1,[s1.heap.objs.size+1,s1.heap.objs.size],_,_,H1,rfl,I1.kept (t':=s1.toks) hk,zC _ _ b (Qcy _) (ZE (Qbc dq)) (ZE dq),⟨⟨_,he⟩,hit⟩,fun c hb=>?_,q⟩
 have hJ:s1.heap.objs.size<=c:=by
  rcases Zt.mp hb with z | z
  ·rw[z];exact Qbf _
  ·rw[U7.mp z];exact Ri _
 exact I1.o4 hJ (I1.bX.fresh hJ)
theorem nN {K:PySem.W.Frag} {a:Addr} {xs:List V} {g:TG} {tb:TS} {D:Ends} {σ:St} {H:Hp} (Pv:Nat->St->Hp->Prop) (h0:Pv 0 σ H) (hl: ∀i σ H,i<=xs.length->Pv i σ H->aX K H a xs)
  (hs: ∀i x σ H T,xs[i]? =some x->Pv i σ H->H T=none->g (.ref T) σ (upd H T (.tup [.int i,x])) fun σ2 H2=>tb { D with nx:=Pv (i+1),ct:=Pv (i+1),bk:=D.nx } σ2 H2) (hd: ∀σ H,Pv xs.length σ H->D.nx σ H):
  ∃W:Nat->Nat->St->Hp->Prop,(∃m,W 0 m σ H)/\ ∀i m σ H,W i m σ H->
   ((Ed K a).stop i H/\D.nx σ H)\/((Ed K a).go i H/\ ∃N:St->Hp->Prop,(∀σ' H',N σ' H'-> ∃m',m'<m/\W (i+1) m' σ' H')/\ ∀x H',(Ed K a).Di i H x H'->g x σ H' fun σ2 H2=>tb { D with nx:=N,ct:=N,bk:=D.nx } σ2 H2):=by
 refine ⟨fun i m σ H=>m=xs.length - i/\i<=xs.length/\Pv i σ H,⟨xs.length,by simp,WT _,h0⟩,?_⟩
 rintro i m σ H ⟨rfl,hi,p⟩
 have hq:=hl i σ H hi p
 by_cases dq:i<xs.length
 ·refine .inr ⟨⟨xs,xs[i],hq,by simp[dq]⟩,Pv (i+1),fun σ' H' p'=>⟨xs.length - (i+1),by omega,rfl,dq,p'⟩,fun x H' y=>?_⟩
  obtain ⟨T,z,hz,rfl,hn,rfl⟩:=y
  exact hs i z σ _ T (hz xs hq) p hn
 ·have e:i=xs.length:=by omega
  subst e
  exact .inl ⟨⟨xs,hq,rfl⟩,hd σ H p⟩
theorem tM {K:PySem.W.Frag} {a:Addr} {xs:List V} {g:TG} {tb:TS} {D:Ends} {σ:St} {H:Hp} (Pv:Nat->St->Hp->Prop) (h0:Pv 0 σ H) (hl: ∀i σ H,i<=xs.length->Pv i σ H->bu K H a xs)
  (hs: ∀i x σ H T,xs[i]? =some x->Pv i σ H->H T=none->g (.ref T) σ (upd H T (.tup [.int i,x])) fun σ2 H2=>tb { D with nx:=Pv (i+1),ct:=Pv (i+1),bk:=D.nx } σ2 H2) (hd: ∀σ H,Pv xs.length σ H->D.nx σ H):
  ∃W:Nat->Nat->St->Hp->Prop,(∃m,W 0 m σ H)/\ ∀i m σ H,W i m σ H->
   ((Ee K a).stop i H/\D.nx σ H)\/((Ee K a).go i H/\ ∃N:St->Hp->Prop,(∀σ' H',N σ' H'-> ∃m',m'<m/\W (i+1) m' σ' H')/\ ∀x H',(Ee K a).Di i H x H'->g x σ H' fun σ2 H2=>tb { D with nx:=N,ct:=N,bk:=D.nx } σ2 H2):=by
 refine ⟨fun i m σ H=>m=xs.length - i/\i<=xs.length/\Pv i σ H,⟨xs.length,by simp,WT _,h0⟩,?_⟩
 rintro i m σ H ⟨rfl,hi,p⟩
 have hq:=hl i σ H hi p
 by_cases dq:i<xs.length
 ·refine .inr ⟨⟨xs,xs[i],hq,by simp[dq]⟩,Pv (i+1),fun σ' H' p'=>⟨xs.length - (i+1),by omega,rfl,dq,p'⟩,fun x H' y=>?_⟩
  obtain ⟨T,z,hz,rfl,hn,rfl⟩:=y
  exact hs i z σ _ T (hz xs hq) p hn
 ·have e:i=xs.length:=by omega
  subst e
  exact .inl ⟨⟨xs,hq,rfl⟩,hd σ H p⟩
section
variable {X:Cx}
def Li (K:PySem.W.Frag):List V->Hp->VK->Prop:=fun xs H Q=> ∃p ys,xs=[.ref p]/\((bu K H p ys/\ ∀l,H l=none->Q (.ref l) (upd H l (.tup ys)))\/(aX K H p ys/\Q (.ref p) H))
theorem cY (K:PySem.W.Frag) (h:X.K=K):dZ X (.type "tuple") (Li K):=by subst h;exact sx
theorem hU (K:PySem.W.Frag) (h:X.K=K):g_ X (binaryOp .Add) (JD K):=by subst h;exact Hj
end
theorem qK {K:PySem.W.Frag} {a:Addr} {xs:List V} {σc:St} {g:TG} {tc:TT} {te:TE} {Q:VK} {H1:Hp} (Pv:Nat->List V->Hp->Prop) (hn:xs.length<sizeLine) (hl: ∀i acc H,Pv i acc H->aX K H a xs) (h0:Pv 0 [] H1)
  (hs: ∀(i:Nat) (x:V) (acc:List V) (H:Hp) (Nx:List V->Hp->Prop),i<xs.length->xs[i]? =some x->acc.length<=i->Pv i acc H->(∀eM H',eM.length<=i+1->Pv (i+1) eM H'->Nx eM H')->
   g x σc H fun σ2 H2=>Wk σc σ2/\tc σ2 H2 fun b H3=>if b=true then te σ2 H3 fun v H4=>Nx (acc++[v]) H4 else Nx acc H3)
  (hd: ∀acc H D,acc.length<=xs.length->Pv xs.length acc H->H D=none->Q (.ref D) (upd H D (.lst acc))):tE (Kw K a) σc g tc te Q H1:=
 pZ (xs:=fun i x=>xs[i]? =some x) Pv hn (fun i acc H h p=>⟨xs,xs[i],hl i acc H p,by simp[h]⟩) (fun acc H p=>⟨xs,hl _ acc H p,Ri _⟩) (fun i acc H x H' h p y=>⟨y.1,y.2 xs (hl i acc H p)⟩) h0 hs hd
theorem vc (l a b:Nat):MM (.str (S [l])) [.str (S [a]), .str (S [b])]=(decide (l=a)||decide (l=b)):=by
 have key: ∀c:Nat,Hn (.str (S [c])) (.str (S [l]))=decide (l=c):=fun c=>by
  show decide (S [c]=S [l])=_
  refine decide_eq_decide.mpr ⟨fun z=>?_,fun z=>by rw[z]⟩
  have:=congrArg (fun x:Str=>x.cps.toList) z
  simpa [S,eq_comm]using this
 unfold MM
 rw[Qa1,Qa1,List.any_nil,key,key,Qdq]
def ba (H H':Hp):Prop:= ∀c xs,H c=some (.tup xs)->H' c=some (.tup xs)
theorem ba.trans {H H1 H2:Hp} (a:ba H H1) (b:ba H1 H2):ba H H2:=fun c xs h=>b c xs (a c xs h)
theorem ba.of {H H':Hp} (s:ak H H'):ba H H':=fun c xs h=>s c _ h
theorem ba.xu {H:Hp} {p:Addr} {ys:List V} {o:HO} (h:H p=some (.lst ys)):ba H (upd H p o):=fun c xs e=>by
 rw[au (fun z=>by rw[z,h]at e;cases e)];exact e
theorem ba.fK {H:Hp} {p:Addr} {o:HO} (h:H p=none):ba H (upd H p o):=fun c xs e=>by
 rw[au (fun z=>by rw[z,h]at e;cases e)];exact e
section
variable {prog:Program} {w:World} {A:Around} {E:Value->Shared->Prop} {s:Shared}
theorem xv {cmp:Nat->Nat->(Bool->Shared->Prop)->Shared->Prop} {Q:Nat->Shared->Prop} {p:Array Nat} {s:Shared}: ∀f n,(∀k,n<=k->k<n+f-> ∀C:Bool->Shared->Prop,C false s->cmp (p.getD k 0) (p.getD (k - 1) 0) C s)->Q (n+f) s->(PySem.W.kas_asc p f n).kasWp cmp Q s
 | 0,n,_,q=>q
 | f+1,n,h,q=>by
  show cmp (p.getD n 0) (p.getD (n - 1) 0) (fun b s'=>(if b=true then PySem.W.KasT.ret n else PySem.W.kas_asc p f (n+1)).kasWp cmp Q s') s
  refine h n (Ri _) (by omega) _ ?_
  show (if false=true then PySem.W.KasT.ret n else PySem.W.kas_asc p f (n+1)).kasWp cmp Q s
  rw[if_neg (by decide)]
  exact xv f (n+1) (fun k h1 h2=>h k (by omega) (by omega)) (by rwa [show n+1+f=n+(f+1) by omega])
theorem AN: ∀l:List Value,(l.zip l).map (fun x=>x.2)=l
 | []=>rfl
 | v::l=>by rw[List.zip_cons_cons,ZC,AN l]
end
section
variable {prog:Program} {w:World} {A:Around} {E:Value->Shared->Prop} {s:Shared}
noncomputable def bc:List Int->List Int->Bool
 | [],[]=>false
 | [],_::_=>true
 | _::_,[]=>false
 | a::r,b::t=>if a=b then bc r t else decide (a<b)
theorem qL: ∀{us:List Value} {ns:List Int},IntsAre us ns->us.length=ns.length
 | _,_, .nil=>rfl
 | _,_, .cons _ _ h=>congrArg (· +1) (qL h)
theorem tN: ∀(f n r:Nat),r<=1->minRun' f n r<=n+r
 | 0,n,r,_=>Ri _
 | f+1,n,r,h=>by
  rw[minRun'_succ]
  split
  ·exact Ri _
  ·have:=tN f (n / 2) (max r (n%2)) (by omega)
   omega
theorem Ef {κ:SortKind} {it:Array Keyed} {n:Nat} {Q:Unit->SortSt->Shared->Prop} (h2:2<=n) (h: ∀k,1<=k->k<n-> ∀C:Bool->Shared->Prop,C false s->PySem.W.kas_cmp prog w A κ it k (k - 1) C s)
  (q: ∀nq:SortSt,arrOf nq=(List.toArray (List.range n)).map (PySem.W.kas_item it)->failedOf nq=none->Q () nq s):PySem.W.kasC (model prog w) A E sortRuns' Q (PySem.W.kas_st κ it (List.toArray (List.range n))) s:=by
 obtain ⟨r,rfl⟩: ∃r,n=r+2:=⟨n - 2,by omega⟩
 have get: ∀k,k<r+2->(List.toArray (List.range (r+2))).getD k 0=k:=fun k hk=>by simp[Array.getD,hk]
 have Rj:(List.toArray (List.range (r+2))).size=r+2:=by simp
 rw[sortRuns'_eq]
 refine Qba (Qd4 ?_);dsimp only
 have hsz:(arrOf (PySem.W.kas_st κ it (List.toArray (List.range (r+2))))).size=r+2:=by
  show ((List.toArray (List.range (r+2))).map (PySem.W.kas_item it)).size=_;rw[Array.size_map,Rj]
 have W2:=tN (r+2) (r+2) 0 (by omega)
 simp only[hsz]
 generalize minRun' (r+2) (r+2) 0=mr at W2
 refine Qba (PySem.W.kasC_range (show PySem.W.kasC _ _ _ (forIn (0::1::List.range' 2 r) _ _) _ _ _ from Qdw ?_))
 dsimp only;rw[if_neg (by omega)]
 simp only[Nat.sub_zero,Qcl]
 have hc:(PySem.W.kas_count (r+2) (List.toArray (List.range (r+2)))).kasWp (PySem.W.kas_cmp prog w A κ it) (fun x s'=>x=(r+2,List.toArray (List.range (r+2)))/\s'=s) s:=by
  unfold PySem.W.kas_count
  rw[PySem.W.KasT.kasWp_bind]
  refine xv (r+2 - 1) 1 (fun k h1 h3 C c=>?_) ?_
  ·rw[get k (by omega),get (k - 1) (by omega)]
   exact h k h1 (by omega) C c
  ·have e:1+(r+2 - 1)=r+2:=by omega
   rw[e,if_pos (by simp)]
   exact ⟨rfl,rfl⟩
 refine Qba (PySem.W.kas_count_ (by omega) (by rw[Rj];exact Ri _) (fun m p' s' Lj Eg hp hg=>?_) hc)
 obtain ⟨e1,rfl⟩:=hg
 cases e1
 dsimp only;rw[if_neg (by omega)]
 refine Qba (Qd4 ?_);rw[show (pendingOf (PySem.W.kas_st κ it (List.toArray (List.range (r+2))))).back? =none from rfl]
 dsimp only;refine Qba (PySem.W.kasC_modify (Qcr (show PySem.W.kasC _ _ _ (forIn (1::List.range' 2 r) _ _) _ _ _ from Qdw ?_)))
 dsimp only;rw[if_pos (Ri _)]
 refine Qcr ?_;dsimp only
 refine Qba (PySem.W.kasC_range (show PySem.W.kasC _ _ _ (forIn (0::1::List.range' 2 r) _ _) _ _ _ from Qdw (Qba (Qd4 ?_))))
 rw[if_pos (show (pendingOf (setPending (PySem.W.kas_st κ it (List.toArray (List.range (r+2)))) ((pendingOf (PySem.W.kas_st κ it (List.toArray (List.range (r+2))))).push (0,r+2,0)))).size<=1 from Ri 1)]
 refine Qcr ?_;dsimp only
 exact Qcr (q _ rfl rfl)
end
end L2
namespace HT
open PySem PySem.Spec PyProof.Rows
end HT
namespace L2
open PySem PySem.Spec PyProof.Rows
section
variable {κ:Type} [DecidableEq κ]
noncomputable def di (aL:List (κ×V)) (k:κ):Option V:=(aL.find? fun kv=>decide (kv.1=k)).map (·.2)
noncomputable def putK (aL:List (κ×V)) (k:κ) (v:V):List (κ×V):=
 if (aL.any fun kv=>decide (kv.1=k))=true then aL.map (fun kv=>if kv.1=k then (kv.1,v) else kv) else aL++[(k,v)]
theorem cQ {p:κ×V} {r:List (κ×V)} {k:κ} (e:p.1=k):di (p::r) k=some p.2:=by simp[di,Qa9,e]
theorem cA {p:κ×V} {r:List (κ×V)} {k:κ} (e: ¬p.1=k):di (p::r) k=di r k:=by simp[di,Qa9,e]
theorem jy (k:κ): ∀aL:List (κ×V),(aL.any fun kv=>decide (kv.1=k))=(di aL k).isSome
 | []=>rfl
 | p::r=>by
  rw[Qa1]
  by_cases e:p.1=k
  ·simp only[cQ e,decide_eq_true e,Bool.true_or,Option.isSome_some]
  ·rw[cA e,decide_eq_false e,Qds];exact jy k r
theorem xw (k j:κ) (y:V): ∀aL:List (κ×V),di (aL.map fun kv=>if kv.1=k then (kv.1,y) else kv) j=(di aL j).map fun x=>if j=k then y else x
 | []=>rfl
 | p::r=>by
  have ih:=xw k j y r
  rw[ZC]
  by_cases h:p.1=k
  ·rw[if_pos h]
   by_cases e:p.1=j
   ·rw[cQ (p:=(p.1,y)) e,cQ e,Qdb,if_pos (e.symm.trans h)]
   ·rw[cA (p:=(p.1,y)) e,cA e,ih]
  ·rw[if_neg h]
   by_cases e:p.1=j
   ·rw[cQ (p:=p) e,cQ e,Qdb,if_neg (fun z=>h (e.trans z))]
   ·rw[cA (p:=p) e,cA e,ih]
theorem tP (k j:κ) (y:V): ∀aL:List (κ×V),di aL k=none->di (aL++[(k,y)]) j=if j=k then some y else di aL j
 | [],_=>by
  by_cases e:k=j
  ·rw[if_pos e.symm];exact cQ (p:=(k,y)) e
  ·rw[if_neg (fun z=>e z.symm)];exact cA (p:=(k,y)) e
 | p::r,hn=>by
  rw[List.cons_append]
  have hk: ¬p.1=k:=fun z=>by rw[cQ z]at hn;cases hn
  rw[cA hk]at hn
  have ih:=tP k j y r hn
  by_cases e:p.1=j
  ·rw[cQ e,cQ e,if_neg (fun z=>hk (e.trans z))]
  ·rw[cA e,cA e,ih]
theorem xx (aL:List (κ×V)) (k j:κ) (y:V):di (putK aL k y) j=if j=k then some y else di aL j:=by
 unfold putK
 by_cases a:(aL.any fun kv=>decide (kv.1=k))=true
 ·rw[if_pos a,xw]
  rw[jy]at a
  by_cases e:j=k
  ·obtain ⟨x,hx⟩:=Option.isSome_iff_exists.mp a
   rw[if_pos e,e,hx,Qdb,if_pos rfl]
  ·rw[if_neg e]
   cases di aL j with
   | none=>rfl
   | some x=>rw[Qdb,if_neg e]
 ·rw[if_neg a]
  refine tP k j y aL ?_
  rw[jy]at a
  cases q:di aL k with
  | none=>rfl
  | some x=>rw[q]at a;exact (a rfl).elim
theorem dQ (aL:List (κ×V)) (k:κ) (v:V):(putK aL k v).length<=aL.length+1:=by
 unfold putK
 split
 ·rw[MO];omega
 ·rw[U5,ZR,Qeb];omega
theorem xA {aL:List (κ×V)} {k:κ} (v:V) (h:di aL k=none):putK aL k v=aL++[(k,v)]:=by
 unfold putK
 rw[jy,h]
 exact if_neg (by decide)
theorem kW.Cm {o:Option V} {u:Option Value} (r:kW o u):o.isSome=u.isSome:=by
 cases o with
 | none=>cases u with
  | none=>rfl
  | some _=>exact (show False from r).elim
 | some _=>cases u with
  | none=>exact (show False from r).elim
  | some _=>rfl
theorem kW.getD {o:Option V} {u:Option Value} {d:V} {d':Value} (r:kW o u) (rd:RelV d d'):RelV (o.getD d) (u.getD d'):=by
 cases o with
 | none=>cases u with
  | none=>exact rd
  | some _=>exact (show False from r).elim
 | some _=>cases u with
  | none=>exact (show False from r).elim
  | some _=>exact r
theorem KV.val {aL:List (κ×V)} {vs:List (κ×Value)} (r:KV aL vs) (k:κ):kW (di aL k) (valueAt vs k):=by
 unfold KV at r
 induction r with
 | nil=>exact True.intro
 | @cons p q ps qs h t ih=>
  obtain ⟨h1,h2⟩:=h
  by_cases e:p.1=k
  ·have e':q.1=k:=h1.symm.trans e
   have b:valueAt (q::qs) k=some q.2:=by simp[valueAt,Qa9,e']
   rw[cQ e,b];exact h2
  ·have e': ¬q.1=k:=fun z=>e (h1.trans z)
   have b:valueAt (q::qs) k=valueAt qs k:=by simp[valueAt,Qa9,e']
   rw[cA e,b];exact ih
theorem KV.any {aL:List (κ×V)} {vs:List (κ×Value)} (r:KV aL vs) (k:κ):(aL.any fun kv=>decide (kv.1=k))=vs.any fun kv=>decide (kv.1=k):=by
 unfold KV at r
 induction r with
 | nil=>rfl
 | cons h t ih=>rw[Qa1,Qa1,ih,h.1]
theorem KV.Lk {aL:List (κ×V)} {vs:List (κ×Value)} (r:KV aL vs) (k:κ) {y:V} {u:Value} (ry:RelV y u):
  KV (aL.map fun kv=>if kv.1=k then (kv.1,y) else kv) (vs.map fun kv=>if kv.1=k then (kv.1,u) else kv):=by
 unfold KV at r ⊢
 induction r with
 | nil=>exact .nil
 | @cons p q ps qs h t ih=>
  rw[ZC,ZC]
  refine .cons ?_ ih
  obtain ⟨h1,h2⟩:=h
  by_cases e:p.1=k
  ·rw[if_pos e,if_pos (h1.symm.trans e)];exact ⟨h1,ry⟩
  ·rw[if_neg e,if_neg (fun z=>e (h1.trans z))];exact ⟨h1,h2⟩
theorem KV.put {aL:List (κ×V)} {vs:List (κ×Value)} (r:KV aL vs) (k:κ) {y:V} {u:Value} (ry:RelV y u):KV (putK aL k y) (stored vs k u):=by
 unfold putK stored
 rw[r.any k]
 by_cases e:(vs.any fun kv=>decide (kv.1=k))=true
 ·rw[if_pos e,if_pos e];exact r.Lk k ry
 ·rw[if_neg e,if_neg e];exact Paired.snoc r ⟨rfl,ry⟩
theorem KV.length {aL:List (κ×V)} {vs:List (κ×Value)} (r:KV aL vs):aL.length=vs.length:=Paired.length r
end
theorem AO {P:Program} {w:World} {k:Key} {u:Value} (r:RelV (kV k) u):(cg P w).is k u=true:=by
 cases k with
 | inl i=>obtain ⟨t,e⟩:=(show ∃t,u=Value.int i t from r);subst e;exact wW P w i t
 | inr x=>obtain ⟨t,e⟩:=(show ∃t,u=Value.str x t from r);subst e;exact wX P w x t
theorem tQ {P:Program} {w:World}: ∀{ks:List Key} {us:List Value},Vals (ks.map kV) us->ItemsAre (cg P w) ks us
 | [],_,r=>by rw[List.map_nil]at r;cases r;exact .nil
 | k::ks,_,r=>by
  rw[ZC]at r
  cases r with
  | cons h t=>exact .cons (AO h) (tQ t)
abbrev KT (H:Hp):List (List Key×V)->List (List Key×Addr×Value)->Prop:=Paired fun p q=>p.1=q.1/\H q.2.1=some (.tup (p.1.map kV))/\RelV p.2 q.2.2
theorem KT.val {H:Hp} {aL:List (List Key×V)} {xs:List (List Key×Addr×Value)} (r:KT H aL xs) (k:List Key):kW (di aL k) ((atKey xs k).map (·.2)):=by
 induction r with
 | nil=>exact True.intro
 | @cons p q ps qs h t ih=>
  obtain ⟨h1,_,h2⟩:=h
  by_cases e:p.1=k
  ·have e':q.1=k:=h1.symm.trans e
   have b:atKey (q::qs) k=some q.2:=by simp[atKey,Qa9,e']
   rw[cQ e,b];exact h2
  ·have e': ¬q.1=k:=fun z=>e (h1.trans z)
   have b:atKey (q::qs) k=atKey qs k:=by simp[atKey,Qa9,e']
   rw[cA e,b];exact ih
theorem KT.Lk {H:Hp} {aL:List (List Key×V)} {xs:List (List Key×Addr×Value)} (r:KT H aL xs) (k:List Key) {y:V} {u:Value} (ry:RelV y u):
  KT H (aL.map fun kv=>if kv.1=k then (kv.1,y) else kv) (xs.map (putAt k u)):=by
 induction r with
 | nil=>exact .nil
 | @cons p q ps qs h t ih=>
  rw[ZC,ZC]
  refine .cons ?_ ih
  obtain ⟨h1,h2,h3⟩:=h
  unfold putAt
  by_cases e:p.1=k
  ·rw[if_pos e,if_pos (h1.symm.trans e)];exact ⟨h1,h2,ry⟩
  ·rw[if_neg e,if_neg (fun z=>e (h1.trans z))];exact ⟨h1,h2,h3⟩
theorem KT.put {H:Hp} {aL:List (List Key×V)} {xs:List (List Key×Addr×Value)} (r:KT H aL xs) (k:List Key) {b:Addr} {y:V} {u:Value} (hb:H b=some (.tup (k.map kV))) (ry:RelV y u):
  KT H (putK aL k y) (storedH xs k b u):=by
 have e:(aL.any fun kv=>decide (kv.1=k))=(atKey xs k).isSome:=by
  rw[jy,(r.val k).Cm,Option.isSome_map]
 unfold putK storedH
 rw[e]
 by_cases q:(atKey xs k).isSome=true
 ·rw[if_pos q,if_pos q];exact r.Lk k ry
 ·rw[if_neg q,if_neg q];exact Paired.snoc r ⟨rfl,hb,ry⟩
theorem KT.keeps {H H':Hp} {aL:List (List Key×V)} {xs:List (List Key×Addr×Value)} (r:KT H aL xs) (ht: ∀b ys,H b=some (.tup ys)->H' b=some (.tup ys)):KT H' aL xs:=
 Paired.Kj r fun _ _ z=>⟨z.1,ht _ _ z.2.1,z.2.2⟩
section
variable {P:Program} {w:World} {H:Hp} {h:Heap} {a:Addr}
theorem JM {u:HO} (ok:kX P w H h) (e:Rd H a u):cU P w H h a u:=e.ok ok
theorem xB {aL:List (Key×V)} (ok:kX P w H h) (e:Rd H a (.dK aL)):aL.length<=sizeLine/\(a==sysModules)=false/\ ∃vs,KV aL vs/\h.DictOf (cg P w) a vs:=
 show cU P w H h a (.dK aL) from JM ok e
theorem PX {aL:List (Key×V)} (ok:kX P w H h) (e:H a=some (.dK aL)):aL.length<=sizeLine/\(a==sysModules)=false/\ ∃vs,KV aL vs/\h.DictOf (cg P w) a vs:=xB ok (.inl e)
theorem vd {ks:List Key} (ok:kX P w H h) (e:H a=some (.tup (ks.map kV))):(tupleKind (cg P w)).is h ks a:=by
 obtain ⟨_,aJ,r,o,h1,h2,n,h3⟩:=(show cU P w H h a (.tup (ks.map kV)) from ok a _ e)
 exact ⟨o,aJ.toArray,n,h1,h2,h3,by simpa using tQ r⟩
theorem xC {aL:List (List Key×V)} (ok:kX P w H h) (e:Rd H a (.dT aL)):aL.length<=sizeLine/\(a==sysModules)=false/\
  ∃xs,KT H aL xs/\h.DictOfH (tupleKind (cg P w)) a xs:=by
 obtain ⟨z,y,xs,r,o,es,ep,h1,h2,h3,h4,h5⟩:=(show cU P w H h a (.dT aL) from JM ok e)
 refine ⟨z,y,xs,r,o,es,ep,h1,h2,h3,h4,fun x hx=>?_,h5⟩
 have all: ∀{l:List (List Key×V)} {m:List (List Key×Addr×Value)},KT H l m-> ∀x∈m,(tupleKind (cg P w)).is h x.1 x.2.1:=by
  intro l m q
  induction q with
  | nil=>intro x hx;exact nomatch hx
  | @cons p q ps qs hq t ih=>
   intro x hx
   rcases Zt.mp hx with e | hx
   ·subst e
    exact vd ok (by rw[<-hq.1];exact hq.2.1)
   ·exact ih x hx
 exact all r x hx
theorem PY {aL:List (List Key×V)} (ok:kX P w H h) (e:H a=some (.dT aL)):aL.length<=sizeLine/\(a==sysModules)=false/\
  ∃xs,KT H aL xs/\h.DictOfH (tupleKind (cg P w)) a xs:=xC ok (.inl e)
end
def jA (H:Hp) (a:Addr) (y:V) (r:Option V):Prop:=
 (∃aL k,Rd H a (.dK aL)/\y=kV k/\r=di aL k)\/ ∃aL k b,Rd H a (.dT aL)/\y= .ref b/\H b=some (.tup (k.map kV))/\r=di aL k
def qM (H:Hp) (a:Addr) (y v:V) (H':Hp):Prop:=
 (∃aL k,H a=some (.dK aL)/\y=kV k/\aL.length<sizeLine/\H'=upd H a (.dK (putK aL k v)))\/
 ∃aL k b,H a=some (.dT aL)/\y= .ref b/\H b=some (.tup (k.map kV))/\aL.length<sizeLine/\H'=upd H a (.dT (putK aL k v))
theorem jA.k {H:Hp} {a:Addr} {aL:List (Key×V)} {k:Key} (e:H a=some (.dK aL)):jA H a (kV k) (di aL k):= .inl ⟨aL,k, .inl e,rfl,rfl⟩
theorem jA.t {H:Hp} {a b:Addr} {aL:List (List Key×V)} {k:List Key} (e:H a=some (.dT aL)) (eb:H b=some (.tup (k.map kV))):jA H a (.ref b) (di aL k):= .inr ⟨aL,k,b, .inl e,rfl,eb,rfl⟩
theorem qM.k {H:Hp} {a:Addr} {aL:List (Key×V)} {k:Key} {v:V} (e:H a=some (.dK aL)) (hl:aL.length<sizeLine):qM H a (kV k) v (upd H a (.dK (putK aL k v))):= .inl ⟨aL,k,e,rfl,hl,rfl⟩
theorem qM.t {H:Hp} {a b:Addr} {aL:List (List Key×V)} {k:List Key} {v:V} (e:H a=some (.dT aL)) (eb:H b=some (.tup (k.map kV))) (hl:aL.length<sizeLine):
  qM H a (.ref b) v (upd H a (.dT (putK aL k v))):= .inr ⟨aL,k,b,e,rfl,eb,hl,rfl⟩
section
variable {X:Cx} {pins:List (Addr×Obj)} {σ:St} {H:Hp} {s:Shared} {a:Addr} {y v:V} {u r:Value} {o:Option V} {A:Around} {E:Value->Shared->Prop}
theorem Inv.big (I:Inv X pins σ H s):sysModules<s.heap.objs.size:=by
 have h:mainGlobals<s.heap.objs.size:=(I.mod.glob.keeps I.bk).lt
 exact Qax (by decide) h
theorem Cn {Q:Value->Shared->Prop} (hu:A.units+1<cLine) (I:Inv X pins σ H s) (g:jA H a y (some v)) (ry:RelV y u) (h: ∀w' s',Inv X pins σ H s'->RelV v w'->Q w' s'):
  wpAny (model X.prog X.w) A (getItem (.ref a) u) Q E s:=by
 rcases g with ⟨aL,k,e,ey,l⟩ | ⟨aL,k,b,e,ey,eb,l⟩
 ·subst ey
  obtain ⟨z,hd,vs,rel,dd⟩:=xB I.bX e
  obtain ⟨w',hw,uS⟩:=kW.some_of (v:=v) (o:=valueAt vs k) (by rw[l];exact rel.val k)
  exact wpAny_getItem_of (AO ry) dd.mapOf hw (h w' _ (I.tok _) uS)
 ·subst ey
  cases (show u=Value.ref b from ry)
  obtain ⟨z,hd,xs,rel,dd⟩:=xC I.bX e
  obtain ⟨w',hw,uS⟩:=kW.some_of (v:=v) (o:=(atKey xs k).map (·.2)) (by rw[l];exact rel.val k)
  obtain ⟨p,hp,jj⟩:=Qb0.mp hw
  refine wpAny_getItem_heap (tupleKind_room_in1 hu) (vd I.bX eb) dd hp ?_
  rw[jj]
  exact h w' _ (I.tok _) uS
theorem AQ {h':Heap} {t':Nat} {ob:HO} (I:Inv X pins σ H s) (mu:OB (H a)) (hs:Heap.SameBut a s.heap h') (he: ∃q,h'.get? a=some q) (new:cU X.prog X.w (upd H a ob) h' a ob):
  Inv X pins σ (upd H a ob) { s with heap:=h',toks:=t' }:=
 I.write (x:=a) (e:=a) mu (.inl rfl) (fun b q hb z=>(hs.2 b hb).trans z) he new
theorem Ll {P:Program} {w:World} {H':Hp} {h':Heap} {aL:List (Key×V)} {vs:List (Key×Value)} (z:aL.length<=sizeLine) (hd:(a==sysModules)=false) (rel:KV aL vs) (dd:h'.DictOf (cg P w) a vs):
  cU P w H' h' a (.dK aL):=⟨z,hd,vs,rel,dd⟩
theorem Co {H':Hp} {Q:Unit->Shared->Prop} (hu:A.units+1<cLine) (I:Inv X pins σ H s) (g:qM H a y v H') (ry:RelV y u) (rv:RelV v r) (h: ∀s',Inv X pins σ H' s'->Q () s'):
  wpAny (model X.prog X.w) A (setItem (.ref a) u r) Q E s:=by
 rcases g with ⟨aL,k,e,ey,l,eH⟩ | ⟨aL,k,b,e,ey,eb,l,eH⟩
 ·subst ey eH
  obtain ⟨z,hd,vs,rel,dd⟩:=PX I.bX e
  have hz:vs.length<=sizeLine:=by rw[<-rel.length];exact z
  have hl:(putK aL k v).length<=sizeLine:=by have:=dQ aL k v;omega
  refine wpAny_setItem_pairs (hsz:=hz) (AO ry) dd fun h' Rk hs=>h _ ?_
  have he: ∃q,h'.get? a=some q:=let ⟨q,_,_,hq,_⟩:=Rk;⟨q,hq⟩
  exact AQ I (by rw[e];exact True.intro) hs he (Ll hl hd (rel.put k rv) Rk)
 ·subst ey eH
  cases (show u=Value.ref b from ry)
  obtain ⟨z,hd,xs,rel,dd⟩:=PY I.bX e
  have hz:xs.length<=sizeLine:=by rw[<-Paired.length rel];exact z
  have hl:(putK aL k v).length<=sizeLine:=by have:=dQ aL k v;omega
  refine wpAny_setItem_heap (hsz:=hz) (tupleKind_room_in1 hu) (vd I.bX eb) dd fun h' Rk hs=>h _ ?_
  obtain ⟨q,es,ep,hq,h2,h3,h4,_,h5⟩:=Rk
  refine AQ I (by rw[e];exact True.intro) hs ⟨q,hq⟩ ⟨hl,hd,_,(rel.put k eb rv).keeps fun c ys ec=>?_,q,es,ep,hq,h2,h3,h4,h5⟩
  rw[au (OA ec e (fun z=>nomatch z))]
  exact ec
end
def PZ (i:Expr):Prop:= ∀ov iv,subscripted i false ov iv=operate [ov,iv] (getItem ov iv)
theorem HJ {prog:Program} {w:World} {A:Around} {E:Value->Shared->Prop} {s:Shared} {env:Env} {value slice:Expr} {pos:Pos} {T id:String} {Q:Value->Shared->Prop}
  (hl:typeLookup (.type T) "__getitem__"=pure (some (.builtin id))) (hs:PZ slice)
  (h:wpAny (model prog w) A (eval value env) (fun o s₁=>wpAny (model prog w) A (eval slice env) (fun i s₂=>s₂.TypeIs o T/\wpAny (model prog w) A (getItem o i) Q E s₂) E s₁) E s):
  wpAny (model prog w) A (eval (.Subscript value slice pos) env) Q E s:=by
 refine Subscript_ (wpAny_mono h (fun o s₁ h₁=>wpAny_mono h₁ (fun i s₂ h₂=>?_) fun _ _ x=>x) fun _ _ x=>x)
 obtain ⟨hT,h₂⟩:=h₂
 unfold subscriptTail
 refine wpAny_bind ?_
 rw[getitemInPython_of_ne hT.not_modules]
 refine wpAny_bind (wpAny_specialOf hT hl ?_)
 have fin:wpAny (model prog w) A (subscripted slice false o i) (fun r s₃=>wpAny (model prog w) A (letTemporaryGo value o r >>= fun _=>pure r) Q E s₃) E s₂:=by
  rw[hs o i]
  exact wpAny_operating (wpAny_mono h₂ (fun r s₃ h₃=>wpAny_bind (wpAny_letTemporaryGo (wpAny_pure h₃))) fun _ _ x=>x)
 first
  | exact wpAny_pure (wpAny_bind fin)
  | exact wpAny_bind (wpAny_pure (wpAny_bind fin))
  | exact wpAny_bind fin
theorem xD {X:Cx} {pins:List (Addr×Obj)} {σ:St} {H:Hp} {s:Shared} {a:Addr} {y:V} {o:Option V} (I:Inv X pins σ H s) (g:jA H a y o):s.TypeIs (.ref a) "dict":=by
 rcases g with ⟨aL,k,e,_,_⟩ | ⟨aL,k,b,e,_,_,_⟩
 ·obtain ⟨_,_,vs,_,dd⟩:=xB I.bX e
  exact dd.typeIs
 ·obtain ⟨_,_,xs,_,dd⟩:=xC I.bX e
  exact dd.typeIs
def P0 (td ty:TE):TE:=fun σ H Q=>td σ H fun x H1=>ty σ H1 fun y H2=> ∃a v,x= .ref a/\jA H2 a y (some v)/\Q v H2
def P4 (td ty tv:TE):TS:=fun D σ H=>tv σ H fun v H1=>td σ H1 fun x H2=>ty σ H2 fun y H3=> ∃a H4,x= .ref a/\qM H3 a y v H4/\D.nx σ H4
section
variable {X:Cx} {o i e value:Expr} {pos pos' O0:Pos} {td ty tv:TE}
theorem p5 (hu:X.A.units+1<cLine) (ho:PE X o td) (hi:PE X i ty) (hs:PZ i):PE X (.Subscript o i pos) (P0 td ty):=by
 intro pins s σ H Q I h
 refine HJ PySem.F.slot_dict_getitem.lookup hs (b8 (ho pins s σ H _ I h) fun u s1 ⟨x,H1,I1,rx,q1⟩=>b8 (hi pins s1 σ H1 _ I1 q1) fun iv s2 ⟨y,H2,I2,ry,a,v,ex,g,q2⟩=>?_)
 subst ex
 obtain rfl:u=Value.ref a:=rx
 exact ⟨xD I2 g,Cn hu I2 g ry fun w' s3 I3 uS=>⟨v,H2,I3,uS,q2⟩⟩
theorem p6 (hu:X.A.units+1<cLine) (ho:PE X o td) (hi:PE X i ty) (hv:PE X value tv) (hs:swapsWith value (some (.Subscript o i pos')) pos.line X.env=pure false):
  PS X (.Assign [.Subscript o i pos'] value pos) (P4 td ty tv):=by
 intro pins s σ H D I h
 refine wpAny_Assign_Subscript (b8 (hv pins s σ H _ I h) fun r s1 ⟨v,H1,I1,rv,q1⟩=>b8 (ho pins s1 σ H1 _ I1 q1) fun u s2 ⟨x,H2,I2,rx,q2⟩=>b8 (hi pins s2 σ H2 _ I2 q2) fun iv s3 ⟨y,H3,I3,ry,a,H4,ex,g,q3⟩=>?_) hs
 subst ex
 obtain rfl:u=Value.ref a:=rx
 exact Co hu I3 g ry rv fun s4 I4=>⟨σ,H4,I4,q3⟩
end
theorem Eh {P:Program} {w:World} {H:Hp} (h:Heap) (hb:sysModules<h.objs.size):cU P w H (h.push { cls:= .type "dict",data:= .dict #[] }) h.objs.size (.dK []):=
 ⟨WT _,beq_eq_false_iff_ne.mpr (Ne.symm (ZE hb)),[], .nil,Heap.DictOf.new h⟩
theorem Ei {P:Program} {w:World} {H:Hp} (h:Heap) (hb:sysModules<h.objs.size):cU P w H (h.push { cls:= .type "dict",data:= .dict #[] }) h.objs.size (.dT []):=
 ⟨WT _,beq_eq_false_iff_ne.mpr (Ne.symm (ZE hb)),[], .nil,_, #[],0,Zw _ rfl,⟨rfl,rfl,rfl⟩,rfl,rfl,Qdj⟩
def Lm:TE:=fun _ H Q=> ∀p,H p=none->Q (.ref p) (upd H p (.dK []))
def Ln:TE:=fun _ H Q=> ∀p,H p=none->Q (.ref p) (upd H p (.dT []))
section
variable {X:Cx} {pos:Pos}
theorem Ej:PE X (.Dict [] [] pos) Lm:=fun pins s σ H Q I h=>
 wpAny_Dict_empty ⟨.ref s.heap.objs.size,_,I.laid (a:=s.heap.objs.size) (o:= .dK []) (t':=s.toks) (fun _ _ q=>U4 _ q) (Ri _) (Eh s.heap I.big),rfl,h _ (I.bX.fresh (Ri _))⟩
theorem xE:PE X (.Dict [] [] pos) Ln:=fun pins s σ H Q I h=>
 wpAny_Dict_empty ⟨.ref s.heap.objs.size,_,I.laid (a:=s.heap.objs.size) (o:= .dT []) (t':=s.toks) (fun _ _ q=>U4 _ q) (Ri _) (Ei s.heap I.big),rfl,h _ (I.bX.fresh (Ri _))⟩
end
structure M2 (X:Cx) (o:Expr) (m:Str) (apos:Pos) (e f:Expr) (fI:Pos):Prop where
 base:attributeBase o m X.env (eval o X.env)=eval o X.env
 tR:((backTo fI (starEach [e,f] X.env)).all (fun x=>!x.1)&&(backToKw fI (keywordEach [] X.env)).all (fun x=>x.1.isSome)
  &&decide (([e,f]:List Expr).length+([]:List Keyword).length+(if ([]:List Keyword).isEmpty then 0 else 1)<30))=true
 line:(apos.endLine==fI.line)=true
 trees:backTo fI (starEach [e,f] X.env)=[(false,eval e X.env),(false,eval f X.env)]
def Ve (H:Hp) (a:Addr):Prop:=(∃aL,Rd H a (.dK aL))\/ ∃aL,Rd H a (.dT aL)
theorem Lo {X:Cx} {pins:List (Addr×Obj)} {σ:St} {H:Hp} {s:Shared} {a:Addr} (I:Inv X pins σ H s) (d:Ve H a):
  s.TypeIs (.ref a) "dict"/\(∀b,Value.ref a= .ref b-> ∃ob,s.heap.get? b=some ob/\ob.dict=none)/\(a==sysModules)=false:=by
 rcases d with ⟨aL,e⟩ | ⟨aL,e⟩
 ·obtain ⟨_,hd,vs,_,dd⟩:=xB I.bX e
  refine ⟨dd.typeIs,fun b q=>?_,hd⟩
  cases q
  obtain ⟨ob,_,_,h1,h2,_⟩:=dd
  exact ⟨ob,h1,h2.2.1⟩
 ·obtain ⟨_,hd,xs,_,dd⟩:=xC I.bX e
  refine ⟨dd.typeIs,fun b q=>?_,hd⟩
  cases q
  obtain ⟨ob,_,_,h1,h2,_⟩:=dd
  exact ⟨ob,h1,h2.2.1⟩
section
variable {X:Cx} {pins:List (Addr×Obj)} {σ:St} {H:Hp} {s:Shared} {a:Addr} {y d:V} {u r:Value} {o:Option V} {A:Around} {E:Value->Shared->Prop}
theorem Lp {Q:Value->Shared->Prop} (hu:A.units+1<cLine) (I:Inv X pins σ H s) (g:jA H a y o) (ry:RelV y u) (rd:RelV d r) (h: ∀w' s',Inv X pins σ H s'->RelV (o.getD d) w'->Q w' s'):
  wpAny (model X.prog X.w) A (call (.builtin "dict.get") [.ref a,u,r]) Q E s:=by
 rcases g with ⟨aL,k,e,ey,l⟩ | ⟨aL,k,b,e,ey,eb,l⟩
 ·subst ey
  obtain ⟨z,hd,vs,rel,dd⟩:=xB I.bX e
  refine call_meetsIn Qde dd.typeIs PySem.F.entry_dict_get (PySem.F.args_dict_get_3 _ _ _) (meets_dict_get_default (cg X.prog X.w) a (AO ry) hd r) ⟨_,dd.mapOf,h _ _ (I.tok _) ?_⟩
  rw[l]
  exact (rel.val k).getD rd
 ·subst ey
  cases (show u=Value.ref b from ry)
  obtain ⟨z,hd,xs,rel,dd⟩:=xC I.bX e
  refine call_meetsIn Qde dd.typeIs PySem.F.entry_dict_get (PySem.F.args_dict_get_3 _ _ _) (meetsH_dict_get_default (tupleKind (cg X.prog X.w)) a b hd r) ⟨tupleKind_room_in1 hu,k,xs,vd I.bX eb,dd,h _ _ (I.tok _) ?_⟩
  rw[l]
  exact (rel.val k).getD rd
end
def Lq (td ty tx:TE):TE:=fun σ H Q=>td σ H fun x H1=> ∃a,x= .ref a/\Ve H1 a/\ty σ H1 fun y H2=>tx σ H2 fun z H3=> ∃o,jA H3 a y o/\Q (o.getD z) H3
section
variable {X:Cx} {o e f:Expr} {apos fI:Pos} {td ty tx:TE}
theorem qN (hu:X.A.units+1<cLine) (ho:PE X o td) (he:PE X e ty) (hf:PE X f tx) (m:M2 X o "get" apos e f fI):PE X (.Call (.Attribute o "get" apos) [e,f] [] fI) (Lq td ty tx):=by
 intro pins s σ H Q I h
 refine wpAny_Call_method m.base m.tR m.line PySem.F.plainAttrs_dict Qde PySem.F.type_dict_get (b8 (ho pins s σ H _ I h) fun u s1 ⟨x,H1,I1,rx,a,ex,d,q1⟩=>?_)
 subst ex
 obtain rfl:u=Value.ref a:=rx
 obtain ⟨t1,t2,_⟩:=Lo I1 d
 refine ⟨t1,t2,?_⟩
 rw[m.trees]
 refine Qdn rfl (Calls.evalArgs_plain (Qee (b8 (he pins s1 σ H1 _ I1 q1) fun iv s2 ⟨y,H2,I2,ry,q2⟩=>
  Qee (b8 (hf pins s2 σ H2 _ I2 q2) fun fv s3 ⟨z,H3,I3,rz,ov,g,q3⟩=>Calls.spliced_nil ?_))))
 exact Lp hu I3 g ry rz fun w' s4 I4 uS=>⟨_,H3,I4,uS,q3⟩
end
set_option maxHeartbeats 1000000
end L2
set_option maxHeartbeats 1000000
namespace L2.F2
open PySem PySem.Spec PyProof.Rows
end L2.F2
namespace L2
open PySem PySem.Spec PyProof.Rows
set_option maxHeartbeats 2000000
noncomputable def ph (a b c d:Int):Bool:=if a=c then decide (b<d) else decide (a<c)
section
variable {prog:Program} {w:World} {A:Around} {E:Value->Shared->Prop} {s:Shared}
theorem HK {p q:Addr} {ox oy:Obj} {mx my:Nat} {a b c d:Int} {t1 t2 t3 t4:Tok} {P:PySem.Fin->Shared->Prop} (Rl:s.heap.get? p=some ox) (Tr:ox.data= .seq #[.int a t1, .int b t2] mx)
  (P5:s.heap.get? q=some oy) (AR:oy.cls= .type "tuple") (Ts:oy.data= .seq #[.int c t3, .int d t4] my) (h:P (.done (.ret (.bool (ph a b c d)))) s):
  wpAny (model prog w) A (Builtin.«tuple.__lt__» ⟨[.ref p, .ref q],[]⟩) P E s:=by
 have hT:s.TypeIs (.ref q) "tuple":=⟨oy,P5,AR⟩
 show wpAny _ _ (isInstance (.ref q) (.type "tuple") >>= fun b=>_) _ _ s
 refine wpAny_bind (wpAny_isInstance (b:=true) hT isSubtype_tuple_tuple ?_)
 simp only[Qdr,Qa6,if_false]
 refine wpAny_bind (wpAny_tupleItemsOf Rl Tr ?_)
 refine wpAny_bind (wpAny_tupleItemsOf P5 Ts ?_)
 refine wpAny_bind ?_
 show wpAny _ _ (forIn [(Value.int a t1,Value.int c t3),(Value.int b t2,Value.int d t4)] _ _) _ _ _
 rw[Qcg]
 refine wpAny_bind (wpAny_bind (wpAny_eqBool_int ?_))
 unfold ph at h
 by_cases e:a=c
 ·rw[if_pos e]at h
  rw[show (a==c)=true by simp[e]]
  simp only[Qdr,Qa6,if_false]
  refine wpAny_pure ?_
  dsimp only
  rw[Qcg]
  refine wpAny_bind (wpAny_bind (wpAny_eqBool_int ?_))
  by_cases e2:b=d
  ·rw[show (b==d)=true by simp[e2]]
   simp only[Qdr,Qa6,if_false]
   refine wpAny_pure ?_
   dsimp only
   rw[List.forIn_nil]
   refine wpAny_pure ?_
   dsimp only
   refine wpAny_pure ?_
   rw[decide_eq_false (by omega)]at h
   exact h
  ·rw[show (b==d)=false by simp[e2]]
   simp only[Bool.not_false,if_true]
   refine wpAny_bind (wpAny_rule ?_)
   refine wpAny_bind (lt_int ?_)
   refine wpAny_bind (wpAny_pure ?_)
   refine wpAny_pure ?_
   dsimp only
   refine wpAny_pure ?_
   dsimp only
   exact wpAny_pure h
 ·rw[if_neg e]at h
  rw[show (a==c)=false by simp[e]]
  simp only[Bool.not_false,if_true]
  refine wpAny_bind (wpAny_rule ?_)
  refine wpAny_bind (lt_int ?_)
  refine wpAny_bind (wpAny_pure ?_)
  refine wpAny_pure ?_
  dsimp only
  refine wpAny_pure ?_
  dsimp only
  exact wpAny_pure h
end
section
variable {X:Cx}
def Tt (K:PySem.W.Frag):R2:=fun x y H Q=> ∃p q a b c d,x= .ref p/\y= .ref q/\aX K H p [.int a, .int b]/\aX K H q [.int c, .int d]/\Q (.bl (ph a b c d)) H
theorem xF {a b:Int} {us:List Value} (r:Vals [.int a, .int b] us): ∃t u,us=[.int a t, .int b u]:=by
 cases r with
 | cons r1 r=>
  cases r with
  | cons r2 r=>
   cases r
   obtain ⟨t,rfl⟩:=r1
   obtain ⟨u,rfl⟩:=r2
   exact ⟨t,u,rfl⟩
theorem zD {k:Nat} (K:PySem.W.Frag) (h:X.K=K) (hr:fh k X.A):g_ X (compareOp .Lt) (Tt K):=by
 subst h
 intro pins s σ H x y v u Q I rx ry h
 obtain ⟨p,q,a,b,c,d,rfl,rfl,hp,hq,r⟩:=h
 cases rx
 cases ry
 obtain ⟨xs,W3,px,_⟩:=I.tuple hp
 obtain ⟨ys,W4,py,_⟩:=I.tuple hq
 obtain ⟨ox,Rl,Tn,mx,Tr⟩:=px
 obtain ⟨oy,P5,AR,my,Ts⟩:=py
 obtain ⟨t1,t2,rfl⟩:=xF W3
 obtain ⟨t3,t4,rfl⟩:=xF W4
 have hu:=hr.units
 show wpAny _ _ (richCompare .Lt (.ref p) (.ref q)) _ _ s
 have hT:s.TypeIs (.ref p) "tuple":=⟨ox,Rl,Tn⟩
 refine wpAny_richCompare_same_room hT ⟨oy,P5,AR⟩ PySem.F.slot_tuple_lt (wpAny_call_entry PySem.F.slot_tuple_lt hT PySem.F.entry_tuple_lt (HK Rl Tr P5 AR Ts ⟨_,rfl,(fun z=>nomatch z),?_⟩) (PySem.F.args_tuple_lt_2 _ _)) (by omega)
 exact ⟨.bl _,H,I,rfl,r⟩
end
section
variable {prog:Program} {w:World} {A:Around} {E:Value->Shared->Prop} {s:Shared}
def qO (h:Heap) (k:Nat) (v:Value) (ns:List Int):Prop:= ∃x ox us m is z t,v= .ref x/\h.get? x=some ox/\ox.cls= .type "tuple"/\ox.data= .seq us m/\us.toList=is++[.str z t]/\IntsAre is ns/\ns.length=k+1
theorem AS {Q:Bool->Shared->Prop} {ta tb:List Value}: ∀{us vs:List Value} {ns ms:List Int} {i:Nat},IntsAre us ns->IntsAre vs ms->ns.length=ms.length->ns≠ms->Q (bc ns ms) s->PySem.W.KatLex prog w A true false Q ((us++ta).zip (vs++tb)) i s
 | _,_,_,_,i, .nil, .nil,_,z,_=>absurd rfl z
 | _,_,_,_,i, .nil, .cons _ _ _,h,_,_=>by simp at h
 | _,_,_,_,i, .cons _ _ _, .nil,h,_,_=>by simp at h
 | _,_,_,_,i, .cons (ns:=ns) a t1 h1, .cons (ns:=ms) b t2 h2,h,z,q=>by
  refine PySem.W.kat_cons (wpAny_eqBool_int ?_)
  have hl:ns.length=ms.length:=by simpa using h
  have q':Q (if a=b then bc ns ms else decide (a<b)) s:=q
  by_cases e:a=b
  ·rw[show (a==b)=true by simp[e]]
   rw[if_pos e]at q'
   exact PySem.W.kat_yes (AS h1 h2 hl (fun g=>z (by rw[e,g])) q')
  ·rw[show (a==b)=false by simp[e]]
   rw[if_neg e]at q'
   refine PySem.W.kat_no ?_
   by_cases y:i=0
   ·subst y
    exact PySem.W.kat_lt_int (E:=fun _ _=>False) q'
   ·rw[show (true&&(i==0))=false by simp[y]]
    exact PySem.W.kat_one _ _ (lt_int q')
theorem Lr {k:Nat} {u v:Value} {a c:List Int} {Q:Bool->Shared->Prop} (hx:qO s.heap k u a) (hy:qO s.heap k v c) (dz:a≠c) (q:Q (bc a c) s):wpAny (model prog w) A (keyLt' (tuples' true) u v) Q E s:=by
 obtain ⟨x,ox,us,n,i1,z1,t1,rfl,gx,_,dx,ex,ix,lx⟩:=hx
 obtain ⟨y,oy,vs,m,i2,z2,t2,rfl,gy,_,dy,ey,iy,ly⟩:=hy
 have e1:=qL ix
 have e2:=qL iy
 refine PySem.W.kat_lt gx dx gy dy ?_
 rw[show decide (us.size<vs.size)=false from decide_eq_false (by rw[<-Qck, <-Qck,ex,ey,U5,U5];simp;omega)]
 rw[ex,ey]
 exact AS ix iy (by omega) dz q
theorem qO.keep {h h':Heap} {k:Nat} {v:Value} {n:List Int} (p:qO h k v n) (kp: ∀b o,h.get? b=some o->h'.get? b=some o):qO h' k v n:=by
 obtain ⟨x,ox,us,m,i1,z1,t1,e1,e2,r⟩:=p
 exact ⟨x,ox,us,m,i1,z1,t1,e1,kp _ _ e2,r⟩
def cZ (h:Heap) (k:Nat):List Value->List (List Int)->Prop
 | [],[]=>True
 | v::vs,n::ns=>qO h k v n/\cZ h k vs ns
 | _,_=>False
theorem cZ.keep {h h':Heap} {k:Nat} (kp: ∀b o,h.get? b=some o->h'.get? b=some o): ∀{vs:List Value} {ns:List (List Int)},cZ h k vs ns->cZ h' k vs ns
 | [],[],_=>trivial
 | _::_,_::_,⟨a,b⟩=>⟨a.keep kp,cZ.keep kp b⟩
theorem cZ.get {h:Heap} {k:Nat}: ∀{vs:List Value} {ns:List (List Int)} {i:Nat},cZ h k vs ns->(hi:i<vs.length)-> ∃n,ns[i]? =some n/\qO h k (vs.getD i Value.none) n
 | [],[],i,_,hi=>absurd hi (Qbh _)
 | v::vs,n::ns,0,⟨a,_⟩,_=>⟨n,rfl,a⟩
 | v::vs,n::ns,i+1,⟨_,b⟩,hi=>by
  obtain ⟨m,e,p⟩:=cZ.get (i:=i) b (Nat.lt_of_succ_lt_succ hi)
  exact ⟨m,e,p⟩
theorem cZ.nC {h:Heap} {k:Nat}: ∀{vs:List Value} {ns:List (List Int)},cZ h k vs ns-> ∃fs,PySem.W.KatTups h vs fs/\fs.length=vs.length/\ ∀v∈fs, ∃i t,v=Value.int i t
 | [],[],_=>⟨[],trivial,rfl,fun _ h=>absurd h Zu⟩
 | v::vs,n::ns,⟨⟨x,ox,us,m,i1,z1,t1,e1,e2,e3,e4,e0,e5,e6⟩,b⟩=>by
  obtain ⟨fs,k1,k2,k3⟩:=cZ.nC b
  obtain ⟨f,t,e7⟩: ∃f t,us[0]? =some (Value.int f t):=by
   rw[<-Qdi,e0]
   clear e0
   cases e5 with
   | nil=>simp at e6
   | cons a t _=>exact ⟨a,t,rfl⟩
  refine ⟨.int f t::fs,⟨⟨x,ox,us,m,e1,e2,e3,e4,e7⟩,k1⟩,by simp[k2],fun u hu=>?_⟩
  rcases Zt.mp hu with z | z
  ·exact ⟨_,_,z⟩
  ·exact k3 u z
theorem cZ.ne {h:Heap} {k:Nat} {vs:List Value} {ns:List (List Int)} (p:cZ h k vs ns) {a:Addr} (ha:h.objs.size<=a): ∀v∈vs,v≠ .ref a:=fun v hv z=>by
 obtain ⟨i,hi,e⟩:=List.mem_iff_getElem.mp hv
 obtain ⟨n,_,x,ox,us,m,i1,z1,t1,e1,e2,_⟩:=p.get (i:=i) hi
 have e3:vs.getD i Value.none=v:=by rw[WS,K3 hi,e];rfl
 rw[e3,z]at e1
 cases e1
 exact absurd (ZJ (ZA e2) ha) (Z5 _)
theorem qP {a:Addr} {vs:List Value} {ns:List (List Int)} {k n:Nat} {P:PySem.Fin->Shared->Prop} (ho:s.heap.get? a=some (seqObj "list" vs.toArray n)) (hp:cZ s.heap k vs ns) (Vf: ∀v∈vs,v≠ .ref a) (hs: ∀k x y,ns[k]? =some x->ns[k+1]? =some y->bc y x=false/\y≠x) (hsz:vs.length<=sizeLine)
  (q:P (.done (.ret .none)) { s with heap:=sortedHeap s.heap a vs vs.toArray }):wpAny (model prog w) A (Builtin.«list.sort» ⟨[.ref a],[]⟩) P E s:=by
 rw[list_sort_plain]
 have ha:a<s.heap.objs.size:=ZA ho
 refine wpAny_bind (listItems_at ho rfl (wpAny_bind (listUpdate_at ho rfl ?_ (by rw[WR];omega) (WT _))))
 obtain ⟨e1,Vg⟩: ∃e1,(s.heap.update a (Obj.mapSeq fun _=> #[])).get? a=some (seqObj "list" #[] e1):=⟨_,get?_update_seq ho (fun _=> #[])⟩
 refine wpAny_bind (seqEpoch_at Vg rfl (wpAny_bind (wpAny_newTuple (wpAny_bind (wpAny_newList (wpAny_holding ?_) (WT _))) (by show vs.length<=_;omega))))
 generalize hH:((s.heap.update a (Obj.mapSeq fun _=>(#[]:Array Value))).push (seqObj "tuple" vs.toArray 0)).push (seqObj "list" #[] 0)=H2
 have Vh:H2.get? a=some (seqObj "list" #[] e1):=by
  rw[<-hH]
  exact U4 _ (U4 _ Vg)
 have keep: ∀b o,b≠a->s.heap.get? b=some o->H2.get? b=some o:=fun b o hb e=>by
  rw[<-hH]
  exact U4 _ (U4 _ ((Z3 s.heap _ (Ne.symm hb)).trans e))
 have jj:cZ H2 k vs ns:=by
  clear q hsz hs hH ho
  revert ns
  induction vs with
  | nil=>intro ns hp;cases ns with
   | nil=>trivial
   | cons _ _=>exact hp.elim
  | cons v vs ih=>
   intro ns hp
   cases ns with
   | nil=>exact hp.elim
   | cons n ns=>
    obtain ⟨⟨x,ox,us,m,i1,z1,t1,rfl,g2,g3⟩,b⟩:=hp
    exact ⟨⟨x,ox,us,m,i1,z1,t1,rfl,keep x ox (fun z=>Vf _ Zv (by rw[z])) g2,g3⟩,ih (fun u hu=>Vf u (Zs _ hu)) b⟩
 have fin: ∀st:SortSt,(arrOf st).map (·.2)=vs.toArray->failedOf st=none->wpAny (model prog w) A (do { let touched:=(<-seqEpoch a) != e1;Builtin.List.listUpdate (.ref a) (fun _=>(arrOf st).map (·.2));if let some e:=failedOf st then { rule "list.sort.comparison-raised";throw e };if touched then { rule "list.sort.modified";raiseError "ValueError" "list modified during sort" };ret .none }) P E { s with heap:=H2 }:=fun st e0 e2=>by
  rw[e0,e2]
  refine wpAny_bind (seqEpoch_at Vh rfl (wpAny_bind (listUpdate_at Vh rfl ?_ (WT _) (by rw[WR];omega))))
  simp only[bne_self_eq_false,Qa6,if_false]
  refine wpAny_pure ?_
  have e3:sortedHeap s.heap a vs vs.toArray=H2.update a (Obj.mapSeq fun _=>vs.toArray):=by unfold sortedHeap;rw[hH]
  rw[e3]at q
  exact q
 show wpAny (model prog w) A _ P E { s with heap:=H2 }
 dsimp only
 by_cases h2:vs.toArray.size<2
 ·rw[if_pos h2,if_pos h2]
  refine wpAny_bind (wpAny_pure ?_)
  rw[StateT.run_pure]
  refine wpAny_bind (wpAny_pure ?_)
  exact fin (SortSt.mk' general' (vs.toArray.zip vs.toArray) #[] 7 none) (by show (vs.toArray.zip vs.toArray).map (·.2)=vs.toArray;apply Qbt.mp;simp;exact AN vs) rfl
 ·have W5:2<=vs.length:=by rw[WR]at h2;omega
  rw[if_neg h2,if_neg h2]
  obtain ⟨fs,k1,k2,k3⟩:=jj.nC
  refine wpAny_bind (PySem.W.kat_kind (s:={ s with heap:=H2 }) (T:= .type "int") k1 (by omega) (fun v hv=>by obtain ⟨i,t,rfl⟩:=k3 v hv;exact PySem.W.Looks.of_pure rfl) (by rfl) ?_)
  have W6:SortSt.mk' (tuples' (Value.type "int" != Value.type "tuple")) (vs.toArray.zip vs.toArray) #[] 7 none=PySem.W.kas_st (tuples' true) (vs.toArray.zip vs.toArray) (List.toArray (List.range vs.length)):=by
   have e:=PySem.W.kas_range (vs.toArray.zip vs.toArray)
   rw[show (vs.toArray.zip vs.toArray).size=vs.length by simp]at e
   show SortSt.mk' (tuples' true) (vs.toArray.zip vs.toArray) #[] 7 none=SortSt.mk' (tuples' true) ((List.toArray (List.range vs.length)).map (PySem.W.kas_item (vs.toArray.zip vs.toArray))) #[] 7 none
   rw[e]
  rw[W6]
  have run:=Ef (prog:=prog) (w:=w) (A:=A) (E:=E) (s:={ s with heap:=H2 }) (κ:=tuples' true) (it:=vs.toArray.zip vs.toArray) (n:=vs.length) (Q:=fun _ nq s'=>s'={ s with heap:=H2 }/\(arrOf nq).map (·.2)=vs.toArray/\failedOf nq=none) W5 (fun j g1 g2 C c=>by
   rw[<-PySem.W.kat_ask_eq rfl]
   obtain ⟨x,ex,px⟩:=jj.get (i:=j) g2
   obtain ⟨y,ey,py⟩:=jj.get (i:=j - 1) (by omega)
   obtain ⟨f1,f2⟩:=hs (j - 1) y x ey (by rw[show j - 1+1=j by omega];exact ex)
   refine Lr (s:={ s with heap:=H2 }) px py f2 ?_
   rw[f1]
   exact c) (fun nq a2 a3=>by
   refine ⟨rfl,?_,a3⟩
   rw[PySem.W.kat_snds rfl a2]
   apply Qbt.mp
   show (List.range vs.length).map (fun i=>vs.getD i Value.none)=vs
   refine List.ext_getElem (by simp) fun i g1 g2=>?_
   simp
   rw[K3 g2]
   rfl)
  refine wpAny_bind (wpAny_mono run ?_ fun _ _ e=>e)
  rintro ⟨⟨⟩,nq⟩ s' ⟨rfl,g1,g2⟩
  exact fin nq g1 g2
theorem oM {tp:Addr} {T:String} {o:Obj} {vs:List Value} {ns:List (List Int)} {k n:Nat} {Q:Value->Shared->Prop} (hT:T="list"\/T="tuple") (ho:s.heap.get? tp=some o) (hc:o.cls= .type T) (hd:o.data= .seq vs.toArray n) (hp:cZ s.heap k vs ns)
  (hs: ∀k x y,ns[k]? =some x->ns[k+1]? =some y->bc y x=false/\y≠x) (hsz:vs.length<=sizeLine)
  (q: ∀(h1 h':Heap) (a:Addr) (e:Nat),(∀b o,s.heap.get? b=some o->h1.get? b=some o)->(∀b o,h1.get? b=some o->h'.get? b=some o)->a=h1.objs.size->h'.get? a=some (seqObj "list" vs.toArray e)->Q (.ref a) { s with heap:=h' }):
  wpAny (model prog w) A (call (.builtin "sorted") [.ref tp]) Q E s:=by
 refine Calls.call_function_entry kind_sorted plain_sorted entry_sorted (args_sorted1 _) ?_
 unfold Builtin.«sorted»
 refine wpAny_bind (m:=checkCount "sorted" 1 1 _) (wpAny_pure (wpAny_bind (wpAny_collect_seq tp hT ho hc hd (fun h1 k1=>?_) (by rw[WR];omega))))
 refine wpAny_bind (wpAny_newList ?_ (by show vs.length<=_;omega))
 have G_:(h1.push (seqObj "list" vs.toArray 0)).get? h1.objs.size=some (seqObj "list" vs.toArray 0):=Zw _ rfl
 show wpAny _ _ _ _ _ { s with heap:=h1.push (seqObj "list" vs.toArray 0) }
 have pj:=hp.keep (h':=h1) k1
 have jj:=pj.keep (h':=h1.push (seqObj "list" vs.toArray 0)) fun b o e=>U4 _ e
 refine wpAny_bind (wpAny_holding (wpAny_call_entry slot_list_sort ⟨_,G_,rfl⟩ entry_list_sort (qP (s:={ s with heap:=h1.push (seqObj "list" vs.toArray 0) }) G_ jj (pj.ne (Ri _)) hs hsz ⟨_,rfl,?_⟩) (args_list_sort _)))
 obtain ⟨e,he⟩:=sortedHeap_at (out:=vs.toArray) G_
 refine wpAny_pure ⟨_,rfl,q h1 _ _ e k1 (fun b o hb=>?_) rfl he⟩
 have dq:=ZA hb
 rw[sortedHeap_old (ZE dq) (by rw[size_push'];exact Qbc dq)]
 exact U4 _ hb
end
section
variable {X:Cx}
theorem tT: ∀{ns:List Int} {z:Str} {us:List Value},Vals (ns.map V.int++[.str z]) us-> ∃is t,us=is++[.str z t]/\IntsAre is ns
 | [],z,_, .cons r .nil=>by
  obtain ⟨t,rfl⟩:=r
  exact ⟨[],t,rfl, .nil⟩
 | n::ns,z,_, .cons r rs=>by
  obtain ⟨u,rfl⟩:=r
  obtain ⟨is,t,e,h⟩:=tT rs
  exact ⟨.int n u::is,t,by rw[e];rfl, .cons n u h⟩
def Cp (K:PySem.W.Frag) (H:Hp) (k:Nat):List V->List (List Int)->Prop
 | [],[]=>True
 | v::vs,n::ns=>(∃t z,v= .ref t/\aX K H t (n.map V.int++[.str z])/\n.length=k+1)/\Cp K H k vs ns
 | _,_=>False
theorem Cp.at {pins:List (Addr×Obj)} {σ:St} {H:Hp} {s:Shared} {k:Nat} (I:Inv X pins σ H s): ∀{vs:List V} {ns:List (List Int)} {us:List Value},Cp X.K H k vs ns->Vals vs us->cZ s.heap k us ns
 | [],[],_,_, .nil=>trivial
 | v::vs,n::ns,_,⟨⟨t,z,e,h,hl⟩,b⟩, .cons r rs=>by
  subst e
  cases r
  obtain ⟨aJ,rv,p,_⟩:=I.tuple h
  obtain ⟨o,ho,hc,m,hd⟩:=p
  obtain ⟨i1,t1,e1,e2⟩:=tT rv
  exact ⟨⟨t,o,aJ.toArray,m,i1,z,t1,rfl,ho,hc,hd,e1,e2,hl⟩,Cp.at I b rs⟩
def Ls (K:PySem.W.Frag):List V->Hp->VK->Prop:=fun xs H Q=> ∃p ys ns k,xs=[.ref p]/\(bu K H p ys\/aX K H p ys)/\Cp K H k ys ns/\(∀k x y,ns[k]? =some x->ns[k+1]? =some y->bc y x=false/\y≠x)/\ ∀q,H q=none->Q (.ref q) (upd H q (.lst ys))
theorem ve (K:PySem.W.Frag) (h:X.K=K):dZ X (.builtin "sorted") (Ls K):=by
 subst h
 intro pins s σ H xs us Q I r h
 obtain ⟨p,ys,ns,k,rfl,hq,hv,hs,q⟩:=h
 obtain ⟨u,rfl,ru⟩:=vals1 r
 cases ru
 have fin: ∀aJ:List Value,ys.length<=sizeLine->Vals ys aJ-> ∀(h1 h':Heap) (a:Addr) (e:Nat),(∀b o,s.heap.get? b=some o->h1.get? b=some o)->(∀b o,h1.get? b=some o->h'.get? b=some o)->a=h1.objs.size->h'.get? a=some (seqObj "list" aJ.toArray e)->EP X pins σ Q (.ref a) { s with heap:=h' }:=fun aJ hz rv h1 h' a e k1 k2 ea he=>by
  have I1:Inv X pins σ H { s with heap:=h1 }:=I.kept (t':=s.toks) k1
  have I2:Inv X pins σ (upd H a (.lst ys)) { s with heap:=h' }:=I1.laid (t':=s.toks) (a:=a) (o:= .lst ys) k2 (by rw[ea];exact Ri _) ⟨hz,aJ,e,rv,by simpa [seqObj]using he⟩
  exact ⟨.ref a,_,I2,rfl,q _ (I1.bX.fresh (by rw[ea];exact Ri _))⟩
 rcases hq with hq | hq
 ·obtain ⟨aJ,rv,pl,hz⟩:=I.list hq
  obtain ⟨o,ho,hc,m,hd⟩:=pl.isList
  exact oM (.inl rfl) ho hc hd (hv.at I rv) hs (by rw[<-rv.length];exact hz) (fin aJ hz rv)
 ·obtain ⟨aJ,rv,pl,hz⟩:=I.tuple hq
  obtain ⟨o,ho,hc,m,hd⟩:=pl
  exact oM (.inr rfl) ho hc hd (hv.at I rv) hs (by rw[<-rv.length];exact hz) (fin aJ hz rv)
end
section
variable {X:Cx} {st:Stmt} {rest:List Stmt} {t u:TS}
def Tu (t u:TS):TS:=fun D σ H=> ∃P:St->Hp->Prop,t { D with nx:=P } σ H/\ ∀σ' H',P σ' H'->u D σ' H'
theorem gF (h1:PS X st t) (h2:yU X rest u):yU X (st::rest) (Tu t u):=by
 intro pins s σ H D I h
 obtain ⟨P,h,g⟩:=h
 refine wpAny_execs_cons (b8 (h1 pins s σ H _ I h) fun f s1 q=>?_)
 cases f with
 | ret v=>exact q
 | brk=>exact q
 | cont=>exact q
 | next=>
  obtain ⟨τ,G,J,p⟩:=q
  exact h2 pins s1 τ G D J (g τ G p)
end
end L2
namespace L2
open PySem PySem.Spec PyProof.Rows PySem.MeetsSeq PySem.SeqAt
end L2
set_option maxHeartbeats 4000000
namespace XL
open PySem PySem.Spec PySem.Calls PyProof.Rows PySem.W Builtin Builtin.ObjectAttr
end XL
set_option maxHeartbeats 4000000
namespace XL
open PySem PySem.Spec PySem.Calls PyProof.Rows PySem.W Builtin Builtin.ObjectAttr
end XL
set_option maxHeartbeats 4000000
namespace XL
open PySem PySem.Spec PySem.Calls PyProof.Rows PySem.W
end XL
set_option maxHeartbeats 4000000
namespace L2
open PySem PySem.Spec PyProof.Rows XL
end L2
set_option maxHeartbeats 4000000
namespace L2
open PySem PySem.Spec PyProof.Rows XL
end L2
set_option maxHeartbeats 4000000
namespace L2
open PySem PySem.Spec PyProof.Rows XL
end L2
set_option maxHeartbeats 4000000
namespace L2
open PySem PySem.Spec PyProof.Rows XL
end L2
set_option maxHeartbeats 4000000
namespace L2
open PySem PySem.Spec PyProof.Rows XL
noncomputable def Vj (s:Stmt) (j:Nat):Stmt:=match s with
 | .ClassDef _ _ _ b _ _ _ _ _ _ _=>b.getD j (.Pass ⟨0,0,0,0⟩)
 | _=> .Pass ⟨0,0,0,0⟩
end L2
set_option maxHeartbeats 4000000
namespace L2
open PySem PySem.Spec PyProof.Rows XL
def P6 (_ j:Int):Prop:=0<j/\j<18446744073709551616
theorem fk {X:Cx}:g_ X (binaryOp .FloorDiv) (rI P6 fun i j=> .int (i / j)):=Ra fun i j _ _ _ _ _ hc q=>by
 have h1:(0:Int)<j:=hc.1
 have h2:j<18446744073709551616:=hc.2
 have h3:j.natAbs<2 ^ 64:=by omega
 exact floordiv_int (by omega) (by rw[Int.fdiv_eq_ediv_of_nonneg i (by omega)];exact q) (.inl (PyProof.noPylong_of_log2 (Qax ((Nat.log2_lt (by omega)).mpr h3) (by decide))))
end L2
namespace PySem
end PySem
namespace L2
open PySem PySem.Spec PyProof.Rows
end L2
set_option maxHeartbeats 1000000
namespace L2.F3
open PySem PySem.Spec PyProof.Rows
end L2.F3
namespace L2
open PySem PySem.Spec PyProof.Rows
section
variable {X:Cx}
noncomputable def dg (n:Nat):List Nat:=((toString (n:Int):String):Str).cps.toList
theorem Tv (n:Nat):((toString (n:Int):String):Str)=S (dg n):=Py _
theorem Cq {n:Nat} (h:n<2 ^ 60):((n:Int)).natAbs.log2<1920:=by
 rw[Int.natAbs_natCast]
 by_cases z:n=0
 ·subst z;decide
 ·exact (Nat.log2_lt z).mpr (ZJ h (Nat.pow_le_pow_right (by decide) (by decide)))
theorem Cr:dZ X (.type "str") (fun xs H Q=> ∃n:Nat,xs=[.int n]/\n<2 ^ 60/\Q (.str (S (dg n))) H):=by
 intro pins s σ H xs us Q I r h
 obtain ⟨n,rfl,hz,q⟩:=h
 refine uO pins s σ H _ us Q I r ⟨n,rfl,Cq hz,?_⟩
 rw[Tv]
 exact q
end
set_option maxHeartbeats 1000000
theorem xG:typeLookup (.type "dict") "__len__"=pure (some (.builtin "dict.__len__")):=PySem.F.slot_dict_len.lookup
section
variable {prog:Program} {w:World} {A:Around} {E:Value->Shared->Prop} {s:Shared} {KK:Type} [DecidableEq KK] {knd:PySem.KeyKind prog w KK}
theorem vf {Q:List Value->Shared->Prop} (hh:A.handled=none) (d:Addr) (aL:List (KK×Value)) (ep:Nat) (hd:(d==sysModules)=false) (hm:s.heap.DictAt knd d aL ep) (hn:aL.length<=sizeLine)
  (hQ: ∀s' acc,(∀b o,s.heap.get? b=some o->s'.heap.get? b=some o)->s'.gens=s.gens->s'.drawn=s.drawn->s'.os=s.os->ItemsOf (fun i v=> ∃k x,aL[i]? =some (k,x)/\knd.is k v=true) acc aL.length->Q acc.toList s'):
  wpAny (model prog w) A (collect (.ref d)) Q E s:=by
 have hT:s.TypeIs (.ref d) "dict":=hm.dictOf.typeIs
 obtain ⟨od,P7,W7⟩:=id hT
 have P8:=ZA P7
 unfold collect
 refine wpAny_bind (wpAny_runValue (codeAny_builtin PySem.F.entry_proto_collect ?_))
 rw[Around.under_plainId PySem.F.plain_proto_collect _]
 show wpAny _ A.in1 (newList [] >>= fun l=>again (.builtin "list.__iadd__" ⟨[l, .ref d],[]⟩)) _ _ s
 refine wpAny_bind (wpAny_newObj_type ?_)
 refine wpAny_pure ⟨plainId_quiet PySem.F.plain_list_iadd _,codeAny_builtin PySem.F.entry_list_iadd ?_⟩
 rw[Around.under_plainId PySem.F.plain_list_iadd _]
 show wpAny _ A.in1 (Builtin.List.listExtendWith (.ref s.heap.objs.size) (.ref d) (.ref s.heap.objs.size)) _ _ _
 generalize hH:s.heap.push { cls:= .type "list",data:= .seq ([]:List Value).toArray }=H
 have Tw:H.objs.size=s.heap.objs.size+1:=by rw[<-hH,Qce]
 have Lj:H.DictAt knd d aL ep:=hm.at' fun o e=>by rw[<-hH];exact U4 _ e
 have W8:Shared.TypeIs { s with heap:=H } (.ref d) "dict":=Lj.dictOf.typeIs
 have Tx:s.heap.objs.size≠d:=Qc8 P8
 unfold Builtin.List.listExtendWith
 refine wpAny_bind (wpAny_typeOf W8 ?_)
 have h1:Builtin.List.listSameRef (.ref s.heap.objs.size) (.ref d)=false:=by simp[Builtin.List.listSameRef,Tx]
 rw[if_neg (by rw[h1];decide)]
 refine wpAny_bind (wpAny_pyIter_dict (s:={ s with heap:=H }) hd Lj ?_)
 show wpAny _ A.in1 _ _ _ { s with heap:=H.push { cls:= .type "dict_keyiterator",data:= .fields #[.ref d, .int 0 0, .int aL.length 0, .int ep 0] } }
 generalize JE:H.push { cls:= .type "dict_keyiterator",data:= .fields #[.ref d, .int 0 0, .int aL.length 0, .int ep 0] }=H2
 have Eg:H2.DictAt knd d aL ep:=Lj.at' fun o e=>by rw[<-JE];exact U4 _ e
 have Tz:Shared.TypeIs { s with heap:=H2 } (.ref d) "dict":=Eg.dictOf.typeIs
 refine wpAny_bind (wpAny_holding ?_)
 unfold Builtin.List.listLengthHint
 refine wpAny_bind (wpAny_specialOf Tz xG ?_)
 wp_delta
 refine wpAny_bind (wpAny_isInstance (T:="dict") (b:=true) Tz (by rw[isSubtype_type];kernel_rfl) ?_)
 show wpAny _ A.in1 (typeOf (Value.ref d) >>= _) _ _ _
 refine wpAny_bind (wpAny_typeOf Tz ?_)
 refine wpAny_pure ?_
 rw[if_pos (by decide+kernel)]
 refine wpAny_bind (wpAny_rule ?_)
 refine wpAny_bind ?_
 unfold Builtin.List.listTouch
 have hS:H2.get? s.heap.objs.size=some { cls:= .type "list",data:= .seq ([]:List Value).toArray }:=by
  rw[<-JE];exact U4 _ (by rw[<-hH];exact Zw _ rfl)
 refine wpAny_bind (wpAny_updateSeq hS rfl ?_ (WT _) (Qa2 (WT _)))
 have Vk:=Qan (Obj.mapSeq (fun l:Array Value=>l.push .none)) hS rfl
 refine wpAny_updateSeq Vk rfl ?_ (by show 1<=sizeLine;decide) (WT _)
 have W9:=Qan (Obj.mapSeq (fun l:Array Value=>l.pop)) Vk rfl
 have TB: ∀b o,b≠s.heap.objs.size->H2.get? b=some o->((H2.update s.heap.objs.size (Obj.mapSeq (fun l:Array Value=>l.push .none))).update s.heap.objs.size (Obj.mapSeq (fun l:Array Value=>l.pop))).get? b=some o:=fun b o hb e=>
  (Z3 _ _ (Ne.symm hb)).trans ((Z3 _ _ (Ne.symm hb)).trans e)
 have hit:H2.get? H.objs.size=some { cls:= .type "dict_keyiterator",data:= .fields #[.ref d, .int 0 0, .int aL.length 0, .int ep 0] }:=by rw[<-JE];exact Zw _ rfl
 have Vl:H.objs.size≠s.heap.objs.size:=by rw[Tw];exact Qcy _
 have W_:d≠H.objs.size:=by rw[Tw];exact ZE (Qbc P8)
 have Xa:s.heap.objs.size∉[H.objs.size,d]:=fun Xb=>by
  rcases Zt.mp Xb with z | z
  ·exact Vl z.symm
  ·exact Tx (U7.mp z)
 refine wpAny_pure ⟨plainId_quiet PySem.F.plain_extend_loop _,codeAny_extend_loopS (Walks.dictKeys (knd:=knd) (A:=A.in1) hh H.objs.size d W_ aL ep).toS hn _ Xa _ aL.length 0 _ _ _ rfl (WT _)
  ⟨⟨_,TB _ _ Vl hit,rfl,rfl⟩,Eg.at' fun o e=>TB d o (Ne.symm Tx) e⟩ W9 (ItemsOf.nil _) fun s' eM c' Rm Xc zl=>?_⟩
 show wpAny _ A (load s.heap.objs.size >>= _) _ _ s'
 refine wpAny_bind (wpAny_load Xc ?_)
 refine wpAny_pure (hQ s' eM (fun b ob e=>Rm.heap b ob (fun hb=>?_) (TB b ob (ZE (ZA e)) (by rw[<-JE];exact U4 _ (by rw[<-hH];exact U4 _ e)))) Rm.gens Rm.drawn Rm.os zl)
 have dq:=ZA e
 rcases Zt.mp hb with h | h
 ·exact absurd dq (h▸Z5 _)
 ·rw[U7.mp h,Tw]at dq;exact absurd dq (Nat.not_lt.mpr (Qbf _))
end
section
variable {X:Cx}
theorem AU {aL:List (Key×V)} {vs:List (Key×Value)} (h:KV aL vs):vs.map (·.1)=aL.map (·.1):=by
 induction h with
 | nil=>rfl
 | cons r _ ih=>rw[ZC,ZC,ih,r.1]
end
end L2
set_option maxHeartbeats 4000000
namespace XL
open PySem PySem.Spec PySem.Calls PyProof.Rows PySem.W
end XL
set_option maxHeartbeats 4000000
namespace L2
open PySem PySem.Spec PyProof.Rows XL
set_option maxHeartbeats 1000000
end L2
namespace PySem
open Sem (wp)
end PySem
namespace PySem
open Sem (wp)
namespace F
end F
end PySem
namespace L2
open PySem PySem.Spec PyProof.Rows
end L2
namespace L2.F2
open PySem PySem.Spec PyProof.Rows
end L2.F2
namespace L2
open PySem PySem.Spec PyProof.Rows
set_option maxHeartbeats 1000000
section
variable {X:Cx}
theorem Ek {i:Nat} (h:(i:Int)<2 ^ 63):Builtin.List.listFitsIndex (i:Int)=true:=by
 unfold Builtin.List.listFitsIndex
 rw[Z0]
 exact ⟨decide_eq_true (by omega),decide_eq_true (by omega)⟩
def HL:V->List V->Hp->VK->Prop:=fun x vs H Q=> ∃(l:Addr) (xs:List V) (i:Nat) (y:V),x= .ref l/\vs=[.int i,y]/\H l=some (.lst xs)/\i<=xs.length/\xs.length<sizeLine/\Q .f_ (upd H l (.lst (xs.take i++y::xs.drop i)))
theorem Cs:MN X "list.insert" HL:=by
 intro pins s σ H x vs v us Q I rx rv h
 obtain ⟨l,xs,i,y,rfl,rfl,hH,hi,hz,q⟩:=h
 cases rx
 obtain ⟨a,b,rfl,⟨t,rfl⟩,rb⟩:=vals2 rv
 obtain ⟨z,aJ,n,r,hl,e⟩:=I.uY hH
 have hn:=gk
 have hf: ¬(!Builtin.List.listFitsIndex (i:Int))=true:=by rw[Ek (by omega)];decide
 have hsz:aJ.toArray.size<=sizeLine:=by rw[WR];omega
 generalize hI:(i:Int)=I' at hf
 have hm:=PySem.AutoSeq1.list_insert_list_int_val_1 l aJ.toArray n I' t b hf hsz
 refine call_meets F.slot_list_insert ⟨_,e,rfl⟩ F.entry_list_insert (F.args_list_insert_3 _ _ _) hm ⟨e,?_⟩
 clear hm
 refine ⟨.f_,_,I.Cc (its':=aJ.take i++b::aJ.drop i) hH e ?_ ?_ ?_,rfl,q⟩
 ·have e1:(if I'<0 then (I'+(aJ.toArray.size:Int)).toNat else min I'.toNat aJ.toArray.size)=i:=by rw[<-hI,if_neg (by omega),U6,WR];omega
  show ((aJ.toArray.extract 0 (if I'<0 then (I'+(aJ.toArray.size:Int)).toNat else min I'.toNat aJ.toArray.size)).push b++aJ.toArray.extract (if I'<0 then (I'+(aJ.toArray.size:Int)).toNat else min I'.toNat aJ.toArray.size))=_
  rw[e1]
  apply Qbt.mp
  simp
  exact ZM (by rw[ZH];exact Ri _)
 ·have h1:Vals (xs.take i) (aJ.take i):=r.take i
  exact h1.append (.cons rb (r.drop i))
 ·rw[U5,ZR,ZG,ZH];omega
end
end L2
namespace L2
open PySem PySem.Spec PyProof.Rows PySem.W
end L2
namespace L2
open PySem PySem.Spec PyProof.Rows PySem.MeetsSeq PySem.SeqAt
end L2
namespace L2
open PySem PySem.Spec PyProof.Rows HT
def TC (K:PySem.W.Frag) (tl:TE):TI:=fun σ H R=>tl σ H fun x H1=> ∃a xs,x= .ref a/\((bu K H1 a xs/\R (Kv K a) H1)\/(aX K H1 a xs/\R (Kw K a) H1))
section
variable {X:Cx} {tg:Expr}
theorem HM (K:PySem.W.Frag) (hK:X.K=K) {l:Expr} {tl:TE} (hl:PE X l tl):PI X tg l (TC K tl):=by
 subst hK
 intro pins s σ H R I h
 refine b8 (hl pins s σ H _ I h) fun v s1 ⟨x,H1,I1,r1,q1⟩=>?_
 obtain ⟨a,xs,e,q⟩:=q1
 subst e
 cases r1
 rcases q with ⟨hq,q⟩ | ⟨hq,q⟩
 ·obtain ⟨aJ,rv,p,hz⟩:=I1.list hq
  refine wpAny_pyIter_list p.isList ?_
  refine ⟨s1.heap.objs.size,[s1.heap.objs.size],_,_,H1,rfl,I1.kept (t':=s1.toks) fun b o e=>U4 _ e,sY a _,⟨_,Zw _ rfl,rfl,rfl⟩,fun b hb=>?_,q⟩
  have e:b=s1.heap.objs.size:=by simpa using hb
  subst e
  exact I1.o4 (Ri _) (I1.bX.fresh (Ri _))
 ·obtain ⟨aJ,rv,p,hz⟩:=I1.tuple hq
  refine wpAny_pyIter_tuple (show s1.heap.IsTuple a aJ.toArray from p) ?_
  refine ⟨s1.heap.objs.size,[s1.heap.objs.size],_,_,H1,rfl,I1.kept (t':=s1.toks) fun b o e=>U4 _ e,qr a _,⟨_,Zw _ rfl,rfl,rfl⟩,fun b hb=>?_,q⟩
  have e:b=s1.heap.objs.size:=by simpa using hb
  subst e
  exact I1.o4 (Ri _) (I1.bX.fresh (Ri _))
end
set_option maxHeartbeats 1000000
theorem vg: ∀a b c:List Int,bc b a=false->bc c b=false->bc c a=false
 | [],[],[],_,_=>rfl
 | [],[],_::_,_,h=>h
 | [],_::_,[],_,_=>rfl
 | [],_::_,_::_,_,_=>rfl
 | _::_,[],_,h,_=>by cases h
 | _::_,_::_,[],_,h=>by cases h
 | x::a,y::b,z::c,h,g=>by
  have h':(if y=x then bc b a else decide (y<x))=false:=h
  have g':(if z=y then bc c b else decide (z<y))=false:=g
  show (if z=x then bc c a else decide (z<x))=false
  by_cases e1:y=x
  ·rw[if_pos e1]at h'
   by_cases e2:z=y
   ·rw[if_pos e2]at g'
    rw[if_pos (e2.trans e1)]
    exact vg a b c h' g'
   ·rw[if_neg e2]at g'
    rw[if_neg fun w=>e2 (w.trans e1.symm), <-e1]
    exact g'
  ·rw[if_neg e1]at h'
   have q1:=of_decide_eq_false h'
   by_cases e2:z=y
   ·rw[if_neg fun w=>e1 (e2.symm.trans w),e2];exact h'
   ·rw[if_neg e2]at g'
    have q2:=of_decide_eq_false g'
    rw[if_neg (by omega)]
    exact decide_eq_false (by omega)
section
variable {X:Cx} {e st:Expr} {te:TE} {ts:TO} {pos p2:Pos}
theorem Ct (l:List Nat) (t tk:Tok):sliceMade (S l) t none none (some (-1,tk))= .str (S l.reverse):=by
 unfold sliceMade
 rw[if_neg (by simp)]
 have e:slicePicked (S l) none none (some (-1,tk))=(List.range (S l).cps.size).reverse:=by
  rw[<-PySem.W.krv_range, <-PySem.W.krv_sliceRange]
  rfl
 rw[e,List.filterMap_reverse,PySem.W.krv_all,gm]
 rfl
def P9 (te:TE) (ts:TO):TE:=fun σ H Q=>te σ H fun x H1=>ts σ H1 fun o H2=>o=some (-1)/\ ∃l,x= .str (S l)/\l.length<=sizeLine/\Q (.str (S l.reverse)) H2
theorem HN (he:PE X e te) (hs:PO X (some st) ts):PE X (.Subscript e (.Slice none none (some st) p2) pos) (P9 te ts):=by
 intro pins s σ H Q I h
 refine Subscript_ (b8 (he pins s σ H _ I h) fun v s1 ⟨x,H1,I1,r1,q1⟩=>?_)
 refine wpAny_Slice ?_
 rw[evalPart_none]
 refine wpAny_pure (wpAny_pure (b8 (hs pins s1 σ H1 _ I1 q1) fun vk s3 ⟨o,H3,I3,pk,eo,l,ex,hz,q3⟩=>?_))
 subst eo ex
 obtain ⟨t,rfl⟩:=r1
 cases pk with
 | int i tk=>
 have I4:Inv X pins σ H3 { s3 with heap:=s3.heap.push { cls:= .type "slice",data:= .fields #[.none, .none, .int (-1) tk] } }:=I3.kept (t':=s3.toks) fun b ob q=>U4 _ q
 show wpAny (model X.prog X.w) X.A (subscriptTail e (.Slice none none (some st) p2) (.str (S l) t) (.ref s3.heap.objs.size)) (EP X pins σ Q) X.xe { s3 with heap:=s3.heap.push { cls:= .type "slice",data:= .fields #[.none, .none, .int (-1) tk] } }
 refine tail_any (ops:=[.str (S l) t, .ref s3.heap.objs.size]) (typeIs_str _ _ _) F.slot_str_getitem.lookup (wpAny_getItem_str_slice (l:=none) (u:=none) (st:=some (-1,tk)) ⟨_,Zw _ rfl,rfl,rfl⟩ rfl ?_) (by with_unfolding_all rfl)
 rw[Ct]
 refine ⟨by rw[du,ZX];exact hz,?_⟩
 exact ⟨.str (S l.reverse),H3,I4.tok _,⟨_,rfl⟩,q3⟩
end
end L2
namespace PySem
open PySem.Spec PyProof.Rows
end PySem
namespace L2
open PySem PySem.Spec PyProof.Rows
set_option maxHeartbeats 4000000
section
variable {X:Cx} {K:PySem.W.Frag} {CX:B8} {k1 k2:Nat} {f1 f2:Addr} {Vm Vn:FuncData} {Vo Vp:List Str} {Rn Ro:Sp} {E:XK} {x f:Str} {p pos pos':Pos} {e o value:Expr} {es:List Expr} {ta tv:TE} {t:TA}
theorem bN (K:PySem.W.Frag) (hK:X.K=K) (he:PE X e ta) (hb:attributeBase e f X.env (eval e X.env)=eval e X.env):PE X (.Attribute e f pos) (OZ K ta f):=by subst hK;exact KH he hb
def El (f1 f2:Addr) (Rn Ro:Sp) (E:XK) (ta:TE) (t:TA):TE:=fun σ H Q=>ta σ H fun v H1=>(v= .ref f1/\t σ H1 fun vs H2=>Rn vs H2 Q E)\/(v= .ref f2/\t σ H1 fun vs H2=>Ro vs H2 Q E)
theorem mm (hf:PE X (.Name x p) ta) (F1:bp X.prog X.w X.K X.mg X.base CX k1 f1 Vm Vo Rn) (GP:fh k1 X.A) (MR:PySem.W.keepIn X.K (.ref f1)=true) (yN:Binds X.K Vm Vo []) (F2:bp X.prog X.w X.K X.mg X.base CX k2 f2 Vn Vp Ro) (AV:fh k2 X.A) (zx:PySem.W.keepIn X.K (.ref f2)=true) (hJ:Binds X.K Vn Vp []) (hx:Passes CX X E)
  (ha:PA X (e::es) t) (he:starEach (e::es) X.env=(false,eval e X.env)::starEach es X.env:=by rfl) (j9:(backTo pos (starEach es X.env)).any (·.1)=false:=by rfl):
  PE X (.Call (.Name x p) (e::es) [] pos) (El f1 f2 Rn Ro E ta t):=by
 intro pins s σ H Q I h
 refine wpAny_Call_Name_kw (b8 (hf pins s σ H _ I h) fun u s1 ⟨v,H1,I1,r,q⟩=>?_)
 rcases q with ⟨rfl,q⟩ | ⟨rfl,q⟩
 ·obtain rfl:u=Value.ref f1:=r
  refine Qco (h₀:=X.base) I1.ok.mod.MK MR (b8 (ha pos pins s1 σ H1 _ I1 q) fun us s2 ⟨vs,H2,I2,r2,q2⟩=>⟨I2.BX,?_⟩) he j9
  exact y_ (dvs:=[]) (ds:=[]) F1 GP yN .nil hx I2 r2 (by rw[ZV];exact q2)
 ·obtain rfl:u=Value.ref f2:=r
  refine Qco (h₀:=X.base) I1.ok.mod.MK zx (b8 (ha pos pins s1 σ H1 _ I1 q) fun us s2 ⟨vs,H2,I2,r2,q2⟩=>⟨I2.BX,?_⟩) he j9
  exact y_ (dvs:=[]) (ds:=[]) F2 AV hJ .nil hx I2 r2 (by rw[ZV];exact q2)
end
set_option maxHeartbeats 4000000
section
variable {prog:Program} {w:World} {A:Around} {E:Value->Shared->Prop} {R:Result->Shared->Prop} {I S:Addr} {fp wr:List Addr} {n:Nat} {P:Nat->Value->Prop} {St:Nat->Heap->Prop} {kw:List (Str×Value)} {bt:Nat->Nat->Bool}
theorem AW:(toString "max"++toString ".loop":String)="max.loop":=by decide
theorem P_ (W:Walks prog w A.in1 I fp wr n P St) (cm:CmpOf prog w A.in1 .Gt P bt) (sf:S∉fp): ∀(m j:Nat) (s:Shared) (b:Value) (c:Nat),n=j+1+m->St (j+1) s.heap->P (argBest bt j) b->s.heap.get? S=some { cls:= .type "list",dict:=none,data:= .seq #[b,b] c,slots:= #[] }->
  (∀v h' tk,P (argBest bt (n - 1)) v->(∀a o,a∉wr->a≠S->s.heap.get? a=some o->h'.get? a=some o)->R (.ok (.ret v)) { s with heap:=h',toks:=tk })->
  codeAny (model prog w) A (.builtin "max.loop" ⟨[.ref I, .none, .ref S],kw⟩) R s:=by
 have sw:S∉wr:=fun z=>sf (W.sub _ z)
 intro m
 induction m with
 | zero=>
  intro j s b c en oG hb hS hR
  have e1:n=j+1:=en
  subst e1
  refine codeAny_builtin Qc7 ?_
  rw[Around.under_plainId Qaq _]
  refine wpAny_bind (m:=seqItems? (.ref S)) (wpAny_seqItems hS rfl ?_)
  refine wpAny_bind (m:=tryCatch (pyNext (.ref I)) _) (wpAny_tryCatch (W.done s _ _ oG fun h1 tk k1=>?_))
  refine wpAny_bind (m:=updateSeq S fun _=> #[]) (wpAny_updateSeq (k1 S _ sw hS) rfl (wpAny_bind (wpAny_letGo (wpAny_pure ?_))))
  exact hR b _ tk hb fun a o aw aS ea=>(Z3 _ _ (Ne.symm aS)).trans (k1 a o aw ea)
 | succ m ih=>
  intro j s b c en oG hb hS hR
  refine codeAny_builtin Qc7 ?_
  rw[Around.under_plainId Qaq _]
  refine wpAny_bind (m:=seqItems? (.ref S)) (wpAny_seqItems hS rfl ?_)
  refine wpAny_bind (m:=tryCatch (pyNext (.ref I)) _) (wpAny_tryCatch (W.item (j+1) s _ _ (by omega) oG fun v h1 tk pv yM k1=>?_))
  have MS:=k1 S _ sw hS
  refine wpAny_bind (m:=tryCatch (holding [v,v] (richCompare .Gt v b >>= _)) _) (wpAny_tryCatch (wpAny_holding (wpAny_bind (cm (j+1) (argBest bt j) v b _ _ _ pv hb (wpAny_bind (wpAny_holding (wpAny_truthy_bool (wpAny_bind (wpAny_letGo (wpAny_pure ?_))))))))))
  cases q:bt (j+1) (argBest bt j)
  ·rw[if_neg (by decide)]
   refine wpAny_bind (wpAny_letGo ?_)
   rw[AW]
   refine wpAny_pure ⟨plainId_quiet Qaq _,ih (j+1) _ b c (by omega) yM (by rw[argBest,q];exact hb) MS fun v' h2 Qa p2 k2=>?_⟩
   exact hR v' h2 Qa p2 fun a o aw aS ea=>k2 a o aw aS (k1 a o aw ea)
  ·rw[if_pos rfl]
   refine wpAny_bind (wpAny_updateSeq MS rfl (wpAny_bind (wpAny_letGo ?_)))
   rw[AW]
   refine wpAny_pure ⟨plainId_quiet Qaq _,ih (j+1) _ v _ (by omega) (W.frame _ _ _ yM fun a af o ea=>?_) (by rw[argBest,q];exact pv) (Qan _ MS rfl) fun v' h2 Qa p2 k2=>?_⟩
   ·exact (Z3 _ _ (fun z:S=a=>sf (z▸af))).trans ea
   ·exact hR v' h2 Qa p2 fun a o aw aS ea=>k2 a o aw aS ((Z3 _ _ (Ne.symm aS)).trans (k1 a o aw ea))
theorem Qb (a d:Value):argsOk "max" ⟨[a],[(Str.ofString "default",d)]⟩:=by unfold argsOk;kernel_rfl
theorem HP {s:Shared} {x d:Value} {Q:Value->Shared->Prop}
  (h:wpAny (model prog w) A.in1 (pyIter x) (fun it s₂=> ∃I fp wr n P St bt,it= .ref I/\Walks prog w A.in1 I fp wr n P St/\St 0 s₂.heap/\(∀b∈fp,b<s₂.heap.objs.size)/\CmpOf prog w A.in1 .Gt P bt/\
   ∀v h' tk,(n=0->v=d)->(0<n->P (argBest bt (n - 1)) v)->(∀b o,b∉wr->s₂.heap.get? b=some o->h'.get? b=some o)->Q v { s₂ with heap:=h',toks:=tk }) E s):
  wpAny (model prog w) A (call (.builtin "max") [x] [(Str.ofString "default",d)]) Q E s:=by
 refine kmk_tree PySem.F.kind_max PySem.F.plain_max PySem.F.entry_max (Qb x d) ?_
 refine wpAny_bind (m:=Builtin.Builtins.bindParams "max" ["key","default"] 0 ⟨[],[(Str.ofString "default",d)]⟩) (wpAny_of_eq (a:=[none,some d]) rfl ?_)
 refine wpAny_bind (wpAny_pure (wpAny_bind (wpAny_mono h (fun it s2 h2=>?_) fun _ _ e=>e)))
 obtain ⟨I,fp,wr,n,P,St,bt,rfl,W,oG,Xf,cm,hQ⟩:=h2
 refine wpAny_bind (wpAny_newObj_type ?_)
 have sf:s2.heap.objs.size∉fp:=fun z=>Z5 _ (Xf _ z)
 have sw:s2.heap.objs.size∉wr:=fun z=>sf (W.sub _ z)
 have hS:(s2.heap.push { cls:= .type "list",data:= .seq #[] }).get? s2.heap.objs.size=some { cls:= .type "list",dict:=none,data:= .seq #[] 0,slots:= #[] }:=Zw _ rfl
 have Qc:=W.frame _ _ (s2.heap.push { cls:= .type "list",data:= .seq #[] }) oG fun b _ o e=>U4 _ e
 have lo: ∀{b o},s2.heap.get? b=some o->b≠s2.heap.objs.size:=fun e=>ZE (ZA e)
 rw[AW]
 refine wpAny_pure ⟨plainId_quiet Qaq _,codeAny_builtin Qc7 ?_⟩
 rw[Around.under_plainId Qaq _]
 refine wpAny_bind (m:=seqItems? (.ref s2.heap.objs.size)) (wpAny_seqItems hS rfl ?_)
 cases n with
 | zero=>
  refine wpAny_bind (m:=tryCatch (pyNext (.ref I)) _) (wpAny_tryCatch (W.done _ _ _ Qc fun h1 tk k1=>?_))
  refine wpAny_bind (wpAny_rule ?_)
  refine wpAny_pure (hQ d h1 tk (fun _=>rfl) (fun z=>absurd z (Z5 _)) fun b o bw e=>k1 b o bw (U4 _ e))
 | succ m=>
  refine wpAny_bind (m:=tryCatch (pyNext (.ref I)) _) (wpAny_tryCatch (W.item 0 _ _ _ (Nat.succ_pos _) Qc fun v h1 tk pv yM k1=>?_))
  have MS:=k1 _ _ sw hS
  refine wpAny_bind (m:=updateSeq s2.heap.objs.size fun _=> #[v,v]) (wpAny_updateSeq MS rfl ?_)
  rw[AW]
  refine wpAny_pure ⟨plainId_quiet Qaq _,P_ W cm sf m 0 _ v _ (by omega) (W.frame _ _ _ yM fun a af o ea=>?_) pv (Qan _ MS rfl) fun v' h2 Qa p2 k2=>?_⟩
  ·exact (Z3 _ _ (fun z:s2.heap.objs.size=a=>sf (z▸af))).trans ea
  ·exact hQ v' h2 Qa (fun z=>by omega) (fun _=>p2) fun b o bw e=>k2 b o bw (lo e) ((Z3 _ _ (Ne.symm (lo e))).trans (k1 b o bw (U4 _ e)))
end
noncomputable def Lu (d:Int):List Int->Int
 | []=>d
 | a::r=>r.foldl (fun x y=>if y>x then y else x) a
noncomputable def fq (l:List Int) (i j:Nat):Bool:=decide (l.getD i 0>l.getD j 0)
theorem mw (l:List Int): ∀n:Nat,n<l.length->l.getD (argBest (fq l) n) 0=((l.drop 1).take n).foldl (fun x y=>if y>x then y else x) (l.getD 0 0)
 | 0,_=>by simp[argBest]
 | n+1,h=>by
  have ih:=mw l n (by omega)
  have e:(l.drop 1).take (n+1)=(l.drop 1).take n++[l.getD (n+1) 0]:=by
   rw[Qdy,Qav,show 1+n=n+1 by omega,WS,K3 h]
   rfl
  rw[e,List.foldl_append, <-ih]
  show l.getD (if fq l (n+1) (argBest (fq l) n)=true then n+1 else argBest (fq l) n) 0=if l.getD (n+1) 0>l.getD (argBest (fq l) n) 0 then l.getD (n+1) 0 else l.getD (argBest (fq l) n) 0
  by_cases z:l.getD (n+1) 0>l.getD (argBest (fq l) n) 0
  ·rw[if_pos (show fq l (n+1) (argBest (fq l) n)=true from decide_eq_true z),if_pos z]
  ·rw[if_neg (show ¬fq l (n+1) (argBest (fq l) n)=true from fun w=>z (of_decide_eq_true w)),if_neg z]
section
variable {X:Cx}
theorem Em {prog:Program} {w:World} {A:Around} {l:List Int} {aJ:List Value} (r:Vals (l.map V.int) aJ):CmpOf prog w A .Gt (fun i v=>aJ.toArray[i]? =some v) (fq l):=by
 intro i j vi vj s Q E hi hj hQ
 have get: ∀{i:Nat} {v:Value},aJ.toArray[i]? =some v-> ∃t,v= .int (l.getD i 0) t:=by
  intro i v h
  have h':aJ[i]? =some v:=by simpa using h
  have hl:i<l.length:=by have:=(K4.mp h').1;rw[<-r.length,MO]at this;exact this
  obtain ⟨u,hu,ru⟩:=r.get (i:=i) (x:=V.int (l.getD i 0)) (by rw[Y5,WS,K3 hl];rfl)
  rw[h']at hu;cases hu
  exact ru
 obtain ⟨t,rfl⟩:=get hi
 obtain ⟨u,rfl⟩:=get hj
 exact gt_int hQ
def Qd (K:PySem.W.Frag) (d:Int) (t:TA):TE:=fun σ H Q=>t σ H fun vs H1=> ∃(p:Addr) (l:List Int),vs=[.ref p]/\bu K H1 p (l.map V.int)/\Q (.int (Lu d l)) H1
theorem HQ {e:Expr} {t:TA} {d:Int} {j:Nat} {kp cp p pos:Pos} (K:PySem.W.Frag) (hK:X.K=K) (hc:X.calm=true) (hg:Gl X "max") (hm:X.mg "max"=none) (ha:PA X [e] t)
  (he:backTo pos (starEach [e] X.env)=[(false,eval e X.env)]:=by rfl):PE X (.Call (.Name "max" p) [e] [⟨some "default", .Constant (.int d) j cp,kp⟩] pos) (Qd K d t):=by
 subst hK
 intro pins s σ H Q I h
 refine wpAny_Call_Name_kw (iE I hg hm boot_max ?_)
 refine callWith_kw (b8 (ha pos pins s σ H _ I h) fun us s1 ⟨vs,H1,I1,r1,q1⟩=>?_) he (by rw[he];rfl)
 obtain ⟨a,l,rfl,hq,q⟩:=q1
 obtain ⟨u,rfl,ru⟩:=vals1 r1
 cases ru
 refine kws_cons (wpAny_Constant_int (kws_nil ?_))
 obtain ⟨aJ,rv,pl,hz⟩:=I1.list hq
 have hlen:aJ.length=l.length:=by rw[<-rv.length,MO]
 have hp:a<s1.heap.objs.size:=by
  obtain ⟨o,n,e,_⟩:=pl
  exact ZA e
 refine HP (wpAny_pyIter_list pl.isList ?_)
 refine ⟨_,_,_,_,_,_,fq l,rfl,Walks.list (A:=X.A.in1) (I1.ok.hd hc) s1.heap.objs.size a (ZE hp) aJ.toArray,⟨⟨_,Zw _ rfl,rfl,rfl⟩,?_⟩,fun b hb=>?_,Em rv,fun v h' tk h0 h1 hk=>?_⟩
 ·obtain ⟨o,ho,hr⟩:=pl.isList
  exact ⟨o,U4 _ ho,hr⟩
 ·show b<(s1.heap.push _).objs.size
  rw[Qce]
  exact (Zt.mp hb).elim (fun z=>z▸Qau _) fun z=>(U7.mp z)▸Qbc hp
 ·have ru:RelV (.int (Lu d l)) v:=by
   cases l with
   | nil=>
    have:=h0 (by rw[WR,hlen];rfl)
    subst this
    exact ⟨_,rfl⟩
   | cons b l=>
    have hn:aJ.toArray.size - 1=l.length:=by rw[WR,hlen];rfl
    have hP:=h1 (by rw[WR,hlen];exact Nat.succ_pos _)
    rw[hn]at hP
    have Xg:aJ[argBest (fq (b::l)) l.length]? =some v:=by simpa using hP
    have hl:argBest (fq (b::l)) l.length<(b::l).length:=Nat.lt_succ_of_le (argBest_lt _ _)
    have e:=mw (b::l) l.length (Qau _)
    rw[show ((b::l).drop 1).take l.length=l from ZM (Ri _),WS,K3 hl]at e
    have e':(b::l)[argBest (fq (b::l)) l.length]=Lu d (b::l):=e
    obtain ⟨u,hu,ru⟩:=rv.get (i:=argBest (fq (b::l)) l.length) (x:=V.int (Lu d (b::l))) (by rw[Y5,K3 hl,e'];rfl)
    rw[Xg]at hu;cases hu
    exact ru
  refine ⟨.int (Lu d l),H1,?_,ru,q⟩
  have I2:Inv X pins σ H1 { s1 with heap:=s1.heap.push { cls:= .type "list_iterator",data:= .fields #[.ref a, .int 0 0] },toks:=s1.toks+1 }:=I1.kept (t':=s1.toks+1) fun b o e=>U4 _ e
  have f:=I1.o4 (H':=H1) (b:=s1.heap.objs.size) (Ri _) I1.fresh
  exact I2.turned (h':=h') (t':=tk) (it:=s1.heap.objs.size) (fun b o hb e=>hk b o (by simpa using hb) e) f.1 f.2.1 f.2.2.2.1 f.2.2.2.2.1 f.2.2.2.2.2
end
set_option maxHeartbeats 1000000
section
variable {X:Cx}
theorem Lv:OM X .Mult (fun x y H Q=> ∃i j,x= .int i/\y= .int j/\He i j/\Q (.int (i*j)) H):=by
 intro pins s σ H x y v u Q I r1 r2 h
 obtain ⟨i,j,rfl,rfl,c,q⟩:=h
 obtain ⟨t,rfl⟩:=r1
 obtain ⟨t',rfl⟩:=r2
 exact imul_int ⟨.int _,H,I.tok _,⟨_,rfl⟩,q⟩ c.ok
theorem HR:OM X .FloorDiv (fun x y H Q=> ∃i j,x= .int i/\y= .int j/\SK i j/\Q (.int (i / j)) H):=by
 intro pins s σ H x y v u Q I r1 r2 h
 obtain ⟨i,j,rfl,rfl,hc,q⟩:=h
 obtain ⟨t,rfl⟩:=r1
 obtain ⟨t',rfl⟩:=r2
 have h1:(0:Int)<j:=hc.1
 have h2:j<1073741824:=hc.2
 exact ifloordiv_int (by omega) (by rw[Int.fdiv_eq_ediv_of_nonneg i (by omega)];exact ⟨.int _,H,I.tok _,⟨_,rfl⟩,q⟩) (.inl (PyProof.noPylong_small (by omega)))
end
theorem xH: ∀{ls:List Int} {aJ:List Value},Vals (ls.map V.int) aJ->IntsAre aJ ls
 | [],_, .nil=> .nil
 | _::_,_, .cons ⟨t,e⟩ h=>e▸ .cons _ t (xH h)
theorem xI: ∀{ls:List Int} {aJ:List Value},IntsAre aJ ls->Vals (ls.map V.int) aJ
 | _,_, .nil=> .nil
 | _,_, .cons n t h=> .cons ⟨t,rfl⟩ (xI h)
section
variable {prog:Program} {w:World} {A:Around} {E:Value->Shared->Prop} {s:Shared}
theorem vh {Q:Value->Shared->Prop} (hh:A.handled=none) (d:Addr) (aL:List (Key×Value)) (ep:Nat) (ls:List Int) (hk:aL.map (·.1)=ls.map fun l=>Sum.inl l) (hd:(d==sysModules)=false) (hm:s.heap.DictAt (cg prog w) d aL ep) (WZ:aL.length<64)
  (h: ∀(h1 h':Heap) (tk:Nat) (a:Addr) (out:Array Value) (Dj:List Int) (e:Nat),(∀b o,s.heap.get? b=some o->h1.get? b=some o)->(∀b o,h1.get? b=some o->h'.get? b=some o)->a=h1.objs.size->h'.get? a=some (seqObj "list" out e)->IntsAre out.toList Dj->Dj.Perm ls->(Dj.Pairwise fun a b=> ¬b<a)->Q (.ref a) { s with heap:=h',toks:=tk }):
  wpAny (model prog w) A (call (.builtin "sorted") [.ref d]) Q E s:=by
 refine Calls.call_function_entry kind_sorted plain_sorted entry_sorted (args_sorted1 _) ?_
 unfold Builtin.«sorted»
 refine wpAny_bind (m:=checkCount "sorted" 1 1 _) (wpAny_pure ?_)
 have oI:(10000:Nat)<sizeLine:=by decide
 refine wpAny_bind (vf (A:=A.in1) (show A.in1.handled=none from hh) d aL ep hd hm (by omega) (fun s' acc Xh hg Dk ho zl=>?_))
 obtain ⟨h1,h2⟩:=zl
 have hlen:aL.length=ls.length:=by have:=congrArg List.length hk;simpa using this
 have rv:Vals (ls.map V.int) acc.toList:=by
  have key: ∀(ls:List Int) (vs:List Value),vs.length=ls.length->(∀(j:Nat) (v:Value),vs[j]? =some v-> ∃l t,ls[j]? =some l/\v=Value.int l t)->Vals (ls.map V.int) vs:=by
   intro ls
   induction ls with
   | nil=>intro vs hl _;have:vs=[]:=Qcd hl;subst this;exact .nil
   | cons l ls ih=>
    intro vs hl hv
    cases vs with
    | nil=>simp at hl
    | cons v vs=>
     obtain ⟨l',t,e1,e2⟩:=hv 0 v rfl
     have D0:l=l':=by simpa using e1
     subst D0
     refine .cons ⟨t,e2⟩ (ih vs (by simpa using hl) fun j v' e=>?_)
     obtain ⟨l',t',g1,g2⟩:=hv (j+1) v' (by simpa using e)
     exact ⟨l',t',by simpa using g1,g2⟩
  refine key ls acc.toList (by simpa [<-hlen]using h1) fun j v e=>?_
  obtain ⟨k,x,e1,e2⟩:=h2 j v (by simpa using e)
  have e3:(aL.map (·.1))[j]? =some k:=by rw[Y5,e1];rfl
  rw[hk,Y5]at e3
  cases e4:ls[j]? with
  | none=>rw[e4]at e3;cases e3
  | some l=>
   rw[e4]at e3
   have e5:k=Sum.inl l:=(Zy e3).symm
   subst e5
   obtain ⟨t,e6⟩:=Value.isInt_shape (k:=l) (v:=v) e2
   exact ⟨l,t,rfl,e6⟩
 have hS:=xH rv
 have hn:acc.toList.length=ls.length:=by rw[<-rv.length,MO]
 refine wpAny_bind (wpAny_newList ?_)
 have G_:(s'.heap.push (seqObj "list" acc.toList.toArray 0)).get? s'.heap.objs.size=some (seqObj "list" acc.toList.toArray 0):=Zw _ rfl
 show wpAny _ _ _ _ _ { s' with heap:=s'.heap.push (seqObj "list" acc.toList.toArray 0) }
 refine wpAny_bind (wpAny_holding (wpAny_call_entry slot_list_sort ⟨_,G_,rfl⟩ entry_list_sort (list_sort_tree G_ hS (by omega) fun out Dj k1 k2 k3=>⟨_,rfl,?_⟩) (args_list_sort _)))
 obtain ⟨e,he⟩:=sortedHeap_at (out:=out) G_
 refine wpAny_pure ⟨_,rfl,?_⟩
 have es: ∀hh:Heap,({ s' with heap:=hh }:Shared)={ s with heap:=hh,toks:=s'.toks }:=fun hh=>by
  cases s;cases s'
  simp only at hg Dk ho
  subst hg Dk ho
  rfl
 show Q (.ref s'.heap.objs.size) { s' with heap:=sortedHeap (s'.heap.push (seqObj "list" acc.toList.toArray 0)) s'.heap.objs.size acc.toList (out) }
 rw[es]
 refine h s'.heap _ _ _ _ Dj e Xh (fun b o hb=>?_) rfl he k1 k2 (k3.imp fun h=>Int.not_lt.mpr h)
 have dq:=ZA hb
 rw[sortedHeap_old (ZE dq) (by rw[size_push'];exact Qbc dq)]
 exact U4 _ hb
end
section
variable {X:Cx}
def HS:List V->Hp->VK->Prop:=fun xs H Q=> ∃(d:Addr) (aL:List (Key×V)) (ls:List Int),xs=[.ref d]/\H d=some (.dK aL)/\aL.map (·.1)=(ls.map fun l=>Sum.inl l)/\ls.length<64/\ ∀(q:Addr) (ms:List Int),H q=none->ms.Perm ls->(ms.Pairwise fun a b=> ¬b<a)->Q (.ref q) (upd H q (.lst (ms.map V.int)))
theorem sH (hc:X.calm=true):dZ X (.builtin "sorted") HS:=by
 intro pins s σ H xs us Q I r h
 obtain ⟨d,aL,ls,rfl,hd,hk,hn,q⟩:=h
 obtain ⟨u,rfl,ru⟩:=vals1 r
 cases ru
 obtain ⟨hz,TF,vs,kv,o,es,ep,e1,e2,e3,e4,e5,e6⟩:=I.bX d _ hd
 have hlen:vs.length=ls.length:=by
  have a1:=congrArg List.length (AU kv)
  have a2:=congrArg List.length hk
  simp only[MO]at a1 a2
  omega
 refine vh (s:=s) (I.ok.hd hc) d vs ep ls ((AU kv).trans hk) TF ⟨o,es,e1,e2,e3,e4,e5,e6⟩ (by omega) fun h1 h' tk a out Dj e k1 k2 ea he g1 g2 g3=>?_
 have xq:=g2
 have hv:=xI g1
 have pw:=g3
 have I1:Inv X pins σ H { s with heap:=h1,toks:=tk }:=I.kept k1
 have hsz:(10000:Nat)<sizeLine:=by decide
 have I2:Inv X pins σ (upd H a (.lst (Dj.map V.int))) { s with heap:=h',toks:=tk }:=
  I1.laid (t':=tk) (a:=a) (o:= .lst (Dj.map V.int)) k2 (by rw[ea];exact Ri _) ⟨by rw[MO,xq.length_eq];omega,out.toList,e,hv,by simpa [seqObj]using he⟩
 exact ⟨.ref a,_,I2,rfl,q _ _ (I1.bX.fresh (by rw[ea];exact Ri _)) xq pw⟩
end
set_option maxHeartbeats 1000000
end L2
set_option maxHeartbeats 4000000
namespace My
open PySem PySem.Spec PyProof.Rows L2 XL
noncomputable def bg:List Nat:=[97,98,99,100,101,102,103,104,105,106,107,108,109,110,111,112,113,114,115,116,117,118,119,120,121,122]
noncomputable def lh:List Nat:=[65,66,67,68,69,70,71,72,73,74,75,76,77,78,79,80,81,82,83,84,85,86,87,88,89,90]
def Lt (c:Nat):Prop:=c∈bg\/c∈lh
noncomputable instance (c:Nat):Decidable (Lt c):=by unfold Lt;infer_instance
noncomputable def aI (c:Nat):Nat:=if aD c=true then PyProof.Rows.up1 c else PyProof.Rows.lo1 c
theorem vm: ∀c∈bg++lh,c<128/\aI c∈bg++lh/\aI (aI c)=c/\aI c≠c:=by decide+kernel
theorem Lt.mem {c:Nat} (h:Lt c):c∈bg++lh:=Zx.mpr h
theorem Lt.lt {c:Nat} (h:Lt c):c<128:=(vm c h.mem).1
theorem Lt.aI {c:Nat} (h:Lt c):Lt (aI c):=Zx.mp (vm c h.mem).2.1
theorem aT {c:Nat} (h:Lt c):aI (aI c)=c:=(vm c h.mem).2.2.1
theorem iM {c:Nat} (h:Lt c):aI c≠c:=(vm c h.mem).2.2.2
theorem gG {a b:Nat} (ha:Lt a) (hb:Lt b) (e:My.aI a=My.aI b):a=b:=by rw[<-aT ha,e,aT hb]
theorem xJ: ∀c∈bg,o6 lh ((bg.idxOf c:Nat):Int)=some (aI c):=by decide+kernel
theorem Cu: ∀c∈lh,o6 bg ((lh.idxOf c:Nat):Int)=some (aI c):=by decide+kernel
noncomputable def eK (l:List Nat):List Nat:=(l.map aI).reverse
def aR (b:Addr) (H H':Hp):Prop:= ∀c o,H c=some o->c≠b->H' c=some o
theorem aR.refl (b:Addr) (H:Hp):aR b H H:=fun _ _ h _=>h
theorem aR.trans {b:Addr} {H H1 H2:Hp} (x:aR b H H1) (y:aR b H1 H2):aR b H H2:=fun c o h n=>y c o (x c o h n) n
theorem aR.of {b:Addr} {H H':Hp} (x:ak H H'):aR b H H':=fun c o h _=>x c o h
theorem aR.upd (b:Addr) (H:Hp) (o:HO):aR b H (upd H b o):=fun c o h n=>by rw[au n];exact h
theorem ak.upd {H:Hp} {p:Addr} {o:HO} (h:H p=none):ak H (L2.upd H p o):=fun c u e=>by rw[au (aq e h)];exact e
def cV (H:Hp) (b:Addr):Prop:= ∃x y:Int,H b=some (.lst [.int x, .int y])
theorem cV.same {H H':Hp} {b:Addr} (h:cV H b) (s:ak H H'):cV H' b:=let ⟨x,y,e⟩:=h;⟨x,y,s _ _ e⟩
structure Yd (y:List Nat):Prop where
 nd:y.Nodup
 lt: ∀c∈y,Lt c
 cl: ∀c∈y,aI c∈y
def oN (_:PySem.W.Frag):Sp:=fun vs H Q _=> ∃c,vs=[.str (S [c])]/\c<128/\Q (.str (S [aI c])) H
theorem vn {K:PySem.W.Frag} {vs:List V} {H:Hp} {Q:VK} {E:XK} (h:oN K vs H Q E):vs.length=1:=by obtain ⟨c,rfl,_⟩:=h;rfl
def tU (_:PySem.W.Frag):Sp:=fun vs H Q _=> ∃c,vs=[.str (S [c])]/\Lt c/\Q (.str (S [aI c])) H
theorem zE {K:PySem.W.Frag} {vs:List V} {H:Hp} {Q:VK} {E:XK} (h:tU K vs H Q E):vs.length=1:=by obtain ⟨c,rfl,_⟩:=h;rfl
def tV (_:PySem.W.Frag):Sp:=fun vs H Q _=> ∃l:List Nat,vs=[.str (S l)]/\(∀c∈l,c<128)/\l.length<=1000/\ ∀H',ak H H'->Q (.str (S (eK l))) H'
theorem zF {K:PySem.W.Frag} {vs:List V} {H:Hp} {Q:VK} {E:XK} (h:tV K vs H Q E):vs.length=1:=by obtain ⟨c,rfl,_⟩:=h;rfl
def AX (K:PySem.W.Frag):Sp:=fun vs H Q _=> ∃(a:Addr) (ns:List Int) (k:Nat),vs=[.ref a, .int k]/\bu K H a (ns.map V.int)/\k<=1000/\ ∀b H',H b=none->cV H' b->ak H H'->Q (.ref b) H'
theorem En {K:PySem.W.Frag} {vs:List V} {H:Hp} {Q:VK} {E:XK} (h:AX K vs H Q E):vs.length=2:=by obtain ⟨a,ns,k,rfl,_⟩:=h;rfl
def xK (_:PySem.W.Frag):Sp:=fun vs H Q _=> ∃(b:Addr) (m:Int),vs=[.ref b, .int m]/\cV H b/\1<=m/\m<1000000/\ ∀(r:Nat) H',(r:Int)<m->cV H' b->aR b H H'->Q (.int r) H'
theorem Cv {K:PySem.W.Frag} {vs:List V} {H:Hp} {Q:VK} {E:XK} (h:xK K vs H Q E):vs.length=2:=by obtain ⟨b,m,rfl,_⟩:=h;rfl
def xM (_:PySem.W.Frag):Sp:=fun vs H Q _=> ∃(b:Addr) (tR top:Nat),vs=[.ref b, .int tR, .int top]/\cV H b/\1<=tR/\tR<=top/\top<=8/\ ∀(y:List Nat) H',Yd y->2*tR<=y.length->y.length<=2*top->cV H' b->aR b H H'->Q (.str (S y)) H'
theorem Cw {K:PySem.W.Frag} {vs:List V} {H:Hp} {Q:VK} {E:XK} (h:xM K vs H Q E):vs.length=3:=by obtain ⟨b,m,t,rfl,_⟩:=h;rfl
def nJ (K:PySem.W.Frag):Sp:=fun vs H Q _=> ∃(a:Addr) (ns:List Int),vs=[.ref a]/\bu K H a (ns.map V.int)/\ns.length<=63/\ ∀H',Q (.bl true) H'
theorem HU {K:PySem.W.Frag} {vs:List V} {H:Hp} {Q:VK} {E:XK} (h:nJ K vs H Q E):vs.length=1:=by obtain ⟨b,m,rfl,_⟩:=h;rfl
theorem tW: ∀l:List Nat,(l.map fun c=>[c]).flatten=l
 | []=>rfl
 | c::l=>by rw[ZC,Qbm,tW l];rfl
theorem Cy: ∀l:List Nat,((l.map fun c=>[c]).map List.length).sum=l.length
 | []=>rfl
 | c::l=>by
  rw[ZC,ZC,Qa0,Cy l]
  show 1+l.length=l.length+1
  omega
theorem hV (l:List Nat):dX l=(l.map fun c=>[c]).map fun l=>V.str (S l):=by unfold dX;rw[Qac];rfl
theorem AY (l:List Nat):(dX l).reverse=dX l.reverse:=by unfold dX;rw[Qbs]
theorem ft (l:List Nat) (c:Nat):dX l++[V.str (S [c])]=dX (l++[c]):=by unfold dX;rw[WQ];rfl
theorem take_snoc {α:Type} {l:List α} {i:Nat} {x:α} (h:l[i]? =some x):l.take i++[x]=l.take (i+1):=by rw[Qdy,h];rfl
theorem AZ {ns:List Int} {i:Nat} (h:i<ns.length): ∃z,(ns.map V.int)[i]? =some (V.int z):=⟨ns[i],by rw[Y5,K3 h];rfl⟩
theorem gH {σ:L2.St} {H:Hp} {A B:Hp->Prop} (h:A H):Po σ H fun b H3=>if b=true then A H3 else B H3:=by
 show (if true=true then A H else B H)
 rw[if_pos rfl]
 exact h
theorem zG (b:Bool) (z:Int): ∃y,o6 [V.int 0,V.int z] (if b=true then 1 else 0)=some (V.int y):=by
 cases b
 ·exact ⟨0,rfl⟩
 ·exact ⟨z,rfl⟩
theorem lj {α:Type}: ∀{l:List α} {i:Nat} {x:α},l[i]? =some x->(x::l.eraseIdx i).Perm l
 | [],i,x,h=>by simp at h
 | a::l,0,x,h=>by
  have:a=x:=by simpa using h
  subst this
  exact List.Perm.refl _
 | a::l,i+1,x,h=>by
  have ih:=lj (l:=l) (i:=i) (x:=x) (by simpa using h)
  rw[Qbz]
  exact (List.Perm.swap a x _).trans (List.Perm.cons a ih)
theorem tX (l:List Nat) (i:Nat):(dX l).eraseIdx i=dX (l.eraseIdx i):=by
 unfold dX
 induction l generalizing i with
 | nil=>rfl
 | cons a l ih=>
  cases i with
  | zero=>rfl
  | succ i=>rw[ZC,Qbz,ih,Qbz,ZC]
theorem Eo {l:List Nat} {i:Nat} (h:i<l.length):(dX l)[i]? =some (V.str (S [l[i]])):=by unfold dX;rw[Y5,K3 h];rfl
theorem HV (a b:List Nat):dX a++dX b=dX (a++b):=by unfold dX;rw[WQ]
theorem Cz: ∀c∈bg,aI c∉bg:=by decide+kernel
theorem CA:bg.Nodup:=by decide+kernel
theorem Yd.perm {a b:List Nat} (h:Yd a) (p:a.Perm b):Yd b:=
 ⟨p.nodup_iff.mp h.nd,fun c hc=>h.lt c (p.mem_iff.mpr hc),fun c hc=>p.mem_iff.mp (h.cl c (p.mem_iff.mpr hc))⟩
structure Lw (i:Nat) (L E:List Nat):Prop where
 yd:Yd E
 nd:L.Nodup
 sm: ∀c∈L,c∈bg
 ap: ∀c∈L,c∉E
 ll:L.length=26 - i
 el:E.length=2*i
theorem Lw.start:Lw 0 bg []:=⟨⟨Qdj,fun _ h=>absurd h Zu,fun _ h=>absurd h Zu⟩,CA,fun _ h=>h,fun _ _ h=>absurd h Zu,rfl,rfl⟩
theorem Lw.turn {i r:Nat} {L E:List Nat} (w:Lw i L E) (hi:i<26) (hr:r<L.length):Lw (i+1) (L.eraseIdx r) (E++[L[r],aI L[r]]):=by
 have hp:=lj (l:=L) (K3 hr)
 have hm:L[r]∈L:=ZT hr
 have hs:=w.sm _ hm
 have hl:Lt L[r]:= .inl hs
 have Rp:=hp.nodup_iff.mpr w.nd
 have sub: ∀c∈L.eraseIdx r,c∈L:=fun c hc=>hp.mem_iff.mp (Zs _ hc)
 have Vq:=w.ap _ hm
 have Xi:aI L[r]∉E:=fun z=>Vq (by have:=w.yd.cl _ z;rwa [aT hl]at this)
 refine ⟨⟨?_,fun c hc=>?_,fun c hc=>?_⟩,(Z6.mp Rp).2,fun c hc=>w.sm c (sub c hc),fun c hc hE=>?_,?_,?_⟩
 ·rw[Qaj]
  refine ⟨w.yd.nd,?_,fun a ha b hb z=>?_⟩
  ·rw[Z6]
   refine ⟨fun z=>(iM hl) (U7.mp z).symm,Z6.mpr ⟨Zu,Qdj⟩⟩
  ·subst z
   rcases Zt.mp hb with z | z
   ·exact Vq (z▸ha)
   ·exact Xi (U7.mp z▸ha)
 ·rcases Zx.mp hc with z | z
  ·exact w.yd.lt c z
  ·rcases Zt.mp z with z | z
   ·rw[z];exact hl
   ·rw[U7.mp z];exact hl.aI
 ·rcases Zx.mp hc with z | z
  ·exact Qbp _ (w.yd.cl c z)
  ·refine ZK _ ?_
   rcases Zt.mp z with z | z
   ·rw[z];exact Zs _ (U7.mpr rfl)
   ·rw[U7.mp z,aT hl];exact Zv
 ·rcases Zx.mp hE with z | z
  ·exact w.ap c (sub c hc) z
  ·rcases Zt.mp z with z | z
   ·exact (Z6.mp Rp).1 (z▸hc)
   ·have e:c=aI L[r]:=U7.mp z
    exact Cz _ hs (e▸w.sm c (sub c hc))
 ·have:=hp.length_eq
  rw[ZR,w.ll]at this
  omega
 ·rw[U5,w.el]
  show 2*i+2=_
  omega
theorem aR.fK {b p:Addr} {H H':Hp} {o:HO} (h:aR b H H') (n:H p=none):aR b H (L2.upd H' p o):=fun c u e z=>by rw[au (aq e n)];exact h c u e z
theorem cV.fK {b p:Addr} {H:Hp} {o:HO} (h:cV H b) (n:p≠b):cV (L2.upd H p o) b:=let ⟨x,y,e⟩:=h;⟨x,y,by rw[au (Ne.symm n)];exact e⟩
theorem aR.none {b p:Addr} {H H':Hp} (h:aR b H H') (n:H' p=none) (z:p≠b):H p=none:=by
 cases q:H p with
 | none=>rfl
 | some o=>rw[h p o q z]at n;cases n
theorem cV.ne {b p:Addr} {H:Hp} (h:cV H b) (n:H p=none):p≠b:=fun z=>by obtain ⟨x,y,e⟩:=h;rw[<-z,n]at e;cases e
theorem HW {c:Bool} {A B:Prop} (h:c=false) (hB:B):if c=true then A else B:=by rw[h];exact zi hB
theorem Qe {c:Bool} {A B:Prop} (h:c=true) (hA:A):if c=true then A else B:=by rw[h];exact DT hA
theorem cn (l:List Nat):(eK l).length=l.length:=by unfold eK;rw[ZX,MO]
theorem HX {l:List Nat} (h: ∀c∈l,Lt c):eK (eK l)=l:=by
 unfold eK
 rw[Qbs,List.reverse_reverse,Qac]
 have: ∀c∈l,(aI ∘ aI) c=c:=fun c hc=>aT (h c hc)
 calc l.map (aI ∘ aI)=l.map id:=Qbe this
  _=l:=Qd8 l
theorem Ep {l:List Nat} (h: ∀c∈l,Lt c): ∀c∈l,c<128:=fun c hc=>(h c hc).lt
theorem xN (a:List Nat):a.take (dX a).length=a:=by rw[bf];exact ZM (Ri _)
theorem aR.same {b:Addr} {H H2 H3:Hp} (n:H b=Option.none) (s:ak H H2) (t:aR b H2 H3):ak H H3:=fun c o e=>t c o (s c o e) (aq e n)
theorem aR.after {p:Addr} {H H1 H2:Hp} (s:aR p H H1) (t:ak H1 H2):aR p H H2:=fun c o e z=>t c o (s c o e z)
noncomputable def iN (ws:List (List Nat)):List V:=ws.map fun l=>V.str (S l)
theorem bH (ws:List (List Nat)):(iN ws).length=ws.length:=by unfold iN;rw[MO]
theorem qQ (ws:List (List Nat)) (l:List Nat):iN ws++[V.str (S l)]=iN (ws++[l]):=by unfold iN;rw[WQ];rfl
theorem iO {ws:List (List Nat)} {i:Nat} (h:i<ws.length):(iN ws)[i]? =some (V.str (S ws[i])):=by unfold iN;rw[Y5,K3 h];rfl
noncomputable def fU (st:List Nat) (c:Nat):List Nat:=if st.getLast? =some (aI c) then st.dropLast else st++[c]
noncomputable def red (l:List Nat):List Nat:=l.foldl fU []
def zH:List Nat->Prop
 | []=>True
 | [_]=>True
 | a::b::r=>a≠aI b/\zH (b::r)
theorem zH.init: ∀{l:List Nat} {c:Nat},zH (l++[c])->zH l/\l.getLast?≠ some (aI c)
 | [],_,_=>⟨trivial,by simp⟩
 | [a],c,h=>⟨trivial,fun z=>h.1 (by simpa using z)⟩
 | a::b::r,c,h=>by
  have ih:=zH.init (l:=b::r) (c:=c) h.2
  exact ⟨⟨h.1,ih.1⟩,by simpa using ih.2⟩
theorem snoc_cases (l:List Nat):l=[]\/ ∃m a,l=m++[a]:=by
 by_cases h:l=[]
 ·exact .inl h
 ·exact .inr ⟨l.dropLast,l.getLast h,(List.dropLast_concat_getLast h).symm⟩
theorem zH.left: ∀{m l:List Nat},zH (m++l)->zH m
 | [],_,_=>trivial
 | [_],_,_=>trivial
 | a::b::r,l,h=>⟨h.1,zH.left (m:=b::r) (l:=l) h.2⟩
theorem CB {st:List Nat} {c d:Nat} (h:d∈fU st c):d∈st\/d=c:=by
 unfold fU at h
 by_cases e:st.getLast? =some (aI c)
 ·rw[if_pos e]at h
  exact .inl (List.dropLast_subset _ h)
 ·rw[if_neg e]at h
  rcases Zx.mp h with z | z
  ·exact .inl z
  ·exact .inr (U7.mp z)
theorem fold_same: ∀(l st:List Nat),zH (st++l)->l.foldl fU st=st++l
 | [],st,_=>by simp
 | c::l,st,h=>by
  have h':zH ((st++[c])++l):=by rw[Qak];exact h
  have h2:=(zH.left h').init.2
  rw[Qch]
  have:fU st c=st++[c]:=by unfold fU;rw[if_neg h2]
  rw[this,fold_same l (st++[c]) h',Qak]
  rfl
theorem Er {l:List Nat} (h:zH l):red l=l:=by
 exact fold_same l [] h
theorem fold_lt: ∀(l st:List Nat),(∀c∈l,Lt c)->(∀c∈st,Lt c)-> ∀c∈l.foldl fU st,Lt c
 | [],_,_,h=>h
 | a::l,st,h1,h2=>fold_lt l _ (fun c hc=>h1 c (Zs _ hc)) fun c hc=>(CB hc).elim (h2 c) fun z=>z▸h1 a Zv
theorem Ly {l:List Nat} (h: ∀c∈l,Lt c): ∀c∈red l,Lt c:=fold_lt l [] h fun _ h=>absurd h Zu
theorem CC (st:List Nat) (c:Nat):(fU st c).length<=st.length+1:=by
 unfold fU
 by_cases e:st.getLast? =some (aI c)
 ·rw[if_pos e,List.length_dropLast];omega
 ·rw[if_neg e,U5];exact Ri _
theorem xO: ∀(l st:List Nat),(l.foldl fU st).length<=st.length+l.length
 | [],_=>Ri _
 | c::l,st=>by
  have:=xO l (fU st c)
  have h2:=CC st c
  rw[Qch,ZR]
  omega
theorem mB (l:List Nat):(red l).length<=l.length:=by
 have:=xO l []
 rw[Qeb,Qcl]at this
 exact this
theorem Es {l:List Nat} {i c:Nat} (h:l[i]? =some c):red (l.take (i+1))=fU (red (l.take i)) c:=by
 unfold red
 rw[<-take_snoc h,List.foldl_append]
 rfl
theorem Et: ∀{l:List Nat},(∀k a b,l[k]? =some a->l[k+1]? =some b->a≠aI b)->zH l
 | [],_=>trivial
 | [_],_=>trivial
 | a::b::r,h=>⟨h 0 a b rfl rfl,Et (l:=b::r) fun k x y h1 h2=>h (k+1) x y (by simpa using h1) (by simpa using h2)⟩
noncomputable def Dm (l:List Nat) (s e:Nat):List Nat:=(l.drop s).take (e - s)
noncomputable def strip:Nat->List Nat->List Nat
 | 0,l=>l
 | n+1,l=>match l with
  | []=>[]
  | [a]=>[a]
  | a::b::r=>if a=aI ((b::r).getLast (by simp)) then strip n (b::r).dropLast else a::b::r
theorem fu: ∀(n:Nat) {l:List Nat},l.length<2->strip n l=l
 | 0,_,_=>rfl
 | _+1,[],_=>rfl
 | _+1,[_],_=>rfl
 | _+1,_::_::_,h=>by simp at h;omega
theorem mC (l:List Nat) (y:Nat):(l++[y]).getLast (by simp)=y:=by simp
theorem strip_go (n:Nat) {a y:Nat} {m:List Nat} (h:a=aI y):strip (n+1) (a::(m++[y]))=strip n m:=by
 cases m with
 | nil=>
  show (if a=aI (([y]:List Nat).getLast (by simp)) then strip n ([y]:List Nat).dropLast else _)=strip n []
  rw[if_pos (by simpa using h)]
  rfl
 | cons b r=>
  show (if a=aI ((b::(r++[y])).getLast (by simp)) then strip n (b::(r++[y])).dropLast else _)=strip n (b::r)
  have e1:(b::(r++[y])).getLast (by simp)=y:=mC (b::r) y
  have e2:(b::(r++[y])).dropLast=b::r:=by
   have:b::(r++[y])=(b::r)++[y]:=rfl
   rw[this,Qdk]
  rw[if_pos (by rw[e1];exact h),e2]
theorem strip_stop (n:Nat) {a y:Nat} {m:List Nat} (h:a≠aI y):strip n (a::(m++[y]))=a::(m++[y]):=by
 cases n with
 | zero=>rfl
 | succ n=>
  cases m with
  | nil=>
   show (if a=aI (([y]:List Nat).getLast (by simp)) then _ else _)=_
   rw[if_neg (by simpa using h)]
   rfl
  | cons b r=>
   show (if a=aI ((b::(r++[y])).getLast (by simp)) then _ else _)=_
   have e1:(b::(r++[y])).getLast (by simp)=y:=mC (b::r) y
   rw[if_neg (by rw[e1];exact h)]
   rfl
theorem Eu {l:List Nat} (h:2<=l.length): ∃a m y,l=a::(m++[y]):=by
 cases l with
 | nil=>simp at h
 | cons a r=>
  rcases snoc_cases r with rfl | ⟨m,y,rfl⟩
  ·simp at h
  ·exact ⟨a,m,y,rfl⟩
theorem qR: ∀(n:Nat) (l:List Nat) (k:Nat),l.length<=n->strip (n+k) l=strip n l
 | 0,l,k,h=>by rw[fu _ (by omega),fu _ (by omega)]
 | n+1,l,k,h=>by
  by_cases h2:l.length<2
  ·rw[fu _ h2,fu _ h2]
  ·obtain ⟨a,m,y,rfl⟩:=Eu (l:=l) (by omega)
   have hm:m.length<=n:=by simp at h;omega
   by_cases e:a=aI y
   ·have:n+1+k=(n+k)+1:=by omega
    rw[this,strip_go _ e,strip_go _ e,qR n m k hm]
   ·rw[strip_stop _ e,strip_stop _ e]
noncomputable def core (l:List Nat):List Nat:=strip l.length l
theorem A0 {a y:Nat} {m:List Nat} (h:a=aI y):core (a::(m++[y]))=core m:=by
 unfold core
 have:(a::(m++[y])).length=(m.length+1)+1:=by simp
 rw[this,strip_go _ h,qR _ _ _ (Ri _)]
theorem nP {a y:Nat} {m:List Nat} (h:a≠aI y):core (a::(m++[y]))=a::(m++[y]):=strip_stop _ h
theorem iP {l:List Nat} (h:l.length<2):core l=l:=fu _ h
theorem xP {P:List Nat->List Nat->Prop} (h1: ∀l,l.length<2->P l l) (h2: ∀a m y,a≠aI y->P (a::(m++[y])) (a::(m++[y]))) (h3: ∀a m y r,a=aI y->P m r->P (a::(m++[y])) r): ∀(n:Nat) (l:List Nat),l.length<=n->P l (core l)
 | 0,l,h=>by rw[iP (by omega)];exact h1 l (by omega)
 | n+1,l,h=>by
  by_cases hl:l.length<2
  ·rw[iP hl];exact h1 l hl
  ·obtain ⟨a,m,y,rfl⟩:=Eu (l:=l) (by omega)
   by_cases e:a=aI y
   ·rw[A0 e]
    exact h3 a m y _ e (xP h1 h2 h3 n m (by simp at h;omega))
   ·rw[nP e];exact h2 a m y e
theorem xQ (l:List Nat):(core l).length<=l.length:=
 xP (P:=fun l r=>r.length<=l.length) (fun _ _=>Ri _) (fun _ _ _ _=>Ri _) (fun a m y r _ k=>by simp;omega) l.length l (Ri _)
theorem Lz {l:List Nat} {s e:Nat} (h1:s+2<=e) (h2:e<=l.length):Dm l s e=l[s]::(Dm l (s+1) (e - 1)++[l[e - 1]]):=by
 unfold Dm
 rw[Qaa (by omega)]
 have e1:e - s=(e - 1 - (s+1))+1+1:=by omega
 rw[e1,List.take_succ_cons,Qdy,Qav]
 have e2:s+1+(e - 1 - (s+1))=e - 1:=by omega
 rw[e2,K3 (by omega)]
 rfl
theorem HY {l:List Nat} {s e:Nat} (h2:e<=l.length):(Dm l s e).length=e - s:=by unfold Dm;rw[ZG,ZH];omega
theorem HZ (l:List Nat):Dm l 0 l.length=l:=by unfold Dm;simp
def mD (_:PySem.W.Frag):Sp:=fun vs H Q _=> ∃l:List Nat,vs=[.str (S l)]/\(∀c∈l,Lt c)/\l.length<=1000/\ ∀H',ak H H'->Q (.str (S (red l))) H'
theorem sI {K:PySem.W.Frag} {vs:List V} {H:Hp} {Q:VK} {E:XK} (h:mD K vs H Q E):vs.length=1:=by obtain ⟨c,rfl,_⟩:=h;rfl
def oO (_:PySem.W.Frag):Sp:=fun vs H Q _=> ∃l:List Nat,vs=[.str (S l)]/\(∀c∈l,Lt c)/\l.length<=1000/\ ∀H',ak H H'->Q (.str (S (core (red l)))) H'
theorem vp {K:PySem.W.Frag} {vs:List V} {H:Hp} {Q:VK} {E:XK} (h:oO K vs H Q E):vs.length=1:=by obtain ⟨c,rfl,_⟩:=h;rfl
theorem gn {α:Type} (l:List α) (k:Nat):cut l none (some (k:Int))=l.take k:=by
 unfold cut
 rw[HT.lY,HT.gE,List.drop_zero,Nat.sub_zero]
 by_cases h:k<=l.length
 ·rw[Qal h]
 ·rw[Qai (by omega),ZM (Ri _),ZM (by omega)]
theorem hW {α:Type} (l:List α) (k:Nat):cut l (some (k:Int)) none=l.drop k:=by
 unfold cut
 rw[HT.lY,HT.gE]
 by_cases h:k<=l.length
 ·rw[Qal h,ZM (by rw[ZH];exact Ri _)]
 ·rw[Qai (by omega),Qas (Ri _),Qas (by omega)]
  simp
noncomputable def iC (c:List Nat) (k:Nat):List Nat:=c.drop k++c.take k
noncomputable def mE (c:List Nat) (n:Nat):List (List Nat):=(List.range n).map fun k=>iC c (k+1)
noncomputable def fV (c:List Nat):List Nat:=ck c (mE c (c.length - 1))
@[irreducible] noncomputable def dv (w:List Nat):List Nat:=fV (core (red w))
theorem tY (c:List Nat) (n:Nat):mE c (n+1)=mE c n++[iC c (n+1)]:=by unfold mE;rw[kb,WQ];rfl
theorem iQ: ∀(r:List (List Nat)) (a b:List Nat),ck a (r++[b])=cT (ck a r) b
 | [],_,_=>rfl
 | _::r,_,_=>iQ r _ _
theorem cK (c:List Nat) (k:Nat):(iC c k).length=c.length:=by unfold iC;rw[U5,ZH,ZG];omega
theorem lr: ∀(r:List (List Nat)) (a:List Nat),ck a r=a\/ck a r∈r
 | [],a=> .inl rfl
 | b::r,a=>by
  rcases lr r (cT a b) with h | h
  ·have hl:cT a b=a\/cT a b=b:=by unfold cT;split<;>simp
   rcases hl with e | e
   ·left;show ck (cT a b) r=a;rw[h,e]
   ·right;show ck (cT a b) r∈b::r;rw[h,e];exact Zv
  ·right;exact Zs _ h
theorem tZ (c:List Nat): ∃k,fV c=iC c k:=by
 rcases lr (mE c (c.length - 1)) c with h | h
 ·exact ⟨0,by show ck _ _=_;rw[h];unfold iC;simp⟩
 ·unfold mE at h
  obtain ⟨k,_,e⟩:=ZL.mp h
  exact ⟨k+1,e.symm⟩
theorem CD (w:List Nat):(dv w).length<=w.length:=by
 obtain ⟨k,e⟩:=tZ (core (red w))
 unfold dv
 rw[e,cK]
 exact ZN (xQ _) (mB w)
def A1 (_:PySem.W.Frag):Sp:=fun vs H Q _=> ∃l:List Nat,vs=[.str (S l)]/\(∀c∈l,Lt c)/\l.length<=1000/\ ∀H',ak H H'->Q (.str (S (dv l))) H'
theorem Ew {K:PySem.W.Frag} {vs:List V} {H:Hp} {Q:VK} {E:XK} (h:A1 K vs H Q E):vs.length=1:=by obtain ⟨c,rfl,_⟩:=h;rfl
theorem LA (n d:Nat):HT.i7 n d (some (-1))=n - 1:=by
 have e:HT.i7 n d (some (-1))=(if (-1:Int)<0 then ((-1:Int)+(n:Int)).toNat else min (-1:Int).toNat n):=rfl
 rw[e,if_pos (by decide)]
 omega
theorem LB {α:Type} (l:List α):cut l (some (-2)) none=l.drop (l.length - 2):=by
 have e: ∀d,HT.i7 l.length d (some (-2))=(if (-2:Int)<0 then ((-2:Int)+(l.length:Int)).toNat else min (-2:Int).toNat l.length):=fun _=>rfl
 have e2: ∀d,HT.i7 l.length d (some (-2))=l.length - 2:=fun d=>by rw[e,if_pos (by decide)];omega
 unfold cut
 rw[HT.lY,e2]
 exact ZM (by rw[ZH];exact Ri _)
def AllLt (l:List Nat):Prop:= ∀c∈l,Lt c
theorem qS (a b:List Nat): ¬a<cT a b:=by
 unfold cT
 split
 ·rename_i h;exact fun g=>Qb2 a (List.lt_trans g h)
 ·exact Qb2 a
theorem pq (a b:List Nat): ¬b<cT a b:=by
 unfold cT
 split
 ·exact Qb2 b
 ·rename_i h;exact h
theorem JN {a b c:List Nat} (h: ¬b<a) (g: ¬c<b): ¬c<a:=List.le_trans (show a<=b from h) (show b<=c from g)
theorem lA: ∀(r:List (List Nat)) (a:List Nat), ∀x∈a::r, ¬x<ck a r
 | [],a,x,hx=>by rw[U7.mp hx];exact Qb2 a
 | b::r,a,x,hx=>by
  show ¬x<ck (cT a b) r
  have h0:=lA r (cT a b) (cT a b) Zv
  rcases Zt.mp hx with e | hx
  ·rw[e];exact JN h0 (qS a b)
  ·rcases Zt.mp hx with e | hx
   ·rw[e];exact JN h0 (pq a b)
   ·exact lA r (cT a b) x (Zs _ hx)
theorem xR (c:List Nat):iC c 0=c:=by unfold iC;simp
theorem mF (u:List Nat): ∀(m i:Nat),i<m*u.length->(dM m u)[i]? =u[i%u.length]?
 | 0,i,h=>by simp at h
 | m+1,i,h=>by
  rw[eN,List.getElem?_append]
  by_cases z:i<u.length
  ·rw[if_pos z,Qa3 z]
  ·rw[if_neg z,mF u m (i - u.length) (by rw[Qb1]at h;omega), <-Qdu (by omega)]
def hZ (w:List Nat) (s:Nat):Prop:=dM (w.length / s) (w.take s)=w
def h7 (w:List Nat) (k:Nat):Prop:=iC w k=w
noncomputable instance (w:List Nat) (s:Nat):Decidable (hZ w s):=by unfold hZ;infer_instance
noncomputable instance (w:List Nat) (s:Nat):Decidable (h7 w s):=by unfold h7;infer_instance
def bQ (w:List Nat) (s:Nat):Prop:=(w=[]/\s=0)\/(1<=s/\s<=w.length/\hZ w s/\ ∀j,1<=j->j<s-> ¬hZ w j)
def lB (w:List Nat) (s:Nat):Prop:=(w=[]/\s=0)\/(1<=s/\s<=w.length/\h7 w s/\ ∀j,1<=j->j<s-> ¬h7 w j)
theorem vq {w:List Nat} {s:Nat} (h1:1<=s) (h2:s<=w.length) (h:hZ w s):h7 w s:=by
 unfold hZ at h
 have hm:1<=w.length / s:=Nat.div_pos h2 h1
 obtain ⟨m,e⟩: ∃m,w.length / s=m+1:=⟨w.length / s - 1,by omega⟩
 rw[e]at h
 have hu:(w.take s).length=s:=by rw[ZG];omega
 generalize w.take s=u at h hu
 unfold h7 iC
 rw[<-h,eN,List.drop_left' hu,List.take_left' hu, <-zu,eN]
noncomputable def Fw (w:List Nat) (i:Nat):Option Nat:=w[i%w.length]?
theorem p7 {w:List Nat} {k i:Nat} (hk:k<=w.length) (hi:i<w.length):(iC w k)[i]? =Fw w (i+k):=by
 unfold iC Fw
 rw[List.getElem?_append,ZH]
 by_cases z:i<w.length - k
 ·rw[if_pos z,Qav,Qa3 (by omega),Qdx]
 ·rw[if_neg z,Qbx,if_pos (by omega),Qdu (by omega),Qa3 (by omega)]
  congr 1
  omega
def yO (w:List Nat) (k:Nat):Prop:= ∀i,Fw w (i+k)=Fw w i
theorem Ex (w:List Nat) (i k:Nat):Fw w (i%w.length+k)=Fw w (i+k):=by unfold Fw;rw[Nat.mod_add_mod]
theorem gI {w:List Nat} {k:Nat} (hn:w≠[]) (hk:k<=w.length):h7 w k↔yO w k:=by
 have hl:0<w.length:=WO.mpr hn
 constructor
 ·intro h i
  have hi:=Qbw i hl
  rw[<-Ex, <-p7 hk hi,h]
  rfl
 ·intro h
  refine Qdz fun i=>?_
  by_cases hi:i<w.length
  ·rw[p7 hk hi,h i]
   unfold Fw
   rw[Qa3 hi]
  ·have hr:(iC w k).length=w.length:=cK w k
   rw[Qa7 (by omega),Qa7 (by omega)]
theorem yO.mul {w:List Nat} {k:Nat} (h:yO w k): ∀j i,Fw w (i+k*j)=Fw w i
 | 0,i=>rfl
 | j+1,i=>by rw[Nat.mul_succ, <-Nat.add_assoc,h,yO.mul h j]
theorem yO.whole (w:List Nat):yO w w.length:=fun i=>by unfold Fw;rw[Nat.add_mod_right]
theorem yO.rest {w:List Nat} {k:Nat} (h:yO w k):yO w (w.length%k):=fun i=>by
 rw[<-h.mul (w.length / k) (i+w.length%k),Nat.add_assoc,Qdc]
 exact yO.whole w i
theorem t5 {w:List Nat} {k:Nat} (hn:w≠[]) (h1:1<=k) (h2:k<=w.length) (h:h7 w k) (hl: ∀j,1<=j->j<k-> ¬h7 w j):hZ w k:=by
 have hp:=(gI hn h2).mp h
 have hr:w.length%k=0:=by
  by_cases z:w.length%k=0
  ·exact z
  ·have dq:=Qbw w.length (show k>0 by omega)
   exact absurd ((gI hn (by omega)).mpr hp.rest) (hl _ (by omega) dq)
 have hm:w.length / k*k=w.length:=by
  have:=Qdc w.length k
  rw[hr,Qcl,Qbb]at this
  exact this
 have hu:(w.take k).length=k:=by rw[ZG];omega
 unfold hZ
 refine Qdz fun i=>?_
 by_cases hi:i<w.length
 ·rw[mF _ _ _ (by rw[hu,hm];exact hi),hu,Qbx]
  have Xj:=Qbw i (show k>0 by omega)
  rw[if_pos Xj]
  have e:=hp.mul (i / k) (i%k)
  rw[Qdc]at e
  unfold Fw at e
  rw[Qa3 hi,Qa3 (by omega)]at e
  exact e.symm
 ·rw[Qa7 (by rw[xm,hu,hm];omega),Qa7 (by omega)]
theorem ka {w:List Nat} {s k:Nat} (h:bQ w s) (g:lB w k):s=k:=by
 rcases h with ⟨e,e2⟩ | ⟨h1,h2,h3,h4⟩
 ·rcases g with ⟨_,g2⟩ | ⟨g1,g2,_,_⟩
  ·rw[e2,g2]
  ·rw[e]at g2;simp at g2;omega
 ·rcases g with ⟨e,_⟩ | ⟨g1,g2,g3,g4⟩
  ·rw[e]at h2;simp at h2;omega
  ·have hn:w≠[]:=fun z=>by rw[z]at h2;simp at h2;omega
   by_cases z:s<k
   ·exact absurd (vq h1 h2 h3) (g4 s h1 z)
   ·by_cases z2:k<s
    ·exact absurd (t5 hn g1 g2 g3 g4) (h4 k g1 z2)
    ·omega
theorem CF (w:List Nat) (h:w≠[]):hZ w w.length:=by
 have hl:0<w.length:=WO.mpr h
 unfold hZ
 rw[Nat.div_self hl,ZM (Ri _)]
 show dM (0+1) w=w
 rw[eN]
 simp[dM]
theorem CG (w:List Nat):h7 w w.length:=by
 unfold h7 iC
 rw[Qas (Ri _),ZM (Ri _)]
 rfl
noncomputable def H_ (c:List Nat) (n:Nat):List Nat:=((List.range n).map (· +1)).filter fun k=>decide (h7 c k)
theorem vv {c:List Nat} {n k:Nat}:k∈H_ c n↔(1<=k/\k<=n)/\h7 c k:=by
 unfold H_
 rw[ZU,ZL]
 constructor
 ·rintro ⟨⟨j,hj,rfl⟩,h⟩
  have:=Z_.mp hj
  exact ⟨by omega,of_decide_eq_true h⟩
 ·rintro ⟨h1,h2⟩
  exact ⟨⟨k - 1,Z_.mpr (by omega),by omega⟩,decide_eq_true h2⟩
theorem zI (c:List Nat) (n:Nat):(H_ c n).Pairwise (· < ·):=by
 unfold H_
 refine List.Pairwise.filter _ ?_
 rw[Qaf]
 exact (List.pairwise_lt_range (n:=n)).imp fun h=>Nat.succ_lt_succ h
theorem qT {c:List Nat} (h:c≠[]): ∃k r,H_ c c.length=k::r/\lB c k:=by
 have hl:0<c.length:=WO.mpr h
 have hm:c.length∈H_ c c.length:=vv.mpr ⟨by omega,CG c⟩
 rcases e:H_ c c.length with _ | ⟨k,r⟩
 ·rw[e]at hm;exact absurd hm Zu
 ·refine ⟨k,r,rfl, .inr ?_⟩
  have hk:k∈H_ c c.length:=by rw[e];exact Zv
  obtain ⟨⟨h1,h2⟩,h3⟩:=vv.mp hk
  refine ⟨h1,h2,h3,fun j j1 j2 z=>?_⟩
  have hj:j∈H_ c c.length:=vv.mpr ⟨by omega,z⟩
  have hs:=zI c c.length
  rw[e]at hj hs
  rcases Zt.mp hj with w | w
  ·omega
  ·have:=List.rel_of_pairwise_cons hs w
   omega
noncomputable def JO (w:List Nat) (s:Nat):List V:=[.str (S (w.take s)), .int ((w.length / s:Nat):Int)]
def A2 (_:PySem.W.Frag):Sp:=fun vs H Q _=> ∃l:List Nat,vs=[.str (S l)]/\(∀c∈l,Lt c)/\l.length<=1000/\ ∀p s H',H p=none->H' p=some (.tup (JO (dv l) s))->bQ (dv l) s->ak H H'->Q (.ref p) H'
theorem Ey {K:PySem.W.Frag} {vs:List V} {H:Hp} {Q:VK} {E:XK} (h:A2 K vs H Q E):vs.length=1:=by obtain ⟨c,rfl,_⟩:=h;rfl
theorem bj: ∀c∈bg,aD c=true/\PyProof.Rows.lo1 c=c/\aI c∈lh:=by decide+kernel
theorem bU: ∀c∈lh,aD c=false/\PyProof.Rows.lo1 c=aI c/\c∉bg/\aI c∈bg:=by decide+kernel
theorem t6: ∀c∈lh,c∉bg:=by decide+kernel
theorem kc {c:Nat} (h:Lt c):aD c=decide (c∈bg):=by
 rcases h with h | h
 ·rw[(bj c h).1,decide_eq_true h]
 ·rw[(bU c h).1,decide_eq_false (bU c h).2.2.1]
noncomputable def gr (y:List Nat) (a b c:Nat):Bool:=decide ((((y.idxOf b:Nat):Int) - ((y.idxOf a:Nat):Int))%(y.length:Int)<(((y.idxOf c:Nat):Int) - ((y.idxOf a:Nat):Int))%(y.length:Int))
def kB (i j k:Nat):Prop:=(i<j/\j<k)\/(j<k/\k<i)\/(k<i/\i<j)
noncomputable instance (i j k:Nat):Decidable (kB i j k):=by unfold kB;infer_instance
theorem jB {i j n:Nat} (hi:i<n) (hj:j<n):((j:Int) - (i:Int))%(n:Int)=if i<=j then (j:Int) - i else (j:Int) - i+n:=by
 split
 ·exact ZO (by omega) (by omega)
 ·rw[<-Qbg]
  exact ZO (by omega) (by omega)
theorem gU {y:List Nat} {a b c:Nat} (hn:y.Nodup) (ha:a∈y) (hb:b∈y) (hc:c∈y) (t9:a≠b) (JP:a≠c) (JQ:b≠c):gr y a b c=decide (kB (y.idxOf a) (y.idxOf b) (y.idxOf c)):=by
 have ia:=Y6 ha
 have ib:=Y6 hb
 have ic:=Y6 hc
 have inj: ∀{u v:Nat},u∈y->v∈y->u≠v->y.idxOf u≠y.idxOf v:=fun {u v} hu hv h z=>h (by
  have e1:=Qam (Y6 hu)
  have e2:=Qam (Y6 hv)
  rw[<-e1, <-e2]
  congr 1)
 have n1:=inj ha hb t9
 have n2:=inj ha hc JP
 have n3:=inj hb hc JQ
 unfold gr
 rw[jB ia ib,jB ia ic]
 generalize y.idxOf a=i at*
 generalize y.idxOf b=j at*
 generalize y.idxOf c=k at*
 refine decide_eq_decide.mpr ?_
 unfold kB
 split<;>split<;>omega
theorem Ez {i j k:Nat}:kB j k i↔kB i j k:=by unfold kB;omega
theorem Ia {i j k:Nat} (h1:i≠j) (h2:i≠k) (h3:j≠k):kB i k j↔ ¬kB i j k:=by unfold kB;omega
theorem Ib {y:List Nat} {a b c:Nat} (hn:y.Nodup) (ha:a∈y) (hb:b∈y) (hc:c∈y) (t9:a≠b) (JP:a≠c) (JQ:b≠c):gr y b c a=gr y a b c:=by
 rw[gU hn ha hb hc t9 JP JQ,gU hn hb hc ha JQ (Ne.symm t9) (Ne.symm JP)]
 exact decide_eq_decide.mpr Ez
theorem b9 {y:List Nat} {u v:Nat} (hu:u∈y) (hv:v∈y) (h:u≠v):y.idxOf u≠y.idxOf v:=fun z=>h (by
 have e1:=Qam (Y6 hu)
 have e2:=Qam (Y6 hv)
 rw[<-e1, <-e2]
 congr 1)
theorem LC {y:List Nat} {a b c:Nat} (hn:y.Nodup) (ha:a∈y) (hb:b∈y) (hc:c∈y) (t9:a≠b) (JP:a≠c) (JQ:b≠c):gr y a c b=!gr y a b c:=by
 rw[gU hn ha hb hc t9 JP JQ,gU hn ha hc hb JP t9 (Ne.symm JQ)]
 rw[<-decide_not]
 exact decide_eq_decide.mpr (Ia (b9 ha hb t9) (b9 ha hc JP) (b9 hb hc JQ))
theorem LD (d:Nat) (t:List Nat) (a:Nat):(d::t).idxOf a=if d=a then 0 else t.idxOf a+1:=by
 by_cases h:d=a
 ·subst h;rw[if_pos rfl,List.idxOf_cons_self]
 ·rw[if_neg h,List.idxOf_cons,show (d==a)=false by simp[h]];rfl
theorem CH {a b:List Nat} (h:a.Perm b) (ha:a.Pairwise (· <= ·)) (hb:b.Pairwise (· <= ·)):a=b:=
 List.Perm.eq_of_pairwise (le:=fun x y=>x<=y) (fun _ _ _ _ h1 h2=>Qd9 h1 h2) ha hb h
def xS (_:PySem.W.Frag):Sp:=fun vs H Q _=> ∃l:List Nat,vs=[.str (S l)]/\(∀c∈l,c<128)/\l.length<64/\ ∀l' H',l'.Perm (l.filter aD)->l'.Pairwise (· <= ·)->ak H H'->Q (.str (S l')) H'
theorem CI {K:PySem.W.Frag} {vs:List V} {H:Hp} {Q:VK} {E:XK} (h:xS K vs H Q E):vs.length=1:=by obtain ⟨c,rfl,_⟩:=h;rfl
def jC (_:PySem.W.Frag):Sp:=fun vs H Q _=> ∃(y:List Nat) (a b:Nat),vs=[.str (S y), .str (S [a]), .str (S [b])]/\a∈y/\b∈y/\y.length<=1000/\Q (.int ((((y.idxOf b:Nat):Int) - ((y.idxOf a:Nat):Int))%(y.length:Int))) H
theorem pA {K:PySem.W.Frag} {vs:List V} {H:Hp} {Q:VK} {E:XK} (h:jC K vs H Q E):vs.length=3:=by obtain ⟨c,_,_,rfl,_⟩:=h;rfl
def kJ (_:PySem.W.Frag):Sp:=fun vs H Q _=> ∃(y:List Nat) (a b c:Nat),vs=[.str (S y), .str (S [a]), .str (S [b]), .str (S [c])]/\a∈y/\b∈y/\c∈y/\y.length<=1000/\Q (.bl (gr y a b c)) H
theorem qU {K:PySem.W.Frag} {vs:List V} {H:Hp} {Q:VK} {E:XK} (h:kJ K vs H Q E):vs.length=4:=by obtain ⟨c,_,_,_,rfl,_⟩:=h;rfl
theorem xT {p:Nat->Bool} {l:List Nat} {i c:Nat} (h:l[i]? =some c):(l.take (i+1)).filter p=(l.take i).filter p++if p c=true then [c] else []:=by
 rw[<-take_snoc h,Qaw]
 congr 1
 by_cases z:p c=true
 ·rw[if_pos z,ZP z];rfl
 ·rw[if_neg z,ZF z];rfl
theorem EA {y:List Nat} (h:Yd y):2*(y.filter aD).length=y.length:=by
 have key: ∀p q:Nat->Bool,(∀c∈y,p c=true->q (aI c)=true)->(y.filter p).length<=(y.filter q).length:=fun p q Qf=>by
  have hn:((y.filter p).map aI).Nodup:=by
   show ((y.filter p).map aI).Pairwise (· ≠ ·)
   rw[Qaf]
   refine (h.nd.filter p).imp_of_mem fun {a b} ha hb z e=>z ?_
   exact gG (h.lt a (ZU.mp ha).1) (h.lt b (ZU.mp hb).1) e
  have:=hn.length_le_of_subset (l₂:=y.filter q) fun c hc=>by
   obtain ⟨d,hd,rfl⟩:=ZL.mp hc
   obtain ⟨d1,d2⟩:=ZU.mp hd
   exact ZU.mpr ⟨h.cl d d1,Qf d d1 d2⟩
  rwa [MO]at this
 have k1:=key aD (fun c=>!aD c) fun c hc z=>by
  rw[kc (h.lt c hc)]at z
  have hs:=of_decide_eq_true z
  rw[(bU _ (bj c hs).2.2).1];rfl
 have k2:=key (fun c=>!aD c) aD fun c hc z=>by
  rcases h.lt c hc with q | q
  ·rw[(bj c q).1]at z;cases z
  ·exact (bj _ (bU c q).2.2.2).1
 have k3:(y.filter aD).length+(y.filter fun c=>!aD c).length=y.length:=by
  clear k1 k2 key h
  induction y with
  | nil=>rfl
  | cons a r ih=>
   cases hq:aD a
   ·rw[ZF (by simp[hq]),ZP (by simp[hq]),ZR,ZR];omega
   ·rw[ZP hq,ZF (by simp[hq]),ZR,ZR];omega
 omega
noncomputable def rd (w:List Nat) (k:Int):Nat:=w.getD (k%(w.length:Int)).toNat 0
theorem Qg {w:List Nat} (h:w≠[]) (k:Int):(k%(w.length:Int)).toNat<w.length:=by
 have:0<w.length:=WO.mpr h
 have h1:=Qah k (b:=(w.length:Int)) (by omega)
 have h2:=Qad k (b:=(w.length:Int)) (by omega)
 omega
theorem eO {w:List Nat} (h:w≠[]) (k:Int):w[(k%(w.length:Int)).toNat]? =some (rd w k):=by
 unfold rd
 rw[WS,K3 (Qg h k)]
 rfl
theorem gW {w:List Nat} (h:w≠[]) (k:Int):rd w k∈w:=Y4 (eO h k)
theorem iR (w:List Nat) (k:Int):rd w (k+w.length)=rd w k:=by unfold rd;rw[Qbg]
theorem fL (w:List Nat) (k:Int):rd w (k%w.length)=rd w k:=by unfold rd;rw[Qbq _ (Qd3 _)]
theorem nQ {w:List Nat} {k:Nat} (h:k<w.length):w[k]? =some (rd w k):=by
 have dz:w≠[]:=fun z=>by rw[z]at h;exact absurd h (Qbh _)
 have:=eO dz (k:Int)
 rwa [ZO (by omega) (by omega),U6]at this
theorem xU {w:List Nat} {k:Int} {n:Nat} {c:Nat} (hn:n<w.length) (e:k%(w.length:Int)=n) (h:w[n]? =some c):rd w k=c:=by
 have:=nQ hn
 rw[h]at this
 rw[<-fL,e]
 exact (Zy this).symm
theorem fz {w:List Nat} {k:Int} (h1: -(w.length:Int)<=k) (h2:k<w.length):o6 w k=some (rd w k):=by
 have dz:w≠[]:=fun z=>by rw[z]at h1 h2;simp at h1 h2;omega
 unfold o6 GL
 by_cases h0:0<=k
 ·rw[if_pos h0,if_pos h2]
  have:=eO dz k
  rw[ZO h0 h2]at this
  exact this
 ·rw[if_neg h0,if_pos h1]
  have:=eO dz (k+w.length)
  rw[iR,ZO (by omega) (by omega)]at this
  exact this
theorem qV {w:List Nat} (h:w≠[]) (k:Int):o6 w (k%(w.length:Int))=some (rd w k):=by
 have:0<w.length:=WO.mpr h
 have h1:=Qah k (b:=(w.length:Int)) (by omega)
 have h2:=Qad k (b:=(w.length:Int)) (by omega)
 rw[fz (by omega) h2,fL]
theorem iS {f:Int->Nat} {p:Nat} (P: ∀k,f (k+p)=f k) (k:Int): ∀t:Nat,f (k+t*p)=f k
 | 0=>by simp
 | t+1=>by
  have:k+((t+1:Nat):Int)*p=k+t*p+p:=by rw[ZZ,Int.add_mul];simp;omega
  rw[this,P,iS P k t]
theorem fw {f g:Int->Nat} {p q:Nat} (hp:0<p) (hq:0<q) (Pf: ∀k,f (k+p)=f k) (Pg: ∀k,g (k+q)=g k) (h: ∀n:Nat,n<p+q->f n=g n) (k:Int):f k=g k:=by
 have up: ∀N n:Nat,n<N->f n=g n:=by
  intro N
  induction N with
  | zero=>intro n hn;omega
  | succ N ih=>
   intro n hn
   by_cases z:n<p+q
   ·exact h n z
   ·have e1:f n=f ((n - p:Nat):Int):=by have:=Pf ((n - p:Nat):Int);rwa [show ((n - p:Nat):Int)+p=n by omega]at this
    have e2:g ((n - p:Nat):Int)=g ((n - p - q:Nat):Int):=by have:=Pg ((n - p - q:Nat):Int);rwa [show ((n - p - q:Nat):Int)+q=((n - p:Nat):Int) by omega]at this
    have e3:f ((n - q:Nat):Int)=f ((n - p - q:Nat):Int):=by have:=Pf ((n - p - q:Nat):Int);rwa [show ((n - p - q:Nat):Int)+p=((n - q:Nat):Int) by omega]at this
    have e4:g n=g ((n - q:Nat):Int):=by have:=Pg ((n - q:Nat):Int);rwa [show ((n - q:Nat):Int)+q=n by omega]at this
    rw[e1,ih (n - p) (by omega),e2, <-ih (n - p - q) (by omega), <-e3,ih (n - q) (by omega), <-e4]
 have sG: ∃m:Nat,k+((k.natAbs*q:Nat):Int)*p=m/\k+((k.natAbs*p:Nat):Int)*q=m:=by
  have e1:((k.natAbs*q:Nat):Int)*p=((k.natAbs*(q*p):Nat):Int):=by rw[Nat.mul_assoc k.natAbs q p |>.symm];simp
  have e2:((k.natAbs*p:Nat):Int)*q=((k.natAbs*(q*p):Nat):Int):=by rw[Qbb q p,Nat.mul_assoc k.natAbs p q |>.symm];simp
  have hle:k.natAbs<=k.natAbs*(q*p):=Nat.le_mul_of_pos_right _ (Nat.mul_pos hq hp)
  generalize k.natAbs*(q*p)=M at e1 e2 hle
  exact ⟨(k+M).toNat,by omega,by omega⟩
 obtain ⟨m,h1,h2⟩:=sG
 rw[<-iS Pf k (k.natAbs*q),h1, <-iS Pg k (k.natAbs*p),h2]
 exact up (m+1) m (Qau m)
noncomputable def ke (f g:Int->Nat):Nat->Nat->Nat
 | 0,i=>i
 | n+1,i=>if f i=g i then ke f g n (i+1) else i
theorem eA (f g:Int->Nat): ∀n i:Nat,i<=ke f g n i/\ke f g n i<=i+n/\(∀j:Nat,i<=j->j<ke f g n i->f j=g j)/\(ke f g n i<i+n->f (ke f g n i)≠g (ke f g n i))
 | 0,i=>⟨Ri _,Ri _,fun j h1 h2=>absurd (ZW h1 h2) (Z5 _),fun h=>absurd h (Z5 _)⟩
 | n+1,i=>by
  unfold ke
  by_cases z:f i=g i
  ·rw[if_pos z]
   obtain ⟨h1,h2,h3,h4⟩:=eA f g n (i+1)
   refine ⟨by omega,by omega,fun j g1 g2=>?_,fun g1=>h4 (by omega)⟩
   by_cases e:j=i
   ·rw[e];exact z
   ·exact h3 j (by omega) g2
  ·rw[if_neg z]
   exact ⟨Ri _,by omega,fun j g1 g2=>absurd (ZW g1 g2) (Z5 _),fun _=>z⟩
theorem EB {f g:Int->Nat} {n m:Nat} (h1: ∀j:Nat,j<m->f j=g j) (h2:f m≠g m) (hm:m<n):ke f g n 0=m:=by
 obtain ⟨_,b,c,d⟩:=eA f g n 0
 by_cases z:ke f g n 0<m
 ·exact absurd (h1 _ z) (d (by omega))
 ·by_cases y:m<ke f g n 0
  ·exact absurd (c m (WT _) y) h2
  ·omega
noncomputable def al (y:List Nat) (f g:Int->Nat) (n:Nat):Nat:=
 if f 0≠g 0\/f (-1)=g (-1) then 0 else
 if gr y (aI (f (-1))) (aI (g (-1))) (f 0)=gr y (f (ke f g n 0)) (g (ke f g n 0)) (aI (f ((ke f g n 0:Nat) - 1))) then ke f g n 0 else 0
theorem mG {y:List Nat} {f g:Int->Nat} {n:Nat} (h:0<al y f g n): ∀j:Nat,j<al y f g n->f j=g j:=by
 unfold al at h ⊢
 by_cases z:f 0≠g 0\/f (-1)=g (-1)
 ·rw[if_pos z]at h;omega
 ·rw[if_neg z]at h ⊢
  by_cases u:gr y (aI (f (-1))) (aI (g (-1))) (f 0)=gr y (f (ke f g n 0)) (g (ke f g n 0)) (aI (f ((ke f g n 0:Nat) - 1)))
  ·rw[if_pos u]at h ⊢
   exact fun j hj=>(eA f g n 0).2.2.1 j (WT _) hj
  ·rw[if_neg u]at h;omega
noncomputable def ac (y:List Nat) (a b p q:Nat):Bool:=if p=a\/p=b\/q=a\/q=b then false else (gr y a p b != gr y a q b)
noncomputable def sq (w:List Nat) (i:Int):Int->Nat:=fun n=>rd w (i+n)
noncomputable def bq (v:List Nat) (j:Int):Int->Nat:=fun n=>aI (rd v (j - n))
theorem b_ (w:List Nat) (i k:Int):sq w i (k+w.length)=sq w i k:=by unfold sq;rw[<-Int.add_assoc,iR]
theorem zJ (w:List Nat) (k:Int):rd w (k - w.length)=rd w k:=by rw[<-iR w (k - w.length)];congr 1;omega
theorem nR (w:List Nat) (i k:Int):bq w i (k+w.length)=bq w i k:=by unfold bq;rw[show i - (k+(w.length:Int))=i - k - w.length by omega,zJ]
theorem nS {v:List Nat} (h:v≠[]) (k:Int):rd (eK v) k=aI (rd v (-1 - k)):=by
 have sG:0<v.length:=WO.mpr h
 have h1:=Qah k (b:=(v.length:Int)) (by omega)
 have h2:=Qad k (b:=(v.length:Int)) (by omega)
 have e:(-1 - k)%(v.length:Int)=v.length - 1 - k%v.length:=by
  have e1:=Qdh k v.length
  have: -1 - k=(v.length - 1 - k%v.length)+v.length*(-(k / v.length) - 1):=by rw[Int.mul_sub,Int.mul_neg];omega
  rw[this,Qcp,ZO (by omega) (by omega)]
 generalize hr:k%(v.length:Int)=r at h1 h2 e
 obtain ⟨n,rfl⟩: ∃n:Nat,r=n:=⟨r.toNat,by omega⟩
 have hn:n<v.length:=by omega
 have e2:rd v (-1 - k)=v[v.length - 1 - n]'(by omega):=xU (n:=v.length - 1 - n) (by omega) (by rw[e];omega) (K3 (by omega))
 rw[e2]
 refine xU (n:=n) (by rw[cn];exact hn) (by rw[cn];exact hr) ?_
 unfold eK
 rw[Qca (by rw[MO];exact hn),MO,Y5,K3 (by omega)]
 rfl
theorem EC {v:List Nat} (h:v≠[]) (j:Nat):sq (eK v) ((v.length:Int) - 1 - j)=bq v j:=by
 funext n
 unfold sq bq
 rw[nS h,show -1 - ((v.length:Int) - 1 - j+n)=j - n - v.length by omega,zJ]
structure SW (y w:List Nat):Prop where
 ne:w≠[]
 bK: ∀c∈w,c∈y
 red: ∀k:Int,rd w k≠aI (rd w (k - 1))
theorem SW.rd {y w:List Nat} (h:SW y w) (k:Int):rd w k∈y:=h.bK _ (gW h.ne k)
theorem eQ {w v:List Nat} {f g:Int->Nat} (hw:w≠[]) (hv:v≠[]) (pf: ∀k,f (k+w.length)=f k) (pg: ∀k,g (k+v.length)=g k) (h:f (-1)≠g (-1)):ke f g (w.length+v.length) 0<w.length+v.length/\f (ke f g (w.length+v.length) 0)≠g (ke f g (w.length+v.length) 0):=by
 obtain ⟨_,b,c,d⟩:=eA f g (w.length+v.length) 0
 by_cases z:ke f g (w.length+v.length) 0<w.length+v.length
 ·exact ⟨z,d (by omega)⟩
 ·exact absurd (fw (WO.mpr hw) (WO.mpr hv) pf pg (fun n hn=>c n (WT _) (by omega)) (-1)) h
theorem Ic {y w:List Nat} {i j:Nat} (hy:Yd y) (h:SW y w) (m0:0<al y (sq w i) (bq w j) (w.length+w.length)) (e:((j:Int) - al y (sq w i) (bq w j) (w.length+w.length)+1)%w.length=i):False:=by
 have ha:=mG m0
 generalize al y (sq w i) (bq w j) (w.length+w.length)=m at*
 have key: ∀k:Nat,k<m->rd w (i+k)=aI (rd w (i+(m - 1 - k))):=fun k hk=>by
  have:=ha k hk
  unfold sq bq at this
  rw[this]
  congr 1
  rw[<-fL w (j - k), <-fL w (i+((m:Int) - 1 - k)), <-e,Qb6]
  congr 2
  omega
 rcases Nat.mod_two_eq_zero_or_one m with z | z
 ·have k1:=key (m / 2) (by omega)
  rw[show (i:Int)+((m:Int) - 1 - ((m / 2:Nat):Int))=i+((m / 2:Nat):Int) - 1 by omega]at k1
  exact h.red _ k1
 ·have k1:=key (m / 2) (by omega)
  rw[show (i:Int)+((m:Int) - 1 - ((m / 2:Nat):Int))=i+((m / 2:Nat):Int) by omega]at k1
  exact iM (hy.lt _ (h.rd _)) k1.symm
structure Fm where
 c:Nat
 i:Nat
 d:Nat
 j:Nat
 m:Nat
 t:List Nat
noncomputable def gJ:List Nat:=[97,99,114,111,115,115]
noncomputable def qW:List Nat:=[97,108,111,110,103]
noncomputable def dD:List Nat:=[97,103,97,105,110,115,116]
noncomputable def JR (y w v:List Nat) (i j:Nat):Bool:=ac y (aI (rd w ((i:Int) - 1))) (rd w i) (aI (rd v ((j:Int) - 1))) (rd v j)
noncomputable def A3 (y w v:List Nat) (i j:Nat):Nat:=al y (sq w i) (sq v j) (w.length+v.length)
noncomputable def gB (y w v:List Nat) (i j:Nat):Nat:=al y (sq w i) (bq v j) (w.length+v.length)
noncomputable def jD (y w v:List Nat) (c i d j:Nat):List Fm:=(if JR y w v i j=true then [⟨c,i,d,j,0,gJ⟩] else [])++(if 0<A3 y w v i j then [⟨c,i,d,j,A3 y w v i j,qW⟩] else [])
noncomputable def fA (w:List Nat) (i j m:Nat):Bool:=ph (((j:Int) - m+1)%w.length) (((i:Int)+m - 1)%w.length) i j
noncomputable def ED (y w v:List Nat) (c i d j:Nat):List Fm:=if gB y w v i j=0\/(c=d/\fA w i j (gB y w v i j)=true) then [] else [⟨c,i,d,j,gB y w v i j,dD⟩]
noncomputable def lU (y:List Nat) (ws:List (List Nat)) (o p:Nat×Nat):List Fm:=
 (if ph o.1 o.2 p.1 p.2=true then jD y (ws.getD o.1 []) (ws.getD p.1 []) o.1 o.2 p.1 p.2 else [])++(if o.1<=p.1 then ED y (ws.getD o.1 []) (ws.getD p.1 []) o.1 o.2 p.1 p.2 else [])
noncomputable def ny (ws:List (List Nat)):Nat->List (Nat×Nat)
 | 0=>[]
 | n+1=>ny ws n++(List.range (ws.getD n []).length).map fun i=>(n,i)
noncomputable def places (ws:List (List Nat)):List (Nat×Nat):=ny ws ws.length
noncomputable def mH (y:List Nat) (ws:List (List Nat)):List Fm:=(places ws).flatMap fun o=>(places ws).flatMap fun p=>lU y ws o p
noncomputable def jE (x:Fm):List Int:=[x.c,x.i,x.d,x.j,x.m]
theorem EE {y w v:List Nat} {c i d j:Nat} {x:Fm} (h:x∈jD y w v c i d j):x.c=c/\x.i=i/\x.d=d/\x.j=j:=by
 unfold jD at h
 rcases Zx.mp h with h | h<;>split at h
 ·rw[U7.mp h];exact ⟨rfl,rfl,rfl,rfl⟩
 ·exact absurd h Zu
 ·rw[U7.mp h];exact ⟨rfl,rfl,rfl,rfl⟩
 ·exact absurd h Zu
theorem A4 {y w v:List Nat} {c i d j:Nat} {x:Fm} (h:x∈ED y w v c i d j):x=⟨c,i,d,j,gB y w v i j,dD⟩/\0<gB y w v i j:=by
 unfold ED at h
 split at h
 ·exact absurd h Zu
 ·rename_i z
  exact ⟨U7.mp h,Qdt fun q=>z (.inl q)⟩
theorem mI {y:List Nat} {ws:List (List Nat)} {o p:Nat×Nat} {x:Fm} (h:x∈lU y ws o p):x.c=o.1/\x.i=o.2/\x.d=p.1/\x.j=p.2:=by
 unfold lU at h
 rcases Zx.mp h with h | h<;>split at h
 ·exact EE h
 ·exact absurd h Zu
 ·rw[(A4 h).1];exact ⟨rfl,rfl,rfl,rfl⟩
 ·exact absurd h Zu
theorem A5 (y:List Nat) (ws:List (List Nat)) (o p:Nat×Nat):(lU y ws o p).length<=3:=by
 unfold lU jD ED
 rw[U5]
 split<;>split<;>(try rw[U5])<;>(repeat' split)<;>simp
theorem Ie {a b c d m a' b' c' d' m':Int} (h:ph a b a' b'=true):bc [a,b,c,d,m] [a',b',c',d',m']=true:=by
 unfold ph at h
 simp only[bc]
 split at h
 ·rename_i z
  rw[if_pos z,if_neg (by intro q;rw[q]at h;simp at h)]
  exact h
 ·rename_i z
  rw[if_neg z];exact h
theorem Ig {a b c d m c' d' m':Int} (h:ph c d c' d'=true):bc [a,b,c,d,m] [a,b,c',d',m']=true:=by
 unfold ph at h
 simp only[bc,if_true]
 split at h
 ·rename_i z
  rw[if_pos z,if_neg (by intro q;rw[q]at h;simp at h)]
  exact h
 ·rename_i z
  rw[if_neg z];exact h
theorem t_ {a b c d m m':Int} (h:m<m'):bc [a,b,c,d,m] [a,b,c,d,m']=true:=by
 simp only[bc,if_true]
 rw[if_neg (by omega)]
 exact decide_eq_true h
theorem EF {y w v:List Nat} {i j:Nat} (hy:Yd y) (hv:SW y v) (h1:0<A3 y w v i j) (h2:0<gB y w v i j):False:=by
 have e1:=mG h1 0 h1
 have e2:=mG h2 0 h2
 unfold sq at e1 e2
 unfold bq at e2
 simp only[Int.natCast_zero,Qaz,Qb4]at e1 e2
 rw[e1]at e2
 exact iM (hy.lt _ (hv.rd _)) e2.symm
theorem Ih {y:List Nat} {ws:List (List Nat)} {o p:Nat×Nat} (hy:Yd y) (hv:SW y (ws.getD p.1 [])):(lU y ws o p).Pairwise fun a b=>bc (jE a) (jE b)=true:=by
 unfold lU
 rw[Qao]
 refine ⟨?_,?_,fun a ha b hb=>?_⟩
 ·split
  ·unfold jD
   rw[Qao]
   refine ⟨?_,?_,fun a ha b hb=>?_⟩
   ·split
    ·exact Qby _ _
    ·exact List.Pairwise.nil
   ·split
    ·exact Qby _ _
    ·exact List.Pairwise.nil
   ·split at ha
    ·split at hb
     ·rename_i z
      rw[U7.mp ha,U7.mp hb]
      exact t_ (Qb5.mpr z)
     ·exact absurd hb Zu
    ·exact absurd ha Zu
  ·exact List.Pairwise.nil
 ·split
  ·unfold ED
   split
   ·exact List.Pairwise.nil
   ·exact Qby _ _
  ·exact List.Pairwise.nil
 ·split at ha
  ·split at hb
   ·obtain ⟨eb,pb⟩:=A4 hb
    unfold jD at ha
    rcases Zx.mp ha with ha | ha<;>split at ha
    ·rw[U7.mp ha,eb]
     exact t_ (by show ((0:Nat):Int)<((gB _ _ _ _ _:Nat):Int);omega)
    ·exact absurd ha Zu
    ·rename_i z
     exact (EF hy hv z pb).elim
    ·exact absurd ha Zu
   ·exact absurd hb Zu
  ·exact absurd ha Zu
theorem iT {ws:List (List Nat)}: ∀{n:Nat} {o:Nat×Nat},o∈ny ws n↔o.1<n/\o.2<(ws.getD o.1 []).length
 | 0,o=>by simp[ny]
 | n+1,o=>by
  unfold ny
  rw[Zx,iT (n:=n),ZL]
  constructor
  ·rintro (⟨h1,h2⟩ | ⟨i,hi,rfl⟩)
   ·exact ⟨by omega,h2⟩
   ·exact ⟨by simp,Z_.mp hi⟩
  ·rintro ⟨h1,h2⟩
   by_cases z:o.1<n
   ·exact .inl ⟨z,h2⟩
   ·have e:o.1=n:=by omega
    exact .inr ⟨o.2,Z_.mpr (by rw[<-e];exact h2),by rw[<-e]⟩
theorem p8 {ws:List (List Nat)}: ∀n:Nat,(ny ws n).Pairwise fun a b=>ph a.1 a.2 b.1 b.2=true
 | 0=>List.Pairwise.nil
 | n+1=>by
  unfold ny
  rw[Qao]
  refine ⟨p8 n,?_,fun a ha b hb=>?_⟩
  ·rw[Qaf]
   refine List.pairwise_lt_range.imp fun {a b} h=>?_
   unfold ph
   rw[if_pos rfl]
   exact decide_eq_true (by show (a:Int)<b;omega)
  ·obtain ⟨i,hi,rfl⟩:=ZL.mp hb
   have:=(iT.mp ha).1
   unfold ph
   rw[if_neg (by show ¬((a.1:Nat):Int)=(n:Nat);omega)]
   exact decide_eq_true (by show ((a.1:Nat):Int)<(n:Nat);omega)
theorem EG {y:List Nat} {ws:List (List Nat)} (hy:Yd y) (hw: ∀w∈ws,SW y w):(mH y ws).Pairwise fun a b=>bc (jE a) (jE b)=true:=by
 have sw: ∀p∈places ws,SW y (ws.getD p.1 []):=fun p hp=>by
  have h1:=(iT.mp hp).1
  rw[WS,K3 h1]
  exact hw _ (ZT h1)
 unfold mH
 rw[List.pairwise_flatMap]
 refine ⟨fun o ho=>?_,(p8 ws.length).imp fun {a b} h x hx z hz=>?_⟩
 ·rw[List.pairwise_flatMap]
  refine ⟨fun p hp=>Ih hy (sw p hp),(p8 ws.length).imp fun {a b} h x hx z hz=>?_⟩
  obtain ⟨a1,a2,a3,a4⟩:=mI hx
  obtain ⟨b1,b2,b3,b4⟩:=mI hz
  unfold jE
  rw[a1,a2,a3,a4,b1,b2,b3,b4]
  exact Ig h
 ·obtain ⟨p,hp,hx⟩:=ZS.mp hx
  obtain ⟨q,hq,hz⟩:=ZS.mp hz
  obtain ⟨a1,a2,a3,a4⟩:=mI hx
  obtain ⟨b1,b2,b3,b4⟩:=mI hz
  unfold jE
  rw[a1,a2,a3,a4,b1,b2,b3,b4]
  exact Ie h
theorem kf: ∀{a b:List Int},bc a b=true->bc b a=false/\a≠b
 | [],[],h=>by simp[bc]at h
 | [],_::_,h=>⟨rfl,by simp⟩
 | _::_,[],h=>by simp[bc]at h
 | x::r,z::t,h=>by
  simp only[bc]at h ⊢
  split at h
  ·rename_i e
   obtain ⟨h1,h2⟩:=kf h
   rw[if_pos e.symm]
   exact ⟨h1,fun q=>h2 (List.cons.inj q).2⟩
  ·rename_i e
   have h':=of_decide_eq_true h
   rw[if_neg (fun q=>e q.symm)]
   exact ⟨decide_eq_false (by omega),fun q=>e (List.cons.inj q).1⟩
theorem EH {L:List Fm} (h:L.Pairwise fun a b=>bc (jE a) (jE b)=true) (k:Nat) (a b:Fm) (ha:L[k]? =some a) (hb:L[k+1]? =some b):bc (jE b) (jE a)=false/\jE b≠jE a:=by
 obtain ⟨h1,e1⟩:=K4.mp ha
 obtain ⟨h2,e2⟩:=K4.mp hb
 have:=Qa8.mp h k (k+1) h1 h2 (Qau _)
 rw[e1,e2]at this
 obtain ⟨g1,g2⟩:=kf this
 exact ⟨g1,Ne.symm g2⟩
theorem EI {a b c d:Int} (h: ¬(c=a/\d=b)):ph a b c d=!ph c d a b:=by
 unfold ph
 by_cases z:a=c
 ·rw[if_pos z,if_pos z.symm]
  have:d≠b:=fun q=>h ⟨z.symm,q⟩
  by_cases u:b<d
  ·rw[decide_eq_true u,decide_eq_false (by omega)];rfl
  ·rw[decide_eq_false u,decide_eq_true (by omega)];rfl
 ·rw[if_neg z,if_neg (fun q=>z q.symm)]
  by_cases u:a<c
  ·rw[decide_eq_true u,decide_eq_false (by omega)];rfl
  ·rw[decide_eq_false u,decide_eq_true (by omega)];rfl
theorem Qh (y:List Nat) (f g:Int->Nat) (n:Nat):al y f g n<=n:=by
 unfold al
 have:=(eA f g n 0).2.1
 split
 ·exact WT _
 ·split
  ·omega
  ·exact WT _
noncomputable def jF (n:Nat) (l:List Nat):List Nat:=(List.replicate n l).flatten
def CJ (w:List Nat):Prop:= ∀(k a b:Nat),w[k]? =some a->w[k+1]? =some b->b≠aI a
theorem CJ.nil:CJ []:=fun k a b h=>by simp at h
theorem CJ.take {w:List Nat} (h:CJ w) (n:Nat):CJ (w.take n):=fun k a b h1 h2=>by
 rw[Qbx]at h1 h2
 split at h1
 ·split at h2
  ·exact h k a b h1 h2
  ·cases h2
 ·cases h1
theorem CJ.snoc {w:List Nat} {c:Nat} (h:CJ w) (hc: ∀a,w.getLast? =some a->c≠aI a):CJ (w++[c]):=fun k a b h1 h2=>by
 by_cases z:k+1<w.length
 ·rw[Z7 (by omega)]at h1
  rw[Z7 z]at h2
  exact h k a b h1 h2
 ·have zx:k+1<(w++[c]).length:=(K4.mp h2).1
  rw[U5]at zx
  have e:k+1=w.length:=by simp at zx;omega
  rw[Z7 (by omega)]at h1
  rw[e,Qag (Ri _),Nat.sub_self]at h2
  have e2:c=b:=by simpa using h2
  rw[<-e2]
  refine hc a ?_
  rw[Qbu, show w.length - 1=k by omega]
  exact h1
theorem SW.of {y w:List Nat} (ne:w≠[]) (bK: ∀c∈w,c∈y) (GQ:CJ w) (hd: ∀a b,w.head? =some a->w.getLast? =some b->a≠aI b):SW y w:=by
 refine ⟨ne,bK,fun k=>?_⟩
 have sG:0<w.length:=WO.mpr ne
 have h1:=Qah k (b:=(w.length:Int)) (by omega)
 have h2:=Qad k (b:=(w.length:Int)) (by omega)
 have hk:=eO ne k
 have MR:=eO ne (k - 1)
 by_cases z:k%(w.length:Int)=0
 ·have e:(k - 1)%(w.length:Int)=w.length - 1:=by
   rw[<-Int.emod_sub_emod,z]
   have:(0:Int) - 1=(w.length - 1)+w.length*(-1):=by omega
   rw[this,Qcp,ZO (by omega) (by omega)]
  rw[z]at hk
  rw[e]at MR
  refine hd _ _ ?_ ?_
  ·rw[Qda];exact hk
  ·rw[Qbu, show w.length - 1=((w.length:Int) - 1).toNat by omega];exact MR
 ·have e:(k - 1)%(w.length:Int)=k%w.length - 1:=by
   rw[<-Int.emod_sub_emod,ZO (by omega) (by omega)]
  rw[e]at MR
  refine GQ _ _ _ MR ?_
  rw[show (k%(w.length:Int) - 1).toNat+1=(k%(w.length:Int)).toNat by omega]
  exact hk
theorem SW.GQ {y w:List Nat} (h:SW y w):CJ w:=fun k a b h1 h2=>by
 have hk:=(K4.mp h2).1
 have e1:=nQ (w:=w) (k:=k) (by omega)
 have e2:=nQ (w:=w) (k:=k+1) hk
 rw[h1]at e1
 rw[h2]at e2
 rw[Zy e1,Zy e2]
 have:=h.red ((k+1:Nat):Int)
 rwa [show (((k+1:Nat):Int) - 1)=(k:Int) by omega]at this
theorem EJ {w:List Nat} {n:Nat} (h:w≠[]) (hn:n<=w.length) (k:Int):rd (w.drop n++w.take n) k=rd w (k+n):=by
 have sG:0<w.length:=WO.mpr h
 have hl:(w.drop n++w.take n).length=w.length:=by rw[U5,ZH,ZG];omega
 have h1:=Qah k (b:=(w.length:Int)) (by omega)
 have h2:=Qad k (b:=(w.length:Int)) (by omega)
 have e:(k+n)%(w.length:Int)=(k%w.length+n)%w.length:=by rw[Qb6]
 generalize hr:k%(w.length:Int)=r at h1 h2 e
 obtain ⟨m,rfl⟩: ∃m:Nat,r=m:=⟨r.toNat,by omega⟩
 have hm:m<w.length:=by omega
 by_cases z:m+n<w.length
 ·have hg:w[m+n]? =some (rd w (k+n)):=by
   have:=eO h (k+n)
   rwa [e,ZO (by omega) (by omega),show ((m:Int)+n).toNat=m+n by omega]at this
  refine xU (n:=m) (by rw[hl];exact hm) (by rw[hl];exact hr) ?_
  rw[Z7 (by rw[ZH];omega),Qav,Qdx]
  exact hg
 ·have hg:w[m+n - w.length]? =some (rd w (k+n)):=by
   have:=eO h (k+n)
   have e2:((m:Int)+n)%w.length=((m+n - w.length:Nat):Int):=by
    have:(m:Int)+n=((m+n - w.length:Nat):Int)+w.length:=by omega
    rw[this,Qbg,ZO (by omega) (by omega)]
   rwa [e,e2,U6]at this
  refine xU (n:=m) (by rw[hl];exact hm) (by rw[hl];exact hr) ?_
  rw[Qag (by rw[ZH];omega),ZH,Qbx,if_pos (by omega),show m - (w.length - n)=m+n - w.length by omega]
  exact hg
theorem SW.iC {y w:List Nat} {n:Nat} (h:SW y w) (hn:n<=w.length):SW y (w.drop n++w.take n):=by
 refine ⟨fun z=>h.ne ?_,fun c hc=>?_,fun k=>?_⟩
 ·have l0:(w.drop n++w.take n).length=0:=by rw[z];rfl
  rw[U5,ZH,ZG]at l0
  exact Qap.mp (by omega)
 ·exact h.bK c ((Zx.mp hc).elim Qbo Qbn)
 ·rw[EJ h.ne hn,EJ h.ne hn,show k - 1+n=k+n - 1 by omega]
  exact h.red _
theorem SW.eK {y w:List Nat} (hy:Yd y) (h:SW y w):SW y (eK w):=by
 refine ⟨fun z=>h.ne ?_,fun c hc=>?_,fun k=>?_⟩
 ·have:=cn w
  rw[z]at this
  exact Qap.mp this.symm
 ·obtain ⟨d,hd,rfl⟩:=ZL.mp (Qcz.mp hc)
  exact hy.cl d (h.bK d hd)
 ·rw[nS h.ne,nS h.ne,show -1 - (k - 1)= -1 - k+1 by omega]
  intro q
  have l1:=hy.lt _ (h.rd (-1 - k))
  have l2:=hy.lt _ (h.rd (-1 - k+1))
  rw[aT l2]at q
  have:=h.red (-1 - k+1)
  rw[show -1 - k+1 - 1= -1 - k by omega]at this
  exact this q.symm
theorem mJ (n:Nat) (l:List Nat):jF (n+1) l=l++jF n l:=by unfold jF;rw[Qdl,Qbm]
theorem A6 (n:Nat) (l:List Nat):(jF n l).length=n*l.length:=by
 induction n with
 | zero=>simp[jF]
 | succ n ih=>rw[mJ,U5,ih,Qb1,Qdx]
theorem A7 {l:List Nat}: ∀{n k:Nat},k<n*l.length->(jF n l)[k]? =l[k%l.length]?
 | 0,k,h=>by simp at h
 | n+1,k,h=>by
  rw[mJ]
  by_cases z:k<l.length
  ·rw[Z7 z,Qa3 z]
  ·rw[Qag (by omega),A7 (by rw[Qb1]at h;omega),Qdu (by omega:l.length<=k)]
theorem A8 {w:List Nat} {n:Nat} (h:w≠[]) (hn:0<n) (k:Int):rd (jF n w) k=rd w k:=by
 have sG:0<w.length:=WO.mpr h
 have hl:=A6 n w
 have Vr:0<n*w.length:=Nat.mul_pos hn sG
 have h1:=Qah k (b:=((n*w.length:Nat):Int)) (by omega)
 have h2:=Qad k (b:=((n*w.length:Nat):Int)) (by omega)
 have e:k%(w.length:Int)=(k%((n*w.length:Nat):Int))%w.length:=(Qbq k (by rw[Qed];exact Int.dvd_mul_left _ _)).symm
 generalize hr:k%((n*w.length:Nat):Int)=r at h1 h2 e
 obtain ⟨m,rfl⟩: ∃m:Nat,r=m:=⟨r.toNat,by omega⟩
 have hm:m<n*w.length:=by omega
 refine xU (n:=m) (by rw[hl];exact hm) (by rw[hl];exact hr) ?_
 rw[A7 hm]
 have:=eO h k
 rwa [e,show (((m:Int)%w.length).toNat)=m%w.length by rw[<-Qc1,U6]]at this
theorem Ii {w:List Nat} {n c:Nat} (h:c∈jF n w):c∈w:=by
 obtain ⟨l,hl,hc⟩:=List.mem_flatten.mp h
 rwa [List.eq_of_mem_replicate hl]at hc
theorem SW.dM {y w:List Nat} {n:Nat} (h:SW y w) (hn:0<n):SW y (jF n w):=by
 refine ⟨fun z=>?_,fun c hc=>h.bK c (Ii hc),fun k=>by rw[A8 h.ne hn,A8 h.ne hn];exact h.red k⟩
 have:=A6 n w
 rw[z]at this
 have h2:0<n*w.length:=Nat.mul_pos hn (WO.mpr h.ne)
 simp at this
 omega
theorem SW.twice {y w:List Nat} (h:SW y w):SW y (w++w):=by
 have:=h.dM (n:=2) (by decide)
 rwa [show jF 2 w=w++w by rw[mJ,mJ];simp[jF]]at this
theorem SW.snoc {y w:List Nat} {c:Nat} (hy:Yd y) (GQ:CJ w) (bK: ∀a∈w,a∈y) (hc:c∈y) (h1: ∀a,w.getLast? =some a->c≠aI a) (h2: ∀a,w.head? =some a->c≠aI a):SW y (w++[c]):=by
 refine SW.of (by simp) (fun a ha=>?_) (GQ.snoc h1) fun a b ha hb=>?_
 ·rcases Zx.mp ha with q | q
  ·exact bK a q
  ·rw[U7.mp q];exact hc
 ·have eb:b=c:=by simpa using hb.symm
  subst eb
  cases w with
  | nil=>
   have:b=a:=by simpa using ha
   rw[<-this]
   exact fun q=>iM (hy.lt b hc) q.symm
  | cons x r=>
   have:x=a:=by simpa using ha
   subst this
   have hx:x∈y:=bK x Zv
   intro q
   exact h2 x rfl (by rw[q,aT (hy.lt b hc)])
theorem vw {w:List Nat} (h:w≠[]):w.getLast? =some (rd w (-1)):=by
 have sG:0<w.length:=WO.mpr h
 have:=eO h (-1)
 have e:(-1:Int)%(w.length:Int)=w.length - 1:=by
  have e2:(-1:Int)=((w.length:Int) - 1)+w.length*(-1):=by omega
  rw[e2,Qcp,ZO (by omega) (by omega)]
 rw[e]at this
 rw[Qbu, show w.length - 1=((w.length:Int) - 1).toNat by omega]
 exact this
theorem p9 {w:List Nat} (h:w≠[]):w.head? =some (rd w 0):=by
 have:=eO h 0
 rw[Qda]
 simpa using this
theorem CK (w:List Nat): ∃k,lB w k:=by
 by_cases h:w=[]
 ·exact ⟨0, .inl ⟨h,rfl⟩⟩
 ·obtain ⟨k,_,_,t⟩:=qT h
  exact ⟨k,t⟩
theorem bQ.turn {w:List Nat} {s:Nat} (h:bQ w s):lB w s:=by
 obtain ⟨k,t⟩:=CK w
 rw[ka h t];exact t
theorem bQ.least {w:List Nat} {s j:Nat} (h:bQ w s) (j1:1<=j) (j2:j<s) (hp:yO w j):False:=by
 rcases h.turn with ⟨_,e⟩ | ⟨h1,h2,h3,h4⟩
 ·omega
 ·have hn:w≠[]:=fun z=>by rw[z]at h2;simp at h2;omega
  exact h4 j j1 j2 ((gI hn (by omega)).mpr hp)
theorem SW.Xk {y w:List Nat} (hy:Yd y) (h:SW y w):zH w:=Et fun k a b ha hb e=>by
 have JS:b∈y:=h.bK b (Y4 hb)
 have:=h.GQ k a b ha hb
 rw[e,aT (hy.lt b JS)]at this
 exact this rfl
theorem SW.core {y w:List Nat} (hy:Yd y) (h:SW y w):My.core (My.red w)=w:=by
 rw[Er (h.Xk hy)]
 by_cases z:w.length<2
 ·exact iP z
 ·obtain ⟨a,m,e,hw⟩:=Eu (l:=w) (by omega)
  have h0:=p9 h.ne
  have h1:=vw h.ne
  have hr:=h.red 0
  rw[show (0:Int) - 1= -1 by omega]at hr
  rw[hw]at h0 h1 hr ⊢
  have e0:a=My.rd (a::(m++[e])) 0:=Zy h0
  have e1:e=My.rd (a::(m++[e])) (-1):=by
   have:(a::(m++[e])).getLast? =some e:=by rw[<-List.cons_append,List.getLast?_append];rfl
   exact Zy (this.symm.trans h1)
  exact nP (by rw[<-e0, <-e1]at hr;exact hr)
theorem vx {w:List Nat} {k:Nat} (hk:k<=w.length) (i:Nat):Fw (iC w k) i=Fw w (i+k):=by
 by_cases z:w=[]
 ·subst z
  unfold Fw iC
  simp
 ·have hp:0<w.length:=WO.mpr z
  have e:Fw (iC w k) i=(iC w k)[i%w.length]?:= by unfold Fw;rw[cK]
  rw[e,p7 hk (Qbw _ hp),Ex]
theorem A9 {w:List Nat} {k s:Nat} (hk:k<=w.length) (hn:w≠[]):yO (iC w k) s↔yO w s:=by
 constructor
 ·intro h i
  have h1:=h (i+(w.length - k))
  rw[vx hk,vx hk]at h1
  have e1:i+(w.length - k)+s+k=i+s+w.length:=by omega
  have e2:i+(w.length - k)+k=i+w.length:=by omega
  rw[e1,e2,yO.whole w,yO.whole w]at h1
  exact h1
 ·intro h i
  rw[vx hk,vx hk,show i+s+k=i+k+s by omega]
  exact h _
theorem ua {w:List Nat} (hn:w≠[]) {s:Nat} (h:bQ w s):lB w s:=by
 obtain ⟨k,r,_,g⟩:=qT hn
 rw[ka h g]
 exact g
theorem EK {w:List Nat} {k s:Nat} (hk:k<=w.length) (hn:w≠[]) (h:lB (iC w k) s):lB w s:=by
 have yZ:iC w k≠[]:=fun z=>hn (Qap.mp (by have:=cK w k;rw[z]at this;exact this.symm))
 rcases h with ⟨z,_⟩ | ⟨h1,h2,h3,h4⟩
 ·exact absurd z yZ
 ·rw[cK]at h2
  refine .inr ⟨h1,h2,(gI hn h2).mpr ((A9 hk hn).mp ((gI yZ (by rw[cK];exact h2)).mp h3)),fun j j1 j2 j3=>h4 j j1 j2 ?_⟩
  exact (gI yZ (by rw[cK];omega)).mpr ((A9 hk hn).mpr ((gI hn (by omega)).mp j3))
theorem uc {y w:List Nat} {s t:Nat} (hy:Yd y) (h:SW y w) (hr:bQ (dv w) s) (hw:bQ w t):s=t/\(dv w).length=w.length:=by
 have e:dv w=fV w:=by unfold dv;rw[h.core hy]
 obtain ⟨k,ek⟩:=tZ w
 have zx: ∃k,k<=w.length/\fV w=iC w k:=by
  by_cases z:k<=w.length
  ·exact ⟨k,z,ek⟩
  ·refine ⟨w.length,Ri _,?_⟩
   rw[ek]
   unfold iC
   rw[Qas (by omega),ZM (by omega),List.drop_length,Z8]
 obtain ⟨k,hk,ek⟩:=zx
 rw[e,ek]at hr ⊢
 have yZ:iC w k≠[]:=fun z=>h.ne (Qap.mp (by have:=cK w k;rw[z]at this;exact this.symm))
 refine ⟨?_,cK w k⟩
 exact (ka hw (EK hk h.ne (ua yZ hr))).symm
theorem A_ {w:List Nat} (hn:w≠[]): ∃s,bQ w s:=by
 obtain ⟨k,r,_,g⟩:=qT hn
 rcases g with ⟨z,_⟩ | ⟨h1,h2,h3,h4⟩
 ·exact absurd z hn
 ·exact ⟨k, .inr ⟨h1,h2,t5 hn h1 h2 h3 h4,fun j j1 j2 j3=>h4 j j1 j2 (vq j1 (by omega) j3)⟩⟩
theorem EL {w:List Nat} {s t:Nat} (hn:w≠[]) (h:bQ w s) (g:bQ w t):s=t:=ka h (ua hn g)
noncomputable def GR (x:Fm):List V:=[.int x.c, .int x.i, .int x.d, .int x.j, .int x.m, .str (S x.t)]
structure Fa where
 a:Addr
 x:Fm
noncomputable def fB (L:List Fa):List V:=L.map fun k=>V.ref k.a
theorem eB (L:List Fa):(fB L).length=L.length:=by unfold fB;rw[MO]
theorem Ij (a b:List Fa):fB a++fB b=fB (a++b):=by unfold fB;rw[WQ]
def bW (H:Hp) (L:List Fa):Prop:= ∀k∈L,H k.a=some (.tup (GR k.x))
theorem bW.nil (H:Hp):bW H []:=fun _ h=>absurd h Zu
theorem bW.ts {H H':Hp} {L:List Fa} (h:bW H L) (s:ba H H'):bW H' L:=fun k hk=>s _ _ (h k hk)
theorem bW.app {H:Hp} {a b:List Fa} (x:bW H a) (y:bW H b):bW H (a++b):=fun k hk=>(Zx.mp hk).elim (x k) (y k)
theorem bW.snoc {H:Hp} {a:List Fa} {k:Fa} (x:bW H a) (y:H k.a=some (.tup (GR k.x))):bW H (a++[k]):=x.app fun z hz=>by rw[U7.mp hz];exact y
structure Sd where
 t:Addr
 c:Nat
 i:Nat
noncomputable def Sd.pair (p:Sd):Nat×Nat:=(p.c,p.i)
noncomputable def Dp (ps:List Sd):List V:=ps.map fun p=>V.ref p.t
theorem p_ (ps:List Sd):(Dp ps).length=ps.length:=by unfold Dp;rw[MO]
theorem EM (a:List Sd) (p:Sd):Dp a++[V.ref p.t]=Dp (a++[p]):=by unfold Dp;rw[WQ];rfl
theorem EN {ps:List Sd} {i:Nat} {x:V} (h:(Dp ps)[i]? =some x): ∃p,ps[i]? =some p/\x=V.ref p.t:=by
 unfold Dp at h
 rw[Y5]at h
 cases e:ps[i]? with
 | none=>rw[e]at h;cases h
 | some p=>rw[e]at h;cases h;exact ⟨p,rfl,rfl⟩
def ud (H:Hp) (ps:List Sd):Prop:= ∀p∈ps,H p.t=some (.tup [.int p.c, .int p.i])
theorem ud.ts {H H':Hp} {L:List Sd} (h:ud H L) (s:ba H H'):ud H' L:=fun k hk=>s _ _ (h k hk)
structure EO (y:List Nat) (ws:List (List Nat)):Prop where
 sw: ∀w∈ws,SW y w/\w.length<=12
 tR:ws.length<=4
 all:(places ws).length<=24
theorem getD_at {ws:List (List Nat)} {c:Nat} (h:c<ws.length):(iN ws)[c]? =some (V.str (S (ws.getD c []))):=by
 rw[iO h,WS,K3 h];rfl
theorem getD_in {ws:List (List Nat)} {c:Nat} (h:c<ws.length):ws.getD c []∈ws:=by
 rw[WS,K3 h];exact ZT h
theorem ER {ws:List (List Nat)} {c:Nat} (h:c<ws.length):(iN (ws.map eK))[c]? =some (V.str (S (eK (ws.getD c [])))):=by
 rw[iO (by rw[MO];exact h),Qcb,WS,K3 h];rfl
def jG (_:PySem.W.Frag):Sp:=fun vs H Q _=> ∃(w:List Nat) (i:Nat),vs=[.str (S w), .int i]/\(∀c∈w,Lt c)/\w.length<=1000/\i<w.length/\ ∀q H',H q=none->H' q=some (.tup [.str (S [aI (rd w ((i:Int) - 1))]), .str (S [rd w i])])->ak H H'->Q (.ref q) H'
theorem pB {K:PySem.W.Frag} {vs:List V} {H:Hp} {Q:VK} {E:XK} (h:jG K vs H Q E):vs.length=2:=by obtain ⟨_,_,rfl,_⟩:=h;rfl
def i9 (_:PySem.W.Frag):Sp:=fun vs H Q _=> ∃(y w:List Nat) (i:Nat) (v:List Nat) (j:Nat),vs=[.str (S y), .str (S w), .int i, .str (S v), .int j]/\Yd y/\y.length<=8/\SW y w/\SW y v/\w.length<=12/\v.length<=12/\i<w.length/\j<v.length/\ ∀H',ak H H'->Q (.bl (JR y w v i j)) H'
theorem nU {K:PySem.W.Frag} {vs:List V} {H:Hp} {Q:VK} {E:XK} (h:i9 K vs H Q E):vs.length=5:=by obtain ⟨_,_,_,_,_,rfl,_⟩:=h;rfl
def gK (_:PySem.W.Frag):Sp:=fun vs H Q _=> ∃(w:List Nat) (i:Nat) (v:List Nat) (j m:Nat),vs=[.str (S w), .int i, .str (S v), .int j]/\w≠[]/\v≠[]/\w.length<=100/\v.length<=100/\i<=100/\j<=100/\m<=1000/\(∀k:Nat,k<m->sq w i k=sq v j k)/\sq w i m≠sq v j m/\Q (.int m) H
theorem lC {K:PySem.W.Frag} {vs:List V} {H:Hp} {Q:VK} {E:XK} (h:gK K vs H Q E):vs.length=4:=by obtain ⟨_,_,_,_,_,rfl,_⟩:=h;rfl
def h_ (_:PySem.W.Frag):Sp:=fun vs H Q _=> ∃(y w:List Nat) (i:Nat) (v:List Nat) (j:Nat),vs=[.str (S y), .str (S w), .int i, .str (S v), .int j]/\Yd y/\y.length<=8/\(∀c∈w,c∈y)/\(∀c∈v,c∈y)/\w.length<=12/\v.length<=12/\i<w.length/\j<v.length/\Q (.int (al y (sq w i) (sq v j) (w.length+v.length))) H
theorem mK {K:PySem.W.Frag} {vs:List V} {H:Hp} {Q:VK} {E:XK} (h:h_ K vs H Q E):vs.length=5:=by obtain ⟨_,_,_,_,_,rfl,_⟩:=h;rfl
structure pE (H:Hp) (y:List Nat) (wt:Addr) (ws:List (List Nat)) (o p:Addr) (c i d j:Nat):Prop where
 yd:Yd y
 yz:y.length<=8
 ok:EO y ws
 wt:H wt=some (.tup (iN ws))
 o:H o=some (.tup [.int c, .int i])
 p:H p=some (.tup [.int d, .int j])
 hc:c<ws.length
 hi:i<(ws.getD c []).length
 hd:d<ws.length
 hj:j<(ws.getD d []).length
theorem pE.ts {H H':Hp} {y:List Nat} {wt:Addr} {ws:List (List Nat)} {o p:Addr} {c i d j:Nat} (h:pE H y wt ws o p c i d j) (s:ba H H'):pE H' y wt ws o p c i d j:=⟨h.yd,h.yz,h.ok,s _ _ h.wt,s _ _ h.o,s _ _ h.p,h.hc,h.hi,h.hd,h.hj⟩
theorem pE.w {H:Hp} {y:List Nat} {wt:Addr} {ws:List (List Nat)} {o p:Addr} {c i d j:Nat} (h:pE H y wt ws o p c i d j):SW y (ws.getD c [])/\(ws.getD c []).length<=12:=h.ok.sw _ (getD_in h.hc)
theorem pE.v {H:Hp} {y:List Nat} {wt:Addr} {ws:List (List Nat)} {o p:Addr} {c i d j:Nat} (h:pE H y wt ws o p c i d j):SW y (ws.getD d [])/\(ws.getD d []).length<=12:=h.ok.sw _ (getD_in h.hd)
def ie (_:PySem.W.Frag):Sp:=fun vs H Q _=> ∃(y:List Nat) (wt:Addr) (ws:List (List Nat)) (o p:Addr) (c i d j:Nat),vs=[.str (S y), .ref wt, .ref o, .ref p]/\pE H y wt ws o p c i d j/\
 ∀(q:Addr) (L:List Fa) (H':Hp),H q=none->H' q=some (.lst (fB L))->bW H' L->L.map Fa.x=jD y (ws.getD c []) (ws.getD d []) c i d j->ak H H'->Q (.ref q) H'
theorem mL {K:PySem.W.Frag} {vs:List V} {H:Hp} {Q:VK} {E:XK} (h:ie K vs H Q E):vs.length=4:=by obtain ⟨_,_,_,_,_,_,_,_,_,rfl,_⟩:=h;rfl
def gL (_:PySem.W.Frag):Sp:=fun vs H Q _=> ∃(y:List Nat) (wt:Addr) (ws:List (List Nat)) (bk o p:Addr) (c i d j:Nat),vs=[.str (S y), .ref wt, .ref bk, .ref o, .ref p]/\pE H y wt ws o p c i d j/\H bk=some (.lst (iN (ws.map eK)))/\
 ∀(q:Addr) (L:List Fa) (H':Hp),H q=none->H' q=some (.lst (fB L))->bW H' L->L.map Fa.x=ED y (ws.getD c []) (ws.getD d []) c i d j->ak H H'->Q (.ref q) H'
theorem lD {K:PySem.W.Frag} {vs:List V} {H:Hp} {Q:VK} {E:XK} (h:gL K vs H Q E):vs.length=5:=by obtain ⟨_,_,_,_,_,_,_,_,_,_,rfl,_⟩:=h;rfl
def mM (_:PySem.W.Frag):Sp:=fun vs H Q _=> ∃(y:List Nat) (wt:Addr) (ws:List (List Nat)) (bk o p:Addr) (c i d j:Nat),vs=[.str (S y), .ref wt, .ref bk, .ref o, .ref p]/\pE H y wt ws o p c i d j/\H bk=some (.lst (iN (ws.map eK)))/\
 ∀(q:Addr) (L:List Fa) (H':Hp),H q=none->H' q=some (.lst (fB L))->bW H' L->L.map Fa.x=lU y ws (c,i) (d,j)->ak H H'->Q (.ref q) H'
theorem sJ {K:PySem.W.Frag} {vs:List V} {H:Hp} {Q:VK} {E:XK} (h:mM K vs H Q E):vs.length=5:=by obtain ⟨_,_,_,_,_,_,_,_,_,_,rfl,_⟩:=h;rfl
def kK (_:PySem.W.Frag):Sp:=fun vs H Q _=> ∃(wt:Addr) (ws:List (List Nat)),vs=[.ref wt]/\H wt=some (.tup (iN ws))/\ws.length<=4/\(∀w∈ws,w.length<=12)/\ ∀(q:Addr) (ps:List Sd) (H':Hp),H q=none->H' q=some (.lst (Dp ps))->ud H' ps->ps.map Sd.pair=places ws->ak H H'->Q (.ref q) H'
theorem qX {K:PySem.W.Frag} {vs:List V} {H:Hp} {Q:VK} {E:XK} (h:kK K vs H Q E):vs.length=1:=by obtain ⟨_,_,rfl,_⟩:=h;rfl
def LF (H:Hp) (Q:VK) (vs:List V):Prop:= ∃(y:List Nat) (wt:Addr) (ws:List (List Nat)),vs=[.str (S y), .ref wt]/\Yd y/\y.length<=8/\EO y ws/\H wt=some (.tup (iN ws))/\
 ∀(q:Addr) (L:List Fa) (H':Hp),H q=none->H' q=some (.lst (fB L))->bW H' L->L.map Fa.x=mH y ws->ak H H'->Q (.ref q) H'
def ue (_:PySem.W.Frag):Sp:=fun vs H Q _=>LF H Q vs
theorem zK {K:PySem.W.Frag} {vs:List V} {H:Hp} {Q:VK} {E:XK} (h:ue K vs H Q E):vs.length=2:=by obtain ⟨_,_,_,rfl,_⟩:=h;rfl
def uf (_:PySem.W.Frag):Sp:=fun vs H Q _=> ∃(b:Addr) (y:List Nat) (top:Nat),vs=[.ref b, .str (S y), .int top]/\cV H b/\Yd y/\2<=y.length/\y.length<=8/\1<=top/\top<=100/\ ∀(w:List Nat) H',SW y w->w.length<=top->cV H' b->aR b H H'->Q (.str (S w)) H'
theorem zL {K:PySem.W.Frag} {vs:List V} {H:Hp} {Q:VK} {E:XK} (h:uf K vs H Q E):vs.length=3:=by obtain ⟨_,_,_,rfl,_⟩:=h;rfl
def xV (_:PySem.W.Frag):Sp:=fun vs H Q _=> ∃(b:Addr) (y w:List Nat) (top:Nat),vs=[.ref b, .str (S y), .str (S w), .int top]/\cV H b/\Yd y/\2<=y.length/\y.length<=8/\1<=top/\top<=100/\SW y w/\w.length<=top/\ ∀(u:List Nat) H',SW y u->u.length<=top->cV H' b->aR b H H'->Q (.str (S u)) H'
theorem CL {K:PySem.W.Frag} {vs:List V} {H:Hp} {Q:VK} {E:XK} (h:xV K vs H Q E):vs.length=4:=by obtain ⟨_,_,_,_,rfl,_⟩:=h;rfl
def Told (b:Addr) (H:Hp) (Q:VK) (y:List Nat):Prop:= ∀(t:Addr) (ws:List (List Nat)) (H':Hp),H t=none->t≠b->H' t=some (.tup (iN ws))->EO y ws->cV H' b->aR b H H'->Q (.ref t) H'
def ug (_:PySem.W.Frag):Sp:=fun vs H Q _=> ∃(b:Addr) (y:List Nat) (many top:Nat),vs=[.ref b, .str (S y), .int many, .int top]/\cV H b/\Yd y/\2<=y.length/\y.length<=8/\1<=many/\many<=4/\1<=top/\top<=12/\many*top<=24/\Told b H Q y
theorem zM {K:PySem.W.Frag} {vs:List V} {H:Hp} {Q:VK} {E:XK} (h:ug K vs H Q E):vs.length=4:=by obtain ⟨_,_,_,_,rfl,_⟩:=h;rfl
theorem mN {ws:List (List Nat)} {m:Nat} (h: ∀w∈ws,w.length<=m): ∀n:Nat,n<=ws.length->(ny ws n).length<=n*m
 | 0,_=>WT _
 | n+1,hn=>by
  unfold ny
  have:=mN h n (by omega)
  have h2:=h _ (getD_in (ws:=ws) (c:=n) (by omega))
  rw[U5,MO,Qbl,Qb1]
  omega
theorem zN {H2:Hp} {t a3:Addr} {L:List Fa} {x:Fm} {H3:Hp} (ht:H2 t=some (.lst (fB L))) (hL:bW H2 L) (s:ak H2 H3) (n3:H3 a3=none):
  bW (upd (upd H3 a3 (.tup (GR x))) t (.lst (fB (L++[⟨a3,x⟩])))) (L++[⟨a3,x⟩])/\ba H2 (upd (upd H3 a3 (.tup (GR x))) t (.lst (fB (L++[⟨a3,x⟩]))))/\
  (∀H,H t=none->ak H H2->ak H (upd (upd H3 a3 (.tup (GR x))) t (.lst (fB (L++[⟨a3,x⟩])))))/\upd (upd H3 a3 (.tup (GR x))) t (.lst (fB (L++[⟨a3,x⟩]))) t=some (.lst (fB (L++[⟨a3,x⟩]))):=by
 have s3:=s.trans (ak.upd (o:= .tup (GR x)) n3)
 have Ik:=s3 _ _ ht
 have Vs:a3≠t:=fun z=>by rw[z,s _ _ ht]at n3;cases n3
 have ts:ba H2 (upd (upd H3 a3 (.tup (GR x))) t (.lst (fB (L++[⟨a3,x⟩])))):=(ba.of s3).trans (ba.xu Ik)
 refine ⟨(hL.ts ts).snoc ?_,ts,fun H n s0 a o e=>?_,ag⟩
 ·show upd _ t _ a3=_
  rw[au Vs,ag]
 ·rw[au (aq e n)]
  exact s3 _ _ (s0 a o e)
theorem vA {H2:Hp} {t:Addr} {L M:List Fa} (ht:H2 t=some (.lst (fB L))) (hL:bW H2 L) (hM:bW H2 M):
  bW (upd H2 t (.lst (fB L++fB M))) (L++M)/\ba H2 (upd H2 t (.lst (fB L++fB M)))/\(∀H,H t=none->ak H H2->ak H (upd H2 t (.lst (fB L++fB M))))/\upd H2 t (.lst (fB L++fB M)) t=some (.lst (fB (L++M))):=by
 have ts:ba H2 (upd H2 t (.lst (fB L++fB M))):=ba.xu ht
 exact ⟨(hL.ts ts).app (hM.ts ts),ts,fun H n s0 a o e=>by rw[au (aq e n)];exact s0 a o e,by rw[ag,Ij]⟩
theorem vB {L:List Fa} {M:List Fm} (h:L.map Fa.x=M):L.length=M.length:=by rw[<-h,MO]
theorem ES (y w v:List Nat) (c i d j:Nat):(jD y w v c i d j).length<=2:=by
 unfold jD
 rw[U5]
 split<;>split<;>simp
theorem Ba (y w v:List Nat) (c i d j:Nat):(ED y w v c i d j).length<=1:=by
 unfold ED
 split<;>simp
theorem JT {K:PySem.W.Frag} {H:Hp}: ∀{L:List Fa},bW H L->Cp K H 4 (fB L) (L.map fun a=>jE a.x)
 | [],_=>trivial
 | a::L,h=>⟨⟨a.a,S a.x.t,rfl,aX.of (h a Zv),rfl⟩,JT fun k hk=>h k (Zs _ hk)⟩
theorem CM {y:List Nat} {ws:List (List Nat)} {L:List Fa} (hy:Yd y) (hw: ∀w∈ws,SW y w) (e:L.map Fa.x=mH y ws) (k:Nat) (a b:List Int) (ha:(L.map fun a=>jE a.x)[k]? =some a) (hb:(L.map fun a=>jE a.x)[k+1]? =some b):bc b a=false/\b≠a:=by
 have e2:(L.map fun a=>jE a.x)=(mH y ws).map jE:=by rw[<-e,Qac];rfl
 rw[e2,Y5]at ha hb
 obtain ⟨x,hx,rfl⟩:=Qb0.mp ha
 obtain ⟨z,hz,rfl⟩:=Qb0.mp hb
 exact EH (EG hy hw) k x z hx hz
theorem uh {α β:Type} {l:List α} {k:Nat} {x:α} (f:α->List β) (h:l[k]? =some x):(l.take (k+1)).flatMap f=(l.take k).flatMap f++f x:=by
 rw[<-take_snoc h,ZY]
 simp
theorem aR.ts {t:Addr} {H H':Hp} {ys:List V} (ht:H t=some (.lst ys)) (s:aR t H H'):ba H H':=fun c xs h=>s _ _ h fun z=>by rw[z,ht]at h;cases h
theorem xW {ws:List (List Nat)} {c i:Nat} (h:(c,i)∈places ws):c<ws.length/\i<(ws.getD c []).length:=iT.mp h
theorem ET {α:Type} (w:List α):cut w none (some (-1))=w.take (w.length - 1):=by
 unfold cut
 rw[HT.lY,LA]
 simp
structure Wd (y w:List Nat):Prop where
 GQ:CJ w
 bK: ∀c∈w,c∈y
theorem Wd.more {y w:List Nat} {c:Nat} (h:Wd y w) (hc:c∈y) (hn:w≠[]->c≠aI (rd w (-1))):Wd y (w++[c]):=
 ⟨h.GQ.snoc fun a ha=>by
  have dz:w≠[]:=fun z=>by rw[z]at ha;simp at ha
  rw[vw dz]at ha
  rw[<-Zy ha]
  exact hn dz,fun a ha=>by
  rcases Zx.mp ha with g | g
  ·exact h.bK a g
  ·rw[U7.mp g];exact hc⟩
theorem Wd.sw {y w:List Nat} (h:Wd y w) (dz:w≠[]) (he:rd w 0≠aI (rd w (-1))):SW y w:=
 SW.of dz h.bK h.GQ fun a b ha hb=>by
  rw[p9 dz]at ha
  rw[vw dz]at hb
  rw[<-Zy ha, <-Zy hb]
  exact he
theorem Wd.one {y w:List Nat} (hy:Yd y) (h:Wd y w) (h1:w.length=1):SW y w:=by
 have dz:w≠[]:=fun z=>by rw[z]at h1;simp at h1
 refine h.sw dz ?_
 have e:rd w 0=rd w (-1):=by
  have:=iR w (-1)
  rw[h1]at this
  exact this
 rw[<-e]
 exact fun q=>iM (hy.lt _ (h.bK _ (gW dz 0))) q.symm
theorem Il {y w u:List Nat} (hw:SW y w) (hu:SW y u) (lw:w.length<=12) (lu:u.length<=12):EO y [w,u]:=by
 refine ⟨fun x hx=>?_,by show 2<=4;decide,?_⟩
 ·rcases Zt.mp hx with g | g
  ·rw[g];exact ⟨hw,lw⟩
  ·rw[U7.mp g];exact ⟨hu,lu⟩
 ·have:=mN (ws:=[w,u]) (m:=12) (fun x hx=>by
   rcases Zt.mp hx with g | g
   ·rw[g];exact lw
   ·rw[U7.mp g];exact lu) 2 (Ri _)
  exact this
theorem vC {α β:Type} {f:α->List β} {m:Nat}: ∀{l:List α},(∀x∈l,(f x).length<=m)->(l.flatMap f).length<=l.length*m
 | [],_=>WT _
 | a::l,h=>by
  rw[ZQ,U5,ZR,Qb1]
  have h1:=h a Zv
  have h2:=vC fun x hx=>h x (Zs _ hx)
  omega
theorem EU {y:List Nat} {ws:List (List Nat)} (h:(places ws).length<=24):(mH y ws).length<=1728:=by
 unfold mH
 have h1: ∀o∈places ws,((places ws).flatMap fun p=>lU y ws o p).length<=72:=fun o _=>by
  have:=vC (f:=fun p=>lU y ws o p) (l:=places ws) (m:=3) fun p _=>A5 y ws o p
  omega
 have:=vC (f:=fun o=>(places ws).flatMap fun p=>lU y ws o p) (l:=places ws) (m:=72) h1
 omega
noncomputable def xX (y:List Nat) (a b:Nat):Int:=((y.idxOf b:Int) - (y.idxOf a:Int))%(y.length:Int)
noncomputable def fW (y:List Nat) (f:Int->Nat) (k:Int):Int:=xX y (aI (f (k - 1))) (f k)
structure jk (y:List Nat) (f:Int->Nat):Prop where
 bK: ∀k,f k∈y
 red: ∀k,f k≠aI (f (k - 1))
structure Run (f g:Int->Nat) (a b:Nat):Prop where
 mO: ∀k:Int, -(b:Int)<=k->k<=a->f k=g k
 hi:f (a+1)≠g (a+1)
 lo:f (-(b:Int) - 1)≠g (-(b:Int) - 1)
noncomputable def kg (f:Int->Nat):Int->Nat:=fun k=>aI (f (-k))
noncomputable def eR (f:Int->Nat):Int->Nat:=fun k=>f (k - 1)
noncomputable def kC (y:List Nat) (f g:Int->Nat) (a:Nat):Bool:=decide (fW y f (a+1)<fW y g (a+1))
noncomputable def kL (y:List Nat) (f g:Int->Nat) (b:Nat):Bool:=decide (fW y f (-(b:Int))<fW y g (-(b:Int)))
noncomputable def wU (x a b:Nat):Bool:=decide (b<a\/(a=b/\aD x=false))
noncomputable def zO (y:List Nat) (f g:Int->Nat) (a b:Nat):Bool:=if wU (f 0) a b=true then kL y f g b else kC y f g a
theorem Run.one {f g:Int->Nat} {a b a' b':Nat} (h:Run f g a b) (h':Run f g a' b'):a=a'/\b=b':=by
 constructor
 ·by_cases z:a<a'
  ·exact absurd (h'.mO (a+1) (by omega) (by omega)) h.hi
  ·by_cases z2:a'<a
   ·exact absurd (h.mO (a'+1) (by omega) (by omega)) h'.hi
   ·omega
 ·by_cases z:b<b'
  ·exact absurd (h'.mO (-(b:Int) - 1) (by omega) (by omega)) h.lo
  ·by_cases z2:b'<b
   ·exact absurd (h.mO (-(b':Int) - 1) (by omega) (by omega)) h'.lo
   ·omega
theorem Run.bk {f g:Int->Nat} {a b:Nat} (h:Run f g a (b+1)):Run (eR f) (eR g) (a+1) b:=
 ⟨fun k h1 h2=>h.mO (k - 1) (by omega) (by omega),fun z=>h.hi (by
  unfold eR at z
  rwa [show ((a+1:Nat):Int)+1 - 1=a+1 by omega]at z),fun z=>h.lo (by
  unfold eR at z
  rwa [show -(b:Int) - 1 - 1= -((b+1:Nat):Int) - 1 by omega]at z)⟩
theorem Run.fd {f g:Int->Nat} {a b:Nat} (h:Run (eR f) (eR g) (a+1) b):Run f g a (b+1):=
 ⟨fun k h1 h2=>by
  have:=h.mO (k+1) (by omega) (by omega)
  unfold eR at this
  rwa [show k+1 - 1=k by omega]at this,fun z=>h.hi (by
  unfold eR
  rwa [show ((a+1:Nat):Int)+1 - 1=a+1 by omega]),fun z=>h.lo (by
  unfold eR
  rwa [show -(b:Int) - 1 - 1= -((b+1:Nat):Int) - 1 by omega])⟩
theorem qa (y:List Nat) (f:Int->Nat) (k:Int):fW y (eR f) k=fW y f (k - 1):=rfl
theorem vD (y:List Nat) (f g:Int->Nat) (a:Nat):kC y (eR f) (eR g) (a+1)=kC y f g a:=by
 unfold kC
 rw[qa,qa,show ((a+1:Nat):Int)+1 - 1=a+1 by omega]
theorem vE (y:List Nat) (f g:Int->Nat) (b:Nat):kL y (eR f) (eR g) b=kL y f g (b+1):=by
 unfold kL
 rw[qa,qa,show -(b:Int) - 1= -((b+1:Nat):Int) by omega]
theorem EV {x z a b:Nat} (h:wU x a (b+1)=true):wU z (a+1) b=true:=by
 unfold wU at h ⊢
 have:=of_decide_eq_true h
 exact decide_eq_true (by omega)
theorem eS {y:List Nat} {a b:Nat} (ha:a∈y) (hb:b∈y) (h:a≠b):0<xX y a b/\xX y a b<y.length/\xX y b a=y.length - xX y a b:=by
 have ia:=Y6 ha
 have ib:=Y6 hb
 have n:=b9 ha hb h
 unfold xX
 rw[jB ia ib,jB ib ia]
 generalize y.idxOf a=i at*
 generalize y.idxOf b=j at*
 split<;>split<;>omega
theorem mP {y:List Nat} {a b c:Nat} (ha:a∈y) (hb:b∈y) (hc:c∈y) (h:xX y a b=xX y a c):b=c:=by
 have ia:=Y6 ha
 have ib:=Y6 hb
 have ic:=Y6 hc
 refine Classical.byContradiction fun z=>b9 hb hc z ?_
 unfold xX at h
 rw[jB ia ib,jB ia ic]at h
 split at h<;>split at h<;>omega
theorem jk.rv {y:List Nat} {f:Int->Nat} (hy:Yd y) (h:jk y f):jk y (kg f):=⟨fun k=>hy.cl _ (h.bK _),fun k z=>by
 unfold kg at z
 have e:=aT (hy.lt _ (h.bK (-(k - 1))))
 rw[e]at z
 have:=h.red (-(k - 1))
 rw[show -(k - 1) - 1= -k by omega]at this
 exact this z.symm⟩
theorem ui {y:List Nat} {f:Int->Nat} (hy:Yd y) (h:jk y f):kg (kg f)=f:=by
 funext k
 unfold kg
 rw[aT (hy.lt _ (h.bK _)),Int.neg_neg]
theorem jH {y:List Nat} {f:Int->Nat} (hy:Yd y) (h:jk y f) (k:Int):fW y (kg f) (k+1)=y.length - fW y f (-k):=by
 unfold fW kg
 rw[show k+1 - 1=k by omega,aT (hy.lt _ (h.bK _)),show -(k+1)= -k - 1 by omega]
 exact (eS (hy.cl _ (h.bK _)) (h.bK _) (Ne.symm (h.red _))).2.2
theorem Run.rv {y:List Nat} {f g:Int->Nat} {a b:Nat} (hy:Yd y) (hf:jk y f) (hg:jk y g) (h:Run f g a b):Run (kg f) (kg g) b a:=
 ⟨fun k h1 h2=>by unfold kg;rw[h.mO _ (by omega) (by omega)],fun z=>h.lo (by
  unfold kg at z
  have:=gG (hy.lt _ (hf.bK _)) (hy.lt _ (hg.bK _)) z
  rwa [show -((b:Int)+1)= -(b:Int) - 1 by omega]at this),fun z=>h.hi (by
  unfold kg at z
  have:=gG (hy.lt _ (hf.bK _)) (hy.lt _ (hg.bK _)) z
  rwa [show -(-(a:Int) - 1)=a+1 by omega]at this)⟩
theorem gf: ∀c∈bg++lh,aD (aI c)=!aD c:=by decide+kernel
theorem LG {y:List Nat} {f g:Int->Nat} {a b:Nat} (hy:Yd y) (hf:jk y f) (hg:jk y g) (h0:f 0=g 0):zO y (kg g) (kg f) b a=zO y f g a b:=by
 have e1:kL y (kg g) (kg f) a=kC y f g a:=by
  unfold kL kC
  have h1:=jH hy hf (-(a:Int) - 1)
  have h2:=jH hy hg (-(a:Int) - 1)
  rw[show -(a:Int) - 1+1= -a by omega,show -(-(a:Int) - 1)=a+1 by omega]at h1 h2
  rw[h1,h2]
  exact decide_eq_decide.mpr (by omega)
 have e2:kC y (kg g) (kg f) b=kL y f g b:=by
  unfold kL kC
  rw[jH hy hf,jH hy hg]
  exact decide_eq_decide.mpr (by omega)
 unfold zO
 rw[e1,e2]
 have e3:wU (kg g 0) b a=!wU (f 0) a b:=by
  unfold wU kg
  rw[show (-0:Int)=0 from rfl, <-h0,gf _ (hy.lt _ (hf.bK 0)).mem]
  rw[<-decide_not]
  refine decide_eq_decide.mpr ?_
  cases aD (f 0)
  ·simp;omega
  ·simp;omega
 rw[e3]
 cases wU (f 0) a b<;>rfl
def uB (y:List Nat) (f g:Int->Nat):Prop:= ∃a b,Run f g a b/\wU (f 0) a b=true/\kC y f g a≠kL y f g b
def wV (y:List Nat) (f g:Int->Nat):Prop:= ∃a,Run f g a 0/\kC y f g a≠kL y f g 0
open Classical in
noncomputable def one (p:Prop):Int:=if p then 1 else 0
theorem fX {p:Prop} (h:p):one p=1:=by unfold one;rw[if_pos h]
theorem aZ {p:Prop} (h: ¬p):one p=0:=by unfold one;rw[if_neg h]
theorem bA {p q:Prop} (h:p↔q):one p=one q:=by rw[propext h]
theorem Run.zero {f g:Int->Nat} {a b:Nat} (h:Run f g a b):f 0=g 0:=h.mO 0 (by omega) (by omega)
theorem EW {y:List Nat} {f g:Int->Nat} {e0 e1:Bool} {m:Prop}
  (r0:f 0=g 0-> ∃a b,Run f g a b) (r1:f (-1)=g (-1)-> ∃a b,Run (eR f) (eR g) a b)
  (h0: ∀a b,Run f g a b->e0=zO y f g a b) (h1: ∀a b,Run (eR f) (eR g) a b->e1=zO y (eR f) (eR g) a b)
  (ma:f 0=g 0->f (-1)≠g (-1)->(m↔e0≠kL y f g 0)) (mb:f (-1)=g (-1)->f 0≠g 0->(m↔e1≠kC y (eR f) (eR g) 0)) (mc:f (-1)=g (-1)->f 0=g 0->(m↔e1≠e0))
  (t:f 0=g 0\/f (-1)=g (-1)):one m=one (wV y f g)+one (uB y (eR f) (eR g)) - one (uB y f g):=by
 have hb: ∀{a b},Run (eR f) (eR g) a b->f (-1)=g (-1):=fun h=>h.zero
 by_cases z0:f 0=g 0
 ·obtain ⟨a,b,r⟩:=r0 z0
  have e:=h0 a b r
  unfold zO at e
  have hu:uB y f g↔(wU (f 0) a b=true/\kC y f g a≠kL y f g b):=⟨fun ⟨a',b',r',x⟩=>by obtain ⟨rfl,rfl⟩:=r.one r';exact x,fun x=>⟨a,b,r,x⟩⟩
  by_cases z1:f (-1)=g (-1)
  ·cases b with
   | zero=>exact absurd z1 r.lo
   | succ b=>
    have r2:=r.bk
    have e2:=h1 _ _ r2
    unfold zO at e2
    have LH:uB y (eR f) (eR g)↔(wU (eR f 0) (a+1) b=true/\kC y f g a≠kL y f g (b+1)):=⟨fun ⟨a',b',r',x⟩=>by
     obtain ⟨rfl,rfl⟩:=r2.one r'
     rw[vD,vE]at x;exact x,fun x=>⟨_,_,r2,by rw[vD,vE];exact x⟩⟩
    rw[vD,vE]at e2
    have Qi: ¬wV y f g:=fun ⟨a',r',_⟩=>absurd (r.one r').2 (Nat.succ_ne_zero b)
    rw[aZ Qi,bA hu,bA LH,bA (mc z1 z0),e,e2]
    have mono:= @EV (f 0) (eR f 0) a b
    generalize wU (f 0) a (b+1)=B0 at*
    generalize wU (eR f 0) (a+1) b=B1 at*
    generalize kC y f g a=A at*
    generalize kL y f g (b+1)=C at*
    revert mono
    cases B0<;>cases B1<;>cases A<;>cases C<;>simp[one]
  ·have b0:b=0:=by
    cases b with
    | zero=>rfl
    | succ b=>exact absurd (r.mO (-1) (by omega) (by omega)) z1
   subst b0
   have LH: ¬uB y (eR f) (eR g):=fun ⟨_,_,r',_⟩=>z1 (hb r')
   have Qi:wV y f g↔kC y f g a≠kL y f g 0:=⟨fun ⟨a',r',x⟩=>by obtain ⟨rfl,_⟩:=r.one r';exact x,fun x=>⟨a,r,x⟩⟩
   rw[aZ LH,bA Qi,bA hu,bA (ma z0 z1),e]
   generalize wU (f 0) a 0=B0 at*
   generalize kC y f g a=A at*
   generalize kL y f g 0=C at*
   cases B0<;>cases A<;>cases C<;>simp[one]
 ·have z1:=t.resolve_left z0
  obtain ⟨a,b,r⟩:=r1 z1
  have a0:a=0:=by
   cases a with
   | zero=>rfl
   | succ a=>exact absurd (r.fd.zero) z0
  subst a0
  have e:=h1 _ _ r
  unfold zO at e
  have Xl: ¬uB y f g:=fun ⟨_,_,r',_⟩=>z0 r'.zero
  have Qi: ¬wV y f g:=fun ⟨_,r',_⟩=>z0 r'.zero
  have LH:uB y (eR f) (eR g)↔(wU (eR f 0) 0 b=true/\kC y (eR f) (eR g) 0≠kL y (eR f) (eR g) b):=⟨fun ⟨a',b',r',x⟩=>by
   obtain ⟨rfl,rfl⟩:=r.one r';exact x,fun x=>⟨_,_,r,x⟩⟩
  rw[aZ Xl,aZ Qi,bA LH,bA (mb z1 z0),e]
  generalize wU (eR f 0) 0 b=B0 at*
  generalize kC y (eR f) (eR g) 0=A at*
  generalize kL y (eR f) (eR g) b=C at*
  cases B0<;>cases A<;>cases C<;>simp[one]
theorem dE {f g:Int->Nat} {p q:Nat} (hp:0<p) (hq:0<q) (Pf: ∀k,f (k+p)=f k) (Pg: ∀k,g (k+q)=g k) (h0:f 0=g 0) (hn: ∃k,f k≠g k): ∃a b,Run f g a b/\a<p+q/\b<p+q:=by
 obtain ⟨k0,Vt⟩:=hn
 have up: ∃a:Nat,a<p+q/\(∀j:Nat,j<a->f (j+1)=g (j+1))/\f (a+1)≠g (a+1):=by
  obtain ⟨_,b,c,d⟩:=eA (fun k=>f (k+1)) (fun k=>g (k+1)) (p+q) 0
  by_cases z:ke (fun k=>f (k+1)) (fun k=>g (k+1)) (p+q) 0<p+q
  ·exact ⟨_,z,fun j hj=>c j (WT _) hj,d (by omega)⟩
  ·refine absurd ?_ Vt
   have:=fw (f:=fun k=>f (k+1)) (g:=fun k=>g (k+1)) hp hq (fun k=>by rw[show k+(p:Int)+1=k+1+p by omega];exact Pf _) (fun k=>by rw[show k+(q:Int)+1=k+1+q by omega];exact Pg _) (fun n hn=>c n (WT _) (by omega)) (k0 - 1)
   rwa [show k0 - 1+1=k0 by omega]at this
 have Xm: ∀k,f (-(k+p))=f (-k):=fun k=>by have:=Pf (-(k+p));rw[<-this];congr 1;omega
 have Xn: ∀k,g (-(k+q))=g (-k):=fun k=>by have:=Pg (-(k+q));rw[<-this];congr 1;omega
 have dn: ∃a:Nat,a<p+q/\(∀j:Nat,j<a->f (-(j:Int) - 1)=g (-(j:Int) - 1))/\f (-(a:Int) - 1)≠g (-(a:Int) - 1):=by
  obtain ⟨_,b,c,d⟩:=eA (fun k=>f (-k - 1)) (fun k=>g (-k - 1)) (p+q) 0
  by_cases z:ke (fun k=>f (-k - 1)) (fun k=>g (-k - 1)) (p+q) 0<p+q
  ·exact ⟨_,z,fun j hj=>c j (WT _) hj,d (by omega)⟩
  ·refine absurd ?_ Vt
   have:=fw (f:=fun k=>f (-k - 1)) (g:=fun k=>g (-k - 1)) hp hq (fun k=>by have:=Xm (k+1);rw[show -(k+(p:Int)) - 1= -(k+1+p) by omega,this];congr 1;omega) (fun k=>by have:=Xn (k+1);rw[show -(k+(q:Int)) - 1= -(k+1+q) by omega,this];congr 1;omega) (fun n hn=>c n (WT _) (by omega)) (-k0 - 1)
   rwa [show -(-k0 - 1) - 1=k0 by omega]at this
 obtain ⟨a,ha,a1,a2⟩:=up
 obtain ⟨b,hb,b1,b2⟩:=dn
 refine ⟨a,b,⟨fun k h1 h2=>?_,a2,b2⟩,ha,hb⟩
 by_cases z:k=0
 ·rw[z];exact h0
 ·by_cases z2:0<k
  ·obtain ⟨j,rfl⟩: ∃j:Nat,k=j+1:=⟨(k - 1).toNat,by omega⟩
   exact a1 j (by omega)
  ·obtain ⟨j,rfl⟩: ∃j:Nat,k= -(j:Int) - 1:=⟨(-k - 1).toNat,by omega⟩
   exact b1 j (by omega)
theorem EX {y:List Nat} {p p' x:Nat} (hy:Yd y) (hp:p∈y) (zP:p'∈y) (hx:x∈y) (h1:p≠p') (h2:p≠x) (h3:p'≠x):decide (xX y p x<xX y p' x)=!gr y p p' x:=by
 have ip:=Y6 hp
 have Xo:=Y6 zP
 have ix:=Y6 hx
 have n1:=b9 hp zP h1
 have n2:=b9 hp hx h2
 have n3:=b9 zP hx h3
 rw[gU hy.nd hp zP hx h1 h2 h3]
 unfold xX
 rw[jB ip ix,jB Xo ix, <-decide_not]
 refine decide_eq_decide.mpr ?_
 unfold kB
 split<;>split<;>omega
theorem EY {y:List Nat} {f g:Int->Nat} (hy:Yd y) (hf:jk y f) (hg:jk y g) (h0:f 0=g 0) (h1:f (-1)≠g (-1)):kL y f g 0=!gr y (aI (f (-1))) (aI (g (-1))) (f 0):=by
 have e:kL y f g 0=decide (xX y (aI (f (-1))) (f 0)<xX y (aI (g (-1))) (g 0)):=rfl
 rw[e, <-h0]
 have r1:=hf.red 0
 have r2:=hg.red 0
 rw[show (0:Int) - 1= -1 by omega]at r1 r2
 exact EX hy (hy.cl _ (hf.bK _)) (hy.cl _ (hg.bK _)) (hf.bK 0) (fun z=>h1 (gG (hy.lt _ (hf.bK _)) (hy.lt _ (hg.bK _)) z)) (Ne.symm r1) (by rw[h0];exact Ne.symm r2)
theorem EZ {y:List Nat} {f g:Int->Nat} {a:Nat} (h:f a=g a):kC y f g a=gr y (aI (f a)) (f (a+1)) (g (a+1)):=by
 unfold kC fW
 rw[show (a:Int)+1 - 1=a by omega, <-h]
 rfl
theorem qY {y:List Nat} {f g:Int->Nat} {n:Nat} (hy:Yd y) (hf:jk y f) (hg:jk y g) (hd:f (-1)≠g (-1)->ke f g n 0<n/\f (ke f g n 0)≠g (ke f g n 0)):wV y f g↔0<al y f g n:=by
 unfold al
 by_cases z:f 0≠g 0\/f (-1)=g (-1)
 ·rw[if_pos z]
  refine ⟨fun ⟨a,r,_⟩=>?_,fun h=>absurd h (Z5 _)⟩
  rcases z with z | z
  ·exact absurd r.zero z
  ·exact absurd z r.lo
 ·rw[if_neg z]
  have z0:f 0=g 0:=Classical.byContradiction fun q=>z (.inl q)
  have z1:f (-1)≠g (-1):=fun q=>z (.inr q)
  obtain ⟨d1,d2⟩:=hd z1
  obtain ⟨_,_,d3,_⟩:=eA f g n 0
  generalize ke f g n 0=D at*
  cases D with
  | zero=>exact absurd z0 d2
  | succ a=>
   have r:Run f g a 0:=⟨fun k h1 h2=>by
    obtain ⟨j,rfl⟩: ∃j:Nat,k=j:=⟨k.toNat,by omega⟩
    exact d3 j (WT _) (by omega),d2,z1⟩
   have e1:((a+1:Nat):Int)=(a:Int)+1:=by omega
   rw[e1,show (a:Int)+1 - 1=a by omega]
   have Rq:=d3 a (WT _) (Qau a)
   have rf:=hf.red (a+1)
   have rg:=hg.red (a+1)
   rw[show (a:Int)+1 - 1=a by omega]at rf rg
   have Xp:f (a+1)≠g (a+1):=d2
   have eg:=Ib hy.nd (hy.cl _ (hf.bK a)) (hf.bK (a+1)) (hg.bK (a+1)) (Ne.symm rf) (by rw[Rq];exact Ne.symm rg) Xp
   rw[eg, <-EZ Rq]
   have eb:=EY hy hf hg z0 z1
   have key:wV y f g↔kC y f g a≠kL y f g 0:=⟨fun ⟨a',r',x⟩=>by obtain ⟨rfl,_⟩:=r.one r';exact x,fun x=>⟨a,r,x⟩⟩
   rw[key,eb]
   generalize gr y (aI (f (-1))) (aI (g (-1))) (f 0)=G
   generalize kC y f g a=A
   cases G<;>cases A<;>simp
noncomputable def oP (a b a' b':Nat):Bool:=decide (kB a a' b) != decide (kB a b' b)
theorem jI (a b a' b':Nat):oP a b a' b'=oP a b b' a':=by unfold oP;generalize decide (kB a a' b)=p;generalize decide (kB a b' b)=q;cases p<;>cases q<;>rfl
theorem xY (a b:Nat):oP a b a b=false:=by
 unfold oP
 have h1: ¬kB a a b:=by unfold kB;omega
 have h2: ¬kB a b b:=by unfold kB;omega
 rw[decide_eq_false h1,decide_eq_false h2]
 rfl
theorem gM {a b:Nat} (h:a≠b):decide (b<a)=!decide (a<b):=by
 rcases Qa4 h with q | q
 ·rw[decide_eq_true q,decide_eq_false (Qcm q)];rfl
 ·rw[decide_eq_true q,decide_eq_false (Qcm q)];rfl
theorem JU {a b c:Nat} (h1:a≠b) (h2:b≠c) (h3:a≠c):decide (kB a b c)=!(decide (a<b) ^^ (decide (b<c) ^^ decide (c<a))):=by
 have e:decide (kB a b c)=((decide (a<b)&&decide (b<c))||((decide (b<c)&&decide (c<a))||(decide (c<a)&&decide (a<b)))):=by
  rw[<-Qdd, <-Qdd, <-Qdd, <-Bool.decide_or, <-Bool.decide_or]
  exact decide_eq_decide.mpr Iff.rfl
 rw[e]
 have k1:decide (a<b)=true->decide (b<c)=true->decide (c<a)=true->False:=fun p q r=>Qcm (Qax (of_decide_eq_true p) (of_decide_eq_true q)) (of_decide_eq_true r)
 have k2:decide (b<a)=true->decide (c<b)=true->decide (a<c)=true->False:=fun p q r=>Qcm (Qax (of_decide_eq_true q) (of_decide_eq_true p)) (of_decide_eq_true r)
 rw[gM h1,gM h2,gM (Ne.symm h3)]at k2
 revert k1 k2
 generalize decide (a<b)=p
 generalize decide (b<c)=q
 generalize decide (c<a)=r
 revert p q r
 decide
theorem Bb {a b a' b':Nat} (h1:a≠b) (h3:a≠a') (h4:a≠b') (h5:b≠a') (h6:b≠b'):oP a b a' b'=((decide (a<a') ^^ decide (a'<b)) ^^ (decide (a<b') ^^ decide (b'<b))):=by
 unfold oP
 rw[JU h3 (Ne.symm h5) h1,JU h4 (Ne.symm h6) h1]
 generalize decide (a<a')=p
 generalize decide (a'<b)=q
 generalize decide (a<b')=r
 generalize decide (b'<b)=s
 generalize decide (b<a)=t
 revert p q r s t
 decide
theorem mQ {a b a' b':Nat} (h1:a≠b) (h2:a'≠b') (h3:a≠a') (h4:a≠b') (h5:b≠a') (h6:b≠b'):oP a b a' b'=oP a' b' a b:=by
 rw[Bb h1 h3 h4 h5 h6,Bb h2 (Ne.symm h3) (Ne.symm h5) (Ne.symm h4) (Ne.symm h6),gM h3,gM (Ne.symm h6)]
 generalize decide (a<a')=p
 generalize decide (a'<b)=q
 generalize decide (a<b')=r
 generalize decide (b'<b)=s
 revert p q r s
 decide
theorem xZ {a b a' b':Nat} (h1:a≠b) (h2:a'≠b') (h3:a≠a') (h4:a≠b') (h5:b≠a') (h6:b≠b'):oP b a a' b'=oP a b a' b':=by
 rw[mQ (Ne.symm h1) h2 h5 h6 h3 h4,jI,mQ h2 h1 (Ne.symm h3) (Ne.symm h5) (Ne.symm h4) (Ne.symm h6)]
theorem Im {a b c i j k:Nat} (n1:i≠j) (n2:i≠k) (n3:j≠k) (h1:i<j->a<b) (h2:j<i->b<a) (h3:i<k->a<c) (h4:k<i->c<a) (h5:j<k->b<c) (h6:k<j->c<b):kB a b c↔kB i j k:=by
 have e: ∀{i j a b:Nat},i≠j->(i<j->a<b)->(j<i->b<a)->(i<j↔a<b):=fun {i j a b} n f g=>⟨f,fun q=>(Qa4 n).elim id fun r=>absurd (g r) (Qcm q)⟩
 unfold kB
 rw[e n1 h1 h2,e n3 h5 h6,e (Ne.symm n2) h4 h3]
def Sep (y:List Nat) (ps:List (Nat×Nat)):Prop:= ∀p∈ps, ∀q∈ps,y.idxOf p.1<y.idxOf q.1->p.2<q.2
theorem Sep.kB {y:List Nat} {ps:List (Nat×Nat)} (h:Sep y ps) {a b c:Nat×Nat} (ha:a∈ps) (hb:b∈ps) (hc:c∈ps) (n1:y.idxOf a.1≠y.idxOf b.1) (n2:y.idxOf a.1≠y.idxOf c.1) (n3:y.idxOf b.1≠y.idxOf c.1):My.kB a.2 b.2 c.2↔My.kB (y.idxOf a.1) (y.idxOf b.1) (y.idxOf c.1):=Im n1 n2 n3 (h a ha b hb) (h b hb a ha) (h a ha c hc) (h c hc a ha) (h b hb c hc) (h c hc b hb)
theorem Sep.gr {y:List Nat} {ps:List (Nat×Nat)} (h:Sep y ps) (hn:y.Nodup) {a b c:Nat×Nat} (ha:a∈ps) (hb:b∈ps) (hc:c∈ps) (ya:a.1∈y) (yb:b.1∈y) (yc:c.1∈y) (n1:a.1≠b.1) (n2:a.1≠c.1) (n3:b.1≠c.1):decide (My.kB a.2 b.2 c.2)=My.gr y a.1 b.1 c.1:=by
 rw[gU hn ya yb yc n1 n2 n3]
 exact decide_eq_decide.mpr (h.kB ha hb hc (b9 ya yb n1) (b9 ya yc n2) (b9 yb yc n3))
theorem Sep.same {y:List Nat} {ps:List (Nat×Nat)} (h:Sep y ps) {a b c:Nat×Nat} (ha:a∈ps) (hb:b∈ps) (hc:c∈ps) (e:b.1=c.1) (n:y.idxOf a.1≠y.idxOf c.1):My.kB a.2 b.2 c.2↔b.2<c.2:=by
 have h1:=h a ha b hb
 have h2:=h b hb a ha
 have h3:=h a ha c hc
 have h4:=h c hc a ha
 rw[e]at h1 h2
 unfold My.kB
 omega
theorem Sep.JV {y:List Nat} {ps:List (Nat×Nat)} (h:Sep y ps) {a b c:Nat×Nat} (ha:a∈ps) (hb:b∈ps) (hc:c∈ps) (e:a.1=b.1) (n:y.idxOf a.1≠y.idxOf c.1):My.kB a.2 b.2 c.2↔a.2<b.2:=by
 have h1:=h b hb c hc
 have h2:=h c hc b hb
 have h3:=h a ha c hc
 have h4:=h c hc a ha
 rw[<-e]at h1 h2
 unfold My.kB
 omega
section
variable {y:List Nat} {f g:Int->Nat} {a b a' b':Nat}
theorem LI (hy:Yd y) (hf:jk y f) (hg:jk y g) (h:Sep y [(aI (f (-1)),a),(f 0,b),(aI (g (-1)),a'),(g 0,b')]) (hb:b≠b') (z0:f 0=g 0) (z1:f (-1)≠g (-1)):oP a b a' b'=true↔decide (b<b')≠kL y f g 0:=by
 have r1:=hf.red 0
 have r2:=hg.red 0
 rw[show (0:Int) - 1= -1 by omega]at r1 r2
 have ya:=hy.cl _ (hf.bK (-1))
 have Rr:=hy.cl _ (hg.bK (-1))
 have n1:aI (f (-1))≠aI (g (-1)):=fun z=>z1 (gG (hy.lt _ (hf.bK _)) (hy.lt _ (hg.bK _)) z)
 have e1:=h.gr hy.nd (a:=(aI (f (-1)),a)) (b:=(aI (g (-1)),a')) (c:=(f 0,b)) (by simp) (by simp) (by simp) ya Rr (hf.bK 0) n1 (Ne.symm r1) (by rw[z0];exact Ne.symm r2)
 have e2:=h.same (a:=(aI (f (-1)),a)) (b:=(g 0,b')) (c:=(f 0,b)) (by simp) (by simp) (by simp) z0.symm (b9 ya (hf.bK 0) (Ne.symm r1))
 unfold oP
 rw[EY hy hf hg z0 z1]
 simp only at e1 e2
 rw[e1]
 generalize gr y (aI (f (-1))) (aI (g (-1))) (f 0)=G
 by_cases q:b<b'
 ·rw[decide_eq_true q,decide_eq_false (by rw[e2];omega)]
  cases G<;>simp
 ·rw[decide_eq_false q,decide_eq_true (by rw[e2];omega)]
  cases G<;>simp
theorem LJ (hy:Yd y) (hf:jk y f) (hg:jk y g) (h:Sep y [(aI (f (-1)),a),(f 0,b),(aI (g (-1)),a'),(g 0,b')]) (ha:a≠a') (z1:f (-1)=g (-1)) (z0:f 0≠g 0):oP a b a' b'=true↔decide (a'<a)≠kC y (eR f) (eR g) 0:=by
 have r1:=hf.red 0
 have r2:=hg.red 0
 rw[show (0:Int) - 1= -1 by omega]at r1 r2
 have ya:=hy.cl _ (hf.bK (-1))
 have Rr:=hy.cl _ (hg.bK (-1))
 have e1:=h.JV (a:=(aI (f (-1)),a)) (b:=(aI (g (-1)),a')) (c:=(f 0,b)) (by simp) (by simp) (by simp) (by show aI _=aI _;rw[z1]) (b9 ya (hf.bK 0) (Ne.symm r1))
 have e2:=h.gr hy.nd (a:=(aI (f (-1)),a)) (b:=(g 0,b')) (c:=(f 0,b)) (by simp) (by simp) (by simp) ya (hg.bK 0) (hf.bK 0) (by show aI _≠_;rw[z1];exact Ne.symm r2) (Ne.symm r1) (Ne.symm z0)
 have e3:kC y (eR f) (eR g) 0=gr y (aI (f (-1))) (f 0) (g 0):=EZ (f:=eR f) (g:=eR g) (a:=0) z1
 have e4:=LC hy.nd ya (hf.bK 0) (hg.bK 0) (Ne.symm r1) (by rw[z1];exact Ne.symm r2) z0
 unfold oP
 simp only at e1 e2
 rw[e3,e2,e4]
 generalize gr y (aI (f (-1))) (f 0) (g 0)=G
 by_cases q:a'<a
 ·rw[decide_eq_true q,decide_eq_false (by rw[e1];omega)]
  cases G<;>simp
 ·rw[decide_eq_false q,decide_eq_true (by rw[e1];omega)]
  cases G<;>simp
theorem vF (hy:Yd y) (hf:jk y f) (hg:jk y g) (h:Sep y [(aI (f (-1)),a),(f 0,b),(aI (g (-1)),a'),(g 0,b')]) (ha:a≠a') (hb:b≠b') (z1:f (-1)=g (-1)) (z0:f 0=g 0):oP a b a' b'=true↔decide (a'<a)≠decide (b<b'):=by
 have r1:=hf.red 0
 rw[show (0:Int) - 1= -1 by omega]at r1
 have ya:=hy.cl _ (hf.bK (-1))
 have e1:=h.JV (a:=(aI (f (-1)),a)) (b:=(aI (g (-1)),a')) (c:=(f 0,b)) (by simp) (by simp) (by simp) (by show aI _=aI _;rw[z1]) (b9 ya (hf.bK 0) (Ne.symm r1))
 have e2:=h.same (a:=(aI (f (-1)),a)) (b:=(g 0,b')) (c:=(f 0,b)) (by simp) (by simp) (by simp) z0.symm (b9 ya (hf.bK 0) (Ne.symm r1))
 unfold oP
 simp only at e1 e2
 rw[decide_eq_decide.mpr e1,decide_eq_decide.mpr e2]
 by_cases q:a'<a<;>by_cases q2:b<b'
 ·rw[decide_eq_true q,decide_eq_true q2,decide_eq_false (show ¬a<a' by omega),decide_eq_false (show ¬b'<b by omega)];simp
 ·rw[decide_eq_true q,decide_eq_false q2,decide_eq_false (show ¬a<a' by omega),decide_eq_true (show b'<b by omega)];simp
 ·rw[decide_eq_false q,decide_eq_true q2,decide_eq_true (show a<a' by omega),decide_eq_false (show ¬b'<b by omega)];simp
 ·rw[decide_eq_false q,decide_eq_false q2,decide_eq_true (show a<a' by omega),decide_eq_true (show b'<b by omega)];simp
theorem LK (hy:Yd y) (hf:jk y f) (hg:jk y g) (h:Sep y [(aI (f (-1)),a),(f 0,b),(aI (g (-1)),a'),(g 0,b')]) (z0:f 0≠g 0) (z1:f (-1)≠g (-1)) (z2:aI (f (-1))≠g 0) (z3:aI (g (-1))≠f 0):oP a b a' b'=ac y (aI (f (-1))) (f 0) (aI (g (-1))) (g 0):=by
 have r1:=hf.red 0
 have r2:=hg.red 0
 rw[show (0:Int) - 1= -1 by omega]at r1 r2
 have ya:=hy.cl _ (hf.bK (-1))
 have Rr:=hy.cl _ (hg.bK (-1))
 have n1:aI (f (-1))≠aI (g (-1)):=fun z=>z1 (gG (hy.lt _ (hf.bK _)) (hy.lt _ (hg.bK _)) z)
 have e1:=h.gr hy.nd (a:=(aI (f (-1)),a)) (b:=(aI (g (-1)),a')) (c:=(f 0,b)) (by simp) (by simp) (by simp) ya Rr (hf.bK 0) n1 (Ne.symm r1) z3
 have e2:=h.gr hy.nd (a:=(aI (f (-1)),a)) (b:=(g 0,b')) (c:=(f 0,b)) (by simp) (by simp) (by simp) ya (hg.bK 0) (hf.bK 0) z2 (Ne.symm r1) (Ne.symm z0)
 unfold oP ac
 simp only at e1 e2
 rw[e1,e2,if_neg (fun q=>q.elim (fun q=>n1 q.symm) fun q=>q.elim z3 fun q=>q.elim (fun q=>z2 q.symm) fun q=>z0 q.symm)]
end
noncomputable def sm:Nat->(Int->Int)->Int
 | 0,_=>0
 | n+1,h=>sm n h+h n
theorem aO {h g:Int->Int}: ∀{n:Nat},(∀i:Nat,i<n->h i=g i)->sm n h=sm n g
 | 0,_=>rfl
 | n+1,e=>by
  show sm n h+h n=sm n g+g n
  rw[aO fun i hi=>e i (by omega),e n (by omega)]
theorem lE (h g:Int->Int): ∀n:Nat,sm n (fun i=>h i+g i)=sm n h+sm n g
 | 0=>rfl
 | n+1=>by
  show sm n _+(h n+g n)=(sm n h+h n)+(sm n g+g n)
  rw[lE h g n];omega
theorem zQ (h g:Int->Int): ∀n:Nat,sm n (fun i=>h i - g i)=sm n h - sm n g
 | 0=>rfl
 | n+1=>by
  show sm n _+(h n - g n)=(sm n h+h n) - (sm n g+g n)
  rw[zQ h g n];omega
theorem eE: ∀n:Nat,sm n (fun _=>0)=0
 | 0=>rfl
 | n+1=>by show sm n _+0=0;rw[eE n];rfl
theorem Bc (h:Int->Int): ∀n:Nat,sm n (fun i=>h (i - 1))+h ((n:Int) - 1)=sm n h+h (-1)
 | 0=>rfl
 | n+1=>by
  have:=Bc h n
  show sm n _+h ((n:Int) - 1)+h (((n+1:Nat):Int) - 1)=(sm n h+h n)+h (-1)
  rw[show ((n+1:Nat):Int) - 1=n by omega]
  omega
theorem qZ {h:Int->Int} {n:Nat} (P: ∀k,h (k+n)=h k):sm n (fun i=>h (i - 1))=sm n h:=by
 have h1:=Bc h n
 have h2:=P (-1)
 rw[show (-1:Int)+n=(n:Int) - 1 by omega]at h2
 omega
theorem Bd (h:Int->Int): ∀n:Nat,sm n (fun i=>h ((n:Int) - 1 - i))=sm n h
 | 0=>rfl
 | n+1=>by
  have e: ∀(m:Nat) (g:Int->Int),sm (m+1) g=g 0+sm m (fun i=>g (i+1)):=fun m=>by
   induction m with
   | zero=>intro g;show (0:Int)+g 0=g 0+0;omega
   | succ m ih=>intro g;show sm (m+1) g+g ((m+1:Nat):Int)=g 0+(sm m (fun i=>g (i+1))+g ((m:Int)+1));rw[ih];rw[show ((m+1:Nat):Int)=(m:Int)+1 by omega];omega
  rw[e]
  have:=Bd h n
  show h (((n+1:Nat):Int) - 1 - 0)+sm n (fun i=>h (((n+1:Nat):Int) - 1 - (i+1)))=sm n h+h n
  rw[show ((n+1:Nat):Int) - 1 - 0=n by omega, <-this,Int.add_comm]
  congr 1
  exact aO fun i _=>by congr 1;omega
theorem Be {h:Int->Int} {n:Nat} (P: ∀k,h (k+n)=h k):sm n (fun i=>h (i+1))=sm n h:=by
 have:=qZ (h:=fun i=>h (i+1)) (n:=n) (fun k=>by show h (k+n+1)=h (k+1);rw[<-P (k+1)];congr 1;omega)
 rw[<-this]
 exact aO fun i _=>by show h ((i:Int) - 1+1)=h i;congr 1;omega
theorem E1 {h:Int->Int} {n:Nat} (P: ∀k,h (k+n)=h k):sm n (fun i=>h (-i))=sm n h:=by
 rw[<-Bd (fun i=>h (-i)) n, <-Be P]
 exact aO fun i _=>by
  show h (-((n:Int) - 1 - i))=h (i+1)
  rw[<-P (-((n:Int) - 1 - i))];congr 1;omega
theorem LL {h:Int->Int} {n:Nat} (P: ∀k,h (k+n)=h k):sm n (fun i=>h (1 - i))=sm n h:=by
 rw[<-Be P, <-E1 (h:=fun i=>h (i+1)) (fun k=>by show h (k+n+1)=h (k+1);rw[<-P (k+1)];congr 1;omega)]
 exact aO fun i _=>by show h (1 - (i:Int))=h (-(i:Int)+1);congr 1;omega
noncomputable def cH (n m:Nat) (h:Int->Int->Int):Int:=sm n fun i=>sm m fun j=>h i j
theorem bZ {n m:Nat} {h g:Int->Int->Int} (e: ∀i j:Nat,i<n->j<m->h i j=g i j):cH n m h=cH n m g:=aO fun i hi=>aO fun j hj=>e i j hi hj
theorem dj (n m:Nat) (h g:Int->Int->Int):cH n m (fun i j=>h i j+g i j)=cH n m h+cH n m g:=by
 unfold cH
 rw[<-lE]
 exact aO fun i _=>lE _ _ _
theorem Io (n m:Nat) (h g:Int->Int->Int):cH n m (fun i j=>h i j - g i j)=cH n m h - cH n m g:=by
 unfold cH
 rw[<-zQ]
 exact aO fun i _=>zQ _ _ _
theorem CN {n m:Nat} {h:Int->Int->Int} (P: ∀i j,h (i+n) j=h i j) (Q: ∀i j,h i (j+m)=h i j):cH n m (fun i j=>h (i - 1) (j - 1))=cH n m h:=by
 unfold cH
 have e: ∀i:Int,sm m (fun j=>h i (j - 1))=sm m (h i):=fun i=>qZ (Q i)
 rw[<-qZ (h:=fun i=>sm m fun j=>h i j) (n:=n) (fun k=>aO fun j _=>P k j)]
 exact aO fun i _=>e _
structure MT (y:List Nat) (n:Nat) (F:Int->Int->Nat) (o i:Int->Nat):Prop where
 pos:0<n
 zR: ∀k,jk y (F k)
 bk: ∀k,eR (F k)=F (k - 1)
 Qj: ∀k,F (k+n)=F k
 own: ∀k x,F k (x+n)=F k x
 op: ∀k,o (k+n)=o k
 ip: ∀k,i (k+n)=i k
structure JW (y:List Nat) (F:Int->Int->Nat) (o i:Int->Nat) (G:Int->Int->Nat) (o' i':Int->Nat):Prop where
 sep: ∀s t,Sep y [(aI (F s (-1)),i (s - 1)),(F s 0,o s),(aI (G t (-1)),i' (t - 1)),(G t 0,o' t)]
 on: ∀s t a b,Run (F s) (G t) a b->o s≠o' t/\i s≠i' t/\decide (o s<o' t)=zO y (F s) (G t) a b/\decide (i' t<i s)=zO y (F s) (G t) a b
def E2 (F G:Int->Int->Nat) (s t:Int):Prop:=F s 0=G t 0\/F s (-1)=G t (-1)
def par (F G:Int->Int->Nat) (s t:Int):Prop:= ∀k,F s k=G t k
noncomputable def Ip (o i o' i':Int->Nat) (s t:Int):Bool:=oP (i (s - 1)) (o s) (i' (t - 1)) (o' t)
theorem E3 {y:List Nat} {n m:Nat} {F G:Int->Int->Nat} {o i o' i':Int->Nat} (hF:MT y n F o i) (hG:MT y m G o' i') {s t:Int}:par F G (s - 1) (t - 1)↔par F G s t:=by
 unfold par
 rw[<-hF.bk, <-hG.bk]
 unfold eR
 exact ⟨fun h k=>by have:=h (k+1);rwa [show k+1 - 1=k by omega]at this,fun h k=>h _⟩
theorem Bf {y:List Nat} {n m:Nat} {F G:Int->Int->Nat} {o i o' i':Int->Nat} (hy:Yd y) (hF:MT y n F o i) (hG:MT y m G o' i') (h:JW y F o i G o' i'):
  cH n m (fun s t=>one (E2 F G s t/\Ip o i o' i' s t=true/\ ¬par F G s t))=cH n m fun s t=>one (wV y (F s) (G t)):=by
 have pt: ∀s t:Int,one (E2 F G s t/\Ip o i o' i' s t=true/\ ¬par F G s t)=one (wV y (F s) (G t))+one (uB y (F (s - 1)) (G (t - 1))) - one (uB y (F s) (G t)):=fun s t=>by
  by_cases hp:par F G s t
  ·have nr: ∀{a b}, ¬Run (F s) (G t) a b:=fun r=>r.hi (hp _)
   have zP:=(E3 hF hG).mpr hp
   have Xq: ∀{a b}, ¬Run (F (s - 1)) (G (t - 1)) a b:=fun r=>r.hi (zP _)
   rw[aZ (fun z=>z.2.2 hp),aZ (fun ⟨_,r,_⟩=>nr r),aZ (fun ⟨_,_,r,_⟩=>Xq r),aZ (fun ⟨_,_,r,_⟩=>nr r)]
   rfl
  ·by_cases ht:E2 F G s t
   ·have dz: ∃k,F s k≠G t k:=Classical.byContradiction fun z=>hp fun k=>Classical.byContradiction fun q=>z ⟨k,q⟩
    have LM: ∃k,F (s - 1) k≠G (t - 1) k:=Classical.byContradiction fun z=>hp ((E3 hF hG).mp fun k=>Classical.byContradiction fun q=>z ⟨k,q⟩)
    have e1: ∀s,F (s - 1) 0=F s (-1):=fun s=>by rw[<-hF.bk];rfl
    have e2: ∀t,G (t - 1) 0=G t (-1):=fun s=>by rw[<-hG.bk];rfl
    have ei:one (E2 F G s t/\Ip o i o' i' s t=true/\ ¬par F G s t)=one (Ip o i o' i' s t=true):=bA ⟨fun z=>z.2.1,fun z=>⟨ht,z,hp⟩⟩
    rw[ei, <-hF.bk, <-hG.bk]
    refine EW (e0:=decide (o s<o' t)) (e1:=decide (i' (t - 1)<i (s - 1))) (fun z=>?_) (fun z=>?_) (fun a b r=>(h.on s t a b r).2.2.1) (fun a b r=>?_) (fun z0 z1=>?_) (fun z1 z0=>?_) (fun z1 z0=>?_) ht
    ·obtain ⟨a,b,r,_⟩:=dE hF.pos hG.pos (hF.own s) (hG.own t) z dz
     exact ⟨a,b,r⟩
    ·obtain ⟨a,b,r,_⟩:=dE hF.pos hG.pos (hF.own (s - 1)) (hG.own (t - 1)) (by rw[e1,e2];exact z) LM
     rw[hF.bk,hG.bk]
     exact ⟨a,b,r⟩
    ·rw[hF.bk,hG.bk]at r ⊢
     exact (h.on _ _ a b r).2.2.2
    ·obtain ⟨a,b,r,_⟩:=dE hF.pos hG.pos (hF.own s) (hG.own t) z0 dz
     exact LI hy (hF.zR s) (hG.zR t) (h.sep s t) (h.on s t a b r).1 z0 z1
    ·obtain ⟨a,b,r,_⟩:=dE hF.pos hG.pos (hF.own (s - 1)) (hG.own (t - 1)) (by rw[e1,e2];exact z1) LM
     exact LJ hy (hF.zR s) (hG.zR t) (h.sep s t) (h.on _ _ a b r).2.1 z1 z0
    ·obtain ⟨a,b,r,_⟩:=dE hF.pos hG.pos (hF.own s) (hG.own t) z0 dz
     obtain ⟨a2,b2,r2,_⟩:=dE hF.pos hG.pos (hF.own (s - 1)) (hG.own (t - 1)) (by rw[e1,e2];exact z1) LM
     exact vF hy (hF.zR s) (hG.zR t) (h.sep s t) (h.on _ _ a2 b2 r2).2.1 (h.on s t a b r).1 z1 z0
   ·have t0:F s 0≠G t 0:=fun z=>ht (.inl z)
    have t1:F (s - 1) 0≠G (t - 1) 0:=by
     rw[<-hF.bk, <-hG.bk]
     exact fun z=>ht (.inr z)
    rw[aZ (fun z=>ht z.1),aZ (fun ⟨_,r,_⟩=>t0 r.zero),aZ (fun ⟨_,_,r,_⟩=>t1 r.zero),aZ (fun ⟨_,_,r,_⟩=>t0 r.zero)]
    rfl
 have e:cH n m (fun s t=>one (E2 F G s t/\Ip o i o' i' s t=true/\ ¬par F G s t))=cH n m (fun s t=>(one (wV y (F s) (G t))+one (uB y (F (s - 1)) (G (t - 1)))) - one (uB y (F s) (G t))):=bZ fun s t _ _=>pt s t
 rw[e,Io,dj,CN (h:=fun s t=>one (uB y (F s) (G t))) (fun s t=>by rw[hF.Qj]) (fun s t=>by rw[hG.Qj])]
 omega
theorem bo {y w:List Nat} (h:SW y w) (i:Int):jk y (sq w i):=⟨fun k=>h.rd _,fun k=>by
 unfold sq
 have:=h.red (i+k)
 rwa [show i+k - 1=i+(k - 1) by omega]at this⟩
theorem fD (w:List Nat) (i:Int):kg (sq w i)=bq w i:=by
 funext k
 unfold kg sq bq
 rw[show i+ -k=i - k by omega]
theorem lF {y w:List Nat} (hy:Yd y) (h:SW y w) (i:Int):jk y (bq w i):=by rw[<-fD];exact (bo h i).rv hy
theorem zS (w:List Nat) (i:Int):sq w (i+w.length)=sq w i:=by
 funext k
 unfold sq
 rw[show i+(w.length:Int)+k=i+k+w.length by omega,iR]
theorem zT (w:List Nat) (i:Int):bq w (i+w.length)=bq w i:=by rw[<-fD, <-fD,zS]
theorem E4 {y w:List Nat} {po pi:Int->Nat} (h:SW y w) (P: ∀k,po (k+w.length)=po k) (Q: ∀k,pi (k+w.length)=pi k):MT y w.length (sq w) po pi:=
 ⟨WO.mpr h.ne,bo h,fun k=>by funext x;unfold eR sq;congr 1;omega,zS w,fun k x=>b_ w k x,P,Q⟩
theorem Bg {n:Nat} {h:Int->Nat} (P: ∀k,h (k+n)=h k) (k:Int):h (-(k+n))=h (-k):=by rw[<-P (-(k+n))];congr 1;omega
theorem LN {y w:List Nat} {po pi:Int->Nat} (hy:Yd y) (h:SW y w) (P: ∀k,po (k+w.length)=po k) (Q: ∀k,pi (k+w.length)=pi k):MT y w.length (fun k=>bq w (-k)) (fun k=>pi (-k)) (fun k=>po (-k)):=
 ⟨WO.mpr h.ne,fun k=>lF hy h _,fun k=>by funext x;unfold eR bq;congr 2;omega,fun k=>by
  show bq w (-(k+w.length))=bq w (-k)
  rw[<-zT w (-(k+w.length))];congr 1;omega,fun k x=>nR w _ x,Bg Q,Bg P⟩
section
variable {y w v:List Nat} {po pi qo qi:Int->Nat}
noncomputable def jg (po pi qo qi:Int->Nat) (i j:Int):Bool:=oP (pi (i - 1)) (po i) (qi (j - 1)) (qo j)
def cB (w v:List Nat) (i j:Int):Prop:= ∀k,sq w i k=sq v j k
def lG (w v:List Nat) (i j:Int):Prop:= ∀k,sq w i k=bq v (j - 1) k
def MU (w v:List Nat) (i j:Int):Prop:=rd w i=rd v j\/rd w (i - 1)=rd v (j - 1)
def Bh (w v:List Nat) (i j:Int):Prop:=rd w i=aI (rd v (j - 1))\/rd w (i - 1)=aI (rd v j)
theorem Iq (w v:List Nat) (i j:Int):E2 (sq w) (sq v) i j↔MU w v i j:=by
 unfold E2 MU sq
 rw[show i+0=i by omega,show j+0=j by omega]
 rfl
theorem Ir (w v:List Nat) (i k:Int):E2 (sq w) (fun k=>bq v (-k)) i k↔Bh w v i (1 - k):=by
 unfold E2 Bh sq bq
 show rd w (i+0)=aI (rd v (-k - 0))\/rd w (i+ -1)=aI (rd v (-k - -1))↔_
 rw[show i+0=i by omega,show -k - 0=1 - k - 1 by omega,show -k - -1=1 - k by omega]
 rfl
theorem TH (hy:Yd y) (hw:SW y w) (hv:SW y v) {i j:Int} (h:MU w v i j) (g:Bh w v i j):False:=by
 have uS:=hw.red i
 have Vu:=hv.red j
 have l1:=hy.lt _ (hw.rd (i - 1))
 have l2:=hy.lt _ (hv.rd (j - 1))
 have l3:=hy.lt _ (hv.rd j)
 rcases h with h | h<;>rcases g with g | g
 ·exact Vu (h.symm.trans g)
 ·rw[<-h]at g;exact uS (by rw[g,aT (hy.lt _ (hw.rd i))])
 ·rw[<-h]at g;exact uS g
 ·rw[h]at g;exact Vu (by rw[g,aT l3])
theorem x3 (hy:Yd y) (hw:SW y w) (hv:SW y v) (P1: ∀k,po (k+w.length)=po k) (P2: ∀k,pi (k+w.length)=pi k) (Q1: ∀k,qo (k+v.length)=qo k) (Q2: ∀k,qi (k+v.length)=qi k)
  (hS:JW y (sq w) po pi (sq v) qo qi) (hO:JW y (sq w) po pi (fun k=>bq v (-k)) (fun k=>qi (-k)) (fun k=>qo (-k))):
  cH w.length v.length (fun i j=>one (jg po pi qo qi i j=true))=
   cH w.length v.length (fun i j=>one (ac y (aI (rd w (i - 1))) (rd w i) (aI (rd v (j - 1))) (rd v j)=true))+cH w.length v.length (fun i j=>one (0<al y (sq w i) (sq v j) (w.length+v.length)))+cH w.length v.length (fun i j=>one (0<al y (sq w i) (bq v j) (w.length+v.length)))
   +cH w.length v.length (fun i j=>one (cB w v i j/\jg po pi qo qi i j=true))+cH w.length v.length (fun i j=>one (lG w v i j/\jg po pi qo qi i j=true)):=by
 have fw:=E4 hw P1 P2
 have fv:=E4 hv Q1 Q2
 have fo:=LN hy hv Q1 Q2
 have s1:=Bf hy fw fv hS
 have s2:=Bf hy fw fo hO
 have e1:cH w.length v.length (fun s t=>one (wV y (sq w s) (sq v t)))=cH w.length v.length (fun i j=>one (0<al y (sq w i) (sq v j) (w.length+v.length))):=bZ fun i j _ _=>bA (qY hy (bo hw _) (bo hv _) fun z=>eQ hw.ne hv.ne (fun k=>b_ w i k) (fun k=>b_ v j k) z)
 have e2:cH w.length v.length (fun s t=>one (wV y (sq w s) (bq v (-t))))=cH w.length v.length (fun i j=>one (0<al y (sq w i) (bq v j) (w.length+v.length))):=by
  have:cH w.length v.length (fun s t=>one (wV y (sq w s) (bq v (-t))))=cH w.length v.length (fun s t=>one (wV y (sq w s) (bq v t))):=aO fun i _=>E1 (h:=fun t=>one (wV y (sq w i) (bq v t))) fun k=>by rw[zT]
  rw[this]
  exact bZ fun i j _ _=>bA (qY hy (bo hw _) (lF hy hv _) fun z=>eQ hw.ne hv.ne (fun k=>b_ w i k) (fun k=>nR v j k) z)
 have e3:cH w.length v.length (fun s t=>one (E2 (sq w) (fun k=>bq v (-k)) s t/\Ip po pi (fun k=>qi (-k)) (fun k=>qo (-k)) s t=true/\ ¬par (sq w) (fun k=>bq v (-k)) s t))=cH w.length v.length (fun i j=>one (Bh w v i j/\jg po pi qo qi i j=true/\ ¬lG w v i j)):=by
  have P: ∀i:Int, ∀k:Int,(fun j=>one (Bh w v i j/\jg po pi qo qi i j=true/\ ¬lG w v i j)) (k+v.length)=(fun j=>one (Bh w v i j/\jg po pi qo qi i j=true/\ ¬lG w v i j)) k:=fun i k=>by
   show one (Bh w v i (k+v.length)/\jg po pi qo qi i (k+v.length)=true/\ ¬lG w v i (k+v.length))=_
   unfold Bh jg lG
   rw[show k+(v.length:Int) - 1=k - 1+v.length by omega,iR,iR,Q1,Q2,zT]
  refine aO fun i _=>(aO fun k _=>?_).trans (LL (P i))
  refine bA ?_
  rw[Ir]
  have ec:Ip po pi (fun k=>qi (-k)) (fun k=>qo (-k)) i k=jg po pi qo qi i (1 - k):=by
   unfold Ip jg
   rw[jI]
   show oP (pi ((i:Int) - 1)) (po i) (qi (-(k:Int))) (qo (-((k:Int) - 1)))=_
   rw[show -((k:Int) - 1)=1 - k by omega,show (1:Int) - k - 1= -k by omega]
  have ep:par (sq w) (fun k=>bq v (-k)) i k↔lG w v i (1 - k):=by
   unfold par lG
   rw[show (1:Int) - k - 1= -k by omega]
  rw[ec,ep]
 rw[e1]at s1
 rw[e2,e3]at s2
 rw[<-s1, <-s2, <-dj, <-dj, <-dj, <-dj]
 refine bZ fun i j _ _=>?_
 have hc:Ip po pi qo qi i j=jg po pi qo qi i j:=rfl
 have et:=Iq w v i j
 have pS:cB w v i j->MU w v i j:=fun z=> .inl (by have:=z 0;unfold sq at this;rwa [show (i:Int)+0=i by omega,show (j:Int)+0=j by omega]at this)
 have pO:lG w v i j->Bh w v i j:=fun z=> .inl (by have:=z 0;unfold sq bq at this;rwa [show (i:Int)+0=i by omega,show (j:Int) - 1 - 0=j - 1 by omega]at this)
 have Xr:MU w v i j-> ¬ac y (aI (rd w (i - 1))) (rd w i) (aI (rd v (j - 1))) (rd v j)=true:=fun z=>by
  unfold ac
  rw[if_pos (z.elim (fun z=> .inr (.inr (.inr z.symm))) fun z=> .inl (by rw[z]))]
  decide
 have Xs:Bh w v i j-> ¬ac y (aI (rd w (i - 1))) (rd w i) (aI (rd v (j - 1))) (rd v j)=true:=fun z=>by
  unfold ac
  rw[if_pos (z.elim (fun z=> .inr (.inl z.symm)) fun z=> .inr (.inr (.inl (by rw[z,aT (hy.lt _ (hv.rd _))]))))]
  decide
 have ep:par (sq w) (sq v) i j↔cB w v i j:=Iff.rfl
 by_cases tS:MU w v i j
 ·have nO: ¬Bh w v i j:=fun z=>TH hy hw hv tS z
  rw[aZ (Xr tS),aZ (p:=Bh w v i j/\_) (fun z=>nO z.1),aZ (p:=lG w v i j/\_) (fun z=>nO (pO z.1))]
  by_cases c:jg po pi qo qi i j=true
  ·by_cases q:cB w v i j
   ·rw[fX c,aZ (fun z=>z.2.2 q),fX ⟨q,c⟩];rfl
   ·rw[fX c,fX ⟨et.mpr tS,c,q⟩,aZ (fun z=>q z.1)];rfl
  ·rw[aZ c,aZ (fun z=>c z.2.1),aZ (fun z=>c z.2)];rfl
 ·rw[aZ (p:=E2 _ _ _ _/\_) (fun z=>tS (et.mp z.1)),aZ (p:=cB w v i j/\_) (fun z=>tS (pS z.1))]
  by_cases tO:Bh w v i j
  ·rw[aZ (Xs tO)]
   by_cases c:jg po pi qo qi i j=true
   ·by_cases q:lG w v i j
    ·rw[fX c,aZ (fun z=>z.2.2 q),fX ⟨q,c⟩];rfl
    ·rw[fX c,fX ⟨tO,c,q⟩,aZ (fun z=>q z.1)];rfl
   ·rw[aZ c,aZ (fun z=>c z.2.1),aZ (fun z=>c z.2)];rfl
  ·rw[aZ (p:=Bh w v i j/\_) (fun z=>tO z.1),aZ (p:=lG w v i j/\_) (fun z=>tO (pO z.1))]
   have l2:=hy.lt _ (hv.rd (j - 1))
   have l3:=hy.lt _ (hv.rd j)
   have l1:=hy.lt _ (hw.rd (i - 1))
   have f0: ∀(u:List Nat) (i:Int),sq u i 0=rd u i:=fun u i=>by unfold sq;rw[show i+0=i by omega]
   have f1: ∀(u:List Nat) (i:Int),sq u i (-1)=rd u (i - 1):=fun u i=>rfl
   have e:=LK hy (bo hw i) (bo hv j) (hS.sep i j) (fun z=>tS (.inl (by rw[f0,f0]at z;exact z))) (fun z=>tS (.inr z)) (fun z=>tO (.inr (by rw[f0,f1]at z;rw[<-z,aT l1]))) (fun z=>tO (.inl (by rw[f0,f1]at z;exact z.symm)))
   rw[f0,f0,f1,f1]at e
   have e':jg po pi qo qi i j=ac y (aI (rd w (i - 1))) (rd w i) (aI (rd v (j - 1))) (rd v j):=e
   rw[e']
   omega
end
section
variable {y w v:List Nat} {po pi qo qi:Int->Nat}
theorem Iu (hy:Yd y) (hw:SW y w) (hv:SW y v) (hS:JW y (sq w) po pi (sq v) qo qi) (D:Bool)
  (h: ∀i j,cB w v i j->po i≠qo j/\pi i≠qi j/\decide (po i<qo j)=D/\decide (qi j<pi i)=D):cH w.length v.length (fun i j=>one (cB w v i j/\jg po pi qo qi i j=true))=0:=by
 have: ∀i j:Int, ¬(cB w v i j/\jg po pi qo qi i j=true):=fun i j ⟨p,c⟩=>by
  have p1:cB w v (i - 1) (j - 1):=fun k=>by
   have:=p (k - 1)
   unfold sq at this ⊢
   rw[show i - 1+k=i+(k - 1) by omega,show j - 1+k=j+(k - 1) by omega]
   exact this
  have h0:=h i j p
  have h1:=h _ _ p1
  have:=(vF hy (bo hw i) (bo hv j) (hS.sep i j) h1.2.1 h0.1 (p (-1)) (p 0)).mp c
  exact this (h1.2.2.2.trans h0.2.2.1.symm)
 rw[show (0:Int)=cH w.length v.length (fun _ _=>0) by unfold cH;rw[show (fun _:Int=>sm v.length fun _=>0)=fun _=>0 from funext fun _=>eE _,eE]]
 exact bZ fun i j _ _=>aZ (this i j)
theorem Iv (hy:Yd y) (hw:SW y w) (hv:SW y v) (hO:JW y (sq w) po pi (fun k=>bq v (-k)) (fun k=>qi (-k)) (fun k=>qo (-k))) (D:Bool)
  (h: ∀i j,(∀k,sq w i k=bq v j k)->po i≠qi j/\pi i≠qo j/\decide (po i<qi j)=D/\decide (qo j<pi i)=D):cH w.length v.length (fun i j=>one (lG w v i j/\jg po pi qo qi i j=true))=0:=by
 have: ∀i j:Int, ¬(lG w v i j/\jg po pi qo qi i j=true):=fun i j ⟨p,c⟩=>by
  have p1: ∀k,sq w (i - 1) k=bq v j k:=fun k=>by
   have:=p (k - 1)
   unfold sq bq at this ⊢
   rw[show i - 1+k=i+(k - 1) by omega,this]
   congr 2;omega
  have h0:=h i (j - 1) p
  have h1:=h _ _ p1
  have s:=hO.sep i (1 - j)
  simp only[show -(1 - j)=j - 1 by omega,show -(1 - j - 1)=j by omega]at s
  unfold jg at c
  rw[jI]at c
  have:=(vF hy (bo hw i) (lF hy hv (j - 1)) s h1.2.1 h0.1 (p (-1)) (p 0)).mp c
  exact this (h1.2.2.2.trans h0.2.2.1.symm)
 rw[show (0:Int)=cH w.length v.length (fun _ _=>0) by unfold cH;rw[show (fun _:Int=>sm v.length fun _=>0)=fun _=>0 from funext fun _=>eE _,eE]]
 exact bZ fun i j _ _=>aZ (this i j)
theorem vG (hy:Yd y) (hw:SW y w) (i j:Int): ¬ ∀k,sq w i k=bq w j k:=fun h=>by
 unfold sq bq at h
 rcases (show (j - i)%2=0\/(j - i)%2=1 by omega) with z | z
 ·have:=h ((j - i) / 2)
  rw[show i+(j - i) / 2=j - (j - i) / 2 by omega]at this
  exact iM (hy.lt _ (hw.rd _)) this.symm
 ·have:=h ((j - i) / 2+1)
  rw[show j - ((j - i) / 2+1)=i+((j - i) / 2+1) - 1 by omega]at this
  exact hw.red _ this
theorem x4 (h:Int->Int) (n:Nat): ∀m:Nat,sm (n+m) h=sm n h+sm m (fun i=>h (n+i))
 | 0=>by show sm n h=sm n h+0;omega
 | m+1=>by
  show sm (n+m) h+h ((n+m:Nat):Int)=sm n h+(sm m (fun i=>h (n+i))+h (n+m))
  rw[x4 h n m,show ((n+m:Nat):Int)=(n:Int)+m by omega]
  omega
theorem jJ {h:Int->Int}: ∀{s:Nat},0<s->(∀i:Nat,0<i->i<s->h i=0)->sm s h=h 0
 | 0,h0,_=>absurd h0 (Z5 _)
 | 1,_,_=>by show (0:Int)+h 0=h 0;omega
 | s+2,_,g=>by
  show sm (s+1) h+h ((s+1:Nat):Int)=h 0
  rw[jJ (s:=s+1) (by omega) (fun i h1 h2=>g i h1 (by omega)),g (s+1) (by omega) (by omega)]
  omega
theorem Bi {h:Int->Int} {s:Nat} (hs:0<s) (g: ∀i:Nat,h i=if i%s=0 then 1 else 0): ∀k:Nat,sm (k*s) h=k
 | 0=>by rw[Nat.zero_mul];rfl
 | k+1=>by
  rw[Qb1,x4,Bi hs g k,jJ hs]
  ·have:=g (k*s)
   rw[if_pos (Nat.mul_mod_left k s)]at this
   show (k:Int)+h (((k*s:Nat):Int)+0)=((k+1:Nat):Int)
   rw[Qaz,this]
   omega
  ·intro i h1 h2
   have:=g (k*s+i)
   rw[if_neg (by rw[Qbb,Nat.mul_add_mod,Qa3 h2];omega)]at this
   rw[<-this]
   congr 1
theorem E5 (hy:Yd y) (hw:SW y w) (hS:JW y (sq w) po pi (sq w) po pi) {s k:Nat} (hs:0<s) (hn:w.length=k*s) (hk:0<k) (hr: ∀j:Nat,j<w.length->(cB w w 0 j↔j%s=0))
  (h: ∀i j:Int,cB w w i j->i%w.length≠j%w.length->po i≠po j/\pi i≠pi j/\decide (po i<po j)=decide (i%w.length<j%w.length)/\decide (pi j<pi i)=decide (i%w.length<j%w.length)):
  cH w.length w.length (fun i j=>one (cB w w i j/\jg po pi po pi i j=true))=2*((k:Int) - 1):=by
 have pt: ∀i j:Nat,i<w.length->j<w.length->one (cB w w i j/\jg po pi po pi i j=true)=(if i=0 then one (j≠0/\cB w w 0 j) else 0)+(if j=0 then one (i≠0/\cB w w 0 i) else 0):=fun i j hi hj=>by
  have sym:cB w w 0 i↔cB w w i 0:=⟨fun q k=>(q k).symm,fun q k=>(q k).symm⟩
  by_cases e:i=j
  ·subst e
   rw[aZ (fun q=>by have:=q.2;unfold jg at this;rw[xY]at this;cases this)]
   by_cases z:i=0
   ·rw[if_pos z,aZ (fun q=>q.1 z)];rfl
   ·rw[if_neg z];rfl
  ·have key:cB w w i j->(jg po pi po pi i j=true↔(i=0\/j=0)):=fun p=>by
    have p1:cB w w ((i:Int) - 1) ((j:Int) - 1):=fun k=>by
     have:=p (k - 1)
     unfold sq at this ⊢
     rw[show (i:Int) - 1+k=i+(k - 1) by omega,show (j:Int) - 1+k=j+(k - 1) by omega]
     exact this
    have m0: ∀i:Nat,i<w.length->(i:Int)%w.length=i:=fun i hi=>ZO (by omega) (by omega)
    have m1: ∀i:Nat,i<w.length->((i:Int) - 1)%w.length=if i=0 then (w.length:Int) - 1 else i - 1:=fun i hi=>by
     split
     ·rename_i z
      rw[<-Qbg,ZO (by omega) (by omega)];omega
     ·exact ZO (by omega) (by omega)
    have h0:=h i j p (by rw[m0 i hi,m0 j hj];omega)
    have h1:=h _ _ p1 (by rw[m1 i hi,m1 j hj];split<;>split<;>omega)
    have c:=vF hy (bo hw i) (bo hw j) (hS.sep i j) h1.2.1 h0.1 (p (-1)) (p 0)
    rw[h0.2.2.1,h1.2.2.2,m0 i hi,m0 j hj,m1 i hi,m1 j hj]at c
    have c':jg po pi po pi i j=true↔_:=c
    rw[c',Ne,decide_eq_decide]
    split<;>split<;>omega
   by_cases z:i=0
   ·have j0:j≠0:=fun q=>e (z.trans q.symm)
    rw[if_pos z,if_neg j0]
    rw[z]at key ⊢
    have:one (cB w w ((0:Nat):Int) j/\jg po pi po pi ((0:Nat):Int) j=true)=one (j≠0/\cB w w 0 j):=bA ⟨fun q=>⟨j0,q.1⟩,fun q=>⟨q.2,(key q.2).mpr (.inl rfl)⟩⟩
    rw[this];omega
   ·rw[if_neg z]
    by_cases j0:j=0
    ·rw[if_pos j0]
     rw[j0]at key ⊢
     have:one (cB w w i ((0:Nat):Int)/\jg po pi po pi i ((0:Nat):Int)=true)=one (i≠0/\cB w w 0 i):=bA ⟨fun q=>⟨z,sym.mpr q.1⟩,fun q=>⟨sym.mp q.2,(key (sym.mp q.2)).mpr (.inr rfl)⟩⟩
     rw[this];omega
    ·rw[if_neg j0,aZ (fun q=>by rcases (key q.1).mp q.2 with q | q<;>contradiction)];rfl
 have cnt:sm w.length (fun j=>one (j≠0/\cB w w 0 j))=(k:Int) - 1:=by
  have e1:sm w.length (fun j=>one (cB w w 0 j))=k:=by
   have:sm w.length (fun j=>one (cB w w 0 j))=sm w.length (fun j=>if j.toNat%s=0 then 1 else 0):=aO fun j hj=>by
    rw[bA (hr j hj),U6]
    by_cases z:j%s=0
    ·rw[fX z,if_pos z]
    ·rw[aZ z,if_neg z]
   rw[this,hn]
   exact Bi hs (fun i=>by rw[U6]) k
  have e2:sm w.length (fun j=>one (cB w w 0 j))=sm w.length (fun j=>one (j≠0/\cB w w 0 j))+sm w.length (fun j=>if j=0 then 1 else 0):=by
   rw[<-lE]
   refine aO fun j hj=>?_
   by_cases z:j=0
   ·subst z
    rw[fX (show cB w w 0 ((0:Nat):Int) from fun k=>rfl),aZ (fun q=>q.1 rfl)];rfl
   ·rw[if_neg (by omega),Qaz]
    exact bA ⟨fun q=>⟨by omega,q⟩,fun q=>q.2⟩
  have e3:sm w.length (fun j=>if j=0 then (1:Int) else 0)=1:=by
   rw[jJ (WO.mpr hw.ne) (fun i h1 _=>by rw[if_neg (by omega)]),if_pos rfl]
  omega
 have lp:0<w.length:=WO.mpr hw.ne
 have e:cH w.length w.length (fun i j=>one (cB w w i j/\jg po pi po pi i j=true))=cH w.length w.length (fun i j=>(if i=0 then one (j≠0/\cB w w 0 j) else 0)+(if j=0 then one (i≠0/\cB w w 0 i) else 0)):=bZ fun i j hi hj=>by
  rw[pt i j hi hj]
  congr 1
  ·by_cases z:i=0
   ·rw[if_pos z,if_pos (by omega)]
    exact bA ⟨fun q=>⟨by omega,q.2⟩,fun q=>⟨by omega,q.2⟩⟩
   ·rw[if_neg z,if_neg (by omega)]
  ·by_cases z:j=0
   ·rw[if_pos z,if_pos (by omega)]
    exact bA ⟨fun q=>⟨by omega,q.2⟩,fun q=>⟨by omega,q.2⟩⟩
   ·rw[if_neg z,if_neg (by omega)]
 rw[e,dj]
 have a1:cH w.length w.length (fun i j=>if i=0 then one (j≠0/\cB w w 0 j) else 0)=(k:Int) - 1:=by
  unfold cH
  rw[jJ lp]
  ·rw[<-cnt]
   exact aO fun j _=>if_pos rfl
  ·intro i h1 _
   refine Eq.trans (aO (g:=fun _=>0) fun j _=>?_) (eE _)
   have: ¬((i:Int)=0):=by omega
   exact if_neg this
 have a2:cH w.length w.length (fun i j=>if j=0 then one (i≠0/\cB w w 0 i) else 0)=(k:Int) - 1:=by
  unfold cH
  rw[<-cnt]
  refine aO fun i _=>?_
  have: ∀j:Nat,0<j-> ¬((j:Int)=0):=fun j h=>by omega
  rw[jJ lp (fun j h1 _=>if_neg (this j h1))]
  exact if_pos rfl
 omega
end
noncomputable def kk (y:List Nat) (f:Int->Nat):Nat->Nat->List Int
 | _,0=>[]
 | k,n+1=>fW y f (k+1)::fW y f (-(k:Int))::kk y f (k+1) n
theorem fE: ∀(l r t:List Int),bc (l++r) (l++t)=bc r t
 | [],_,_=>rfl
 | a::l,r,t=>by
  show (if a=a then bc (l++r) (l++t) else _)=_
  rw[if_pos rfl,fE l r t]
theorem nV {y:List Nat} {f g:Int->Nat} {a b:Nat} (hy:Yd y) (hf:jk y f) (hg:jk y g) (h:Run f g a b) (r t:List Int): ∀(n k:Nat),k<=a->k<=b->a<k+n->b<k+n->bc (kk y f k n++r) (kk y g k n++t)=if a<=b then kC y f g a else kL y f g b
 | 0,k,h1,_,h3,_=>by omega
 | n+1,k,h1,h2,h3,h4=>by
  show (if fW y f (k+1)=fW y g (k+1) then (if fW y f (-(k:Int))=fW y g (-(k:Int)) then bc (kk y f (k+1) n++r) (kk y g (k+1) n++t) else decide (fW y f (-(k:Int))<fW y g (-(k:Int)))) else decide (fW y f (k+1)<fW y g (k+1)))=_
  have e0:=h.mO k (by omega) (by omega)
  have e1:=h.mO (-(k:Int)) (by omega) (by omega)
  by_cases z:k=a
  ·subst z
   rw[if_neg (fun q=>h.hi (by
    unfold fW at q
    rw[show (k:Int)+1 - 1=k by omega, <-e0]at q
    exact mP (hy.cl _ (hf.bK _)) (hf.bK _) (hg.bK _) q)),if_pos h2]
   rfl
  ·have e2:=h.mO (k+1) (by omega) (by omega)
   rw[if_pos (by unfold fW;rw[show (k:Int)+1 - 1=k by omega,e0,e2])]
   by_cases z2:k=b
   ·subst z2
    rw[if_neg (fun q=>h.lo (by
     unfold fW at q
     rw[<-e1]at q
     have r1:=hf.red (-(k:Int))
     have r2:=hg.red (-(k:Int))
     have c1:=(eS (hy.cl _ (hf.bK (-(k:Int) - 1))) (hf.bK (-(k:Int))) (Ne.symm r1)).2.2
     have c2:=(eS (hy.cl _ (hg.bK (-(k:Int) - 1))) (hf.bK (-(k:Int))) (by rw[e1];exact Ne.symm r2)).2.2
     have:=mP (hf.bK (-(k:Int))) (hy.cl _ (hf.bK (-(k:Int) - 1))) (hy.cl _ (hg.bK (-(k:Int) - 1))) (by rw[c1,c2,q])
     exact gG (hy.lt _ (hf.bK _)) (hy.lt _ (hg.bK _)) this)),if_neg (by omega)]
    rfl
   ·have e3:=h.mO (-(k:Int) - 1) (by omega) (by omega)
    rw[if_pos (by unfold fW;rw[e1,e3])]
    exact nV hy hf hg h r t n (k+1) (by omega) (by omega) (by omega) (by omega)
noncomputable def nz (w:List Nat) (i:Int):Int->Nat:=if aD (rd w i)=true then sq w i else bq w i
noncomputable def GS (n r:Nat) (l low:Bool) (c i:Nat):List Int:=if low=l then [(c:Int),(((if low=true then i else n - 1 - i) / r:Nat):Int)] else [-(c:Int), -(((if low=true then n - 1 - i else i) / r:Nat):Int)]
noncomputable def cL (y:List Nat) (ws:List (List Nat)) (L:Nat->Bool) (r:Nat->Nat) (M c i:Nat):List Int:=kk y (nz (ws.getD c []) i) 0 M++GS (ws.getD c []).length (r c) (L c) (aD (rd (ws.getD c []) i)) c i
def Dl (w:List Nat) (i:Int) (f:Int->Nat):Prop:=f=sq w i\/f=bq w i
theorem vH {y w:List Nat} {i:Int} {f:Int->Nat} (hy:Yd y) (hw:SW y w) (h:Dl w i f):nz w i=if aD (f 0)=true then f else kg f:=by
 have s0:sq w i 0=rd w i:=by unfold sq;rw[show i+0=i by omega]
 have b0:bq w i 0=aI (rd w i):=by unfold bq;rw[show i - 0=i by omega]
 have lc:=gf _ (hy.lt _ (hw.rd i)).mem
 unfold nz
 rcases h with rfl | rfl
 ·rw[s0,fD]
 ·rw[b0,lc, <-fD,ui hy (bo hw i)]
  cases aD (rd w i)<;>rfl
theorem Dl.zR {y w:List Nat} {i:Int} {f:Int->Nat} (hy:Yd y) (hw:SW y w) (h:Dl w i f):jk y f:=by
 rcases h with rfl | rfl
 ·exact bo hw i
 ·exact lF hy hw i
theorem Run.sy {f g:Int->Nat} {a b:Nat} (h:Run f g a b):Run g f a b:=⟨fun k h1 h2=>(h.mO k h1 h2).symm,Ne.symm h.hi,Ne.symm h.lo⟩
section
variable {y:List Nat} {ws:List (List Nat)} {L:Nat->Bool} {r:Nat->Nat} {M:Nat} {N:Nat->Nat->Nat->Nat}
structure Lies (y:List Nat) (ws:List (List Nat)) (L:Nat->Bool) (r:Nat->Nat) (M:Nat) (N:Nat->Nat->Nat->Nat):Prop where
 sep: ∀c i d j e e',c<ws.length->d<ws.length->i<(ws.getD c []).length->j<(ws.getD d []).length->(e=rd (ws.getD c []) i\/e=aI (rd (ws.getD c []) i))->(e'=rd (ws.getD d []) j\/e'=aI (rd (ws.getD d []) j))->y.idxOf e<y.idxOf e'->N c i e<N d j e'
 low: ∀c i d j x,c<ws.length->d<ws.length->i<(ws.getD c []).length->j<(ws.getD d []).length->(c,i)≠(d,j)->aD x=true->(rd (ws.getD c []) i=x\/rd (ws.getD c []) i=aI x)->(rd (ws.getD d []) j=x\/rd (ws.getD d []) j=aI x)->
  N c i x≠N d j x/\N c i (aI x)≠N d j (aI x)/\decide (N c i x<N d j x)=bc (cL y ws L r M c i) (cL y ws L r M d j)/\decide (N d j (aI x)<N c i (aI x))=bc (cL y ws L r M c i) (cL y ws L r M d j)
theorem Lies.at (hy:Yd y) (hN:Lies y ws L r M N) {c i d j:Nat} {f g:Int->Nat} (hc:c<ws.length) (hd:d<ws.length) (hi:i<(ws.getD c []).length) (hj:j<(ws.getD d []).length) (hw:SW y (ws.getD c [])) (hv:SW y (ws.getD d []))
  (hf:Dl (ws.getD c []) i f) (hg:Dl (ws.getD d []) j g) (h0:f 0=g 0) (dz:(c,i)≠(d,j)):
  N c i (f 0)≠N d j (f 0)/\N c i (aI (f 0))≠N d j (aI (f 0))/\decide (N c i (f 0)<N d j (f 0))=(if aD (f 0)=true then bc (cL y ws L r M c i) (cL y ws L r M d j) else bc (cL y ws L r M d j) (cL y ws L r M c i))/\decide (N d j (aI (f 0))<N c i (aI (f 0)))=(if aD (f 0)=true then bc (cL y ws L r M c i) (cL y ws L r M d j) else bc (cL y ws L r M d j) (cL y ws L r M c i)):=by
 have s0: ∀(w:List Nat) (i:Int),sq w i 0=rd w i:=fun w i=>by unfold sq;rw[show i+0=i by omega]
 have b0: ∀(w:List Nat) (i:Int),bq w i 0=aI (rd w i):=fun w i=>by unfold bq;rw[show i - 0=i by omega]
 have ly:Lt (f 0):=hy.lt _ ((hf.zR hy hw).bK 0)
 have ML:=aT ly
 have ef:rd (ws.getD c []) i=f 0\/rd (ws.getD c []) i=aI (f 0):=by
  rcases hf with rfl | rfl
  ·exact .inl (s0 _ _).symm
  ·exact .inr (by rw[b0,aT (hy.lt _ (hw.rd _))])
 have eg:rd (ws.getD d []) j=f 0\/rd (ws.getD d []) j=aI (f 0):=by
  rw[h0]
  rcases hg with rfl | rfl
  ·exact .inl (s0 _ _).symm
  ·exact .inr (by rw[b0,aT (hy.lt _ (hv.rd _))])
 by_cases z:aD (f 0)=true
 ·rw[if_pos z]
  exact hN.low c i d j (f 0) hc hd hi hj dz z ef eg
 ·rw[if_neg z]
  have z':aD (aI (f 0))=true:=by rw[gf _ ly.mem];simpa using z
  have:=hN.low d j c i (aI (f 0)) hd hc hj hi (Ne.symm dz) z' (by rw[ML];exact eg.symm) (by rw[ML];exact ef.symm)
  rw[ML]at this
  exact ⟨Ne.symm this.2.1,Ne.symm this.1,this.2.2.2,this.2.2.1⟩
theorem Lies.run (hy:Yd y) (hN:Lies y ws L r M N) {c i d j:Nat} {f g:Int->Nat} {a b:Nat} (hc:c<ws.length) (hd:d<ws.length) (hi:i<(ws.getD c []).length) (hj:j<(ws.getD d []).length) (hw:SW y (ws.getD c [])) (hv:SW y (ws.getD d []))
  (hf:Dl (ws.getD c []) i f) (hg:Dl (ws.getD d []) j g) (hr:Run f g a b) (ha:a<M) (hb:b<M) (dz:(c,i)≠(d,j)):
  N c i (f 0)≠N d j (g 0)/\N c i (aI (f 0))≠N d j (aI (g 0))/\decide (N c i (f 0)<N d j (g 0))=zO y f g a b/\decide (N d j (aI (g 0))<N c i (aI (f 0)))=zO y f g a b:=by
 have h0:=hr.zero
 have lf:=hf.zR hy hw
 have lg:=hg.zR hy hv
 have e:(if aD (f 0)=true then bc (cL y ws L r M c i) (cL y ws L r M d j) else bc (cL y ws L r M d j) (cL y ws L r M c i))=zO y f g a b:=by
  unfold cL
  rw[vH hy hw hf,vH hy hv hg, <-h0]
  by_cases z:aD (f 0)=true
  ·rw[if_pos z,if_pos z,if_pos z,nV hy lf lg hr _ _ M 0 (WT _) (WT _) (by omega) (by omega)]
   unfold zO wU
   by_cases q:a<=b
   ·rw[if_pos q,if_neg (by simp[z];omega)]
   ·rw[if_neg q,if_pos (by simp;omega)]
  ·rw[if_neg z,if_neg z,if_neg z,nV hy (lg.rv hy) (lf.rv hy) (hr.rv hy lf lg).sy _ _ M 0 (WT _) (WT _) (by omega) (by omega), <-LG hy lf lg h0]
   unfold zO wU
   have z':aD (kg g 0)=true:=by
    show aD (aI (g 0))=true
    rw[<-h0,gf _ (hy.lt _ (lf.bK 0)).mem];simpa using z
   by_cases q:b<=a
   ·rw[if_pos q,if_neg (by simp[z'];omega)]
   ·rw[if_neg q,if_pos (by simp;omega)]
 have:=hN.at hy hc hd hi hj hw hv hf hg h0 dz
 rw[e]at this
 rw[<-h0]
 exact this
end
noncomputable def fM (n:Nat) (k:Int):Nat:=(k%(n:Int)).toNat
theorem bB {n:Nat} (h:0<n) (k:Int):fM n k<n:=by
 unfold fM
 have h1:=Qah k (b:=(n:Int)) (by omega)
 have h2:=Qad k (b:=(n:Int)) (by omega)
 omega
theorem cq {n:Nat} (h:0<n) (k:Int):((fM n k:Nat):Int)=k%n:=by
 unfold fM
 have h1:=Qah k (b:=(n:Int)) (by omega)
 omega
theorem Bj {n:Nat} (k:Int):fM n (k+n)=fM n k:=by unfold fM;rw[Qbg]
theorem bY {w:List Nat} (h:w≠[]) (k:Int):rd w (fM w.length k:Nat)=rd w k:=by rw[cq (WO.mpr h),fL]
theorem cC {w:List Nat} (h:w≠[]) (k:Int):sq w (fM w.length k:Nat)=sq w k:=by
 funext x
 unfold sq
 rw[cq (WO.mpr h), <-fL w (k%w.length+x),Qb6,fL]
theorem q0 {w:List Nat} (h:w≠[]) (k:Int):bq w (fM w.length k:Nat)=bq w k:=by rw[<-fD, <-fD,cC h]
noncomputable def pO (ws:List (List Nat)) (N:Nat->Nat->Nat->Nat) (c:Nat) (k:Int):Nat:=N c (fM (ws.getD c []).length k) (rd (ws.getD c []) k)
noncomputable def pI (ws:List (List Nat)) (N:Nat->Nat->Nat->Nat) (c:Nat) (k:Int):Nat:=N c (fM (ws.getD c []).length k) (aI (rd (ws.getD c []) k))
theorem LO {x x' p p':Int} (h:x≠x'):bc [x,p] [x',p']=decide (x<x'):=by
 show (if x=x' then _ else decide (x<x'))=_
 rw[if_neg h]
theorem vI {x p p':Int} (h:p≠p'):bc [x,p] [x,p']=decide (p<p'):=by
 show (if x=x then (if p=p' then bc [] [] else decide (p<p')) else _)=_
 rw[if_pos rfl,if_neg h]
section
variable {y:List Nat} {ws:List (List Nat)} {L:Nat->Bool} {r:Nat->Nat} {M:Nat} {N:Nat->Nat->Nat->Nat}
structure eF (y:List Nat) (ws:List (List Nat)) (L:Nat->Bool) (r:Nat->Nat) (M:Nat):Prop where
 yd:Yd y
 sw: ∀c,c<ws.length->SW y (ws.getD c [])
 big: ∀c d,c<ws.length->d<ws.length->(ws.getD c []).length+(ws.getD d []).length<=M
 l1: ∀c d i j,c<ws.length->d<ws.length->cB (ws.getD c []) (ws.getD d []) i j->L c=L d
 l2: ∀c d i j,c<ws.length->d<ws.length->(∀k,sq (ws.getD c []) i k=bq (ws.getD d []) j k)->L d=!L c
 rp: ∀c,c<ws.length->0<r c
 rr: ∀c,c<ws.length-> ∀i j:Int,(cB (ws.getD c []) (ws.getD c []) i j↔(i - j)%(r c:Int)=0)
theorem Lies.two (h:eF y ws L r M) (hN:Lies y ws L r M N) {c d:Nat} (hc:c<ws.length) (hd:d<ws.length):JW y (sq (ws.getD c [])) (pO ws N c) (pI ws N c) (sq (ws.getD d [])) (pO ws N d) (pI ws N d):=by
 have hw:=h.sw c hc
 have hv:=h.sw d hd
 have lw:=WO.mpr hw.ne
 have lv:=WO.mpr hv.ne
 have s0: ∀(w:List Nat) (i:Int),sq w i 0=rd w i:=fun w i=>by unfold sq;rw[show i+0=i by omega]
 refine ⟨fun s t=>?_,fun s t a b rn=>?_⟩
 ·have key: ∀p∈[(aI (sq (ws.getD c []) s (-1)),pI ws N c (s - 1)),(sq (ws.getD c []) s 0,pO ws N c s),(aI (sq (ws.getD d []) t (-1)),pI ws N d (t - 1)),(sq (ws.getD d []) t 0,pO ws N d t)], ∃e i:Nat,e<ws.length/\i<(ws.getD e []).length/\(p.1=rd (ws.getD e []) i\/p.1=aI (rd (ws.getD e []) i))/\p.2=N e i p.1:=by
   intro p hp
   simp only[Zt,Zu,or_false]at hp
   rcases hp with rfl | rfl | rfl | rfl
   ·exact ⟨c,_,hc,bB lw (s - 1), .inr (by rw[bY hw.ne];rfl),rfl⟩
   ·exact ⟨c,_,hc,bB lw s, .inl (by rw[bY hw.ne,s0]),by rw[s0];rfl⟩
   ·exact ⟨d,_,hd,bB lv (t - 1), .inr (by rw[bY hv.ne];rfl),rfl⟩
   ·exact ⟨d,_,hd,bB lv t, .inl (by rw[bY hv.ne,s0]),by rw[s0];rfl⟩
  intro p hp q hq dq
  obtain ⟨e,i,he,hi,h1,h2⟩:=key p hp
  obtain ⟨e',j,Dq,hj,h3,h4⟩:=key q hq
  rw[h2,h4]
  exact hN.sep e i e' j _ _ he Dq hi hj h1 h3 dq
 ·obtain ⟨a',b',TJ,ha,hb⟩:=dE lw lv (fun k=>b_ _ s k) (fun k=>b_ _ t k) rn.zero ⟨_,rn.hi⟩
  obtain ⟨rfl,rfl⟩:=rn.one TJ
  have:=h.big c d hc hd
  have key:=hN.run h.yd hc hd (bB lw s) (bB lv t) hw hv (.inl (cC hw.ne s).symm) (.inl (cC hv.ne t).symm) rn (by omega) (by omega) (fun z=>rn.hi (by
   obtain ⟨z1,z2⟩:=Prod.mk.inj z
   subst z1
   rw[<-cC hw.ne s, <-cC hw.ne t,z2]))
  rw[s0,s0]at key
  exact key
theorem Lies.Vv (h:eF y ws L r M) (hN:Lies y ws L r M N) {c d:Nat} (hc:c<ws.length) (hd:d<ws.length):JW y (sq (ws.getD c [])) (pO ws N c) (pI ws N c) (fun k=>bq (ws.getD d []) (-k)) (fun k=>pI ws N d (-k)) (fun k=>pO ws N d (-k)):=by
 have hw:=h.sw c hc
 have hv:=h.sw d hd
 have lw:=WO.mpr hw.ne
 have lv:=WO.mpr hv.ne
 have s0: ∀(w:List Nat) (i:Int),sq w i 0=rd w i:=fun w i=>by unfold sq;rw[show i+0=i by omega]
 have b0: ∀(w:List Nat) (i:Int),bq w i 0=aI (rd w i):=fun w i=>by unfold bq;rw[show i - 0=i by omega]
 have bb: ∀t:Int,aI (bq (ws.getD d []) (-t) (-1))=rd (ws.getD d []) (-(t - 1)):=fun t=>by
  unfold bq
  rw[aT (h.yd.lt _ (hv.rd _))]
  congr 1;omega
 refine ⟨fun s t=>?_,fun s t a b rn=>?_⟩
 ·have key: ∀p∈[(aI (sq (ws.getD c []) s (-1)),pI ws N c (s - 1)),(sq (ws.getD c []) s 0,pO ws N c s),(aI (bq (ws.getD d []) (-t) (-1)),pO ws N d (-(t - 1))),(bq (ws.getD d []) (-t) 0,pI ws N d (-t))], ∃e i:Nat,e<ws.length/\i<(ws.getD e []).length/\(p.1=rd (ws.getD e []) i\/p.1=aI (rd (ws.getD e []) i))/\p.2=N e i p.1:=by
   intro p hp
   simp only[Zt,Zu,or_false]at hp
   rcases hp with rfl | rfl | rfl | rfl
   ·exact ⟨c,_,hc,bB lw (s - 1), .inr (by rw[bY hw.ne];rfl),rfl⟩
   ·exact ⟨c,_,hc,bB lw s, .inl (by rw[bY hw.ne,s0]),by rw[s0];rfl⟩
   ·exact ⟨d,_,hd,bB lv (-(t - 1)), .inl (by rw[bY hv.ne];exact bb t),by rw[bb t];rfl⟩
   ·exact ⟨d,_,hd,bB lv (-t), .inr (by rw[bY hv.ne,b0]),by rw[b0];rfl⟩
  intro p hp q hq dq
  obtain ⟨e,i,he,hi,h1,h2⟩:=key p hp
  obtain ⟨e',j,Dq,hj,h3,h4⟩:=key q hq
  rw[h2,h4]
  exact hN.sep e i e' j _ _ he Dq hi hj h1 h3 dq
 ·obtain ⟨a',b',TJ,ha,hb⟩:=dE lw lv (fun k=>b_ _ s k) (fun k=>nR _ (-t) k) rn.zero ⟨_,rn.hi⟩
  obtain ⟨rfl,rfl⟩:=rn.one TJ
  have:=h.big c d hc hd
  have key:=hN.run h.yd hc hd (bB lw s) (bB lv (-t)) hw hv (.inl (cC hw.ne s).symm) (.inr (q0 hv.ne (-t)).symm) rn (by omega) (by omega) (fun z=>by
   obtain ⟨z1,z2⟩:=Prod.mk.inj z
   subst z1
   have z0:=rn.zero
   rw[s0,b0, <-bY hw.ne s, <-bY hw.ne (-t),z2]at z0
   exact iM (h.yd.lt _ (hw.rd _)) z0.symm)
  rw[s0,b0,aT (h.yd.lt _ (hv.rd _))]at key
  exact key
theorem vJ {n n' r r' c d i j:Nat} {l low LP:Bool} (h:c≠d):bc (GS n r l low c i) (GS n' r' (if LP=low then l else !l) LP d j)=if low=l then decide (c<d) else decide (d<c):=by
 unfold GS
 cases low<;>cases LP<;>cases l<;>simp only[Qdr,Bool.not_false,if_true,if_false,Bool.true_eq_false,Qa6]<;>rw[LO (by omega)]<;>exact decide_eq_decide.mpr (by omega)
theorem Lies.E6 (h:eF y ws L r M) (hN:Lies y ws L r M N) {c d:Nat} (hc:c<ws.length) (hd:d<ws.length) (iB:c≠d) {i j:Nat} {f g:Int->Nat} (hi:i<(ws.getD c []).length) (hj:j<(ws.getD d []).length) (hf:Dl (ws.getD c []) i f) (hg:Dl (ws.getD d []) j g) (hp: ∀k,f k=g k)
  (hl:L d=if aD (rd (ws.getD d []) j)=aD (rd (ws.getD c []) i) then L c else !L c) (hs:f=sq (ws.getD c []) i):
  N c i (f 0)≠N d j (g 0)/\N c i (aI (f 0))≠N d j (aI (g 0))/\decide (N c i (f 0)<N d j (g 0))=(if L c=true then decide (c<d) else decide (d<c))/\decide (N d j (aI (g 0))<N c i (aI (f 0)))=(if L c=true then decide (c<d) else decide (d<c)):=by
 have hw:=h.sw c hc
 have hv:=h.sw d hd
 have e:(if aD (f 0)=true then bc (cL y ws L r M c i) (cL y ws L r M d j) else bc (cL y ws L r M d j) (cL y ws L r M c i))=if L c=true then decide (c<d) else decide (d<c):=by
  have es:nz (ws.getD c []) i=nz (ws.getD d []) j:=by
   rw[vH h.yd hw hf,vH h.yd hv hg,show f=g from funext hp]
  have f0:f 0=rd (ws.getD c []) i:=by rw[hs];unfold sq;rw[show (i:Int)+0=i by omega]
  unfold cL
  rw[es,fE,fE,f0]
  have Ay:L c=if aD (rd (ws.getD c []) i)=aD (rd (ws.getD d []) j) then L d else !L d:=by
   rw[hl]
   cases aD (rd (ws.getD d []) j)<;>cases aD (rd (ws.getD c []) i)<;>cases L c<;>rfl
  have e1:= @vJ (ws.getD c []).length (ws.getD d []).length (r c) (r d) c d i j (L c) (aD (rd (ws.getD c []) i)) (aD (rd (ws.getD d []) j)) iB
  have e2:= @vJ (ws.getD d []).length (ws.getD c []).length (r d) (r c) d c j i (L d) (aD (rd (ws.getD d []) j)) (aD (rd (ws.getD c []) i)) (Ne.symm iB)
  rw[<-hl]at e1
  rw[<-Ay]at e2
  rw[e1,e2,hl]
  cases aD (rd (ws.getD d []) j)<;>cases aD (rd (ws.getD c []) i)<;>cases L c<;>rfl
 have:=hN.at h.yd hc hd hi hj hw hv hf hg (hp 0) (fun z=>iB (Prod.mk.inj z).1)
 rw[e]at this
 rw[<-hp 0]
 exact this
end
theorem x5 {n k r i:Nat} (hr:0<r) (hn:n=k*r) (hi:i<n):(n - 1 - i) / r=k - 1 - i / r:=by
 have h1:=Qcf i r
 have h2:=Qbw i hr
 have h3:i / r<k:=by
  rw[Qdf hr];omega
 rw[Nat.div_eq_iff hr]
 obtain ⟨t,rfl⟩: ∃t,k=i / r+1+t:=⟨k - 1 - i / r,by omega⟩
 generalize hq:i / r=q at*
 rw[Nat.add_mul,Nat.add_mul,Nat.one_mul,Qbb q r]at hn
 have e:q+1+t - 1 - q=t:=by omega
 rw[e]
 generalize r*q=A at*
 generalize t*r=B at*
 omega
theorem CO {r i j:Nat} (hr:0<r) (h:i%r=j%r) (dz:i≠j):(i / r<j / r↔i<j)/\i / r≠j / r:=by
 have h1:=Qcf i r
 have h2:=Qcf j r
 have vK:i / r≠j / r:=fun z=>dz (by rw[<-h1, <-h2,z,h])
 refine ⟨⟨fun q=>?_,fun q=>?_⟩,vK⟩
 ·have:r*(i / r+1)<=r*(j / r):=Nat.mul_le_mul_left r q
  rw[Nat.mul_add,Nat.mul_one]at this
  omega
 ·refine Classical.byContradiction fun z=>?_
  have h3:j / r+1<=i / r:=by omega
  have:r*(j / r+1)<=r*(i / r):=Nat.mul_le_mul_left r h3
  rw[Nat.mul_add,Nat.mul_one]at this
  omega
theorem zU {n k r c i j:Nat} {l low:Bool} (hr:0<r) (hn:n=k*r) (hi:i<n) (hj:j<n) (h:i%r=j%r) (dz:i≠j):(if low=true then bc (GS n r l low c i) (GS n r l low c j) else bc (GS n r l low c j) (GS n r l low c i))=decide (i<j):=by
 obtain ⟨d1,d2⟩:=CO hr h dz
 have e1:=x5 hr hn hi
 have e2:=x5 hr hn hj
 have b1:i / r<k:=by rw[Qdf hr];omega
 have b2:j / r<k:=by rw[Qdf hr];omega
 unfold GS
 cases low<;>cases l<;>simp only[if_true,if_false,Bool.true_eq_false,Qa6]
 ·rw[e1,e2,vI (by omega)];exact decide_eq_decide.mpr (by omega)
 ·rw[vI (by omega)];exact decide_eq_decide.mpr (by omega)
 ·rw[e1,e2,vI (by omega)];exact decide_eq_decide.mpr (by omega)
 ·rw[vI (by omega)];exact decide_eq_decide.mpr (by omega)
noncomputable def fc (y w v:List Nat) (i j:Int):Int:=one (ac y (aI (rd w (i - 1))) (rd w i) (aI (rd v (j - 1))) (rd v j)=true)+one (0<al y (sq w i) (sq v j) (w.length+v.length))+one (0<al y (sq w i) (bq v j) (w.length+v.length))
section
variable {y:List Nat} {ws:List (List Nat)} {L:Nat->Bool} {r:Nat->Nat} {M:Nat} {N:Nat->Nat->Nat->Nat}
theorem vL (ws:List (List Nat)) (N:Nat->Nat->Nat->Nat) (c:Nat) (k:Int):pO ws N c (k+(ws.getD c []).length)=pO ws N c k:=by unfold pO;rw[Bj,iR]
theorem vM (ws:List (List Nat)) (N:Nat->Nat->Nat->Nat) (c:Nat) (k:Int):pI ws N c (k+(ws.getD c []).length)=pI ws N c k:=by unfold pI;rw[Bj,iR]
theorem eF.root (h:eF y ws L r M) {c:Nat} (hc:c<ws.length):(ws.getD c []).length=(ws.getD c []).length / r c*r c/\0<(ws.getD c []).length / r c:=by
 have hp:=h.rp c hc
 have hl:=WO.mpr (h.sw c hc).ne
 have h1:=(h.rr c hc (ws.getD c []).length 0).mp (fun k=>by
  have:=congrFun (zS (ws.getD c []) 0) k
  rwa [Qay]at this)
 rw[Qb4]at h1
 have h2:(ws.getD c []).length%r c=0:=by
  have:((((ws.getD c []).length%r c:Nat)):Int)=0:=by rw[<-h1];rfl
  omega
 have h3:=Qcf (ws.getD c []).length (r c)
 rw[h2,Qc9,Qbb]at h3
 refine ⟨h3.symm,Qdt fun z=>?_⟩
 rw[z,Nat.zero_mul]at h3
 omega
theorem nW (h:eF y ws L r M) (hN:Lies y ws L r M N) {c d:Nat} (hc:c<ws.length) (hd:d<ws.length) (iB:c≠d):
  cH (ws.getD c []).length (ws.getD d []).length (fun i j=>one (jg (pO ws N c) (pI ws N c) (pO ws N d) (pI ws N d) i j=true))=cH (ws.getD c []).length (ws.getD d []).length (fc y (ws.getD c []) (ws.getD d [])):=by
 have hw:=h.sw c hc
 have hv:=h.sw d hd
 have lw:=WO.mpr hw.ne
 have lv:=WO.mpr hv.ne
 have s0: ∀(w:List Nat) (i:Int),sq w i 0=rd w i:=fun w i=>by unfold sq;rw[show i+0=i by omega]
 have b0: ∀(w:List Nat) (i:Int),bq w i 0=aI (rd w i):=fun w i=>by unfold bq;rw[show i - 0=i by omega]
 have hS:=hN.two h hc hd
 have hO:=hN.Vv h hc hd
 rw[x3 h.yd hw hv (vL ws N c) (vM ws N c) (vL ws N d) (vM ws N d) hS hO,Iu h.yd hw hv hS (if L c=true then decide (c<d) else decide (d<c)),Iv h.yd hw hv hO (if L c=true then decide (c<d) else decide (d<c)), <-dj, <-dj]
 ·unfold fc
  omega
 ·intro i j p
  have p0:=p 0
  rw[s0,b0]at p0
  have lo:=gf _ (h.yd.lt _ (hv.rd j)).mem
  have:=hN.E6 h hc hd iB (bB lw i) (bB lv j) (f:=sq (ws.getD c []) i) (g:=bq (ws.getD d []) j) (.inl (cC hw.ne i).symm) (.inr (q0 hv.ne j).symm) p (by
   rw[bY hw.ne,bY hv.ne,p0,lo,h.l2 c d i j hc hd p]
   cases aD (rd (ws.getD d []) j)<;>rfl) (cC hw.ne i).symm
  rw[s0,b0,aT (h.yd.lt _ (hv.rd _))]at this
  exact this
 ·intro i j p
  have p0:=p 0
  rw[s0,s0]at p0
  have:=hN.E6 h hc hd iB (bB lw i) (bB lv j) (f:=sq (ws.getD c []) i) (g:=sq (ws.getD d []) j) (.inl (cC hw.ne i).symm) (.inl (cC hv.ne j).symm) p (by
   rw[bY hw.ne,bY hv.ne,p0,if_pos rfl]
   exact (h.l1 c d i j hc hd p).symm) (cC hw.ne i).symm
  rw[s0,s0]at this
  exact this
theorem zV (h:eF y ws L r M) (hN:Lies y ws L r M N) {c:Nat} (hc:c<ws.length):
  cH (ws.getD c []).length (ws.getD c []).length (fun i j=>one (jg (pO ws N c) (pI ws N c) (pO ws N c) (pI ws N c) i j=true))=cH (ws.getD c []).length (ws.getD c []).length (fc y (ws.getD c []) (ws.getD c []))+2*(((ws.getD c []).length / r c:Nat) - 1):=by
 have hw:=h.sw c hc
 have lw:=WO.mpr hw.ne
 have s0: ∀(w:List Nat) (i:Int),sq w i 0=rd w i:=fun w i=>by unfold sq;rw[show i+0=i by omega]
 have hS:=hN.two h hc hc
 have hO:=hN.Vv h hc hc
 obtain ⟨GP,AV⟩:=h.root hc
 have Vw:=h.rp c hc
 have e0:cH (ws.getD c []).length (ws.getD c []).length (fun i j=>one (lG (ws.getD c []) (ws.getD c []) i j/\jg (pO ws N c) (pI ws N c) (pO ws N c) (pI ws N c) i j=true))=0:=by
  rw[show (0:Int)=cH (ws.getD c []).length (ws.getD c []).length (fun _ _=>0) by unfold cH;rw[show (fun _:Int=>sm (ws.getD c []).length fun _=>0)=fun _=>0 from funext fun _=>eE _,eE]]
  exact bZ fun i j _ _=>aZ fun z=>vG h.yd hw _ _ z.1
 rw[x3 h.yd hw hw (vL ws N c) (vM ws N c) (vL ws N c) (vM ws N c) hS hO,e0,E5 h.yd hw hS Vw GP AV, <-dj, <-dj]
 ·unfold fc
  omega
 ·intro j hj
  rw[h.rr c hc]
  constructor
  ·intro q
   have:(j:Int)%(r c:Int)=0:=by
    rw[Int.zero_sub]at q
    exact Int.emod_eq_zero_of_dvd (Int.dvd_neg.mp (Int.dvd_of_emod_eq_zero q))
   have h2:((j%r c:Nat):Int)=0:=by rw[<-this];rfl
   omega
  ·intro q
   have:(j:Int)%(r c:Int)=0:=by
    have h2:((j%r c:Nat):Int)=(j:Int)%(r c:Int):=rfl
    rw[<-h2,q];rfl
   rw[Int.zero_sub]
   exact Int.emod_eq_zero_of_dvd (Int.dvd_neg.mpr (Int.dvd_of_emod_eq_zero this))
 ·intro i j p dz
  have p0:=p 0
  rw[s0,s0]at p0
  have vK:fM (ws.getD c []).length i≠fM (ws.getD c []).length j:=fun z=>dz (by rw[<-cq lw, <-cq lw,z])
  have:=hN.at h.yd hc hc (bB lw i) (bB lw j) hw hw (f:=sq (ws.getD c []) i) (g:=sq (ws.getD c []) j) (.inl (cC hw.ne i).symm) (.inl (cC hw.ne j).symm) (p 0) (fun z=>vK (Prod.mk.inj z).2)
  have Iw:fM (ws.getD c []).length i%r c=fM (ws.getD c []).length j%r c:=by
   have p':cB (ws.getD c []) (ws.getD c []) (fM (ws.getD c []).length i:Nat) (fM (ws.getD c []).length j:Nat):=fun k=>by rw[cC hw.ne,cC hw.ne];exact p k
   have q:=(h.rr c hc _ _).mp p'
   have q2:=Int.emod_eq_emod_iff_emod_sub_eq_zero.mpr q
   have q3:((fM (ws.getD c []).length i%r c:Nat):Int)=((fM (ws.getD c []).length j%r c:Nat):Int):=q2
   omega
  have es:nz (ws.getD c []) (fM (ws.getD c []).length i:Nat)=nz (ws.getD c []) (fM (ws.getD c []).length j:Nat):=by
   unfold nz
   rw[bY hw.ne,bY hw.ne,p0,cC hw.ne,cC hw.ne,q0 hw.ne,q0 hw.ne,show sq (ws.getD c []) i=sq (ws.getD c []) j from funext p, <-fD, <-fD,show sq (ws.getD c []) i=sq (ws.getD c []) j from funext p]
  have e:= @zU (ws.getD c []).length _ (r c) c _ _ (L c) (aD (rd (ws.getD c []) j)) Vw GP (bB lw i) (bB lw j) Iw vK
  unfold cL at this
  rw[es,fE,fE,s0,bY hw.ne,bY hw.ne,p0,e,decide_eq_decide.mpr (show fM (ws.getD c []).length i<fM (ws.getD c []).length j↔i%((ws.getD c []).length:Int)<j%((ws.getD c []).length:Int) by rw[<-cq lw, <-cq lw];omega)]at this
  unfold pO pI
  rw[p0]
  exact this
end
noncomputable def jK:Nat->(Int->Int->Int)->Int
 | 0,_=>0
 | n+1,h=>jK n h+sm n (fun j=>h j n)
theorem mR (n m:Nat) (h:Int->Int->Int):cH (n+1) m h=cH n m h+sm m (fun j=>h n j):=rfl
theorem vN (m:Nat) (h:Int->Int->Int): ∀n:Nat,cH n (m+1) h=cH n m h+sm n (fun i=>h i m)
 | 0=>rfl
 | n+1=>by
  rw[mR,mR,vN m h n]
  show cH n m h+sm n (fun i=>h i m)+(sm m (fun j=>h n j)+h n m)=cH n m h+sm m (fun j=>h n j)+(sm n (fun i=>h i m)+h n m)
  omega
theorem qb {h:Int->Int->Int}: ∀{n:Nat},(∀i j:Nat,i<n->j<n->h i j=h j i)->(∀i:Nat,i<n->h i i=0)->cH n n h=2*jK n h
 | 0,_,_=>rfl
 | n+1,sy,dg=>by
  rw[vN,mR,qb (n:=n) (fun i j hi hj=>sy i j (by omega) (by omega)) (fun i hi=>dg i (by omega))]
  show 2*jK n h+sm n (fun j=>h n j)+(sm n (fun i=>h i n)+h n n)=2*(jK n h+sm n (fun j=>h j n))
  rw[dg n (by omega),aO (h:=fun j=>h n j) (g:=fun j=>h j n) (fun j hj=>sy n j (by omega) (by omega))]
  omega
theorem ig {h g:Int->Int->Int}: ∀{n:Nat},(∀i j:Nat,i<j->j<n->h i j=g i j)->jK n h=jK n g
 | 0,_=>rfl
 | n+1,e=>by
  show jK n h+_=jK n g+_
  rw[ig (n:=n) fun i j h1 h2=>e i j h1 (by omega),aO (g:=fun j=>g j n) fun j hj=>e j n hj (by omega)]
theorem Bk (h g:Int->Int->Int): ∀n:Nat,jK n (fun i j=>h i j+g i j)=jK n h+jK n g
 | 0=>rfl
 | n+1=>by
  show jK n _+sm n _=(jK n h+sm n _)+(jK n g+sm n _)
  rw[Bk h g n,lE];omega
section
variable {y:List Nat} {ws:List (List Nat)} {L:Nat->Bool} {r:Nat->Nat} {M:Nat} {N:Nat->Nat->Nat->Nat}
theorem Lies.inj (h:eF y ws L r M) (hN:Lies y ws L r M N) {c i d j e e':Nat} (hc:c<ws.length) (hd:d<ws.length) (hi:i<(ws.getD c []).length) (hj:j<(ws.getD d []).length) (he:e=rd (ws.getD c []) i\/e=aI (rd (ws.getD c []) i)) (Dq:e'=rd (ws.getD d []) j\/e'=aI (rd (ws.getD d []) j))
  (dz:(c,i,e)≠(d,j,e')):N c i e≠N d j e':=by
 have ly: ∀{c i e:Nat},c<ws.length->(e=rd (ws.getD c []) i\/e=aI (rd (ws.getD c []) i))->e∈y:=fun hc he=>he.elim (fun z=>z▸(h.sw _ hc).rd _) fun z=>z▸h.yd.cl _ ((h.sw _ hc).rd _)
 have ye:=ly hc he
 have Xt:=ly hd Dq
 by_cases z:e=e'
 ·subst z
  have vK:(c,i)≠(d,j):=fun q=>dz (by rw[(Prod.mk.inj q).1,(Prod.mk.inj q).2])
  have le:=h.yd.lt _ ye
  have lc:=h.yd.lt _ ((h.sw c hc).rd i)
  have ld:=h.yd.lt _ ((h.sw d hd).rd j)
  by_cases l:aD e=true
  ·exact (hN.low c i d j e hc hd hi hj vK l (he.elim (fun z=> .inl z.symm) fun z=> .inr (by rw[z,aT lc])) (Dq.elim (fun z=> .inl z.symm) fun z=> .inr (by rw[z,aT ld]))).1
  ·have:=(hN.low c i d j (aI e) hc hd hi hj vK (by rw[gf _ le.mem];simpa using l) (by rw[aT le];exact he.elim (fun z=> .inr z.symm) fun z=> .inl (by rw[z,aT lc])) (by rw[aT le];exact Dq.elim (fun z=> .inr z.symm) fun z=> .inl (by rw[z,aT ld]))).2.1
   rwa [aT le]at this
 ·have n:=b9 ye Xt z
  rcases Qa4 n with q | q
  ·exact ZE (hN.sep c i d j e e' hc hd hi hj he Dq q)
  ·exact Qc8 (hN.sep d j c i e' e hd hc hj hi Dq he q)
theorem Bl {n i j:Nat} {k:Int} (hi:i<n) (hj:j<n) (q:fM n ((i:Int) - k)=fM n ((j:Int) - k)):i=j:=by
 have lw:0<n:=ZW (WT _) hi
 have q2:((i:Int) - k)%n=((j:Int) - k)%n:=by rw[<-cq lw, <-cq lw,q]
 have q3:=(Int.emod_sub_cancel_right k).mp q2
 rw[ZO (Qdv _) (Qb5.mpr hi),ZO (Qdv _) (Qb5.mpr hj)]at q3
 exact Int.ofNat.inj q3
theorem cW (h:eF y ws L r M) (hN:Lies y ws L r M N) {c d i j:Nat} (hc:c<ws.length) (hd:d<ws.length) (hi:i<(ws.getD c []).length) (hj:j<(ws.getD d []).length):
  pI ws N c ((i:Int) - 1)≠pO ws N d j/\((c,i)≠(d,j)->pI ws N c ((i:Int) - 1)≠pI ws N d ((j:Int) - 1)/\pO ws N c i≠pO ws N d j):=by
 have hw:=h.sw c hc
 have hv:=h.sw d hd
 have lw:=WO.mpr hw.ne
 have lv:=WO.mpr hv.ne
 have vo: ∀{c:Nat} (hw:SW y (ws.getD c [])) (k:Int),rd (ws.getD c []) k=rd (ws.getD c []) (fM (ws.getD c []).length k:Nat)\/rd (ws.getD c []) k=aI (rd (ws.getD c []) (fM (ws.getD c []).length k:Nat)):=fun hw k=> .inl (bY hw.ne k).symm
 have vi: ∀{c:Nat} (hw:SW y (ws.getD c [])) (k:Int),aI (rd (ws.getD c []) k)=rd (ws.getD c []) (fM (ws.getD c []).length k:Nat)\/aI (rd (ws.getD c []) k)=aI (rd (ws.getD c []) (fM (ws.getD c []).length k:Nat)):=fun hw k=> .inr (by rw[bY hw.ne k])
 refine ⟨hN.inj h hc hd (bB lw _) (bB lv _) (vi hw _) (vo hv _) fun q=>?_,fun dz=>⟨hN.inj h hc hd (bB lw _) (bB lv _) (vi hw _) (vi hv _) fun q=>?_,hN.inj h hc hd (bB lw _) (bB lv _) (vo hw _) (vo hv _) fun q=>?_⟩⟩
 ·obtain ⟨q1,q⟩:=Prod.mk.inj q
  obtain ⟨q2,q3⟩:=Prod.mk.inj q
  subst q1
  rw[<-bY hw.ne ((i:Int) - 1), <-bY hw.ne (j:Int),q2]at q3
  exact iM (h.yd.lt _ (hw.rd _)) q3
 ·obtain ⟨q1,q⟩:=Prod.mk.inj q
  subst q1
  exact dz (by rw[Bl hi hj (Prod.mk.inj q).1])
 ·obtain ⟨q1,q⟩:=Prod.mk.inj q
  subst q1
  exact dz (by rw[Bl (k:=0) hi hj (by rw[Qb4,Qb4];exact (Prod.mk.inj q).1)])
theorem Iy (h:eF y ws L r M) (hN:Lies y ws L r M N) {c d:Nat} (hc:c<ws.length) (hd:d<ws.length) {i j:Nat} (hi:i<(ws.getD c []).length) (hj:j<(ws.getD d []).length):jg (pO ws N c) (pI ws N c) (pO ws N d) (pI ws N d) i j=jg (pO ws N d) (pI ws N d) (pO ws N c) (pI ws N c) j i:=by
 by_cases z:(c,i)=(d,j)
 ·obtain ⟨rfl,rfl⟩:=Prod.mk.inj z
  rfl
 have n:=cW h hN hc hd hi hj
 exact mQ (cW h hN hc hc hi hi).1 (cW h hN hd hd hj hj).1 (n.2 z).1 n.1 (Ne.symm (cW h hN hd hc hj hi).1) (n.2 z).2
theorem x6 (h:eF y ws L r M) (hN:Lies y ws L r M N) {c:Nat} (hc:c<ws.length):
  2*jK (ws.getD c []).length (fun i j=>one (jg (pO ws N c) (pI ws N c) (pO ws N c) (pI ws N c) i j=true))=cH (ws.getD c []).length (ws.getD c []).length (fc y (ws.getD c []) (ws.getD c []))+2*(((ws.getD c []).length / r c:Nat) - 1):=by
 rw[<-zV h hN hc]
 exact (qb (fun i j hi hj=>by rw[Iy h hN hc hc hi hj]) (fun i hi=>aZ (by unfold jg;rw[xY];decide))).symm
end
theorem E7 {y:List Nat} {f g:Int->Nat} {a:Nat} (hy:Yd y) (hf:jk y f) (hg:jk y g) (h:f a=g a) (hn:f (a+1)≠g (a+1)):kC y g f a=!kC y f g a:=by
 have:fW y f (a+1)≠fW y g (a+1):=fun q=>hn (by
  unfold fW at q
  rw[show (a:Int)+1 - 1=a by omega, <-h]at q
  exact mP (hy.cl _ (hf.bK _)) (hf.bK _) (hg.bK _) q)
 unfold kC
 rw[<-decide_not]
 exact decide_eq_decide.mpr (by omega)
theorem zW {y:List Nat} {f g:Int->Nat} {b:Nat} (hy:Yd y) (hf:jk y f) (hg:jk y g) (h:f (-(b:Int))=g (-(b:Int))) (hn:f (-(b:Int) - 1)≠g (-(b:Int) - 1)):kL y g f b=!kL y f g b:=by
 have:fW y f (-(b:Int))≠fW y g (-(b:Int)):=fun q=>hn (by
  unfold fW at q
  rw[<-h]at q
  have r1:=hf.red (-(b:Int))
  have r2:=hg.red (-(b:Int))
  have c1:=(eS (hy.cl _ (hf.bK (-(b:Int) - 1))) (hf.bK (-(b:Int))) (Ne.symm r1)).2.2
  have c2:=(eS (hy.cl _ (hg.bK (-(b:Int) - 1))) (hf.bK (-(b:Int))) (by rw[h];exact Ne.symm r2)).2.2
  have:=mP (hf.bK (-(b:Int))) (hy.cl _ (hf.bK (-(b:Int) - 1))) (hy.cl _ (hg.bK (-(b:Int) - 1))) (by rw[c1,c2,q])
  exact gG (hy.lt _ (hf.bK _)) (hy.lt _ (hg.bK _)) this)
 unfold kL
 rw[<-decide_not]
 exact decide_eq_decide.mpr (by omega)
theorem JX {y:List Nat} {f g:Int->Nat} (hy:Yd y) (hf:jk y f) (hg:jk y g):wV y f g->wV y g f:=fun ⟨a,r,x⟩=>⟨a,r.sy,by
 rw[E7 hy hf hg (r.mO a (by omega) (by omega)) r.hi,zW hy hf hg (r.mO _ (by omega) (by omega)) r.lo]
 exact fun q=>x (by simpa using q)⟩
theorem LQ {y:List Nat} {a b p q:Nat} (hy:Yd y) (ha:a∈y) (hb:b∈y) (hp:p∈y) (hq:q∈y) (t9:a≠b) (Qf:p≠q):ac y a b p q=ac y p q a b:=by
 unfold ac
 by_cases z:p=a\/p=b\/q=a\/q=b
 ·rw[if_pos z,if_pos (z.elim (fun z=> .inl z.symm) fun z=>z.elim (fun z=> .inr (.inr (.inl z.symm))) fun z=>z.elim (fun z=> .inr (.inl z.symm)) fun z=> .inr (.inr (.inr z.symm)))]
 ·have n1:a≠p:=fun q=>z (.inl q.symm)
  have n2:b≠p:=fun q=>z (.inr (.inl q.symm))
  have n3:a≠q:=fun q=>z (.inr (.inr (.inl q.symm)))
  have n4:b≠q:=fun q=>z (.inr (.inr (.inr q.symm)))
  rw[if_neg z,if_neg (fun z=>z.elim n1 fun z=>z.elim n3 fun z=>z.elim n2 n4)]
  rw[gU hy.nd ha hp hb n1 t9 (Ne.symm n2),gU hy.nd ha hq hb n3 t9 (Ne.symm n4),gU hy.nd hp ha hq (Ne.symm n1) Qf n3,gU hy.nd hp hb hq (Ne.symm n2) Qf n4]
  exact mQ (b9 ha hb t9) (b9 hp hq Qf) (b9 ha hp n1) (b9 ha hq n3) (b9 hb hp n2) (b9 hb hq n4)
noncomputable def GU (n m:Nat):List (Nat×Nat):=(List.range n).flatMap fun i=>(List.range m).map fun j=>(i,j)
theorem Bm {n m:Nat} {x:Nat×Nat}:x∈GU n m↔x.1<n/\x.2<m:=by
 unfold GU
 rw[ZS]
 constructor
 ·rintro ⟨i,hi,h⟩
  obtain ⟨j,hj,rfl⟩:=ZL.mp h
  exact ⟨Z_.mp hi,Z_.mp hj⟩
 ·rintro ⟨h1,h2⟩
  exact ⟨x.1,Z_.mpr h1,ZL.mpr ⟨x.2,Z_.mpr h2,rfl⟩⟩
theorem LR (n m:Nat):(GU n m).Nodup:=by
 unfold GU
 induction n with
 | zero=>exact List.Pairwise.nil
 | succ n ih=>
  rw[kb,ZY,Qaj]
  refine ⟨ih,?_,?_⟩
  ·rw[Qar]
   exact List.Pairwise.map _ (fun a b h q=>h (Prod.mk.inj q).2) Qd5
  ·intro a ha b hb e
   obtain ⟨i,hi,h⟩:=ZS.mp ha
   obtain ⟨j,_,rfl⟩:=ZL.mp h
   rw[Qar]at hb
   obtain ⟨k,_,rfl⟩:=ZL.mp hb
   have:=(Prod.mk.inj e).1
   have:=Z_.mp hi
   omega
theorem zX {Q:Int->Prop} {P:Nat->Bool}: ∀{m:Nat},(∀j:Nat,j<m->(Q j↔P j=true))->sm m (fun j=>one (Q j))=((List.range m).filter P).length
 | 0,_=>rfl
 | m+1,h=>by
  show sm m _+one (Q m)=_
  rw[zX (m:=m) fun j hj=>h j (by omega),kb,Qaw,U5,bA (h m (by omega))]
  cases e:P m
  ·rw[ZF (by rw[e];decide),aZ (by decide)];simp
  ·rw[ZP e,fX rfl];simp
theorem vO {Q:Int->Int->Prop} {P:Nat×Nat->Bool} {m:Nat}: ∀{n:Nat},(∀i j:Nat,i<n->j<m->(Q i j↔P (i,j)=true))->cH n m (fun i j=>one (Q i j))=((GU n m).filter P).length
 | 0,_=>rfl
 | n+1,h=>by
  rw[mR,vO (n:=n) fun i j hi hj=>h i j (by omega) hj]
  unfold GU
  rw[kb,ZY,Qaw,U5,Qar,Qec,MO,zX (P:=fun j=>P (n,j)) fun j hj=>h n j (by omega) hj]
  show _=(((_+_:Nat)):Int)
  rw[ZZ]
  rfl
theorem E8 {l:List (Nat×Nat)} (hl:l.Nodup) (t:Nat×Nat->Nat×Nat) (p q:Nat×Nat->Bool) (h1: ∀x∈l,p x=true->t x∈l/\p (t x)=true/\t (t x)=x/\q (t x)=!q x):(l.filter fun x=>p x&&q x).length=(l.filter fun x=>p x&&!q x).length:=by
 have le: ∀q:Nat×Nat->Bool,(∀x∈l,p x=true->t x∈l/\p (t x)=true/\t (t x)=x/\q (t x)=!q x)->(l.filter fun x=>p x&&q x).length<=(l.filter fun x=>p x&&!q x).length:=fun q h1=>by
  rw[<-MO t]
  refine List.Nodup.length_le_of_subset ?_ fun x hx=>?_
  ·have:(l.filter fun x=>p x&&q x).Nodup:=hl.filter _
   refine Qaf.mpr (Qbd (fun {a b} ha hb t9 z=>t9 ?_) this)
   obtain ⟨a1,a2⟩:=ZU.mp ha
   obtain ⟨b1,b2⟩:=ZU.mp hb
   rw[Z0]at a2 b2
   rw[<-(h1 a a1 a2.1).2.2.1, <-(h1 b b1 b2.1).2.2.1,z]
  ·obtain ⟨a,ha,rfl⟩:=ZL.mp hx
   obtain ⟨a1,a2⟩:=ZU.mp ha
   rw[Z0]at a2
   obtain ⟨g1,g2,_,g4⟩:=h1 a a1 a2.1
   exact ZU.mpr ⟨g1,by rw[g2,g4,a2.2];rfl⟩
 have l1:=le q h1
 have l2:=le (fun x=>!q x) fun x hx hp=>by
  obtain ⟨g1,g2,g3,g4⟩:=h1 x hx hp
  exact ⟨g1,g2,g3,by show (!q (t x))=!!q x;rw[g4]⟩
 have e:(l.filter fun x=>p x&&!!q x)=l.filter fun x=>p x&&q x:=Qcs fun x _=>by rw[Bool.not_not]
 rw[e]at l2
 omega
section
variable {y w:List Nat}
theorem LS {f g:Int->Nat} {a:Nat} (hy:Yd y) (hf:jk y f) (hg:jk y g) (h:Run f g a 0) (x:kC y f g a≠kL y f g 0):Run (fun k=>kg g (k - a)) (fun k=>kg f (k - a)) a 0/\kC y (fun k=>kg g (k - a)) (fun k=>kg f (k - a)) a≠kL y (fun k=>kg g (k - a)) (fun k=>kg f (k - a)) 0:=by
 have r:=(h.rv hy hf hg).sy
 refine ⟨⟨fun k h1 h2=>r.mO (k - a) (by omega) (by omega),fun q=>r.hi ?_,fun q=>r.lo ?_⟩,?_⟩
 ·simp only[show (a:Int)+1 - a=(0:Nat)+1 by omega]at q;exact q
 ·simp only[show -((0:Nat):Int) - 1 - a= -(a:Int) - 1 by omega]at q;exact q
 ·have sh: ∀(f:Int->Nat) (k:Int),fW y (fun k=>f (k - a)) k=fW y f (k - a):=fun f k=>by
   unfold fW
   simp only[show k - 1 - (a:Int)=k - a - 1 by omega]
  unfold kC kL at x ⊢
  rw[sh,sh,sh,sh,show (a:Int)+1 - a=0+1 by omega,show -((0:Nat):Int) - a=(-(a:Int) - 1)+1 by omega,jH hy hf,jH hy hg,jH hy hf,jH hy hg,show -(-(a:Int) - 1)=a+1 by omega]
  intro q
  refine x ?_
  rw[decide_eq_decide]at q ⊢
  rw[show -((0:Nat):Int)= -(0:Int) by omega]
  omega
theorem Bn (hy:Yd y) (hw:SW y w) {i j:Int} {a:Nat}:al y (sq w i) (bq w j) (w.length+w.length)=a+1↔Run (sq w i) (bq w j) a 0/\kC y (sq w i) (bq w j) a≠kL y (sq w i) (bq w j) 0:=by
 have hd:=fun z=>eQ (f:=sq w i) (g:=bq w j) hw.ne hw.ne (fun k=>b_ w i k) (fun k=>nR w j k) z
 have key:=qY (n:=w.length+w.length) hy (bo hw i) (lF hy hw j) hd
 constructor
 ·intro e
  obtain ⟨a',r,x⟩:=key.mpr (by omega)
  have:=mG (y:=y) (f:=sq w i) (g:=bq w j) (n:=w.length+w.length) (by omega)
  have e2:a'=a:=by
   have z1:sq w i (-1)≠bq w j (-1):=r.lo
   obtain ⟨d1,d2⟩:=hd z1
   have d3:al y (sq w i) (bq w j) (w.length+w.length)=ke (sq w i) (bq w j) (w.length+w.length) 0:=by
    unfold al at e ⊢
    split at e
    ·omega
    ·rename_i z
     rw[if_neg z]
     split at e
     ·rename_i z2;rw[if_pos z2]
     ·omega
   have d4:ke (sq w i) (bq w j) (w.length+w.length) 0=a'+1:=by
    by_cases q:a'+1<w.length+w.length
    ·exact EB (fun k hk=>r.mO k (by omega) (by omega)) r.hi q
    ·exact absurd (r.mO (ke (sq w i) (bq w j) (w.length+w.length) 0:Nat) (by omega) (by omega)) d2
   omega
  subst e2
  exact ⟨r,x⟩
 ·rintro ⟨r,x⟩
  have h0:=key.mp ⟨a,r,x⟩
  obtain ⟨b,e⟩: ∃b,al y (sq w i) (bq w j) (w.length+w.length)=b+1:=⟨_,(Nat.succ_pred_eq_of_pos h0).symm⟩
  obtain ⟨d1,d2⟩:=hd r.lo
  have d3:al y (sq w i) (bq w j) (w.length+w.length)=ke (sq w i) (bq w j) (w.length+w.length) 0:=by
   unfold al at e ⊢
   split at e
   ·omega
   ·rename_i z
    rw[if_neg z]
    split at e
    ·rename_i z2;rw[if_pos z2]
    ·omega
  rw[d3]
  by_cases q:a+1<w.length+w.length
  ·exact EB (fun k hk=>r.mO k (by omega) (by omega)) r.hi q
  ·exact absurd (r.mO (ke (sq w i) (bq w j) (w.length+w.length) 0:Nat) (by omega) (by omega)) d2
theorem Iz (hy:Yd y) (hw:SW y w) {i j:Int} {a:Nat} (h:al y (sq w i) (bq w j) (w.length+w.length)=a+1):al y (sq w (j - a)) (bq w (i+a)) (w.length+w.length)=a+1:=by
 obtain ⟨r,x⟩:=(Bn hy hw).mp h
 obtain ⟨r2,x2⟩:=LS hy (bo hw i) (lF hy hw j) r x
 have e1:(fun k=>kg (bq w j) (k - a))=sq w (j - a):=by
  rw[<-fD,ui hy (bo hw j)]
  funext k
  unfold sq
  congr 1;omega
 have e2:(fun k=>kg (sq w i) (k - a))=bq w (i+a):=by
  rw[fD]
  funext k
  unfold bq
  congr 2;omega
 rw[e1,e2]at r2 x2
 exact (Bn hy hw).mpr ⟨r2,x2⟩
end
theorem E9 {y:List Nat} {f g:Int->Nat} {n:Nat} (h:f (-1)=g (-1)):al y f g n=0:=by unfold al;rw[if_pos (.inr h)]
theorem oQ {α:Type} (p q:α->Bool): ∀l:List α,(l.filter p).length=(l.filter fun x=>p x&&q x).length+(l.filter fun x=>p x&&!q x).length
 | []=>rfl
 | a::l=>by
  have ih:=oQ p q l
  simp only[List.filter_cons]
  cases p a<;>cases q a<;>simp<;>omega
theorem E_ (h:Int->Int->Int): ∀n:Nat,cH n n (fun i j=>if i<j then h i j else 0)=jK n h
 | 0=>rfl
 | n+1=>by
  rw[vN,mR,E_ h n]
  show jK n h+sm n (fun j=>if (n:Int)<j then h n j else 0)+(sm n (fun i=>if i<(n:Int) then h i n else 0)+(if (n:Int)<n then h n n else 0))=jK n h+sm n (fun j=>h j n)
  rw[if_neg (by omega),aO (g:=fun _=>0) (fun j hj=>if_neg (by omega)),eE,aO (h:=fun i=>if i<(n:Int) then h i n else 0) (g:=fun j=>h j n) (fun j hj=>if_pos (by omega))]
  omega
section
variable {y w:List Nat}
noncomputable def dA (y w:List Nat) (x:Nat×Nat):Nat×Nat:=(fM w.length ((x.2:Int) - gB y w w x.1 x.2+1),fM w.length ((x.1:Int)+gB y w w x.1 x.2 - 1))
theorem IA (hy:Yd y) (hw:SW y w):cH w.length w.length (fun i j=>one (0<al y (sq w i) (bq w j) (w.length+w.length)))=2*(((GU w.length w.length).filter fun x=>decide (0<gB y w w x.1 x.2)&&!fA w x.1 x.2 (gB y w w x.1 x.2)).length:Int):=by
 have lw:=WO.mpr hw.ne
 have e1:cH w.length w.length (fun i j=>one (0<al y (sq w i) (bq w j) (w.length+w.length)))=((GU w.length w.length).filter fun x=>decide (0<gB y w w x.1 x.2)).length:=
  vO (P:=fun x=>decide (0<gB y w w x.1 x.2)) fun i j _ _=>by rw[decide_eq_true_iff];rfl
 have e2:=oQ (fun x=>decide (0<gB y w w x.1 x.2)) (fun x=>fA w x.1 x.2 (gB y w w x.1 x.2)) (GU w.length w.length)
 have e3:=E8 (LR w.length w.length) (dA y w) (fun x=>decide (0<gB y w w x.1 x.2)) (fun x=>fA w x.1 x.2 (gB y w w x.1 x.2)) (fun x hx hp=>by
  obtain ⟨hi,hj⟩:=Bm.mp hx
  have hm:=of_decide_eq_true hp
  obtain ⟨a,ha⟩: ∃a,gB y w w x.1 x.2=a+1:=⟨_,(Nat.succ_pred_eq_of_pos hm).symm⟩
  have et:dA y w x=(fM w.length ((x.2:Int) - a),fM w.length ((x.1:Int)+a)):=by
   unfold dA
   rw[ha,show (x.2:Int) - ((a+1:Nat):Int)+1=x.2 - a by omega,show (x.1:Int)+((a+1:Nat):Int) - 1=x.1+a by omega]
  have em:gB y w w (dA y w x).1 (dA y w x).2=a+1:=by
   rw[et]
   show al y (sq w (fM w.length ((x.2:Int) - a):Nat)) (bq w (fM w.length ((x.1:Int)+a):Nat)) (w.length+w.length)=a+1
   rw[cC hw.ne,q0 hw.ne]
   exact Iz hy hw ha
  have m0: ∀{i:Nat},i<w.length->(i:Int)%w.length=i:=fun {i} hi=>ZO (by omega) (by omega)
  have c1:(((fM w.length ((x.1:Int)+a):Nat):Int) - a)%w.length=x.1:=by
   rw[cq lw,Qcn,Qbq _ (Qd3 _), <-Qcn,show (x.1:Int)+a - a=x.1 by omega,m0 hi]
  have c2:(((fM w.length ((x.2:Int) - a):Nat):Int)+a)%w.length=x.2:=by
   rw[cq lw,Qb6,show (x.2:Int) - a+a=x.2 by omega,m0 hj]
  have Xu:dA y w (dA y w x)=x:=by
   have:dA y w (dA y w x)=(fM w.length (((dA y w x).2:Int) - a),fM w.length (((dA y w x).1:Int)+a)):=by
    unfold dA at em ⊢
    simp only at em ⊢
    rw[em,show ∀z:Int,z - ((a+1:Nat):Int)+1=z - a from fun z=>by omega,show ∀z:Int,z+((a+1:Nat):Int) - 1=z+a from fun z=>by omega]
   rw[this,et]
   refine Prod.ext ?_ ?_
   ·show fM w.length (((fM w.length ((x.1:Int)+a):Nat):Int) - a)=x.1
    have:=cq lw (((fM w.length ((x.1:Int)+a):Nat):Int) - a)
    rw[c1]at this;omega
   ·show fM w.length (((fM w.length ((x.2:Int) - a):Nat):Int)+a)=x.2
    have:=cq lw (((fM w.length ((x.2:Int) - a):Nat):Int)+a)
    rw[c2]at this;omega
  refine ⟨?_,decide_eq_true (by rw[em];omega),Xu,?_⟩
  ·rw[et];exact Bm.mpr ⟨bB lw ((x.2:Int) - a),bB lw ((x.1:Int)+a)⟩
  ·show fA w (dA y w x).1 (dA y w x).2 (gB y w w (dA y w x).1 (dA y w x).2)=!fA w x.1 x.2 (gB y w w x.1 x.2)
   rw[em,ha,et]
   unfold fA
   simp only
   rw[show ∀z:Int,z - ((a+1:Nat):Int)+1=z - a from fun z=>by omega,show ∀z:Int,z - ((a+1:Nat):Int)+1=z - a from fun z=>by omega,show ∀z:Int,z+((a+1:Nat):Int) - 1=z+a from fun z=>by omega,show ∀z:Int,z+((a+1:Nat):Int) - 1=z+a from fun z=>by omega,c1,c2,cq lw,cq lw]
   refine EI fun q=>Ic (i:=x.1) (j:=x.2) hy hw hm ?_
   have q1:=q.1
   show ((x.2:Int) - (gB y w w x.1 x.2:Nat)+1)%w.length=x.1
   rw[ha,show (x.2:Int) - ((a+1:Nat):Int)+1=x.2 - a by omega]
   exact q1)
 rw[e1]
 omega
end
section
variable {y:List Nat} {ws:List (List Nat)}
theorem x8 (y w v:List Nat) (c i d j:Nat):((jD y w v c i d j).length:Int)=one (JR y w v i j=true)+one (0<A3 y w v i j):=by
 unfold jD
 rw[U5]
 by_cases p:JR y w v i j=true<;>by_cases q:0<A3 y w v i j<;>simp only[p,q,if_true,if_false,fX,aZ,ZR,Qeb,not_false_eq_true]<;>simp[one]
theorem Bo (y w v:List Nat) (c i d j:Nat):((ED y w v c i d j).length:Int)=one (0<gB y w v i j/\ ¬(c=d/\fA w i j (gB y w v i j)=true)):=by
 unfold ED
 by_cases z:gB y w v i j=0\/(c=d/\fA w i j (gB y w v i j)=true)
 ·rw[if_pos z,aZ (fun q=>z.elim (fun z=>by omega) q.2)];rfl
 ·rw[if_neg z,fX ⟨Qdt fun q=>z (.inl q),fun q=>z (.inr q)⟩];rfl
theorem IB {c d i j:Nat} (h:c<d):((lU y ws (c,i) (d,j)).length:Int)=fc y (ws.getD c []) (ws.getD d []) i j:=by
 unfold lU
 have l:ph (c:Int) i d j=true:=by unfold ph;rw[if_neg (by omega)];exact decide_eq_true (by omega)
 rw[if_pos l,if_pos (Z4 h),U5,ZZ,x8,Bo]
 have e:one (0<gB y (ws.getD c []) (ws.getD d []) i j/\ ¬(c=d/\fA (ws.getD c []) i j (gB y (ws.getD c []) (ws.getD d []) i j)=true))=one (0<al y (sq (ws.getD c []) i) (bq (ws.getD d []) j) ((ws.getD c []).length+(ws.getD d []).length)):=bA ⟨fun q=>q.1,fun q=>⟨q,fun z=>by omega⟩⟩
 unfold fc
 rw[<-e]
 rfl
theorem Fb {c i j:Nat}:((lU y ws (c,i) (c,j)).length:Int)=(if (i:Int)<j then one (JR y (ws.getD c []) (ws.getD c []) i j=true)+one (0<A3 y (ws.getD c []) (ws.getD c []) i j) else 0)+one (0<gB y (ws.getD c []) (ws.getD c []) i j/\ ¬fA (ws.getD c []) i j (gB y (ws.getD c []) (ws.getD c []) i j)=true):=by
 unfold lU
 have l:ph (c:Int) i c j=decide ((i:Int)<j):=by unfold ph;rw[if_pos rfl]
 simp only
 rw[if_pos (Ri c),U5,ZZ,Bo,l]
 congr 1
 ·by_cases z:(i:Int)<j
  ·rw[if_pos (decide_eq_true z),if_pos z,x8]
  ·rw[if_neg (by simpa using z),if_neg z];rfl
 ·exact bA ⟨fun q=>⟨q.1,fun z=>q.2 ⟨rfl,z⟩⟩,fun q=>⟨q.1,fun z=>q.2 z.2⟩⟩
theorem CP {c:Nat} (hy:Yd y) (hw:SW y (ws.getD c [])):2*cH (ws.getD c []).length (ws.getD c []).length (fun i j=>((lU y ws (c,i.toNat) (c,j.toNat)).length:Int))=cH (ws.getD c []).length (ws.getD c []).length (fc y (ws.getD c []) (ws.getD c [])):=by
 generalize hg:ws.getD c []=w at*
 have e1:cH w.length w.length (fun i j=>((lU y ws (c,i.toNat) (c,j.toNat)).length:Int))=cH w.length w.length (fun i j=>(if i<j then one (ac y (aI (rd w (i - 1))) (rd w i) (aI (rd w (j - 1))) (rd w j)=true)+one (0<al y (sq w i) (sq w j) (w.length+w.length)) else 0)+one (0<gB y w w i.toNat j.toNat/\ ¬fA w i.toNat j.toNat (gB y w w i.toNat j.toNat)=true)):=bZ fun i j _ _=>by
  rw[U6,U6,Fb,hg]
  rfl
 have e2:cH w.length w.length (fun i j=>one (0<gB y w w i.toNat j.toNat/\ ¬fA w i.toNat j.toNat (gB y w w i.toNat j.toNat)=true))=((GU w.length w.length).filter fun x=>decide (0<gB y w w x.1 x.2)&&!fA w x.1 x.2 (gB y w w x.1 x.2)).length:=
  vO (Q:=fun i j=>0<gB y w w i.toNat j.toNat/\ ¬fA w i.toNat j.toNat (gB y w w i.toNat j.toNat)=true) (P:=fun x=>decide (0<gB y w w x.1 x.2)&&!fA w x.1 x.2 (gB y w w x.1 x.2)) fun i j _ _=>by
   rw[U6,U6,Z0,decide_eq_true_iff]
   simp
 have e3:=IA hy hw
 have ty: ∀k,aI (rd w (k - 1))≠rd w k:=fun k=>Ne.symm (hw.red k)
 have t1:=qb (n:=w.length) (h:=fun i j=>one (ac y (aI (rd w (i - 1))) (rd w i) (aI (rd w (j - 1))) (rd w j)=true)) (fun i j _ _=>by
  rw[LQ hy (hy.cl _ (hw.rd _)) (hw.rd _) (hy.cl _ (hw.rd _)) (hw.rd _) (ty _) (ty _)]) (fun i _=>aZ (by unfold ac;rw[if_pos (.inl rfl)];decide))
 have t2:=qb (n:=w.length) (h:=fun i j=>one (0<al y (sq w i) (sq w j) (w.length+w.length))) (fun i j _ _=>by
  have hd:=fun (i j:Int) z=>eQ (f:=sq w i) (g:=sq w j) hw.ne hw.ne (fun k=>b_ w i k) (fun k=>b_ w j k) z
  have k1:=qY hy (bo hw i) (bo hw j) (hd i j)
  have k2:=qY hy (bo hw j) (bo hw i) (hd j i)
  exact bA ⟨fun q=>k2.mp (JX hy (bo hw i) (bo hw j) (k1.mpr q)),fun q=>k1.mp (JX hy (bo hw j) (bo hw i) (k2.mpr q))⟩) (fun i _=>aZ (by rw[E9 rfl];exact Z5 _))
 rw[e1,dj,E_ (fun i j=>one (ac y (aI (rd w (i - 1))) (rd w i) (aI (rd w (j - 1))) (rd w j)=true)+one (0<al y (sq w i) (sq w j) (w.length+w.length))),Bk,e2]
 have e4:cH w.length w.length (fc y w w)=cH w.length w.length (fun i j=>one (ac y (aI (rd w (i - 1))) (rd w i) (aI (rd w (j - 1))) (rd w j)=true))+cH w.length w.length (fun i j=>one (0<al y (sq w i) (sq w j) (w.length+w.length)))+cH w.length w.length (fun i j=>one (0<al y (sq w i) (bq w j) (w.length+w.length))):=by
  rw[<-dj, <-dj];rfl
 omega
end
theorem kh (h:Nat->Int): ∀n:Nat,((List.range n).map h).sum=sm n (fun i=>h i.toNat)
 | 0=>rfl
 | n+1=>by
  rw[kb,WQ,List.sum_append,kh h n]
  show _=sm n _+h (((n:Nat):Int).toNat)
  rw[U6]
  simp
theorem qc (ws:List (List Nat)) (h:Nat×Nat->Int): ∀n:Nat,((ny ws n).map h).sum=sm n fun c=>sm (ws.getD c.toNat []).length fun i=>h (c.toNat,i.toNat)
 | 0=>rfl
 | n+1=>by
  unfold ny
  rw[WQ,List.sum_append,qc ws h n,Qac]
  show _+((List.range _).map fun i=>h (n,i)).sum=_
  rw[kh]
  rfl
noncomputable def cl {α:Type} (p:α->α->Bool):List α->Nat
 | []=>0
 | x::r=>(r.filter (p x)).length+cl p r
theorem vP {α:Type} (p:α->α->Bool) (m:List α): ∀l:List α,(cl p (l++m):Int)=cl p l+cl p m+(l.map fun x=>((m.filter (p x)).length:Int)).sum
 | []=>by show (cl p m:Int)=((0:Nat):Int)+cl p m+0;omega
 | a::l=>by
  show ((((l++m).filter (p a)).length+cl p (l++m):Nat):Int)=(((l.filter (p a)).length+cl p l:Nat):Int)+cl p m+(((a::l).map fun x=>((m.filter (p x)).length:Int)).sum)
  rw[Qaw,U5,ZC,Qa0,ZZ,ZZ,vP p m l,ZZ]
  omega
theorem Fc (p:Nat×Nat->Nat×Nat->Bool) (c:Nat): ∀n:Nat,(cl p ((List.range n).map fun i=>(c,i)):Int)=jK n (fun i j=>one (p (c,i.toNat) (c,j.toNat)=true))
 | 0=>rfl
 | n+1=>by
  rw[kb,WQ,vP,Fc p c n,Qac]
  show _+((0:Nat):Int)+((List.range n).map fun i=>((([(c,n)]:List (Nat×Nat)).filter (p (c,i))).length:Int)).sum=jK n _+sm n _
  rw[kh,Int.add_assoc]
  congr 1
  rw[show ((0:Nat):Int)=0 from rfl,Qay]
  refine aO fun i _=>?_
  show (((([(c,n)]:List (Nat×Nat)).filter (p (c,i))).length:Int))=one (p (c,((i:Nat):Int).toNat) (c,((n:Nat):Int).toNat)=true)
  rw[U6,U6]
  cases e:p (c,i) (c,n)
  ·rw[ZF (by rw[e];decide),aZ (by decide)];rfl
  ·rw[ZP e,fX rfl];rfl
theorem Bp (P:Nat×Nat->Bool) (c n:Nat):((((List.range n).map fun i=>(c,i)).filter P).length:Int)=sm n (fun j=>one (P (c,j.toNat)=true)):=by
 rw[Qec,MO,zX (P:=fun j=>P (c,j)) fun j _=>by rw[U6]]
 rfl
theorem vQ (ws:List (List Nat)) (p:Nat×Nat->Nat×Nat->Bool): ∀n:Nat,(cl p (ny ws n):Int)=sm n (fun c=>jK (ws.getD c.toNat []).length (fun i j=>one (p (c.toNat,i.toNat) (c.toNat,j.toNat)=true)))+jK n (fun c d=>cH (ws.getD c.toNat []).length (ws.getD d.toNat []).length fun i j=>one (p (c.toNat,i.toNat) (d.toNat,j.toNat)=true))
 | 0=>rfl
 | n+1=>by
  unfold ny
  rw[vP,vQ ws p n,Fc,qc]
  have u:((n:Nat):Int).toNat=n:=U6 n
  show _+_+sm n _=(sm n _+jK (ws.getD ((n:Nat):Int).toNat []).length (fun i j=>one (p (((n:Nat):Int).toNat,i.toNat) (((n:Nat):Int).toNat,j.toNat)=true)))+(jK n _+sm n (fun c=>cH (ws.getD c.toNat []).length (ws.getD ((n:Nat):Int).toNat []).length fun i j=>one (p (c.toNat,i.toNat) (((n:Nat):Int).toNat,j.toNat)=true)))
  rw[u]
  have:sm n (fun c=>sm (ws.getD c.toNat []).length fun i=>(((((List.range (ws.getD n []).length).map fun i=>(n,i)).filter (p (c.toNat,i.toNat))).length:Nat):Int))=sm n (fun c=>cH (ws.getD c.toNat []).length (ws.getD n []).length fun i j=>one (p (c.toNat,i.toNat) (n,j.toNat)=true)):=aO fun c _=>aO fun i _=>Bp _ _ _
  rw[this]
  omega
section
variable {y:List Nat} {ws:List (List Nat)} {L:Nat->Bool} {r:Nat->Nat} {M:Nat} {N:Nat->Nat->Nat->Nat}
noncomputable def Bq (ws:List (List Nat)) (N:Nat->Nat->Nat->Nat) (o p:Nat×Nat):Bool:=jg (pO ws N o.1) (pI ws N o.1) (pO ws N p.1) (pI ws N p.1) o.2 p.2
end
def Lx (f g:Int->Nat):Prop:= ∃m:Nat,f m<g m/\ ∀l:Nat,l<m->f l=g l
theorem vR {w:List Nat} (hw:w≠[]) {i k:Nat} (hi:i<=w.length) (hk:k<w.length):(iC w i)[k]? =some (rd w ((i:Int)+k)):=by
 rw[p7 hi hk]
 unfold Fw
 have:=eO hw ((i:Int)+k)
 rw[<-this]
 congr 1
 have e:(((k+i)%w.length:Nat):Int)=((i:Int)+k)%w.length:=by rw[Qc1,ZZ,Int.add_comm]
 omega
theorem Fd {w u:List Nat} (hw:w≠[]) (hl:u.length=w.length) {i j:Nat} (hi:i<=w.length) (hj:j<=w.length):iC w i<iC u j↔Lx (sq w i) (sq u j):=by
 have hu:u≠[]:=fun z=>hw (by rw[z]at hl;exact Qap.mp hl.symm)
 have g1: ∀{k:Nat} (hk:k<(iC w i).length),(iC w i)[k]=sq w i k:=fun {k} hk=>by
  have:=vR hw hi (k:=k) (by rw[cK]at hk;exact hk)
  rw[K3 hk]at this
  exact Zy this
 have g2: ∀{k:Nat} (hk:k<(iC u j).length),(iC u j)[k]=sq u j k:=fun {k} hk=>by
  have:=vR hu (i:=j) (k:=k) (by omega) (by rw[cK]at hk;exact hk)
  rw[K3 hk]at this
  exact Zy this
 rw[List.lt_iff_exists]
 constructor
 ·rintro (⟨_,h⟩ | ⟨m,h1,h2,h3,h4⟩)
  ·rw[cK,cK,hl]at h;omega
  ·refine ⟨m,by rw[<-g1 h1, <-g2 h2];exact h4,fun l Ay=>?_⟩
   rw[<-g1 (by omega), <-g2 (by omega)]
   exact h3 l Ay
 ·rintro ⟨m,h1,h2⟩
  have hp:=WO.mpr hw
  have hm:m<w.length:=by
   refine Classical.byContradiction fun z=>?_
   have d:=Qdc m w.length
   have c1:=iS (f:=sq w i) (p:=w.length) (fun k=>b_ w i k) (m%w.length:Nat) (m / w.length)
   have c2:=iS (f:=sq u j) (p:=w.length) (fun k=>by rw[<-hl];exact b_ u j k) (m%w.length:Nat) (m / w.length)
   have e:((m%w.length:Nat):Int)+((m / w.length:Nat):Int)*(w.length:Nat)=m:=by
    rw[Int.mul_comm];exact_mod_cast d
   rw[e]at c1 c2
   rw[c1,c2,h2 (m%w.length) (by have:=Qbw m hp;omega)]at h1
   omega
  refine .inr ⟨m,by rw[cK];exact hm,by rw[cK,hl];exact hm,fun l Ay=>?_,?_⟩
  ·rw[g1,g2];exact h2 l Ay
  ·rw[g1,g2];exact h1
theorem mS {w:List Nat} (hw:w≠[]): ∃i:Nat,i<w.length/\fV w=iC w i:=by
 have hp:=WO.mpr hw
 rcases lr (mE w (w.length - 1)) w with h | h
 ·exact ⟨0,hp,by unfold fV;rw[h,xR]⟩
 ·unfold mE at h
  obtain ⟨k,hk,e⟩:=ZL.mp h
  have:=Z_.mp hk
  exact ⟨k+1,by omega,by unfold fV;exact e.symm⟩
theorem oR {w:List Nat} {i:Nat} (hi:i<w.length): ¬iC w i<fV w:=by
 unfold fV
 refine lA _ _ _ ?_
 cases i with
 | zero=>rw[xR];exact Zv
 | succ i=>exact Zs _ (ZL.mpr ⟨i,Z_.mpr (by omega),rfl⟩)
noncomputable def leads (w:List Nat):Bool:=decide (fV w<fV (eK w))
theorem ki {v:List Nat} (h:v≠[]) (k:Int):sq (eK v) k=bq v (-1 - k):=by
 funext x
 unfold sq bq
 rw[nS h]
 congr 2;omega
theorem q5 {v:List Nat} (h:v≠[]):eK v≠[]:=fun z=>h (Qap.mp (by rw[<-cn v,z];rfl))
theorem uj {w:List Nat} (hw:w≠[]):leads w=true↔ ∃i:Int, ∀j:Int,Lx (sq w i) (bq w j):=by
 have hp:=WO.mpr hw
 have hl:=cn w
 have ht:=q5 hw
 unfold leads
 rw[decide_eq_true_iff]
 constructor
 ·intro h
  obtain ⟨i,hi,ei⟩:=mS hw
  refine ⟨i,fun j=>?_⟩
  have hj:=bB (n:=(eK w).length) (by rw[hl];exact hp) (-1 - j)
  have h2:fV w<iC (eK w) (fM (eK w).length (-1 - j)):=List.not_le.mp fun z=>by
   have:=List.lt_of_le_of_lt z h
   exact oR hj this
  rw[ei]at h2
  have h3:=(Fd hw hl (by omega) (by omega)).mp h2
  rw[cC ht,ki hw,show -1 - (-1 - j)=j by omega]at h3
  exact h3
 ·rintro ⟨i,h⟩
  obtain ⟨j,hj,ej⟩:=mS ht
  have h2:=h (-1 - j)
  rw[show (-1:Int) - (j:Int)= -1 - j by omega, <-ki hw, <-cC hw]at h2
  have hi:=bB hp i
  have h3:=(Fd hw hl (by omega) (by omega)).mpr h2
  rw[<-ej]at h3
  exact List.lt_of_le_of_lt (List.not_lt.mp (oR hi)) h3
theorem uk {w v:List Nat} (hw:w≠[]) (hv:v≠[]) {i j:Int} (h:cB w v i j):leads w=leads v:=by
 have e1: ∀k,sq w k=sq v (k - i+j):=fun k=>by
  funext x
  have:=h (k - i+x)
  unfold sq at this ⊢
  rw[show k+x=i+(k - i+x) by omega,this]
  congr 1;omega
 have e2: ∀k,bq w k=bq v (k - i+j):=fun k=>by rw[<-fD, <-fD,e1]
 rw[Qci,uj hw,uj hv]
 constructor
 ·rintro ⟨a,h⟩
  refine ⟨a - i+j,fun b=>?_⟩
  have:=h (b - j+i)
  rwa [e1,e2,show b - j+i - i+j=b by omega]at this
 ·rintro ⟨a,h⟩
  refine ⟨a - j+i,fun b=>?_⟩
  rw[e1,e2,show a - j+i - i+j=a by omega]
  exact h _
theorem um {y w:List Nat} (hy:Yd y) (hw:SW y w):leads (eK w)=!leads w:=by
 have hl:AllLt w:=fun c hc=>hy.lt c (hw.bK c hc)
 have ne:fV w≠fV (eK w):=fun z=>by
  obtain ⟨i,hi,ei⟩:=mS hw.ne
  obtain ⟨j,hj,ej⟩:=mS (q5 hw.ne)
  rw[cn]at hj
  have: ∀k:Nat,k<w.length->sq w i k=sq (eK w) j k:=fun k hk=>by
   have h1:=vR hw.ne (i:=i) (k:=k) (by omega) hk
   have h2:=vR (q5 hw.ne) (i:=j) (k:=k) (by rw[cn];omega) (by rw[cn];exact hk)
   rw[<-ei,z,ej,h2]at h1
   exact (Zy h1).symm
  refine vG hy hw i (-1 - j) ?_
  rw[<-ki hw.ne]
  have hp:=WO.mpr hw.ne
  refine fw (p:=w.length) (q:=w.length) hp hp (fun k=>b_ w i k) (fun k=>by rw[<-cn w];exact b_ (eK w) j k) fun n hn=>?_
  by_cases q:n<w.length
  ·exact this n q
  ·have c1:=b_ w i ((n - w.length:Nat):Int)
   have c2:=b_ (eK w) j ((n - w.length:Nat):Int)
   rw[show ((n - w.length:Nat):Int)+w.length=n by omega]at c1
   rw[cn,show ((n - w.length:Nat):Int)+w.length=n by omega]at c2
   rw[c1,c2]
   exact this _ (by omega)
 unfold leads
 rw[HX hl, <-decide_not]
 refine decide_eq_decide.mpr ⟨fun h z=>?_,fun h=>?_⟩
 ·exact Qb2 _ (List.lt_trans h z)
 ·exact List.not_le.mp fun z=>ne (List.le_antisymm z (List.not_lt.mp h))
theorem CQ {y w v:List Nat} (hy:Yd y) (hw:SW y w) (hv:SW y v) {i j:Int} (h: ∀k,sq w i k=bq v j k):leads v=!leads w:=by
 have:cB w (eK v) i (-1 - j):=fun k=>by rw[ki hv.ne,show -1 - (-1 - j)=j by omega];exact h k
 rw[uk hw.ne (q5 hv.ne) this,um hy hv,Bool.not_not]
theorem Fe {w:List Nat} (hw:w≠[]) {d:Nat}:yO w d↔ ∀k:Int,rd w (k+d)=rd w k:=by
 have hp:=WO.mpr hw
 have fr: ∀i:Nat,Fw w i=some (rd w i):=fun i=>by
  unfold Fw
  rw[<-eO hw (i:Int)]
  congr 1
 constructor
 ·intro h k
  have:=h (fM w.length k)
  rw[fr,fr]at this
  have:=Zy this
  rw[bY hw]at this
  rw[<-this, <-fL w (k+d), <-fL w (((fM w.length k+d:Nat)):Int),ZZ,cq hp,Qb6]
 ·intro h i
  rw[fr,fr,ZZ,h]
theorem jL {w:List Nat} (hw:w≠[]) {s:Nat} (h:bQ w s):0<s/\ ∀i j:Int,cB w w i j↔(i - j)%(s:Int)=0:=by
 rcases h with ⟨z,_⟩ | h'
 ·exact absurd z hw
 have h:bQ w s:= .inr h'
 obtain ⟨h1,h2,h3,_⟩:=h'
 have ps: ∀k:Int,rd w (k+s)=rd w k:=(Fe hw).mp ((gI hw h2).mp (vq h1 h2 h3))
 have pm: ∀(k t:Int),rd w (k+t*s)=rd w k:=fun k t=>by
  rcases Int.le_total 0 t with q | q
  ·obtain ⟨n,rfl⟩: ∃n:Nat,t=n:=⟨t.toNat,by omega⟩
   exact iS ps k n
  ·obtain ⟨n,rfl⟩: ∃n:Nat,t= -(n:Int):=⟨(-t).toNat,by omega⟩
   have:=iS ps (k+ -(n:Int)*s) n
   rw[<-this]
   congr 1
   rw[Int.neg_mul];omega
 refine ⟨h1,fun i j=>⟨fun p=>?_,fun p k=>?_⟩⟩
 ·have pd: ∀k:Int,rd w (k+(i - j))=rd w k:=fun k=>by
   have:=p (k - j)
   unfold sq at this
   rw[show i+(k - j)=k+(i - j) by omega,show j+(k - j)=k by omega]at this
   exact this
  have e:=Qdh (i - j) s
  have hn:=Qah (i - j) (b:=(s:Int)) (by omega)
  have dq:=Qad (i - j) (b:=(s:Int)) (by omega)
  refine Classical.byContradiction fun z=>?_
  obtain ⟨d,hd⟩: ∃d:Nat,(i - j)%(s:Int)=d:=⟨((i - j)%(s:Int)).toNat,by omega⟩
  refine bQ.least h (j:=d) (by omega) (by omega) ((Fe hw).mpr fun k=>?_)
  have q:=pd k
  rw[<-e,hd,Int.mul_comm, <-Int.add_assoc,pm]at q
  exact q
 ·unfold sq
  have e:=Qdh (i - j) s
  rw[p,Qay,Int.mul_comm]at e
  rw[show i+k=j+k+(i - j) by omega, <-e,pm]
theorem Ff {y:List Nat} {ws:List (List Nat)} {r:Nat->Nat} {M:Nat} (hy:Yd y) (hw: ∀c,c<ws.length->SW y (ws.getD c [])) (hr: ∀c,c<ws.length->bQ (ws.getD c []) (r c)) (hM: ∀c d,c<ws.length->d<ws.length->(ws.getD c []).length+(ws.getD d []).length<=M):eF y ws (fun c=>leads (ws.getD c [])) r M:=
 ⟨hy,hw,hM,fun c d i j hc hd h=>uk (hw c hc).ne (hw d hd).ne h,fun c d i j hc hd h=>CQ hy (hw c hc) (hw d hd) h,fun c hc=>(jL (hw c hc).ne (hr c hc)).1,fun c hc=>(jL (hw c hc).ne (hr c hc)).2⟩
noncomputable def bs (y w v:List Nat) (i j:Int):Int:=one (ac y (aI (rd w (i - 1))) (rd w i) (aI (rd v (j - 1))) (rd v j)=true)+one (wV y (sq w i) (sq v j))+one (wV y (sq w i) (bq v j))
noncomputable def SS (y w v:List Nat):Int:=cH w.length v.length (bs y w v)
theorem q8 {y w v:List Nat} (hy:Yd y) (hw:SW y w) (hv:SW y v):cH w.length v.length (fc y w v)=SS y w v:=bZ fun i j _ _=>by
 unfold fc bs
 rw[bA (qY (n:=w.length+v.length) hy (bo hw i) (bo hv j) fun z=>eQ hw.ne hv.ne (fun k=>b_ w i k) (fun k=>b_ v j k) z),bA (qY (n:=w.length+v.length) hy (bo hw i) (lF hy hv j) fun z=>eQ hw.ne hv.ne (fun k=>b_ w i k) (fun k=>nR v j k) z)]
noncomputable def gg (y:List Nat):List Nat:=(y.filter aD).mergeSort fun a b=>decide (a<=b)
theorem kj (y:List Nat):(gg y).Perm (y.filter aD):=List.mergeSort_perm _ _
theorem x9 (y:List Nat):(gg y).Pairwise (· <= ·):=
 (List.pairwise_mergeSort (le:=fun a b=>decide (a<=b)) (fun a b c h1 h2=>decide_eq_true (ZN (of_decide_eq_true h1) (of_decide_eq_true h2))) (fun a b=>by
  rcases Nat.le_total a b with z | z
  ·rw[decide_eq_true z];rfl
  ·rw[decide_eq_true z,Bool.or_true]) (y.filter aD)).imp fun z=>of_decide_eq_true z
theorem Br {y l:List Nat} (h:l.Perm (y.filter aD)) (p:l.Pairwise (· <= ·)):l=gg y:=CH (h.trans (kj y).symm) p (x9 y)
theorem Fg {y:List Nat} (h:Yd y) {e:Nat} (he:e∈y):PyProof.Rows.lo1 e∈gg y:=by
 refine (kj y).mem_iff.mpr (ZU.mpr ?_)
 rcases h.lt e he with z | z
 ·rw[(bj e z).2.1];exact ⟨he,(bj e z).1⟩
 ·rw[(bU e z).2.1];exact ⟨h.cl e he,(bj _ (bU e z).2.2.2).1⟩
theorem jM {y:List Nat} (h:Yd y):2*(gg y).length=y.length:=by rw[(kj y).length_eq];exact EA h
structure Pr where
 t:Addr
 c:Nat
 i:Nat
noncomputable def uo (ps:List Pr):List V:=ps.map fun p=>V.ref p.t
theorem vS (ps:List Pr):(uo ps).length=ps.length:=by unfold uo;rw[MO]
theorem Fh (a:List Pr) (p:Pr):uo a++[V.ref p.t]=uo (a++[p]):=by unfold uo;rw[WQ];rfl
theorem IC (a:List Pr):(uo a).reverse=uo a.reverse:=by unfold uo;rw[Qbs]
theorem Fi {ps:List Pr} {i:Nat} {x:V} (h:(uo ps)[i]? =some x): ∃p,ps[i]? =some p/\x=V.ref p.t:=by
 unfold uo at h
 rw[Y5]at h
 cases e:ps[i]? with
 | none=>rw[e]at h;cases h
 | some p=>rw[e]at h;cases h;exact ⟨p,rfl,rfl⟩
structure pF (H:Hp) (p:Pr):Prop where
 tp:H p.t=some (.tup [.int p.c, .int p.i])
 cz:p.c<1000
 iz:p.i<1000
theorem pF.same {H H':Hp} {p:Pr} (h:pF H p) (s:ak H H'):pF H' p:=⟨s _ _ h.tp,h.cz,h.iz⟩
structure Od where
 o:Addr
 ps:List Pr
structure CT (H:Hp) (o:Od):Prop where
 tp:H o.o=some (.tup (uo o.ps))
 pr: ∀p∈o.ps,pF H p
 fw:o.ps.length<=100
theorem CT.same {H H':Hp} {o:Od} (h:CT H o) (s:ak H H'):CT H' o:=⟨s _ _ h.tp,fun p hp=>(h.pr p hp).same s,h.fw⟩
noncomputable def ID (os:List Od):List V:=os.map fun o=>V.ref o.o
theorem Fj (a:List Od) (p:Od):ID a++[V.ref p.o]=ID (a++[p]):=by unfold ID;rw[WQ];rfl
theorem LU {os:List Od} {i:Nat} {o:Od} (h:os[i]? =some o):(ID os)[i]? =some (V.ref o.o):=by unfold ID;rw[Y5,h];rfl
structure vT (H:Hp) (dr:Addr) (ws:List (List Nat)) (os:List Od):Prop where
 ex: ∃wt ot,H dr=some (.tup [.ref wt, .ref ot])/\H wt=some (.tup (iN ws))/\H ot=some (.tup (ID os))
 od: ∀o∈os,CT H o
theorem vT.same {H H':Hp} {dr:Addr} {ws:List (List Nat)} {os:List Od} (h:vT H dr ws os) (s:ak H H'):vT H' dr ws os:=by
 obtain ⟨⟨wt,ot,h1,h2,h3⟩,g⟩:=h
 exact ⟨⟨wt,ot,s _ _ h1,s _ _ h2,s _ _ h3⟩,fun o ho=>(g o ho).same s⟩
noncomputable def zY (y:List Nat) (os:List Od) (e:Nat):List Pr:=((os[(gg y).idxOf (PyProof.Rows.lo1 e)]?).map Od.ps).getD []
noncomputable def qd (y:List Nat) (os:List Od) (e:Nat):List Pr:=if isUp e=true then (zY y os e).reverse else zY y os e
theorem jN {y:List Nat} {os:List Od} {e:Nat} (h:Yd y) (he:e∈y) (ho:2*os.length=y.length): ∃o∈os,os[(gg y).idxOf (PyProof.Rows.lo1 e)]? =some o/\zY y os e=o.ps:=by
 have hi:=Y6 (Fg h he)
 have hl:=jM h
 have Qk:(gg y).idxOf (PyProof.Rows.lo1 e)<os.length:=by omega
 exact ⟨os[(gg y).idxOf (PyProof.Rows.lo1 e)],ZT Qk,K3 Qk,by unfold zY;rw[K3 Qk];rfl⟩
structure Pt where
 t:Addr
 c:Nat
 i:Nat
 e:Nat
noncomputable def GV (ps:List Pt):List V:=ps.map fun p=>V.ref p.t
theorem Bs (ps:List Pt):(GV ps).length=ps.length:=by unfold GV;rw[MO]
theorem Fl (a:List Pt) (p:Pt):GV a++[V.ref p.t]=GV (a++[p]):=by unfold GV;rw[WQ];rfl
noncomputable def Pt.is (p:Pt):Nat×Nat×Nat:=(p.c,p.i,p.e)
structure sL (H:Hp) (p:Pt):Prop where
 tp:H p.t=some (.tup [.int p.c, .int p.i, .str (S [p.e])])
 cz:p.c<1000
 iz:p.i<1000
 ez:p.e<128
theorem sL.same {H H':Hp} {p:Pt} (h:sL H p) (s:ak H H'):sL H' p:=⟨s _ _ h.tp,h.cz,h.iz,h.ez⟩
theorem sL.upd {H:Hp} {p:Pt} {q:Addr} {o:HO} (h:sL H p) (n:p.t≠q):sL (L2.upd H q o) p:=⟨by rw[au n];exact h.tp,h.cz,h.iz,h.ez⟩
noncomputable def fZ (y:List Nat) (os:List Od) (e:Nat):List (Nat×Nat×Nat):=(qd y os e).map fun p=>(p.c,p.i,e)
noncomputable def iU (y:List Nat) (os:List Od):List (Nat×Nat×Nat):=y.flatMap (fZ y os)
noncomputable def Pr.pair (p:Pr):Nat×Nat:=(p.c,p.i)
noncomputable def zZ (band l:Nat):Bool:=decide (l=band)||decide (l=aI band)
noncomputable def i_ (band c:Nat) (w:List Nat) (n:Nat):List (Nat×Nat):=((List.range n).filter fun i=>zZ band (w.getD i 0)).map fun i=>(c,i)
noncomputable def c_ (band:Nat) (ws:List (List Nat)) (n:Nat):List (Nat×Nat):=(List.range n).flatMap fun c=>i_ band c (ws.getD c []) (ws.getD c []).length
theorem z4 {band c i l:Nat} {w:List Nat} (h:w[i]? =some l):i_ band c w (i+1)=i_ band c w i++if zZ band l=true then [(c,i)] else []:=by
 have e:w.getD i 0=l:=by rw[WS,h];rfl
 unfold i_
 rw[kb,Qaw,WQ]
 congr 1
 by_cases z:zZ band l=true
 ·rw[if_pos z,ZP (by rw[e];exact z)];rfl
 ·rw[if_neg z,ZF (by rw[e];exact z)];rfl
theorem x_ {band i:Nat} {ws:List (List Nat)} {w:List Nat} (h:ws[i]? =some w):c_ band ws (i+1)=c_ band ws i++i_ band i w w.length:=by
 have e:ws.getD i []=w:=by rw[WS,h];rfl
 unfold c_
 rw[kb,ZY]
 congr 1
 rw[ZQ,Qc0,ZV,e]
structure Fn (y:List Nat) (ws:List (List Nat)):Prop where
 tR:ws.length<=4
 all: ∀w∈ws,(∀c∈w,c∈y)/\w.length<=12
def vU (y:List Nat) (ws:List (List Nat)) (os:List Od):Prop:=os.length=(gg y).length/\ ∀(j:Nat) (o:Od) (b:Nat),os[j]? =some o->(gg y)[j]? =some b->(o.ps.map Pr.pair).Perm (c_ b ws ws.length)
def kM (_:PySem.W.Frag):Sp:=fun vs H Q _=> ∃(y:List Nat) (dr:Addr) (ws:List (List Nat)) (os:List Od) (e:Nat),vs=[.str (S y), .ref dr, .str (S [e])]/\Yd y/\y.length<=8/\e∈y/\2*os.length=y.length/\vT H dr ws os/\ ∀(q:Addr) (H':Hp),H q=none->H' q=some (.lst (uo (qd y os e)))->ak H H'->Q (.ref q) H'
theorem q9 {K:PySem.W.Frag} {vs:List V} {H:Hp} {Q:VK} {E:XK} (h:kM K vs H Q E):vs.length=3:=by obtain ⟨c,_,_,_,_,rfl,_⟩:=h;rfl
def uq (_:PySem.W.Frag):Sp:=fun vs H Q _=> ∃(y:List Nat) (dr:Addr) (ws:List (List Nat)) (os:List Od),vs=[.str (S y), .ref dr]/\Yd y/\y.length<=8/\2*os.length=y.length/\vT H dr ws os/\ ∀(q:Addr) (ps:List Pt) (H':Hp),H q=none->H' q=some (.lst (GV ps))->(∀p∈ps,sL H' p/\p.t≠q)->ps.map Pt.is=iU y os->ps.length<=800->ak H H'->Q (.ref q) H'
theorem z5 {K:PySem.W.Frag} {vs:List V} {H:Hp} {Q:VK} {E:XK} (h:uq K vs H Q E):vs.length=2:=by obtain ⟨c,_,_,_,rfl,_⟩:=h;rfl
theorem IE {y:List Nat} {os:List Od} {e:Nat} {p:Pr} (h:Yd y) (he:e∈y) (ho:2*os.length=y.length) (hp:p∈qd y os e): ∃o∈os,p∈o.ps:=by
 obtain ⟨o,h1,h2,h3⟩:=jN h he ho
 refine ⟨o,h1,?_⟩
 unfold qd at hp
 rw[h3]at hp
 split at hp
 ·exact Qcz.mp hp
 ·exact hp
theorem IF {H:Hp} {y:List Nat} {os:List Od} {e:Nat} (h:Yd y) (he:e∈y) (ho:2*os.length=y.length) (hd: ∀o∈os,CT H o):(qd y os e).length<=100:=by
 obtain ⟨o,h1,h2,h3⟩:=jN h he ho
 have:=(hd o h1).fw
 unfold qd
 rw[h3]
 split
 ·rw[ZX];exact this
 ·exact this
theorem pF.ts {H H':Hp} {p:Pr} (h:pF H p) (s:ba H H'):pF H' p:=⟨s _ _ h.tp,h.cz,h.iz⟩
theorem Fo {band l:Nat} (hb:band∈bg) (hl:Lt l):decide (PyProof.Rows.lo1 l=band)=zZ band l:=by
 unfold zZ
 rcases hl with h | h
 ·have e:=(bj l h).2.1
  have n:l≠aI band:=fun z=>t6 _ (bj band hb).2.2 (z▸h)
  rw[e,decide_eq_false n,Qdq]
 ·have e:=(bU l h).2.1
  have n:l≠band:=fun z=>t6 l h (z▸hb)
  rw[e,decide_eq_false n,Qds]
  refine decide_eq_decide.mpr ⟨fun z=>by rw[<-z,aT (.inr h)],fun z=>by rw[z,aT (.inl hb)]⟩
theorem Xv {α:Type} {l:List α} (h:l.Nodup) {i j:Nat} (hi:i<l.length) (hj:j<l.length) (e:l[i]=l[j]):i=j:=by
 have hp:=Qa8.mp h
 rcases Nat.lt_trichotomy i j with z | z | z
 ·exact absurd e (hp i j hi hj z)
 ·exact z
 ·exact absurd e.symm (hp j i hj hi z)
theorem ur {l:List (Nat×Nat×Nat)} (h:l.Nodup) {n:Nat} {p:Nat×Nat×Nat} (e:l[n]? =some p):l.idxOf p=n:=by
 obtain ⟨hn,e2⟩:=K4.mp e
 have hm:p∈l:=Y4 e
 have hi:=Y6 hm
 exact Xv h hi hn ((Qam hi).trans e2.symm)
theorem q_ {α:Type} {f:Nat->List α} (g:α->Nat): ∀{l:List Nat},l.Nodup->(∀e∈l,(f e).Nodup)->(∀e∈l, ∀p∈f e,g p=e)->(l.flatMap f).Nodup
 | [],_,_,_=>Qdj
 | a::l,hn,h1,h2=>by
  obtain ⟨n1,n2⟩:=Z6.mp hn
  rw[ZQ,Qaj]
  refine ⟨h1 a Zv,q_ g n2 (fun e he=>h1 e (Zs _ he)) (fun e he=>h2 e (Zs _ he)),fun x hx y hy z=>?_⟩
  subst z
  obtain ⟨e,he,Xw⟩:=ZS.mp hy
  have g1:=h2 a Zv x hx
  have g2:=h2 e (Zs _ he) x Xw
  exact n1 (by rw[<-g1,g2];exact he)
theorem Fp (band c:Nat) (w:List Nat) (n:Nat):(i_ band c w n).Nodup:=by
 unfold i_
 show (List.map _ _).Pairwise (· ≠ ·)
 rw[Qaf]
 exact (Qd5.filter _).imp fun {i j} h z=>h (by cases z;rfl)
theorem uv (band:Nat) (ws:List (List Nat)) (n:Nat):(c_ band ws n).Nodup:=
 q_ Prod.fst Qd5 (fun c _=>Fp _ _ _ _) fun c _ p hp=>by
  unfold i_ at hp
  obtain ⟨i,_,rfl⟩:=ZL.mp hp
  rfl
theorem z6 {band c i n:Nat} {ws:List (List Nat)} (hc:c<n) (hi:i<(ws.getD c []).length) (hb:zZ band ((ws.getD c []).getD i 0)=true):(c,i)∈c_ band ws n:=
 ZS.mpr ⟨c,Z_.mpr hc,ZL.mpr ⟨i,ZU.mpr ⟨Z_.mpr hi,hb⟩,rfl⟩⟩
theorem vU.at {y:List Nat} {ws:List (List Nat)} {os:List Od} {e:Nat} (h:Yd y) (ho:vU y ws os) (he:e∈y):(((qd y os e).map Pr.pair)).Perm (c_ (PyProof.Rows.lo1 e) ws ws.length):=by
 have hl:=jM h
 have LV:=ho.1
 obtain ⟨o,o1,o2,o3⟩:=jN (os:=os) h he (by omega)
 have hm:=Fg h he
 have hb:(gg y)[(gg y).idxOf (PyProof.Rows.lo1 e)]? =some (PyProof.Rows.lo1 e):=by
  have hi:=Y6 hm
  rw[K3 hi,Qam hi]
 have p:=ho.2 _ o _ o2 hb
 unfold qd
 rw[o3]
 split
 ·rw[Qbs]
  exact (List.reverse_perm _).trans p
 ·exact p
theorem Fq {y:List Nat} {ws:List (List Nat)} {os:List Od} (h:Yd y) (ho:vU y ws os):(iU y os).Nodup:=by
 refine q_ (fun p=>p.2.2) h.nd (fun e he=>?_) fun e _ p hp=>?_
 ·have hn:=(ho.at h he).nodup_iff.mpr (uv _ _ _)
  have e1:fZ y os e=((qd y os e).map Pr.pair).map fun x=>(x.1,x.2,e):=by unfold fZ;rw[Qac];rfl
  rw[e1]
  show (List.map _ _).Pairwise (· ≠ ·)
  rw[Qaf]
  exact hn.imp fun {a b} g z=>g (by cases a;cases b;cases z;rfl)
 ·unfold fZ at hp
  obtain ⟨x,_,rfl⟩:=ZL.mp hp
  rfl
theorem Fs {y:List Nat} {ws:List (List Nat)} {os:List Od} {c i l e:Nat} {w:List Nat} (h:Yd y) (ho:vU y ws os) (hw:ws[c]? =some w) (hl:w[i]? =some l) (IG:l∈y) (he:e=l\/e=aI l):(c,i,e)∈iU y os:=by
 have dq:=h.lt l IG
 have GW:e∈y:=by rcases he with rfl | rfl;exact IG;exact h.cl l IG
 have e1:PyProof.Rows.lo1 e=PyProof.Rows.lo1 l:=by
  rcases he with rfl | rfl
  ·rfl
  ·rcases dq with g | g
   ·rw[(bU _ (bj l g).2.2).2.1,(bj l g).2.1,aT (.inl g)]
   ·rw[(bj _ (bU l g).2.2.2).2.1,(bU l g).2.1]
 have hb:PyProof.Rows.lo1 l∈bg:=by
  rcases dq with g | g
  ·rw[(bj l g).2.1];exact g
  ·rw[(bU l g).2.1];exact (bU l g).2.2.2
 have Xx:zZ (PyProof.Rows.lo1 l) l=true:=by rw[<-Fo hb dq];exact decide_eq_true rfl
 have d1:ws.getD c []=w:=by rw[WS,hw];rfl
 have d2:w.getD i 0=l:=by rw[WS,hl];rfl
 have hm:(c,i)∈(qd y os e).map Pr.pair:=by
  rw[(ho.at h GW).mem_iff,e1]
  exact z6 (K4.mp hw).1 (by rw[d1];exact (K4.mp hl).1) (by rw[d1,d2];exact Xx)
 obtain ⟨p,hp,ep⟩:=ZL.mp hm
 refine ZS.mpr ⟨e,GW,ZL.mpr ⟨p,hp,?_⟩⟩
 have e2:p.c=c:=congrArg Prod.fst ep
 have e3:p.i=i:=congrArg Prod.snd ep
 rw[e2,e3]
noncomputable def vV (p:Nat×Nat×Nat):List Key:=[Sum.inl (p.1:Int),Sum.inl (p.2.1:Int),Sum.inr (S [p.2.2])]
theorem Ft {p q:Nat×Nat×Nat} (h:vV p=vV q):p=q:=by
 unfold vV at h
 injection h with h1 h2
 injection h2 with h2 h3
 injection h3 with h3 _
 have a1:(p.1:Int)=q.1:=Sum.inl.inj h1
 have a2:(p.2.1:Int)=q.2.1:=Sum.inl.inj h2
 have a3:[p.2.2]=[q.2.2]:=by
  have:=Sum.inr.inj h3
  rw[<-gm [p.2.2],this,gm]
 have a4:p.2.2=q.2.2:=by simpa using a3
 exact Prod.ext (by omega) (Prod.ext (by omega) a4)
def Nums (ps:List (Nat×Nat×Nat)) (aL:List (List Key×V)) (n:Nat):Prop:= ∀p∈ps.take n,di aL (vV p)=some (.int (ps.idxOf p:Nat))
theorem Nums.put {ps:List (Nat×Nat×Nat)} {aL:List (List Key×V)} {n:Nat} {p:Nat×Nat×Nat} (h:Nums ps aL n) (hn:ps.Nodup) (e:ps[n]? =some p):Nums ps (putK aL (vV p) (.int (n:Nat))) (n+1):=fun r hr=>by
 rw[xx]
 by_cases z:r=p
 ·rw[if_pos (by rw[z]),z,ur hn e]
 ·rw[if_neg fun g=>z (Ft g)]
  rw[<-take_snoc e]at hr
  exact h r ((Zx.mp hr).resolve_right fun g=>z (U7.mp g))
noncomputable def yP (n i:Nat):Nat:=if i=0 then n - 1 else i - 1
theorem z7 {n i:Nat} (h:i<n):yP n i<n:=by unfold yP;split<;>omega
theorem Bt {n i:Nat} (h:i<n):((i:Int) - 1)%(n:Int)=((yP n i:Nat):Int):=by
 unfold yP
 split
 ·rename_i z
  subst z
  have:((0:Nat):Int) - 1+(n:Int)=((n - 1:Nat):Int):=by omega
  rw[<-Qbg,this]
  exact ZO (by omega) (by omega)
 ·have:(i:Int) - 1=((i - 1:Nat):Int):=by omega
  rw[this]
  exact ZO (by omega) (by omega)
noncomputable abbrev C4:=Nat×Nat×Nat×Nat
noncomputable def gp (ps:List (Nat×Nat×Nat)) (c:Nat) (w:List Nat) (i:Nat):C4:=(c,i,ps.idxOf (c,yP w.length i,aI (w.getD (yP w.length i) 0)),ps.idxOf (c,i,w.getD i 0))
noncomputable def lH (ps:List (Nat×Nat×Nat)) (c:Nat) (w:List Nat) (n:Nat):List C4:=(List.range n).map (gp ps c w)
noncomputable def gh (ps:List (Nat×Nat×Nat)) (ws:List (List Nat)) (n:Nat):List C4:=(List.range n).flatMap fun c=>lH ps c (ws.getD c []) (ws.getD c []).length
theorem yf (ps:List (Nat×Nat×Nat)) (c:Nat) (w:List Nat) (n:Nat):lH ps c w (n+1)=lH ps c w n++[gp ps c w n]:=by unfold lH;rw[kb,WQ];rfl
theorem mT {ps:List (Nat×Nat×Nat)} {ws:List (List Nat)} {i:Nat} {w:List Nat} (h:ws[i]? =some w):gh ps ws (i+1)=gh ps ws i++lH ps i w w.length:=by
 have e:ws.getD i []=w:=by rw[WS,h];rfl
 unfold gh
 rw[kb,ZY]
 congr 1
 rw[ZQ,Qc0,ZV,e]
noncomputable def Bu (lo hi x:Int):Bool:=decide (lo<x)&&decide (x<hi)
noncomputable def Bv (p q r s:Int):Bool:=!decide (Bu (if q<p then q else p) (if q>p then q else p) r=Bu (if q<p then q else p) (if q>p then q else p) s)
noncomputable def meets (x y:C4):Bool:=Bv x.2.2.1 x.2.2.2 y.2.2.1 y.2.2.2
noncomputable def dI (x:C4) (rs:List C4):List C4:=(rs.filter (meets x)).map fun r=>(x.1,x.2.1,r.1,r.2.1)
noncomputable def cX (cs:List C4) (n:Nat):List C4:=(List.range n).flatMap fun k=>dI (cs.getD k (0,0,0,0)) (cs.drop (k+1))
theorem vW {x r:C4} {rs:List C4} {j:Nat} (h:rs[j]? =some r):dI x (rs.take (j+1))=dI x (rs.take j)++if meets x r=true then [(x.1,x.2.1,r.1,r.2.1)] else []:=by
 unfold dI
 rw[<-take_snoc h,Qaw,WQ]
 congr 1
 by_cases z:meets x r=true
 ·rw[if_pos z,ZP z];rfl
 ·rw[if_neg z,ZF z];rfl
theorem mU {cs:List C4} {k:Nat} {x:C4} (h:cs[k]? =some x):cX cs (k+1)=cX cs k++dI x (cs.drop (k+1)):=by
 have e:cs.getD k (0,0,0,0)=x:=by rw[WS,h];rfl
 unfold cX
 rw[kb,ZY]
 congr 1
 rw[ZQ,Qc0,ZV,e]
structure Q4 where
 t:Addr
 v:C4
noncomputable def iD (qs:List Q4):List V:=qs.map fun q=>V.ref q.t
theorem gN (qs:List Q4):(iD qs).length=qs.length:=by unfold iD;rw[MO]
theorem yg (a:List Q4) (q:Q4):iD a++[V.ref q.t]=iD (a++[q]):=by unfold iD;rw[WQ];rfl
theorem vX {qs:List Q4} {i:Nat} {x:V} (h:(iD qs)[i]? =some x): ∃q,qs[i]? =some q/\x=V.ref q.t:=by
 unfold iD at h
 rw[Y5]at h
 cases e:qs[i]? with
 | none=>rw[e]at h;cases h
 | some p=>rw[e]at h;cases h;exact ⟨p,rfl,rfl⟩
def jh (H:Hp) (q:Q4):Prop:=H q.t=some (.tup [.int q.v.1, .int q.v.2.1, .int q.v.2.2.1, .int q.v.2.2.2])
theorem jh.ts {H H':Hp} {q:Q4} (h:jh H q) (s:ba H H'):jh H' q:=s _ _ h
noncomputable def bR (y:List Nat) (ws:List (List Nat)) (os:List Od):List C4:=gh (iU y os) ws ws.length
noncomputable def ra (y:List Nat) (ws:List (List Nat)) (os:List Od):List C4:=cX (bR y ws os) (bR y ws os).length
theorem oS {ps:List (Nat×Nat×Nat)} {ws:List (List Nat)} (hw: ∀w∈ws,w.length<=12): ∀n,n<=ws.length->(gh ps ws n).length<=12*n
 | 0,_=>Ri _
 | n+1,h=>by
  have hn:n<ws.length:=by omega
  rw[mT (K3 hn),U5]
  have h1:=oS (ps:=ps) hw n (by omega)
  have h3:=hw _ (ZT hn)
  unfold lH
  rw[MO,Qbl]
  omega
theorem uw {y:List Nat} {ws:List (List Nat)} {os:List Od} (h:Fn y ws):(bR y ws os).length<=48:=by
 have:=oS (ps:=iU y os) (fun w hw=>(h.all w hw).2) ws.length (Ri _)
 have:=h.tR
 unfold bR
 omega
theorem oT {cs:List C4}: ∀n,n<=cs.length->(cX cs n).length<=cs.length*n
 | 0,_=>WT _
 | n+1,h=>by
  have hn:n<cs.length:=by omega
  rw[mU (K3 hn),U5]
  have h1:=oT n (by omega:n<=cs.length)
  have h2:(dI cs[n] (cs.drop (n+1))).length<=cs.length:=by
   unfold dI
   rw[MO]
   exact ZN (Qb9 _ _) (by rw[ZH];omega)
  rw[Nat.mul_succ]
  omega
theorem Fu {y:List Nat} {ws:List (List Nat)} {os:List Od} (h:Fn y ws):(ra y ws os).length<=2304:=by
 have h1:=oT (cs:=bR y ws os) _ (Ri _)
 have h2:=uw (os:=os) h
 have h3:(bR y ws os).length*(bR y ws os).length<=48*48:=Nat.mul_le_mul h2 h2
 exact ZN h1 h3
theorem Ql {y:List Nat} {os:List Od} {p:Pt} {ps:List Pt} (h:ps.map Pt.is=iU y os) {i:Nat} (hi:ps[i]? =some p):(iU y os)[i]? =some p.is:=by rw[<-h,Y5,hi];rfl
def ik (_:PySem.W.Frag):Sp:=fun vs H Q _=> ∃(w:List Nat) (c i:Nat),vs=[.str (S w), .int c, .int i]/\(∀l∈w,l<128)/\i<w.length/\w.length<=1000/\ ∀(t t1 t2:Addr) (H':Hp),H' t=some (.tup [.ref t1, .ref t2])->H' t1=some (.tup ((vV (c,yP w.length i,aI (w.getD (yP w.length i) 0))).map kV))->H' t2=some (.tup ((vV (c,i,w.getD i 0)).map kV))->ak H H'->Q (.ref t) H'
theorem mV {K:PySem.W.Frag} {vs:List V} {H:Hp} {Q:VK} {E:XK} (h:ik K vs H Q E):vs.length=3:=by obtain ⟨c,_,_,rfl,_⟩:=h;rfl
def rh (_:PySem.W.Frag):Sp:=fun vs H Q _=> ∃(y:List Nat) (dr:Addr) (ws:List (List Nat)) (os:List Od),vs=[.str (S y), .ref dr]/\Yd y/\y.length<=8/\Fn y ws/\vU y ws os/\vT H dr ws os/\ ∀(q:Addr) (qs:List Q4) (H':Hp),H q=none->H' q=some (.lst (iD qs))->(∀x∈qs,jh H' x)->qs.map Q4.v=bR y ws os->ak H H'->Q (.ref q) H'
theorem yh {K:PySem.W.Frag} {vs:List V} {H:Hp} {Q:VK} {E:XK} (h:rh K vs H Q E):vs.length=2:=by obtain ⟨c,_,_,_,rfl,_⟩:=h;rfl
def ja (_:PySem.W.Frag):Sp:=fun vs H Q _=> ∃(a b:Q4),vs=[.ref a.t, .ref b.t]/\jh H a/\jh H b/\Q (.bl (meets a.v b.v)) H
theorem nX {K:PySem.W.Frag} {vs:List V} {H:Hp} {Q:VK} {E:XK} (h:ja K vs H Q E):vs.length=2:=by obtain ⟨c,_,rfl,_⟩:=h;rfl
def oU (_:PySem.W.Frag):Sp:=fun vs H Q _=> ∃(y:List Nat) (dr:Addr) (ws:List (List Nat)) (os:List Od),vs=[.str (S y), .ref dr]/\Yd y/\y.length<=8/\Fn y ws/\vU y ws os/\vT H dr ws os/\ ∀(q:Addr) (qs:List Q4) (H':Hp),H q=none->H' q=some (.lst (iD qs))->(∀x∈qs,jh H' x)->qs.map Q4.v=ra y ws os->ak H H'->Q (.ref q) H'
theorem vY {K:PySem.W.Frag} {vs:List V} {H:Hp} {Q:VK} {E:XK} (h:oU K vs H Q E):vs.length=2:=by obtain ⟨c,_,_,_,rfl,_⟩:=h;rfl
theorem IH {y:List Nat} {os:List Od} {i m e:Nat} {p:Pr} (he:y[i]? =some e) (hp:(qd y os e)[m]? =some p):(iU y os)[((y.take i).flatMap (fZ y os)).length+m]? =some (p.c,p.i,e):=by
 obtain ⟨hi,e1⟩:=K4.mp he
 have hy:y=y.take i++e::y.drop (i+1):=by
  rw[<-e1, <-Qaa hi,Qat]
 have h1:iU y os=(y.take i).flatMap (fZ y os)++(fZ y os e++(y.drop (i+1)).flatMap (fZ y os)):=by
  unfold iU
  conv=>lhs;arg 2;rw[hy]
  rw[ZY,ZQ]
 have h2:(fZ y os e)[m]? =some (p.c,p.i,e):=by unfold fZ;rw[Y5,hp];rfl
 rw[h1,Qag (Nat.le_add_right _ _),Nat.add_sub_cancel_left,Z7 (K4.mp h2).1]
 exact h2
structure Fv (y:List Nat) (ws:List (List Nat)) (L:Nat->Bool) (r:Nat->Nat) (M:Nat) (os:List Od):Prop where
 ok:vU y ws os
 asc: ∀o∈os,(o.ps.map Pr.pair).Pairwise fun s t=>bc (cL y ws L r M s.1 s.2) (cL y ws L r M t.1 t.2)=true
theorem z8: ∀c∈bg++lh,PyProof.Rows.lo1 (aI c)=PyProof.Rows.lo1 c/\isUp c=!aD c:=by decide+kernel
theorem CU {α:Type} {y:List Nat} (F:Nat->List α) {k k' e:Nat} (he:y[k]? =some e) (h:k<k'):((y.take k).flatMap F).length+(F e).length<=((y.take k').flatMap F).length:=by
 have e1:(y.take k').take (k+1)=y.take (k+1):=by rw[List.take_take,Qal (by omega)]
 have e2:y.take k'=y.take (k+1)++(y.take k').drop (k+1):=by rw[<-e1,Qat]
 rw[e2,ZY,U5, <-take_snoc he,ZY,U5]
 simp
theorem nY {y:List Nat} {ws:List (List Nat)} {os:List Od} (hy:Yd y) (ho:vU y ws os) (hs: ∀c,c<ws.length->SW y (ws.getD c [])) {c i e:Nat} (hc:c<ws.length) (hi:i<(ws.getD c []).length) (he:e=rd (ws.getD c []) i\/e=aI (rd (ws.getD c []) i)):
  e∈y/\ ∃(m:Nat) (p:Pr),(qd y os e)[m]? =some p/\p.pair=(c,i)/\(iU y os).idxOf (c,i,e)=((y.take (y.idxOf e)).flatMap (fZ y os)).length+m:=by
 have hw:=hs c hc
 have ey:e∈y:=he.elim (fun z=>z▸hw.rd _) fun z=>z▸hy.cl _ (hw.rd _)
 have lI:=Fs hy ho (c:=c) (i:=i) (l:=rd (ws.getD c []) i) (e:=e) (w:=ws.getD c []) (by rw[WS,K3 hc];rfl) (nQ hi) (hw.rd _) he
 unfold iU at lI
 obtain ⟨e',Dq,hp⟩:=ZS.mp lI
 unfold fZ at hp
 obtain ⟨p,pj,jj⟩:=ZL.mp hp
 obtain ⟨q1,Vx⟩:=Prod.mk.inj jj
 obtain ⟨q2,q3⟩:=Prod.mk.inj Vx
 clear Vx
 subst q3
 obtain ⟨m,hm,em⟩:=Qcj pj
 have MV:(qd y os e')[m]? =some p:=by rw[K3 hm,em]
 refine ⟨ey,m,p,MV,by unfold Pr.pair;rw[q1,q2],?_⟩
 have hk:y[y.idxOf e']? =some e':=by rw[K3 (Y6 ey),Qam]
 have:=IH (os:=os) hk MV
 rw[q1,q2]at this
 exact ur (Fq hy ho) this
theorem Fx (y:List Nat) (os:List Od) (e:Nat):(fZ y os e).length=(qd y os e).length:=by unfold fZ;rw[MO]
theorem Fy {l:List Pr} {y:List Nat} {ws:List (List Nat)} {L:Nat->Bool} {r:Nat->Nat} {M:Nat} (h:(l.map Pr.pair).Pairwise fun s t=>bc (cL y ws L r M s.1 s.2) (cL y ws L r M t.1 t.2)=true) {m n c i d j:Nat} {p q:Pr} (hp:l[m]? =some p) (hq:l[n]? =some q) (ep:p.pair=(c,i)) (eq:q.pair=(d,j)) (dz:(c,i)≠(d,j)):
  m≠n/\decide (m<n)=bc (cL y ws L r M c i) (cL y ws L r M d j):=by
 have Rt:m≠n:=fun z=>dz (by rw[z,hq]at hp;rw[<-ep, <-eq,Zy hp])
 obtain ⟨hm,em⟩:=K4.mp hp
 obtain ⟨hn,en⟩:=K4.mp hq
 refine ⟨Rt,?_⟩
 have key:=Qa8.mp h
 by_cases z:m<n
 ·have:=key m n (by rw[MO];exact hm) (by rw[MO];exact hn) z
  rw[Qcb,Qcb,em,en,ep,eq]at this
  rw[decide_eq_true z]
  exact this.symm
 ·have:=key n m (by rw[MO];exact hn) (by rw[MO];exact hm) (by omega)
  rw[Qcb,Qcb,em,en,ep,eq]at this
  rw[decide_eq_false z]
  exact (kf this).1.symm
theorem Bw {α:Type} {l:List α} {m:Nat} {p:α} (h:l.reverse[m]? =some p):m<l.length/\l[l.length - 1 - m]? =some p:=by
 obtain ⟨hm,_⟩:=K4.mp h
 rw[ZX]at hm
 rw[Qca hm]at h
 exact ⟨hm,h⟩
theorem lies_of {y:List Nat} {ws:List (List Nat)} {L:Nat->Bool} {r:Nat->Nat} {M:Nat} {os:List Od} (hy:Yd y) (hs: ∀c,c<ws.length->SW y (ws.getD c [])) (h:Fv y ws L r M os):Lies y ws L r M fun c i e=>(iU y os).idxOf (c,i,e):=by
 have ol:2*os.length=y.length:=by rw[h.ok.1];exact jM hy
 refine ⟨fun c i d j e e' hc hd hi hj he Dq dq=>?_,fun c i d j x hc hd hi hj dz hx Pw Xy=>?_⟩
 ·obtain ⟨ey,m,p,hm,_,e1⟩:=nY hy h.ok hs hc hi he
  obtain ⟨Y7,m',p',MV,_,e2⟩:=nY hy h.ok hs hd hj Dq
  rw[e1,e2]
  have hk:y[y.idxOf e]? =some e:=by rw[K3 (Y6 ey),Qam]
  have:=CU (fZ y os) hk dq
  rw[Fx]at this
  have Eg:=(K4.mp hm).1
  omega
 ·have lc:Lt (rd (ws.getD c []) i):=hy.lt _ ((hs c hc).rd _)
  have ld:Lt (rd (ws.getD d []) j):=hy.lt _ ((hs d hd).rd _)
  have vi:(x=rd (ws.getD c []) i\/x=aI (rd (ws.getD c []) i))/\(aI x=rd (ws.getD c []) i\/aI x=aI (rd (ws.getD c []) i))/\Lt x:=by
   rcases Pw with z | z
   ·exact ⟨.inl z.symm, .inr (by rw[z]),z▸lc⟩
   ·have Xz:x<128/\x∈bg:=by
     have h9:97<=x/\x<=122:=by unfold aD at hx;simpa using hx
     refine ⟨by omega,?_⟩
     have: ∀k,k<26->k+97∈bg:=by decide
     have h8:=this (x - 97) (by omega)
     rwa [show x - 97+97=x by omega]at h8
    have lx:Lt x:= .inl Xz.2
    exact ⟨.inr (by rw[z,aT lx]), .inl z.symm,lx⟩
  have lx:=vi.2.2
  have vj:(x=rd (ws.getD d []) j\/x=aI (rd (ws.getD d []) j))/\(aI x=rd (ws.getD d []) j\/aI x=aI (rd (ws.getD d []) j)):=by
   rcases Xy with z | z
   ·exact ⟨.inl z.symm, .inr (by rw[z])⟩
   ·exact ⟨.inr (by rw[z,aT lx]), .inl z.symm⟩
  obtain ⟨xy,m,p,hm,ep,e1⟩:=nY hy h.ok hs hc hi vi.1
  obtain ⟨_,n,q,hn,eq,e2⟩:=nY hy h.ok hs hd hj vj.1
  obtain ⟨_,m',p',MV,OG,D0⟩:=nY hy h.ok hs hc hi vi.2.1
  obtain ⟨_,n',q',Q6,XA,LW⟩:=nY hy h.ok hs hd hj vj.2
  obtain ⟨o,Vy,_,eo⟩:=jN hy xy ol
  have XB:isUp x=false:=by rw[(z8 x lx.mem).2,hx];rfl
  have up1:isUp (aI x)=true:=by rw[(z8 _ lx.aI.mem).2,gf x lx.mem,hx];rfl
  have s0:qd y os x=o.ps:=by unfold qd;rw[XB,if_neg (by decide),eo]
  have s1:qd y os (aI x)=o.ps.reverse:=by
   unfold qd
   rw[up1,if_pos rfl]
   have:zY y os (aI x)=zY y os x:=by unfold zY;rw[(z8 x lx.mem).1]
   rw[this,eo]
  rw[s0]at hm hn
  rw[s1]at MV Q6
  obtain ⟨b1,Eg⟩:=Bw MV
  obtain ⟨b2,yZ⟩:=Bw Q6
  have k1:=Fy (h.asc o Vy) hm hn ep eq dz
  have k2:=Fy (h.asc o Vy) Eg yZ OG XA dz
  rw[e1,e2,D0,LW]
  refine ⟨by omega,by omega,?_,?_⟩
  ·rw[<-k1.2];exact decide_eq_decide.mpr (by omega)
  ·rw[<-k2.2];exact decide_eq_decide.mpr (by omega)
noncomputable def qe (st:Nat->Nat) (T R:List Nat):List Nat:=T.filter fun x=>R.any fun e=>decide (st e=x)
noncomputable def CV (st:Nat->Nat) (T R:List Nat) (p:Nat):Nat:=if st p=p then 0 else ((qe st T (p::R)).filter fun x=>decide (st p<x)).length
noncomputable def GX (st:Nat->Nat):List Nat->List Nat->Nat
 | _,[]=>0
 | T,p::R=>CV st T R p+GX st (T++[p]) R
structure Fz (ch:List (Nat×Nat)) (st:Nat->Nat) (P:List Nat):Prop where
 lt: ∀x∈ch,x.1<x.2
 nd:(ch.flatMap fun x=>[x.1,x.2]).Nodup
 pm:P.Perm (ch.flatMap fun x=>[x.1,x.2])
 up:P.Pairwise (· < ·)
 st: ∀x∈ch,st x.1=x.1/\st x.2=x.1
section
variable {ch:List (Nat×Nat)} {st:Nat->Nat} {P:List Nat}
theorem Fz.pt (h:Fz ch st P) {p:Nat} (hp:p∈P): ∃x∈ch,p=x.1\/p=x.2:=by
 obtain ⟨x,hx,e⟩:=ZS.mp (h.pm.mem_iff.mp hp)
 exact ⟨x,hx,by simpa using e⟩
theorem Fz.in1 (h:Fz ch st P) {x:Nat×Nat} (hx:x∈ch):x.1∈P/\x.2∈P:=⟨h.pm.mem_iff.mpr (ZS.mpr ⟨x,hx,by simp⟩),h.pm.mem_iff.mpr (ZS.mpr ⟨x,hx,by simp⟩)⟩
theorem yi: ∀{ch:List (Nat×Nat)},(ch.flatMap fun x=>[x.1,x.2]).Nodup-> ∀x∈ch, ∀z∈ch,(x.1=z.1\/x.2=z.2\/x.1=z.2)->x=z
 | [],_,x,hx,_,_,_=>absurd hx Zu
 | a::r,nd,x,hx,z,hz,e=>by
  rw[ZQ,Qaj]at nd
  obtain ⟨n1,n2,n3⟩:=nd
  have inr: ∀z∈r,z.1∈r.flatMap (fun x=>[x.1,x.2])/\z.2∈r.flatMap (fun x=>[x.1,x.2]):=fun z hz=>⟨ZS.mpr ⟨z,hz,by simp⟩,ZS.mpr ⟨z,hz,by simp⟩⟩
  have a12:a.1≠a.2:=by
   rw[Z6]at n1
   simpa using n1.1
  rcases Zt.mp hx with rfl | MQ<;>rcases Zt.mp hz with rfl | MW
  ·rfl
  ·exfalso
   rcases e with e | e | e
   ·exact n3 x.1 (by simp) z.1 (inr z MW).1 e
   ·exact n3 x.2 (by simp) z.2 (inr z MW).2 e
   ·exact n3 x.1 (by simp) z.2 (inr z MW).2 e
  ·exfalso
   rcases e with e | e | e
   ·exact n3 z.1 (by simp) x.1 (inr x MQ).1 e.symm
   ·exact n3 z.2 (by simp) x.2 (inr x MQ).2 e.symm
   ·exact n3 z.2 (by simp) x.1 (inr x MQ).1 e.symm
  ·exact yi n2 x MQ z MW e
theorem FA (h:Fz ch st P) {T R:List Nat} {p:Nat} (e:P=T++p::R) (hs:st p=p):qe st (T++[p]) R=qe st T (p::R)++[p]:=by
 obtain ⟨x,hx,hp⟩:=h.pt (p:=p) (by rw[e];simp)
 have LX:p=x.1:=hp.elim id fun z=>by rw[z,(h.st x hx).2]at hs;rw[z, <-hs]
 have up:=h.up
 rw[e,Qao,Qa5]at up
 obtain ⟨u1,⟨u2,u3⟩,u4⟩:=up
 have hR:x.2∈R:=by
  have:=(h.in1 hx).2
  rw[e]at this
  rcases Zx.mp this with q | q
  ·have:=u4 _ q p Zv
   have:=h.lt x hx
   omega
  ·rcases Zt.mp q with q | q
   ·have:=h.lt x hx
    omega
   ·exact q
 unfold qe
 rw[Qaw]
 congr 1
 ·refine Qcs fun z hz=>?_
  rw[Qa1,decide_eq_false (fun q=>by have:=u4 z hz p Zv;omega),Qds]
 ·have:(R.any fun e=>decide (st e=p))=true:=List.any_eq_true.mpr ⟨x.2,hR,decide_eq_true (by rw[(h.st x hx).2,LX])⟩
  rw[ZP (p:=fun x=>R.any fun e=>decide (st e=x)) this]
  rfl
theorem erase_filter {s:Nat} {p q:Nat->Bool}: ∀{T:List Nat},T.Nodup->q s=true->p s=false->(∀x,x≠s->q x=p x)->(T.filter q).erase s=T.filter p
 | [],_,_,_,_=>rfl
 | a::T,nd,hq,hp,h=>by
  rw[Z6]at nd
  by_cases z:a=s
  ·subst z
   rw[ZP hq,List.erase_cons_head,ZF (by rw[hp];decide)]
   exact Qcs fun x hx=>h x fun q=>nd.1 (q▸hx)
  ·have ih:=erase_filter nd.2 hq hp h
   cases e:p a
   ·rw[ZF (by rw[h a z,e];decide),ZF (by rw[e];decide)]
    exact ih
   ·rw[ZP (by rw[h a z,e]),ZP e,List.erase_cons_tail (by simpa using z),ih]
theorem LY (h:Fz ch st P) {T R:List Nat} {p:Nat} (e:P=T++p::R) (hs:st p≠p):qe st (T++[p]) R=(qe st T (p::R)).erase (st p)/\st p∈qe st T (p::R):=by
 obtain ⟨x,hx,hp⟩:=h.pt (p:=p) (by rw[e];simp)
 have LX:p=x.2:=hp.elim (fun z=>absurd (by rw[z,(h.st x hx).1]) hs) id
 have oG:st p=x.1:=by rw[LX,(h.st x hx).2]
 have up:=h.up
 rw[e,Qao,Qa5]at up
 obtain ⟨u1,⟨u2,u3⟩,u4⟩:=up
 have only: ∀z∈R,st z≠x.1:=fun z hz q=>by
  obtain ⟨v,hv,PQ⟩:=h.pt (p:=z) (by rw[e];simp[hz])
  have Y8:=u2 z hz
  rcases PQ with r | r
  ·rw[r,(h.st v hv).1]at q
   have:=yi h.nd v hv x hx (.inl q)
   subst this
   have:=h.lt v hv
   omega
  ·rw[r,(h.st v hv).2]at q
   have:=yi h.nd v hv x hx (.inl q)
   subst this
   omega
 have none: ∀z∈R,st z≠p:=fun z hz q=>by
  obtain ⟨v,hv,PQ⟩:=h.pt (p:=z) (by rw[e];simp[hz])
  have:st z=v.1:=PQ.elim (fun r=>by rw[r,(h.st v hv).1]) fun r=>by rw[r,(h.st v hv).2]
  rw[this,LX]at q
  have:=yi h.nd v hv x hx (.inr (.inr q))
  subst this
  have:=h.lt v hv
  omega
 have hT:x.1∈T:=by
  have:=(h.in1 hx).1
  rw[e]at this
  have l:=h.lt x hx
  rcases Zx.mp this with q | q
  ·exact q
  ·rcases Zt.mp q with q | q
   ·omega
   ·have:=u2 _ q
    omega
 have nd:T.Nodup:=Qd2 (fun h=>ZE h) u1
 have hq:((p::R).any fun e=>decide (st e=x.1))=true:=by rw[Qa1,decide_eq_true oG];rfl
 refine ⟨?_,?_⟩
 ·rw[oG]
  unfold qe
  rw[Qaw,ZF (by
   rw[Bool.not_eq_true,Qd1]
   exact fun z hz=>by simpa using none z hz),List.filter_nil,ZV]
  refine (erase_filter nd hq ?_ fun z hz=>?_).symm
  ·rw[Qd1]
   exact fun z hz=>by simpa using only z hz
  ·rw[Qa1,decide_eq_false (by rw[oG];exact Ne.symm hz),Qds]
 ·rw[oG]
  exact ZU.mpr ⟨hT,hq⟩
noncomputable def km (x z:Nat×Nat):Bool:=decide (x.1<z.1)&&(decide (z.1<x.2)&&decide (x.2<z.2))
theorem FC (h:Fz ch st P) {T R:List Nat} {x:Nat×Nat} (hx:x∈ch) (e:P=T++x.2::R):CV st T R x.2=(ch.filter (km x)).length:=by
 have l:=h.lt x hx
 have oG:=(h.st x hx).2
 have up:=h.up
 rw[e,Qao,Qa5]at up
 obtain ⟨u1,⟨u2,u3⟩,u4⟩:=up
 unfold CV
 rw[if_neg (by omega),oG, <-MO (as:=ch.filter (km x)) (f:=Prod.fst)]
 refine List.Perm.length_eq ((List.perm_ext_iff_of_nodup ?_ ?_).mpr fun a=>?_)
 ·exact (Qd2 (fun h=>ZE h) ((u1.filter _).filter _))
 ·have nd:(ch.map Prod.fst).Nodup:=by
   have: ∀{ch:List (Nat×Nat)},(ch.flatMap fun x=>[x.1,x.2]).Nodup->(ch.map Prod.fst).Nodup:=fun {ch}=>by
    induction ch with
    | nil=>exact fun _=>List.Pairwise.nil
    | cons a r ih=>
     intro nd
     rw[ZQ,Qaj]at nd
     rw[ZC,Z6]
     refine ⟨fun q=>?_,ih nd.2.1⟩
     obtain ⟨z,hz,ez⟩:=ZL.mp q
     exact nd.2.2 a.1 (by simp) z.1 (ZS.mpr ⟨z,hz,by simp⟩) ez.symm
   exact this h.nd
  exact List.Nodup.sublist (List.Sublist.map _ List.filter_sublist) nd
 ·rw[ZU,ZL]
  unfold qe
  rw[ZU,decide_eq_true_iff,List.any_eq_true]
  constructor
  ·rintro ⟨⟨a1,p,hp,ep⟩,a2⟩
   have ep:=of_decide_eq_true ep
   obtain ⟨z,hz,TK⟩:=h.pt (p:=p) (by rw[e];exact ZK _ hp)
   have:st p=z.1:=TK.elim (fun r=>by rw[r,(h.st z hz).1]) fun r=>by rw[r,(h.st z hz).2]
   rw[this]at ep
   have ax:=u4 a a1 x.2 Zv
   have pz:p=z.2:=TK.elim (fun r=>by
    have:=u4 a a1 p hp
    omega) id
   have px:x.2<p:=by
    rcases Zt.mp hp with q | q
    ·rw[q]at pz
     have:=yi h.nd x hx z hz (.inr (.inl pz))
     subst this
     omega
    ·exact u2 p q
   refine ⟨z,ZU.mpr ⟨hz,?_⟩,ep⟩
   unfold km
   rw[Z0,Z0,decide_eq_true_iff,decide_eq_true_iff,decide_eq_true_iff]
   omega
  ·rintro ⟨z,hz,rfl⟩
   obtain ⟨hz,q⟩:=ZU.mp hz
   unfold km at q
   rw[Z0,Z0,decide_eq_true_iff,decide_eq_true_iff,decide_eq_true_iff]at q
   have i1:=(h.in1 hz).1
   have i2:=(h.in1 hz).2
   rw[e]at i1 i2
   refine ⟨⟨?_,z.2,?_,decide_eq_true (h.st z hz).2⟩,q.1⟩
   ·rcases Zx.mp i1 with r | r
    ·exact r
    ·rcases Zt.mp r with r | r
     ·omega
     ·have:=u2 _ r;omega
   ·rcases Zx.mp i2 with r | r
    ·have:=u4 _ r x.2 Zv;omega
    ·exact r
theorem FD (h:Fz ch st P): ∀(R T:List Nat),P=T++R->GX st T R=(R.map fun p=>if st p=p then 0 else (ch.filter (km (st p,p))).length).sum
 | [],_,_=>rfl
 | p::R,T,e=>by
  rw[ZC,Qa0, <-FD h R (T++[p]) (by rw[e];simp)]
  show CV st T R p+_=_
  congr 1
  by_cases z:st p=p
  ·rw[if_pos z];unfold CV;rw[if_pos z]
  ·rw[if_neg z]
   obtain ⟨x,hx,hp⟩:=h.pt (p:=p) (by rw[e];simp)
   have LX:p=x.2:=hp.elim (fun q=>absurd (by rw[q,(h.st x hx).1]) z) id
   have oG:st p=x.1:=by rw[LX,(h.st x hx).2]
   rw[oG]
   subst LX
   exact FC h hx e
theorem LZ (h:Fz ch st P):GX st [] P=(ch.map fun x=>(ch.filter (km x)).length).sum:=by
 rw[FD h P [] rfl,(h.pm.map _).sum_nat]
 have: ∀l:List (Nat×Nat),(∀x∈l,x∈ch)->(((l.flatMap fun x=>[x.1,x.2]).map fun p=>if st p=p then 0 else (ch.filter (km (st p,p))).length).sum)=(l.map fun x=>(ch.filter (km x)).length).sum:=fun l hl=>by
  induction l with
  | nil=>rfl
  | cons a r ih=>
   have ha:=h.st a (hl a Zv)
   have la:=h.lt a (hl a Zv)
   rw[ZQ,WQ,List.sum_append_nat,ih fun x hx=>hl x (Zs _ hx),ZC,Qa0]
   congr 1
   show (if st a.1=a.1 then 0 else _)+((if st a.2=a.2 then 0 else (ch.filter (km (st a.2,a.2))).length)+0)=_
   rw[if_pos ha.1,if_neg (by omega),ha.2,Qcl,Qc9]
 exact this ch fun x hx=>hx
theorem CY {α:Type} (X:α->α->Bool) (hd: ∀x,X x x=false) (ha: ∀x z,X x z=true->X z x=false): ∀l:List α,(l.map fun x=>(l.filter (X x)).length).sum=cl (fun x z=>X x z||X z x) l:=fun l=>by
 have key: ∀(a:α) (l:List α),((l.filter fun z=>X a z||X z a)).length=(l.filter (X a)).length+(l.map fun z=>if X z a=true then 1 else 0).sum:=fun a l=>by
  induction l with
  | nil=>rfl
  | cons b r ih=>
   have:=ha a b
   simp only[List.filter_cons,ZC,Qa0]
   cases e1:X a b<;>cases e2:X b a
   ·simp[ih]
   ·simp[ih];omega
   ·simp[ih];omega
   ·rw[this e1]at e2;cases e2
 induction l with
 | nil=>rfl
 | cons a r ih=>
  show (((a::r).map fun x=>((a::r).filter (X x)).length).sum)=(r.filter fun z=>X a z||X z a).length+cl _ r
  rw[ZC,Qa0,ZF (by rw[hd a];decide),key a r, <-ih]
  have e: ∀l:List α,(l.map fun x=>((a::r).filter (X x)).length).sum=(l.map fun z=>if X z a=true then 1 else 0).sum+(l.map fun x=>(r.filter (X x)).length).sum:=fun l=>by
   induction l with
   | nil=>rfl
   | cons b l XC=>
    rw[ZC,Qa0,XC,ZC,Qa0,ZC,Qa0]
    cases e1:X b a
    ·rw[ZF (by rw[e1];decide)]
     simp;omega
    ·rw[ZP e1]
     simp;omega
  rw[e r]
  omega
theorem Qm (h:Fz ch st P):GX st [] P=cl (fun x z=>km x z||km z x) ch:=by
 rw[LZ h,CY]
 ·intro x;unfold km;rw[decide_eq_false (Z5 _)];rfl
 ·intro x z q
  unfold km at q ⊢
  rw[Z0,Z0,decide_eq_true_iff,decide_eq_true_iff,decide_eq_true_iff]at q
  rw[decide_eq_false (by omega)]
  rfl
end
noncomputable def JY (p q:Nat):Int:=if (q:Int)<p then q else p
noncomputable def dF (cs:List C4):List Nat:=cs.flatMap fun x=>[x.2.2.1,x.2.2.2]
noncomputable def gC (cs:List C4):List (Key×V):=cs.flatMap fun x=>[(Sum.inl (x.2.2.1:Int),V.int (JY x.2.2.1 x.2.2.2)),(Sum.inl (x.2.2.2:Int),V.int (JY x.2.2.1 x.2.2.2))]
noncomputable def kN (cs:List C4):List (Nat×Nat):=cs.map fun x=>(min x.2.2.1 x.2.2.2,max x.2.2.1 x.2.2.2)
theorem il: ∀cs:List C4,(gC cs).map (·.1)=(dF cs).map fun n:Nat=>(Sum.inl (n:Int):Key)
 | []=>rfl
 | x::r=>by
  unfold gC dF
  rw[ZQ,ZQ,WQ,WQ]
  exact congrArg _ (il r)
theorem yj {aL:List (Key×V)} {k:Key} (h:k∉aL.map (·.1)):di aL k=none:=by
 induction aL with
 | nil=>rfl
 | cons a r ih=>
  rw[ZC,Zt,not_or]at h
  rw[cA (fun e=>h.1 e.symm),ih h.2]
theorem FE {aL:List (Key×V)} (nd:(aL.map (·.1)).Nodup) {k:Key} {v:V} (h:(k,v)∈aL):di aL k=some v:=by
 induction aL with
 | nil=>exact absurd h Zu
 | cons a r ih=>
  rw[ZC,Z6]at nd
  rcases Zt.mp h with e | e
  ·subst e;exact cQ rfl
  ·rw[cA (fun z=>nd.1 (ZL.mpr ⟨_,e,z.symm⟩))]
   exact ih nd.2 e
theorem L0: ∀{l:List Nat},l.Nodup->(l.map fun n:Nat=>(Sum.inl (n:Int):Key)).Nodup:=fun {l} h=>Qaf.mpr (h.imp fun t9 z=>t9 (by have:=Sum.inl.inj z;omega))
noncomputable def ins (l:List Nat):List V:=l.map fun n=>V.int (n:Nat)
theorem mW (l:List Nat):(ins l).length=l.length:=by unfold ins;rw[MO]
theorem FF (l:List Nat) (n:Nat):ins l++[V.int (n:Nat)]=ins (l++[n]):=by unfold ins;rw[WQ];rfl
theorem FG {l:List Nat} {i n:Nat} (h:l[i]? =some n):(ins l)[i]? =some (V.int (n:Nat)):=by unfold ins;rw[Y5,h];rfl
def jb (_:PySem.W.Frag):Sp:=fun vs H Q _=> ∃(a:Addr) (qs:List Q4),vs=[.ref a]/\H a=some (.lst (iD qs))/\(∀x∈qs,jh H x)/\qs.length<=1000/\(dF (qs.map Q4.v)).Nodup/\ ∀d H',H d=none->H' d=some (.dK (gC (qs.map Q4.v)))->ak H H'->Q (.ref d) H'
theorem nZ {K:PySem.W.Frag} {vs:List V} {H:Hp} {Q:VK} {E:XK} (h:jb K vs H Q E):vs.length=1:=by obtain ⟨_,_,rfl,_⟩:=h;rfl
def mX (_:PySem.W.Frag):Sp:=fun vs H Q _=> ∃(a:Addr) (l:List Nat) (p:Nat),vs=[.ref a, .int p]/\H a=some (.lst (ins l))/\l.Pairwise (· < ·)/\p∈l/\l.length<=100000/\Q (.int (l.idxOf p:Nat)) H
theorem sM {K:PySem.W.Frag} {vs:List V} {H:Hp} {Q:VK} {E:XK} (h:mX K vs H Q E):vs.length=2:=by obtain ⟨_,_,_,rfl,_⟩:=h;rfl
def gO (_:PySem.W.Frag):Sp:=fun vs H Q _=> ∃(a:Addr) (qs:List Q4),vs=[.ref a]/\H a=some (.lst (iD qs))/\(∀x∈qs,jh H x)/\qs.length<=24/\(dF (qs.map Q4.v)).Nodup/\ ∀H',ak H H'->Q (.int (cl (fun x z=>km x z||km z x) (kN (qs.map Q4.v)):Nat)) H'
theorem lJ {K:PySem.W.Frag} {vs:List V} {H:Hp} {Q:VK} {E:XK} (h:gO K vs H Q E):vs.length=1:=by obtain ⟨_,_,rfl,_⟩:=h;rfl
theorem CZ (cs:List C4) (x:C4):dF (cs++[x])=dF cs++[x.2.2.1,x.2.2.2]:=by unfold dF;rw[ZY,Qar]
theorem C0 (cs:List C4) (x:C4):gC (cs++[x])=gC cs++[(Sum.inl (x.2.2.1:Int),V.int (JY x.2.2.1 x.2.2.2)),(Sum.inl (x.2.2.2:Int),V.int (JY x.2.2.1 x.2.2.2))]:=by unfold gC;rw[ZY,Qar]
theorem yk (cs:List C4):(gC cs).length=2*cs.length:=by
 induction cs with
 | nil=>rfl
 | cons x r ih=>
  unfold gC at ih ⊢
  rw[ZQ,U5,ih,ZR]
  show 2+2*r.length=2*(r.length+1)
  omega
theorem II {cs:List C4} {x:C4} (nd:(dF (cs++[x])).Nodup):putK (putK (gC cs) (Sum.inl (x.2.2.1:Int)) (V.int (JY x.2.2.1 x.2.2.2))) (Sum.inl (x.2.2.2:Int)) (V.int (JY x.2.2.1 x.2.2.2))=gC (cs++[x]):=by
 rw[CZ,Qaj]at nd
 obtain ⟨n1,n2,n3⟩:=nd
 have k: ∀n:Nat,n∉dF cs->(Sum.inl (n:Int):Key)∉(gC cs).map (·.1):=fun n hn z=>by
  rw[il]at z
  obtain ⟨m,hm,e⟩:=ZL.mp z
  have:m=n:=by have:=Sum.inl.inj e;omega
  exact hn (this▸hm)
 have h1:x.2.2.1∉dF cs:=fun z=>n3 _ z _ (by simp) rfl
 have h2:x.2.2.2∉dF cs:=fun z=>n3 _ z _ (by simp) rfl
 have h3:x.2.2.1≠x.2.2.2:=by
  rw[Z6]at n2
  simpa using n2.1
 rw[xA _ (yj (k _ h1)),xA,C0,Qak]
 ·rfl
 ·refine yj fun z=>?_
  rw[WQ,Zx]at z
  rcases z with z | z
  ·exact k _ h2 z
  ·have:=Sum.inl.inj (U7.mp z)
   omega
noncomputable def cM (cs:List C4) (p:Nat):Nat:=(((di (gC cs) (Sum.inl (p:Int))).map fun v=>match v with | .int i=>i.toNat | _=>0).getD 0)
theorem FH (p q:Nat):JY p q=(min p q:Nat):=by unfold JY;split<;>omega
theorem JZ {cs:List C4} (nd:(dF cs).Nodup) {x:C4} (hx:x∈cs):(di (gC cs) (Sum.inl (x.2.2.1:Int))=some (.int (min x.2.2.1 x.2.2.2:Nat))/\di (gC cs) (Sum.inl (x.2.2.2:Int))=some (.int (min x.2.2.1 x.2.2.2:Nat)))/\cM cs x.2.2.1=min x.2.2.1 x.2.2.2/\cM cs x.2.2.2=min x.2.2.1 x.2.2.2:=by
 have kn:((gC cs).map (·.1)).Nodup:=by rw[il];exact L0 nd
 have e1:di (gC cs) (Sum.inl (x.2.2.1:Int))=some (.int (min x.2.2.1 x.2.2.2:Nat)):=by
  rw[<-FH]
  exact FE kn (ZS.mpr ⟨x,hx,by simp⟩)
 have e2:di (gC cs) (Sum.inl (x.2.2.2:Int))=some (.int (min x.2.2.1 x.2.2.2:Nat)):=by
  rw[<-FH]
  exact FE kn (ZS.mpr ⟨x,hx,by simp⟩)
 refine ⟨⟨e1,e2⟩,?_,?_⟩
 ·unfold cM;rw[e1];exact U6 _
 ·unfold cM;rw[e2];exact U6 _
theorem Bx (cs:List C4):((kN cs).flatMap fun x=>[x.1,x.2]).Perm (dF cs):=by
 induction cs with
 | nil=>exact .nil
 | cons x r ih=>
  unfold kN dF at ih ⊢
  rw[ZC,ZQ,ZQ]
  refine List.Perm.append ?_ ih
  show [min x.2.2.1 x.2.2.2,max x.2.2.1 x.2.2.2].Perm [x.2.2.1,x.2.2.2]
  by_cases z:x.2.2.1<=x.2.2.2
  ·rw[Qal z,Qbr z]
  ·rw[Qai (by omega),Qbi (by omega)]
   exact List.Perm.swap _ _ _
theorem L1 {cs:List C4} {P:List Nat} (nd:(dF cs).Nodup) (hp:P.Perm (dF cs)) (up:P.Pairwise (· < ·)):Fz (kN cs) (cM cs) P:=by
 refine ⟨fun x hx=>?_,((Bx cs).nodup_iff).mpr nd,hp.trans (Bx cs).symm,up,fun x hx=>?_⟩
 ·obtain ⟨c,hc,rfl⟩:=ZL.mp hx
  have dz:c.2.2.1≠c.2.2.2:=fun z=>by
   have: ∀{cs:List C4},(dF cs).Nodup-> ∀c∈cs,c.2.2.1≠c.2.2.2:=fun {cs}=>by
    induction cs with
    | nil=>exact fun _ _ h=>absurd h Zu
    | cons a r ih=>
     intro nd c hc
     unfold dF at nd
     rw[ZQ,Qaj]at nd
     rcases Zt.mp hc with e | e
     ·subst e
      have:=nd.1
      rw[Z6]at this
      simpa using this.1
     ·exact ih nd.2.1 c e
   exact this nd c hc z
  show min c.2.2.1 c.2.2.2<max c.2.2.1 c.2.2.2
  omega
 ·obtain ⟨c,hc,rfl⟩:=ZL.mp hx
  obtain ⟨_,e1,e2⟩:=JZ nd hc
  show cM cs (min c.2.2.1 c.2.2.2)=min c.2.2.1 c.2.2.2/\cM cs (max c.2.2.1 c.2.2.2)=min c.2.2.1 c.2.2.2
  by_cases z:c.2.2.1<=c.2.2.2
  ·rw[Qal z,Qbr z]at*
   exact ⟨e1,e2⟩
  ·rw[Qai (by omega),Qbi (by omega)]at*
   exact ⟨e2,e1⟩
theorem FI {l:List Nat} {p:Nat} (h:p∈l):l.eraseIdx (l.idxOf p)=l.erase p:=(List.erase_eq_eraseIdx_of_idxOf rfl).symm
theorem behind {l:List Nat} (up:l.Pairwise (· < ·)) {p:Nat} (h:p∈l):(l.erase p).length - l.idxOf p=(l.filter fun x=>decide (p<x)).length:=by
 induction l with
 | nil=>exact absurd h Zu
 | cons a r ih=>
  rw[Qa5]at up
  by_cases z:a=p
  ·subst z
   rw[List.erase_cons_head,List.idxOf_cons_self,ZF (by simp),List.filter_eq_self.mpr (fun x hx=>decide_eq_true (up.1 x hx))]
   rfl
  ·have hr:=(Zt.mp h).resolve_left (Ne.symm z)
   rw[List.erase_cons_tail (by simpa using z),LD,if_neg z,ZF (by
    have:=up.1 p hr
    simp;omega), <-ih up.2 hr,ZR]
   omega
theorem L3 {st:Nat->Nat} {P T R:List Nat} (h:P.Pairwise (· < ·)) (e:P=T++R) (R':List Nat):(qe st T R').Pairwise (· < ·):=by
 rw[e,Qao]at h
 exact h.1.filter _
theorem IJ {st:Nat->Nat} {T R:List Nat}:(qe st T R).length<=T.length:=Qb9 _ _
theorem L4 {cs:List C4} (nd:(dF cs).Nodup) {p:Nat} (hp:p∈dF cs):di (gC cs) (Sum.inl (p:Int))=some (.int (cM cs p:Nat)):=by
 unfold dF at hp
 obtain ⟨x,hx,e⟩:=ZS.mp hp
 obtain ⟨⟨e1,e2⟩,e3,e4⟩:=JZ nd hx
 have e':p=x.2.2.1\/p=x.2.2.2:=by simpa using e
 rcases e' with rfl | rfl
 ·rw[e1,e3]
 ·rw[e2,e4]
theorem z9 {ms:List Int} {l:List Nat} (nd:l.Nodup) (hp:ms.Perm (l.map fun n:Nat=>(n:Int))) (hw:ms.Pairwise fun a b=> ¬b<a): ∃P:List Nat,ms.map V.int=ins P/\P.Perm l/\P.Pairwise (· < ·):=by
 have lI: ∀m∈ms, ∃n:Nat,m=n:=fun m hm=>by
  obtain ⟨n,_,rfl⟩:=ZL.mp (hp.mem_iff.mp hm)
  exact ⟨n,rfl⟩
 have e1:ms=(ms.map Int.toNat).map fun n:Nat=>(n:Int):=by
  rw[Qac]
  refine (Qd8 ms).symm.trans (Qbe fun m hm=>?_)
  obtain ⟨n,rfl⟩:=lI m hm
  exact (congrArg _ (U6 n)).symm
 have p1:(ms.map Int.toNat).Perm l:=by
  have:=hp.map Int.toNat
  rw[Qac]at this
  have e2:l.map (Int.toNat ∘ fun n:Nat=>(n:Int))=l:=(Qbe fun n _=>U6 n).trans (Qd8 l)
  rwa [e2]at this
 refine ⟨ms.map Int.toNat,?_,p1,?_⟩
 ·unfold ins
  conv=>lhs;rw[e1]
  rw[Qac]
  rfl
 ·have Rp:(ms.map Int.toNat).Nodup:=p1.nodup_iff.mpr nd
  have XD:(ms.map Int.toNat).Pairwise fun a b=> ¬b<a:=by
   rw[e1,Qaf]at hw
   exact hw.imp fun h z=>h (by omega)
  refine Qd2 (fun {a b} h=>?_) (List.Pairwise.and XD Rp)
  have:=h.1
  have:=h.2
  omega
theorem FJ {st:Nat->Nat} {P:List Nat} {k p:Nat} (h:P[k]? =some p):GX st (P.take k) (P.drop k)=CV st (P.take k) (P.drop (k+1)) p+GX st (P.take (k+1)) (P.drop (k+1)):=by
 obtain ⟨hk,e⟩:=K4.mp h
 rw[Qaa hk,e]
 show CV st _ _ p+GX st (P.take k++[p]) _=_
 rw[take_snoc h]
theorem Qn {n k:Nat} (h:k<n):seqIndex? (k:Int) n=some k:=by
 unfold seqIndex?
 simp
 omega
theorem ux: ∀(l:List Nat) (k:Nat),(ins l).eraseIdx k=ins (l.eraseIdx k)
 | [],_=>rfl
 | _::_,0=>rfl
 | a::l,k+1=>congrArg (V.int (a:Nat):: ·) (ux l k)
noncomputable def cst (y w:List Nat) (i:Int):Int:=xX y (aI (rd w (i - 1))) (rd w i)
theorem FK (y w:List Nat) (p k:Int):fW y (sq w p) k=cst y w (p+k):=by
 unfold fW cst sq
 rw[show p+(k - 1)=p+k - 1 by omega]
noncomputable def yQ (n:Int):Nat:=(48+n).toNat
noncomputable def stx (y w:List Nat):List Nat:=(List.range w.length).map fun i:Nat=>yQ (cst y w i)
theorem dk (y w:List Nat):(stx y w).length=w.length:=by unfold stx;rw[MO,Qbl]
theorem L6: ∀n:Nat,n<10->dg n=[48+n]:=by decide+kernel
noncomputable def jO (lg n:Nat):Nat:=3+lg / max n 1
noncomputable def n5 (y u:List Nat) (lg r:Nat):List (Str×V):=d_ "backward" (.str (S (dM (jO lg u.length) (stx y u).reverse))) (d_ "onward" (.str (S (dM (jO lg u.length) (stx y u)))) (d_ "leads" (.bl (leads u)) (d_ "root_size" (.int r) (d_ "size" (.int u.length) []))))
noncomputable def J0 (t w:Addr) (p:Nat):List (Str×V):=d_ "place" (.int p) (d_ "way" (.ref w) (d_ "strand" (.ref t) []))
section
variable {y u:List Nat} {lg r:Nat} {t w:Addr} {p:Nat}
theorem By:(n5 y u lg r).lookup ("size":Str)=some (.int u.length):=by
 unfold n5
 rw[aN,if_neg (by decide+kernel),aN,if_neg (by decide+kernel),aN,if_neg (by decide+kernel),aN,if_neg (by decide+kernel),aN,if_pos rfl]
theorem qf:(n5 y u lg r).lookup ("root_size":Str)=some (.int r):=by
 unfold n5
 rw[aN,if_neg (by decide+kernel),aN,if_neg (by decide+kernel),aN,if_neg (by decide+kernel),aN,if_pos rfl]
theorem FL:(n5 y u lg r).lookup ("leads":Str)=some (.bl (leads u)):=by
 unfold n5
 rw[aN,if_neg (by decide+kernel),aN,if_neg (by decide+kernel),aN,if_pos rfl]
theorem Qo:(n5 y u lg r).lookup ("onward":Str)=some (.str (S (dM (jO lg u.length) (stx y u)))):=by
 unfold n5
 rw[aN,if_neg (by decide+kernel),aN,if_pos rfl]
theorem IK:(n5 y u lg r).lookup ("backward":Str)=some (.str (S (dM (jO lg u.length) (stx y u).reverse))):=by
 unfold n5
 rw[aN,if_pos rfl]
theorem mY:(J0 t w p).lookup ("place":Str)=some (.int p):=by unfold J0;rw[aN,if_pos rfl]
theorem n6:(J0 t w p).lookup ("way":Str)=some (.ref w):=by unfold J0;rw[aN,if_neg (by decide+kernel),aN,if_pos rfl]
theorem uy:(J0 t w p).lookup ("strand":Str)=some (.ref t):=by unfold J0;rw[aN,if_neg (by decide+kernel),aN,if_neg (by decide+kernel),aN,if_pos rfl]
end
theorem da (f:Str) (v:V): ∀fs:List (Str×V),(d_ f v fs).length<=fs.length+1
 | []=>Ri _
 |(g,x)::r=>by
  unfold d_
  split
  ·exact Qbf _
  ·exact Qa2 (da f v r)
structure Sn where
 a:Addr
 t:Addr
 wy:Addr
 c:Nat
 i:Nat
 u:List Nat
 p:Nat
 r:Nat
structure C1 (H:Hp) (C a:Addr) (y u:List Nat) (lg r:Nat):Prop where
 ob: ∃dx,H a=some (.ins C dx (n5 y u lg r))
 sw:SW y u
 uz:u.length<=lg
 lz:lg<=1000
 rt:bQ u r
theorem C1.same {H H':Hp} {C a:Addr} {y u:List Nat} {lg r:Nat} (h:C1 H C a y u lg r) (s:ak H H'):C1 H' C a y u lg r:=by
 obtain ⟨dx,e⟩:=h.ob
 exact ⟨⟨dx,s _ _ e⟩,h.sw,h.uz,h.lz,h.rt⟩
structure jP (H:Hp) (CW CS:Addr) (y:List Nat) (lg:Nat) (s:Sn):Prop where
 ob: ∃dx,H s.a=some (.ins CS dx (J0 s.t s.wy s.p))
 st:H s.t=some (.tup [.int s.c, .int s.i])
 wy:C1 H CW s.wy y s.u lg s.r
 pz:s.p<s.u.length
theorem jP.same {H H':Hp} {CW CS:Addr} {y:List Nat} {lg:Nat} {s:Sn} (h:jP H CW CS y lg s) (sm:ak H H'):jP H' CW CS y lg s:=by
 obtain ⟨dx,e⟩:=h.ob
 exact ⟨⟨dx,sm _ _ e⟩,sm _ _ h.st,h.wy.same sm,h.pz⟩
noncomputable def Dr (y:List Nat) (lg:Nat) (s:Sn):List Nat:=(dM (jO lg s.u.length) (stx y s.u)).drop (s.p+1)
noncomputable def Ds (y:List Nat) (lg:Nat) (s:Sn):List Nat:=(dM (jO lg s.u.length) (stx y s.u).reverse).drop (s.u.length - 1 - s.p)
noncomputable def seg (l:List Nat) (x z:Nat):List Nat:=(l.drop x).take (z - x)
def jc (_:PySem.W.Frag):Sp:=fun vs H Q _=> ∃(y w:List Nat) (i:Nat),vs=[.str (S y), .str (S w), .int i]/\Yd y/\y.length<=8/\SW y w/\w.length<=1000/\i<w.length/\ ∀(n:Nat) H',cst y w i=n->n<8->ak H H'->Q (.int n) H'
theorem n_ {K:PySem.W.Frag} {vs:List V} {H:Hp} {Q:VK} {E:XK} (h:jc K vs H Q E):vs.length=3:=by obtain ⟨_,_,_,rfl,_⟩:=h;rfl
def yl (_:PySem.W.Frag) (C:Addr):Sp:=fun vs H Q _=> ∃(x dx:Addr) (y w:List Nat) (lg:Nat),vs=[.ref x, .str (S y), .str (S w), .int lg]/\H x=some (.ins C dx [])/\Yd y/\y.length<=8/\SW y w/\w.length<=lg/\lg<=1000/\ ∀(r:Nat) H',bQ w r->H' x=some (.ins C dx (n5 y w lg r))->aR x H H'->Q .f_ H'
theorem C2 {K:PySem.W.Frag} {C:Addr} {vs:List V} {H:Hp} {Q:VK} {E:XK} (h:yl K C vs H Q E):vs.length=4:=by obtain ⟨_,_,_,_,_,rfl,_⟩:=h;rfl
def uA (_:PySem.W.Frag) (C:Addr):Sp:=fun vs H Q _=> ∃(x dx t w:Addr) (p:Nat),vs=[.ref x, .ref t, .ref w, .int p]/\H x=some (.ins C dx [])/\ ∀H',H' x=some (.ins C dx (J0 t w p))->aR x H H'->Q .f_ H'
theorem z_ {K:PySem.W.Frag} {C:Addr} {vs:List V} {H:Hp} {Q:VK} {E:XK} (h:uA K C vs H Q E):vs.length=4:=by obtain ⟨_,_,_,_,_,rfl,_⟩:=h;rfl
def gq (_:PySem.W.Frag) (CW CS:Addr):Sp:=fun vs H Q _=> ∃(y:List Nat) (lg:Nat) (s:Sn) (x z:Nat),vs=[.ref s.a, .int x, .int z]/\y.length<=8/\jP H CW CS y lg s/\x<=z/\Q (.str (S (seg (Dr y lg s) x z))) H
theorem pG {K:PySem.W.Frag} {CW CS:Addr} {vs:List V} {H:Hp} {Q:VK} {E:XK} (h:gq K CW CS vs H Q E):vs.length=3:=by obtain ⟨_,_,_,_,_,rfl,_⟩:=h;rfl
def gX (_:PySem.W.Frag) (CW CS:Addr):Sp:=fun vs H Q _=> ∃(y:List Nat) (lg:Nat) (s:Sn) (x z:Nat),vs=[.ref s.a, .int x, .int z]/\y.length<=8/\jP H CW CS y lg s/\x<=z/\Q (.str (S (seg (Ds y lg s) x z))) H
theorem rj {K:PySem.W.Frag} {CW CS:Addr} {vs:List V} {H:Hp} {Q:VK} {E:XK} (h:gX K CW CS vs H Q E):vs.length=3:=by obtain ⟨_,_,_,_,_,rfl,_⟩:=h;rfl
theorem IL {l:List Nat} {a b:Nat} (h:a<=b):cut l (some (a:Int)) (some (b:Int))=(l.drop a).take (b - a):=by
 unfold cut
 rw[HT.gE,HT.gE]
 by_cases z:a<=l.length
 ·rw[Qal z]
  by_cases z2:b<=l.length
  ·rw[Qal z2]
  ·rw[Qai (by omega),ZM (by rw[ZH];omega),ZM (by rw[ZH];omega)]
 ·rw[Qai (by omega),Qai (by omega),Qas (Ri _),Qas (by omega)]
  simp
theorem Bz {l:List Nat} {f x z:Nat} (h:x<=z):cut l (some ((f:Int)+x)) (some ((f:Int)+z))=seg (l.drop f) x z:=by
 rw[show (f:Int)+x=((f+x:Nat):Int) by omega,show (f:Int)+z=((f+z:Nat):Int) by omega,IL (by omega)]
 unfold seg
 rw[List.drop_drop,show f+z - (f+x)=z - x by omega]
theorem mZ {lg n:Nat} (h:1<=n):n*jO lg n<=3*n+lg/\2*n+lg<n*jO lg n:=by
 unfold jO
 rw[Qbi h,Nat.mul_add]
 have h1:=Qcf lg n
 have h2:=Qbw lg (show 0<n by omega)
 omega
theorem uC (m:Nat) (l:List Nat):(dM m l).length=l.length*m:=by
 unfold dM
 rw[List.length_flatten,List.map_replicate,List.sum_replicate_nat,Qbb]
theorem SW.dv {y w:List Nat} (hy:Yd y) (h:SW y w):My.dv w=fV w:=by unfold My.dv;rw[h.core hy]
theorem vZ (l:List Nat) (x z j:Nat):(seg l x z)[j]? =if j<z - x then l[x+j]? else none:=by
 unfold seg
 rw[Qbx]
 split
 ·rw[Qav]
 ·rfl
theorem Aa {l m:List Nat} {x z:Nat}:seg l x (x+z)=seg m x (x+z)↔ ∀k,x<=k->k<x+z->l[k]? =m[k]?:= by
 constructor
 ·intro h k h1 h2
  have:=congrArg (·[k - x]?) h
  simp only[vZ]at this
  rwa [if_pos (by omega),if_pos (by omega),show x+(k - x)=k by omega]at this
 ·intro h
  refine Qdz fun j=>?_
  rw[vZ,vZ]
  by_cases z':j<x+z - x
  ·rw[if_pos z',if_pos z',h (x+j) (by omega) (by omega)]
  ·rw[if_neg z',if_neg z']
noncomputable def L7 (b:Bool) (y:List Nat) (lg:Nat) (s:Sn):List Nat:=if b=true then Dr y lg s else Ds y lg s
def jQ (l m:List Nat) (n:Nat):Prop:= ∀k,k<n->l[k]? =m[k]?
def rk (_:PySem.W.Frag) (CW CS fa fb:Addr):Sp:=fun vs H Q _=> ∃(y:List Nat) (lg:Nat) (s t:Sn) (b:Bool) (en:Nat),vs=[.ref (if b=true then fa else fb), .ref s.a, .ref t.a, .int en]/\y.length<=8/\jP H CW CS y lg s/\jP H CW CS y lg t/\en<=100000/\ ∀m:Nat,jQ (L7 b y lg s) (L7 b y lg t) m->(en<=m\/(L7 b y lg s)[m]?≠ (L7 b y lg t)[m]?)->Q (.int m) H
theorem ym {K:PySem.W.Frag} {CW CS fa fb:Addr} {vs:List V} {H:Hp} {Q:VK} {E:XK} (h:rk K CW CS fa fb vs H Q E):vs.length=4:=by obtain ⟨_,_,_,_,_,_,rfl,_⟩:=h;rfl
theorem jQ.more {l m:List Nat} {x z:Nat} (h:jQ l m x) (e:seg l x (x+z)=seg m x (x+z)):jQ l m (x+z):=fun k hk=>by
 by_cases q:k<x
 ·exact h k q
 ·exact Aa.mp e k (by omega) hk
theorem FN {l m:List Nat} {x z:Nat} (h:seg l x (x+z)≠seg m x (x+z)): ∃k,x<=k/\k<x+z/\l[k]?≠ m[k]?:= Classical.byContradiction fun q=>h (Aa.mpr fun k h1 h2=>Classical.byContradiction fun r=>q ⟨k,h1,h2,r⟩)
noncomputable def Ab (s:Sn):Int×Int:=if leads s.u=true then ((s.c:Int),((s.p / s.r:Nat):Int)) else (-(s.c:Int), -(((s.u.length - 1 - s.p) / s.r:Nat):Int))
def rm (_:PySem.W.Frag) (CW CS:Addr):Sp:=fun vs H Q _=> ∃(y:List Nat) (lg:Nat) (s:Sn),vs=[.ref s.a]/\jP H CW CS y lg s/\ ∀p H',H p=none->H' p=some (.tup [.int (Ab s).1, .int (Ab s).2])->ak H H'->Q (.ref p) H'
theorem yn {K:PySem.W.Frag} {CW CS:Addr} {vs:List V} {H:Hp} {Q:VK} {E:XK} (h:rm K CW CS vs H Q E):vs.length=1:=by obtain ⟨_,_,_,rfl,_⟩:=h;rfl
noncomputable def kE (y:List Nat) (M:Nat) (s:Sn):List Int:=kk y (sq s.u s.p) 0 M++[(Ab s).1,(Ab s).2]
def jR (_:PySem.W.Frag) (CW CS:Addr):Sp:=fun vs H Q _=> ∃(y:List Nat) (lg:Nat) (s t:Sn),vs=[.ref s.a, .ref t.a]/\Yd y/\y.length<=8/\jP H CW CS y lg s/\jP H CW CS y lg t/\rd s.u s.p=rd t.u t.p/\ ∀H',ak H H'->Q (.bl (bc (kE y (2*lg) s) (kE y (2*lg) t))) H'
theorem pH {K:PySem.W.Frag} {CW CS:Addr} {vs:List V} {H:Hp} {Q:VK} {E:XK} (h:jR K CW CS vs H Q E):vs.length=2:=by obtain ⟨_,_,_,_,rfl,_⟩:=h;rfl
theorem jS {u:List Nat} {r:Nat} (hn:u≠[]) (h:bQ u r):1<=r/\r<=u.length:=by
 rcases h with ⟨z,_⟩ | ⟨h1,h2,_⟩
 ·exact absurd z hn
 ·exact ⟨h1,h2⟩
theorem BA {y u:List Nat} {i:Nat} (h:i<u.length):(stx y u)[i]? =some (yQ (cst y u i)):=by
 unfold stx
 rw[Y5,List.getElem?_range h]
 rfl
theorem v_ (y u:List Nat) (i:Int):cst y u (i%u.length)=cst y u i:=by
 unfold cst
 rw[fL, <-fL u (i%u.length - 1),Qcn,Qbq _ (Qd3 _), <-Qcn,fL]
theorem FO {y:List Nat} {lg:Nat} {s:Sn} (hn:s.u≠[]) {k:Nat} (h:s.p+1+k<s.u.length*jO lg s.u.length):(Dr y lg s)[k]? =some (yQ (fW y (sq s.u s.p) (k+1))):=by
 have hp:=WO.mpr hn
 unfold Dr
 rw[Qav,mF _ _ _ (by rw[dk,Qbb];exact h),dk,BA (Qbw _ hp),FK,Qc1,v_]
 congr 3
 omega
theorem FP {y:List Nat} {lg:Nat} {s:Sn} (hn:s.u≠[]) (hp:s.p<s.u.length) {k:Nat} (h:s.u.length - 1 - s.p+k<s.u.length*jO lg s.u.length):(Ds y lg s)[k]? =some (yQ (fW y (sq s.u s.p) (-(k:Int)))):=by
 have hl:=WO.mpr hn
 unfold Ds
 rw[Qav,mF _ _ _ (by rw[ZX,dk,Qbb];exact h),ZX,dk]
 have hm:=Qbw (s.u.length - 1 - s.p+k) hl
 rw[Qca (by rw[dk];exact hm),dk,BA (by omega),FK]
 congr 2
 rw[<-v_ y s.u (s.p+ -(k:Int)), <-v_ y s.u ((s.u.length - 1 - (s.u.length - 1 - s.p+k)%s.u.length:Nat):Int)]
 congr 1
 have e:((s.u.length - 1 - (s.u.length - 1 - s.p+k)%s.u.length:Nat):Int)=(s.u.length:Int) - 1 - ((s.u.length:Int) - 1 - s.p+k)%s.u.length:=by
  have:(((s.u.length - 1 - s.p+k)%s.u.length:Nat):Int)=((s.u.length:Int) - 1 - s.p+k)%s.u.length:=by
   rw[Qc1];congr 1;omega
  omega
 rw[e,Qcn,Qbq _ (Qd3 _), <-Qcn]
 congr 1
 omega
theorem uD {lg:Nat} {s:Sn} {en:Nat} (hp:s.p<s.u.length) (he:en<=s.u.length+lg):s.p+1+en<s.u.length*jO lg s.u.length+1/\s.u.length - 1 - s.p+en<s.u.length*jO lg s.u.length:=by
 have:=(mZ (lg:=lg) (n:=s.u.length) (by omega)).2
 omega
theorem BB {u:List Nat} {r:Nat} (hn:u≠[]) (h:bQ u r) (p k:Int):sq u p (k+r)=sq u p k:=by
 have:=((jL hn h).2 (p+r) p).mpr (by rw[show p+(r:Int) - p=r by omega,Int.emod_self])
 have e:=this k
 unfold sq at e ⊢
 rw[show p+(k+r)=p+r+k by omega]
 exact e
theorem BC {a b:Int} (ha:0<=a) (hb:0<=b) (h:yQ a=yQ b):a=b:=by unfold yQ at h;omega
theorem FQ {a b:Int} (ha:0<=a) (hb:0<=b):yQ a<yQ b↔a<b:=by unfold yQ;omega
theorem BD {y:List Nat} {f:Int->Nat} (hy:Yd y) (h:jk y f) (k:Int):0<=fW y f k:=by
 have:=(eS (hy.cl _ (h.bK (k - 1))) (h.bK k) (Ne.symm (h.red k))).1
 unfold fW
 omega
theorem BE {l m:List Nat} {en a n:Nat} (ha:a<en) (h1: ∀k,k<a->l[k]? =m[k]?) (h2:l[a]?≠ m[a]?) (g1:jQ l m n) (g2:en<=n\/l[n]?≠ m[n]?):n=a:=by
 by_cases z:a<n
 ·exact absurd (g1 a z) h2
 ·by_cases z2:n<a
  ·rcases g2 with g2 | g2
   ·omega
   ·exact absurd (h1 n z2) g2
  ·omega
theorem BF {l m:List Nat} {en n:Nat} (h1: ∀k,k<en->l[k]? =m[k]?) (g2:en<=n\/l[n]?≠ m[n]?):en<=n:=by
 rcases g2 with g2 | g2
 ·exact g2
 ·exact Classical.byContradiction fun z=>g2 (h1 n (by omega))
theorem qg {l:List Nat} {a x:Nat} (h:l[a]? =some x):seg l a (a+1)=[x]:=by
 obtain ⟨ha,e⟩:=K4.mp h
 unfold seg
 rw[Qaa ha,e,show a+1 - a=1 by omega]
 rfl
theorem FR (x z:Nat):decide ([x]<[z])=decide (x<z):=decide_eq_decide.mpr ⟨fun h=>(Qdg.mp h).elim id fun q=>absurd q.2 (Qb2 _),fun h=>Qdg.mpr (.inl h)⟩
theorem IM (a b c d:Int):ph a b c d=bc [a,b] [c,d]:=by
 unfold ph
 show _=if a=c then (if b=d then bc [] [] else decide (b<d)) else decide (a<c)
 by_cases z:a=c
 ·rw[if_pos z,if_pos z]
  by_cases q:b=d
  ·rw[if_pos q,q];simp[bc]
  ·rw[if_neg q]
 ·rw[if_neg z,if_neg z]
noncomputable def BG (ss:List Sn):List V:=ss.map fun s=>V.ref s.a
theorem m5 (ss:List Sn):(BG ss).length=ss.length:=by unfold BG;rw[MO]
theorem L8 {ss:List Sn} {i:Nat} {s:Sn} (h:ss[i]? =some s):(BG ss)[i]? =some (V.ref s.a):=by unfold BG;rw[Y5,h];rfl
theorem IQ {ss:List Sn} {i:Nat} {x:V} (h:(BG ss)[i]? =some x): ∃s,ss[i]? =some s/\x=V.ref s.a:=by
 unfold BG at h
 rw[Y5]at h
 cases e:ss[i]? with
 | none=>rw[e]at h;cases h
 | some p=>rw[e]at h;cases h;exact ⟨p,rfl,rfl⟩
def C3 (y:List Nat) (M:Nat) (ss:List Sn):Prop:=ss.Pairwise fun s t=>bc (kE y M t) (kE y M s)=false
def jd (_:PySem.W.Frag) (CW CS:Addr):Sp:=fun vs H Q _=> ∃(y:List Nat) (lg:Nat) (a:Addr) (ss:List Sn) (t:Sn),vs=[.ref a, .ref t.a]/\Yd y/\y.length<=8/\H a=some (.lst (BG ss))/\(∀s∈ss,jP H CW CS y lg s/\rd s.u s.p=rd t.u t.p)/\jP H CW CS y lg t/\C3 y (2*lg) ss/\ss.length<=100000/\
 ∀(n:Nat) H',n<=ss.length->(∀k s,ss[k]? =some s->k<n->bc (kE y (2*lg) s) (kE y (2*lg) t)=true)->(∀k s,ss[k]? =some s->n<=k->bc (kE y (2*lg) s) (kE y (2*lg) t)=false)->ak H H'->Q (.int n) H'
theorem oa {K:PySem.W.Frag} {CW CS:Addr} {vs:List V} {H:Hp} {Q:VK} {E:XK} (h:jd K CW CS vs H Q E):vs.length=2:=by obtain ⟨_,_,_,_,_,rfl,_⟩:=h;rfl
structure Wp where
 t:Addr
 a:Addr
 b:Addr
 r:Nat
 q:Nat
noncomputable def GY (l:List Wp):List V:=l.map fun p=>V.ref p.t
theorem FT {l:List Wp} {i:Nat} {p:Wp} (h:l[i]? =some p):(GY l)[i]? =some (V.ref p.t):=by unfold GY;rw[Y5,h];rfl
theorem FU (l:List Wp) (p:Wp):GY l++[V.ref p.t]=GY (l++[p]):=by unfold GY;rw[WQ];rfl
structure wa (H:Hp) (C:Addr) (y:List Nat) (lg:Nat) (w:List Nat) (p:Wp):Prop where
 tp:H p.t=some (.tup [.ref p.a, .ref p.b])
 on:C1 H C p.a y w lg p.r
 bk:C1 H C p.b y (eK w) lg p.q
theorem wa.same {H H':Hp} {C:Addr} {y:List Nat} {lg:Nat} {w:List Nat} {p:Wp} (h:wa H C y lg w p) (s:ak H H'):wa H' C y lg w p:=⟨s _ _ h.tp,h.on.same s,h.bk.same s⟩
structure Ac (w:List Nat) (c i:Nat) (s:Sn):Prop where
 ec:s.c=c
 ei:s.i=i
 eu:s.u=if aD (rd w i)=true then w else eK w
 ep:s.p=if aD (rd w i)=true then i else w.length - 1 - i
def jT (_:PySem.W.Frag) (CW CS:Addr):Sp:=fun vs H Q _=> ∃(y:List Nat) (lg:Nat) (wt vt st:Addr) (w:List Nat) (ws:List (List Nat)) (nA:List Wp) (p:Wp) (c i:Nat),vs=[.ref wt, .ref vt, .ref st]/\Yd y/\H wt=some (.tup (iN ws))/\H vt=some (.lst (GY nA))/\H st=some (.tup [.int c, .int i])/\ws[c]? =some w/\nA[c]? =some p/\wa H CW y lg w p/\i<w.length/\
 ∀(s:Sn) H',Ac w c i s->s.t=st->jP H' CW CS y lg s->H s.a=none->ak H H'->Q (.ref s.a) H'
theorem pJ {K:PySem.W.Frag} {CW CS:Addr} {vs:List V} {H:Hp} {Q:VK} {E:XK} (h:jT K CW CS vs H Q E):vs.length=3:=by obtain ⟨_,_,_,_,_,_,_,_,_,_,_,rfl,_⟩:=h;rfl
def kO (_:PySem.W.Frag):Sp:=fun vs H Q _=> ∃(wt:Addr) (ws:List (List Nat)) (band:Nat),vs=[.ref wt, .str (S [band])]/\H wt=some (.tup (iN ws))/\ws.length<=4/\(∀w∈ws,(∀c∈w,Lt c)/\w.length<=12)/\band∈bg/\ ∀(q:Addr) (ps:List Pr) (H':Hp),H q=none->H' q=some (.lst (uo ps))->(∀p∈ps,pF H' p)->ps.map Pr.pair=c_ band ws ws.length->ak H H'->Q (.ref q) H'
theorem rq {K:PySem.W.Frag} {vs:List V} {H:Hp} {Q:VK} {E:XK} (h:kO K vs H Q E):vs.length=2:=by obtain ⟨c,_,_,rfl,_⟩:=h;rfl
open Classical in
noncomputable def Ru (w:List Nat):Nat:=if h: ∃s,bQ w s then choose h else 0
theorem Ad {w:List Nat} (hn:w≠[]):bQ w (Ru w):=by
 have h:=A_ hn
 unfold Ru
 rw[dif_pos h]
 exact Classical.choose_spec h
theorem FV {y w:List Nat} {r q:Nat} (hy:Yd y) (hw:SW y w) (h:bQ w r) (g:bQ (eK w) q):q=r:=by
 have hn:=hw.ne
 have ht:=q5 hn
 have p1:=jS hn h
 have p2:=jS ht g
 have key: ∀d:Nat,(d:Int)%(r:Int)=0↔(d:Int)%(q:Int)=0:=fun d=>by
  have a:=(jL hn h).2 d 0
  have b:=(jL ht g).2 d 0
  rw[Qb4]at a b
  rw[<-a, <-b]
  constructor
  ·intro p k
   rw[ki hn,ki hn]
   unfold bq
   have:=p (-1 - (d:Int) - k)
   unfold sq at this
   have e1:rd w (-1 - (0:Int) - k)=rd w ((d:Int)+(-1 - (d:Int) - k)):=by congr 1;omega
   have e2:rd w (-1 - (d:Int) - k)=rd w (0+(-1 - (d:Int) - k)):=by congr 1;omega
   rw[e1,e2,this]
  ·intro p k
   have e: ∀x:Int,rd w x=aI (rd (eK w) (-1 - x)):=fun x=>by
    rw[nS hn,show -1 - (-1 - x)=x by omega,aT (hy.lt _ (hw.rd _))]
   unfold sq
   rw[e,e]
   have:=p (-1 - (d:Int) - k)
   unfold sq at this
   rw[show -1 - ((d:Int)+k)=0+(-1 - (d:Int) - k) by omega, <-this]
   congr 2
   omega
 have a:=(key r).mp (Int.emod_self)
 have b:=(key q).mpr (Int.emod_self)
 have a':r%q=0:=by
  have:((r%q:Nat):Int)=0:=by rw[<-a];rfl
  omega
 have b':q%r=0:=by
  have:((q%r:Nat):Int)=0:=by rw[<-b];rfl
  omega
 exact Qd9 (Nat.le_of_dvd (by omega) (Nat.dvd_of_mod_eq_zero a')) (Nat.le_of_dvd (by omega) (Nat.dvd_of_mod_eq_zero b'))
noncomputable def Dt (ws:List (List Nat)) (c:Nat):Bool:=leads (ws.getD c [])
noncomputable def Du (ws:List (List Nat)) (c:Nat):Nat:=Ru (ws.getD c [])
noncomputable def Rv (y:List Nat) (ws:List (List Nat)) (M:Nat) (x:Nat×Nat):List Int:=cL y ws (Dt ws) (Du ws) M x.1 x.2
theorem Ac.line {y w:List Nat} {c i:Nat} {s:Sn} (hy:Yd y) (hw:SW y w) (hi:i<w.length) (h:Ac w c i s):sq s.u s.p=nz w i:=by
 rw[h.eu,h.ep]
 unfold nz
 by_cases z:aD (rd w i)=true
 ·rw[if_pos z,if_pos z,if_pos z]
 ·rw[if_neg z,if_neg z,if_neg z, <-EC hw.ne,show ((w.length - 1 - i:Nat):Int)=(w.length:Int) - 1 - i by omega]
theorem BH {y w:List Nat} {ws:List (List Nat)} {c i M:Nat} {s:Sn} (hy:Yd y) (hw:SW y w) (hi:i<w.length) (e:ws.getD c []=w) (h:Ac w c i s) (rt:bQ s.u s.r):kE y M s=Rv y ws M (c,i):=by
 unfold kE Rv cL
 rw[h.line hy hw hi]
 simp only[e]
 congr 1
 unfold Ab GS Dt Du
 rw[e,h.ec]
 have uS:=Ad hw.ne
 by_cases z:aD (rd w i)=true
 ·have eu:s.u=w:=by rw[h.eu,if_pos z]
  have ep:s.p=i:=by rw[h.ep,if_pos z]
  rw[eu]at rt ⊢
  have er:=EL hw.ne rt uS
  rw[er,ep,z]
  by_cases l:leads w=true
  ·rw[if_pos l,l];rfl
  ·rw[if_neg l,if_neg (fun q=>l q.symm)];rfl
 ·have eu:s.u=eK w:=by rw[h.eu,if_neg z]
  have ep:s.p=w.length - 1 - i:=by rw[h.ep,if_neg z]
  rw[eu]at rt ⊢
  have er:=FV hy hw uS rt
  have z':aD (rd w i)=false:=by simpa using z
  rw[er,ep,z',um hy hw,cn]
  have ei:w.length - 1 - (w.length - 1 - i)=i:=by omega
  rw[ei]
  cases leads w<;>rfl
theorem Ac.band {y w:List Nat} {c i band:Nat} {s:Sn} (hy:Yd y) (hw:SW y w) (hi:i<w.length) (hb:band∈bg) (ho:zZ band (rd w i)=true) (h:Ac w c i s):rd s.u s.p=band:=by
 have lb:Lt band:= .inl hb
 have lo:aD band=true:=by rw[kc lb];exact decide_eq_true hb
 have DB:rd w i=band\/rd w i=aI band:=by
  unfold zZ at ho
  simpa using ho
 rw[h.eu,h.ep]
 rcases DB with e | e
 ·rw[if_pos (by rw[e];exact lo),if_pos (by rw[e];exact lo)]
  exact e
 ·have z: ¬aD (rd w i)=true:=by rw[e,gf _ lb.mem,lo];decide
  rw[if_neg z,if_neg z,nS hw.ne,show -1 - ((w.length - 1 - i:Nat):Int)=i - w.length by omega,zJ,e,aT lb]
def FW (y:List Nat) (ws:List (List Nat)) (M:Nat) (l:List (Nat×Nat)):Prop:=l.Pairwise fun s t=>bc (Rv y ws M t) (Rv y ws M s)=false
def kP (_:PySem.W.Frag) (CW CS:Addr):Sp:=fun vs H Q _=> ∃(y:List Nat) (lg:Nat) (wt vt:Addr) (ws:List (List Nat)) (nA:List Wp) (band:Nat),vs=[.ref wt, .ref vt, .str (S [band])]/\Yd y/\y.length<=8/\H wt=some (.tup (iN ws))/\ws.length<=4/\(∀w∈ws,SW y w/\w.length<=12)/\band∈bg/\H vt=some (.lst (GY nA))/\nA.length=ws.length/\(∀(c:Nat) (w:List Nat) (p:Wp),ws[c]? =some w->nA[c]? =some p->wa H CW y lg w p)/\
 ∀(q:Addr) (ps:List Pr) (H':Hp),H q=none->H' q=some (.tup (uo ps))->(∀p∈ps,pF H' p)->(ps.map Pr.pair).Perm (c_ band ws ws.length)->FW y ws (2*lg) (ps.map Pr.pair)->ak H H'->Q (.ref q) H'
theorem rA {K:PySem.W.Frag} {CW CS:Addr} {vs:List V} {H:Hp} {Q:VK} {E:XK} (h:kP K CW CS vs H Q E):vs.length=3:=by obtain ⟨_,_,_,_,_,_,_,rfl,_⟩:=h;rfl
theorem L9 {y:List Nat} {M:Nat} {ss:List Sn} {t:Sn} {n:Nat} (up:C3 y M ss) (h1: ∀k s,ss[k]? =some s->k<n->bc (kE y M s) (kE y M t)=true) (h2: ∀k s,ss[k]? =some s->n<=k->bc (kE y M s) (kE y M t)=false):C3 y M (ss.take n++t::ss.drop n):=by
 have tk: ∀s∈ss.take n,bc (kE y M s) (kE y M t)=true:=fun s hs=>by
  obtain ⟨k,hk,e⟩:=Qcj hs
  rw[ZG]at hk
  rw[List.getElem_take]at e
  exact h1 k s (by rw[<-e];exact K3 (by omega)) (by omega)
 have dr: ∀s∈ss.drop n,bc (kE y M s) (kE y M t)=false:=fun s hs=>by
  obtain ⟨k,hk,e⟩:=Qcj hs
  rw[ZH]at hk
  rw[List.getElem_drop]at e
  exact h2 (n+k) s (by rw[<-e];exact K3 (by omega)) (by omega)
 have TL:C3 y M (ss.take n++ss.drop n):=by rw[Qat];exact up
 unfold C3 at TL ⊢
 rw[Qao]at TL ⊢
 rw[Qa5]
 obtain ⟨u1,u2,u3⟩:=TL
 refine ⟨u1,⟨fun s hs=>dr s hs,u2⟩,fun a ha b hb=>?_⟩
 rcases Zt.mp hb with e | e
 ·rw[e];exact (kf (tk a ha)).1
 ·exact u3 a ha b e
theorem jU (band:Nat) {ws:List (List Nat)} (hw: ∀w∈ws,w.length<=12): ∀n,n<=ws.length->(c_ band ws n).length<=12*n
 | 0,_=>WT _
 | n+1,h=>by
  have ih:=jU band hw n (by omega)
  unfold c_ at ih ⊢
  rw[kb,ZY,U5,Qar]
  have h1:(i_ band n (ws.getD n []) (ws.getD n []).length).length<=12:=by
   unfold i_
   rw[MO]
   refine ZN (Qb9 _ _) ?_
   rw[Qbl]
   exact hw _ (getD_in (by omega))
  omega
theorem Ae {band:Nat} {ws:List (List Nat)} {x:Nat×Nat} (h:x∈c_ band ws ws.length): ∃w,ws[x.1]? =some w/\x.2<w.length/\zZ band (rd w x.2)=true:=by
 unfold c_ at h
 obtain ⟨c,hc,h⟩:=ZS.mp h
 have si:=Z_.mp hc
 unfold i_ at h
 obtain ⟨i,hi,e⟩:=ZL.mp h
 obtain ⟨i1,i2⟩:=ZU.mp hi
 have Vz:=Z_.mp i1
 subst e
 refine ⟨ws.getD c [],by rw[WS,K3 si];rfl,Vz,?_⟩
 have:(ws.getD c []).getD i 0=rd (ws.getD c []) i:=by
  have:=nQ Vz
  rw[WS,this];rfl
 show zZ band (rd (ws.getD c []) i)=true
 rw[<-this]
 exact i2
theorem uE {H H':Hp} {x dx C:Addr} (nx:H x=none) (L_:H dx=none) (sm:aR x (L2.upd (L2.upd H dx (.own x)) x (.ins C dx [])) H'):ak H H':=fun a o e=>by
 refine sm a o ?_ (aq e nx)
 rw[au (aq e nx),au (aq e L_)]
 exact e
noncomputable def IS (ws:List (List Nat)):List Int:=ws.map fun w=>(w.length:Int)
theorem IT (l:List Int): ∀a:Int,a<=l.foldl (fun x y=>if y>x then y else x) a/\(∀x∈l,x<=l.foldl (fun x y=>if y>x then y else x) a)/\(l.foldl (fun x y=>if y>x then y else x) a=a\/l.foldl (fun x y=>if y>x then y else x) a∈l):=by
 induction l with
 | nil=>exact fun a=>⟨Int.le_refl _,fun _ h=>absurd h Zu, .inl rfl⟩
 | cons b r ih=>
  intro a
  rw[Qch]
  obtain ⟨h1,h2,h3⟩:=ih (if b>a then b else a)
  have h4:a<=(if b>a then b else a)/\b<=(if b>a then b else a):=by split<;>omega
  refine ⟨by omega,fun x hx=>?_,?_⟩
  ·rcases Zt.mp hx with e | e
   ·rw[e];omega
   ·exact h2 x e
  ·rcases h3 with e | e
   ·rw[e]
    split
    ·exact .inr Zv
    ·exact .inl rfl
   ·exact .inr (Zs _ e)
theorem Af {ws:List (List Nat)} (h: ∀w∈ws,w.length<=12): ∃lg:Nat,Lu 0 (IS ws)=lg/\lg<=12/\ ∀w∈ws,w.length<=lg:=by
 cases ws with
 | nil=>exact ⟨0,rfl,by decide,fun _ h=>absurd h Zu⟩
 | cons v r=>
  obtain ⟨h1,h2,h3⟩:=IT (IS r) (v.length:Int)
  have e:Lu 0 (IS (v::r))=(IS r).foldl (fun x y=>if y>x then y else x) (v.length:Int):=rfl
  rw[e]
  generalize (IS r).foldl (fun x y=>if y>x then y else x) (v.length:Int)=m at*
  have hm: ∃w∈v::r,m=(w.length:Int):=by
   rcases h3 with q | q
   ·exact ⟨v,Zv,q⟩
   ·obtain ⟨w,hw,e'⟩:=ZL.mp q
    exact ⟨w,Zs _ hw,e'.symm⟩
  obtain ⟨w,hw,rfl⟩:=hm
  refine ⟨w.length,rfl,h w hw,fun u hu=>?_⟩
  rcases Zt.mp hu with q | q
  ·rw[q];omega
  ·have:=h2 _ (ZL.mpr ⟨u,q,rfl⟩)
   omega
def ko (y:List Nat) (ws:List (List Nat)) (os:List Od):Prop:= ∃M,(∀w∈ws, ∀v∈ws,w.length+v.length<=M)/\vU y ws os/\ ∀o∈os,FW y ws M (o.ps.map Pr.pair)
def BI (_:PySem.W.Frag):Sp:=fun vs H Q _=> ∃(y:List Nat) (wt:Addr) (ws:List (List Nat)),vs=[.str (S y), .ref wt]/\Yd y/\y.length<=8/\H wt=some (.tup (iN ws))/\ws.length<=4/\(∀w∈ws,SW y w/\w.length<=12)/\ ∀(dr:Addr) (os:List Od) (H':Hp),vT H' dr ws os->ko y ws os->ak H H'->Q (.ref dr) H'
theorem FX {K:PySem.W.Frag} {vs:List V} {H:Hp} {Q:VK} {E:XK} (h:BI K vs H Q E):vs.length=2:=by obtain ⟨_,_,_,rfl,_⟩:=h;rfl
theorem IU {H:Hp} {C:Addr} {y:List Nat} {lg i:Nat} {ws:List (List Nat)} {nA:List Wp} {w:List Nat} {p:Wp} (hl:nA.length=i) (h: ∀(c:Nat) (w:List Nat) (p:Wp),ws[c]? =some w->nA[c]? =some p->wa H C y lg w p) (hw:ws[i]? =some w) (hp:wa H C y lg w p): ∀(c:Nat) (w:List Nat) (q:Wp),ws[c]? =some w->(nA++[p])[c]? =some q->wa H C y lg w q:=fun c v q hv hq=>by
 by_cases z:c<nA.length
 ·rw[Z7 z]at hq
  exact h c v q hv hq
 ·rw[Qag (by omega)]at hq
  have:c=i:=by
   have:=(K4.mp hq).1
   simp at this
   omega
  subst this
  rw[hl,Nat.sub_self]at hq
  rw[hw]at hv
  cases hv
  cases hq
  exact hp
theorem yo {y:List Nat} (h:Yd y) {b:Nat} (hb:b∈gg y):b∈bg:=by
 obtain ⟨h1,h2⟩:=ZU.mp ((kj y).mem_iff.mp hb)
 rw[kc (h.lt b h1)]at h2
 exact of_decide_eq_true h2
theorem FY {y:List Nat} {ws:List (List Nat)} {L:Nat->Bool} {r:Nat->Nat} {M:Nat} (h:eF y ws L r M) {c i d j x:Nat} (hc:c<ws.length) (hd:d<ws.length) (hi:i<(ws.getD c []).length) (hj:j<(ws.getD d []).length) (dz:(c,i)≠(d,j)) (hx:aD x=true) (e1:rd (ws.getD c []) i=x\/rd (ws.getD c []) i=aI x) (e2:rd (ws.getD d []) j=x\/rd (ws.getD d []) j=aI x):
  bc (cL y ws L r M c i) (cL y ws L r M d j)=true\/bc (cL y ws L r M d j) (cL y ws L r M c i)=true:=by
 have hw:=h.sw c hc
 have hv:=h.sw d hd
 have hy:=h.yd
 have lw:=WO.mpr hw.ne
 have lv:=WO.mpr hv.ne
 have xs: ∀{w:List Nat} {k:Nat},SW y w->(rd w k=x\/rd w k=aI x)->Lt x:=fun {w k} hw e=>by
  have h9:97<=x/\x<=122:=by unfold aD at hx;simpa using hx
  refine .inl ?_
  have: ∀k,k<26->k+97∈bg:=by decide
  have h8:=this (x - 97) (by omega)
  rwa [show x - 97+97=x by omega]at h8
 have lx:=xs hw e1
 have zR: ∀{w:List Nat} {k:Nat},SW y w->Dl w k (nz w k)/\((rd w k=x\/rd w k=aI x)->nz w k 0=x)/\(nz w k=if aD (rd w k)=true then sq w k else bq w k):=fun {w k} hw=>by
  refine ⟨?_,fun e=>?_,rfl⟩
  ·unfold nz
   by_cases z:aD (rd w k)=true
   ·rw[if_pos z];exact .inl rfl
   ·rw[if_neg z];exact .inr rfl
  ·unfold nz
   rcases e with e | e
   ·rw[if_pos (by rw[e];exact hx)]
    unfold sq
    rw[Qaz];exact e
   ·have z: ¬aD (rd w k)=true:=by rw[e,gf _ lx.mem,hx];decide
    rw[if_neg z]
    unfold bq
    rw[Qb4,e,aT lx]
 obtain ⟨df,f0,fe⟩:=zR (k:=i) hw
 obtain ⟨XE,g0,ge⟩:=zR (k:=j) hv
 have lf:=df.zR hy hw
 have lg:=XE.zR hy hv
 by_cases par: ∀k,nz (ws.getD c []) i k=nz (ws.getD d []) j k
 ·unfold cL
  rw[show nz (ws.getD c []) i=nz (ws.getD d []) j from funext par,fE,fE]
  by_cases cd:c=d
  ·subst cd
   have ij:i≠j:=fun z=>dz (by rw[z])
   obtain ⟨h1,h2⟩:=h.root hc
   have hr:=h.rp c hc
   -- one and GI same way
   have low:aD (rd (ws.getD c []) i)=aD (rd (ws.getD c []) j):=by
    by_cases z1:aD (rd (ws.getD c []) i)=true<;>by_cases z2:aD (rd (ws.getD c []) j)=true
    ·rw[z1,z2]
    ·exfalso
     rw[fe,ge,if_pos z1,if_neg z2]at par
     exact vG hy hw _ _ par
    ·exfalso
     rw[fe,ge,if_neg z1,if_pos z2]at par
     exact vG hy hw _ _ fun k=>(par k).symm
    ·rw[show aD (rd (ws.getD c []) i)=false by simpa using z1,show aD (rd (ws.getD c []) j)=false by simpa using z2]
   have ps:cB (ws.getD c []) (ws.getD c []) i j:=by
    by_cases z1:aD (rd (ws.getD c []) i)=true
    ·have z2:aD (rd (ws.getD c []) j)=true:=by rw[<-low];exact z1
     rw[fe,ge,if_pos z1,if_pos z2]at par
     exact par
    ·have z2: ¬aD (rd (ws.getD c []) j)=true:=by rw[<-low];exact z1
     rw[fe,ge,if_neg z1,if_neg z2]at par
     have e:=congrArg kg (funext par)
     rw[<-fD, <-fD,ui hy (bo hw _),ui hy (bo hw _)]at e
     exact fun k=>congrFun e k
   have q:=(h.rr c hc _ _).mp ps
   have Iw:i%r c=j%r c:=by
    have q2:=Int.emod_eq_emod_iff_emod_sub_eq_zero.mpr q
    have q3:((i%r c:Nat):Int)=((j%r c:Nat):Int):=q2
    omega
   have k1:= @zU (ws.getD c []).length _ (r c) c i j (L c) (aD (rd (ws.getD c []) j)) hr h1 hi hj Iw ij
   have k2:= @zU (ws.getD c []).length _ (r c) c j i (L c) (aD (rd (ws.getD c []) j)) hr h1 hj hi Iw.symm (Ne.symm ij)
   rw[low]
   by_cases z:aD (rd (ws.getD c []) j)=true
   ·rw[if_pos z]at k1 k2
    rw[k1,k2,decide_eq_true_iff,decide_eq_true_iff]
    omega
   ·rw[if_neg z]at k1 k2
    rw[k1,k2,decide_eq_true_iff,decide_eq_true_iff]
    omega
  ·have hl:L d=if aD (rd (ws.getD d []) j)=aD (rd (ws.getD c []) i) then L c else !L c:=by
    by_cases z1:aD (rd (ws.getD c []) i)=true<;>by_cases z2:aD (rd (ws.getD d []) j)=true
    ·rw[z1,z2,if_pos rfl]
     rw[fe,ge,if_pos z1,if_pos z2]at par
     exact (h.l1 c d i j hc hd par).symm
    ·rw[if_neg (fun q=>z2 (q.trans z1))]
     rw[fe,ge,if_pos z1,if_neg z2]at par
     exact h.l2 c d i j hc hd par
    ·rw[if_neg (fun q=>z1 (q.symm.trans z2))]
     rw[fe,ge,if_neg z1,if_pos z2]at par
     have:=h.l2 d c j i hd hc fun k=>(par k).symm
     rw[this,Bool.not_not]
    ·rw[show aD (rd (ws.getD c []) i)=false by simpa using z1,show aD (rd (ws.getD d []) j)=false by simpa using z2,if_pos rfl]
     rw[fe,ge,if_neg z1,if_neg z2]at par
     have e:=congrArg kg (funext par)
     rw[<-fD, <-fD,ui hy (bo hw _),ui hy (bo hv _)]at e
     exact (h.l1 c d i j hc hd fun k=>congrFun e k).symm
   have D0:= @vJ (ws.getD c []).length (ws.getD d []).length (r c) (r d) c d i j (L c) (aD (rd (ws.getD c []) i)) (aD (rd (ws.getD d []) j)) cd
   have Ay:L c=if aD (rd (ws.getD c []) i)=aD (rd (ws.getD d []) j) then L d else !L d:=by
    rw[hl]
    cases aD (rd (ws.getD d []) j)<;>cases aD (rd (ws.getD c []) i)<;>cases L c<;>rfl
   have LW:= @vJ (ws.getD d []).length (ws.getD c []).length (r d) (r c) d c j i (L d) (aD (rd (ws.getD d []) j)) (aD (rd (ws.getD c []) i)) (Ne.symm cd)
   rw[<-hl]at D0
   rw[<-Ay]at LW
   rw[D0,LW,hl]
   cases aD (rd (ws.getD d []) j)<;>cases aD (rd (ws.getD c []) i)<;>cases L c<;>simp<;>omega
 ·have vK: ∃k,nz (ws.getD c []) i k≠nz (ws.getD d []) j k:=Classical.byContradiction fun z=>par fun k=>Classical.byContradiction fun w=>z ⟨k,w⟩
  have Qj: ∀{w:List Nat} {k:Nat} (z:Int),nz w k (z+w.length)=nz w k z:=fun {w k} z=>by
   unfold nz
   split
   ·exact b_ w k z
   ·exact nR w k z
  obtain ⟨a,b,rn,ha,hb⟩:=dE lw lv Qj Qj ((f0 e1).trans (g0 e2).symm) vK
  have big:=h.big c d hc hd
  unfold cL
  rw[nV hy lf lg rn _ _ M 0 (WT _) (WT _) (by omega) (by omega),nV hy lg lf rn.sy _ _ M 0 (WT _) (WT _) (by omega) (by omega),E7 hy lf lg (rn.mO a (by omega) (by omega)) rn.hi,zW hy lf lg (rn.mO _ (by omega) (by omega)) rn.lo]
  by_cases z:a<=b
  ·rw[if_pos z,if_pos z]
   cases kC y (nz (ws.getD c []) i) (nz (ws.getD d []) j) a
   ·exact .inr rfl
   ·exact .inl rfl
  ·rw[if_neg z,if_neg z]
   cases kL y (nz (ws.getD c []) i) (nz (ws.getD d []) j) b
   ·exact .inr rfl
   ·exact .inl rfl
theorem Ag {y:List Nat} {ws:List (List Nat)} {os:List Od} (hy:Yd y) (hw: ∀w∈ws,SW y w) (h:ko y ws os): ∃M,eF y ws (Dt ws) (Du ws) M/\Fv y ws (Dt ws) (Du ws) M os:=by
 obtain ⟨M,hM,ok,up⟩:=h
 have hs: ∀c,c<ws.length->SW y (ws.getD c []):=fun c hc=>hw _ (getD_in hc)
 have hC:eF y ws (Dt ws) (Du ws) M:=Ff hy hs (fun c hc=>Ad (hs c hc).ne) fun c d hc hd=>hM _ (getD_in hc) _ (getD_in hd)
 refine ⟨M,hC,ok,fun o ho=>?_⟩
 obtain ⟨j,hj,ej⟩:=Qcj ho
 have MX:j<(gg y).length:=by rw[<-ok.1];exact hj
 have pm:=ok.2 j o (gg y)[j] (by rw[K3 hj,ej]) (K3 MX)
 have bs:=yo hy (ZT MX)
 have lb:Lt (gg y)[j]:= .inl bs
 have lo:aD (gg y)[j]=true:=by rw[kc lb];exact decide_eq_true bs
 have nd:(o.ps.map Pr.pair).Nodup:=pm.nodup_iff.mpr (uv _ _ _)
 have u:=up o ho
 unfold FW at u
 refine Qbd (fun {s t} h1 h2 h=>?_) (List.Pairwise.and u nd)
 obtain ⟨w1,e1,i1,o1⟩:=Ae (pm.mem_iff.mp h1)
 obtain ⟨w2,e2,i2,o2⟩:=Ae (pm.mem_iff.mp h2)
 have c1:=(K4.mp e1).1
 have c2:=(K4.mp e2).1
 have g1:ws.getD s.1 []=w1:=by rw[WS,e1];rfl
 have g2:ws.getD t.1 []=w2:=by rw[WS,e2];rfl
 have on: ∀{l:Nat},zZ (gg y)[j] l=true->l=(gg y)[j]\/l=aI (gg y)[j]:=fun {l} q=>by unfold zZ at q;simpa using q
 have tr:=FY hC (c:=s.1) (i:=s.2) (d:=t.1) (j:=t.2) c1 c2 (by rw[g1];exact i1) (by rw[g2];exact i2) h.2 lo (by rw[g1];exact on o1) (by rw[g2];exact on o2)
 rcases tr with q | q
 ·exact q
 ·have hf:bc (cL y ws (Dt ws) (Du ws) M t.1 t.2) (cL y ws (Dt ws) (Du ws) M s.1 s.2)=false:=h.1
  rw[hf]at q
  cases q
theorem Ah {α β:Type} (p:β->β->Bool) (f:α->β): ∀l:List α,cl p (l.map f)=cl (fun a b=>p (f a) (f b)) l
 | []=>rfl
 | a::l=>by
  show ((l.map f).filter (p (f a))).length+cl p (l.map f)=(l.filter fun b=>p (f a) (f b)).length+cl _ l
  rw[Ah p f l,Qec,MO]
  rfl
theorem rB {α:Type} {p q:α->α->Bool}: ∀{l:List α},l.Pairwise (fun a b=>p a b=q a b)->cl p l=cl q l
 | [],_=>rfl
 | a::l,h=>by
  rw[Qa5]at h
  show (l.filter (p a)).length+cl p l=(l.filter (q a)).length+cl q l
  rw[rB h.2,Qcs fun b hb=>h.1 b hb]
theorem FZ {a b a' b':Nat} (h1:a<b) (h2:a'<b') (h4:a<a') (h5:b≠a') (h6:b≠b'):(km (a,b) (a',b')||km (a',b') (a,b))=oP a b a' b':=by
 have g4:=Qax h4 h2
 rw[Bb (ZE h1) (ZE h4) (ZE g4) h5 h6]
 unfold km
 rw[decide_eq_true h4,decide_eq_true g4,decide_eq_false (Qcm h4),gM (Ne.symm h6)]
 have k:decide (b'<b)=true->decide (a'<b)=true:=fun q=>decide_eq_true (Qax h2 (of_decide_eq_true q))
 revert k
 generalize decide (a'<b)=p
 generalize decide (b'<b)=q
 revert p q
 decide
theorem wb {a b a' b':Nat} (h1:a<b) (h2:a'<b') (h3:a≠a') (h4:a≠b') (h5:b≠a') (h6:b≠b'):(km (a,b) (a',b')||km (a',b') (a,b))=oP a b a' b':=by
 rcases Qa4 h3 with q | q
 ·exact FZ h1 h2 q h5 h6
 ·rw[Bool.or_comm,FZ h2 h1 q (Ne.symm h4) (Ne.symm h6),mQ (ZE h2) (ZE h1) (Ne.symm h3) (Ne.symm h5) (Ne.symm h4) (Ne.symm h6)]
theorem IV {a b a' b':Nat} (h1:a≠b) (h2:a'≠b') (h3:a≠a') (h4:a≠b') (h5:b≠a') (h6:b≠b'):(km (min a b,max a b) (min a' b',max a' b')||km (min a' b',max a' b') (min a b,max a b))=oP a b a' b':=by
 rcases Qa4 h1 with q | q<;>rcases Qa4 h2 with r | r
 ·rw[Qal (Z4 q),Qbr (Z4 q),Qal (Z4 r),Qbr (Z4 r)]
  exact wb q r h3 h4 h5 h6
 ·rw[Qal (Z4 q),Qbr (Z4 q),Qai (Z4 r),Qbi (Z4 r),jI]
  exact wb q r h4 h3 h6 h5
 ·rw[Qai (Z4 q),Qbi (Z4 q),Qal (Z4 r),Qbr (Z4 r), <-xZ h1 h2 h3 h4 h5 h6]
  exact wb q r h5 h6 h3 h4
 ·rw[Qai (Z4 q),Qbi (Z4 q),Qai (Z4 r),Qbi (Z4 r), <-xZ h1 h2 h3 h4 h5 h6,jI]
  exact wb q r h6 h5 h4 h3
section
variable {y:List Nat} {ws:List (List Nat)} {L:Nat->Bool} {r:Nat->Nat} {M:Nat}
noncomputable def fN (ps:List (Nat×Nat×Nat)) (c i e:Nat):Nat:=ps.idxOf (c,i,e)
theorem IW {n i:Nat} (h:i<n):fM n ((i:Int) - 1)=yP n i/\fM n (i:Int)=i:=by
 have h1:=cq (n:=n) (by omega) ((i:Int) - 1)
 have h2:=cq (n:=n) (by omega) (i:Int)
 rw[Bt h]at h1
 rw[ZO (by omega) (by omega)]at h2
 omega
theorem iq {ps:List (Nat×Nat×Nat)} {c i:Nat} (hi:i<(ws.getD c []).length):(gp ps c (ws.getD c []) i).2.2.1=pI ws (fN ps) c ((i:Int) - 1)/\(gp ps c (ws.getD c []) i).2.2.2=pO ws (fN ps) c i:=by
 obtain ⟨e1,e2⟩:=IW hi
 have g: ∀k,k<(ws.getD c []).length->(ws.getD c []).getD k 0=rd (ws.getD c []) k:=fun k hk=>by
  rw[WS,nQ hk];rfl
 have dz:ws.getD c []≠[]:=fun z=>by rw[z]at hi;exact absurd hi (Qbh _)
 unfold gp pI pO fN
 rw[e1,e2,g _ (z7 hi),g _ hi]
 refine ⟨?_,rfl⟩
 have:rd (ws.getD c []) (yP (ws.getD c []).length i:Nat)=rd (ws.getD c []) ((i:Int) - 1):=by rw[<-e1,bY dz]
 rw[this]
theorem eT (ps:List (Nat×Nat×Nat)) (ws:List (List Nat)): ∀n,gh ps ws n=(ny ws n).map fun x=>gp ps x.1 (ws.getD x.1 []) x.2
 | 0=>rfl
 | n+1=>by
  have ih:=eT ps ws n
  unfold gh at ih ⊢
  unfold ny
  rw[kb,ZY,ih,WQ,Qar,Qac]
  rfl
theorem oe (ws:List (List Nat)) (n:Nat):(ny ws n).Nodup:=(p8 n).imp fun {a b} h z=>by
 rw[z]at h
 unfold ph at h
 simp at h
theorem m6 (h:eF y ws L r M) {ps:List (Nat×Nat×Nat)} (hN:Lies y ws L r M (fN ps)) (l:List (Nat×Nat)) (hl:l.Nodup) (lI: ∀x∈l,x.1<ws.length/\x.2<(ws.getD x.1 []).length):(dF (l.map fun x=>gp ps x.1 (ws.getD x.1 []) x.2)).Nodup:=by
 unfold dF
 induction l with
 | nil=>exact List.Pairwise.nil
 | cons x t ih=>
  rw[Z6]at hl
  rw[ZC,ZQ,Qaj]
  obtain ⟨x1,x2⟩:=lI x Zv
  have ex:=iq (ps:=ps) (ws:=ws) (c:=x.1) x2
  refine ⟨?_,ih hl.2 fun z hz=>lI z (Zs _ hz),fun a ha b hb e=>?_⟩
  ·rw[ex.1,ex.2,Z6]
   exact ⟨by simpa using (cW h hN x1 x1 x2 x2).1,by simp⟩
  ·obtain ⟨c4,TM,JS⟩:=ZS.mp hb
   obtain ⟨z,hz,rfl⟩:=ZL.mp TM
   obtain ⟨z1,z2⟩:=lI z (Zs _ hz)
   have ez:=iq (ps:=ps) (ws:=ws) (c:=z.1) z2
   have dz:(x.1,x.2)≠(z.1,z.2):=fun q=>hl.1 (by
    have:x=z:=Prod.ext (Prod.mk.inj q).1 (Prod.mk.inj q).2
    rw[this];exact hz)
   have n1:=cW h hN x1 z1 x2 z2
   have n2:=cW h hN z1 x1 z2 x2
   rw[ex.1,ex.2]at ha
   rw[ez.1,ez.2]at JS
   have VA:a=pI ws (fN ps) x.1 ((x.2:Int) - 1)\/a=pO ws (fN ps) x.1 x.2:=by simpa using ha
   have hJ:b=pI ws (fN ps) z.1 ((z.2:Int) - 1)\/b=pO ws (fN ps) z.1 z.2:=by simpa using JS
   rw[e]at VA
   rcases VA with p | p<;>rcases hJ with q | q<;>rw[p]at q
   ·exact (n1.2 dz).1 q
   ·exact n1.1 q
   ·exact n2.1 q.symm
   ·exact (n1.2 dz).2 q
theorem m7 (h:eF y ws L r M) {ps:List (Nat×Nat×Nat)} (hN:Lies y ws L r M (fN ps)) (l:List (Nat×Nat)) (hl:l.Nodup) (lI: ∀x∈l,x.1<ws.length/\x.2<(ws.getD x.1 []).length):cl (fun x z=>km x z||km z x) (kN (l.map fun x=>gp ps x.1 (ws.getD x.1 []) x.2))=cl (Bq ws (fN ps)) l:=by
 unfold kN
 rw[Qac,Ah]
 refine rB (Qbd (fun {a b} ha hb t9=>?_) hl)
 obtain ⟨a1,a2⟩:=lI a ha
 obtain ⟨b1,b2⟩:=lI b hb
 have ea:=iq (ps:=ps) (ws:=ws) (c:=a.1) a2
 have eb:=iq (ps:=ps) (ws:=ws) (c:=b.1) b2
 have dz:(a.1,a.2)≠(b.1,b.2):=t9
 have n1:=cW h hN a1 b1 a2 b2
 have n2:=cW h hN b1 a1 b2 a2
 have n3:=cW h hN a1 a1 a2 a2
 have n4:=cW h hN b1 b1 b2 b2
 show (km (min _ _,max _ _) (min _ _,max _ _)||km (min _ _,max _ _) (min _ _,max _ _))=Bq ws (fN ps) a b
 rw[ea.1,ea.2,eb.1,eb.2,IV n3.1 n4.1 (n1.2 dz).1 n1.1 (Ne.symm n2.1) (n1.2 dz).2]
 rfl
end
noncomputable def kr (w:List Nat):Int:=((w.length / Ru w:Nat):Int)
noncomputable def wc (y w:List Nat):Int:=SS y w w+2*(kr w - 1)
noncomputable def yp (y:List Nat) (ws:List (List Nat)):Int:=sm ws.length (fun c=>wc y (ws.getD c.toNat []))+2*jK ws.length (fun c d=>SS y (ws.getD c.toNat []) (ws.getD d.toNat []))
theorem F_ (h:Int->Int) (n:Nat):2*sm n h=sm n fun i=>2*h i:=by
 rw[show (fun i=>2*h i)=fun i=>h i+h i from funext fun i=>Int.two_mul _,lE,Int.two_mul]
theorem Ga {y:List Nat} {ws:List (List Nat)} {M:Nat} {N:Nat->Nat->Nat->Nat} (h:eF y ws (Dt ws) (Du ws) M) (hN:Lies y ws (Dt ws) (Du ws) M N):2*(cl (Bq ws N) (places ws):Int)=yp y ws:=by
 unfold places yp
 rw[vQ,Int.mul_add,F_]
 congr 1
 ·refine aO fun c hc=>?_
  rw[U6]
  have a:=x6 h hN hc
  rw[q8 h.yd (h.sw c hc) (h.sw c hc)]at a
  rw[show jK (ws.getD c []).length (fun i j=>one (Bq ws N (c,i.toNat) (c,j.toNat)=true))=jK (ws.getD c []).length (fun i j=>one (jg (pO ws N c) (pI ws N c) (pO ws N c) (pI ws N c) i j=true)) from ig fun i j _ _=>by
   unfold Bq
   rw[U6,U6],a]
  rfl
 ·congr 1
  refine ig fun c d iB hd=>?_
  rw[U6,U6, <-q8 h.yd (h.sw c (Qax iB hd)) (h.sw d hd), <-nW h hN (c:=c) (d:=d) (Qax iB hd) hd (ZE iB)]
  exact bZ fun i j _ _=>by
   unfold Bq
   rw[U6,U6]
theorem C5 {y:List Nat} {ws:List (List Nat)} {os:List Od} (hy:Yd y) (hw: ∀w∈ws,SW y w) (h:ko y ws os):(dF (bR y ws os)).Nodup/\2*(cl (fun x z=>km x z||km z x) (kN (bR y ws os)):Int)=yp y ws:=by
 obtain ⟨M,hC,hT⟩:=Ag hy hw h
 have hN:Lies y ws (Dt ws) (Du ws) M (fN (iU y os)):=lies_of hy hC.sw hT
 have lI: ∀x∈places ws,x.1<ws.length/\x.2<(ws.getD x.1 []).length:=fun x hx=>iT.mp hx
 unfold bR
 rw[eT]
 refine ⟨m6 hC hN _ (oe ws _) lI,?_⟩
 rw[m7 hC hN _ (oe ws _) lI]
 exact Ga hC hN
theorem Gb (y w:List Nat):yp y [w]=wc y w:=by
 show (0+wc y w)+2*(0+0)=_
 omega
theorem IX {y w v:List Nat} {os:List Od} (hy:Yd y) (hw:SW y w) (hv:SW y v) (h:ko y [w,v] os):
  (cl (fun x z=>km x z||km z x) (kN (bR y [w,v] os)):Int) - cl (fun x z=>km x z||km z x) (kN ((bR y [w,v] os).take w.length)) - cl (fun x z=>km x z||km z x) (kN ((bR y [w,v] os).drop w.length))=SS y w v/\(dF (bR y [w,v] os)).Nodup/\(dF ((bR y [w,v] os).take w.length)).Nodup/\(dF ((bR y [w,v] os).drop w.length)).Nodup:=by
 have TN: ∀u∈[w,v],SW y u:=fun u hu=>by
  rcases Zt.mp hu with e | e
  ·rw[e];exact hw
  ·rw[U7.mp e];exact hv
 obtain ⟨M,hC,hT⟩:=Ag hy TN h
 have hN:Lies y [w,v] (Dt [w,v]) (Du [w,v]) M (fN (iU y os)):=lies_of hy hC.sw hT
 have lI: ∀x∈places [w,v],x.1<[w,v].length/\x.2<([w,v].getD x.1 []).length:=fun x hx=>iT.mp hx
 have TQ:(places [w,v]).Nodup:=oe [w,v] 2
 have ep:places [w,v]=(List.range w.length).map (fun i=>(0,i))++(List.range v.length).map (fun i=>(1,i)):=rfl
 have ec:bR y [w,v] os=(places [w,v]).map fun x=>gp (iU y os) x.1 ([w,v].getD x.1 []) x.2:=eT _ _ _
 have t1:(bR y [w,v] os).take w.length=((List.range w.length).map (fun i=>(0,i))).map fun x=>gp (iU y os) x.1 ([w,v].getD x.1 []) x.2:=by
  rw[ec,ep,WQ,List.take_append_of_le_length (by simp),ZM (by simp)]
 have t2:(bR y [w,v] os).drop w.length=((List.range v.length).map (fun i=>(1,i))).map fun x=>gp (iU y os) x.1 ([w,v].getD x.1 []) x.2:=by
  rw[ec,ep,WQ,List.drop_append_of_le_length (by simp),Qas (by simp),List.nil_append]
 have Qp:=TQ
 have Ma:=lI
 rw[ep]at Ma
 rw[ep,Qaj]at Qp
 have i1:=fun x hx=>Ma x (Qbp _ hx)
 have i2:=fun x hx=>Ma x (ZK _ hx)
 rw[t1,t2]
 refine ⟨?_,by rw[ec];exact m6 hC hN _ TQ lI,m6 hC hN _ Qp.1 i1,m6 hC hN _ Qp.2.1 i2⟩
 rw[ec,m7 hC hN _ TQ lI,m7 hC hN _ Qp.1 i1,m7 hC hN _ Qp.2.1 i2,ep,vP]
 have e1:(((List.range w.length).map fun i=>((0:Nat),i)).map fun x=>((((List.range v.length).map fun i=>((1:Nat),i)).filter (Bq [w,v] (fN (iU y os)) x)).length:Int)).sum=SS y w v:=by
  rw[<-q8 hy hw hv,Qac]
  refine Eq.trans ?_ (nW hC hN (c:=0) (d:=1) (Nat.zero_lt_succ _) (Qau 1) (by decide))
  refine (kh (fun i=>((((List.range v.length).map fun i=>((1:Nat),i)).filter (Bq [w,v] (fN (iU y os)) (0,i))).length:Int)) w.length).trans (aO fun i _=>?_)
  rw[U6]
  refine (Bp _ 1 v.length).trans (aO fun j _=>?_)
  rw[U6]
  rfl
 rw[e1]
 omega
theorem EO.ok {y:List Nat} {ws:List (List Nat)} (h:EO y ws):Fn y ws:=⟨h.tR,fun w hw=>⟨(h.sw w hw).1.bK,(h.sw w hw).2⟩⟩
theorem uF {y:List Nat} {ws:List (List Nat)} {os:List Od} (h:EO y ws):(bR y ws os).length<=24:=by
 unfold bR
 rw[eT,MO]
 exact h.all
theorem IZ {y w:List Nat} (h:SW y w) (hz:w.length<=12):EO y [w]:=⟨fun v hv=>by rw[U7.mp hv];exact ⟨h,hz⟩,by show 1<=4;decide,by
 have:=mN (ws:=[w]) (m:=12) (fun v hv=>by rw[U7.mp hv];exact hz) 1 (Ri _)
 unfold places
 show (ny [w] 1).length<=24
 omega⟩
def yq (_:PySem.W.Frag):Sp:=fun vs H Q _=> ∃(y:List Nat) (wt:Addr) (ws:List (List Nat)),vs=[.str (S y), .ref wt]/\Yd y/\y.length<=8/\EO y ws/\H wt=some (.tup (iN ws))/\ ∀(n:Nat) H',ak H H'->2*(n:Int)=yp y ws->Q (.int n) H'
theorem C6 {K:PySem.W.Frag} {vs:List V} {H:Hp} {Q:VK} {E:XK} (h:yq K vs H Q E):vs.length=2:=by obtain ⟨_,_,_,rfl,_⟩:=h;rfl
def Gd (_:PySem.W.Frag):Sp:=fun vs H Q _=> ∃(y w:List Nat),vs=[.str (S y), .str (S w)]/\Yd y/\y.length<=8/\SW y w/\w.length<=12/\ ∀(n:Nat) H',ak H H'->2*(n:Int)=wc y w->Q (.int n) H'
theorem len_own {K:PySem.W.Frag} {vs:List V} {H:Hp} {Q:VK} {E:XK} (h:Gd K vs H Q E):vs.length=2:=by obtain ⟨_,_,rfl,_⟩:=h;rfl
def rC (_:PySem.W.Frag):Sp:=fun vs H Q _=> ∃(y w v:List Nat),vs=[.str (S y), .str (S w), .str (S v)]/\Yd y/\y.length<=8/\SW y w/\w.length<=12/\SW y v/\v.length<=12/\ ∀H',ak H H'->Q (.int (SS y w v)) H'
theorem yr {K:PySem.W.Frag} {vs:List V} {H:Hp} {Q:VK} {E:XK} (h:rC K vs H Q E):vs.length=3:=by obtain ⟨_,_,_,rfl,_⟩:=h;rfl
theorem I0 {a b r s:Nat} (h1:a≠b) (h3:a≠r) (h4:a≠s) (h5:b≠r) (h6:b≠s):Bv a b r s=oP a b r s:=by
 rw[Bb h1 h3 h4 h5 h6]
 have key: ∀x:Nat,a≠x->b≠x->Bu (if (b:Int)<a then b else a) (if (b:Int)>a then b else a) x=!(decide (a<x) ^^ decide (x<b)):=fun x g1 g2=>by
  unfold Bu
  rcases Qa4 h1 with q | q
  ·rw[if_neg (by omega),if_pos (by omega),show decide ((a:Int)<x)=decide (a<x) from decide_eq_decide.mpr (by omega),show decide ((x:Int)<b)=decide (x<b) from decide_eq_decide.mpr (by omega)]
   have k:decide (a<x)=false->decide (x<b)=true:=fun z=>decide_eq_true (by have:=of_decide_eq_false z;omega)
   revert k
   generalize decide (a<x)=u
   generalize decide (x<b)=v
   revert u v
   decide
  ·rw[if_pos (by omega),if_neg (by omega),show decide ((b:Int)<x)=!decide (x<b) from by rw[<-gM (Ne.symm g2)];exact decide_eq_decide.mpr (by omega),show decide ((x:Int)<a)=!decide (a<x) from by rw[<-gM g1];exact decide_eq_decide.mpr (by omega)]
   have k:decide (a<x)=true->decide (x<b)=false:=fun z=>decide_eq_false (by have:=of_decide_eq_true z;omega)
   revert k
   generalize decide (a<x)=u
   generalize decide (x<b)=v
   revert u v
   decide
 unfold Bv
 rw[key r h3 h5,key s h4 h6]
 generalize decide (a<r)=p1
 generalize decide (r<b)=p2
 generalize decide (a<s)=p3
 generalize decide (s<b)=p4
 revert p1 p2 p3 p4
 decide
noncomputable def at2 (x:C4):Nat×Nat:=(x.1,x.2.2.1)
noncomputable def Dv (c d:Nat) (a b:Nat):Bool:=decide (a=c)&&decide (b=d)
theorem BJ (c d:Nat) (x:C4): ∀rs:List C4,((dI x rs).map at2).count (c,d)=(rs.filter fun r=>meets x r&&Dv c d x.1 r.1).length
 | []=>rfl
 | r::rs=>by
  have ih:=BJ c d x rs
  unfold dI at ih ⊢
  by_cases z:meets x r=true
  ·rw[ZP z,ZC,ZC,List.count_cons,ih]
   by_cases q:Dv c d x.1 r.1=true
   ·rw[ZP (by rw[z,q];rfl),ZR]
    unfold Dv at q
    rw[Z0,decide_eq_true_eq,decide_eq_true_eq]at q
    rw[if_pos (by show ((x.1,r.1)==(c,d))=true;rw[q.1,q.2];exact beq_self_eq_true _)]
   ·rw[ZF (by rw[z];simpa using q)]
    rw[if_neg (fun g=>q ?_)]
    ·rfl
    ·have g2:(x.1,r.1)=(c,d):=eq_of_beq g
     unfold Dv
     rw[(Prod.mk.inj g2).1,(Prod.mk.inj g2).2]
     simp
  ·rw[ZF z,ih,ZF (by rw[Bool.not_eq_true _ |>.mp z];exact Zz)]
theorem m8 (x:C4) (cs:List C4) (n:Nat):cX (x::cs) (n+1)=dI x cs++cX cs n:=by
 unfold cX
 rw[List.range_succ_eq_map,ZQ,List.flatMap_map]
 rfl
theorem wd (c d:Nat): ∀cs:List C4,((cX cs cs.length).map at2).count (c,d)=cl (fun x z=>meets x z&&Dv c d x.1 z.1) cs
 | []=>rfl
 | x::cs=>by
  show ((cX (x::cs) (cs.length+1)).map at2).count (c,d)=_
  rw[m8,WQ,Qd0,BJ,wd c d cs]
  rfl
theorem BK: ∀cs:List C4,(cX cs cs.length).length=cl meets cs
 | []=>rfl
 | x::cs=>by
  show (cX (x::cs) (cs.length+1)).length=_
  rw[m8,U5,BK cs]
  unfold dI
  rw[MO]
  rfl
theorem m9 {h:Int->Int} {c:Nat}: ∀{n:Nat},c<n->(∀i:Nat,i<n->i≠c->h i=0)->sm n h=h c
 | 0,hc,_=>absurd hc (Qbh _)
 | n+1,hc,z=>by
  show sm n h+h n=h c
  by_cases e:c=n
  ·subst e
   rw[aO (g:=fun _=>0) fun i hi=>z i (by omega) (by omega),eE,Qay]
  ·rw[m9 (n:=n) (by omega) fun i hi q=>z i (by omega) q,z n (by omega) (Ne.symm e),Qaz]
theorem gi {h:Int->Int} {n:Nat} (z: ∀i:Nat,i<n->h i=0):sm n h=0:=by rw[aO (g:=fun _=>0) z,eE]
theorem jV {h:Int->Int->Int}: ∀{n:Nat},(∀i j:Nat,i<j->j<n->h i j=0)->jK n h=0
 | 0,_=>rfl
 | n+1,z=>by
  show jK n h+sm n _=0
  rw[jV (n:=n) fun i j h1 h2=>z i j h1 (by omega),gi fun i hi=>z i n hi (by omega)]
  rfl
theorem yt {h:Int->Int->Int} {c d:Nat} (iB:c<d): ∀{n:Nat},d<n->(∀i j:Nat,i<j->j<n->(i,j)≠(c,d)->h i j=0)->jK n h=h c d
 | 0,hc,_=>absurd hc (Qbh _)
 | n+1,hd,z=>by
  show jK n h+sm n (fun j=>h j n)=h c d
  by_cases e:d=n
  ·subst e
   rw[jV fun i j h1 h2=>z i j h1 (by omega) fun q=>by have:=(Prod.mk.inj q).2;omega,m9 (h:=fun j=>h j d) iB fun i hi q=>z i d hi (by omega) fun g=>q (Prod.mk.inj g).1,Qay]
  ·rw[yt iB (n:=n) (by omega) fun i j h1 h2 q=>z i j h1 (by omega) q,gi fun i hi=>z i n hi (by omega) fun g=>e (Prod.mk.inj g).2.symm,Qaz]
theorem yu {h:Int->Int->Int} {n m:Nat} (z: ∀i j:Nat,i<n->j<m->h i j=0):cH n m h=0:=gi fun i hi=>gi fun j hj=>z i j hi hj
theorem we {c d a b:Nat} (h:(a,b)≠(c,d)):Dv c d a b=false:=by
 unfold Dv
 rw[<-Qdd]
 exact decide_eq_false fun q=>h (by rw[q.1,q.2])
theorem BL (c d:Nat):Dv c d c d=true:=by unfold Dv;simp
theorem add_eq {a b a' b':Int} (h1:a=a') (h2:b=b'):a+b=a'+b':=by rw[h1,h2]
section
variable {y:List Nat} {ws:List (List Nat)} {L:Nat->Bool} {r:Nat->Nat} {M:Nat}
theorem og (h:eF y ws L r M) {ps:List (Nat×Nat×Nat)} (hN:Lies y ws L r M (fN ps)) (l:List (Nat×Nat)) (hl:l.Nodup) (lI: ∀x∈l,x.1<ws.length/\x.2<(ws.getD x.1 []).length) (p:Nat->Nat->Bool):cl (fun x z=>meets x z&&p x.1 z.1) (l.map fun x=>gp ps x.1 (ws.getD x.1 []) x.2)=cl (fun a b=>Bq ws (fN ps) a b&&p a.1 b.1) l:=by
 rw[Ah]
 refine rB (Qbd (fun {a b} ha hb t9=>?_) hl)
 obtain ⟨a1,a2⟩:=lI a ha
 obtain ⟨b1,b2⟩:=lI b hb
 have ea:=iq (ps:=ps) (ws:=ws) (c:=a.1) a2
 have eb:=iq (ps:=ps) (ws:=ws) (c:=b.1) b2
 have dz:(a.1,a.2)≠(b.1,b.2):=t9
 have n1:=cW h hN a1 b1 a2 b2
 have n2:=cW h hN b1 a1 b2 a2
 have n3:=cW h hN a1 a1 a2 a2
 show (Bv _ _ _ _&&p a.1 b.1)=(Bq ws (fN ps) a b&&p a.1 b.1)
 rw[ea.1,ea.2,eb.1,eb.2,I0 n3.1 (n1.2 dz).1 n1.1 (Ne.symm n2.1) (n1.2 dz).2]
 rfl
end
theorem Ge {y:List Nat} {ws:List (List Nat)} {os:List Od} (hy:Yd y) (hw: ∀w∈ws,SW y w) (h:ko y ws os):
  2*((ra y ws os).length:Int)=yp y ws/\(∀c,c<ws.length->2*((((ra y ws os).map at2).count (c,c):Nat):Int)=wc y (ws.getD c []))/\ ∀c d,c<d->d<ws.length->((((ra y ws os).map at2).count (c,d):Nat):Int)=SS y (ws.getD c []) (ws.getD d []):=by
 obtain ⟨M,hC,hT⟩:=Ag hy hw h
 have hN:Lies y ws (Dt ws) (Du ws) M (fN (iU y os)):=lies_of hy hC.sw hT
 have lI: ∀x∈places ws,x.1<ws.length/\x.2<(ws.getD x.1 []).length:=fun x hx=>iT.mp hx
 have hu: ∀n:Nat,((n:Nat):Int).toNat=n:=U6
 refine ⟨?_,fun c hc=>?_,fun c d iB hd=>?_⟩
 ·unfold ra bR
  rw[BK,eT]
  have:=og hC hN _ (oe ws ws.length) lI fun _ _=>true
  simp only[Bool.and_true]at this
  rw[show (cl meets ((ny ws ws.length).map fun x=>gp (iU y os) x.1 (ws.getD x.1 []) x.2))=cl (Bq ws (fN (iU y os))) (ny ws ws.length) from this]
  exact Ga hC hN
 ·unfold ra bR
  rw[wd,eT,og hC hN _ (oe ws ws.length) lI (Dv c c),vQ]
  refine (congrArg (fun z=>2*z) (add_eq (m9 hc ?_) (jV ?_))).trans ?_
  rotate_left 2
  ·show 2*(_+0)=_
   rw[Qaz,hu]
   have a:=x6 hC hN hc
   rw[q8 hC.yd (hC.sw c hc) (hC.sw c hc)]at a
   rw[show jK (ws.getD c []).length (fun i j=>one ((Bq ws (fN (iU y os)) (c,i.toNat) (c,j.toNat)&&Dv c c c c)=true))=jK (ws.getD c []).length (fun i j=>one (jg (pO ws (fN (iU y os)) c) (pI ws (fN (iU y os)) c) (pO ws (fN (iU y os)) c) (pI ws (fN (iU y os)) c) i j=true)) from ig fun i j _ _=>by
    rw[BL,Bool.and_true]
    unfold Bq
    rw[hu,hu],a]
   rfl
  ·intro i _ q
   rw[hu]
   refine jV fun a b _ _=>aZ ?_
   rw[we fun g=>q (Prod.mk.inj g).1,Qcq]
   decide
  ·intro i j Y9 hj
   rw[hu,hu]
   refine yu fun a b _ _=>aZ ?_
   rw[we fun q=>by have:=Prod.mk.inj q;omega,Qcq]
   decide
 ·unfold ra bR
  rw[wd,eT,og hC hN _ (oe ws ws.length) lI (Dv c d),vQ]
  refine (add_eq (gi ?_) (yt iB hd ?_)).trans ?_
  rotate_left 2
  ·rw[Qay,hu,hu, <-q8 hC.yd (hC.sw c (Qax iB hd)) (hC.sw d hd), <-nW hC hN (c:=c) (d:=d) (Qax iB hd) hd (ZE iB)]
   exact bZ fun i j _ _=>by
    rw[BL,Bool.and_true]
    unfold Bq
    rw[hu,hu]
  ·intro i _
   rw[hu]
   refine jV fun a b _ _=>aZ ?_
   rw[we fun g=>by have:=Prod.mk.inj g;omega,Qcq]
   decide
  ·intro i j _ _ q
   rw[hu,hu]
   refine yu fun a b _ _=>aZ ?_
   rw[we q,Qcq]
   decide
noncomputable def BM (x:Fm):Nat×Nat:=(x.c,x.d)
theorem Qq {y:List Nat} {ws:List (List Nat)} {o p:Nat×Nat} {x:Fm} (h:x∈lU y ws o p):BM x=(o.1,p.1):=by
 have:=mI h
 unfold BM
 rw[this.1,this.2.2.1]
theorem I_ {l:List Fm} {q:Nat×Nat} (h: ∀x∈l,BM x=q) (c d:Nat):((l.map BM).count (c,d):Int)=one (q=(c,d))*l.length:=by
 induction l with
 | nil=>show (0:Int)=_*0;omega
 | cons a l ih=>
  rw[ZC,List.count_cons,ZZ,ih fun x hx=>h x (Zs _ hx),h a Zv,ZR]
  by_cases z:q=(c,d)
  ·rw[fX z,if_pos (by rw[z];exact beq_self_eq_true _)]
   omega
  ·rw[aZ z,if_neg fun g=>z (eq_of_beq g)]
   omega
theorem rD {α:Type} (F:α->List Fm) (q:Nat×Nat): ∀l:List α,(((l.flatMap F).map BM).count q:Int)=(l.map fun x=>(((F x).map BM).count q:Int)).sum
 | []=>rfl
 | a::l=>by
  rw[ZQ,WQ,Qd0,ZZ,rD F q l,ZC,Qa0]
theorem rE (y:List Nat) (ws:List (List Nat)) {c d:Nat} (hc:c<ws.length) (hd:d<ws.length):((((mH y ws).map BM).count (c,d):Nat):Int)=cH (ws.getD c []).length (ws.getD d []).length fun i j=>((lU y ws (c,i.toNat) (d,j.toNat)).length:Int):=by
 have hu: ∀n:Nat,((n:Nat):Int).toNat=n:=U6
 unfold mH places
 rw[rD]
 have e:((ny ws ws.length).map fun o=>((((ny ws ws.length).flatMap fun p=>lU y ws o p).map BM).count (c,d):Int))=(ny ws ws.length).map fun o=>sm ws.length fun d'=>sm (ws.getD d'.toNat []).length fun j=>one ((o.1,d'.toNat)=(c,d))*((lU y ws o (d'.toNat,j.toNat)).length:Int):=Qbe fun o _=>by
  rw[rD]
  rw[show ((ny ws ws.length).map fun p=>(((lU y ws o p).map BM).count (c,d):Int))=(ny ws ws.length).map fun p=>one ((o.1,p.1)=(c,d))*((lU y ws o p).length:Int) from Qbe fun p _=>I_ (fun x hx=>Qq hx) c d,qc]
 rw[e,qc,m9 hc]
 ·rw[hu]
  refine aO fun i _=>?_
  rw[m9 hd]
  ·rw[hu]
   refine aO fun j _=>?_
   rw[fX rfl,Int.one_mul]
  ·intro d' _ q
   rw[hu]
   refine gi fun j _=>?_
   rw[aZ fun g=>q (Prod.mk.inj g).2,Int.zero_mul]
 ·intro c' _ q
  rw[hu]
  refine gi fun i _=>gi fun d' _=>gi fun j _=>?_
  rw[aZ fun g=>q (Prod.mk.inj g).1,Int.zero_mul]
theorem C7 {y:List Nat} {ws:List (List Nat)} (hy:Yd y) (hw: ∀w∈ws,SW y w):(∀c,c<ws.length->2*((((mH y ws).map BM).count (c,c):Nat):Int)=SS y (ws.getD c []) (ws.getD c []))/\ ∀c d,c<d->d<ws.length->((((mH y ws).map BM).count (c,d):Nat):Int)=SS y (ws.getD c []) (ws.getD d []):=by
 have lI: ∀c,c<ws.length->SW y (ws.getD c []):=fun c hc=>hw _ (getD_in hc)
 refine ⟨fun c hc=>?_,fun c d iB hd=>?_⟩
 ·rw[rE y ws hc hc,CP hy (lI c hc),q8 hy (lI c hc) (lI c hc)]
 ·rw[rE y ws (Qax iB hd) hd, <-q8 hy (lI c (Qax iB hd)) (lI d hd)]
  exact bZ fun i j _ _=>by rw[U6,U6];exact IB iB
def oV (_:PySem.W.Frag):Sp:=fun vs H Q _=> ∃(y:List Nat) (wt:Addr) (ws:List (List Nat)),vs=[.str (S y), .ref wt]/\Yd y/\y.length<=8/\EO y ws/\H wt=some (.tup (iN ws))/\ ∀(p dr th:Addr) (os:List Od) (L:List Fa) (H':Hp),H' p=some (.tup [.ref dr, .ref th])->vT H' dr ws os->ko y ws os->H' th=some (.tup (fB L))->bW H' L->L.map Fa.x=mH y ws->ak H H'->Q (.ref p) H'
theorem wg {K:PySem.W.Frag} {vs:List V} {H:Hp} {Q:VK} {E:XK} (h:oV K vs H Q E):vs.length=2:=by obtain ⟨_,_,_,rfl,_⟩:=h;rfl
noncomputable def yR (q:Nat×Nat):List Key:=[Sum.inl (q.1:Int),Sum.inl (q.2:Int)]
theorem Ja {p q:Nat×Nat} (h:yR p=yR q):p=q:=by
 unfold yR at h
 injection h with h1 h2
 injection h2 with h2 _
 have a1:(p.1:Int)=q.1:=Sum.inl.inj h1
 have a2:(p.2:Int)=q.2:=Sum.inl.inj h2
 exact Prod.ext (by omega) (by omega)
def Gf (H:Hp) (xs:List V) (ps:List (Nat×Nat)):Prop:=xs.length=ps.length/\ ∀(i:Nat) (x:V),xs[i]? =some x-> ∃(t:Addr) (us:List V) (q:Nat×Nat),x=V.ref t/\H t=some (.tup us)/\o6 us 0=some (.int q.1)/\o6 us 2=some (.int q.2)/\ps[i]? =some q
def J1 (aL:List (List Key×V)) (ps:List (Nat×Nat)):Prop:= ∀q:Nat×Nat,di aL (yR q)=if ps.count q=0 then none else some (.int (ps.count q:Nat))
theorem J1.get {aL:List (List Key×V)} {ps:List (Nat×Nat)} (h:J1 aL ps) (q:Nat×Nat):(di aL (yR q)).getD (.int 0)= .int (ps.count q:Nat):=by
 rw[h q]
 split
 ·rename_i z
  rw[z]
  rfl
 ·rfl
theorem J1.put {aL:List (List Key×V)} {ps:List (Nat×Nat)} {q:Nat×Nat} (h:J1 aL ps):J1 (putK aL (yR q) (.int ((ps.count q:Nat)+1:Int))) (ps++[q]):=fun r=>by
 rw[xx,Qd0,List.count_singleton]
 by_cases z:r=q
 ·subst z
  rw[if_pos rfl,if_pos (beq_self_eq_true _),if_neg (by omega)]
  push_cast
  rfl
 ·rw[if_neg fun g=>z (Ja g),h r,if_neg fun g=>z (eq_of_beq g).symm,Qc9]
def oW (K:PySem.W.Frag):Sp:=fun vs H Q _=> ∃(a:Addr) (xs:List V) (ps:List (Nat×Nat)),vs=[.ref a]/\(H a=some (.lst xs)\/H a=some (.tup xs))/\Gf H xs ps/\ps.length<=5000/\ ∀q aL H',H q=none->H' q=some (.dT aL)->J1 aL ps->ak H H'->Q (.ref q) H'
theorem wj {K:PySem.W.Frag} {vs:List V} {H:Hp} {Q:VK} {E:XK} (h:oW K vs H Q E):vs.length=1:=by obtain ⟨_,_,_,rfl,_⟩:=h;rfl
def uG (K:PySem.W.Frag):Sp:=fun vs H Q _=> ∃(y:List Nat) (wt:Addr) (ws:List (List Nat)),vs=[.str (S y), .ref wt]/\Yd y/\y.length<=8/\EO y ws/\H wt=some (.tup (iN ws))/\ ∀H',ak H H'->Q (.bl true) H'
theorem Ai {K:PySem.W.Frag} {vs:List V} {H:Hp} {Q:VK} {E:XK} (h:uG K vs H Q E):vs.length=2:=by obtain ⟨_,_,_,rfl,_⟩:=h;rfl
theorem Qr {H:Hp} {L:List Fa} (h:bW H L):Gf H (fB L) ((L.map Fa.x).map BM):=by
 refine ⟨by rw[eB,MO,MO],fun i x hx=>?_⟩
 unfold fB at hx
 rw[Y5]at hx
 obtain ⟨k,hk,rfl⟩:=Qb0.mp hx
 exact ⟨k.a,_,BM k.x,rfl,h k (Y4 hk),rfl,rfl,by rw[Y5,Y5,hk];rfl⟩
theorem Qs {H:Hp} {qs:List Q4} (h: ∀x∈qs,jh H x):Gf H (iD qs) ((qs.map Q4.v).map at2):=by
 refine ⟨by rw[gN,MO,MO],fun i x hx=>?_⟩
 obtain ⟨k,hk,rfl⟩:=vX hx
 exact ⟨k.t,_,at2 k.v,rfl,h k (Y4 hk),rfl,rfl,by rw[Y5,Y5,hk];rfl⟩
theorem Qt {y w:List Nat} (hy:Yd y) (hw:SW y w) {s:Nat} (h:bQ (dv w) s):kr w=(((dv w).length / s:Nat):Int):=by
 obtain ⟨er,el⟩:=uc hy hw h (Ad hw.ne)
 unfold kr
 rw[el,er]
theorem Gg (h:Int->Int->Int): ∀n:Nat,sm n (fun c=>sm (n - c.toNat) fun j=>h c (c+j))=sm n (fun c=>h c c)+jK n h
 | 0=>rfl
 | n+1=>by
  show sm n (fun c=>sm (n+1 - c.toNat) fun j=>h c (c+j))+sm (n+1 - ((n:Int)).toNat) (fun j=>h n (n+j))=(sm n (fun c=>h c c)+h n n)+(jK n h+sm n fun c=>h c n)
  have a:sm n (fun c=>sm (n+1 - c.toNat) fun j=>h c (c+j))=sm n (fun c=>sm (n - c.toNat) fun j=>h c (c+j))+sm n (fun c=>h c n):=by
   rw[<-lE]
   refine aO fun c hc=>?_
   rw[U6,show n+1 - c=(n - c)+1 by omega]
   show sm (n - c) (fun j=>h c (c+j))+h c ((c:Int)+((n - c:Nat):Int))=_
   rw[show (c:Int)+((n - c:Nat):Int)=n by omega]
  have b:sm (n+1 - ((n:Int)).toNat) (fun j=>h n (n+j))=h n n:=by
   rw[U6,show n+1 - n=1 by omega]
   show 0+h n ((n:Int)+((0:Nat):Int))=_
   rw[Qay,show (n:Int)+((0:Nat):Int)=n by omega]
  rw[a,b,Gg h n]
  omega
noncomputable def cD (ps:List (Nat×Nat)) (c d:Int):Int:=(ps.count (c.toNat,d.toNat):Nat)
theorem Jb {y:List Nat} {ws:List (List Nat)} {ps:List (Nat×Nat)} (h1: ∀c,c<ws.length->2*((ps.count (c,c):Nat):Int)=wc y (ws.getD c [])) (h2: ∀c d,c<d->d<ws.length->((ps.count (c,d):Nat):Int)=SS y (ws.getD c []) (ws.getD d [])):2*sm ws.length (fun c=>sm (ws.length - c.toNat) fun j=>cD ps c (c+j))=yp y ws:=by
 rw[Gg,Int.mul_add,F_]
 unfold yp
 congr 1
 ·refine aO fun c hc=>?_
  unfold cD
  rw[U6]
  exact h1 c hc
 ·congr 1
  refine ig fun c d iB hd=>?_
  unfold cD
  rw[U6,U6]
  exact h2 c d iB hd
local macro_rules | `(tactic| walk_at "rd") => `(tactic| repeat (first
 | refine ⟨_,rfl,?_⟩
 | refine ⟨_,_,rfl,rfl,?_⟩
 | refine ⟨rfl,?_⟩
 | refine And.intro (by first | decide | omega | assumption | exact Nat.le_of_ble_eq_true rfl | exact .inl ⟨by decide,by decide⟩ | exact .inr ⟨by decide,by decide⟩ | exact ⟨by decide,by decide⟩ | exact ⟨by omega,by omega⟩) ?_))
local macro_rules | `(tactic| walk_at "wk") => `(tactic| repeat (first
 | refine ⟨_,rfl,?_⟩
 | refine ⟨_,_,rfl,rfl,?_⟩
 | refine ⟨_,_,_,rfl,rfl,by first | assumption | omega,by assumption,?_⟩
 | refine ⟨rfl,?_⟩
 | refine And.intro (by first | decide | omega | assumption | exact Nat.le_of_ble_eq_true rfl | exact .inl ⟨by decide,by decide⟩ | exact .inr ⟨by decide,by decide⟩ | exact ⟨by decide,by decide⟩ | exact ⟨by omega,by omega⟩) ?_))
local macro_rules | `(tactic| walk_at "bd") => `(tactic| first | assumption | exact XF _ | exact Y_ (by walk_at "bd") (by walk_at "bd"))
noncomputable def top (i:Nat):Stmt:=PySem.Challenge.pw_mustmeet_k76_whole_pair_by_pair.main.body.getD i (.Pass ⟨0,0,0,0⟩)
noncomputable abbrev lK:Stmt:=top 1
noncomputable abbrev rF:Stmt:=top 2
noncomputable abbrev wm:Stmt:=top 4
noncomputable abbrev gY:Stmt:=top 5
noncomputable abbrev iV:Stmt:=top 6
noncomputable abbrev iW:Stmt:=top 8
noncomputable abbrev rG:Stmt:=top 9
noncomputable abbrev fO:Stmt:=top 10
noncomputable abbrev oh:Stmt:=top 11
noncomputable abbrev gs:Stmt:=top 12
noncomputable abbrev lL:Stmt:=top 13
noncomputable abbrev gu:Stmt:=top 14
noncomputable abbrev jW:Stmt:=top 15
noncomputable abbrev eU:Stmt:=top 16
noncomputable abbrev iX:Stmt:=top 18
noncomputable abbrev gZ:Stmt:=top 20
noncomputable abbrev gv:Stmt:=top 21
noncomputable abbrev eV:Stmt:=top 22
noncomputable abbrev fP:Stmt:=top 23
noncomputable abbrev fQ:Stmt:=top 24
noncomputable abbrev eW:Stmt:=top 25
noncomputable abbrev jX:Stmt:=top 26
noncomputable abbrev iY:Stmt:=top 27
noncomputable abbrev rH:Stmt:=top 28
noncomputable abbrev jY:Stmt:=top 30
noncomputable abbrev lN:Stmt:=top 31
noncomputable abbrev Aj:Stmt:=top 32
noncomputable abbrev Ak:Stmt:=top 33
noncomputable abbrev gw:Stmt:=top 35
noncomputable abbrev g5:Stmt:=top 38
noncomputable abbrev iZ:Stmt:=top 39
noncomputable abbrev oj:Stmt:=top 40
noncomputable abbrev om:Stmt:=top 41
noncomputable abbrev g6:Stmt:=top 42
noncomputable abbrev gz:Stmt:=top 43
noncomputable abbrev g7:Stmt:=top 44
noncomputable abbrev i0:Stmt:=top 45
noncomputable abbrev Al:Stmt:=top 46
noncomputable abbrev wo:Stmt:=top 48
noncomputable abbrev Gh:Stmt:=top 49
noncomputable abbrev oq:Stmt:=top 50
noncomputable abbrev lO:Stmt:=top 52
noncomputable abbrev Am:Stmt:=top 54
noncomputable abbrev wq:Stmt:=top 55
noncomputable abbrev rJ:Stmt:=top 56
noncomputable abbrev wu:Stmt:=top 57
noncomputable abbrev rK:Stmt:=top 58
noncomputable abbrev wx:Stmt:=top 59
noncomputable abbrev rL:Stmt:=top 60
noncomputable abbrev lQ:Stmt:=top 61
noncomputable abbrev rM:Stmt:=top 62
noncomputable abbrev Gi:Stmt:=top 63
structure aY (K:PySem.W.Frag) (mg:Str->Option Value) (x:Str) (st:Stmt) (ps:List Str) (f:Addr) (fd:FuncData):Prop where
 fn:Ht K x x st f fd
 mg:mg x=some (.ref f)
 bd:Binds K fd ps []
noncomputable abbrev ku:Stmt:=Vj (top 36) 0
noncomputable abbrev ir:Stmt:=Vj (top 37) 0
structure Txt (K:PySem.W.Frag) (mg:Str->Option Value) (f0 f1 f2 f3 f4 f5 f6 f7 f8 f9 MY MZ M0 M1 M3 M4 M5 M6 M7 M8 M9 M_ Na Nb Nd Nf Ng Nh Ni Gj Gk Nj Nk Nl Nm Nn Np Nq Nr Nt Nu Nv Nw Ny Nz NA NB NC ND NF NG NH aQ aW kQ g8:Addr) (d0 d1 d2 d3 d4 d5 d6 d7 d8 d9 NI NJ NK NL NM NN NO NP NQ NR NS NT NU NV NW NX NY NZ N0 N1 N2 N3 N4 N5 N6 N7 N8 N9 N_ Oa Ob Oc Oe Of Og Oh Oi Oj Ol Om Oo Oq yv rN:FuncData):Prop where
 F0:aY K mg "contrary" lK ["letter"] f0 d0
 F1:aY K mg "turned" rF ["word"] f1 d1
 F2:aY K mg "bands" wm ["yard"] f2 d2
 F3:aY K mg "steps_round" gY ["yard","start","end"] f3 d3
 F4:aY K mg "goes_round" iV ["yard","x","y","z"] f4 d4
 F5:aY K mg "strands_at" iW ["yard","drawing","end"] f5 d5
 F6:aY K mg "points" rG ["yard","drawing"] f6 d6
 F7:aY K mg "corner_points" fO ["word","cord","place"] f7 d7
 F8:aY K mg "corners" oh ["yard","drawing"] f8 d8
 F9:aY K mg "corners_meet" gs ["one","other"] f9 d9
 Mb:aY K mg "meetings" lL ["yard","drawing"] MY NI
 Rw:aY K mg "chord_starts" gu ["some"] MZ NJ
 Rx:aY K mg "number_in" jW ["rising","point"] M0 NK
 C8:aY K mg "count_meetings" eU ["some"] M1 NL
 Ry:aY K mg "strands_in" iX ["words","band"] M3 NM
 GZ:aY K mg "corner_ends" gZ ["word","place"] M4 NN
 Rz:aY K mg "meets_across" gv ["yard","one","i","other","j"] M5 NO
 RA:aY K mg "letters_shared" eV ["one","i","other","j"] M6 NP
 Mc:aY K mg "letters_along" fP ["yard","one","i","other","j"] M7 NQ
 RB:aY K mg "forced_onward" fQ ["yard","words","one","other"] M8 NR
 RC:aY K mg "forced_against" eW ["yard","words","backs","one","other"] M9 NS
 RD:aY K mg "forced_at" jX ["yard","words","backs","one","other"] M_ NT
 RE:aY K mg "strands_of" iY ["words"] Na NU
 RF:aY K mg "forced" rH ["yard","words"] Nb NV
 RG:aY K mg "shortened" jY ["word"] Nd NW
 RH:aY K mg "shortest" lN ["word"] Nf NX
 G0:aY K mg "ring" Aj ["word"] Ng NY
 Md:aY K mg "root" Ak ["word"] Nh NZ
 RI:aY K mg "corner_steps" gw ["yard","word","place"] Ni N0
 yS:aY K mg "steps_ahead" g5 ["seen","start","end"] Gj N1
 yT:aY K mg "steps_back" iZ ["seen","start","end"] Gk N2
 Me:aY K mg "parting" oj ["steps","one","other","enough"] Nj N3
 Mf:aY K mg "side_of" om ["seen"] Nk N4
 RJ:aY K mg "comes_ahead" g6 ["one","other"] Nl N5
 RK:aY K mg "number_among" gz ["order","seen"] Nm N6
 RL:aY K mg "seen_strand" g7 ["words","ways","strand"] Nn N7
 RM:aY K mg "taut_order" i0 ["words","ways","band"] Np N8
 G1:aY K mg "taut" Al ["yard","words"] Nq N9
 Mg:aY K mg "least" wo ["yard","words"] Nr N_
 RN:aY K mg "own" Gh ["yard","word"] Nt Oa
 RO:aY K mg "between" oq ["yard","one","other"] Nu Ob
 RP:aY K mg "paper_of" lO ["yard","words"] Nv Oc
 RQ:aY K mg "_law_box" Am ["_law_script","_law_k"] Nw Oe
 ji:aY K mg "_law_take" wq ["_law_box_here","_law_many"] Ny Of
 wA:aY K mg "_law_other" rJ ["_law_letter"] Nz Og
 RS:aY K mg "_law_yard" wu ["_law_box_here","_law_few","_law_top"] NA Oh
 G2:aY K mg "_law_short" rK ["_law_box_here","_law_yard_here","_law_top"] NB Oi
 RT:aY K mg "_law_near" wx ["_law_box_here","_law_yard_here","_law_word","_law_top"] NC Oj
 RU:aY K mg "_law_words" rL ["_law_box_here","_law_yard_here","_law_many","_law_top"] ND Ol
 Mh:aY K mg "_law_by_pairs" lQ ["_law_things"] NF Om
 RV:aY K mg "_law_right" rM ["_law_yard_here","_law_words_here"] NG Oo
 XG:aY K mg "law" Gi ["_law_script"] NH Oq
 Gm:mg "Seen"=some (.ref aQ)
 dN:JB K aQ
 n_Seen_strand:eh K aQ "strand"
 n_Seen_way:eh K aQ "way"
 n_Seen_place:eh K aQ "place"
 J2:mg "Way"=some (.ref aW)
 gP:JB K aW
 n_Way_size:eh K aW "size"
 n_Way_root_size:eh K aW "root_size"
 n_Way_leads:eh K aW "leads"
 n_Way_onward:eh K aW "onward"
 n_Way_backward:eh K aW "backward"
 J3:Mk K aW kQ
 Qu:Ht K "__init__" "Way.__init__" ku kQ yv
 J4:Binds K yv ["self","yard","word","longest"] []
 Gn:Mk K aQ g8
 Mi:Ht K "__init__" "Seen.__init__" ir g8 rN
 Gp:Binds K rN ["self","strand","way","place"] []
 z_enumerate:mg "enumerate"=none
 z_int:mg "int"=none
 z_len:mg "len"=none
 z_list:mg "list"=none
 z_max:mg "max"=none
 z_min:mg "min"=none
 z_range:mg "range"=none
 z_reversed:mg "reversed"=none
 z_sorted:mg "sorted"=none
 z_str:mg "str"=none
 z_tuple:mg "tuple"=none
theorem yx:aE ["letter"] ["letter"] (ar lK):=⟨rfl,rfl,rfl,by decide+kernel,rfl,by decide+kernel,by decide+kernel⟩
theorem C9:aE ["word"] ["word"] (ar rF):=⟨rfl,rfl,rfl,by decide+kernel,rfl,by decide+kernel,by decide+kernel⟩
theorem Gq:aE ["yard"] ["yard"] (ar wm):=⟨rfl,rfl,rfl,by decide+kernel,rfl,by decide+kernel,by decide+kernel⟩
theorem rO:aE ["yard","start","end"] ["yard","start","end"] (ar gY):=⟨rfl,rfl,rfl,by decide+kernel,rfl,by decide+kernel,by decide+kernel⟩
theorem sN:aE ["yard","x","y","z"] ["yard","x","y","z"] (ar iV):=⟨rfl,rfl,rfl,by decide+kernel,rfl,by decide+kernel,by decide+kernel⟩
theorem kR:aE ["yard","drawing","end","order"] ["yard","drawing","end"] (ar iW):=⟨rfl,rfl,rfl,by decide+kernel,rfl,by decide+kernel,by decide+kernel⟩
theorem kx:aE ["yard","drawing","told","end","strand"] ["yard","drawing"] (ar rG):=⟨rfl,rfl,rfl,by decide+kernel,rfl,by decide+kernel,by decide+kernel⟩
theorem iu:aE ["word","cord","place","ahead"] ["word","cord","place"] (ar fO):=⟨rfl,rfl,rfl,by decide+kernel,rfl,by decide+kernel,by decide+kernel⟩
theorem cN:aE ["yard","drawing","numbers","number","point","told","cord","word","place","pair"] ["yard","drawing"] (ar oh):=⟨rfl,rfl,rfl,by decide+kernel,rfl,by decide+kernel,by decide+kernel⟩
theorem fR:aE ["one","other","low","high"] ["one","other"] (ar gs):=⟨rfl,rfl,rfl,by decide+kernel,rfl,by decide+kernel,by decide+kernel⟩
theorem dR:aE ["yard","drawing","told","every","number","one","other"] ["yard","drawing"] (ar lL):=⟨rfl,rfl,rfl,by decide+kernel,rfl,by decide+kernel,by decide+kernel⟩
theorem dJ:aE ["some","starts","corner","first"] ["some"] (ar gu):=⟨rfl,rfl,rfl,by decide+kernel,rfl,by decide+kernel,by decide+kernel⟩
theorem dm:aE ["rising","point","low","high","middle"] ["rising","point"] (ar jW):=⟨rfl,rfl,rfl,by decide+kernel,rfl,by decide+kernel,by decide+kernel⟩
theorem bE:aE ["some","starts","begun","many","point","number"] ["some"] (ar eU):=⟨rfl,rfl,rfl,by decide+kernel,rfl,by decide+kernel,by decide+kernel⟩
theorem cR:aE ["words","band","found","cord","word","place","letter"] ["words","band"] (ar iX):=⟨rfl,rfl,rfl,by decide+kernel,rfl,by decide+kernel,by decide+kernel⟩
theorem rP:aE ["word","place"] ["word","place"] (ar gZ):=⟨rfl,rfl,rfl,by decide+kernel,rfl,by decide+kernel,by decide+kernel⟩
theorem fS:aE ["yard","one","i","other","j","ends","others"] ["yard","one","i","other","j"] (ar gv):=⟨rfl,rfl,rfl,by decide+kernel,rfl,by decide+kernel,by decide+kernel⟩
theorem eG:aE ["one","i","other","j","many"] ["one","i","other","j"] (ar eV):=⟨rfl,rfl,rfl,by decide+kernel,rfl,by decide+kernel,by decide+kernel⟩
theorem cE:aE ["yard","one","i","other","j","many","last","ahead","behind"] ["yard","one","i","other","j"] (ar fP):=⟨rfl,rfl,rfl,by decide+kernel,rfl,by decide+kernel,by decide+kernel⟩
theorem cF:aE ["yard","words","one","other","word","other_word","told","many"] ["yard","words","one","other"] (ar fQ):=⟨rfl,rfl,rfl,by decide+kernel,rfl,by decide+kernel,by decide+kernel⟩
theorem cu:aE ["yard","words","backs","one","other","word","back","many","turn"] ["yard","words","backs","one","other"] (ar eW):=⟨rfl,rfl,rfl,by decide+kernel,rfl,by decide+kernel,by decide+kernel⟩
theorem m_:aE ["yard","words","backs","one","other","told"] ["yard","words","backs","one","other"] (ar jX):=⟨rfl,rfl,rfl,by decide+kernel,rfl,by decide+kernel,by decide+kernel⟩
theorem dG:aE ["words","told","cord","word","place"] ["words"] (ar iY):=⟨rfl,rfl,rfl,by decide+kernel,rfl,by decide+kernel,by decide+kernel⟩
theorem gj:aE ["yard","words","told","backs","every","one","other"] ["yard","words"] (ar rH):=⟨rfl,rfl,rfl,by decide+kernel,rfl,by decide+kernel,by decide+kernel⟩
theorem i3:aE ["word","kept","letter"] ["word"] (ar jY):=⟨rfl,rfl,rfl,by decide+kernel,rfl,by decide+kernel,by decide+kernel⟩
theorem dS:aE ["word","left","start","end"] ["word"] (ar lN):=⟨rfl,rfl,rfl,by decide+kernel,rfl,by decide+kernel,by decide+kernel⟩
theorem ky:aE ["word","whole","least","start","begun"] ["word"] (ar Aj):=⟨rfl,rfl,rfl,by decide+kernel,rfl,by decide+kernel,by decide+kernel⟩
theorem qh:aE ["word","whole","size","times"] ["word"] (ar Ak):=⟨rfl,rfl,rfl,by decide+kernel,rfl,by decide+kernel,by decide+kernel⟩
theorem je:aE ["yard","word","place","ends"] ["yard","word","place"] (ar gw):=⟨rfl,rfl,rfl,by decide+kernel,rfl,by decide+kernel,by decide+kernel⟩
theorem jZ:aE ["seen","start","end","first"] ["seen","start","end"] (ar g5):=⟨rfl,rfl,rfl,by decide+kernel,rfl,by decide+kernel,by decide+kernel⟩
theorem kS:aE ["seen","start","end","first"] ["seen","start","end"] (ar iZ):=⟨rfl,rfl,rfl,by decide+kernel,rfl,by decide+kernel,by decide+kernel⟩
theorem dP:aE ["steps","one","other","enough","many","size"] ["steps","one","other","enough"] (ar oj):=⟨rfl,rfl,rfl,by decide+kernel,rfl,by decide+kernel,by decide+kernel⟩
theorem lR:aE ["seen","way","cord"] ["seen"] (ar om):=⟨rfl,rfl,rfl,by decide+kernel,rfl,by decide+kernel,by decide+kernel⟩
theorem eI:aE ["one","other","enough","ahead","back"] ["one","other"] (ar g6):=⟨rfl,rfl,rfl,by decide+kernel,rfl,by decide+kernel,by decide+kernel⟩
theorem cb:aE ["order","seen","low","high","middle"] ["order","seen"] (ar gz):=⟨rfl,rfl,rfl,by decide+kernel,rfl,by decide+kernel,by decide+kernel⟩
theorem gA:aE ["words","ways","strand","word","place"] ["words","ways","strand"] (ar g7):=⟨rfl,rfl,rfl,by decide+kernel,rfl,by decide+kernel,by decide+kernel⟩
theorem eZ:aE ["words","ways","band","order","strand","seen"] ["words","ways","band"] (ar i0):=⟨rfl,rfl,rfl,by decide+kernel,rfl,by decide+kernel,by decide+kernel⟩
theorem wB:aE ["yard","words","longest","ways"] ["yard","words"] (ar Al):=⟨rfl,rfl,rfl,by decide+kernel,rfl,by decide+kernel,by decide+kernel⟩
theorem Gr:aE ["yard","words"] ["yard","words"] (ar wo):=⟨rfl,rfl,rfl,by decide+kernel,rfl,by decide+kernel,by decide+kernel⟩
theorem Mj:aE ["yard","word"] ["yard","word"] (ar Gh):=⟨rfl,rfl,rfl,by decide+kernel,rfl,by decide+kernel,by decide+kernel⟩
theorem i4:aE ["yard","one","other","every","ones","others"] ["yard","one","other"] (ar oq):=⟨rfl,rfl,rfl,by decide+kernel,rfl,by decide+kernel,by decide+kernel⟩
theorem yy:aE ["yard","words"] ["yard","words"] (ar lO):=⟨rfl,rfl,rfl,by decide+kernel,rfl,by decide+kernel,by decide+kernel⟩
theorem nc:aE ["_law_script","_law_k","_law_cell","_law_seed"] ["_law_script","_law_k"] (ar Am):=⟨rfl,rfl,rfl,by decide+kernel,rfl,by decide+kernel,by decide+kernel⟩
theorem rQ:aE ["_law_box_here","_law_many","_law_digit","_law_one"] ["_law_box_here","_law_many"] (ar wq):=⟨rfl,rfl,rfl,by decide+kernel,rfl,by decide+kernel,by decide+kernel⟩
theorem ou:aE ["_law_letter","_law_small","_law_capital"] ["_law_letter"] (ar rJ):=⟨rfl,rfl,rfl,by decide+kernel,rfl,by decide+kernel,by decide+kernel⟩
theorem fF:aE ["_law_box_here","_law_few","_law_top","_law_left","_law_ends","_law_k","_law_letter","_law_found"] ["_law_box_here","_law_few","_law_top"] (ar wu):=⟨rfl,rfl,rfl,by decide+kernel,rfl,by decide+kernel,by decide+kernel⟩
theorem cS:aE ["_law_box_here","_law_yard_here","_law_top","_law_many","_law_form","_law_word","_law_letter"] ["_law_box_here","_law_yard_here","_law_top"] (ar rK):=⟨rfl,rfl,rfl,by decide+kernel,rfl,by decide+kernel,by decide+kernel⟩
theorem j4:aE ["_law_box_here","_law_yard_here","_law_word","_law_top","_law_form","_law_at","_law_letter","_law_some"] ["_law_box_here","_law_yard_here","_law_word","_law_top"] (ar wx):=⟨rfl,rfl,rfl,by decide+kernel,rfl,by decide+kernel,by decide+kernel⟩
theorem kz:aE ["_law_box_here","_law_yard_here","_law_many","_law_top","_law_found","_law_k","_law_one"] ["_law_box_here","_law_yard_here","_law_many","_law_top"] (ar rL):=⟨rfl,rfl,rfl,by decide+kernel,rfl,by decide+kernel,by decide+kernel⟩
theorem gQ:aE ["_law_things","_law_found","_law_thing","_law_pair"] ["_law_things"] (ar lQ):=⟨rfl,rfl,rfl,by decide+kernel,rfl,by decide+kernel,by decide+kernel⟩
theorem b5:aE ["_law_yard_here","_law_words_here","_law_drawing","_law_things","_law_drawn","_law_must","_law_total","_law_c","_law_d","_law_more","_law_many"] ["_law_yard_here","_law_words_here"] (ar rM):=⟨rfl,rfl,rfl,by decide+kernel,rfl,by decide+kernel,by decide+kernel⟩
theorem wC:aE ["_law_script","_law_k","_law_box_here","_law_yard_here"] ["_law_script"] (ar Gi):=⟨rfl,rfl,rfl,by decide+kernel,rfl,by decide+kernel,by decide+kernel⟩
theorem rR:aE ["self","yard","word","longest","steps","rounds"] ["self","yard","word","longest"] (ar ku):=⟨rfl,rfl,rfl,by decide+kernel,rfl,by decide+kernel,by decide+kernel⟩
theorem C_:aE ["self","strand","way","place"] ["self","strand","way","place"] (ar ir):=⟨rfl,rfl,rfl,by decide+kernel,rfl,by decide+kernel,by decide+kernel⟩
section
variable {P:Program} {w:World} {K:PySem.W.Frag} {mg:Str->Option Value} {base:Heap} {f0 f1 f2 f3 f4 f5 f6 f7 f8 f9 MY MZ M0 M1 M3 M4 M5 M6 M7 M8 M9 M_ Na Nb Nd Nf Ng Nh Ni Gj Gk Nj Nk Nl Nm Nn Np Nq Nr Nt Nu Nv Nw Ny Nz NA NB NC ND NF NG NH aQ aW kQ g8:Addr} {d0 d1 d2 d3 d4 d5 d6 d7 d8 d9 NI NJ NK NL NM NN NO NP NQ NR NS NT NU NV NW NX NY NZ N0 N1 N2 N3 N4 N5 N6 N7 N8 N9 N_ Oa Ob Oc Oe Of Og Oh Oi Oj Ol Om Oo Oq yv rN:FuncData}
variable (T:Txt K mg f0 f1 f2 f3 f4 f5 f6 f7 f8 f9 MY MZ M0 M1 M3 M4 M5 M6 M7 M8 M9 M_ Na Nb Nd Nf Ng Nh Ni Gj Gk Nj Nk Nl Nm Nn Np Nq Nr Nt Nu Nv Nw Ny Nz NA NB NC ND NF NG NH aQ aW kQ g8 d0 d1 d2 d3 d4 d5 d6 d7 d8 d9 NI NJ NK NL NM NN NO NP NQ NR NS NT NU NV NW NX NY NZ N0 N1 N2 N3 N4 N5 N6 N7 N8 N9 N_ Oa Ob Oc Oe Of Og Oh Oi Oj Ol Om Oo Oq yv rN)
include T
theorem dU:bp P w K mg base dY 1 f0 d0 ["letter"] (oN K):=by
 refine T.F0.fn.ok yx (fun vs H Q E h=>vn h) (fun cx A outer s H vs Q E hr h=>?_)
 refine ⟨_,(ae (bI (iF (eY K rfl ZI Qcw Qcu k_ (pv 0))) (ai (aF (eY K rfl ZI PySem.F.slot_str_upper PySem.F.type_str_upper DV (pv 0)))) a_)
   (ai (aF (eY K rfl ZI Qc5 Qc3 qB (pv 0))))),?_⟩
 obtain ⟨c,rfl,hc,q⟩:=h
 refine ⟨_,rfl,rfl,c,rfl,rfl,hc,_,rfl,bz (fun e=>?_) (fun e=>?_)⟩
 ·refine ⟨_,rfl,rfl,c,rfl,rfl,hc,?_⟩
  have z:aI c=PyProof.Rows.up1 c:=if_pos e
  rw[<-z]
  exact q
 ·refine ⟨_,rfl,rfl,c,rfl,rfl,hc,?_⟩
  have z:aI c=PyProof.Rows.lo1 c:=if_neg e
  rw[<-z]
  exact q
theorem ow:bp P w K mg base dY 2 f1 d1 ["word"] (tV K):=by
 have bL:=dU (P:=P) (w:=w) (base:=base) T
 refine T.F1.fn.ok C9 (fun vs H Q E h=>zF h) (fun cx A outer s H vs Q E hr h=>?_)
 refine ⟨_,(ai (aF (bG K rfl ZI Qbk Qbj (jx K rfl) (kZ [] (by decide+kernel)) (aa (fi ["letter"] [none] (D4 rfl T.z_reversed (aa (pv 0) ab)) trivial (fun _ _ _ _=>(aP (i:=0) (by decide+kernel:List.Nodup (["letter"]:List Str)) rfl (Or.inl rfl))) (fun _ _ _ _=>ju) (fun _ _ _ _=>(aj bL (hr.mono (by decide)) rfl T.F0.mg T.F0.fn.kp T.F0.bd .nil aB (aa (pv 0) ab)))) ab)))),?_⟩
 obtain ⟨l,rfl,hc,hz,q⟩:=h
 have hs:(1000:Nat)<sizeLine:=by decide
 refine ⟨rfl,_,rfl,l,rfl,by omega,?_⟩
 rw[AY]
 refine mi (xs:=dX l.reverse) (fun i acc H'=>ak H H'/\acc=dX ((l.reverse.take i).map aI)) (by rw[bf,ZX];omega) ⟨ak.refl H,rfl⟩ ?_ ?_
 ·rintro i x acc H1 Nx hi hx hl ⟨s1,rfl⟩ nx
  obtain ⟨c,si,rfl⟩:=j_ hx
  refine ⟨trivial,gH ⟨_,rfl,c,rfl,hc c (Qcz.mp (Y4 si)),nx _ _ (by simpa using hl) ⟨s1,?_⟩⟩⟩
  rw[ft, <-take_snoc si,WQ]
  rfl
 ·rintro acc H1 D hl ⟨s1,rfl⟩ hD
  refine ⟨D,(eK l).map fun c=>[c],rfl,rfl,bu.of ?_,?_,?_⟩
  ·rw[ag, <-hV,bf,ZM (Ri _),Qbs]
   rfl
  ·rw[Cy]
   unfold eK
   rw[ZX,MO]
   omega
  ·rw[tW]
   exact q _ (s1.trans (ak.upd hD))
theorem yA:bp P w K mg base dY 1 f2 d2 ["yard"] (xS K):=by
 refine T.F2.fn.ok Gq (fun vs H Q E h=>CI h) (fun cx A outer s H vs Q E hr h=>?_)
 refine ⟨_,(ai (aF (bG K rfl ZI Qbk Qbj (jx K rfl) (kZ [] (by decide+kernel)) (aa (aC (vb K rfl) rfl T.z_sorted boot_sorted (aa (fi ["letter"] [none] (u5 (pv 0)) trivial (fun _ _ _ _=>(aP (i:=0) (by decide+kernel:List.Nodup (["letter"]:List Str)) rfl (Or.inl rfl))) (fun _ _ _ _=>(K6 (iF (eY K rfl ZI Qcw Qcu k_ (pv 0))))) (fun _ _ _ _=>(pv 0))) ab)) ab)))),?_⟩
 obtain ⟨l,rfl,hl,hz,q⟩:=h
 have hs:(1000:Nat)<sizeLine:=by decide
 refine ⟨rfl,_,rfl,l,rfl,?_⟩
 refine mi (xs:=dX l) (fun i acc H'=>ak H H'/\acc=dX ((l.take i).filter aD)) (by rw[bf];omega) ⟨ak.refl H,rfl⟩ ?_ ?_
 ·rintro i x acc H1 Nx hi hx Jc ⟨s1,rfl⟩ nx
  obtain ⟨c,hc,rfl⟩:=j_ hx
  have e:=xT (p:=aD) hc
  refine ⟨trivial,?_⟩
  refine ⟨_,rfl,rfl,c,rfl,rfl,hl c (Y4 hc),_,rfl,?_⟩
  refine bz (fun z=>?_) (fun z=>?_)
  ·rw[if_pos z]at e
   exact ⟨_,rfl,nx _ _ (by simpa using Jc) ⟨s1,by rw[e, <-ft]⟩⟩
  ·rw[if_neg z,ZV]at e
   exact nx _ _ (Nat.le_succ_of_le Jc) ⟨s1,by rw[e]⟩
 ·rintro acc H1 D Jc ⟨s1,rfl⟩ hD
  rw[xN,hV]
  have TR:(l.filter aD).length<=l.length:=Qb9 _ _
  refine ⟨D,(l.filter aD).map fun c=>[c],rfl,bu.of ag,by rw[MO];omega,fun p ls hp wD Qv=>?_⟩
  obtain ⟨l',rfl,pl⟩:=HH wD
  have Ay:=pl.length_eq
  refine ⟨p,l'.map fun c=>[c],rfl,rfl,bu.of ag,by rw[Cy];omega,?_⟩
  rw[tW]
  exact q l' _ pl (HI Qv) ((s1.trans (ak.upd hD)).trans (ak.upd hp))
theorem sO:bp P w K mg base dY 1 M3 NM ["words","band"] (kO K):=by
 refine T.Ry.fn.ok cR (fun vs H Q E h=>rq h) (fun cx A outer s H vs Q E hr h=>?_)
 refine ⟨_,(ae (ao (i:=2) cR.nd rfl (Or.inl rfl) (cJ ab))
   (ae (bS PassesOwn.never rfl (qJ K rfl rfl T.z_enumerate (aa (pv 0) ab)) (iL (n:=2) K rfl rfl (cj (aP (i:=3) cR.nd rfl (Or.inl rfl)) (cj (aP (i:=4) cR.nd rfl (Or.inl rfl)) iH))) (ai (bS PassesOwn.never rfl (Eb rfl T.z_enumerate (aa (pv 4) ab)) (iL (n:=2) K rfl rfl (cj (aP (i:=5) cR.nd rfl (Or.inl rfl)) (cj (aP (i:=6) cR.nd rfl (Or.inl rfl)) iH))) (ai (bI (aH gS (eY K rfl ZI Qc5 Qc3 qB (pv 6)) (pv 1) (aM _)) (ai (b7 (bG K rfl ZD Z2 Z1 cy (pv 2) (aa (bP (aa (pv 3) (aa (pv 5) ab))) ab)))) a_)))))
   (ai (aF (pv 2))))),?_⟩
 obtain ⟨wt,ws,band,rfl,qj,hf,hw,hb,q⟩:=h
 have hs:(100000:Nat)<sizeLine:=by decide
 walk_at "wk"
 intro p1 n1
 refine ⟨_,rfl,wt,rfl,⟨_,aX.of ((ak.upd n1) _ _ qj)⟩,?_⟩
 refine nN (K:=K) (a:=wt) (xs:=iN ws) (fun j σ H'=> ∃(ps:List Pr) (cv wv pv lv:Option V),σ=[some (.ref wt),some (.str (S [band])),some (.ref p1),cv,wv,pv,lv]/\H' p1=some (.lst (uo ps))/\(∀p∈ps,pF H' p)/\ps.map Pr.pair=c_ band ws j/\ps.length<=12*j/\ak H H')
  ⟨[],none,none,none,none,rfl,ag,fun _ h=>absurd h Zu,rfl,WT _,ak.upd n1⟩ (fun j σ H' _ ⟨_,_,_,_,_,_,_,_,_,_,h⟩=>aX.of (h _ _ qj)) ?_ ?_
 ·rintro j x σ H1 T hx ⟨ps,cv,wv,pv,lv,rfl,hp,sP,lS,j9,s1⟩ nT
  have hj:j<ws.length:=by
   have:=(K4.mp hx).1
   rwa [bH]at this
  rw[iO hj]at hx
  cases hx
  have Ml:ws[j]? =some ws[j]:=K3 hj
  obtain ⟨zg,pK⟩:=hw _ (ZT hj)
  generalize ws[j]=w at Ml zg pK ⊢
  refine ⟨T,_,rfl,aX.of ag,rfl,_,_,rfl,_,_,rfl,rfl,?_⟩
  have sT:=ak.upd (o:= .tup [.int j, .str (S w)]) nT
  refine ⟨_,rfl,w,rfl,?_⟩
  refine Ec (l:=w) (fun m σ H'=> ∃(us:List Pr) (pv lv:Option V),σ=[some (.ref wt),some (.str (S [band])),some (.ref p1),some (.int j),some (.str (S w)),pv,lv]/\H' p1=some (.lst (uo us))/\(∀p∈us,pF H' p)/\us.map Pr.pair=c_ band ws j++i_ band j w m/\us.length<=12*j+m/\ak H H')
   ⟨ps,pv,lv,rfl,sT _ _ hp,fun p zP=>(sP p zP).same sT,by rw[lS];show _=_++[];rw[ZV],by omega,s1.trans sT⟩ ?_ ?_
  ·rintro m l σ H2 T2 hm ⟨us,TU,XH,rfl,jj,sC,qk,BN,s2⟩ XI
   have Za:m<w.length:=(K4.mp hm).1
   have TV:=zg l (Y4 hm)
   have es:=z4 (band:=band) (c:=j) hm
   have RW:=ak.upd (o:= .tup [.int m, .str (S [l])]) XI
   refine ⟨T2,_,rfl,aX.of ag,rfl,_,_,rfl,_,_,rfl,rfl,?_⟩
   refine ⟨_,rfl,rfl,l,rfl,rfl,TV.lt,_,rfl,[PyProof.Rows.lo1 l],[band],rfl,rfl,_,rfl,?_⟩
   have ev:decide ([PyProof.Rows.lo1 l]=[band])=zZ band l:=by rw[<-Fo hb TV];simp
   rw[ev]
   have Mm:=RW _ _ jj
   refine bz (fun z=>?_) (fun z=>?_)
   ·rw[if_pos z]at es
    refine ⟨_,rfl, .inl ⟨rfl,_,bu.of Mm⟩,_,rfl,_,rfl,by show 2<=sizeLine;decide,fun t nt=>?_⟩
    have rS:=(ak.upd (o:= .tup [.int j, .int m]) nt) _ _ Mm
    have s3:=RW.trans (ak.upd (o:= .tup [.int j, .int m]) nt)
    refine ⟨p1,_,_,rfl,rfl,rS,by rw[vS];omega,?_⟩
    refine ⟨us++[⟨t,j,m⟩],_,_,rfl,by rw[ag];exact congrArg (fun x=>some (HO.lst x)) (Fh us ⟨t,j,m⟩),fun p zP=>?_,by rw[WQ,qk,es,Qak];rfl,by rw[U5];show us.length+1<=_;omega,fun a o ea=>by rw[au (aq ea n1)];exact s3 _ _ (s2 a o ea)⟩
    rcases Zx.mp zP with g | g
    ·exact ((sC p g).same s3).ts (ba.xu rS)
    ·have e2:=U7.mp g
     subst e2
     exact pF.ts (H:=upd (upd H2 T2 (.tup [.int m, .str (S [l])])) t (.tup [.int j, .int m])) ⟨ag,by show j<1000;omega,by show m<1000;omega⟩ (ba.xu rS)
   ·rw[if_neg z,ZV]at es
    exact ⟨us,_,_,rfl,Mm,fun p zP=>(sC p zP).same RW,by rw[qk,es],by omega,s2.trans RW⟩
  ·rintro σ H2 ⟨us,TU,XH,rfl,jj,sC,qk,BN,s2⟩
   exact ⟨us,_,_,_,_,rfl,jj,sC,by rw[qk,x_ Ml],by omega,s2⟩
 ·rintro σ H1 ⟨ps,cv,wv,pv,lv,rfl,hp,sP,lS,j9,s1⟩
  rw[bH]at lS
  exact ⟨_,rfl,q p1 ps H1 n1 hp sP lS s1⟩
theorem Dc:bp P w K mg base dY 1 g8 rN ["self","strand","way","place"] (uA K aQ):=by
 refine T.Mi.ok C_ (fun vs H Q E h=>z_ h) (fun cx A outer s H vs Q E hr h=>?_)
 refine ⟨_,(ae (jr (pv 0) (pv 1) rfl)
   (ae (jr (pv 0) (pv 2) rfl)
   (ai (jr (pv 0) (pv 3) rfl)))),?_⟩
 obtain ⟨x,dx,t,w',p,rfl,hx,q⟩:=h
 refine ⟨_,rfl,_,rfl,x,aQ,dx,_,rfl,hx,T.dN,T.n_Seen_strand,by show 0<1000;decide,?_⟩
 refine ⟨_,rfl,_,rfl,x,aQ,dx,_,rfl,ag,T.dN,T.n_Seen_way,ZW (da _ _ _) (by show 0+1<1000;decide),?_⟩
 refine ⟨_,rfl,_,rfl,x,aQ,dx,_,rfl,ag,T.dN,T.n_Seen_place,ZW (da _ _ _) (ZW (Qa2 (da _ _ _)) (by show 0+1+1<1000;decide)),?_⟩
 exact q _ ag fun b o e z=>by rw[au z,au z,au z];exact e
theorem rT:bp P w K mg base dY 3 Nn N7 ["words","ways","strand"] (jT K aW aQ):=by
 have yB:=Dc (P:=P) (w:=w) (base:=base) T
 refine T.RL.fn.ok gA (fun vs H Q E h=>pJ h) (fun cx A outer s H vs Q E hr h=>?_)
 refine ⟨_,(ae (ao (i:=3) gA.nd rfl (Or.inl rfl) (aA (az K rfl) (pv 0) (aA (az K rfl) (pv 2) ah (fun _ _=>rfl)) (fun _ _=>rfl)))
   (ae (ao (i:=4) gA.nd rfl (Or.inl rfl) (aA (az K rfl) (pv 2) ah (fun _ _=>rfl)))
   (ae (bI (iF (eY K rfl ZI Qcw Qcu k_ (aA dW (pv 3) (pv 4) (fun _ _=>rfl)))) (ai (aF (pX T.Gn yB (hr.mono (by decide)) rfl T.Gm T.Gp .nil aB (aa (pv 2) (aa (aA (az K rfl) (aA (b6 K rfl) (pv 1) (aA (az K rfl) (pv 2) ah (fun _ _=>rfl)) (fun _ _=>rfl)) ah (fun _ _=>rfl)) (aa (pv 4) ab)))))) a_)
   (ai (aF (pX T.Gn yB (hr.mono (by decide)) rfl T.Gm T.Gp .nil aB (aa (pv 2) (aa (aA (az K rfl) (aA (b6 K rfl) (pv 1) (aA (az K rfl) (pv 2) ah (fun _ _=>rfl)) (fun _ _=>rfl)) ah (fun _ _=>rfl)) (aa (ay bJ (ay bJ (aC aK rfl T.z_len Y3 (aa (pv 3) ab)) ah) (pv 4)) ab))))))))),?_⟩
 obtain ⟨y,lg,wt,vt,st,w',ws,nA,p,c,i,rfl,hy,qj,RX,oG,hw,hp,ok,hi,q⟩:=h
 have hs:(100000:Nat)<sizeLine:=by decide
 have pK:=ok.on.uz
 have VB:=ok.on.lz
 have GO:=ok.on.sw
 have h8:(rd w' i)<128:=(hy.lt _ (GO.rd _)).lt
 have hc:(iN ws)[c]? =some (V.str (S w')):=by
  have hl:=(K4.mp hw).1
  rw[iO hl,(K4.mp hw).2]
 refine ⟨_,rfl,_,rfl,st,_,0,_,rfl,rfl,aX.of oG,rfl,wt,_,_,_,rfl,rfl,aX.of qj,bC hc,?_⟩
 refine ⟨_,rfl,st,_,1,_,rfl,rfl,aX.of oG,rfl,?_⟩
 refine ⟨_,rfl,_,rfl,w',_,_,rfl,rfl,by omega,by rw[fz (by omega) (by omega)],?_⟩
 have made: ∀(x dx:Addr) (H':Hp) (t w2:Addr) (pl:Nat),H x=none->H dx=none->dx≠x->aR x (L2.upd (L2.upd H dx (.own x)) x (.ins aQ dx [])) H'->ak H H':=fun x dx H' t w2 pl nx L_ ne sm a o e=>by
  refine sm a o ?_ (aq e nx)
  rw[au (aq e nx),au (aq e L_)]
  exact e
 refine ⟨rfl,_,rfl,rfl,h8,?_⟩
 walk_at "rd"
 refine bz (fun z=>?_) (fun z=>?_)
 ·refine ⟨_,rfl,_,rfl,_,rfl,st,_,0,_,rfl,rfl,aX.of oG,rfl,vt,_,_,_,rfl,rfl,bu.of RX,bC (FT hp),p.t,_,0,_,rfl,rfl,aX.of ok.tp,rfl,_,rfl,fun x dx nx L_ ne=>⟨x,dx,st,p.a,i,rfl,ag,fun H' hx sm=>⟨rfl,?_⟩⟩⟩
  have Mn:=made x dx H' st p.a i nx L_ ne sm
  exact q ⟨x,st,p.a,c,i,w',i,p.r⟩ H' ⟨rfl,rfl,by rw[if_pos z],by rw[if_pos z]⟩ rfl ⟨⟨dx,hx⟩,Mn _ _ oG,ok.on.same Mn,hi⟩ nx Mn
 ·have ei:(w'.length:Int) - 1 - i=((w'.length - 1 - i:Nat):Int):=by omega
  refine ⟨_,rfl,_,rfl,_,rfl,st,_,0,_,rfl,rfl,aX.of oG,rfl,vt,_,_,_,rfl,rfl,bu.of RX,bC (FT hp),p.t,_,1,_,rfl,rfl,aX.of ok.tp,rfl,_,rfl,w',rfl,by omega,_,_,rfl,rfl,_,rfl,_,_,rfl,rfl,fun x dx nx L_ ne=>⟨x,dx,st,p.b,w'.length - 1 - i,by rw[<-ei];rfl,ag,fun H' hx sm=>⟨rfl,?_⟩⟩⟩
  have Mn:=made x dx H' st p.b 0 nx L_ ne sm
  exact q ⟨x,st,p.b,c,i,eK w',w'.length - 1 - i,p.q⟩ H' ⟨rfl,rfl,by rw[if_neg z],by rw[if_neg z]⟩ rfl ⟨⟨dx,hx⟩,Mn _ _ oG,ok.bk.same Mn,by show w'.length - 1 - i<(eK w').length;rw[cn];omega⟩ nx Mn
theorem j5:bp P w K mg base dY 1 Gj N1 ["seen","start","end"] (gq K aW aQ):=by
 refine T.yS.fn.ok jZ (fun vs H Q E h=>pG h) (fun cx A outer s H vs Q E hr h=>?_)
 refine ⟨_,(ae (ao (i:=3) jZ.nd rfl (Or.inl rfl) (ay aU (bN K rfl (pv 0) rfl) ah))
   (ai (aF (bV o8 (bN K rfl (bN K rfl (pv 0) rfl) rfl) (bM (ay aU (pv 3) (pv 1))) (bM (ay aU (pv 3) (pv 2))))))),?_⟩
 obtain ⟨y,lg,s,x,z,rfl,hz,hs,TX,q⟩:=h
 obtain ⟨d1,e1⟩:=hs.ob
 obtain ⟨d2,e2⟩:=hs.wy.ob
 have:=hs.wy.uz
 have:=hs.wy.lz
 have h1:1<=s.u.length:=ZW (WT _) hs.pz
 have rl:=mZ (lg:=lg) h1
 have Qw:(100000:Nat)<sizeLine:=by decide
 refine ⟨_,rfl,s.a,aQ,d1,_,_,rfl,e1,T.dN,T.n_Seen_place,mY,?_⟩
 walk_at "rd"
 refine ⟨s.a,aQ,d1,_,_,rfl,e1,T.dN,T.n_Seen_way,n6,s.wy,aW,d2,_,_,rfl,e2,T.gP,T.n_Way_onward,Qo,?_⟩
 walk_at "rd"
 refine ⟨by rw[uC,dk];omega,?_⟩
 rw[show (s.p:Int)+1=((s.p+1:Nat):Int) by omega,Bz TX]
 exact q
theorem kT:bp P w K mg base dY 1 Gk N2 ["seen","start","end"] (gX K aW aQ):=by
 refine T.yT.fn.ok kS (fun vs H Q E h=>rj h) (fun cx A outer s H vs Q E hr h=>?_)
 refine ⟨_,(ae (ao (i:=3) kS.nd rfl (Or.inl rfl) (ay bJ (ay bJ (bN K rfl (bN K rfl (pv 0) rfl) rfl) ah) (bN K rfl (pv 0) rfl)))
   (ai (aF (bV o8 (bN K rfl (bN K rfl (pv 0) rfl) rfl) (bM (ay aU (pv 3) (pv 1))) (bM (ay aU (pv 3) (pv 2))))))),?_⟩
 obtain ⟨y,lg,s,x,z,rfl,hz,hs,TX,q⟩:=h
 obtain ⟨d1,e1⟩:=hs.ob
 obtain ⟨d2,e2⟩:=hs.wy.ob
 have:=hs.wy.uz
 have:=hs.wy.lz
 have hp:=hs.pz
 have h1:1<=s.u.length:=ZW (WT _) hs.pz
 have rl:=mZ (lg:=lg) h1
 have Qw:(100000:Nat)<sizeLine:=by decide
 refine ⟨_,rfl,s.a,aQ,d1,_,_,rfl,e1,T.dN,T.n_Seen_way,n6,s.wy,aW,d2,_,_,rfl,e2,T.gP,T.n_Way_size,By,?_⟩
 walk_at "rd"
 refine ⟨s.a,aQ,d1,_,_,rfl,e1,T.dN,T.n_Seen_place,mY,?_⟩
 walk_at "rd"
 refine ⟨s.a,aQ,d1,_,_,rfl,e1,T.dN,T.n_Seen_way,n6,s.wy,aW,d2,_,_,rfl,e2,T.gP,T.n_Way_backward,IK,?_⟩
 walk_at "rd"
 refine ⟨by rw[uC,ZX,dk];omega,?_⟩
 rw[show (s.u.length:Int) - 1 - s.p=((s.u.length - 1 - s.p:Nat):Int) by omega,Bz TX]
 exact q
theorem An:bp P w K mg base dY 2 Nj N3 ["steps","one","other","enough"] (rk K aW aQ Gj Gk):=by
 have cw:=j5 (P:=P) (w:=w) (base:=base) T
 have cO:=kT (P:=P) (w:=w) (base:=base) T
 refine T.Me.fn.ok dP (fun vs H Q E h=>ym h) (fun cx A outer s H vs Q E hr h=>?_)
 refine ⟨_,(ae (ao (i:=4) dP.nd rfl (Or.inl rfl) ah)
   (ae (ao (i:=5) dP.nd rfl (Or.inl rfl) ah)
   (gF (dh PassesOwn.never (PW.pt (jm (aH i5 (pv 4) (pv 3) (aM _)) (iG (aH gS (mm (pv 0) cw (hr.mono (by decide)) T.yS.fn.kp T.yS.bd cO (hr.mono (by decide)) T.yT.fn.kp T.yT.bd aB (aa (pv 1) (aa (pv 4) (aa (ay aU (pv 4) (pv 5)) ab)))) (mm (pv 0) cw (hr.mono (by decide)) T.yS.fn.kp T.yS.bd cO (hr.mono (by decide)) T.yT.fn.kp T.yT.bd aB (aa (pv 2) (aa (pv 4) (aa (ay aU (pv 4) (pv 5)) ab)))) (aM _))))) (ae (jo (i:=4) dP.nd rfl (Or.inl rfl) (pv 5) qq)
   (ai (jo (i:=5) dP.nd rfl (Or.inl rfl) ah Lv))))
   (gF (dh PassesOwn.never (aH qu (pv 5) ah (aM _)) (ae (jo (i:=5) dP.nd rfl (Or.inl rfl) ah HR)
   (ai (bI (aH gS (mm (pv 0) cw (hr.mono (by decide)) T.yS.fn.kp T.yS.bd cO (hr.mono (by decide)) T.yT.fn.kp T.yT.bd aB (aa (pv 1) (aa (pv 4) (aa (ay aU (pv 4) (pv 5)) ab)))) (mm (pv 0) cw (hr.mono (by decide)) T.yS.fn.kp T.yS.bd cO (hr.mono (by decide)) T.yT.fn.kp T.yT.bd aB (aa (pv 2) (aa (pv 4) (aa (ay aU (pv 4) (pv 5)) ab)))) (aM _)) (ai (jo (i:=4) dP.nd rfl (Or.inl rfl) (pv 5) qq)) a_))))
   (ai (aF (pv 4))))))),?_⟩
 obtain ⟨y,lg,s1,t1,b,en,rfl,hz,hs,ht,Zb,q⟩:=h
 have call: ∀(u:Sn) (x d:Nat) (t:TA) (σ:L2.St) (Q':VK),σ[0]? =some (some (V.ref (if b=true then Gj else Gk)))->jP H aW aQ y lg u->(∀R:List V->Hp->Prop,R [V.ref u.a,V.int x,V.int ((x:Int)+d)] H->t σ H R)->Q' (V.str (S (seg (L7 b y lg u) x (x+d)))) H->El Gj Gk (gq K aW aQ) (gX K aW aQ) E0 (Ko 0) t σ H Q':=by
  intro u x d t σ Q' h0 hu VC hq
  refine ⟨_,h0,?_⟩
  cases b
  ·exact .inr ⟨rfl,VC _ ⟨y,lg,u,x,x+d,by rw[ZZ],hz,hu,by omega,hq⟩⟩
  ·exact .inl ⟨rfl,VC _ ⟨y,lg,u,x,x+d,by rw[ZZ],hz,hu,by omega,hq⟩⟩
 generalize (if b=true then Gj else Gk)=fx at call ⊢
 generalize el:L7 b y lg s1=l at q
 generalize em:L7 b y lg t1=m at q
 walk_at "rd"
 refine ⟨fun σ H'=> ∃(mn sz e:Nat),σ=[some (.ref fx),some (.ref s1.a),some (.ref t1.a),some (.int en),some (.int mn),some (.int sz)]/\H'=H/\sz=2 ^ e/\sz<=1000000/\mn<=1000000/\jQ l m mn/\(en<=mn\/ ∃k,mn<=k/\k<mn+sz/\l[k]?≠ m[k]?),?_,?_⟩
 ·refine ⟨fun w σ H'=> ∃(mn sz e:Nat),σ=[some (.ref fx),some (.ref s1.a),some (.ref t1.a),some (.int en),some (.int mn),some (.int sz)]/\H'=H/\w=en - mn/\sz=2 ^ e/\mn+1=sz/\mn<=2*en/\jQ l m mn,⟨_,0,1,0,rfl,rfl,rfl,rfl,rfl,WT _,fun k hk=>absurd hk (Qbh _)⟩,?_⟩
  rintro w' σ H2 ⟨mn,sz,e,rfl,rfl,rfl,he,Zc,Rt,ha⟩
  walk_at "rd"
  refine bz (fun z=>?_) (fun z=>?_)
  ·have z1:(mn:Int)<en:=of_decide_eq_true z
   refine call s1 mn sz _ _ _ rfl hs (fun R hR=>⟨_,rfl,_,rfl,_,rfl,_,rfl,_,_,rfl,rfl,hR⟩) ?_
   refine call t1 mn sz _ _ _ rfl ht (fun R hR=>⟨_,rfl,_,rfl,_,rfl,_,rfl,_,_,rfl,rfl,hR⟩) ?_
   rw[el,em]
   walk_at "rd"
   refine bz (fun y1=>?_) (fun y1=>?_)
   ·have y2:seg l mn (mn+sz)=seg m mn (mn+sz):=by simpa using of_decide_eq_true y1
    refine ⟨_,rfl,_,rfl,_,_,rfl,rfl,_,rfl,_,_,rfl,rfl, .inl ⟨by omega,by omega⟩,?_⟩
    refine ⟨en - (mn+sz),by omega,mn+sz,sz*2,e+1,by rw[ZZ,Qed];rfl,rfl,rfl,by rw[he,Nat.pow_succ],by omega,by omega,ha.more y2⟩
   ·have y2:seg l mn (mn+sz)≠seg m mn (mn+sz):=fun w=>y1 (decide_eq_true (by rw[w]))
    exact ⟨mn,sz,e,rfl,rfl,he,by omega,by omega,ha, .inr (FN y2)⟩
  ·have z1: ¬(mn:Int)<en:=fun w=>z (decide_eq_true w)
   exact ⟨mn,sz,e,rfl,rfl,he,by omega,by omega,ha, .inl (by omega)⟩
 ·rintro σ H2 ⟨mn,sz,e,rfl,rfl,he,hsz,Rt,ha,hb⟩
  refine ⟨fun σ H'=> ∃mn:Nat,σ=[some (.ref fx),some (.ref s1.a),some (.ref t1.a),some (.int en),some (.int mn),some (.int 1)]/\H'=H2/\jQ l m mn/\(en<=mn\/l[mn]?≠ m[mn]?),?_,?_⟩
  ·refine ⟨fun w σ H'=> ∃(mn sz e:Nat),σ=[some (.ref fx),some (.ref s1.a),some (.ref t1.a),some (.int en),some (.int mn),some (.int sz)]/\H'=H2/\sz=w/\sz=2 ^ e/\sz<=1000000/\mn<=3000000 - 2*sz/\jQ l m mn/\(en<=mn\/ ∃k,mn<=k/\k<mn+sz/\l[k]?≠ m[k]?),⟨_,mn,sz,e,rfl,rfl,rfl,he,hsz,by omega,ha,hb⟩,?_⟩
   rintro w' σ H3 ⟨mn,sz,e,rfl,rfl,rfl,he,hsz,Rt,ha,hb⟩
   walk_at "rd"
   refine bz (fun z=>?_) (fun z=>?_)
   ·have z1:(1:Int)<sz:=of_decide_eq_true z
    obtain ⟨e',rfl⟩: ∃e',e=e'+1:=⟨e - 1,by
     cases e with
     | zero=>rw[he]at z1;simp at z1
     | succ e=>rfl⟩
    have hh:sz=2*2 ^ e':=by rw[he,Nat.pow_succ,Qbb]
    have hp:0<2 ^ e':=Nat.pow_pos (by decide)
    generalize Qx:2 ^ e'=h2 at hh hp
    have TY:=Qx.symm
    have ed:(sz:Int) / 2=(h2:Nat):=by omega
    refine ⟨_,rfl,_,_,rfl,rfl,⟨by decide,by decide⟩,?_⟩
    refine call s1 mn h2 _ _ _ rfl hs (fun R hR=>⟨_,rfl,_,rfl,_,rfl,_,rfl,_,_,rfl,rfl,by rw[ed];exact hR⟩) ?_
    refine call t1 mn h2 _ _ _ rfl ht (fun R hR=>⟨_,rfl,_,rfl,_,rfl,_,rfl,_,_,rfl,rfl,by rw[ed];exact hR⟩) ?_
    rw[el,em]
    walk_at "rd"
    have Qv: ∃e2,h2=2 ^ e2:=⟨e',TY⟩
    obtain ⟨e2,VD⟩:=Qv
    refine bz (fun y1=>?_) (fun y1=>?_)
    ·have y2:seg l mn (mn+h2)=seg m mn (mn+h2):=by simpa using of_decide_eq_true y1
     refine ⟨_,rfl,_,rfl,_,_,rfl,rfl,?_⟩
     refine ⟨h2,by omega,mn+h2,h2,e2,by rw[ZZ, <-ed];rfl,rfl,rfl,VD,by omega,by omega,ha.more y2,?_⟩
     rcases hb with hb | ⟨k,k1,k2,k3⟩
     ·exact .inl (by omega)
     ·refine .inr ⟨k,Classical.byContradiction fun w=>k3 (Aa.mp y2 k k1 (by omega)),by omega,k3⟩
    ·have y2:seg l mn (mn+h2)≠seg m mn (mn+h2):=fun w=>y1 (decide_eq_true (by rw[w]))
     exact ⟨h2,by omega,mn,h2,e2,by rw[<-ed];rfl,rfl,rfl,VD,by omega,by omega,ha, .inr (FN y2)⟩
   ·have z1: ¬(1:Int)<sz:=fun w=>z (decide_eq_true w)
    have hp:0<2 ^ e:=Nat.pow_pos (by decide)
    have e1:sz=1:=by omega
    subst e1
    exact ⟨mn,rfl,rfl,ha,hb.imp id fun ⟨k,k1,k2,k3⟩=>by rwa [show k=mn by omega]at k3⟩
  ·rintro σ H3 ⟨mn,rfl,rfl,ha,hb⟩
   exact ⟨_,rfl,q mn ha hb⟩
theorem Ao:bp P w K mg base dY 1 Nk N4 ["seen"] (rm K aW aQ):=by
 refine T.Mf.fn.ok lR (fun vs H Q E h=>yn h) (fun cx A outer s H vs Q E hr h=>?_)
 refine ⟨_,(ae (ao (i:=1) lR.nd rfl (Or.inl rfl) (bN K rfl (pv 0) rfl))
   (ae (ao (i:=2) lR.nd rfl (Or.inl rfl) (aA (az K rfl) (bN K rfl (pv 0) rfl) ah (fun _ _=>rfl)))
   (ae (bI (iF (bN K rfl (pv 1) rfl)) (ai (aF (bP (aa (pv 2) (aa (ay fk (bN K rfl (pv 0) rfl) (bN K rfl (pv 1) rfl)) ab))))) a_)
   (ai (aF (bP (aa (lX iJ (pv 2)) (aa (lX iJ (ay fk (ay bJ (ay bJ (bN K rfl (pv 1) rfl) ah) (bN K rfl (pv 0) rfl)) (bN K rfl (pv 1) rfl))) ab)))))))),?_⟩
 obtain ⟨y,lg,s1,rfl,hs,q⟩:=h
 obtain ⟨d1,e1⟩:=hs.ob
 obtain ⟨d2,e2⟩:=hs.wy.ob
 have hp:=hs.pz
 have rp:=jS hs.wy.sw.ne hs.wy.rt
 have u1:=hs.wy.uz
 have u2:=hs.wy.lz
 refine ⟨_,rfl,s1.a,aQ,d1,_,_,rfl,e1,T.dN,T.n_Seen_way,n6,?_⟩
 refine ⟨_,rfl,s1.a,aQ,d1,_,_,rfl,e1,T.dN,T.n_Seen_strand,uy,s1.t,_,0,_,rfl,rfl,aX.of hs.st,rfl,?_⟩
 refine ⟨_,rfl,s1.wy,aW,d2,_,_,rfl,e2,T.gP,T.n_Way_leads,FL,?_⟩
 walk_at "rd"
 have XJ:(s1.p:Int) / (s1.r:Int)=((s1.p / s1.r:Nat):Int):=(Qc2 _ _).symm
 have XM:((s1.u.length:Int) - 1 - s1.p) / (s1.r:Int)=(((s1.u.length - 1 - s1.p) / s1.r:Nat):Int):=by
  rw[Qc2];congr 1;omega
 refine bz (fun z=>?_) (fun z=>?_)
 ·refine ⟨_,rfl,_,rfl,s1.a,aQ,d1,_,_,rfl,e1,T.dN,T.n_Seen_place,mY,_,rfl,s1.wy,aW,d2,_,_,rfl,e2,T.gP,T.n_Way_root_size,qf,_,_,rfl,rfl,⟨by omega,by omega⟩,by show 2<=sizeLine;decide,fun p np=>?_⟩
  refine q p _ np ?_ (ak.upd np)
  rw[ag]
  unfold Ab
  rw[if_pos z, <-XJ]
 ·refine ⟨_,rfl,_,rfl,_,rfl,s1.wy,aW,d2,_,_,rfl,e2,T.gP,T.n_Way_size,By,_,_,rfl,rfl,_,rfl,s1.a,aQ,d1,_,_,rfl,e1,T.dN,T.n_Seen_place,mY,_,_,rfl,rfl,_,rfl,s1.wy,aW,d2,_,_,rfl,e2,T.gP,T.n_Way_root_size,qf,_,_,rfl,rfl,⟨by omega,by omega⟩,_,rfl,by show 2<=sizeLine;decide,fun p np=>?_⟩
  refine q p _ np ?_ (ak.upd np)
  rw[ag]
  unfold Ab
  rw[if_neg z, <-XM]
theorem rV:bp P w K mg base dY 3 Nl N5 ["one","other"] (jR K aW aQ):=by
 have uH:=An (P:=P) (w:=w) (base:=base) T
 have uI:=Ao (P:=P) (w:=w) (base:=base) T
 have cw:=j5 (P:=P) (w:=w) (base:=base) T
 have cO:=kT (P:=P) (w:=w) (base:=base) T
 refine T.RJ.fn.ok eI (fun vs H Q E h=>pH h) (fun cx A outer s H vs Q E hr h=>?_)
 refine ⟨_,(ae (ao (i:=2) eI.nd rfl (Or.inl rfl) (ay aU (bN K rfl (bN K rfl (pv 0) rfl) rfl) (bN K rfl (bN K rfl (pv 1) rfl) rfl)))
   (ae (ao (i:=3) eI.nd rfl (Or.inl rfl) (aj uH (hr.mono (by decide)) rfl T.Me.mg T.Me.fn.kp T.Me.bd .nil aB (aa (AB (v:= .ref Gj) rfl T.yS.mg rfl) (aa (pv 0) (aa (pv 1) (aa (pv 2) ab))))))
   (ae (ao (i:=4) eI.nd rfl (Or.inl rfl) (aj uH (hr.mono (by decide)) rfl T.Me.mg T.Me.fn.kp T.Me.bd .nil aB (aa (AB (v:= .ref Gk) rfl T.yT.mg rfl) (aa (pv 0) (aa (pv 1) (aa (pv 2) ab))))))
   (ae (bI (aH DI (aC (nG rfl) rfl T.z_min boot_min (aa (pv 3) (aa (pv 4) ab))) (pv 2) (aM _)) (ai (aF (gD (zD K rfl hr) (aj uI (hr.mono (by decide)) rfl T.Mf.mg T.Mf.fn.kp T.Mf.bd .nil aB (aa (pv 0) ab)) (aj uI (hr.mono (by decide)) rfl T.Mf.mg T.Mf.fn.kp T.Mf.bd .nil aB (aa (pv 1) ab)) (aM _)))) a_)
   (ae (bI (aH DH (pv 3) (pv 4) (aM _)) (ai (aF (gD u7 (aj cw (hr.mono (by decide)) rfl T.yS.mg T.yS.fn.kp T.yS.bd .nil aB (aa (pv 0) (aa (pv 3) (aa (ay aU (pv 3) ah) ab)))) (aj cw (hr.mono (by decide)) rfl T.yS.mg T.yS.fn.kp T.yS.bd .nil aB (aa (pv 1) (aa (pv 3) (aa (ay aU (pv 3) ah) ab)))) (aM _)))) a_)
   (ai (aF (gD u7 (aj cO (hr.mono (by decide)) rfl T.yT.mg T.yT.fn.kp T.yT.bd .nil aB (aa (pv 0) (aa (pv 4) (aa (ay aU (pv 4) ah) ab)))) (aj cO (hr.mono (by decide)) rfl T.yT.mg T.yT.fn.kp T.yT.bd .nil aB (aa (pv 1) (aa (pv 4) (aa (ay aU (pv 4) ah) ab)))) (aM _))))))))),?_⟩
 obtain ⟨y,lg,s1,t1,rfl,hy,hz,hs,ht,h0,q⟩:=h
 obtain ⟨d1,e1⟩:=hs.ob
 obtain ⟨d2,e2⟩:=hs.wy.ob
 obtain ⟨d3,e3⟩:=ht.ob
 obtain ⟨d4,e4⟩:=ht.wy.ob
 have rp:=jS hs.wy.sw.ne hs.wy.rt
 have Zd:=jS ht.wy.sw.ne ht.wy.rt
 have u1:=hs.wy.uz
 have Ze:=ht.wy.uz
 have u2:=hs.wy.lz
 have ns:=hs.wy.sw.ne
 have nt:=ht.wy.sw.ne
 have lf:=bo hs.wy.sw (s1.p:Int)
 have RY:=bo ht.wy.sw (t1.p:Int)
 have as:=uD (lg:=lg) (s:=s1) (en:=s1.r+t1.r) hs.pz (by omega)
 have at':=uD (lg:=lg) (s:=t1) (en:=s1.r+t1.r) ht.pz (by omega)
 refine ⟨_,rfl,s1.a,aQ,d1,_,_,rfl,e1,T.dN,T.n_Seen_way,n6,s1.wy,aW,d2,_,_,rfl,e2,T.gP,T.n_Way_root_size,qf,_,rfl,t1.a,aQ,d3,_,_,rfl,e3,T.dN,T.n_Seen_way,n6,t1.wy,aW,d4,_,_,rfl,e4,T.gP,T.n_Way_root_size,qf,_,_,rfl,rfl,?_⟩
 refine ⟨_,rfl,_,rfl,_,rfl,y,lg,s1,t1,true,s1.r+t1.r,by rw[ZZ];rfl,hz,hs,ht,by omega,fun m Lj Eg=>?_⟩
 refine ⟨_,rfl,_,rfl,_,rfl,y,lg,s1,t1,false,s1.r+t1.r,by rw[ZZ];rfl,hz,hs,ht,by omega,fun n XN yZ=>?_⟩
 have TZ:jQ (Dr y lg s1) (Dr y lg t1) m:=Lj
 have Qy:s1.r+t1.r<=m\/(Dr y lg s1)[m]?≠ (Dr y lg t1)[m]?:= Eg
 have T1:jQ (Ds y lg s1) (Ds y lg t1) n:=XN
 have Qz:s1.r+t1.r<=n\/(Ds y lg s1)[n]?≠ (Ds y lg t1)[n]?:= yZ
 have ga: ∀k,k<s1.r+t1.r->(Dr y lg s1)[k]? =some (yQ (fW y (sq s1.u s1.p) (k+1)))/\(Dr y lg t1)[k]? =some (yQ (fW y (sq t1.u t1.p) (k+1))):=fun k hk=>⟨FO ns (by omega),FO nt (by omega)⟩
 have gb: ∀k,k<s1.r+t1.r->(Ds y lg s1)[k]? =some (yQ (fW y (sq s1.u s1.p) (-(k:Int))))/\(Ds y lg t1)[k]? =some (yQ (fW y (sq t1.u t1.p) (-(k:Int)))):=fun k hk=>⟨FP ns hs.pz (by omega),FP nt ht.pz (by omega)⟩
 refine ⟨_,rfl,_,rfl,_,_,rfl,?_⟩
 walk_at "rd"
 by_cases par: ∀k,sq s1.u s1.p k=sq t1.u t1.p k
 ·have ef:sq s1.u s1.p=sq t1.u t1.p:=funext par
  have m1:s1.r+t1.r<=m:=BF (fun k hk=>by rw[(ga k hk).1,(ga k hk).2,ef]) Qy
  have n1:s1.r+t1.r<=n:=BF (fun k hk=>by rw[(gb k hk).1,(gb k hk).2,ef]) Qz
  refine bz (fun z=>?_) (fun z=>absurd (decide_eq_true (show ((s1.r:Int)+t1.r)<=(if (n:Int)<m then (n:Int) else m) by split<;>omega)) z)
  refine ⟨_,rfl,y,lg,s1,rfl,hs,fun p1 H1 Zf pj QA=>⟨_,rfl,y,lg,t1,rfl,ht.same QA,fun p2 H2 T3 jj cH=>?_⟩⟩
  refine ⟨p1,p2,_,_,_,_,rfl,rfl,aX.of (cH _ _ pj),aX.of jj,?_⟩
  have e:ph (Ab s1).1 (Ab s1).2 (Ab t1).1 (Ab t1).2=bc (kE y (2*lg) s1) (kE y (2*lg) t1):=by
   unfold kE
   rw[ef,fE,IM]
  have kq:=q H2 (QA.trans cH)
  rw[<-e]at kq
  exact kq
 ·have dz: ∃k,sq s1.u s1.p k≠sq t1.u t1.p k:=Classical.byContradiction fun z=>par fun k=>Classical.byContradiction fun w=>z ⟨k,w⟩
  have z0:sq s1.u s1.p 0=sq t1.u t1.p 0:=by unfold sq;rw[Qaz,Qaz];exact h0
  obtain ⟨a,b,rn,ha,hb⟩:=dE (p:=s1.r) (q:=t1.r) (by omega) (by omega) (BB ns hs.wy.rt s1.p) (BB nt ht.wy.rt t1.p) z0 dz
  have pf:=BD hy lf
  have pg:=BD hy RY
  have key:=nV hy lf RY rn [(Ab s1).1,(Ab s1).2] [(Ab t1).1,(Ab t1).2] (2*lg) 0 (WT _) (WT _) (by omega) (by omega)
  have sa:fW y (sq s1.u s1.p) (a+1)≠fW y (sq t1.u t1.p) (a+1):=fun w=>rn.hi (by
   unfold fW at w
   rw[show (a:Int)+1 - 1=a by omega, <-rn.mO a (by omega) (by omega)]at w
   exact mP (hy.cl _ (lf.bK _)) (lf.bK _) (RY.bK _) w)
  have sb:fW y (sq s1.u s1.p) (-(b:Int))≠fW y (sq t1.u t1.p) (-(b:Int)):=fun w=>by
   have c:=zW hy lf RY (rn.mO (-(b:Int)) (by omega) (by omega)) rn.lo
   unfold kL at c
   rw[w]at c
   simp at c
  have em:m=a:=BE ha (fun k hk=>by
   rw[(ga k (by omega)).1,(ga k (by omega)).2]
   unfold fW
   rw[show (k:Int)+1 - 1=k by omega,rn.mO k (by omega) (by omega),rn.mO (k+1) (by omega) (by omega)]) (fun w=>sa (BC (pf _) (pg _) (by rw[(ga a ha).1,(ga a ha).2]at w;exact Zy w))) TZ Qy
  have en:n=b:=BE hb (fun k hk=>by
   rw[(gb k (by omega)).1,(gb k (by omega)).2]
   unfold fW
   rw[rn.mO (-(k:Int)) (by omega) (by omega),rn.mO (-(k:Int) - 1) (by omega) (by omega)]) (fun w=>sb (BC (pf _) (pg _) (by rw[(gb b hb).1,(gb b hb).2]at w;exact Zy w))) T1 Qz
  subst em
  subst en
  refine bz (fun z=>absurd (show ((s1.r:Int)+t1.r)<=(if (n:Int)<m then (n:Int) else m) from of_decide_eq_true z) (by split<;>omega)) (fun z=>?_)
  walk_at "rd"
  have D0:(m:Int)+1=((m+1:Nat):Int):=by omega
  have LW:(n:Int)+1=((n+1:Nat):Int):=by omega
  refine bz (fun z2=>?_) (fun z2=>?_)
  ·have z3:m<=n:=by have:=of_decide_eq_true z2;omega
   refine ⟨_,rfl,_,rfl,_,rfl,_,_,rfl,rfl,y,lg,s1,m,m+1,by rw[<-D0];rfl,hz,hs,by omega,?_⟩
   refine ⟨_,rfl,_,rfl,_,rfl,_,_,rfl,rfl,y,lg,t1,m,m+1,by rw[<-D0];rfl,hz,ht,by omega,?_⟩
   refine ⟨_,_,rfl,rfl,?_⟩
   rw[if_pos z3]at key
   have e:decide (seg (Dr y lg s1) m (m+1)<seg (Dr y lg t1) m (m+1))=bc (kE y (2*lg) s1) (kE y (2*lg) t1):=by
    rw[qg (ga m ha).1,qg (ga m ha).2,FR]
    exact (decide_eq_decide.mpr (FQ (pf _) (pg _))).trans key.symm
   have kq:=q H (ak.refl H)
   rw[<-e]at kq
   exact kq
  ·have z3: ¬m<=n:=fun w=>z2 (decide_eq_true (by omega))
   refine ⟨_,rfl,_,rfl,_,rfl,_,_,rfl,rfl,y,lg,s1,n,n+1,by rw[<-LW];rfl,hz,hs,by omega,?_⟩
   refine ⟨_,rfl,_,rfl,_,rfl,_,_,rfl,rfl,y,lg,t1,n,n+1,by rw[<-LW];rfl,hz,ht,by omega,?_⟩
   refine ⟨_,_,rfl,rfl,?_⟩
   rw[if_neg z3]at key
   have e:decide (seg (Ds y lg s1) n (n+1)<seg (Ds y lg t1) n (n+1))=bc (kE y (2*lg) s1) (kE y (2*lg) t1):=by
    rw[qg (gb n hb).1,qg (gb n hb).2,FR]
    exact (decide_eq_decide.mpr (FQ (pf _) (pg _))).trans key.symm
   have kq:=q H (ak.refl H)
   rw[<-e]at kq
   exact kq
theorem pL:bp P w K mg base dY 4 Nm N6 ["order","seen"] (jd K aW aQ):=by
 have sQ:=rV (P:=P) (w:=w) (base:=base) T
 refine T.RK.fn.ok cb (fun vs H Q E h=>oa h) (fun cx A outer s H vs Q E hr h=>?_)
 refine ⟨_,(ae (ao (i:=2) cb.nd rfl (Or.inl rfl) ah)
   (ae (ao (i:=3) cb.nd rfl (Or.inl rfl) (aC (aV K rfl) rfl T.z_len Y3 (aa (pv 0) ab)))
   (ae (dh PassesOwn.never (aH i5 (pv 2) (pv 3) (aM _)) (ae (ao (i:=4) cb.nd rfl (Or.inl rfl) (ay fk (ay aU (pv 2) (pv 3)) ah))
   (ai (bI (iF (aj sQ (hr.mono (by decide)) rfl T.RJ.mg T.RJ.fn.kp T.RJ.bd .nil aB (aa (aA (b6 K rfl) (pv 0) (pv 4) (fun _ _=>rfl)) (aa (pv 1) ab)))) (ai (ao (i:=2) cb.nd rfl (Or.inl rfl) (ay aU (pv 4) ah))) (ai (ao (i:=3) cb.nd rfl (Or.inl rfl) (pv 4)))))))
   (ai (aF (pv 2)))))),?_⟩
 obtain ⟨y,lg,a,ss,t1,rfl,hy,hz,ha,Gs,ht,up,hn,q⟩:=h
 have hs:(100000:Nat)<sizeLine:=by decide
 have key:=Qa8.mp up
 refine ⟨_,rfl,a,_,rfl, .inl (bu.of ha),?_⟩
 walk_at "rd"
 refine ⟨fun m σ H'=> ∃(lo hi:Nat) (mv:Option V),σ=[some (.ref a),some (.ref t1.a),some (.int lo),some (.int hi),mv]/\m=hi - lo/\lo<=hi/\hi<=ss.length/\(∀k s,ss[k]? =some s->k<lo->bc (kE y (2*lg) s) (kE y (2*lg) t1)=true)/\(∀k s,ss[k]? =some s->hi<=k->bc (kE y (2*lg) s) (kE y (2*lg) t1)=false)/\ak H H',⟨_,0,ss.length,none,by rw[m5];rfl,rfl,WT _,Ri _,fun k s _ hk=>absurd hk (Qbh _),(fun k s e hk=>by rw[Qa7 hk]at e;cases e),ak.refl H⟩,?_⟩
 rintro m σ H2 ⟨lo,hi,mv,rfl,rfl,h1,h2,h3,h4,s2⟩
 walk_at "rd"
 refine bz (fun z=>?_) (fun z=>?_)
 ·have z1:(lo:Int)<hi:=of_decide_eq_true z
  have em:(((lo:Int)+hi) / 2)=(((lo+hi) / 2:Nat):Int):=by omega
  have hm:(lo+hi) / 2<ss.length:=by omega
  have hg:ss[(lo+hi) / 2]? =some ss[(lo+hi) / 2]:=K3 hm
  obtain ⟨ok,e0⟩:=Gs _ (ZT hm)
  walk_at "rd"
  refine ⟨a,_,((lo:Int)+hi) / 2,_,rfl,rfl,bu.of (s2 _ _ ha),by rw[em];exact bC (L8 hg),_,rfl,y,lg,ss[(lo+hi) / 2],t1,rfl,hy,hz,ok.same s2,ht.same s2,e0,fun H3 s3=>?_⟩
  walk_at "rd"
  refine bz (fun y1=>?_) (fun y1=>?_)
  ·walk_at "rd"
   have e1:((lo:Int)+hi) / 2+1=(((lo+hi) / 2+1:Nat):Int):=by omega
   refine ⟨hi - ((lo+hi) / 2+1),by omega,(lo+hi) / 2+1,hi,_,by rw[<-e1];rfl,rfl,by omega,h2,fun k s e hk=>?_,h4,s2.trans s3⟩
   by_cases q1:k=(lo+hi) / 2
   ·subst q1
    rw[hg]at e
    cases e
    exact y1
   ·obtain ⟨Pm,ek⟩:=K4.mp e
    have QB:=key k ((lo+hi) / 2) Pm hm (by omega)
    rw[ek]at QB
    cases r:bc (kE y (2*lg) s) (kE y (2*lg) t1)
    ·have:=L2.vg _ _ _ r QB
     rw[this]at y1
     cases y1
    ·rfl
  ·walk_at "rd"
   have y2:bc (kE y (2*lg) ss[(lo+hi) / 2]) (kE y (2*lg) t1)=false:=by simpa using y1
   refine ⟨(lo+hi) / 2 - lo,by omega,lo,(lo+hi) / 2,_,by rw[<-em];rfl,rfl,by omega,by omega,h3,fun k s e hk=>?_,s2.trans s3⟩
   by_cases q1:k=(lo+hi) / 2
   ·subst q1
    rw[hg]at e
    cases e
    exact y2
   ·obtain ⟨Pm,ek⟩:=K4.mp e
    have QB:=key ((lo+hi) / 2) k hm Pm (by omega)
    rw[ek]at QB
    exact L2.vg _ _ _ y2 QB
 ·have z1: ¬(lo:Int)<hi:=fun w=>z (decide_eq_true w)
  walk_at "rd"
  have e:hi=lo:=by omega
  subst e
  exact q hi H2 h2 h3 h4 s2
theorem sR:bp P w K mg base dY 5 Np N8 ["words","ways","band"] (kP K aW aQ):=by
 have wF:=sO (P:=P) (w:=w) (base:=base) T
 have sS:=rT (P:=P) (w:=w) (base:=base) T
 have rW:=pL (P:=P) (w:=w) (base:=base) T
 refine T.RM.fn.ok eZ (fun vs H Q E h=>rA h) (fun cx A outer s H vs Q E hr h=>?_)
 refine ⟨_,(ae (ao (i:=3) eZ.nd rfl (Or.inl rfl) (cJ ab))
   (ae (bS PassesOwn.never rfl (fj K rfl (aj wF (hr.mono (by decide)) rfl T.Ry.mg T.Ry.fn.kp T.Ry.bd .nil aB (aa (pv 0) (aa (pv 2) ab)))) (aP (i:=4) eZ.nd rfl (Or.inl rfl)) (ae (ao (i:=5) eZ.nd rfl (Or.inl rfl) (aj sS (hr.mono (by decide)) rfl T.RL.mg T.RL.fn.kp T.RL.bd .nil aB (aa (pv 0) (aa (pv 1) (aa (pv 4) ab)))))
   (ai (b7 (bG K rfl ZD PySem.F.slot_list_insert PySem.F.type_list_insert Cs (pv 3) (aa (aj rW (hr.mono (by decide)) rfl T.RK.mg T.RK.fn.kp T.RK.bd .nil aB (aa (pv 3) (aa (pv 5) ab))) (aa (pv 5) ab)))))))
   (ai (aF (de (cY K rfl) rfl T.z_tuple boot_tuple (aa (fi ["seen"] [none] (fj K rfl (pv 3)) trivial (fun _ _ _ _=>(aP (i:=0) (by decide+kernel:List.Nodup (["seen"]:List Str)) rfl (Or.inl rfl))) (fun _ _ _ _=>ju) (fun _ _ _ _=>(bN K rfl (pv 0) rfl))) ab)))))),?_⟩
 obtain ⟨y,lg,wt,vt,ws,nA,band,rfl,hy,hz,qj,T4,wG,hb,RX,zg,QC,q⟩:=h
 have hs:(100000:Nat)<sizeLine:=by decide
 walk_at "rd"
 intro a na
 have s0:=ak.upd (o:= .lst []) na
 refine ⟨_,rfl,_,rfl,wt,ws,band,rfl,s0 _ _ qj,T4,fun w hw=>⟨fun c hc=>hy.lt c ((wG w hw).1.bK c hc),(wG w hw).2⟩,hb,fun b ps H1 nb yN sP lS s1=>?_⟩
 have Jd:=s0.trans s1
 have XO:b≠a:=fun z=>by rw[z,ag]at nb;cases nb
 have XQ:ps.length<=48:=by
  have h1:(ps.map Pr.pair).length<=48:=by
   rw[lS]
   have:=jU band (fun w hw=>(wG w hw).2) ws.length (Ri _)
   omega
  rwa [MO]at h1
 have pin: ∀p∈ps, ∃w,ws[p.c]? =some w/\p.i<w.length/\zZ band (rd w p.i)=true:=fun p hp=>by
  have hm:p.pair∈c_ band ws ws.length:=by rw[<-lS];exact ZL.mpr ⟨p,hp,rfl⟩
  exact Ae hm
 refine ⟨b,rfl,⟨_,bu.of yN⟩,?_⟩
 refine fg (K:=K) (a:=b) (xs:=uo ps) (fun k σ H'=> ∃(ss:List Sn) (sv nv:Option V),σ=[some (.ref wt),some (.ref vt),some (.str (S [band])),some (.ref a),sv,nv]/\H' a=some (.lst (BG ss))/\(∀s∈ss,jP H' aW aQ y lg s/\rd s.u s.p=band/\ ∃w,ws[s.c]? =some w/\Ac w s.c s.i s/\s.i<w.length)/\(ss.map fun s=>(s.c,s.i)).Perm ((ps.take k).map Pr.pair)/\C3 y (2*lg) ss/\aR a H1 H')
  ⟨[],none,none,rfl,s1 _ _ ag,fun _ h=>absurd h Zu, .nil,List.Pairwise.nil,aR.refl _ _⟩ (fun k σ H' _ ⟨_,_,_,_,_,_,_,_,h⟩=>bu.of (h _ _ yN XO)) ?_ ?_
 ·rintro k x σ H2 hx ⟨ss,sv,nv,rfl,ha,Gs,wD,Ot,s2⟩
  obtain ⟨p,hp,rfl⟩:=Fi hx
  have hk:k<ps.length:=(K4.mp hp).1
  have QD:=Y4 hp
  obtain ⟨w,hw,hi,ho⟩:=pin p QD
  have XR:=Y4 hw
  have T5:p.c<nA.length:=by rw[zg];exact (K4.mp hw).1
  have bX:=QC p.c w nA[p.c] hw (K3 T5)
  have go: ∀c o,H c=some o->H2 c=some o:=fun c o e=>s2 _ _ (Jd c o e) (aq e na)
  have T6:=(sP p QD).tp
  have XS:p.t≠a:=fun z=>by rw[z,s1 _ _ ag]at T6;cases T6
  have T7:=s2 _ _ T6 XS
  have XT:ss.length=k:=by
   have:=wD.length_eq
   rw[MO,MO,ZG]at this
   omega
  refine ⟨_,rfl,_,rfl,_,rfl,y,lg,wt,vt,p.t,w,ws,nA,nA[p.c],p.c,p.i,rfl,hy,go _ _ qj,go _ _ RX,T7,hw,K3 T5,bX.same go,hi,fun s H3 J5 oG VE Zg s3=>?_⟩
  have VF:=J5.band hy (wG w XR).1 hi hb ho
  refine ⟨_,rfl, .inl ⟨rfl,_,bu.of (s3 _ _ ha)⟩,_,rfl,_,rfl,y,lg,a,ss,s,rfl,hy,hz,s3 _ _ ha,fun t ht=>⟨(Gs t ht).1.same s3,by rw[(Gs t ht).2.1,VF]⟩,VE,Ot,by omega,fun n H4 hn h1 h2 s4=>?_⟩
  have VG:=s4 _ _ (s3 _ _ ha)
  refine ⟨_,rfl,a,_,n,_,rfl,rfl,VG,by rw[m5];exact hn,by rw[m5];omega,?_⟩
  have e1:(BG ss).take n++V.ref s.a::(BG ss).drop n=BG (ss.take n++s::ss.drop n):=by
   unfold BG
   rw[WQ,Qdp,ZC,Qcc]
  rw[e1]
  have su: ∀t,jP H4 aW aQ y lg t->jP (L2.upd H4 a (.lst (BG (ss.take n++s::ss.drop n)))) aW aQ y lg t:=fun t ot=>by
   have ne: ∀{c:Addr} {o:HO},H4 c=some o->(∀l,o≠ .lst l)->c≠a:=fun {c o} e no z=>by rw[z,VG]at e;exact no _ (Zy e).symm
   obtain ⟨dx,eo⟩:=ot.ob
   obtain ⟨dw,ew⟩:=ot.wy.ob
   exact ⟨⟨dx,by rw[au (ne eo (fun l z=>by cases z))];exact eo⟩,by rw[au (ne ot.st (fun l z=>by cases z))];exact ot.st,⟨⟨dw,by rw[au (ne ew (fun l z=>by cases z))];exact ew⟩,ot.wy.sw,ot.wy.uz,ot.wy.lz,ot.wy.rt⟩,ot.pz⟩
  refine ⟨ss.take n++s::ss.drop n,_,_,rfl,ag,fun t ht=>?_,?_,L9 Ot h1 h2,fun c o e z=>by rw[au z];exact s4 _ _ (s3 _ _ (s2 c o e z))⟩
  ·have:t=s\/t∈ss:=by
    rcases Zx.mp ht with r | r
    ·exact .inr (Qbn r)
    ·rcases Zt.mp r with r | r
     ·exact .inl r
     ·exact .inr (Qbo r)
   rcases this with r | r
   ·subst r
    refine ⟨su _ (VE.same s4),VF,w,?_,?_,?_⟩
    ·rw[J5.ec];exact hw
    ·rw[J5.ec,J5.ei];exact J5
    ·rw[J5.ei];exact hi
   ·exact ⟨su _ (((Gs t r).1.same s3).same s4),(Gs t r).2⟩
  ·rw[WQ,ZC, <-take_snoc hp,WQ,J5.ec,J5.ei]
   have p1:(ss.take n).map (fun s=>(s.c,s.i))++(p.c,p.i)::(ss.drop n).map (fun s=>(s.c,s.i)) |>.Perm ((p.c,p.i)::ss.map fun s=>(s.c,s.i)):=by
    refine List.perm_middle.trans (List.Perm.cons _ ?_)
    rw[<-WQ,Qat]
   exact p1.trans ((List.Perm.cons _ wD).trans (List.perm_append_singleton _ _).symm)
 ·rintro σ H2 ⟨ss,sv,nv,rfl,ha,Gs,wD,Ot,s2⟩
  rw[vS,Z8,lS]at wD
  have XT:ss.length<=48:=by
   have:=wD.length_eq
   rw[MO, <-lS,MO]at this
   omega
  have sg:ak H H2:=fun c o e=>s2 _ _ (Jd c o e) (aq e na)
  refine ⟨_,rfl,a,rfl,⟨_,bu.of ha⟩,?_⟩
  refine Ci (K:=K) (a:=a) (xs:=BG ss) (fun i acc H'=>H'=H2/\acc=(ss.take i).map fun s=>V.ref s.t) (by rw[m5];omega) (fun i acc H' h=>by rw[h.1];exact bu.of ha) ⟨rfl,rfl⟩ ?_ ?_
  ·rintro i x acc H3 Nx hi hx hl ⟨rfl,rfl⟩ nx
   obtain ⟨t,ht,rfl⟩:=IQ hx
   obtain ⟨dx,e⟩:=(Gs t (Y4 ht)).1.ob
   refine ⟨trivial,gH ⟨_,rfl,t.a,aQ,dx,_,_,rfl,e,T.dN,T.n_Seen_strand,uy,nx _ _ (by simpa using hl) ⟨rfl,?_⟩⟩⟩
   rw[<-take_snoc ht,WQ]
   rfl
  ·rintro acc H3 D hl ⟨rfl,rfl⟩ hD
   rw[m5,Z8]
   refine ⟨D,_,rfl, .inl ⟨bu.of ag,fun t nt=>?_⟩⟩
   have sA:=(ak.upd (o:= .lst (ss.map fun s=>V.ref s.t)) hD).trans (ak.upd (o:= .tup (ss.map fun s=>V.ref s.t)) nt)
   have ep:(ss.map fun s=>(⟨s.t,s.c,s.i⟩:Pr)).map Pr.pair=ss.map fun s=>(s.c,s.i):=by rw[Qac];rfl
   refine q t (ss.map fun s=>(⟨s.t,s.c,s.i⟩:Pr)) _ (ak.free (sg.trans (ak.upd hD)) nt) (by rw[ag];unfold uo;rw[Qac];rfl) (fun p hp=>?_) (by rw[ep];exact wD) ?_ (sg.trans sA)
   ·obtain ⟨s,Pu,rfl⟩:=ZL.mp hp
    obtain ⟨ok,_,w,hw,_,hi⟩:=Gs s Pu
    have h1:=(K4.mp hw).1
    have h2:=(wG w (Y4 hw)).2
    exact ⟨sA _ _ ok.st,by show s.c<1000;omega,by show s.i<1000;omega⟩
   ·rw[ep]
    unfold FW
    rw[Qaf]
    refine Qbd (fun {s t} h1 h2 h=>?_) Ot
    obtain ⟨o1,_,w1,e1,i1,l1⟩:=Gs s h1
    obtain ⟨o2,_,w2,e2,i2,l2⟩:=Gs t h2
    have g1:ws.getD s.c []=w1:=by rw[WS,e1];rfl
    have g2:ws.getD t.c []=w2:=by rw[WS,e2];rfl
    rw[<-BH hy (wG w1 (Y4 e1)).1 l1 g1 i1 o1.wy.rt, <-BH hy (wG w2 (Y4 e2)).1 l2 g2 i2 o2.wy.rt]
    exact h
theorem wH:bp P w K mg base dY 2 Nd NW ["word"] (mD K):=by
 have bL:=dU (P:=P) (w:=w) (base:=base) T
 refine T.RG.fn.ok i3 (fun vs H Q E h=>sI h) (fun cx A outer s H vs Q E hr h=>?_)
 refine ⟨_,(ae (ao (i:=1) i3.nd rfl (Or.inl rfl) (cJ ab))
   (ae (bS PassesOwn.never rfl (u5 (pv 0)) (aP (i:=2) i3.nd rfl (Or.inl rfl)) (ai (bI (PW.pt (jm (HE K rfl (pv 1)) (iG (aH gS (aA (b6 K rfl) (pv 1) (lX iJ ah) (fun _ _=>rfl)) (aj bL (hr.mono (by decide)) rfl T.F0.mg T.F0.fn.kp T.F0.bd .nil aB (aa (pv 2) ab)) (aM _))))) (ai (b7 (eY K rfl ZD Qb8 Qb7 KY (pv 1)))) (ai (b7 (bG K rfl ZD Z2 Z1 cy (pv 1) (aa (pv 2) ab)))))))
   (ai (aF (bG K rfl ZI Qbk Qbj (jx K rfl) (kZ [] (by decide+kernel)) (aa (pv 1) ab)))))),?_⟩
 obtain ⟨l,rfl,hl,hz,q⟩:=h
 have hs:(100000:Nat)<sizeLine:=by decide
 walk_at "rd"
 intro p1 n1
 refine ⟨_,rfl,l,rfl,?_⟩
 refine AK (xs:=dX l) (fun i σ H'=> ∃lv,σ=[some (.str (S l)),some (.ref p1),lv]/\H' p1=some (.lst (dX (red (l.take i))))/\aR p1 H H') ⟨none,rfl,ag,aR.of (ak.upd n1)⟩ ?_ ?_
 ·rintro i x σ H1 hx ⟨lv,rfl,hp,s1⟩
  obtain ⟨c,hc,rfl⟩:=j_ hx
  have hi:i<l.length:=(K4.mp hc).1
  have h8:c<128:=(hl c (Y4 hc)).lt
  have VH:(red (l.take i)).length<=1000:=ZN (mB _) (by rw[ZG];omega)
  have fin: ∀st,st=fU (red (l.take i)) c-> ∃lv,[some (V.str (S l)),some (V.ref p1),some (V.str (S [c]))]=[some (V.str (S l)),some (.ref p1),lv]/\(upd H1 p1 (.lst (dX st))) p1=some (.lst (dX (red (l.take (i+1)))))/\aR p1 H (upd H1 p1 (.lst (dX st))):=fun st e=>
   ⟨_,rfl,by rw[ag,Es hc,e],fun b o e z=>by rw[au z];exact s1 b o e z⟩
  refine ⟨_,rfl,p1,_,rfl,bu.of hp,?_⟩
  rcases snoc_cases (red (l.take i)) with e | ⟨m,a,e⟩
  ·rw[e]at hp ⊢
   refine HW rfl ?_
   refine zi ?_
   refine ⟨_,rfl, .inl ⟨rfl,_,bu.of hp⟩,_,rfl,p1,_,_,rfl,rfl,hp,by rw[bf];exact (by decide:(0:Nat)<sizeLine),?_⟩
   rw[ft]
   refine fin _ ?_
   rw[e]
   unfold fU
   rw[if_neg (by simp)]
  ·rw[e]at hp VH ⊢
   have T8:m.length<=1000:=by simp at VH;omega
   rw[<-ft]at hp ⊢
   refine Qe (by simp) ?_
   refine ⟨_,rfl,_,rfl,p1,_,_,_,rfl,rfl,bu.of hp,DM _ _,_,rfl,c,rfl,h8,[a],[aI c],rfl,rfl,_,rfl,bz (fun z=>?_) (fun z=>?_)⟩
   ·have ea:a=aI c:=by simpa using of_decide_eq_true z
    refine ⟨_,rfl, .inl ⟨rfl,_,bu.of hp⟩,p1,_,V.str (S [a]),rfl,rfl,hp,by simp,?_⟩
    rw[Qdk]
    refine fin _ ?_
    rw[e]
    unfold fU
    rw[if_pos (by simp[ea]),Qdk]
   ·have ea:a≠aI c:=fun w=>z (decide_eq_true (by rw[w]))
    refine ⟨_,rfl, .inl ⟨rfl,_,bu.of hp⟩,_,rfl,p1,_,_,rfl,rfl,hp,by rw[U5,bf];show m.length+1<sizeLine;omega,?_⟩
    rw[ft,ft]
    refine fin _ ?_
    rw[e]
    unfold fU
    rw[if_neg (by simpa using ea)]
 ·rintro σ H1 ⟨lv,rfl,hp,s1⟩
  rw[xN]at hp
  refine ⟨rfl,_,rfl,p1,(red l).map fun c=>[c],rfl,rfl,bu.of (by rw[<-hV];exact hp),?_,?_⟩
  ·rw[Cy]
   have:=mB l
   omega
  ·rw[tW]
   exact q _ (fun b o e=>s1 b o e (aq e n1))
theorem yC:bp P w K mg base dY 3 Nf NX ["word"] (oO K):=by
 have yD:=wH (P:=P) (w:=w) (base:=base) T
 have bL:=dU (P:=P) (w:=w) (base:=base) T
 refine T.RH.fn.ok dS (fun vs H Q E h=>vp h) (fun cx A outer s H vs Q E hr h=>?_)
 refine ⟨_,(ae (ao (i:=1) dS.nd rfl (Or.inl rfl) (aj yD (hr.mono (by decide)) rfl T.RG.mg T.RG.fn.kp T.RG.bd .nil aB (aa (pv 0) ab)))
   (ae (ao (i:=2) dS.nd rfl (Or.inl rfl) ah)
   (ae (ao (i:=3) dS.nd rfl (Or.inl rfl) (aC aK rfl T.z_len Y3 (aa (pv 1) ab)))
   (ae (dh PassesOwn.never (PW.pt (jm (aH DI (ay bJ (pv 3) (pv 2)) ah (aM _)) (iG (aH gS (aA dW (pv 1) (pv 2) (fun _ _=>rfl)) (aj bL (hr.mono (by decide)) rfl T.F0.mg T.F0.fn.kp T.F0.bd .nil aB (aa (aA dW (pv 1) (ay bJ (pv 3) ah) (fun _ _=>rfl)) ab)) (aM _))))) (ae (jo (i:=2) dS.nd rfl (Or.inl rfl) ah qq)
   (ai (jo (i:=3) dS.nd rfl (Or.inl rfl) ah Ku))))
   (ai (aF (bV o8 (pv 1) (bM (pv 2)) (bM (pv 3))))))))),?_⟩
 obtain ⟨l,rfl,hl,hz,q⟩:=h
 have hs:(100000:Nat)<sizeLine:=by decide
 refine ⟨_,rfl,l,rfl,hl,hz,fun H1 s1=>?_⟩
 have GP:=mB l
 have dq:=Ly hl
 generalize red l=r at GP dq q ⊢
 have VI:r.length<=sizeLine:=by omega
 walk_at "rd"
 refine ⟨fun m σ H'=> ∃(a e:Nat),σ=[some (.str (S l)),some (.str (S r)),some (.int a),some (.int e)]/\m=e - a/\a<=e/\e<=r.length/\core (Dm r a e)=core r/\H'=H1,⟨_,0,r.length,rfl,rfl,WT _,Ri _,by rw[HZ],rfl⟩,?_⟩
 rintro m σ H2 ⟨a,e,rfl,rfl,h1,h2,hc,rfl⟩
 have fin:core (Dm r a e)=Dm r a e->Q (.str (S (cut r (some (a:Int)) (some (e:Int))))) H2:=fun z=>by
  have e1:cut r (some (a:Int)) (some (e:Int))=Dm r a e:=by
   unfold cut Dm
   rw[HT.gE,HT.gE]
   have e1:min a r.length=a:=by omega
   have e2:min e r.length=e:=by omega
   rw[e1,e2]
  rw[e1, <-z,hc]
  exact q H2 s1
 walk_at "rd"
 refine bz (fun z=>?_) (fun z=>?_)
 ·have z1:(2:Int)<=(e:Int) - (a:Int):=of_decide_eq_true z
  have ha:a<r.length:=by omega
  have he:e - 1<r.length:=by omega
  have g0:o6 r (a:Int)=some r[a]:=bC (K3 ha)
  have g1:o6 r ((e:Int) - 1)=some r[e - 1]:=by
   have:(e:Int) - 1=((e - 1:Nat):Int):=by omega
   rw[this];exact bC (K3 he)
  have h8:r[e - 1]<128:=(dq _ (ZT he)).lt
  have hw:=Lz (l:=r) (s:=a) (e:=e) (by omega) h2
  refine ⟨_,rfl,_,rfl,r,_,_,rfl,rfl,VI,g0,?_⟩
  walk_at "rd"
  refine ⟨r,_,_,rfl,rfl,VI,g1,?_⟩
  walk_at "rd"
  refine bz (fun y=>?_) (fun y=>?_)
  ·have ey:r[a]=aI r[e - 1]:=by simpa using of_decide_eq_true y
   walk_at "rd"
   refine ⟨(e - 1) - (a+1),by omega,a+1,e - 1,?_,rfl,by omega,by omega,?_,rfl⟩
   ·have e1:(a:Int)+1=((a+1:Nat):Int):=by omega
    have e2:(e:Int) - 1=((e - 1:Nat):Int):=by omega
    rw[<-e1, <-e2]
    rfl
   ·rw[<-hc,hw,A0 ey]
  ·have ey:r[a]≠aI r[e - 1]:=fun w=>y (decide_eq_true (by rw[w]))
   walk_at "rd"
   exact fin (by rw[hw,nP ey])
 ·have z1: ¬(2:Int)<=(e:Int) - (a:Int):=fun w=>z (decide_eq_true w)
  walk_at "rd"
  exact fin (iP (by rw[HY h2];omega))
theorem BO:bp P w K mg base dY 4 Ng NY ["word"] (A1 K):=by
 have Ap:=yC (P:=P) (w:=w) (base:=base) T
 refine T.G0.fn.ok ky (fun vs H Q E h=>Ew h) (fun cx A outer s H vs Q E hr h=>?_)
 refine ⟨_,(ae (ao (i:=1) ky.nd rfl (Or.inl rfl) (aj Ap (hr.mono (by decide)) rfl T.RH.mg T.RH.fn.kp T.RH.bd .nil aB (aa (pv 0) ab)))
   (ae (ao (i:=2) ky.nd rfl (Or.inl rfl) (pv 1))
   (ae (bS PassesOwn.never rfl (nE rfl T.z_range (aa ah (aa (aC aK rfl T.z_len Y3 (aa (pv 1) ab)) ab))) (aP (i:=3) ky.nd rfl (Or.inl rfl)) (ae (ao (i:=4) ky.nd rfl (Or.inl rfl) (ay iK (bV o8 (pv 1) (bM (pv 3)) dH) (bV o8 (pv 1) dH (bM (pv 3)))))
   (ai (bI (aH u7 (pv 4) (pv 2) (aM _)) (ai (ao (i:=2) ky.nd rfl (Or.inl rfl) (pv 4))) a_))))
   (ai (aF (pv 2)))))),?_⟩
 obtain ⟨l,rfl,hl,hz,q⟩:=h
 have hs:(100000:Nat)<sizeLine:=by decide
 refine ⟨_,rfl,l,rfl,hl,hz,fun H1 s1=>?_⟩
 have XU:(core (red l)).length<=1000:=ZN (xQ _) (ZN (mB l) hz)
 unfold dv fV at q
 generalize core (red l)=c at XU q ⊢
 have XW:c.length<=sizeLine:=by omega
 walk_at "rd"
 refine ⟨_,_,rfl,⟨by decide,by decide,by omega,by omega⟩,?_⟩
 refine dc (fun i σ H'=>H'=H1/\ ∃sv bv,σ=[some (.str (S l)),some (.str (S c)),some (.str (S (ck c (mE c i)))),sv,bv]) ⟨rfl,none,none,rfl⟩ ?_ ?_
 ·rintro i σ H2 hi ⟨rfl,sv,bv,rfl⟩
  have e1:(1:Int)+(i:Int)=((i+1:Nat):Int):=by omega
  rw[e1]
  have hlen:(cut c (some ((i+1:Nat):Int)) none).length+(cut c none (some ((i+1:Nat):Int))).length<=sizeLine:=by rw[gn,hW,ZH,ZG];omega
  have Mo:cut c (some ((i+1:Nat):Int)) none++cut c none (some ((i+1:Nat):Int))=iC c (i+1):=by rw[gn,hW];rfl
  walk_at "rd"
  rw[Mo]
  refine bz (fun z=>?_) (fun z=>?_)
  ·have z':iC c (i+1)<ck c (mE c i):=of_decide_eq_true z
   have hle:ck c (mE c (i+1))=iC c (i+1):=by rw[tY,iQ];unfold cT;rw[if_pos z']
   refine ⟨_,rfl,?_⟩
   rw[hle]
   exact ⟨rfl,_,_,rfl⟩
  ·have z': ¬iC c (i+1)<ck c (mE c i):=fun y=>z (decide_eq_true y)
   have hle:ck c (mE c (i+1))=ck c (mE c i):=by rw[tY,iQ];unfold cT;rw[if_neg z']
   rw[hle]
   exact ⟨rfl,_,_,rfl⟩
 ·rintro σ H2 ⟨rfl,sv,bv,rfl⟩
  have e:((c.length:Int) - 1).toNat=c.length - 1:=by omega
  rw[e]
  exact ⟨_,rfl,q _ s1⟩
theorem BP:bp P w K mg base dY 5 Nh NZ ["word"] (A2 K):=by
 have wI:=BO (P:=P) (w:=w) (base:=base) T
 refine T.Md.fn.ok qh (fun vs H Q E h=>Ey h) (fun cx A outer s H vs Q E hr h=>?_)
 refine ⟨_,(ae (ao (i:=1) qh.nd rfl (Or.inl rfl) (aj wI (hr.mono (by decide)) rfl T.G0.mg T.G0.fn.kp T.G0.bd .nil aB (aa (pv 0) ab)))
   (ae (bS PassesOwn.never rfl (nE rfl T.z_range (aa ah (aa (ay aU (aC aK rfl T.z_len Y3 (aa (pv 1) ab)) ah) ab))) (aP (i:=2) qh.nd rfl (Or.inl rfl)) (ae (ao (i:=3) qh.nd rfl (Or.inl rfl) (ay fk (aC aK rfl T.z_len Y3 (aa (pv 1) ab)) (pv 2)))
   (ai (bI (aH gS (ay u_ (bV o8 (pv 1) dH (bM (pv 2))) (pv 3)) (pv 1) (aM _)) (ai (aF (bP (aa (bV o8 (pv 1) dH (bM (pv 2))) (aa (pv 3) ab))))) a_))))
   (ai (aF (bP (aa (kZ [] (by decide+kernel)) (aa ah ab))))))),?_⟩
 obtain ⟨l,rfl,hl,hz,q⟩:=h
 have hs:(100000:Nat)<sizeLine:=by decide
 walk_at "wk"
 intro H1 s1
 have hw:(dv l).length<=1000:=ZN (CD l) hz
 generalize dv l=c at hw q ⊢
 have XW:c.length<=sizeLine:=by omega
 walk_at "wk"
 refine ⟨_,_,rfl,⟨by decide,by decide,by omega,by omega⟩,?_⟩
 refine dc (fun i σ H'=>H'=H1/\(∀j,1<=j->j<=i-> ¬hZ c j)/\ ∃sv tv,σ=[some (.str (S l)),some (.str (S c)),sv,tv]) ⟨rfl,fun j h1 h2=>by omega,none,none,rfl⟩ ?_ ?_
 ·rintro i σ H2 hi ⟨rfl,RZ,sv,tv,rfl⟩
  have e1:(1:Int)+(i:Int)=((i+1:Nat):Int):=by omega
  rw[e1]
  have e2:(c.length:Int) / ((i+1:Nat):Int)=((c.length / (i+1):Nat):Int):=(Qc2 _ _).symm
  have hd:=Nat.div_le_self c.length (i+1)
  have hmul:(c.take (i+1)).length*(c.length / (i+1))<=sizeLine:=by
   have h1:(c.take (i+1)).length<=i+1:=by rw[ZG];omega
   have h2:=Nat.mul_div_le c.length (i+1)
   have h3:=Nat.mul_le_mul_right (c.length / (i+1)) h1
   omega
  walk_at "wk"
  refine ⟨⟨by rw[e2];exact Qdv _,by rw[e2];exact Int.ofNat_le.mpr (ZN hd (by omega:c.length<=1000000))⟩,by rw[e2,gn,U6];exact hmul,?_⟩
  walk_at "wk"
  refine bz (fun z=>?_) (fun z=>?_)
  ·have z1:hZ c (i+1):=by
    have:=of_decide_eq_true z
    rw[e2,gn,U6]at this
    exact this
   walk_at "wk"
   intro p np
   refine q p (i+1) _ (ak.free s1 np) ?_ (.inr ⟨by omega,by omega,z1,fun j j1 j2=>RZ j j1 (by omega)⟩) (s1.trans (ak.upd np))
   rw[ag]
   unfold JO
   rw[<-gn, <-e2]
  ·have z1: ¬hZ c (i+1):=fun y=>z (decide_eq_true (by
    rw[e2,gn,U6]
    exact y))
   refine ⟨rfl,fun j j1 j2=>?_,_,_,rfl⟩
   by_cases y:j=i+1
   ·rw[y];exact z1
   ·exact RZ j j1 (by omega)
 ·rintro σ H2 ⟨rfl,RZ,sv,tv,rfl⟩
  have hc:c=[]:=by
   by_cases z:c=[]
   ·exact z
   ·have hl:0<c.length:=WO.mpr z
    exact absurd (CF c z) (RZ _ hl (by omega))
  subst hc
  walk_at "wk"
  intro p np
  exact q p 0 _ (ak.free s1 np) (by rw[ag];rfl) (.inl ⟨rfl,rfl⟩) (s1.trans (ak.upd np))
theorem j6:bp P w K mg base dY 2 M4 NN ["word","place"] (jG K):=by
 have bL:=dU (P:=P) (w:=w) (base:=base) T
 refine T.GZ.fn.ok rP (fun vs H Q E h=>pB h) (fun cx A outer s H vs Q E hr h=>?_)
 refine ⟨_,(ai (aF (bP (aa (aj bL (hr.mono (by decide)) rfl T.F0.mg T.F0.fn.kp T.F0.bd .nil aB (aa (aA dW (pv 0) (ay bJ (pv 1) ah) (fun _ _=>rfl)) ab)) (aa (aA dW (pv 0) (pv 1) (fun _ _=>rfl)) ab))))),?_⟩
 obtain ⟨w,i,rfl,hl,hz,hi,q⟩:=h
 have hs:(100000:Nat)<sizeLine:=by decide
 have dz:w≠[]:=fun z=>by rw[z]at hi;simp at hi
 refine ⟨_,rfl,_,rfl,_,_,rfl,rfl,w,_,_,rfl,rfl,by omega,fz (by omega) (by omega),_,rfl,(hl _ (gW dz _)).lt,?_⟩
 refine ⟨_,rfl,_,rfl,w,_,_,rfl,rfl,by omega,fz (by omega) (by omega),by show 2<=sizeLine;decide,fun t nt=>?_⟩
 exact q t _ nt ag (ak.upd nt)
theorem j7:bp P w K mg base dY 1 f3 d3 ["yard","start","end"] (jC K):=by
 refine T.F3.fn.ok rO (fun vs H Q E h=>pA h) (fun cx A outer s H vs Q E hr h=>?_)
 refine ⟨_,(ai (aF (ay cI (ay bJ (bG K rfl ZI PySem.F.slot_str_find PySem.F.type_str_find xl (pv 0) (aa (pv 2) ab)) (bG K rfl ZI PySem.F.slot_str_find PySem.F.type_str_find xl (pv 0) (aa (pv 1) ab))) (aC aK rfl T.z_len Y3 (aa (pv 0) ab))))),?_⟩
 obtain ⟨y,a,b,rfl,ha,hb,hz,q⟩:=h
 have hs:(1000:Nat)<sizeLine:=by decide
 have hp:(0:Int)<(y.length:Int):=by have:=List.length_pos_of_mem ha;omega
 refine ⟨_,rfl,rfl,_,rfl,y,b,rfl,rfl,?_⟩
 rw[if_pos hb]
 refine ⟨_,rfl,rfl,_,rfl,y,a,rfl,rfl,?_⟩
 rw[if_pos ha]
 exact ⟨_,_,rfl,rfl,_,rfl,y,rfl,by omega,_,_,rfl,rfl,hp,q⟩
theorem pM:bp P w K mg base dY 3 Ni N0 ["yard","word","place"] (jc K):=by
 have e_:=j6 (P:=P) (w:=w) (base:=base) T
 have ff:=j7 (P:=P) (w:=w) (base:=base) T
 refine T.RI.fn.ok je (fun vs H Q E h=>n_ h) (fun cx A outer s H vs Q E hr h=>?_)
 refine ⟨_,(ae (ao (i:=3) je.nd rfl (Or.inl rfl) (aj e_ (hr.mono (by decide)) rfl T.GZ.mg T.GZ.fn.kp T.GZ.bd .nil aB (aa (pv 1) (aa (pv 2) ab))))
   (ai (aF (aj ff (hr.mono (by decide)) rfl T.F3.mg T.F3.fn.kp T.F3.bd .nil aB (aa (pv 0) (aa (aA (az K rfl) (pv 3) ah (fun _ _=>rfl)) (aa (aA (az K rfl) (pv 3) ah (fun _ _=>rfl)) ab))))))),?_⟩
 obtain ⟨y,w,i,rfl,hy,hz,hw,pK,hi,q⟩:=h
 refine ⟨_,rfl,_,rfl,w,i,rfl,fun c hc=>hy.lt c (hw.bK c hc),pK,hi,fun p H1 np hp s1=>?_⟩
 refine ⟨_,rfl,_,rfl,p,_,0,_,rfl,rfl,aX.of hp,rfl,_,rfl,p,_,1,_,rfl,rfl,aX.of hp,rfl,y,_,_,rfl,hy.cl _ (hw.rd _),hw.rd _,by omega,?_⟩
 have rg:=eS (hy.cl _ (hw.rd ((i:Int) - 1))) (hw.rd i) (Ne.symm (hw.red i))
 obtain ⟨n,hn⟩: ∃n:Nat,cst y w i=n:=⟨(cst y w i).toNat,by have:=rg.1;unfold cst;omega⟩
 have:=rg.2.1
 have e:xX y (aI (rd w ((i:Int) - 1))) (rd w i)=n:=hn
 have key:=q n H1 hn (by omega) s1
 rw[<-e]at key
 exact key
theorem Gu:bp P w K mg base dY 6 kQ yv ["self","yard","word","longest"] (yl K aW):=by
 have Aq:=BP (P:=P) (w:=w) (base:=base) T
 have wI:=BO (P:=P) (w:=w) (base:=base) T
 have j8:=ow (P:=P) (w:=w) (base:=base) T
 have rX:=pM (P:=P) (w:=w) (base:=base) T
 refine T.Qu.ok rR (fun vs H Q E h=>C2 h) (fun cx A outer s H vs Q E hr h=>?_)
 refine ⟨_,(ae (jr (pv 0) (aC aK rfl T.z_len Y3 (aa (pv 2) ab)) rfl)
   (ae (jr (pv 0) (aC aK rfl T.z_len Y3 (aa (aA (az K rfl) (aj Aq (hr.mono (by decide)) rfl T.Md.mg T.Md.fn.kp T.Md.bd .nil aB (aa (pv 2) ab)) ah (fun _ _=>rfl)) ab)) rfl)
   (ae (jr (pv 0) (gD u7 (aj wI (hr.mono (by decide)) rfl T.G0.mg T.G0.fn.kp T.G0.bd .nil aB (aa (pv 2) ab)) (aj wI (hr.mono (by decide)) rfl T.G0.mg T.G0.fn.kp T.G0.bd .nil aB (aa (aj j8 (hr.mono (by decide)) rfl T.F1.mg T.F1.fn.kp T.F1.bd .nil aB (aa (pv 2) ab)) ab)) (aM _)) rfl)
   (ae (ao (i:=4) rR.nd rfl (Or.inl rfl) (bG K rfl ZI Qbk Qbj (jx K rfl) (kZ [] (by decide+kernel)) (aa (fi ["place","yard","word"] [none,some 1,some 2] (eL rfl T.z_range (aa (aC aK rfl T.z_len Y3 (aa (pv 2) ab)) ab)) ⟨⟨rfl,rfl,by first | exact .inl rfl | exact .inr rfl⟩,⟨⟨rfl,rfl,by first | exact .inl rfl | exact .inr rfl⟩,trivial⟩⟩ (fun _ _ _ _=>(aP (i:=0) (by decide+kernel:List.Nodup (["place","yard","word"]:List Str)) rfl (Or.inl rfl))) (fun _ _ _ _=>ju) (fun _ _ _ _=>(de Cr rfl T.z_str boot_str (aa (aj rX (hr.mono (by decide)) rfl T.RI.mg T.RI.fn.kp T.RI.bd .nil aB (aa (pv 1) (aa (pv 2) (aa (pv 0) ab)))) ab)))) ab)))
   (ae (ao (i:=5) rR.nd rfl (Or.inl rfl) (ay aU ah (ay fk (pv 3) (aC (sZ rfl) rfl T.z_max boot_max (aa (aC aK rfl T.z_len Y3 (aa (pv 2) ab)) (aa ah ab))))))
   (ae (jr (pv 0) (ay u_ (pv 4) (pv 5)) rfl)
   (ai (jr (pv 0) (ay u_ (HN (pv 4) (bM (lX iJ ah))) (pv 5)) rfl)))))))),?_⟩
 obtain ⟨x,dx,y,w',lg,rfl,hx,hy,hz,hw,zg,R0,q⟩:=h
 have hs:(100000:Nat)<sizeLine:=by decide
 have dq: ∀c∈w',Lt c:=fun c hc=>hy.lt c (hw.bK c hc)
 have h8: ∀c∈w',c<128:=fun c hc=>(dq c hc).lt
 have ht:=hw.eK hy
 have XX: ∀c∈eK w',Lt c:=fun c hc=>hy.lt c (ht.bK c hc)
 have h1:1<=w'.length:=WO.mpr hw.ne
 have rl:=mZ (lg:=lg) h1
 obtain ⟨rt,R1⟩:=A_ hw.ne
 refine ⟨_,rfl,w',rfl,by omega,_,rfl,x,aW,dx,_,rfl,hx,T.gP,T.n_Way_size,by show 0<1000;decide,?_⟩
 refine ⟨_,rfl,w',rfl,dq,by omega,fun p1 s1 H1 n1 pj GP QA=>?_⟩
 obtain ⟨er,el⟩:=uc hy hw GP R1
 subst er
 have et:((dv w').take s1).length=s1:=by
  rw[ZG,el]
  rcases R1 with ⟨z,_⟩ | ⟨_,h2,_⟩
  ·exact absurd z hw.ne
  ·omega
 have XY:s1<=w'.length:=by
  rcases R1 with ⟨z,_⟩ | ⟨_,h2,_⟩
  ·exact absurd z hw.ne
  ·exact h2
 have XZ:=QA _ _ (ag (H:=H) (a:=x))
 refine ⟨p1,_,0,_,rfl,rfl,aX.of pj,rfl,_,rfl,by rw[et];omega,_,rfl,x,aW,dx,_,rfl,XZ,T.gP,T.n_Way_root_size,ZW (da _ _ _) (by show 0+1<1000;decide),?_⟩
 rw[et]
 refine ⟨_,rfl,w',rfl,dq,by omega,fun H2 s2=>⟨_,rfl,w',rfl,h8,by omega,fun H3 s3=>⟨eK w',rfl,XX,by rw[cn];omega,fun H4 s4=>?_⟩⟩⟩
 have VJ:=s2.trans (s3.trans s4)
 have Dw:=VJ _ _ (ag (a:=x))
 refine ⟨_,_,rfl,rfl,_,rfl,x,aW,dx,_,rfl,Dw,T.gP,T.n_Way_leads,ZW (da _ _ _) (ZW (Qa2 (da _ _ _)) (by show 0+1+1<1000;decide)),?_⟩
 have X0:decide (dv w'<dv (eK w'))=leads w':=by
  unfold leads
  rw[hw.dv hy,ht.dv hy]
 refine ⟨rfl,_,rfl,w',rfl,by omega,_,rfl,by omega,by omega,?_⟩
 rw[U6]
 refine D5 (fun i acc H'=>ak _ H'/\acc=dX ((stx y w').take i)) (by omega) ⟨ak.refl _,rfl⟩ ?_ ?_
 ·rintro i acc H5 Nx hi hl ⟨s5,rfl⟩ nx
  refine ⟨⟨rfl,rfl,trivial⟩,gH ⟨_,rfl,_,rfl,_,rfl,y,w',i,by rw[Qay];rfl,hy,hz,hw,by omega,hi,fun n H6 hn Zh s6=>⟨n,rfl,by omega,nx _ _ (by simpa using hl) ⟨s5.trans s6,?_⟩⟩⟩⟩
  have eg:(stx y w')[i]? =some (48+n):=by
   unfold stx
   rw[Y5,List.getElem?_range hi]
   show some (yQ (cst y w' i))=_
   rw[hn]
   unfold yQ
   congr 1
  rw[L6 n (by omega),ft,take_snoc eg]
 ·rintro acc H5 D hl ⟨s5,rfl⟩ hD
  have QE:(stx y w').take w'.length=stx y w':=ZM (by rw[dk];exact Ri _)
  rw[QE]at hl ⊢
  refine ⟨D,(stx y w').map fun c=>[c],rfl,rfl,bu.of (by rw[ag, <-hV]),by rw[Cy,dk];omega,?_⟩
  rw[tW]
  have VL:=s5.trans (ak.upd (o:= .lst (dX (stx y w'))) hD)
  have J6:=VL _ _ (ag (a:=x))
  have T9:(if (1:Int)>(w'.length:Int) then (1:Int) else (w'.length:Int))=(max w'.length 1:Nat):=by split<;>omega
  have Mp:(3:Int)+(lg:Int) / (if (1:Int)>(w'.length:Int) then (1:Int) else (w'.length:Int))=(jO lg w'.length:Nat):=by
   rw[T9]
   unfold jO
   rw[ZZ,Qc2]
   rfl
  have rb:jO lg w'.length<=1003:=by unfold jO;have:=Nat.div_le_self lg (max w'.length 1);omega
  refine ⟨_,rfl,_,rfl,w',rfl,by omega,_,_,rfl,_,_,rfl,rfl,⟨by rw[T9];omega,by rw[T9];omega⟩,_,_,rfl,rfl,?_⟩
  have l3: ∀(a b c:V),(d_ "leads" a (d_ "root_size" b (d_ "size" c []))).length<=3:=fun a b c=>ZN (da _ _ _) (Qa2 (ZN (da _ _ _) (Qa2 (da _ _ _))))
  refine ⟨_,rfl,_,rfl,stx y w',_,rfl,rfl,⟨by rw[Mp];omega,by rw[Mp];omega⟩,by rw[Mp,U6,dk];omega,_,rfl,x,aW,dx,_,rfl,J6,T.gP,T.n_Way_onward,ZW (l3 _ _ _) (by decide),?_⟩
  refine ⟨_,rfl,1,rfl,_,rfl,rfl,stx y w',rfl,by rw[dk];omega,_,rfl,(stx y w').reverse,_,rfl,rfl,⟨by rw[Mp];omega,by rw[Mp];omega⟩,by rw[Mp,U6,ZX,dk];omega,_,rfl,x,aW,dx,_,rfl,ag,T.gP,T.n_Way_backward,ZW (da _ _ _) (ZW (Qa2 (l3 _ _ _)) (by decide)),?_⟩
  refine q s1 _ R1 ?_ fun b o eb zb=>?_
  ·rw[ag]
   unfold n5
   rw[<-X0,Mp,U6]
  ·rw[au zb,au zb]
   refine VL _ _ ?_
   rw[au zb]
   refine VJ _ _ ?_
   rw[au zb]
   refine QA _ _ ?_
   rw[au zb]
   exact eb
theorem wJ:bp P w K mg base dY 8 Nq N9 ["yard","words"] (BI K):=by
 have j8:=ow (P:=P) (w:=w) (base:=base) T
 have wK:=yA (P:=P) (w:=w) (base:=base) T
 have wL:=sR (P:=P) (w:=w) (base:=base) T
 have BQ:=Gu (P:=P) (w:=w) (base:=base) T
 refine T.G1.fn.ok wB (fun vs H Q E h=>FX h) (fun cx A outer s H vs Q E hr h=>?_)
 refine ⟨_,(ae (ao (i:=2) wB.nd rfl (Or.inr rfl) (HQ K rfl rfl rfl T.z_max (aa (fi ["word"] [none] (u9 K rfl (pv 1)) trivial (fun _ _ _ _=>(aP (i:=0) (by decide+kernel:List.Nodup (["word"]:List Str)) rfl (Or.inl rfl))) (fun _ _ _ _=>ju) (fun _ _ _ _=>(aC aK rfl T.z_len Y3 (aa (pv 0) ab)))) ab)))
   (ae (ao (i:=3) wB.nd rfl (Or.inr rfl) (fi ["word","yard","longest"] [none,some 0,some 2] (u9 K rfl (pv 1)) ⟨⟨rfl,rfl,by first | exact .inl rfl | exact .inr rfl⟩,⟨⟨rfl,rfl,by first | exact .inl rfl | exact .inr rfl⟩,trivial⟩⟩ (fun _ _ _ _=>(aP (i:=0) (by decide+kernel:List.Nodup (["word","yard","longest"]:List Str)) rfl (Or.inl rfl))) (fun _ _ _ _=>ju) (fun _ _ _ _=>(bP (aa (pX T.J3 BQ (hr.mono (by decide)) rfl T.J2 T.J4 .nil aB (aa (pv 1) (aa (pv 0) (aa (pv 2) ab)))) (aa (pX T.J3 BQ (hr.mono (by decide)) rfl T.J2 T.J4 .nil aB (aa (pv 1) (aa (aj j8 (hr.mono (by decide)) rfl T.F1.mg T.F1.fn.kp T.F1.bd .nil aB (aa (pv 0) ab)) (aa (pv 2) ab)))) ab))))))
   (ai (aF (bP (aa (de (cY K rfl) rfl T.z_tuple boot_tuple (aa (pv 1) ab)) (aa (de (cY K rfl) rfl T.z_tuple boot_tuple (aa (fi ["band","words","ways"] [none,some 1,some 3] (u5 (aj wK (hr.mono (by decide)) rfl T.F2.mg T.F2.fn.kp T.F2.bd .nil aB (aa (pv 0) ab))) ⟨⟨rfl,rfl,by first | exact .inl rfl | exact .inr rfl⟩,⟨⟨rfl,rfl,by first | exact .inl rfl | exact .inr rfl⟩,trivial⟩⟩ (fun _ _ _ _=>(aP (i:=0) (by decide+kernel:List.Nodup (["band","words","ways"]:List Str)) rfl (Or.inl rfl))) (fun _ _ _ _=>ju) (fun _ _ _ _=>(aj wL (hr.mono (by decide)) rfl T.RM.mg T.RM.fn.kp T.RM.bd .nil aB (aa (pv 1) (aa (pv 2) (aa (pv 0) ab)))))) ab)) ab))))))),?_⟩
 obtain ⟨y,wt,ws,rfl,hy,hz,qj,T4,wG,q⟩:=h
 have hs:(100000:Nat)<sizeLine:=by decide
 have R3: ∀c∈y,c<128:=Ep hy.lt
 have X1:=jM hy
 obtain ⟨lg,X2,X3,R0⟩:=Af fun w hw=>(wG w hw).2
 refine ⟨_,rfl,wt,rfl,⟨_,aX.of qj⟩,?_⟩
 refine qK (K:=K) (a:=wt) (xs:=iN ws) (fun i acc H'=>H'=H/\acc=(IS (ws.take i)).map V.int) (by rw[bH];omega) (fun i acc H' h=>by rw[h.1];exact aX.of qj) ⟨rfl,rfl⟩ ?_ ?_
 ·rintro i x acc H1 Nx hi hx hl ⟨rfl,rfl⟩ nx
  rw[bH]at hi
  rw[iO hi]at hx
  cases hx
  have Mq:=wG ws[i] (ZT hi)
  refine ⟨trivial,gH ⟨_,rfl,ws[i],rfl,by omega,nx _ _ (by simpa using hl) ⟨rfl,?_⟩⟩⟩
  rw[<-take_snoc (K3 hi)]
  unfold IS
  rw[WQ,WQ]
  rfl
 ·rintro acc H1 D hl ⟨rfl,rfl⟩ hD
  rw[bH,Z8]
  refine ⟨D,IS ws,rfl,bu.of ag,?_⟩
  rw[X2]
  have sD:=ak.upd (o:= .lst ((IS ws).map V.int)) hD
  refine ⟨_,rfl,wt,rfl,⟨_,aX.of (sD _ _ qj)⟩,?_⟩
  refine qK (K:=K) (a:=wt) (xs:=iN ws) (fun i acc H'=>ak H1 H'/\ ∃nA:List Wp,acc=GY nA/\nA.length=i/\ ∀(c:Nat) (w:List Nat) (p:Wp),ws[c]? =some w->nA[c]? =some p->wa H' aW y lg w p) (by rw[bH];omega) (fun i acc H' h=>aX.of (h.1 _ _ qj)) ⟨sD,[],rfl,rfl,fun c w p _ h=>by simp at h⟩ ?_ ?_
  ·rintro i x acc H2 Nx hi hx Hr ⟨s2,nA,rfl,zg,QC⟩ nx
   rw[bH]at hi
   rw[iO hi]at hx
   cases hx
   have Mq:=wG ws[i] (ZT hi)
   have VM:ws[i]? =some ws[i]:=K3 hi
   have QF:=R0 ws[i] (ZT hi)
   generalize ws[i]=w' at Mq VM QF ⊢
   have h8: ∀c∈w',c<128:=fun c hc=>(hy.lt c (Mq.1.bK c hc)).lt
   refine ⟨⟨rfl,rfl,trivial⟩,gH ?_⟩
   refine ⟨_,rfl,_,rfl,_,rfl,fun x1 VN X4 T_ ne1=>⟨x1,VN,y,w',lg,rfl,ag,hy,hz,Mq.1,QF,by omega,fun r H3 hr QG X5=>⟨rfl,?_⟩⟩⟩
   have QH:=uE X4 T_ X5
   refine ⟨_,rfl,_,rfl,w',rfl,h8,by omega,fun H4 QI=>⟨_,rfl,fun x2 VO X6 Ua ne2=>⟨x2,VO,y,eK w',lg,rfl,ag,hy,hz,Mq.1.eK hy,by rw[cn];exact QF,by omega,fun r2 H5 AV J6 X7=>⟨rfl,?_⟩⟩⟩⟩
   have X8:=uE X6 Ua X7
   refine ⟨by show 2<=sizeLine;decide,fun t nt=>?_⟩
   have VP:=ak.upd (o:= .tup [.ref x1, .ref x2]) nt
   have Ou:=QI.trans (X8.trans VP)
   have all:=QH.trans Ou
   refine nx _ _ (by simpa using Hr) ⟨s2.trans all,nA++[⟨t,x1,x2,r,r2⟩],FU nA ⟨t,x1,x2,r,r2⟩,by rw[U5,zg];rfl,IU zg (fun c w p a b=>(QC c w p a b).same all) VM ⟨ag,⟨⟨VN,Ou _ _ QG⟩,Mq.1,QF,by omega,hr⟩,⟨⟨VO,VP _ _ J6⟩,Mq.1.eK hy,by rw[cn];exact QF,by omega,AV⟩⟩⟩
  ·rintro acc H2 D2 Hr ⟨s2,nA,rfl,zg,QC⟩ X9
   rw[bH]at zg
   have VQ:=ak.upd (o:= .lst (GY nA)) X9
   have sg:=s2.trans VQ
   refine ⟨_,rfl,wt,_,rfl, .inr ⟨aX.of (sg _ _ qj),?_⟩⟩
   refine ⟨_,rfl,y,rfl,R3,by omega,fun l' H3 Ay Ub s3=>?_⟩
   have el:=Br Ay Ub
   subst el
   refine ⟨_,rfl,?_⟩
   have G3:=sg.trans s3
   have X_:=s3 _ _ (ag (H:=H2) (a:=D2) (o:=HO.lst (GY nA)))
   refine mi (xs:=dX (gg y)) (fun i acc H'=>ak H3 H'/\ ∃os:List Od,acc=ID os/\(∀o∈os,CT H' o)/\os.length=i/\(∀(j:Nat) (o:Od) (b:Nat),os[j]? =some o->(gg y)[j]? =some b->(o.ps.map Pr.pair).Perm (c_ b ws ws.length))/\ ∀o∈os,FW y ws (2*lg) (o.ps.map Pr.pair)) (by rw[bf];omega) ⟨ak.refl _,[],rfl,fun _ h=>absurd h Zu,rfl,fun j o b h=>by simp at h,fun _ h=>absurd h Zu⟩ ?_ ?_
   ·rintro i x acc H4 Nx hi hx Jc ⟨s4,os,rfl,P7,LV,Uc,Ud⟩ nx
    obtain ⟨b,hb,rfl⟩:=j_ hx
    have Ya:=yo hy (Y4 hb)
    refine ⟨⟨rfl,rfl,trivial⟩,gH ?_⟩
    refine ⟨_,rfl,_,rfl,_,rfl,y,lg,wt,D2,ws,nA,b,rfl,hy,hz,s4 _ _ (G3 _ _ qj),T4,wG,Ya,s4 _ _ X_,zg,fun c w p a1 a2=>(QC c w p a1 a2).same (VQ.trans (s3.trans s4)),fun t ps H5 nt ht sP wD Ot s5=>?_⟩
    have VB:ps.length<=100:=by
     have h1:=wD.length_eq
     have h2:=jU b (fun w hw=>(wG w hw).2) ws.length (Ri _)
     rw[MO]at h1
     omega
    refine nx _ _ (by simpa using Jc) ⟨s4.trans s5,os++[⟨t,ps⟩],Fj os ⟨t,ps⟩,fun o ho=>?_,by rw[U5,LV];rfl,fun j o b' ho JS=>?_,fun o ho=>?_⟩
    ·rcases Zx.mp ho with g | g
     ·exact (P7 o g).same s5
     ·rw[U7.mp g]
      exact ⟨ht,sP,VB⟩
    ·by_cases z:j<os.length
     ·rw[Z7 z]at ho
      exact Uc j o b' ho JS
     ·rw[Qag (by omega)]at ho
      have:j=i:=by
       have:=(K4.mp ho).1
       simp at this
       omega
      subst this
      rw[LV,Nat.sub_self]at ho
      cases ho
      rw[hb]at JS
      cases JS
      exact wD
    ·rcases Zx.mp ho with g | g
     ·exact Ud o g
     ·rw[U7.mp g]
      exact Ot
   ·rintro acc H4 D3 Jc ⟨s4,os,rfl,P7,LV,Uc,Ud⟩ Yb
    rw[bf]at LV
    refine ⟨D3,_,rfl, .inl ⟨bu.of ag,fun t nt=>?_⟩⟩
    refine ⟨by show 2<=sizeLine;decide,fun dr Ue=>?_⟩
    have sA:=(ak.upd (o:= .lst (ID os)) Yb).trans ((ak.upd (o:= .tup (ID os)) nt).trans (ak.upd (o:= .tup [.ref wt, .ref t]) Ue))
    have Yc:t≠dr:=fun z=>by rw[<-z,ag]at Ue;cases Ue
    have J9:=G3.trans s4
    exact q dr os _ ⟨⟨wt,t,ag,sA _ _ (J9 _ _ qj),by rw[au Yc,ag]⟩,fun o ho=>(P7 o ho).same sA⟩ ⟨2*lg,fun w hw v hv=>by have:=R0 w hw;have:=R0 v hv;omega,⟨LV,Uc⟩,Ud⟩ (J9.trans sA)
theorem sU:bp P w K mg base dY 1 Na NU ["words"] (kK K):=by
 refine T.RE.fn.ok dG (fun vs H Q E h=>qX h) (fun cx A outer s H vs Q E hr h=>?_)
 refine ⟨_,(ae (ao (i:=1) dG.nd rfl (Or.inl rfl) (cJ ab))
   (ae (bS PassesOwn.never rfl (qJ K rfl rfl T.z_enumerate (aa (pv 0) ab)) (iL (n:=2) K rfl rfl (cj (aP (i:=2) dG.nd rfl (Or.inl rfl)) (cj (aP (i:=3) dG.nd rfl (Or.inl rfl)) iH))) (ai (bS PassesOwn.never rfl (eL rfl T.z_range (aa (aC aK rfl T.z_len Y3 (aa (pv 3) ab)) ab)) (aP (i:=4) dG.nd rfl (Or.inl rfl)) (ai (b7 (bG K rfl ZD Z2 Z1 cy (pv 1) (aa (bP (aa (pv 2) (aa (pv 4) ab))) ab)))))))
   (ai (aF (pv 1))))),?_⟩
 obtain ⟨wt,ws,rfl,hw,hf,hz,q⟩:=h
 have hs:(100000:Nat)<sizeLine:=by decide
 walk_at "wk"
 intro t nt
 refine ⟨_,rfl,wt,rfl,⟨_,aX.of ((ak.upd nt) _ _ hw)⟩,?_⟩
 have xg: ∀n,n<=ws.length->(ny ws n).length<=n*12:=mN hz
 refine nN (K:=K) (a:=wt) (xs:=iN ws) (fun n σ H'=> ∃(ps:List Sd) (cv wv pv:Option V),σ=[some (.ref wt),some (.ref t),cv,wv,pv]/\H' t=some (.lst (Dp ps))/\ud H' ps/\ps.map Sd.pair=ny ws n/\ak H H')
  ⟨[],none,none,none,rfl,ag,fun _ h=>absurd h Zu,rfl,ak.upd nt⟩ (fun n σ H' _ ⟨_,_,_,_,_,_,_,_,s⟩=>aX.of (s _ _ hw)) ?_ ?_
 ·rintro n x σ H1 T hx ⟨ps,cv,wv,pv,rfl,ht,sP,lS,s1⟩ nT
  have hn:n<ws.length:=by
   have:=(K4.mp hx).1
   rwa [bH]at this
  rw[getD_at hn]at hx
  cases hx
  have pK:=hz _ (getD_in hn)
  have sT:=ak.upd (o:= .tup [.int n, .str (S (ws.getD n []))]) nT
  refine ⟨T,_,rfl,aX.of ag,rfl,_,_,rfl,_,_,rfl,rfl,?_⟩
  refine ⟨_,rfl,_,rfl,by omega,_,rfl,by omega,by omega,?_⟩
  rw[U6]
  refine dc (fun k σ H'=> ∃(us:List Sd) (pv:Option V),σ=[some (.ref wt),some (.ref t),some (.int n),some (.str (S (ws.getD n []))),pv]/\H' t=some (.lst (Dp us))/\ud H' us/\us.map Sd.pair=ny ws n++(List.range k).map (fun i=>(n,i))/\ak H H')
   ⟨ps,pv,rfl,sT _ _ ht,sP.ts (ba.of sT),by rw[lS];simp,s1.trans sT⟩ ?_ ?_
  ·rintro k σ H2 hk ⟨us,TU,rfl,nB,sC,qk,s2⟩
   have BN:us.length=(ny ws n).length+k:=by
    have:=congrArg List.length qk
    rw[MO,U5,MO,Qbl]at this
    exact this
   have:=xg n (by omega)
   refine ⟨_,rfl, .inl ⟨rfl,_,bu.of nB⟩,_,rfl,_,rfl,by show 2<=sizeLine;decide,fun u nu=>?_⟩
   have Ye:t≠u:=aq nB nu
   have su:=ak.upd (o:= .tup [.int n, .int (0+(k:Int))]) nu
   refine ⟨t,_,_,rfl,rfl,su _ _ nB,by rw[p_];omega,?_⟩
   have e0:(0:Int)+(k:Int)=((k:Nat):Int):=by omega
   refine ⟨us++[⟨u,n,k⟩],_,rfl,by rw[ag];rw[EM us ⟨u,n,k⟩],fun p hp=>?_,by rw[WQ,qk,kb,WQ,Qak];rfl,fun a o ea=>by rw[au (aq ea nt)];exact su _ _ (s2 a o ea)⟩
   rcases Zx.mp hp with g | g
   ·have:=sC p g
    have pt:p.t≠t:=fun z=>by rw[z,nB]at this;cases this
    rw[au pt]
    exact su _ _ this
   ·rw[U7.mp g]
    show upd _ t _ u=_
    rw[au (Ne.symm Ye),ag,e0]
  ·rintro σ H2 ⟨us,TU,rfl,nB,sC,qk,s2⟩
   exact ⟨us,_,_,_,rfl,nB,sC,qk,s2⟩
 ·rintro σ H1 ⟨ps,cv,wv,pv,rfl,ht,sP,lS,s1⟩
  rw[bH]at lS
  exact ⟨_,rfl,q t ps H1 nt ht sP lS s1⟩
theorem kU:bp P w K mg base dY 2 f4 d4 ["yard","x","y","z"] (kJ K):=by
 have ff:=j7 (P:=P) (w:=w) (base:=base) T
 refine T.F4.fn.ok sN (fun vs H Q E h=>qU h) (fun cx A outer s H vs Q E hr h=>?_)
 refine ⟨_,(ai (aF (gD i5 (aj ff (hr.mono (by decide)) rfl T.F3.mg T.F3.fn.kp T.F3.bd .nil aB (aa (pv 0) (aa (pv 1) (aa (pv 2) ab)))) (aj ff (hr.mono (by decide)) rfl T.F3.mg T.F3.fn.kp T.F3.bd .nil aB (aa (pv 0) (aa (pv 1) (aa (pv 3) ab)))) (aM _)))),?_⟩
 obtain ⟨y,a,b,c,rfl,ha,hb,hc,hz,q⟩:=h
 refine ⟨_,rfl,_,rfl,_,rfl,y,a,b,rfl,ha,hb,hz,?_⟩
 refine ⟨_,rfl,_,rfl,_,rfl,y,a,c,rfl,ha,hc,hz,?_⟩
 exact ⟨_,_,rfl,rfl,q⟩
theorem pN:bp P w K mg base dY 3 M5 NO ["yard","one","i","other","j"] (i9 K):=by
 have e_:=j6 (P:=P) (w:=w) (base:=base) T
 have eJ:=kU (P:=P) (w:=w) (base:=base) T
 refine T.Rz.fn.ok fS (fun vs H Q E h=>nU h) (fun cx A outer s H vs Q E hr h=>?_)
 refine ⟨_,(ae (ao (i:=5) fS.nd rfl (Or.inl rfl) (aj e_ (hr.mono (by decide)) rfl T.GZ.mg T.GZ.fn.kp T.GZ.bd .nil aB (aa (pv 1) (aa (pv 2) ab))))
   (ae (ao (i:=6) fS.nd rfl (Or.inl rfl) (aj e_ (hr.mono (by decide)) rfl T.GZ.mg T.GZ.fn.kp T.GZ.bd .nil aB (aa (pv 3) (aa (pv 4) ab))))
   (ae (bI (PW.pt (w4 (aH (D_ K rfl) (aA (az K rfl) (pv 6) ah (fun _ _=>rfl)) (pv 5) (by with_unfolding_all rfl)) (qp (aH (D_ K rfl) (aA (az K rfl) (pv 6) ah (fun _ _=>rfl)) (pv 5) (by with_unfolding_all rfl))))) (ai (aF AA)) a_)
   (ai (aF (gD D9 (aj eJ (hr.mono (by decide)) rfl T.F4.mg T.F4.fn.kp T.F4.bd .nil aB (aa (pv 0) (aa (aA (az K rfl) (pv 5) ah (fun _ _=>rfl)) (aa (aA (az K rfl) (pv 6) ah (fun _ _=>rfl)) (aa (aA (az K rfl) (pv 5) ah (fun _ _=>rfl)) ab))))) (aj eJ (hr.mono (by decide)) rfl T.F4.mg T.F4.fn.kp T.F4.bd .nil aB (aa (pv 0) (aa (aA (az K rfl) (pv 5) ah (fun _ _=>rfl)) (aa (aA (az K rfl) (pv 6) ah (fun _ _=>rfl)) (aa (aA (az K rfl) (pv 5) ah (fun _ _=>rfl)) ab))))) (aM _))))))),?_⟩
 obtain ⟨y,w,i,v,j,rfl,hy,hz,hw,hv,wz,vz,hi,hj,q⟩:=h
 have hs:(100000:Nat)<sizeLine:=by decide
 have lw: ∀c∈w,Lt c:=fun c hc=>hy.lt c (hw.bK c hc)
 have lv: ∀c∈v,Lt c:=fun c hc=>hy.lt c (hv.bK c hc)
 refine ⟨_,rfl,_,rfl,w,i,rfl,lw,by omega,hi,fun p1 H1 np hp s1=>?_⟩
 refine ⟨_,rfl,_,rfl,v,j,rfl,lv,by omega,hj,fun p2 H2 nr AV s2=>?_⟩
 have jj:=s2 _ _ hp
 have Ug:=s1.trans s2
 have ma:=hy.cl _ (hw.rd ((i:Int) - 1))
 have mb:=hw.rd i
 have mp:=hy.cl _ (hv.rd ((j:Int) - 1))
 have mq:=hv.rd j
 unfold JR at q
 generalize aI (rd w ((i:Int) - 1))=a at q hp jj ma
 generalize rd w i=b at q hp jj mb
 generalize aI (rd v ((j:Int) - 1))=c at q AV mp
 generalize rd v j=d at q AV mq
 unfold ac at q
 have i1:=vc c a b
 have i2:=vc d a b
 have fl:[V.str (S [a]),V.str (S [b])].all lZ=true:=rfl
 refine ⟨_,rfl,p2,_,0,_,rfl,rfl,aX.of AV,rfl,_,rfl,p1,_,rfl, .inr (aX.of jj),rfl,fl,?_⟩
 rw[i1]
 refine ⟨_,rfl,bz (fun z=>?_) (fun z=>?_)⟩
 ·refine DT ?_
  have e:c=a\/c=b:=by simpa using z
  rw[if_pos (e.elim .inl fun e=> .inr (.inl e))]at q
  exact q _ Ug
 ·have e: ¬(c=a\/c=b):=by simpa using z
  refine ⟨_,rfl,p2,_,1,_,rfl,rfl,aX.of AV,rfl,_,rfl,p1,_,rfl, .inr (aX.of jj),rfl,fl,?_⟩
  rw[i2]
  refine ⟨_,rfl,bz (fun z2=>?_) (fun z2=>?_)⟩
  ·have e2:d=a\/d=b:=by simpa using z2
   rw[if_pos (.inr (.inr e2))]at q
   exact q _ Ug
  ·have e2: ¬(d=a\/d=b):=by simpa using z2
   rw[if_neg (fun g=>g.elim (fun g=>e (.inl g)) fun g=>g.elim (fun g=>e (.inr g)) e2)]at q
   refine ⟨_,rfl,_,rfl,p1,_,0,_,rfl,rfl,aX.of jj,rfl,_,rfl,p2,_,0,_,rfl,rfl,aX.of AV,rfl,_,rfl,p1,_,1,_,rfl,rfl,aX.of jj,rfl,y,a,c,b,rfl,ma,mp,mb,by omega,?_⟩
   refine ⟨_,rfl,_,rfl,p1,_,0,_,rfl,rfl,aX.of jj,rfl,_,rfl,p2,_,1,_,rfl,rfl,aX.of AV,rfl,_,rfl,p1,_,1,_,rfl,rfl,aX.of jj,rfl,y,a,d,b,rfl,ma,mq,mb,by omega,?_⟩
   refine ⟨_,_,rfl,rfl,?_⟩
   have e3:(gr y a c b != gr y a d b)=!decide (gr y a c b=gr y a d b):=by cases gr y a c b<;>cases gr y a d b<;>rfl
   rw[e3]at q
   exact q _ Ug
theorem ng:bp P w K mg base dY 1 M6 NP ["one","i","other","j"] (gK K):=by
 refine T.RA.fn.ok eG (fun vs H Q E h=>lC h) (fun cx A outer s H vs Q E hr h=>?_)
 refine ⟨_,(ae (ao (i:=4) eG.nd rfl (Or.inl rfl) ah)
   (ae (dh PassesOwn.never (aH gS (aA dW (pv 0) (ay cI (ay aU (pv 1) (pv 4)) (aC aK rfl T.z_len Y3 (aa (pv 0) ab))) (fun _ _=>rfl)) (aA dW (pv 2) (ay cI (ay aU (pv 3) (pv 4)) (aC aK rfl T.z_len Y3 (aa (pv 2) ab))) (fun _ _=>rfl)) (aM _)) (ai (jo (i:=4) eG.nd rfl (Or.inl rfl) ah qq)))
   (ai (aF (pv 4))))),?_⟩
 obtain ⟨w,i,v,j,m,rfl,hw,hv,wz,vz,iz,jz,mz,hm,hn,q⟩:=h
 have hs:(100000:Nat)<sizeLine:=by decide
 have pw:(0:Int)<(w.length:Int):=by have:=WO.mpr hw;omega
 have pv:(0:Int)<(v.length:Int):=by have:=WO.mpr hv;omega
 refine ⟨fun t σ H'=>H'=H/\ ∃k:Nat,σ=[some (.str (S w)),some (.int i),some (.str (S v)),some (.int j),some (.int k)]/\t=m - k/\k<=m,⟨_,rfl,0,rfl,rfl,WT _⟩,?_⟩
 rintro t σ H1 ⟨rfl,k,rfl,rfl,hk⟩
 refine ⟨_,rfl,_,rfl,_,rfl,_,_,rfl,rfl,_,rfl,w,rfl,by omega,_,_,rfl,rfl,pw,w,_,_,rfl,rfl,by omega,qV hw _,?_⟩
 refine ⟨_,rfl,_,rfl,_,rfl,_,_,rfl,rfl,_,rfl,v,rfl,by omega,_,_,rfl,rfl,pv,v,_,_,rfl,rfl,by omega,qV hv _,?_⟩
 refine ⟨[rd w (i+k)],[rd v (j+k)],rfl,rfl,_,rfl,bz (fun z=>?_) (fun z=>?_)⟩
 ·have e:rd w (i+k)=rd v (j+k):=by simpa using z
  have Uh:k<m:=Nat.lt_of_le_of_ne hk fun g=>hn (by rw[<-g];exact e)
  refine ⟨_,rfl,_,_,rfl,rfl,?_⟩
  exact ⟨m - (k+1),by omega,rfl,k+1,rfl,rfl,Uh⟩
 ·have e:rd w (i+k)≠rd v (j+k):=fun g=>z (by simp[g])
  have Uh:k=m:=by
   by_cases g:k<m
   ·exact absurd (hm k g) e
   ·omega
  rw[Uh]
  exact ⟨_,rfl,q⟩
theorem iw:bp P w K mg base dY 3 M7 NQ ["yard","one","i","other","j"] (h_ K):=by
 have oz:=ng (P:=P) (w:=w) (base:=base) T
 have eJ:=kU (P:=P) (w:=w) (base:=base) T
 have bL:=dU (P:=P) (w:=w) (base:=base) T
 refine T.Mc.fn.ok cE (fun vs H Q E h=>mK h) (fun cx A outer s H vs Q E hr h=>?_)
 refine ⟨_,(ae (bI (PW.pt (w4 (aH D7 (aA dW (pv 1) (pv 2) (fun _ _=>rfl)) (aA dW (pv 3) (pv 4) (fun _ _=>rfl)) (aM _)) (qp (aH gS (aA dW (pv 1) (ay bJ (pv 2) ah) (fun _ _=>rfl)) (aA dW (pv 3) (ay bJ (pv 4) ah) (fun _ _=>rfl)) (aM _))))) (ai (aF ah)) a_)
   (ae (ao (i:=5) cE.nd rfl (Or.inl rfl) (aj oz (hr.mono (by decide)) rfl T.RA.mg T.RA.fn.kp T.RA.bd .nil aB (aa (pv 1) (aa (pv 2) (aa (pv 3) (aa (pv 4) ab))))))
   (ae (ao (i:=6) cE.nd rfl (Or.inl rfl) (aA dW (pv 1) (ay cI (ay bJ (ay aU (pv 2) (pv 5)) ah) (aC aK rfl T.z_len Y3 (aa (pv 1) ab))) (fun _ _=>rfl)))
   (ae (ao (i:=7) cE.nd rfl (Or.inl rfl) (aj eJ (hr.mono (by decide)) rfl T.F4.mg T.F4.fn.kp T.F4.bd .nil aB (aa (pv 0) (aa (aj bL (hr.mono (by decide)) rfl T.F0.mg T.F0.fn.kp T.F0.bd .nil aB (aa (aA dW (pv 1) (ay bJ (pv 2) ah) (fun _ _=>rfl)) ab)) (aa (aj bL (hr.mono (by decide)) rfl T.F0.mg T.F0.fn.kp T.F0.bd .nil aB (aa (aA dW (pv 3) (ay bJ (pv 4) ah) (fun _ _=>rfl)) ab)) (aa (aA dW (pv 1) (pv 2) (fun _ _=>rfl)) ab))))))
   (ae (ao (i:=8) cE.nd rfl (Or.inl rfl) (aj eJ (hr.mono (by decide)) rfl T.F4.mg T.F4.fn.kp T.F4.bd .nil aB (aa (pv 0) (aa (aA dW (pv 1) (ay cI (ay aU (pv 2) (pv 5)) (aC aK rfl T.z_len Y3 (aa (pv 1) ab))) (fun _ _=>rfl)) (aa (aA dW (pv 3) (ay cI (ay aU (pv 4) (pv 5)) (aC aK rfl T.z_len Y3 (aa (pv 3) ab))) (fun _ _=>rfl)) (aa (aj bL (hr.mono (by decide)) rfl T.F0.mg T.F0.fn.kp T.F0.bd .nil aB (aa (pv 6) ab)) ab))))))
   (ai (aF (DC (aH Ld (pv 7) (pv 8) (aM _)) (pv 5) ah)))))))),?_⟩
 obtain ⟨y,w,i,v,j,rfl,hy,hz,Ov,Yf,wz,vz,hi,hj,q⟩:=h
 have hs:(100000:Nat)<sizeLine:=by decide
 have hw:w≠[]:=fun z=>by rw[z]at hi;simp at hi
 have hv:v≠[]:=fun z=>by rw[z]at hj;simp at hj
 have pw:(0:Int)<(w.length:Int):=by omega
 have pv:(0:Int)<(v.length:Int):=by omega
 have my: ∀k:Int,rd w k∈y:=fun k=>Ov _ (gW hw k)
 have vy: ∀k:Int,rd v k∈y:=fun k=>Yf _ (gW hv k)
 unfold al at q
 have f0:sq w i 0=rd w i:=by unfold sq;rw[Qaz]
 have g0:sq v j 0=rd v j:=by unfold sq;rw[Qaz]
 have f1:sq w i (-1)=rd w ((i:Int) - 1):=rfl
 have g1:sq v j (-1)=rd v ((j:Int) - 1):=rfl
 refine ⟨_,rfl,_,rfl,w,_,_,rfl,rfl,by omega,fz (by omega) (by omega),_,rfl,_,rfl,v,_,_,rfl,rfl,by omega,fz (by omega) (by omega),?_⟩
 refine ⟨[rd w i],[rd v j],rfl,rfl,_,rfl,bz (fun z=>?_) (fun z=>?_)⟩
 ·have e:rd w i≠rd v j:=fun g=>by rw[g]at z;simp at z
  refine DT ?_
  rw[if_pos (.inl (by rw[f0,g0];exact e))]at q
  exact q
 ·have e:rd w i=rd v j:=by simpa using z
  refine ⟨_,rfl,_,rfl,_,_,rfl,rfl,w,_,_,rfl,rfl,by omega,fz (by omega) (by omega),_,rfl,_,rfl,_,_,rfl,rfl,v,_,_,rfl,rfl,by omega,fz (by omega) (by omega),?_⟩
  refine ⟨[rd w ((i:Int) - 1)],[rd v ((j:Int) - 1)],rfl,rfl,_,rfl,bz (fun z2=>?_) (fun z2=>?_)⟩
  ·have e2:rd w ((i:Int) - 1)=rd v ((j:Int) - 1):=by simpa using z2
   rw[if_pos (.inr (by rw[f1,g1];exact e2))]at q
   exact q
  ·have e2:rd w ((i:Int) - 1)≠rd v ((j:Int) - 1):=fun g=>z2 (by simp[g])
   rw[if_neg (fun g=>g.elim (fun g=>g (by rw[f0,g0];exact e)) fun g=>e2 (by rw[<-f1, <-g1];exact g))]at q
   obtain ⟨d1,d2⟩:=eQ (f:=sq w i) (g:=sq v j) hw hv (b_ w i) (b_ v j) (by rw[f1,g1];exact e2)
   have d3:=(eA (sq w i) (sq v j) (w.length+v.length) 0).2.2.1
   generalize ke (sq w i) (sq v j) (w.length+v.length) 0=m at q d1 d2 d3
   refine ⟨_,rfl,_,rfl,_,rfl,_,rfl,w,i,v,j,m,rfl,hw,hv,by omega,by omega,by omega,by omega,by omega,fun k hk=>d3 k (WT _) hk,d2,?_⟩
   refine ⟨_,rfl,_,rfl,_,rfl,_,_,rfl,rfl,_,_,rfl,rfl,_,rfl,w,rfl,by omega,_,_,rfl,rfl,pw,w,_,_,rfl,rfl,by omega,qV hw _,?_⟩
   refine ⟨_,rfl,_,rfl,_,rfl,_,_,rfl,rfl,w,_,_,rfl,rfl,by omega,fz (by omega) (by omega),_,rfl,(hy.lt _ (my _)).lt,?_⟩
   refine ⟨_,rfl,_,rfl,_,_,rfl,rfl,v,_,_,rfl,rfl,by omega,fz (by omega) (by omega),_,rfl,(hy.lt _ (vy _)).lt,?_⟩
   refine ⟨_,rfl,_,rfl,w,_,_,rfl,rfl,by omega,fz (by omega) (by omega),y,_,_,_,rfl,hy.cl _ (my _),hy.cl _ (vy _),my _,by omega,?_⟩
   refine ⟨_,rfl,_,rfl,_,rfl,_,rfl,_,_,rfl,rfl,_,rfl,w,rfl,by omega,_,_,rfl,rfl,pw,w,_,_,rfl,rfl,by omega,qV hw _,?_⟩
   refine ⟨_,rfl,_,rfl,_,rfl,_,_,rfl,rfl,_,rfl,v,rfl,by omega,_,_,rfl,rfl,pv,v,_,_,rfl,rfl,by omega,qV hv _,?_⟩
   refine ⟨_,rfl,_,rfl,(hy.lt _ (my _)).lt,y,_,_,_,rfl,my _,vy _,hy.cl _ (my _),by omega,?_⟩
   have e3:sq w i ((m:Int) - 1)=rd w ((i:Int)+m - 1):=by unfold sq;congr 1;omega
   have f2:sq w i m=rd w ((i:Int)+m):=rfl
   have g2:sq v j m=rd v ((j:Int)+m):=rfl
   rw[f0,f1,g1,e3,f2,g2]at q
   refine ⟨_,rfl,_,rfl,_,_,rfl,rfl,_,rfl,bz (fun z3=>?_) (fun z3=>?_)⟩
   ·rw[if_pos (of_decide_eq_true z3)]at q
    exact ⟨_,rfl,q⟩
   ·rw[if_neg (fun u=>z3 (decide_eq_true u))]at q
    exact q
theorem oA:bp P w K mg base dY 4 M8 NR ["yard","words","one","other"] (ie K):=by
 have rY:=pN (P:=P) (w:=w) (base:=base) T
 have fT:=iw (P:=P) (w:=w) (base:=base) T
 refine T.RB.fn.ok cF (fun vs H Q E h=>mL h) (fun cx A outer s H vs Q E hr h=>?_)
 refine ⟨_,(ae (ao (i:=4) cF.nd rfl (Or.inl rfl) (aA (az K rfl) (pv 1) (aA (az K rfl) (pv 2) ah (fun _ _=>rfl)) (fun _ _=>rfl)))
   (ae (ao (i:=5) cF.nd rfl (Or.inl rfl) (aA (az K rfl) (pv 1) (aA (az K rfl) (pv 3) ah (fun _ _=>rfl)) (fun _ _=>rfl)))
   (ae (ao (i:=6) cF.nd rfl (Or.inl rfl) (cJ ab))
   (ae (bI (iF (aj rY (hr.mono (by decide)) rfl T.Rz.mg T.Rz.fn.kp T.Rz.bd .nil aB (aa (pv 0) (aa (pv 4) (aa (aA (az K rfl) (pv 2) ah (fun _ _=>rfl)) (aa (pv 5) (aa (aA (az K rfl) (pv 3) ah (fun _ _=>rfl)) ab))))))) (ai (b7 (bG K rfl ZD Z2 Z1 cy (pv 6) (aa (ay (hU K rfl) (ay (hU K rfl) (pv 2) (pv 3)) (bP (aa ah (aa (kZ [97,99,114,111,115,115] (by decide+kernel)) ab)))) ab)))) a_)
   (ae (ao (i:=7) cF.nd rfl (Or.inl rfl) (aj fT (hr.mono (by decide)) rfl T.Mc.mg T.Mc.fn.kp T.Mc.bd .nil aB (aa (pv 0) (aa (pv 4) (aa (aA (az K rfl) (pv 2) ah (fun _ _=>rfl)) (aa (pv 5) (aa (aA (az K rfl) (pv 3) ah (fun _ _=>rfl)) ab)))))))
   (ae (bI (aH qu (pv 7) ah (aM _)) (ai (b7 (bG K rfl ZD Z2 Z1 cy (pv 6) (aa (ay (hU K rfl) (ay (hU K rfl) (pv 2) (pv 3)) (bP (aa (pv 7) (aa (kZ [97,108,111,110,103] (by decide+kernel)) ab)))) ab)))) a_)
   (ai (aF (pv 6))))))))),?_⟩
 obtain ⟨y,wt,ws,o,p,c,i,d,j,rfl,ts,q⟩:=h
 have hs:(100000:Nat)<sizeLine:=by decide
 obtain ⟨sw,wz⟩:=ts.w
 obtain ⟨sv,vz⟩:=ts.v
 have hi:=ts.hi
 have hj:=ts.hj
 refine ⟨_,rfl,_,rfl,o,_,0,_,rfl,rfl,aX.of ts.o,rfl,wt,_,_,_,rfl,rfl,aX.of ts.wt,bC (getD_at ts.hc),?_⟩
 refine ⟨_,rfl,_,rfl,p,_,0,_,rfl,rfl,aX.of ts.p,rfl,wt,_,_,_,rfl,rfl,aX.of ts.wt,bC (getD_at ts.hd),?_⟩
 walk_at "wk"
 intro t nt
 have uJ:=ts.ts (ba.of (ak.upd (o:= .lst []) nt))
 have nh:upd H t (.lst []) t=some (.lst []):=ag
 have s1:=ak.upd (o:= .lst []) nt
 generalize upd H t (.lst [])=H1 at uJ nh s1 ⊢
 refine ⟨_,rfl,_,rfl,_,rfl,o,_,1,_,rfl,rfl,aX.of uJ.o,rfl,_,rfl,_,rfl,p,_,1,_,rfl,rfl,aX.of uJ.p,rfl,y,_,i,_,j,rfl,ts.yd,ts.yz,sw,sv,wz,vz,hi,hj,fun H2 s2=>?_⟩
 have G4:=uJ.ts (ba.of s2)
 have nB:=s2 _ _ nh
 have sg:=s1.trans s2
 refine ⟨_,rfl,bz (fun z=>?_) (fun z=>?_)⟩
 ·refine ⟨_,rfl, .inl ⟨rfl,_,bu.of nB⟩,_,rfl,_,rfl,o,p,_,_,rfl,rfl,aX.of G4.o,aX.of G4.p,by simp,by show 4<=sizeLine;decide,(fun e=>by simp at e),fun _ a1 n1=>?_⟩
  refine ⟨by show 2<=sizeLine;decide,fun a2 n2=>?_⟩
  have sa:=(ak.upd (o:= .tup [.int c, .int i, .int d, .int j]) n1).trans (ak.upd (o:= .tup [.int 0, .str (S gJ)]) n2)
  refine ⟨a1,a2,_,_,rfl,rfl,aX.of ((ak.upd n2) _ _ ag),aX.of ag,by simp,by show 6<=sizeLine;decide,(fun e=>by simp at e),fun _ a3 n3=>?_⟩
  have Yg:t≠a3:=aq (sa _ _ nB) n3
  refine ⟨t,_,_,rfl,rfl,by rw[au Yg];exact sa _ _ nB,by show 0<sizeLine;decide,?_⟩
  obtain ⟨k1,k2,k3,Ar⟩:=zN (L:=[]) (x:=⟨c,i,d,j,0,gJ⟩) nB (bW.nil _) sa n3
  have R4:=G4.ts k2
  have s4:=k3 _ nt sg
  have m4:([]++[⟨a3,⟨c,i,d,j,0,gJ⟩⟩]:List Fa).map Fa.x=if JR y (ws.getD c []) (ws.getD d []) i j=true then [⟨c,i,d,j,0,gJ⟩] else []:=by rw[if_pos z];rfl
  have l4:([]++[⟨a3,⟨c,i,d,j,0,gJ⟩⟩]:List Fa).length<=1:=Ri _
  refine ⟨_,rfl,_,rfl,_,rfl,o,_,1,_,rfl,rfl,aX.of R4.o,rfl,_,rfl,_,rfl,p,_,1,_,rfl,rfl,aX.of R4.p,rfl,y,_,i,_,j,rfl,ts.yd,ts.yz,sw.bK,sv.bK,wz,vz,hi,hj,?_⟩
  refine ⟨_,rfl,_,_,rfl,rfl,_,rfl,bz (fun z2=>?_) (fun z2=>?_)⟩
  ·have hm:0<A3 y (ws.getD c []) (ws.getD d []) i j:=Qb5.mp (of_decide_eq_true z2)
   refine ⟨_,rfl, .inl ⟨rfl,_,bu.of Ar⟩,_,rfl,_,rfl,o,p,_,_,rfl,rfl,aX.of R4.o,aX.of R4.p,by simp,by show 4<=sizeLine;decide,(fun e=>by simp at e),fun _ b1 Mr=>?_⟩
   refine ⟨_,rfl,by show 2<=sizeLine;decide,fun b2 Gv=>?_⟩
   have sb:=(ak.upd (o:= .tup [.int c, .int i, .int d, .int j]) Mr).trans (ak.upd (o:= .tup [.int (A3 y (ws.getD c []) (ws.getD d []) i j), .str (S qW)]) Gv)
   refine ⟨b1,b2,_,_,rfl,rfl,aX.of ((ak.upd Gv) _ _ ag),aX.of ag,by simp,by show 6<=sizeLine;decide,(fun e=>by simp at e),fun _ b3 Je=>?_⟩
   have oX:t≠b3:=aq (sb _ _ Ar) Je
   refine ⟨t,fB ([]++[⟨a3,⟨c,i,d,j,0,gJ⟩⟩]),_,rfl,rfl,by rw[au oX];exact sb _ _ Ar,by rw[eB];omega,?_⟩
   obtain ⟨k1,k2,k3,k4⟩:=zN (x:=⟨c,i,d,j,A3 y (ws.getD c []) (ws.getD d []) i j,qW⟩) Ar k1 sb Je
   refine ⟨_,rfl,q t _ _ nt k4 k1 ?_ (k3 _ nt s4)⟩
   rw[WQ,m4]
   unfold jD
   rw[if_pos hm]
   rfl
  ·have hm: ¬0<A3 y (ws.getD c []) (ws.getD d []) i j:=fun g=>z2 (decide_eq_true (Qb5.mpr g))
   refine ⟨_,rfl,q t _ _ nt Ar k1 ?_ s4⟩
   rw[m4]
   unfold jD
   rw[if_neg hm,ZV]
 ·have m2:([]:List Fa).map Fa.x=if JR y (ws.getD c []) (ws.getD d []) i j=true then [⟨c,i,d,j,0,gJ⟩] else []:=by rw[if_neg z];rfl
  have l2:([]:List Fa).length<=1:=WT _
  have nB:H2 t=some (.lst (fB [])):=nB
  have k1:=bW.nil H2
  refine ⟨_,rfl,_,rfl,_,rfl,o,_,1,_,rfl,rfl,aX.of G4.o,rfl,_,rfl,_,rfl,p,_,1,_,rfl,rfl,aX.of G4.p,rfl,y,_,i,_,j,rfl,ts.yd,ts.yz,sw.bK,sv.bK,wz,vz,hi,hj,?_⟩
  refine ⟨_,rfl,_,_,rfl,rfl,_,rfl,bz (fun z2=>?_) (fun z2=>?_)⟩
  ·have hm:0<A3 y (ws.getD c []) (ws.getD d []) i j:=Qb5.mp (of_decide_eq_true z2)
   refine ⟨_,rfl, .inl ⟨rfl,_,bu.of nB⟩,_,rfl,_,rfl,o,p,_,_,rfl,rfl,aX.of G4.o,aX.of G4.p,by simp,by show 4<=sizeLine;decide,(fun e=>by simp at e),fun _ b1 Mr=>?_⟩
   refine ⟨_,rfl,by show 2<=sizeLine;decide,fun b2 Gv=>?_⟩
   have sb:=(ak.upd (o:= .tup [.int c, .int i, .int d, .int j]) Mr).trans (ak.upd (o:= .tup [.int (A3 y (ws.getD c []) (ws.getD d []) i j), .str (S qW)]) Gv)
   refine ⟨b1,b2,_,_,rfl,rfl,aX.of ((ak.upd Gv) _ _ ag),aX.of ag,by simp,by show 6<=sizeLine;decide,(fun e=>by simp at e),fun _ b3 Je=>?_⟩
   have oX:t≠b3:=aq (sb _ _ nB) Je
   refine ⟨t,fB [],_,rfl,rfl,by rw[au oX];exact sb _ _ nB,by rw[eB];omega,?_⟩
   obtain ⟨k1,k2,k3,k4⟩:=zN (x:=⟨c,i,d,j,A3 y (ws.getD c []) (ws.getD d []) i j,qW⟩) nB k1 sb Je
   refine ⟨_,rfl,q t _ _ nt k4 k1 ?_ (k3 _ nt sg)⟩
   rw[WQ,m2]
   unfold jD
   rw[if_pos hm]
   rfl
  ·have hm: ¬0<A3 y (ws.getD c []) (ws.getD d []) i j:=fun g=>z2 (decide_eq_true (Qb5.mpr g))
   refine ⟨_,rfl,q t _ _ nt nB k1 ?_ sg⟩
   rw[m2]
   unfold jD
   rw[if_neg hm,ZV]
theorem ni:bp P w K mg base dY 4 M9 NS ["yard","words","backs","one","other"] (gL K):=by
 have fT:=iw (P:=P) (w:=w) (base:=base) T
 refine T.RC.fn.ok cu (fun vs H Q E h=>lD h) (fun cx A outer s H vs Q E hr h=>?_)
 refine ⟨_,(ae (ao (i:=5) cu.nd rfl (Or.inl rfl) (aA (az K rfl) (pv 1) (aA (az K rfl) (pv 3) ah (fun _ _=>rfl)) (fun _ _=>rfl)))
   (ae (ao (i:=6) cu.nd rfl (Or.inl rfl) (aA (b6 K rfl) (pv 2) (aA (az K rfl) (pv 4) ah (fun _ _=>rfl)) (fun _ _=>rfl)))
   (ae (ao (i:=7) cu.nd rfl (Or.inl rfl) (aj fT (hr.mono (by decide)) rfl T.Mc.mg T.Mc.fn.kp T.Mc.bd .nil aB (aa (pv 0) (aa (pv 5) (aa (aA (az K rfl) (pv 3) ah (fun _ _=>rfl)) (aa (pv 6) (aa (ay bJ (ay bJ (aC aK rfl T.z_len Y3 (aa (pv 6) ab)) ah) (aA (az K rfl) (pv 4) ah (fun _ _=>rfl))) ab)))))))
   (ae (ao (i:=8) cu.nd rfl (Or.inl rfl) (bP (aa (ay cI (ay aU (ay bJ (aA (az K rfl) (pv 4) ah (fun _ _=>rfl)) (pv 7)) ah) (aC aK rfl T.z_len Y3 (aa (pv 5) ab))) (aa (ay cI (ay bJ (ay aU (aA (az K rfl) (pv 3) ah (fun _ _=>rfl)) (pv 7)) ah) (aC aK rfl T.z_len Y3 (aa (pv 5) ab))) ab))))
   (ae (bI (PW.pt (w4 (aH gT (pv 7) ah (aM _)) (qp (PW.pt (jm (aH gT (aA (az K rfl) (pv 3) ah (fun _ _=>rfl)) (aA (az K rfl) (pv 4) ah (fun _ _=>rfl)) (aM _)) (iG (aH (zD K rfl hr) (pv 8) (bP (aa (aA (az K rfl) (pv 3) ah (fun _ _=>rfl)) (aa (aA (az K rfl) (pv 4) ah (fun _ _=>rfl)) ab))) (aM _)))))))) (ai (aF (cJ ab))) a_)
   (ai (aF (cJ (aa (ay (hU K rfl) (ay (hU K rfl) (pv 3) (pv 4)) (bP (aa (pv 7) (aa (kZ [97,103,97,105,110,115,116] (by decide+kernel)) ab)))) ab))))))))),?_⟩
 obtain ⟨y,wt,ws,bk,o,p,c,i,d,j,rfl,ts,hb,q⟩:=h
 have hs:(100000:Nat)<sizeLine:=by decide
 obtain ⟨sw,wz⟩:=ts.w
 obtain ⟨sv,vz⟩:=ts.v
 have hi:=ts.hi
 have hj:=ts.hj
 have dq:=cn (ws.getD d [])
 have Ui: ∀e∈eK (ws.getD d []),e∈y:=(sv.eK ts.yd).bK
 have em:al y (sq (ws.getD c []) i) (sq (eK (ws.getD d [])) (((ws.getD d []).length - 1 - j:Nat):Int)) ((ws.getD c []).length+(eK (ws.getD d [])).length)=gB y (ws.getD c []) (ws.getD d []) i j:=by
  unfold gB
  rw[dq,show (((ws.getD d []).length - 1 - j:Nat):Int)=((ws.getD d []).length:Int) - 1 - j by omega,EC sv.ne]
 refine ⟨_,rfl,_,rfl,o,_,0,_,rfl,rfl,aX.of ts.o,rfl,wt,_,_,_,rfl,rfl,aX.of ts.wt,bC (getD_at ts.hc),?_⟩
 refine ⟨_,rfl,_,rfl,p,_,0,_,rfl,rfl,aX.of ts.p,rfl,bk,_,_,_,rfl,rfl,bu.of hb,bC (ER ts.hd),?_⟩
 have pw:(0:Int)<((ws.getD c []).length:Int):=by omega
 have two: ∀H':Hp,ba H H'->pE H' y wt ws o p c i d j:=fun H' t=>ts.ts t
 generalize ws.getD c []=w at*
 generalize ws.getD d []=v at*
 refine ⟨_,rfl,_,rfl,_,rfl,o,_,1,_,rfl,rfl,aX.of ts.o,rfl,_,rfl,_,rfl,_,rfl,by omega,_,_,rfl,rfl,_,rfl,p,_,1,_,rfl,rfl,aX.of ts.p,rfl,_,_,rfl,rfl,?_⟩
 refine ⟨y,w,i,eK v,v.length - 1 - j,by show [_,_,_,_,V.int (((eK v).length:Int) - 1 - (j:Int))]=_;rw[show (((eK v).length:Int) - 1 - (j:Int))=((v.length - 1 - j:Nat):Int) by omega],ts.yd,ts.yz,sw.bK,Ui,wz,by omega,hi,by omega,?_⟩
 rw[em]
 have mz:gB y w v i j<=1000:=by
  have:gB y w v i j<=w.length+v.length:=Qh _ _ _ _
  omega
 unfold ED at q
 unfold fA at q
 generalize hm:gB y w v i j=m at q mz ⊢
 refine ⟨_,rfl,p,_,1,_,rfl,rfl,aX.of ts.p,rfl,_,rfl,_,_,rfl,rfl,_,_,rfl,rfl,_,rfl,w,rfl,by omega,_,_,rfl,rfl,pw,?_⟩
 refine ⟨_,rfl,o,_,1,_,rfl,rfl,aX.of ts.o,rfl,_,rfl,_,_,rfl,rfl,_,_,rfl,rfl,_,rfl,w,rfl,by omega,_,_,rfl,rfl,pw,by show 2<=sizeLine;decide,fun u nu=>?_⟩
 have su:=ak.upd (o:= .tup [.int (((j:Int) - m+1)%w.length), .int (((i:Int)+m - 1)%w.length)]) nu
 have hu:upd H u (.tup [.int (((j:Int) - m+1)%w.length), .int (((i:Int)+m - 1)%w.length)]) u=some (.tup [.int (((j:Int) - m+1)%w.length), .int (((i:Int)+m - 1)%w.length)]):=ag
 generalize upd H u (.tup [.int (((j:Int) - m+1)%w.length), .int (((i:Int)+m - 1)%w.length)])=H1 at su hu ⊢
 have uJ:=two _ (ba.of su)
 refine ⟨_,rfl,_,_,rfl,rfl,_,rfl,bz (fun z=>?_) (fun z=>?_)⟩
 ·have e:m=0:=by have:=of_decide_eq_true z;omega
  refine DT ?_
  refine ⟨WT _,fun l nl=>?_⟩
  rw[if_pos (.inl e)]at q
  exact q l [] _ (ak.free su nl) ag (bW.nil _) rfl (su.trans (ak.upd nl))
 ·have e:m≠0:=fun g=>z (decide_eq_true (by rw[g];rfl))
  refine ⟨_,rfl,o,_,0,_,rfl,rfl,aX.of uJ.o,rfl,_,rfl,p,_,0,_,rfl,rfl,aX.of uJ.p,rfl,_,_,rfl,rfl,_,rfl,bz (fun z2=>?_) (fun z2=>?_)⟩
  ·have e2:c=d:=by have:=of_decide_eq_true z2;omega
   refine ⟨_,rfl,_,rfl,o,_,1,_,rfl,rfl,aX.of uJ.o,rfl,_,rfl,p,_,1,_,rfl,rfl,aX.of uJ.p,rfl,by show 2<=sizeLine;decide,fun r nr=>?_⟩
   have sr:=su.trans (ak.upd (o:= .tup [.int i, .int j]) nr)
   have G4:=two _ (ba.of sr)
   refine ⟨u,r,_,_,_,_,rfl,rfl,aX.of ((ak.upd nr) _ _ hu),aX.of ag,_,rfl,bz (fun z3=>?_) (fun z3=>?_)⟩
   ·refine ⟨WT _,fun l nl=>?_⟩
    rw[if_pos (.inr ⟨e2,z3⟩)]at q
    exact q l [] _ (ak.free sr nl) ag (bW.nil _) rfl (sr.trans (ak.upd nl))
   ·rw[if_neg (fun g=>g.elim e fun g=>z3 g.2)]at q
    refine ⟨_,rfl,_,rfl,o,p,_,_,rfl,rfl,aX.of G4.o,aX.of G4.p,by simp,by show 4<=sizeLine;decide,(fun e=>by simp at e),fun _ b1 Mr=>?_⟩
    refine ⟨_,rfl,by show 2<=sizeLine;decide,fun b2 Gv=>?_⟩
    have sb:=(ak.upd (o:= .tup [.int c, .int i, .int d, .int j]) Mr).trans (ak.upd (o:= .tup [.int m, .str (S dD)]) Gv)
    refine ⟨b1,b2,_,_,rfl,rfl,aX.of ((ak.upd Gv) _ _ ag),aX.of ag,by simp,by show 6<=sizeLine;decide,(fun e=>by simp at e),fun _ b3 Je=>?_⟩
    refine ⟨by show 1<=sizeLine;decide,fun l nl=>?_⟩
    have sc:=sb.trans (ak.upd (o:= .tup (GR ⟨c,i,d,j,m,dD⟩)) Je)
    have sl:=sr.trans (sc.trans (ak.upd (o:= .lst (fB [⟨b3,⟨c,i,d,j,m,dD⟩⟩])) nl))
    refine q l [⟨b3,⟨c,i,d,j,m,dD⟩⟩] _ (ak.free sr (ak.free sc nl)) ag (fun k hk=>?_) rfl sl
    rw[U7.mp hk]
    exact (ak.upd nl) _ _ ag
  ·have e2:c≠d:=fun g=>z2 (decide_eq_true (by rw[g]))
   rw[if_neg (fun g=>g.elim e fun g=>e2 g.1)]at q
   refine zi ?_
   refine ⟨_,rfl,_,rfl,o,p,_,_,rfl,rfl,aX.of uJ.o,aX.of uJ.p,by simp,by show 4<=sizeLine;decide,(fun e=>by simp at e),fun _ b1 Mr=>?_⟩
   refine ⟨_,rfl,by show 2<=sizeLine;decide,fun b2 Gv=>?_⟩
   have sb:=(ak.upd (o:= .tup [.int c, .int i, .int d, .int j]) Mr).trans (ak.upd (o:= .tup [.int m, .str (S dD)]) Gv)
   refine ⟨b1,b2,_,_,rfl,rfl,aX.of ((ak.upd Gv) _ _ ag),aX.of ag,by simp,by show 6<=sizeLine;decide,(fun e=>by simp at e),fun _ b3 Je=>?_⟩
   refine ⟨by show 1<=sizeLine;decide,fun l nl=>?_⟩
   have sc:=sb.trans (ak.upd (o:= .tup (GR ⟨c,i,d,j,m,dD⟩)) Je)
   have sl:=su.trans (sc.trans (ak.upd (o:= .lst (fB [⟨b3,⟨c,i,d,j,m,dD⟩⟩])) nl))
   refine q l [⟨b3,⟨c,i,d,j,m,dD⟩⟩] _ (ak.free su (ak.free sc nl)) ag (fun k hk=>?_) rfl sl
   rw[U7.mp hk]
   exact (ak.upd nl) _ _ ag
theorem wM:bp P w K mg base dY 5 M_ NT ["yard","words","backs","one","other"] (mM K):=by
 have pQ:=oA (P:=P) (w:=w) (base:=base) T
 have oB:=ni (P:=P) (w:=w) (base:=base) T
 refine T.RD.fn.ok m_ (fun vs H Q E h=>sJ h) (fun cx A outer s H vs Q E hr h=>?_)
 refine ⟨_,(ae (ao (i:=5) m_.nd rfl (Or.inl rfl) (cJ ab))
   (ae (bI (aH (zD K rfl hr) (pv 3) (pv 4) (aM _)) (ai (b7 (bG K rfl ZD Qcx Qcv nI (pv 5) (aa (aj pQ (hr.mono (by decide)) rfl T.RB.mg T.RB.fn.kp T.RB.bd .nil aB (aa (pv 0) (aa (pv 1) (aa (pv 3) (aa (pv 4) ab))))) ab)))) a_)
   (ae (bI (aH DH (aA (az K rfl) (pv 3) ah (fun _ _=>rfl)) (aA (az K rfl) (pv 4) ah (fun _ _=>rfl)) (aM _)) (ai (b7 (bG K rfl ZD Qcx Qcv nI (pv 5) (aa (aj oB (hr.mono (by decide)) rfl T.RC.mg T.RC.fn.kp T.RC.bd .nil aB (aa (pv 0) (aa (pv 1) (aa (pv 2) (aa (pv 3) (aa (pv 4) ab)))))) ab)))) a_)
   (ai (aF (pv 5)))))),?_⟩
 obtain ⟨y,wt,ws,bk,o,p,c,i,d,j,rfl,ts,hb,q⟩:=h
 have hs:(100000:Nat)<sizeLine:=by decide
 walk_at "wk"
 intro t nt
 have s1:=ak.upd (o:= .lst []) nt
 have uJ:=ts.ts (ba.of s1)
 have yN:=s1 _ _ hb
 have nh:upd H t (.lst []) t=some (.lst []):=ag
 generalize upd H t (.lst [])=H1 at s1 uJ yN nh ⊢
 refine ⟨_,rfl,_,rfl,o,p,_,_,_,_,rfl,rfl,aX.of uJ.o,aX.of uJ.p,_,rfl,bz (fun z=>?_) (fun z=>?_)⟩
 ·refine ⟨_,rfl, .inl ⟨rfl,_,bu.of nh⟩,_,rfl,_,rfl,_,rfl,_,rfl,y,wt,ws,o,p,c,i,d,j,rfl,uJ,fun r L H2 nr AV hL hx s2=>?_⟩
  have l2:=ES y (ws.getD c []) (ws.getD d []) c i d j
  rw[<-vB hx]at l2
  refine ⟨t,r,fB [],fB L,rfl,rfl,s2 _ _ nh,AV,by rw[eB,eB];show 0+_<=_;omega,?_⟩
  obtain ⟨k1,k2,k3,Ik⟩:=vA (L:=[]) (s2 _ _ nh) (bW.nil _) hL
  have s3:=k3 _ nt (s1.trans s2)
  have Uj:=(uJ.ts (ba.of s2)).ts k2
  have oX:=s3 _ _ hb
  have m3:([]++L).map Fa.x=if ph c i d j=true then jD y (ws.getD c []) (ws.getD d []) c i d j else []:=by rw[if_pos z];exact hx
  have l3:([]++L).length<=2:=l2
  refine ⟨_,rfl,o,_,0,_,rfl,rfl,aX.of Uj.o,rfl,_,rfl,p,_,0,_,rfl,rfl,aX.of Uj.p,rfl,_,_,rfl,rfl,_,rfl,bz (fun z2=>?_) (fun z2=>?_)⟩
  ·have e2:c<=d:=by have:=of_decide_eq_true z2;omega
   refine ⟨_,rfl, .inl ⟨rfl,_,bu.of Ik⟩,_,rfl,_,rfl,_,rfl,_,rfl,_,rfl,y,wt,ws,bk,o,p,c,i,d,j,rfl,Uj,oX,fun r2 L2 H4 Yh G5 J_ Dw s4=>?_⟩
   have l4:=Ba y (ws.getD c []) (ws.getD d []) c i d j
   rw[<-vB Dw]at l4
   refine ⟨t,r2,fB ([]++L),fB L2,rfl,rfl,s4 _ _ Ik,G5,by rw[eB,eB];omega,?_⟩
   obtain ⟨k1,k2,k3,k4⟩:=vA (s4 _ _ Ik) (k1.ts (ba.of s4)) J_
   refine ⟨_,rfl,q t _ _ nt k4 k1 ?_ (k3 _ nt (s3.trans s4))⟩
   rw[WQ,m3,Dw]
   unfold lU
   rw[if_pos e2]
  ·have e2: ¬c<=d:=fun g=>z2 (decide_eq_true (by omega))
   refine ⟨_,rfl,q t _ _ nt Ik k1 ?_ s3⟩
   rw[m3]
   unfold lU
   rw[if_neg e2,ZV]
 ·have m3:([]:List Fa).map Fa.x=if ph c i d j=true then jD y (ws.getD c []) (ws.getD d []) c i d j else []:=by rw[if_neg z];rfl
  have l3:([]:List Fa).length<=2:=WT _
  have k1:=bW.nil H1
  have nh:H1 t=some (.lst (fB [])):=nh
  refine ⟨_,rfl,o,_,0,_,rfl,rfl,aX.of uJ.o,rfl,_,rfl,p,_,0,_,rfl,rfl,aX.of uJ.p,rfl,_,_,rfl,rfl,_,rfl,bz (fun z2=>?_) (fun z2=>?_)⟩
  ·have e2:c<=d:=by have:=of_decide_eq_true z2;omega
   refine ⟨_,rfl, .inl ⟨rfl,_,bu.of nh⟩,_,rfl,_,rfl,_,rfl,_,rfl,_,rfl,y,wt,ws,bk,o,p,c,i,d,j,rfl,uJ,yN,fun r2 L2 H4 Yh G5 J_ Dw s4=>?_⟩
   have l4:=Ba y (ws.getD c []) (ws.getD d []) c i d j
   rw[<-vB Dw]at l4
   refine ⟨t,r2,fB [],fB L2,rfl,rfl,s4 _ _ nh,G5,by rw[eB,eB];omega,?_⟩
   obtain ⟨k1,k2,k3,k4⟩:=vA (s4 _ _ nh) (k1.ts (ba.of s4)) J_
   refine ⟨_,rfl,q t _ _ nt k4 k1 ?_ (k3 _ nt (s1.trans s4))⟩
   rw[WQ,m3,Dw]
   unfold lU
   rw[if_pos e2]
  ·have e2: ¬c<=d:=fun g=>z2 (decide_eq_true (by omega))
   refine ⟨_,rfl,q t _ _ nt nh k1 ?_ s1⟩
   rw[m3]
   unfold lU
   rw[if_neg e2,ZV]
theorem Dd:bp P w K mg base dY 6 Nb NV ["yard","words"] (ue K):=by
 have j8:=ow (P:=P) (w:=w) (base:=base) T
 have wN:=sU (P:=P) (w:=w) (base:=base) T
 have yE:=wM (P:=P) (w:=w) (base:=base) T
 refine T.RF.fn.ok gj (fun vs H Q E h=>zK h) (fun cx A outer s H vs Q E hr h=>?_)
 refine ⟨_,(ae (ao (i:=2) gj.nd rfl (Or.inl rfl) (cJ ab))
   (ae (D6 (i:=3) ["word"] [none] gj.nd rfl (Or.inl rfl) (u9 K rfl (pv 1)) trivial (fun _ _ _ _=>(aP (i:=0) (by decide+kernel:List.Nodup (["word"]:List Str)) rfl (Or.inl rfl))) (fun _ _ _ _=>ju) (fun _ _ _ _=>(aj j8 (hr.mono (by decide)) rfl T.F1.mg T.F1.fn.kp T.F1.bd .nil aB (aa (pv 0) ab))))
   (ae (ao (i:=4) gj.nd rfl (Or.inl rfl) (aj wN (hr.mono (by decide)) rfl T.RE.mg T.RE.fn.kp T.RE.bd .nil aB (aa (pv 1) ab)))
   (ae (bS PassesOwn.never rfl (fj K rfl (pv 4)) (aP (i:=5) gj.nd rfl (Or.inl rfl)) (ai (bS PassesOwn.never rfl (fj K rfl (pv 4)) (aP (i:=6) gj.nd rfl (Or.inl rfl)) (ai (b7 (bG K rfl ZD Qcx Qcv nI (pv 2) (aa (aj yE (hr.mono (by decide)) rfl T.RD.mg T.RD.fn.kp T.RD.bd .nil aB (aa (pv 0) (aa (pv 1) (aa (pv 3) (aa (pv 5) (aa (pv 6) ab)))))) ab)))))))
   (ai (aF (aC (ve K rfl) rfl T.z_sorted boot_sorted (aa (pv 2) ab)))))))),?_⟩
 obtain ⟨y,wt,ws,rfl,hy,hz,ok,hw,q⟩:=h
 have hs:(100000:Nat)<sizeLine:=by decide
 have GO: ∀w∈ws,SW y w:=fun w h=>(ok.sw w h).1
 have xg:=ok.tR
 have Pj:=ok.all
 walk_at "wk"
 intro t nt
 have s0:=ak.upd (o:= .lst []) nt
 have R5:upd H t (.lst []) t=some (.lst (fB [])):=ag
 have Ms:=s0 _ _ hw
 generalize upd H t (.lst [])=H0 at s0 R5 Ms ⊢
 refine ⟨_,rfl,wt,rfl,⟨_,aX.of Ms⟩,?_⟩
 refine qK (K:=K) (a:=wt) (xs:=iN ws) (fun n acc H'=>ak H0 H'/\acc=iN ((ws.take n).map eK)) (by rw[bH];omega) (fun n acc H' h=>aX.of (h.1 _ _ Ms)) ⟨ak.refl _,rfl⟩ ?_ ?_
 ·rintro n x acc H1 Nx hn hx Jc ⟨s1,rfl⟩ nx
  rw[bH]at hn
  rw[iO hn]at hx
  cases hx
  obtain ⟨w1,w2⟩:=ok.sw _ (ZT hn)
  refine ⟨trivial,gH ?_⟩
  refine ⟨_,rfl,ws[n],rfl,Ep fun c hc=>hy.lt c (w1.bK c hc),by omega,fun H2 s2=>?_⟩
  refine nx _ _ (by simpa using Jc) ⟨s1.trans s2,?_⟩
  rw[qQ, <-take_snoc (K3 hn),WQ]
  rfl
 rintro acc H1 bk Jc ⟨s1,rfl⟩ QJ
 rw[bH,Z8]
 have s2:=s1.trans (ak.upd (o:= .lst (iN (ws.map eK))) QJ)
 have hJ:upd H1 bk (.lst (iN (ws.map eK))) bk=some (.lst (iN (ws.map eK))):=ag
 generalize upd H1 bk (.lst (iN (ws.map eK)))=H2 at s2 hJ ⊢
 refine ⟨_,rfl,wt,ws,rfl,s2 _ _ Ms,xg,fun w h=>(ok.sw w h).2,fun ev ps H3 VR R6 sP lS s3=>?_⟩
 have QH:=s2.trans s3
 have Ik:=QH _ _ R5
 have Yi:=QH _ _ Ms
 have oX:=s3 _ _ hJ
 have j9:ps.length=(places ws).length:=by rw[<-lS,MO]
 have bt:bk≠t:=fun z=>by rw[z,s1 _ _ R5]at QJ;cases QJ
 have et:ev≠t:=fun z=>by rw[z,s2 _ _ R5]at VR;cases VR
 have G3:ak H H3:=s0.trans QH
 refine ⟨_,rfl,ev,rfl,⟨_,bu.of R6⟩,?_⟩
 refine fg (K:=K) (a:=ev) (xs:=Dp ps) (fun n σ H'=> ∃(L:List Fa) (v1 v2:Option V),σ=[some (.str (S y)),some (.ref wt),some (.ref t),some (.ref bk),some (.ref ev),v1,v2]/\H' t=some (.lst (fB L))/\bW H' L/\L.map Fa.x=((places ws).take n).flatMap (fun o=>(places ws).flatMap fun p=>lU y ws o p)/\L.length<=72*n/\aR t H3 H')
  ⟨[],none,none,rfl,Ik,bW.nil _,rfl,WT _,aR.refl _ _⟩ (fun n σ H' _ ⟨_,_,_,_,_,_,_,_,s⟩=>bu.of (s _ _ R6 et)) ?_ ?_
 ·rintro n x σ H4 hx ⟨L,v1,v2,rfl,Ar,J_,Dw,QK,s4⟩
  obtain ⟨o,ho,rfl⟩:=EN hx
  have hn:n<ps.length:=(K4.mp ho).1
  have KL:(places ws)[n]? =some (o.c,o.i):=by rw[<-lS,Y5,ho];rfl
  obtain ⟨o1,o2⟩:=xW (Y4 KL)
  have Yj:=sP o (Y4 ho)
  refine ⟨_,rfl,ev,rfl,⟨_,bu.of (s4 _ _ R6 et)⟩,?_⟩
  refine fg (K:=K) (a:=ev) (xs:=Dp ps) (fun k σ H'=> ∃(L:List Fa) (v2:Option V),σ=[some (.str (S y)),some (.ref wt),some (.ref t),some (.ref bk),some (.ref ev),some (.ref o.t),v2]/\H' t=some (.lst (fB L))/\bW H' L/\L.map Fa.x=((places ws).take n).flatMap (fun o=>(places ws).flatMap fun p=>lU y ws o p)++((places ws).take k).flatMap (fun p=>lU y ws (o.c,o.i) p)/\L.length<=72*n+3*k/\aR t H3 H')
   ⟨L,v2,rfl,Ar,J_,by rw[Dw];simp,by omega,s4⟩ (fun n σ H' _ ⟨_,_,_,_,_,_,_,s⟩=>bu.of (s _ _ R6 et)) ?_ ?_
  ·rintro k x σ H5 hx ⟨L5,v5,rfl,Jf,Uk,J6,VS,s5⟩
   obtain ⟨p,hp,rfl⟩:=EN hx
   have hk:k<ps.length:=(K4.mp hp).1
   have jj:(places ws)[k]? =some (p.c,p.i):=by rw[<-lS,Y5,hp];rfl
   obtain ⟨p1,p2⟩:=xW (Y4 jj)
   have Yk:=sP p (Y4 hp)
   have Ul:=aR.ts Ik s5
   have two:pE H5 y wt ws o.t p.t o.c o.i p.c p.i:=⟨hy,hz,ok,Ul _ _ Yi,Ul _ _ Yj,Ul _ _ Yk,o1,o2,p1,p2⟩
   refine ⟨_,rfl, .inl ⟨rfl,_,bu.of Jf⟩,_,rfl,_,rfl,_,rfl,_,rfl,_,rfl,y,wt,ws,bk,o.t,p.t,o.c,o.i,p.c,p.i,rfl,two,s5 _ _ oX bt,fun r M H6 nr VT hM VU s6=>?_⟩
   have lM:=A5 y ws (o.c,o.i) (p.c,p.i)
   rw[<-vB VU]at lM
   refine ⟨t,r,fB L5,fB M,rfl,rfl,s6 _ _ Jf,VT,by rw[eB,eB];omega,?_⟩
   obtain ⟨k1,k2,k3,k4⟩:=vA (s6 _ _ Jf) (Uk.ts (ba.of s6)) hM
   refine ⟨L5++M,_,rfl,k4,k1,?_,by rw[U5];omega,fun a ob e z=>by rw[au z];exact s6 _ _ (s5 a ob e z)⟩
   rw[WQ,J6,VU,uh _ jj,Qak]
  ·rintro σ H5 ⟨L5,v5,rfl,Jf,Uk,J6,VS,s5⟩
   rw[p_,j9,Z8]at J6
   rw[p_]at VS
   refine ⟨L5,_,_,rfl,Jf,Uk,?_,by omega,s5⟩
   rw[J6,uh _ KL]
 ·rintro σ H4 ⟨L,v1,v2,rfl,Ar,J_,Dw,QK,s4⟩
  rw[p_,j9,Z8]at Dw
  have hx:L.map Fa.x=mH y ws:=Dw
  have J9:ak H H4:=fun a ob e=>s4 _ _ (G3 a ob e) (aq e nt)
  refine ⟨_,rfl,t,fB L,_,4,rfl, .inl (bu.of Ar),JT J_,CM hy GO hx,fun r nr=>?_⟩
  exact q r L _ (ak.free J9 nr) ag (J_.ts (ba.fK nr)) hx (J9.trans (ak.upd nr))
theorem yF:bp P w K mg base dY 9 Nv Oc ["yard","words"] (oV K):=by
 have rZ:=wJ (P:=P) (w:=w) (base:=base) T
 have Gw:=Dd (P:=P) (w:=w) (base:=base) T
 refine T.RP.fn.ok yy (fun vs H Q E h=>wg h) (fun cx A outer s H vs Q E hr h=>?_)
 refine ⟨_,(ai (aF (bP (aa (aj rZ (hr.mono (by decide)) rfl T.G1.mg T.G1.fn.kp T.G1.bd .nil aB (aa (pv 0) (aa (pv 1) ab))) (aa (de (cY K rfl) rfl T.z_tuple boot_tuple (aa (aj Gw (hr.mono (by decide)) rfl T.RF.mg T.RF.fn.kp T.RF.bd .nil aB (aa (pv 0) (aa (pv 1) ab))) ab)) ab))))),?_⟩
 obtain ⟨y,wt,ws,rfl,hy,hz,hk,qj,q⟩:=h
 refine ⟨_,rfl,_,rfl,y,wt,ws,rfl,hy,hz,qj,hk.tR,hk.sw,fun dr os H1 Dk ht s1=>?_⟩
 refine ⟨_,rfl,_,rfl,y,wt,ws,rfl,hy,hz,hk,s1 _ _ qj,fun p L H2 np hp hL hx s2=>?_⟩
 refine ⟨p,_,rfl, .inl ⟨bu.of hp,fun u nu=>?_⟩⟩
 refine ⟨by show 2<=sizeLine;decide,fun t nt=>?_⟩
 have s3:=ak.upd (o:= .tup (fB L)) nu
 have s4:=ak.upd (o:= .tup [.ref dr, .ref u]) nt
 exact q t dr u os L _ ag (Dk.same (s2.trans (s3.trans s4))) ht (s4 _ _ ag) (hL.ts (ba.of (s3.trans s4))) hx (s1.trans (s2.trans (s3.trans s4)))
theorem yG:bp P w K mg base dY 1 NF Om ["_law_things"] (oW K):=by
 refine T.Mh.fn.ok gQ (fun vs H Q E h=>wj h) (fun cx A outer s H vs Q E hr h=>?_)
 refine ⟨_,(ae (ao (i:=1) gQ.nd rfl (Or.inl rfl) xE)
   (ae (bS PassesOwn.never rfl (HM K rfl (pv 0)) (aP (i:=2) gQ.nd rfl (Or.inl rfl)) (ae (ao (i:=3) gQ.nd rfl (Or.inl rfl) (bP (aa (aA (az K rfl) (pv 2) ah (fun _ _=>rfl)) (aa (aA (az K rfl) (pv 2) ah (fun _ _=>rfl)) ab))))
   (ai (p6 (jt hr) (pv 1) (pv 3) (ay aU (qN (jt hr) (pv 1) (pv 3) ah ⟨rfl,rfl,rfl,rfl⟩) ah) rfl))))
   (ai (aF (pv 1))))),?_⟩
 obtain ⟨a,xs,ps,rfl,ha,⟨hl,ht⟩,hz,q⟩:=h
 have hs:(100000:Nat)<sizeLine:=by decide
 walk_at "wk"
 intro d nd
 have s0:=ak.upd (o:= .dT []) nd
 have Um:upd H d (.dT []) d=some (.dT []):=ag
 generalize upd H d (.dT [])=H1 at s0 Um ⊢
 refine ⟨_,rfl,a,xs,rfl,?_⟩
 rcases ha with ha | ha
 ·have ad:a≠d:=aq ha nd
  refine .inl ⟨bu.of (s0 _ _ ha),?_⟩
  refine fg (K:=K) (a:=a) (xs:=xs) (fun i σ H'=> ∃(aL:List (List Key×V)) (v2 v3:Option V),σ=[some (.ref a),some (.ref d),v2,v3]/\H' d=some (.dT aL)/\J1 aL (ps.take i)/\aL.length<=i/\aR d H1 H') ⟨[],none,none,rfl,Um,fun r=>rfl,WT _,aR.refl _ _⟩ (fun i σ H' _ ⟨_,_,_,_,_,_,_,h⟩=>bu.of (h _ _ (s0 _ _ ha) ad)) ?_ ?_
  ·rintro i x σ H2 hx ⟨aL,v2,v3,rfl,hd2,hJ,QL,s2⟩
   obtain ⟨t,us,q1,rfl,et,e0,e2,ep⟩:=ht i x hx
   have td:t≠d:=aq et nd
   have QM:=s2 _ _ (s0 _ _ et) td
   have hi:i<ps.length:=(K4.mp ep).1
   refine ⟨_,rfl,t,_,_,_,rfl,rfl,aX.of QM,e0,_,rfl,t,_,_,_,rfl,rfl,aX.of QM,e2,by show 2<=sizeLine;decide,fun p np=>?_⟩
   have Dx:=(ak.upd (o:= .tup [.int q1.1, .int q1.2]) np) _ _ hd2
   have rS:upd H2 p (.tup [.int q1.1, .int q1.2]) p=some (.tup ((yR q1).map kV)):=ag
   have s3:=ak.upd (o:= .tup [.int q1.1, .int q1.2]) np
   generalize upd H2 p (.tup [.int q1.1, .int q1.2])=H3 at Dx rS s3 ⊢
   refine ⟨_,rfl,d,rfl, .inr ⟨_, .inl Dx⟩,_,rfl,_,jA.t (k:=yR q1) Dx rS,?_⟩
   rw[hJ.get q1]
   refine ⟨_,_,rfl,rfl,?_⟩
   refine ⟨_,rfl,_,rfl,d,_,rfl,qM.t (k:=yR q1) Dx rS (by omega),?_⟩
   refine ⟨_,_,_,rfl,ag,?_,ZN (dQ _ _ _) (by omega),fun b o e z=>by rw[au z];exact s3 _ _ (s2 b o e z)⟩
   have:=hJ.put (q:=q1)
   rw[take_snoc ep]at this
   exact this
  ·rintro σ H2 ⟨aL,v2,v3,rfl,hd2,hJ,QL,s2⟩
   rw[hl,Z8]at hJ
   exact ⟨_,rfl,q d aL H2 nd hd2 hJ fun b o e=>s2 _ _ (s0 _ _ e) (aq e nd)⟩
 ·have ad:a≠d:=aq ha nd
  refine .inr ⟨aX.of (s0 _ _ ha),?_⟩
  refine Hc (K:=K) (a:=a) (xs:=xs) (fun i σ H'=> ∃(aL:List (List Key×V)) (v2 v3:Option V),σ=[some (.ref a),some (.ref d),v2,v3]/\H' d=some (.dT aL)/\J1 aL (ps.take i)/\aL.length<=i/\aR d H1 H') ⟨[],none,none,rfl,Um,fun r=>rfl,WT _,aR.refl _ _⟩ (fun i σ H' _ ⟨_,_,_,_,_,_,_,h⟩=>aX.of (h _ _ (s0 _ _ ha) ad)) ?_ ?_
  ·rintro i x σ H2 hx ⟨aL,v2,v3,rfl,hd2,hJ,QL,s2⟩
   obtain ⟨t,us,q1,rfl,et,e0,e2,ep⟩:=ht i x hx
   have td:t≠d:=aq et nd
   have QM:=s2 _ _ (s0 _ _ et) td
   have hi:i<ps.length:=(K4.mp ep).1
   refine ⟨_,rfl,t,_,_,_,rfl,rfl,aX.of QM,e0,_,rfl,t,_,_,_,rfl,rfl,aX.of QM,e2,by show 2<=sizeLine;decide,fun p np=>?_⟩
   have Dx:=(ak.upd (o:= .tup [.int q1.1, .int q1.2]) np) _ _ hd2
   have rS:upd H2 p (.tup [.int q1.1, .int q1.2]) p=some (.tup ((yR q1).map kV)):=ag
   have s3:=ak.upd (o:= .tup [.int q1.1, .int q1.2]) np
   generalize upd H2 p (.tup [.int q1.1, .int q1.2])=H3 at Dx rS s3 ⊢
   refine ⟨_,rfl,d,rfl, .inr ⟨_, .inl Dx⟩,_,rfl,_,jA.t (k:=yR q1) Dx rS,?_⟩
   rw[hJ.get q1]
   refine ⟨_,_,rfl,rfl,?_⟩
   refine ⟨_,rfl,_,rfl,d,_,rfl,qM.t (k:=yR q1) Dx rS (by omega),?_⟩
   refine ⟨_,_,_,rfl,ag,?_,ZN (dQ _ _ _) (by omega),fun b o e z=>by rw[au z];exact s3 _ _ (s2 b o e z)⟩
   have:=hJ.put (q:=q1)
   rw[take_snoc ep]at this
   exact this
  ·rintro σ H2 ⟨aL,v2,v3,rfl,hd2,hJ,QL,s2⟩
   rw[hl,Z8]at hJ
   exact ⟨_,rfl,q d aL H2 nd hd2 hJ fun b o e=>s2 _ _ (s0 _ _ e) (aq e nd)⟩
theorem sV:bp P w K mg base dY 2 f5 d5 ["yard","drawing","end"] (kM K):=by
 have wK:=yA (P:=P) (w:=w) (base:=base) T
 refine T.F5.fn.ok kR (fun vs H Q E h=>q9 h) (fun cx A outer s H vs Q E hr h=>?_)
 refine ⟨_,(ae (ao (i:=3) kR.nd rfl (Or.inl rfl) (de (sF K rfl) rfl T.z_list boot_list (aa (aA (az K rfl) (aA (az K rfl) (pv 1) ah (fun _ _=>rfl)) (bG K rfl ZI Qc6 Qc4 nM (aj wK (hr.mono (by decide)) rfl T.F2.mg T.F2.fn.kp T.F2.bd .nil aB (aa (pv 0) ab)) (aa (eY K rfl ZI Qc5 Qc3 qB (pv 2)) ab)) (fun _ _=>rfl)) ab)))
   (ae (bI (iF (eY K rfl ZI PySem.F.slot_str_isupper PySem.F.type_str_isupper zq (pv 2))) (ai (b7 (eY K rfl ZD PySem.F.slot_list_reverse PySem.F.type_list_reverse zf (pv 3)))) a_)
   (ai (aF (pv 3))))),?_⟩
 obtain ⟨y,dr,ws,os,e,rfl,hy,hz,he,ho,hd,q⟩:=h
 have hs:(100000:Nat)<sizeLine:=by decide
 have R3: ∀c∈y,c<128:=Ep hy.lt
 have VV:=R3 e he
 obtain ⟨⟨wt,ot,d1,d2,d3⟩,dO⟩:=hd
 obtain ⟨o,o1,o2,o3⟩:=jN hy he ho
 refine ⟨_,rfl,dr,_,1,_,rfl,rfl,aX.of d1,rfl,?_⟩
 refine ⟨_,rfl,y,rfl,R3,by omega,fun l' H1 Ay Ub s1=>?_⟩
 have el:=Br Ay Ub
 subst el
 refine ⟨rfl,_,rfl,rfl,e,rfl,rfl,VV,?_⟩
 refine ⟨gg y,_,rfl,rfl,Fg hy he,?_⟩
 refine ⟨ot,_,_,_,rfl,rfl,aX.of (s1 _ _ d3),bC (LU o2),?_⟩
 refine ⟨o.o,_,rfl, .inr (aX.of (s1 _ _ (dO o o1).tp)),fun p1 n1=>?_⟩
 refine ⟨_,rfl,rfl,e,rfl,rfl,VV,_,rfl,bz (fun z=>?_) (fun z=>?_)⟩
 ·refine ⟨_,rfl, .inl ⟨rfl,_,bu.of ag⟩,p1,_,rfl,rfl,ag,?_⟩
  refine ⟨_,rfl,q p1 _ (ak.free s1 n1) ?_ ?_⟩
  ·rw[ag,IC]
   unfold qd
   rw[if_pos z,o3]
  ·exact fun a u ea=>by rw[au (aq ea (ak.free s1 n1)),au (aq ea (ak.free s1 n1))];exact s1 a u ea
 ·refine ⟨_,rfl,q p1 _ (ak.free s1 n1) ?_ (s1.trans (ak.upd n1))⟩
  rw[ag]
  unfold qd
  rw[if_neg z,o3]
theorem De:bp P w K mg base dY 3 f6 d6 ["yard","drawing"] (uq K):=by
 have wO:=sV (P:=P) (w:=w) (base:=base) T
 refine T.F6.fn.ok kx (fun vs H Q E h=>z5 h) (fun cx A outer s H vs Q E hr h=>?_)
 refine ⟨_,(ae (ao (i:=2) kx.nd rfl (Or.inl rfl) (cJ ab))
   (ae (bS PassesOwn.never rfl (u5 (pv 0)) (aP (i:=3) kx.nd rfl (Or.inl rfl)) (ai (bS PassesOwn.never rfl (fj K rfl (aj wO (hr.mono (by decide)) rfl T.F5.mg T.F5.fn.kp T.F5.bd .nil aB (aa (pv 0) (aa (pv 1) (aa (pv 3) ab))))) (aP (i:=4) kx.nd rfl (Or.inl rfl)) (ai (b7 (bG K rfl ZD Z2 Z1 cy (pv 2) (aa (bP (aa (aA (az K rfl) (pv 4) ah (fun _ _=>rfl)) (aa (aA (az K rfl) (pv 4) ah (fun _ _=>rfl)) (aa (pv 3) ab)))) ab)))))))
   (ai (aF (pv 2))))),?_⟩
 obtain ⟨y,dr,ws,os,rfl,hy,hz,ho,hd,q⟩:=h
 have hs:(100000:Nat)<sizeLine:=by decide
 walk_at "wk"
 intro p1 n1
 refine ⟨_,rfl,y,rfl,?_⟩
 refine AK (xs:=dX y) (fun i σ H'=> ∃(ps:List Pt) (ev sv:Option V),σ=[some (.str (S y)),some (.ref dr),some (.ref p1),ev,sv]/\H' p1=some (.lst (GV ps))/\(∀p∈ps,sL H' p/\p.t≠p1)/\ps.map Pt.is=(y.take i).flatMap (fZ y os)/\ps.length<=100*i/\aR p1 H H') ⟨[],none,none,rfl,ag,fun _ h=>absurd h Zu,rfl,WT _,aR.of (ak.upd n1)⟩ ?_ ?_
 ·rintro i x σ H1 hx ⟨ps,ev,sv,rfl,hp,sP,lS,j9,s1⟩
  obtain ⟨e,he,rfl⟩:=j_ hx
  have GW:=Y4 he
  have hi:i<y.length:=(K4.mp he).1
  have Jd:ak H H1:=fun a u ea=>s1 a u ea (aq ea n1)
  refine ⟨_,rfl,_,rfl,_,rfl,y,dr,ws,os,e,rfl,hy,hz,GW,ho,hd.same Jd,fun p2 H2 n2 jj s2=>?_⟩
  have Qw:=IF (H:=H) hy GW ho hd.od
  refine ⟨p2,rfl,⟨_,bu.of jj⟩,?_⟩
  have Yl:p2≠p1:=fun z=>by rw[z,hp]at n2;cases n2
  refine fg (K:=K) (a:=p2) (xs:=uo (qd y os e)) (fun j σ H'=> ∃(us:List Pt) (sv:Option V),σ=[some (.str (S y)),some (.ref dr),some (.ref p1),some (.str (S [e])),sv]/\H' p1=some (.lst (GV us))/\H' p2=some (.lst (uo (qd y os e)))/\(∀p∈us,sL H' p/\p.t≠p1)/\us.map Pt.is=ps.map Pt.is++((qd y os e).take j).map (fun p=>(p.c,p.i,e))/\us.length<=100*i+j/\aR p1 H1 H')
   ⟨ps,sv,rfl,s2 _ _ hp,jj,fun p zP=>⟨(sP p zP).1.same s2,(sP p zP).2⟩,by simp,by omega,aR.of s2⟩ (fun j σ H' _ ⟨_,_,_,_,h,_⟩=>bu.of h) ?_ ?_
  ·rintro j x σ H3 QG ⟨us,Ym,rfl,rS,QN,QO,qk,BN,s3⟩
   obtain ⟨p,Uo,rfl⟩:=Fi QG
   obtain ⟨o,oo,po⟩:=IE hy GW ho (Y4 Uo)
   have hj:j<(qd y os e).length:=(K4.mp Uo).1
   have G3:ak H H3:=fun a u ea=>s3 a u (Jd a u ea) (aq ea n1)
   have pk:=(hd.od o oo).pr p po
   have tp:=G3 _ _ pk.tp
   refine ⟨_,rfl, .inl ⟨rfl,_,bu.of rS⟩,?_⟩
   refine ⟨_,rfl,p.t,_,0,_,rfl,rfl,aX.of tp,rfl,_,rfl,p.t,_,1,_,rfl,rfl,aX.of tp,rfl,?_⟩
   walk_at "wk"
   intro t nt
   have nh:t≠p1:=fun z=>by rw[z,rS]at nt;cases nt
   refine ⟨p1,_,_,rfl,rfl,(ak.upd nt) _ _ rS,by rw[Bs];omega,?_⟩
   refine ⟨us++[⟨t,p.c,p.i,e⟩],_,rfl,by rw[ag];exact congrArg (fun x=>some (HO.lst x)) (Fl us ⟨t,p.c,p.i,e⟩),by rw[au Yl];exact (ak.upd nt) _ _ QN,fun r hr=>?_,?_,by rw[U5];show us.length+1<=_;omega,fun a u ea z=>by rw[au z];exact (ak.upd nt) _ _ (s3 a u ea z)⟩
   ·rcases Zx.mp hr with z | z
    ·exact ⟨((QO r z).1.same (ak.upd nt)).upd (QO r z).2,(QO r z).2⟩
    ·have e2:=U7.mp z
     subst e2
     exact ⟨sL.upd ⟨ag,pk.cz,pk.iz,(hy.lt e GW).lt⟩ nh,nh⟩
   ·rw[WQ,qk, <-take_snoc Uo,WQ,Qak]
    rfl
  ·rintro σ H3 ⟨us,Ym,rfl,rS,QN,QO,qk,BN,s3⟩
   rw[vS]at BN qk
   refine ⟨us,_,_,rfl,rS,QO,?_,by omega,fun a u ea z=>s3 a u (s1 a u ea z) z⟩
   rw[qk,lS, <-take_snoc he,ZY,Z8,ZQ,Qc0,ZV]
   rfl
 ·rintro σ H1 ⟨ps,ev,sv,rfl,hp,sP,lS,j9,s1⟩
  rw[bf]at j9 lS
  rw[Z8]at lS
  exact ⟨_,rfl,q p1 ps H1 n1 hp sP lS (by omega) (fun a u ea=>s1 a u ea (aq ea n1))⟩
theorem oE:bp P w K mg base dY 2 f7 d7 ["word","cord","place"] (ik K):=by
 have bL:=dU (P:=P) (w:=w) (base:=base) T
 refine T.F7.fn.ok iu (fun vs H Q E h=>mV h) (fun cx A outer s H vs Q E hr h=>?_)
 refine ⟨_,(ae (ao (i:=3) iu.nd rfl (Or.inl rfl) (ay cI (ay bJ (pv 2) ah) (aC aK rfl T.z_len Y3 (aa (pv 0) ab))))
   (ai (aF (bP (aa (bP (aa (pv 1) (aa (pv 3) (aa (aj bL (hr.mono (by decide)) rfl T.F0.mg T.F0.fn.kp T.F0.bd .nil aB (aa (aA dW (pv 0) (pv 3) (fun _ _=>rfl)) ab)) ab)))) (aa (bP (aa (pv 1) (aa (pv 2) (aa (aA dW (pv 0) (pv 2) (fun _ _=>rfl)) ab)))) ab)))))),?_⟩
 obtain ⟨w,c,i,rfl,Up,hi,hz,q⟩:=h
 have hs:(100000:Nat)<sizeLine:=by decide
 have hp:(0:Int)<(w.length:Int):=by omega
 have Yn:=Bt hi
 have j9:=z7 hi
 have e1:w.getD (yP w.length i) 0=w[yP w.length i]:=by rw[WS,K3 j9];rfl
 have e2:w.getD i 0=w[i]:=by rw[WS,K3 hi];rfl
 rw[e1,e2]at q
 refine ⟨_,rfl,_,_,rfl,rfl,_,rfl,w,rfl,by omega,_,_,rfl,rfl,hp,?_⟩
 show w6 3 (V.int (((i:Int) - 1)%(w.length:Int))) _ _ _
 rw[Yn]
 refine ⟨_,rfl,_,rfl,_,rfl,_,rfl,w,_,_,rfl,rfl,by omega,bC (K3 j9),_,rfl,Up _ (ZT j9),by show 3<=sizeLine;decide,fun t1 n1=>?_⟩
 refine ⟨_,rfl,_,rfl,_,rfl,_,rfl,w,_,_,rfl,rfl,by omega,bC (K3 hi),by show 3<=sizeLine;decide,fun t2 n2=>?_⟩
 refine ⟨by show 2<=sizeLine;decide,fun t nt=>?_⟩
 have Uq:=(ak.upd (o:= .tup [.ref t1, .ref t2]) nt)
 refine q t t1 t2 _ ag (Uq _ _ ((ak.upd n2) _ _ ag)) (Uq _ _ ag) ((ak.upd n1).trans ((ak.upd n2).trans Uq))
theorem lT:bp P w K mg base dY 4 f8 d8 ["yard","drawing"] (rh K):=by
 have Gx:=De (P:=P) (w:=w) (base:=base) T
 have pR:=oE (P:=P) (w:=w) (base:=base) T
 refine T.F8.fn.ok cN (fun vs H Q E h=>yh h) (fun cx A outer s H vs Q E hr h=>?_)
 refine ⟨_,(ae (ao (i:=2) cN.nd rfl (Or.inl rfl) xE)
   (ae (bS PassesOwn.never rfl (xt K rfl rfl T.z_enumerate (aa (aj Gx (hr.mono (by decide)) rfl T.F6.mg T.F6.fn.kp T.F6.bd .nil aB (aa (pv 0) (aa (pv 1) ab))) ab)) (iL (n:=2) K rfl rfl (cj (aP (i:=3) cN.nd rfl (Or.inl rfl)) (cj (aP (i:=4) cN.nd rfl (Or.inl rfl)) iH))) (ai (p6 (jt hr) (pv 2) (pv 4) (pv 3) rfl)))
   (ae (ao (i:=5) cN.nd rfl (Or.inl rfl) (cJ ab))
   (ae (bS PassesOwn.never rfl (qJ K rfl rfl T.z_enumerate (aa (aA (az K rfl) (pv 1) ah (fun _ _=>rfl)) ab)) (iL (n:=2) K rfl rfl (cj (aP (i:=6) cN.nd rfl (Or.inl rfl)) (cj (aP (i:=7) cN.nd rfl (Or.inl rfl)) iH))) (ai (bS PassesOwn.never rfl (eL rfl T.z_range (aa (aC aK rfl T.z_len Y3 (aa (pv 7) ab)) ab)) (aP (i:=8) cN.nd rfl (Or.inl rfl)) (ae (ao (i:=9) cN.nd rfl (Or.inl rfl) (aj pR (hr.mono (by decide)) rfl T.F7.mg T.F7.fn.kp T.F7.bd .nil aB (aa (pv 7) (aa (pv 6) (aa (pv 8) ab)))))
   (ai (b7 (bG K rfl ZD Z2 Z1 cy (pv 5) (aa (bP (aa (pv 6) (aa (pv 8) (aa (p5 (jt hr) (pv 2) (aA (az K rfl) (pv 9) ah (fun _ _=>rfl)) (fun _ _=>rfl)) (aa (p5 (jt hr) (pv 2) (aA (az K rfl) (pv 9) ah (fun _ _=>rfl)) (fun _ _=>rfl)) ab))))) ab))))))))
   (ai (aF (pv 5))))))),?_⟩
 obtain ⟨y,dr,ws,os,rfl,hy,hz,wG,Ow,hd,q⟩:=h
 have hs:(100000:Nat)<sizeLine:=by decide
 have Yo:=Fq hy Ow
 have X1:=jM hy
 have LV:=Ow.1
 have Zi:=wG.tR
 obtain ⟨⟨wt,ot,d1,d2,d3⟩,dO⟩:=id hd
 walk_at "wk"
 intro d nd
 refine ⟨_,rfl,_,rfl,y,dr,ws,os,rfl,hy,hz,by omega,hd.same (ak.upd nd),fun p1 ps H1 n1 pj sP lS TK s1=>?_⟩
 have VW:=s1 _ _ (ag (H:=H) (a:=d) (o:=HO.dT []))
 have Jd:ak H H1:=(ak.upd nd).trans s1
 have j9:ps.length=(iU y os).length:=by rw[<-lS,MO]
 refine ⟨p1,rfl,⟨_,bu.of pj⟩,?_⟩
 have Yp:p1≠d:=fun z=>by rw[z,ag]at n1;cases n1
 refine tM (K:=K) (a:=p1) (xs:=GV ps) (fun i σ H'=> ∃(aL:List (List Key×V)) (nv pv:Option V),σ=[some (.str (S y)),some (.ref dr),some (.ref d),nv,pv,none,none,none,none,none]/\H' d=some (.dT aL)/\Nums (iU y os) aL i/\aL.length<=i/\aR d H1 H')
  ⟨[],none,none,rfl,VW,fun p hp=>absurd hp (by simp),WT _,aR.refl _ _⟩ (fun i σ H' _ ⟨_,_,_,_,_,_,_,h⟩=>bu.of (h _ _ pj Yp)) ?_ ?_
 ·rintro i x σ H2 T hx ⟨aL,nv,pv,rfl,hd2,Jg,QL,s2⟩ nT
  obtain ⟨p,hp,rfl⟩: ∃p,ps[i]? =some p/\x=V.ref p.t:=by
   unfold GV at hx
   rw[Y5]at hx
   cases e:ps[i]? with
   | none=>rw[e]at hx;cases hx
   | some p=>rw[e]at hx;cases hx;exact ⟨p,rfl,rfl⟩
  have hi:i<ps.length:=(K4.mp hp).1
  have pk:=(sP p (Y4 hp)).1.tp
  have VX:p.t≠d:=fun z=>by rw[z,VW]at pk;cases pk
  have Yq:d≠T:=aq hd2 nT
  refine ⟨T,_,rfl,aX.of ag,rfl,_,_,rfl,_,_,rfl,rfl,?_⟩
  refine ⟨_,rfl,_,rfl,_,rfl,d,_,rfl,qM.t (k:=vV p.is) (by rw[au Yq];exact hd2) ((ak.upd nT) _ _ (s2 _ _ pk VX)) (by omega),?_⟩
  exact ⟨_,_,_,rfl,ag,Jg.put Yo (Ql lS hp),ZN (dQ _ _ _) (by omega),fun a o ea z=>by rw[au z];exact (ak.upd nT) _ _ (s2 a o ea z)⟩
 ·rintro σ H2 ⟨aL,nv,pv,rfl,hd2,Jg,QL,s2⟩
  rw[Bs,j9]at Jg
  have Ka: ∀p∈iU y os,di aL (vV p)=some (.int ((iU y os).idxOf p:Nat)):=fun p hp=>Jg p (by rw[Z8];exact hp)
  have sg:ak H H2:=fun a o ea=>s2 a o (Jd a o ea) (aq ea nd)
  walk_at "wk"
  intro p2 n2
  have Ur:=ak.upd (o:= .lst []) n2
  have Yr:H p2=none:=ak.free sg n2
  refine ⟨_,rfl,dr,_,0,_,rfl,rfl,aX.of (Ur _ _ (sg _ _ d1)),rfl,?_⟩
  refine ⟨wt,rfl,⟨_,aX.of (Ur _ _ (sg _ _ d2))⟩,?_⟩
  refine nN (K:=K) (a:=wt) (xs:=iN ws) (fun j σ H'=> ∃(qs:List Q4) (cv wv iv av:Option V),σ=[some (.str (S y)),some (.ref dr),some (.ref d),nv,pv,some (.ref p2),cv,wv,iv,av]/\H' p2=some (.lst (iD qs))/\(∀x∈qs,jh H' x)/\qs.map Q4.v=gh (iU y os) ws j/\qs.length<=12*j/\ak H2 H')
   ⟨[],none,none,none,none,rfl,ag,fun _ h=>absurd h Zu,rfl,WT _,Ur⟩ (fun j σ H' _ ⟨_,_,_,_,_,_,_,_,_,_,h⟩=>aX.of (h _ _ (sg _ _ d2))) ?_ ?_
  ·rintro j x σ H3 T hx ⟨qs,cv,wv,iv,av,rfl,rS,yH,pT,Ox,s3⟩ nT
   have hj:j<ws.length:=by
    have:=(K4.mp hx).1
    rwa [bH]at this
   rw[iO hj]at hx
   cases hx
   have Ml:ws[j]? =some ws[j]:=K3 hj
   obtain ⟨Ov,pK⟩:=wG.all _ (ZT hj)
   generalize ws[j]=w at Ml Ov pK ⊢
   have Up: ∀l∈w,l<128:=fun l hl=>(hy.lt l (Ov l hl)).lt
   have sT:=ak.upd (o:= .tup [.int j, .str (S w)]) nT
   refine ⟨T,_,rfl,aX.of ag,rfl,_,_,rfl,_,_,rfl,rfl,?_⟩
   refine ⟨_,rfl,w,rfl,by omega,_,rfl,by omega,by omega,?_⟩
   rw[U6]
   refine dc (fun i σ H'=> ∃(us:List Q4) (iv av:Option V),σ=[some (.str (S y)),some (.ref dr),some (.ref d),nv,pv,some (.ref p2),some (.int j),some (.str (S w)),iv,av]/\H' p2=some (.lst (iD us))/\(∀x∈us,jh H' x)/\us.map Q4.v=gh (iU y os) ws j++lH (iU y os) j w i/\us.length<=12*j+i/\ak H2 H')
    ⟨qs,iv,av,rfl,sT _ _ rS,fun x hx=>(yH x hx).ts (ba.of sT),by rw[pT];show _=_++[];rw[ZV],by omega,s3.trans sT⟩ ?_ ?_
   ·rintro i σ H4 hi ⟨us,Ys,Yt,rfl,G6,sC,qk,BN,s4⟩
    have e1:w[yP w.length i]? =some (w.getD (yP w.length i) 0):=by rw[WS,K3 (z7 hi)];rfl
    have e2:w[i]? =some (w.getD i 0):=by rw[WS,K3 hi];rfl
    have m1:=Ka _ (Fs hy Ow Ml e1 (Ov _ (Y4 e1)) (.inr rfl))
    have m2:=Ka _ (Fs hy Ow Ml e2 (Ov _ (Y4 e2)) (.inl rfl))
    refine ⟨_,rfl,_,rfl,_,rfl,w,j,i,by rw[Qay];rfl,Up,hi,by omega,fun t t1 t2 H5 ht nh nB s5=>?_⟩
    have QP:=s5 _ _ G6
    have VY:=s5 _ _ (s4 _ _ hd2)
    refine ⟨_,rfl, .inl ⟨rfl,_,bu.of QP⟩,_,rfl,_,rfl,?_⟩
    refine ⟨_,rfl,_,rfl,t,_,0,_,rfl,rfl,aX.of ht,rfl,d,_,rfl,by rw[<-m1];exact jA.t VY nh,?_⟩
    refine ⟨_,rfl,_,rfl,t,_,1,_,rfl,rfl,aX.of ht,rfl,d,_,rfl,by rw[<-m2];exact jA.t VY nB,?_⟩
    rw[Qay]
    refine ⟨by show 4<=sizeLine;decide,fun tq Yu=>?_⟩
    have s6:=s5.trans (ak.upd (o:= .tup [.int j, .int i, .int ((iU y os).idxOf (j,yP w.length i,aI (w.getD (yP w.length i) 0)):Nat), .int ((iU y os).idxOf (j,i,w.getD i 0):Nat)]) Yu)
    have Us:=s6 _ _ G6
    refine ⟨p2,_,_,rfl,rfl,Us,by rw[gN];omega,?_⟩
    refine ⟨us++[⟨tq,gp (iU y os) j w i⟩],_,_,rfl,by rw[ag];exact congrArg (fun x=>some (HO.lst x)) (yg us ⟨tq,gp (iU y os) j w i⟩),fun x hx=>?_,by rw[WQ,qk,yf,Qak];rfl,by rw[U5];show us.length+1<=_;omega,fun a o ea=>by rw[au (aq ea n2)];exact s6 _ _ (s4 a o ea)⟩
    rcases Zx.mp hx with g | g
    ·exact (sC x g).ts ((ba.of s6).trans (ba.xu Us))
    ·have e3:=U7.mp g
     subst e3
     exact (ba.xu Us) _ _ ag
   ·rintro σ H4 ⟨us,Ys,Yt,rfl,G6,sC,qk,BN,s4⟩
    exact ⟨us,_,_,_,_,rfl,G6,sC,by rw[qk,mT Ml],by omega,s4⟩
  ·rintro σ H3 ⟨qs,cv,wv,iv,av,rfl,rS,yH,pT,Ox,s3⟩
   rw[bH]at pT
   exact ⟨_,rfl,q p2 qs H3 Yr rS yH pT (sg.trans s3)⟩
theorem pU:bp P w K mg base dY 1 f9 d9 ["one","other"] (ja K):=by
 refine T.F9.fn.ok fR (fun vs H Q E h=>nX h) (fun cx A outer s H vs Q E hr h=>?_)
 refine ⟨_,(ae (ao (i:=2) fR.nd rfl (Or.inl rfl) (aC (nG rfl) rfl T.z_min boot_min (aa (aA (az K rfl) (pv 0) ah (fun _ _=>rfl)) (aa (aA (az K rfl) (pv 0) ah (fun _ _=>rfl)) ab))))
   (ae (ao (i:=3) fR.nd rfl (Or.inl rfl) (aC (sZ rfl) rfl T.z_max boot_max (aa (aA (az K rfl) (pv 0) ah (fun _ _=>rfl)) (aa (aA (az K rfl) (pv 0) ah (fun _ _=>rfl)) ab))))
   (ai (aF (gD D9 (qv i5 i5 (pv 2) (aA (az K rfl) (pv 1) ah (fun _ _=>rfl)) (pv 3)) (qv i5 i5 (pv 2) (aA (az K rfl) (pv 1) ah (fun _ _=>rfl)) (pv 3)) (aM _)))))),?_⟩
 obtain ⟨a,b,rfl,ha,hb,q⟩:=h
 refine ⟨_,rfl,a.t,_,2,_,rfl,rfl,aX.of ha,rfl,_,rfl,a.t,_,3,_,rfl,rfl,aX.of ha,rfl,_,_,rfl,?_⟩
 refine ⟨_,rfl,a.t,_,2,_,rfl,rfl,aX.of ha,rfl,_,rfl,a.t,_,3,_,rfl,rfl,aX.of ha,rfl,_,_,rfl,?_⟩
 have key: ∀X Y:Bool,X=Bu (if (a.v.2.2.2:Int)<a.v.2.2.1 then (a.v.2.2.2:Int) else a.v.2.2.1) (if (a.v.2.2.2:Int)>a.v.2.2.1 then (a.v.2.2.2:Int) else a.v.2.2.1) b.v.2.2.1->Y=Bu (if (a.v.2.2.2:Int)<a.v.2.2.1 then (a.v.2.2.2:Int) else a.v.2.2.1) (if (a.v.2.2.2:Int)>a.v.2.2.1 then (a.v.2.2.2:Int) else a.v.2.2.1) b.v.2.2.2->Q (.bl (!decide (X=Y))) H:=fun X Y hX hY=>by
  rw[hX,hY]
  exact q
 refine ⟨_,rfl,_,rfl,b.t,_,2,_,rfl,rfl,aX.of hb,rfl,_,_,rfl,rfl,_,rfl,bz (fun z1=>?_) (fun z1=>?_)⟩
 ·refine ⟨_,rfl,_,_,rfl,rfl,?_⟩
  refine ⟨_,rfl,_,rfl,b.t,_,3,_,rfl,rfl,aX.of hb,rfl,_,_,rfl,rfl,_,rfl,bz (fun z2=>?_) (fun z2=>?_)⟩
  ·exact ⟨_,rfl,_,_,rfl,rfl,_,_,rfl,rfl,key _ _ (by unfold Bu;rw[z1];rfl) (by unfold Bu;rw[z2];rfl)⟩
  ·exact ⟨_,_,rfl,rfl,key _ _ (by unfold Bu;rw[z1];rfl) (by unfold Bu;rw[Qct.mpr z2];rfl)⟩
 ·refine ⟨_,rfl,_,rfl,b.t,_,3,_,rfl,rfl,aX.of hb,rfl,_,_,rfl,rfl,_,rfl,bz (fun z2=>?_) (fun z2=>?_)⟩
  ·exact ⟨_,rfl,_,_,rfl,rfl,_,_,rfl,rfl,key _ _ (by unfold Bu;rw[Qct.mpr z1];rfl) (by unfold Bu;rw[z2];rfl)⟩
  ·exact ⟨_,_,rfl,rfl,key _ _ (by unfold Bu;rw[Qct.mpr z1];rfl) (by unfold Bu;rw[Qct.mpr z2];rfl)⟩
theorem yI:bp P w K mg base dY 5 MY NI ["yard","drawing"] (oU K):=by
 have iA:=lT (P:=P) (w:=w) (base:=base) T
 have r9:=pU (P:=P) (w:=w) (base:=base) T
 refine T.Mb.fn.ok dR (fun vs H Q E h=>vY h) (fun cx A outer s H vs Q E hr h=>?_)
 refine ⟨_,(ae (ao (i:=2) dR.nd rfl (Or.inl rfl) (cJ ab))
   (ae (ao (i:=3) dR.nd rfl (Or.inl rfl) (aj iA (hr.mono (by decide)) rfl T.F8.mg T.F8.fn.kp T.F8.bd .nil aB (aa (pv 0) (aa (pv 1) ab))))
   (ae (bS PassesOwn.never rfl (xt K rfl rfl T.z_enumerate (aa (pv 3) ab)) (iL (n:=2) K rfl rfl (cj (aP (i:=4) dR.nd rfl (Or.inl rfl)) (cj (aP (i:=5) dR.nd rfl (Or.inl rfl)) iH))) (ai (bS PassesOwn.never rfl (fj K rfl (bV (ml K rfl) (pv 3) (bM (ay aU (pv 4) ah)) dH)) (aP (i:=6) dR.nd rfl (Or.inl rfl)) (ai (bI (iF (aj r9 (hr.mono (by decide)) rfl T.F9.mg T.F9.fn.kp T.F9.bd .nil aB (aa (pv 5) (aa (pv 6) ab)))) (ai (b7 (bG K rfl ZD Z2 Z1 cy (pv 2) (aa (bP (aa (aA (az K rfl) (pv 5) ah (fun _ _=>rfl)) (aa (aA (az K rfl) (pv 5) ah (fun _ _=>rfl)) (aa (aA (az K rfl) (pv 6) ah (fun _ _=>rfl)) (aa (aA (az K rfl) (pv 6) ah (fun _ _=>rfl)) ab))))) ab)))) a_)))))
   (ai (aF (pv 2)))))),?_⟩
 obtain ⟨y,dr,ws,os,rfl,hy,hz,wG,Ow,hd,q⟩:=h
 have hs:(100000:Nat)<sizeLine:=by decide
 have T5:=uw (os:=os) wG
 walk_at "wk"
 intro p1 n1
 refine ⟨_,rfl,_,rfl,y,dr,ws,os,rfl,hy,hz,wG,Ow,hd.same (ak.upd n1),fun p2 cs H1 n2 jj R7 Ut s1=>?_⟩
 have pj:=s1 _ _ (ag (H:=H) (a:=p1) (o:=HO.lst []))
 have Jd:ak H H1:=(ak.upd n1).trans s1
 have VZ:p2≠p1:=fun z=>by rw[z,ag]at n2;cases n2
 have hlen:cs.length=(bR y ws os).length:=by rw[<-Ut,MO]
 refine ⟨_,rfl,p2,rfl,⟨_,bu.of jj⟩,?_⟩
 refine tM (K:=K) (a:=p2) (xs:=iD cs) (fun k σ H'=> ∃(qs:List Q4) (nv ov rv:Option V),σ=[some (.str (S y)),some (.ref dr),some (.ref p1),some (.ref p2),nv,ov,rv]/\H' p1=some (.lst (iD qs))/\(∀x∈qs,jh H' x)/\qs.map Q4.v=cX (bR y ws os) k/\qs.length<=48*k/\aR p1 H1 H')
  ⟨[],none,none,none,rfl,pj,fun _ h=>absurd h Zu,rfl,WT _,aR.refl _ _⟩ (fun k σ H' _ ⟨_,_,_,_,_,_,_,_,_,h⟩=>bu.of (h _ _ jj VZ)) ?_ ?_
 ·rintro k x σ H2 T hx ⟨qs,nv,ov,rv,rfl,hp,yH,pT,Ox,s2⟩ nT
  obtain ⟨a,ha,rfl⟩:=vX hx
  have hk:k<cs.length:=(K4.mp ha).1
  have Yv:=Y4 ha
  have Yw:(bR y ws os)[k]? =some a.v:=by rw[<-Ut,Y5,ha];rfl
  have ta:=R7 a Yv
  have Uu:a.t≠p1:=fun z=>by have h9:H1 a.t=_:=ta;rw[z,pj]at h9;cases h9
  have sT:=ak.upd (o:= .tup [.int k, .ref a.t]) nT
  have Yx:=sT _ _ hp
  refine ⟨T,_,rfl,aX.of ag,rfl,_,_,rfl,_,_,rfl,rfl,?_⟩
  have Uv:=sT _ _ (s2 _ _ jj VZ)
  refine ⟨_,rfl,_,rfl,_,_,rfl,rfl,_,rfl,p2,_,rfl,bu.of Uv,fun p3 n3=>?_⟩
  have ek:((k:Int)+1)=((k+1:Nat):Int):=by omega
  have Yy:o5 (iD cs) (some ((k:Int)+1)) none=iD (cs.drop (k+1)):=by
   rw[ek]
   show cut (iD cs) (some ((k+1:Nat):Int)) none=_
   rw[hW]
   unfold iD
   rw[Qcc]
  rw[Yy]
  have Rj:(cs.drop (k+1)).map Q4.v=(bR y ws os).drop (k+1):=by rw[Qcc,Ut]
  have s3:=sT.trans (ak.upd (o:= .lst (iD (cs.drop (k+1)))) n3)
  have rS:=s3 _ _ hp
  have Zj:H2 p3=none:=ak.free sT n3
  have Yz:p3≠p1:=fun z=>by rw[z,Yx]at n3;cases n3
  refine ⟨p3,rfl,⟨_,bu.of ag⟩,?_⟩
  refine fg (K:=K) (a:=p3) (xs:=iD (cs.drop (k+1))) (fun j σ H'=> ∃(us:List Q4) (rv:Option V),σ=[some (.str (S y)),some (.ref dr),some (.ref p1),some (.ref p2),some (.int k),some (.ref a.t),rv]/\H' p1=some (.lst (iD us))/\H' p3=some (.lst (iD (cs.drop (k+1))))/\(∀x∈us,jh H' x)/\us.map Q4.v=cX (bR y ws os) k++dI a.v (((bR y ws os).drop (k+1)).take j)/\us.length<=48*k+j/\aR p1 H1 H')
   ⟨qs,rv,rfl,rS,ag,fun x hx=>(yH x hx).ts (ba.of s3),by rw[pT];show _=_++[];rw[ZV],by omega,s2.after s3⟩ (fun j σ H' _ ⟨_,_,_,_,h,_⟩=>bu.of h) ?_ ?_
  ·rintro j x σ H3 QG ⟨us,YA,rfl,G6,Mt,sC,qk,BN,s4⟩
   obtain ⟨b,hb,rfl⟩:=vX QG
   have hj:j<(cs.drop (k+1)).length:=(K4.mp hb).1
   rw[ZH]at hj
   have YB:=Qbo (Y4 hb)
   have QJ:((bR y ws os).drop (k+1))[j]? =some b.v:=by rw[<-Rj,Y5,hb];rfl
   have tb:=R7 b YB
   have Uw:b.t≠p1:=fun z=>by have h9:H1 b.t=_:=tb;rw[z,pj]at h9;cases h9
   have Ux:jh H3 a:=s4 _ _ ta Uu
   have Uy:jh H3 b:=s4 _ _ tb Uw
   have er:=vW (x:=a.v) QJ
   refine ⟨_,rfl,_,rfl,a,b,rfl,Ux,Uy,_,rfl,bz (fun z=>?_) (fun z=>?_)⟩
   ·rw[if_pos z]at er
    refine ⟨_,rfl, .inl ⟨rfl,_,bu.of G6⟩,?_⟩
    refine ⟨_,rfl,a.t,_,0,_,rfl,rfl,aX.of Ux,rfl,_,rfl,a.t,_,1,_,rfl,rfl,aX.of Ux,rfl,_,rfl,b.t,_,0,_,rfl,rfl,aX.of Uy,rfl,_,rfl,b.t,_,1,_,rfl,rfl,aX.of Uy,rfl,?_⟩
    refine ⟨by show 4<=sizeLine;decide,fun t nt=>?_⟩
    have st:=ak.upd (o:= .tup [.int a.v.1, .int a.v.2.1, .int b.v.1, .int b.v.2.1]) nt
    have QP:=st _ _ G6
    refine ⟨p1,_,_,rfl,rfl,QP,by rw[gN];omega,?_⟩
    refine ⟨us++[⟨t,(a.v.1,a.v.2.1,b.v.1,b.v.2.1)⟩],_,rfl,by rw[ag];exact congrArg (fun x=>some (HO.lst x)) (yg us ⟨t,(a.v.1,a.v.2.1,b.v.1,b.v.2.1)⟩),by rw[au Yz];exact st _ _ Mt,fun x hx=>?_,by rw[WQ,qk,er,Qak];rfl,by rw[U5];show us.length+1<=_;omega,fun c o e w=>by rw[au w];exact st _ _ (s4 c o e w)⟩
    rcases Zx.mp hx with g | g
    ·exact (sC x g).ts ((ba.of st).trans (ba.xu QP))
    ·have e3:=U7.mp g
     subst e3
     exact (ba.xu QP) _ _ ag
   ·rw[if_neg z,ZV]at er
    exact ⟨us,_,rfl,G6,Mt,sC,by rw[qk,er],by omega,s4⟩
  ·rintro σ H3 ⟨us,YA,rfl,G6,Mt,sC,qk,BN,s4⟩
   rw[gN,ZH]at BN
   have e5:((bR y ws os).drop (k+1)).take (iD (cs.drop (k+1))).length=(bR y ws os).drop (k+1):=by
    rw[gN,ZH,hlen, <-ZH,Z8]
   rw[e5]at qk
   exact ⟨us,_,_,_,rfl,G6,sC,by rw[qk,mU Yw],by omega,s4⟩
 ·rintro σ H2 ⟨qs,nv,ov,rv,rfl,hp,yH,pT,Ox,s2⟩
  rw[gN,hlen]at pT
  exact ⟨_,rfl,q p1 qs H2 n1 hp yH pT (fun a o ea=>s2 a o (Jd a o ea) (aq ea n1))⟩
theorem pV:bp P w K mg base dY 1 MZ NJ ["some"] (jb K):=by
 refine T.Rw.fn.ok dJ (fun vs H Q E h=>nZ h) (fun cx A outer s H vs Q E hr h=>?_)
 refine ⟨_,(ae (ao (i:=1) dJ.nd rfl (Or.inl rfl) Ej)
   (ae (bS PassesOwn.never rfl (fj K rfl (pv 0)) (aP (i:=2) dJ.nd rfl (Or.inl rfl)) (ae (ao (i:=3) dJ.nd rfl (Or.inl rfl) (aC (nG rfl) rfl T.z_min boot_min (aa (aA (az K rfl) (pv 2) ah (fun _ _=>rfl)) (aa (aA (az K rfl) (pv 2) ah (fun _ _=>rfl)) ab))))
   (ae (p6 (jt hr) (pv 1) (aA (az K rfl) (pv 2) ah (fun _ _=>rfl)) (pv 3) rfl)
   (ai (p6 (jt hr) (pv 1) (aA (az K rfl) (pv 2) ah (fun _ _=>rfl)) (pv 3) rfl)))))
   (ai (aF (pv 1))))),?_⟩
 obtain ⟨a,qs,rfl,ha,hq,hn,nd,q⟩:=h
 have hs:(100000:Nat)<sizeLine:=by decide
 walk_at "wk"
 intro d R8
 have V0:a≠d:=aq ha R8
 refine ⟨_,rfl,a,rfl,⟨_,bu.of (by rw[au V0];exact ha)⟩,?_⟩
 refine fg (K:=K) (a:=a) (xs:=iD qs) (fun k σ H'=> ∃(cv fv:Option V),σ=[some (.ref a),some (.ref d),cv,fv]/\H' d=some (.dK (gC ((qs.take k).map Q4.v)))/\aR d H H')
  ⟨none,none,rfl,ag,fun b o e z=>by rw[au z];exact e⟩ (fun k σ H' _ ⟨_,_,_,_,h⟩=>bu.of (h _ _ ha V0)) ?_ ?_
 ·rintro k x σ H1 hx ⟨cv,fv,rfl,hd,s1⟩
  obtain ⟨c,hc,rfl⟩:=vX hx
  have hk:k<qs.length:=(K4.mp hc).1
  have tc:=hq c (Y4 hc)
  have iB:c.t≠d:=fun z=>by have h9:H c.t=_:=tc;rw[z,R8]at h9;cases h9
  have R9:jh H1 c:=s1 _ _ tc iB
  have lc:(gC ((qs.take k).map Q4.v)).length<=2000:=by rw[yk,MO,ZG];omega
  have e:(qs.take (k+1)).map Q4.v=(qs.take k).map Q4.v++[c.v]:=by rw[<-take_snoc hc,WQ];rfl
  have V1:(dF ((qs.take k).map Q4.v++[c.v])).Nodup:=by
   rw[<-e]
   have:qs.map Q4.v=(qs.take (k+1)).map Q4.v++(qs.drop (k+1)).map Q4.v:=by rw[<-WQ,Qat]
   rw[this]at nd
   unfold dF at nd ⊢
   rw[ZY,Qaj]at nd
   exact nd.1
  refine ⟨_,rfl,c.t,_,2,_,rfl,rfl,aX.of R9,rfl,_,rfl,c.t,_,3,_,rfl,rfl,aX.of R9,rfl,_,_,rfl,?_⟩
  refine ⟨_,rfl,_,rfl,_,rfl,c.t,_,2,_,rfl,rfl,aX.of R9,rfl,d,_,rfl,qM.k (k:=Sum.inl (c.v.2.2.1:Int)) hd (by omega),?_⟩
  have YC: ∀o,jh (L2.upd H1 d o) c:=fun o=>by show L2.upd H1 d o c.t=_;rw[au iB];exact R9
  refine ⟨_,rfl,_,rfl,_,rfl,c.t,_,3,_,rfl,rfl,aX.of (YC _),rfl,d,_,rfl,qM.k (k:=Sum.inl (c.v.2.2.2:Int)) ag (ZW (dQ _ _ _) (by omega)),?_⟩
  refine ⟨_,_,rfl,?_,fun b o eb z=>by rw[au z,au z];exact s1 b o eb z⟩
  rw[ag,e, <-II V1]
  rfl
 ·rintro σ H1 ⟨cv,fv,rfl,hd,s1⟩
  rw[gN,Z8]at hd
  exact ⟨_,rfl,q d H1 R8 hd fun b o eb=>s1 b o eb (aq eb R8)⟩
theorem wQ:bp P w K mg base dY 1 M0 NK ["rising","point"] (mX K):=by
 refine T.Rx.fn.ok dm (fun vs H Q E h=>sM h) (fun cx A outer s H vs Q E hr h=>?_)
 refine ⟨_,(ae (ao (i:=2) dm.nd rfl (Or.inl rfl) ah)
   (ae (ao (i:=3) dm.nd rfl (Or.inl rfl) (ay bJ (aC (aV K rfl) rfl T.z_len Y3 (aa (pv 0) ab)) ah))
   (ae (dh PassesOwn.never (aH i5 (pv 2) (pv 3) (aM _)) (ae (ao (i:=4) dm.nd rfl (Or.inl rfl) (ay fk (ay aU (pv 2) (pv 3)) ah))
   (ai (bI (aH i5 (aA (b6 K rfl) (pv 0) (pv 4) (fun _ _=>rfl)) (pv 1) (aM _)) (ai (ao (i:=2) dm.nd rfl (Or.inl rfl) (ay aU (pv 4) ah))) (ai (ao (i:=3) dm.nd rfl (Or.inl rfl) (pv 4)))))))
   (ai (aF (pv 2)))))),?_⟩
 obtain ⟨a,l,p,rfl,ha,up,hp,hn,q⟩:=h
 have hs:(100000:Nat)<sizeLine:=by decide
 have hi:=Y6 hp
 have Uz:l[l.idxOf p]=p:=Qam hi
 have key:=Qa8.mp up
 refine ⟨_,rfl,a,_,rfl, .inl (bu.of ha),?_⟩
 rw[mW]
 walk_at "wk"
 refine ⟨fun m σ H'=> ∃(lo hi:Nat) (mv:Option V),σ=[some (.ref a),some (.int p),some (.int lo),some (.int hi),mv]/\m=hi - lo/\lo<=l.idxOf p/\l.idxOf p<=hi/\hi<l.length/\H'=H,⟨_,0,l.length - 1,none,?_,rfl,WT _,by omega,by omega,rfl⟩,?_⟩
 ·have:((l.length:Int) - 1)=((l.length - 1:Nat):Int):=by omega
  rw[<-this];rfl
 rintro m σ H2 ⟨lo,pY,mv,rfl,rfl,h1,h2,h3,rfl⟩
 walk_at "wk"
 refine bz (fun z=>?_) (fun z=>?_)
 ·have z1:(lo:Int)<pY:=of_decide_eq_true z
  have em:(((lo:Int)+pY) / 2)=(((lo+pY) / 2:Nat):Int):=by omega
  have hm:(lo+pY) / 2<l.length:=by omega
  walk_at "rd"
  refine ⟨a,_,((lo:Int)+pY) / 2,_,rfl,rfl,bu.of ha,by rw[em];exact bC (FG (K3 hm)),?_⟩
  walk_at "rd"
  refine bz (fun y=>?_) (fun y=>?_)
  ·have y1:((l[(lo+pY) / 2]:Nat):Int)<p:=of_decide_eq_true y
   have lt:(lo+pY) / 2<l.idxOf p:=by
    refine Classical.byContradiction fun w=>?_
    by_cases e:(lo+pY) / 2=l.idxOf p
    ·have:l[(lo+pY) / 2]=p:=by simp only[e];exact Uz
     omega
    ·have:=key (l.idxOf p) ((lo+pY) / 2) hi hm (by omega)
     rw[Uz]at this
     omega
   walk_at "rd"
   have e1:((lo:Int)+pY) / 2+1=(((lo+pY) / 2+1:Nat):Int):=by omega
   refine ⟨pY - ((lo+pY) / 2+1),by omega,(lo+pY) / 2+1,pY,_,by rw[<-e1];rfl,rfl,by omega,h2,h3,rfl⟩
  ·have y1: ¬((l[(lo+pY) / 2]:Nat):Int)<p:=fun w=>y (decide_eq_true w)
   have le:l.idxOf p<=(lo+pY) / 2:=by
    refine Classical.byContradiction fun w=>?_
    have:=key ((lo+pY) / 2) (l.idxOf p) hm hi (by omega)
    rw[Uz]at this
    omega
   walk_at "rd"
   refine ⟨(lo+pY) / 2 - lo,by omega,lo,(lo+pY) / 2,_,by rw[<-em];rfl,rfl,h1,le,by omega,rfl⟩
 ·have z1: ¬(lo:Int)<pY:=fun w=>z (decide_eq_true w)
  have e:lo=l.idxOf p:=by omega
  walk_at "rd"
  rw[e]
  exact q
theorem gR:bp P w K mg base dY 2 M1 NL ["some"] (gO K):=by
 have r_:=pV (P:=P) (w:=w) (base:=base) T
 have yJ:=wQ (P:=P) (w:=w) (base:=base) T
 refine T.C8.fn.ok bE (fun vs H Q E h=>lJ h) (fun cx A outer s H vs Q E hr h=>?_)
 refine ⟨_,(ae (ao (i:=1) bE.nd rfl (Or.inl rfl) (aj r_ (hr.mono (by decide)) rfl T.Rw.mg T.Rw.fn.kp T.Rw.bd .nil aB (aa (pv 0) ab)))
   (ae (ao (i:=2) bE.nd rfl (Or.inl rfl) (cJ ab))
   (ae (ao (i:=3) bE.nd rfl (Or.inl rfl) ah)
   (ae (bS PassesOwn.never rfl (fj K rfl (aC (sH rfl) rfl T.z_sorted boot_sorted (aa (pv 1) ab))) (aP (i:=4) bE.nd rfl (Or.inl rfl)) (ai (bI (aH gT (p5 (jt hr) (pv 1) (pv 4) (fun _ _=>rfl)) (pv 4) (aM _)) (ai (b7 (bG K rfl ZD Z2 Z1 cy (pv 2) (aa (pv 4) ab)))) (ae (ao (i:=5) bE.nd rfl (Or.inl rfl) (aj yJ (hr.mono (by decide)) rfl T.Rx.mg T.Rx.fn.kp T.Rx.bd .nil aB (aa (pv 2) (aa (p5 (jt hr) (pv 1) (pv 4) (fun _ _=>rfl)) ab))))
   (ae (b7 (bG K rfl ZD Qb8 Qb7 qy (pv 2) (aa (pv 5) ab)))
   (ai (jo (i:=3) bE.nd rfl (Or.inl rfl) (ay bJ (aC (aV K rfl) rfl T.z_len Y3 (aa (pv 2) ab)) (pv 5)) qq)))))))
   (ai (aF (pv 3))))))),?_⟩
 obtain ⟨a,qs,rfl,ha,hq,hn,nd,q⟩:=h
 have hs:(100000:Nat)<sizeLine:=by decide
 refine ⟨_,rfl,a,qs,rfl,ha,hq,by omega,nd,fun d H1 V1 hd s1=>?_⟩
 have R7:(qs.map Q4.v).length<=24:=by rw[MO];exact hn
 generalize qs.map Q4.v=cs at nd hd q R7
 have kl:=yk cs
 have Zk:(dF cs).length=2*cs.length:=by
  have:=congrArg List.length (il cs)
  rw[MO,MO]at this
  omega
 walk_at "wk"
 intro b nb
 have V2:d≠b:=aq hd nb
 have hd2:L2.upd H1 b (.lst []) d=some (.dK (gC cs)):=by rw[au V2];exact hd
 have sb:=ak.upd (o:= .lst []) nb
 refine ⟨_,rfl,d,_,(dF cs).map fun n:Nat=>(n:Int),rfl,hd2,by rw[il,Qac];rfl,by rw[MO];omega,fun p2 ms n2 wD Qv=>?_⟩
 obtain ⟨P,eP,pP,uP⟩:=z9 nd wD Qv
 rw[eP]
 have ch:=L1 nd pP uP
 have lP:P.length<=2000:=by rw[pP.length_eq];omega
 have V3:p2≠b:=fun z=>by rw[z,ag]at n2;cases n2
 have s2:=sb.trans (ak.upd (o:= .lst (ins P)) n2)
 refine ⟨p2,rfl,⟨_,bu.of ag⟩,?_⟩
 refine fg (K:=K) (a:=p2) (xs:=ins P) (fun k σ H'=> ∃(m:Nat) (pv nv:Option V),σ=[some (.ref a),some (.ref d),some (.ref b),some (.int m),pv,nv]/\H' b=some (.lst (ins (qe (cM cs) (P.take k) (P.drop k))))/\m+GX (cM cs) (P.take k) (P.drop k)=GX (cM cs) [] P/\aR b (L2.upd (L2.upd H1 b (.lst [])) p2 (.lst (ins P))) H')
  ⟨0,none,none,rfl,by rw[au (Ne.symm V3),ag];rfl,by rw[Qcl];rfl,aR.refl _ _⟩ (fun k σ H' _ ⟨_,_,_,_,_,_,h⟩=>bu.of (h _ _ ag V3)) ?_ ?_
 ·rintro k x σ H3 hx ⟨m,pv,nv,rfl,hb,hm,s3⟩
  obtain ⟨p,hp,rfl⟩: ∃p,P[k]? =some p/\x=V.int (p:Nat):=by
   unfold ins at hx
   rw[Y5]at hx
   cases e:P[k]? with
   | none=>rw[e]at hx;cases hx
   | some p=>rw[e]at hx;cases hx;exact ⟨p,rfl,rfl⟩
  have hk:k<P.length:=(K4.mp hp).1
  have YD:p∈dF cs:=pP.mem_iff.mp (Y4 hp)
  have V4:=L4 nd YD
  have Dx:H3 d=some (.dK (gC cs)):=s3 _ _ (s2 _ _ hd) V2
  have V5:P=P.take k++p::P.drop (k+1):=by
   have:=Qat k P
   rw[Qaa hk,(K4.mp hp).2]at this
   exact this.symm
  have UA:P.drop k=p::P.drop (k+1):=by rw[Qaa hk,(K4.mp hp).2]
  have QE:P.take (k+1)=P.take k++[p]:=(take_snoc hp).symm
  have bl:(qe (cM cs) (P.take k) (P.drop k)).length<=2000:=ZN IJ (by rw[ZG];omega)
  have xX:=FJ (st:=cM cs) hp
  refine ⟨_,rfl,_,rfl,d,_,rfl,by rw[<-V4];exact jA.k (k:=Sum.inl (p:Int)) Dx,?_⟩
  walk_at "rd"
  refine bz (fun z=>?_) (fun z=>?_)
  ·have z1:cM cs p=p:=by have:=of_decide_eq_true z;omega
   refine ⟨_,rfl, .inl ⟨rfl,_,bu.of hb⟩,_,rfl,b,_,_,rfl,rfl,hb,by rw[mW];omega,?_⟩
   refine ⟨m,_,_,rfl,?_,?_,s3.trans (aR.upd _ _ _)⟩
   ·rw[ag,FF,QE,FA ch V5 z1, <-UA]
   ·have e0:CV (cM cs) (P.take k) (P.drop (k+1)) p=0:=by unfold CV;rw[if_pos z1]
    omega
  ·have z1:cM cs p≠p:=fun w=>z (decide_eq_true (by rw[w]))
   obtain ⟨en,em⟩:=LY ch V5 z1
   rw[<-UA]at en em
   have up:=L3 (st:=cM cs) uP (Qat k P).symm (P.drop k)
   have zk:=Y6 em
   refine ⟨_,rfl,_,rfl,_,rfl,d,_,rfl,by rw[<-V4];exact jA.k (k:=Sum.inl (p:Int)) Dx,b,_,cM cs p,rfl,hb,up,em,by omega,?_⟩
   refine ⟨_,rfl, .inl ⟨rfl,_,bu.of hb⟩,_,rfl,b,_,_,_,_,rfl,rfl,hb,by omega,by omega,?_,FG (K3 zk),?_⟩
   ·rw[mW]
    exact Qn zk
   have ee:(ins (qe (cM cs) (P.take k) (P.drop k))).eraseIdx ((qe (cM cs) (P.take k) (P.drop k)).idxOf (cM cs p))=ins (qe (cM cs) (P.take (k+1)) (P.drop (k+1))):=by
    rw[QE,en, <-FI em]
    exact ux _ _
   rw[ee]
   refine ⟨_,rfl,_,rfl,b,_,rfl, .inl (bu.of ag),?_⟩
   walk_at "rd"
   have bh:=behind up em
   have lb:(qe (cM cs) (P.take (k+1)) (P.drop (k+1))).length=((qe (cM cs) (P.take k) (P.drop k)).erase (cM cs p)).length:=by rw[QE,en]
   have le:((qe (cM cs) (P.take k) (P.drop k)).erase (cM cs p)).length+1=(qe (cM cs) (P.take k) (P.drop k)).length:=by rw[List.length_erase_of_mem em];omega
   have ec:CV (cM cs) (P.take k) (P.drop (k+1)) p=((qe (cM cs) (P.take k) (P.drop k)).filter fun x=>decide (cM cs p<x)).length:=by unfold CV;rw[if_neg z1,UA]
   have ei:(m:Int)+(((ins (qe (cM cs) (P.take (k+1)) (P.drop (k+1)))).length:Nat) - ((qe (cM cs) (P.take k) (P.drop k)).idxOf (cM cs p):Nat))=((m+CV (cM cs) (P.take k) (P.drop (k+1)) p:Nat):Int):=by rw[mW];omega
   exact ⟨m+CV (cM cs) (P.take k) (P.drop (k+1)) p,some (.int p),some (.int ((qe (cM cs) (P.take k) (P.drop k)).idxOf (cM cs p):Nat)),by rw[<-ei];rfl,ag,by omega,s3.trans (aR.upd _ _ _)⟩
 ·rintro σ H3 ⟨m,pv,nv,rfl,hb,hm,s3⟩
  rw[mW,List.drop_length,Z8]at hm
  have Eg:m=GX (cM cs) [] P:=hm
  refine ⟨_,rfl,?_⟩
  rw[Eg,Qm ch]
  exact q H3 fun c o e=>s3 c o (s2 c o (s1 c o e)) (aq e (ak.free s1 nb))
theorem As:bp P w K mg base dY 9 Nu Ob ["yard","one","other"] (rC K):=by
 have iA:=lT (P:=P) (w:=w) (base:=base) T
 have rZ:=wJ (P:=P) (w:=w) (base:=base) T
 have cG:=gR (P:=P) (w:=w) (base:=base) T
 refine T.RO.fn.ok i4 (fun vs H Q E h=>yr h) (fun cx A outer s H vs Q E hr h=>?_)
 refine ⟨_,(ae (ao (i:=3) i4.nd rfl (Or.inl rfl) (aj iA (hr.mono (by decide)) rfl T.F8.mg T.F8.fn.kp T.F8.bd .nil aB (aa (pv 0) (aa (aj rZ (hr.mono (by decide)) rfl T.G1.mg T.G1.fn.kp T.G1.bd .nil aB (aa (pv 0) (aa (bP (aa (pv 1) (aa (pv 2) ab))) ab))) ab))))
   (ae (ao (i:=4) i4.nd rfl (Or.inl rfl) (bV (ml K rfl) (pv 3) dH (bM (aC aK rfl T.z_len Y3 (aa (pv 1) ab)))))
   (ae (ao (i:=5) i4.nd rfl (Or.inl rfl) (bV (ml K rfl) (pv 3) (bM (aC aK rfl T.z_len Y3 (aa (pv 1) ab))) dH))
   (ai (aF (ay bJ (ay bJ (aj cG (hr.mono (by decide)) rfl T.C8.mg T.C8.fn.kp T.C8.bd .nil aB (aa (pv 3) ab)) (aj cG (hr.mono (by decide)) rfl T.C8.mg T.C8.fn.kp T.C8.bd .nil aB (aa (pv 4) ab))) (aj cG (hr.mono (by decide)) rfl T.C8.mg T.C8.fn.kp T.C8.bd .nil aB (aa (pv 5) ab)))))))),?_⟩
 obtain ⟨y,w',v,rfl,hy,hz,hw,pK,hv,YE,q⟩:=h
 have hs:(100000:Nat)<sizeLine:=by decide
 have hk:=Il hw hv pK YE
 refine ⟨_,rfl,_,rfl,_,rfl,_,rfl,by show 2<=sizeLine;decide,fun t nt=>?_⟩
 have st:=ak.upd (o:= .tup [.str (S w'), .str (S v)]) nt
 refine ⟨y,t,[w',v],rfl,hy,hz,ag,hk.tR,hk.sw,fun dr os H1 Dk ht s1=>?_⟩
 obtain ⟨e,n0,n1,n2⟩:=IX hy hw hv ht
 obtain ⟨M,_,ok,_⟩:=id ht
 refine ⟨y,dr,[w',v],os,rfl,hy,hz,hk.ok,ok,Dk,fun p qs H2 np hp yH pT s2=>?_⟩
 have hl:=uF (os:=os) hk
 have Ox:qs.length<=24:=by rw[<-pT,MO]at hl;exact hl
 have c1:o5 (iD qs) none (some (w'.length:Int))=iD (qs.take w'.length):=by
  show cut (iD qs) none (some ((w'.length:Nat):Int))=_
  rw[gn]
  unfold iD
  rw[Qdp]
 have c2:o5 (iD qs) (some (w'.length:Int)) none=iD (qs.drop w'.length):=by
  show cut (iD qs) (some ((w'.length:Nat):Int)) none=_
  rw[hW]
  unfold iD
  rw[Qcc]
 refine ⟨_,rfl,_,rfl,w',rfl,by omega,_,rfl,p,_,rfl,bu.of hp,fun p1 YF=>?_⟩
 rw[c1]
 have s3:=ak.upd (o:= .lst (iD (qs.take w'.length))) YF
 refine ⟨_,rfl,_,rfl,w',rfl,by omega,_,rfl,p,_,rfl,bu.of (s3 _ _ hp),fun p2 YG=>?_⟩
 rw[c2]
 have s4:=ak.upd (o:= .lst (iD (qs.drop w'.length))) YG
 have QI:=s3.trans s4
 refine ⟨_,rfl,p,qs,rfl,QI _ _ hp,fun x hx=>(yH x hx).ts (ba.of QI),by omega,by rw[pT];exact n0,fun H5 s5=>?_⟩
 have pj:H5 p1=some (.lst (iD (qs.take w'.length))):=s5 _ _ (s4 _ _ ag)
 have jj:H5 p2=some (.lst (iD (qs.drop w'.length))):=s5 _ _ ag
 have Ou:=QI.trans s5
 refine ⟨_,rfl,p1,qs.take w'.length,rfl,pj,fun x hx=>(yH x (Qbn hx)).ts (ba.of Ou),by rw[ZG];omega,by rw[Qdp,pT];exact n1,fun H6 s6=>?_⟩
 refine ⟨_,_,rfl,rfl,?_⟩
 refine ⟨_,rfl,p2,qs.drop w'.length,rfl,s6 _ _ jj,fun x hx=>(yH x (Qbo hx)).ts (ba.of (Ou.trans s6)),by rw[ZH];omega,by rw[Qcc,pT];exact n2,fun H7 s7=>?_⟩
 refine ⟨_,_,rfl,rfl,?_⟩
 rw[Qdp,Qcc,pT]
 have kq:=q H7 (st.trans (s1.trans (s2.trans (Ou.trans (s6.trans s7)))))
 rw[<-e]at kq
 exact kq
theorem yK:bp P w K mg base dY 9 Nr N_ ["yard","words"] (yq K):=by
 have cG:=gR (P:=P) (w:=w) (base:=base) T
 have iA:=lT (P:=P) (w:=w) (base:=base) T
 have rZ:=wJ (P:=P) (w:=w) (base:=base) T
 refine T.Mg.fn.ok Gr (fun vs H Q E h=>C6 h) (fun cx A outer s H vs Q E hr h=>?_)
 refine ⟨_,(ai (aF (aj cG (hr.mono (by decide)) rfl T.C8.mg T.C8.fn.kp T.C8.bd .nil aB (aa (aj iA (hr.mono (by decide)) rfl T.F8.mg T.F8.fn.kp T.F8.bd .nil aB (aa (pv 0) (aa (aj rZ (hr.mono (by decide)) rfl T.G1.mg T.G1.fn.kp T.G1.bd .nil aB (aa (pv 0) (aa (pv 1) ab))) ab))) ab)))),?_⟩
 obtain ⟨y,wt,ws,rfl,hy,hz,hk,qj,q⟩:=h
 refine ⟨_,rfl,_,rfl,_,rfl,y,wt,ws,rfl,hy,hz,qj,hk.tR,hk.sw,fun dr os H1 Dk ht s1=>?_⟩
 obtain ⟨nd,e⟩:=C5 hy (fun w hw=>(hk.sw w hw).1) ht
 obtain ⟨M,_,ok,_⟩:=id ht
 refine ⟨y,dr,ws,os,rfl,hy,hz,hk.ok,ok,Dk,fun p qs H2 np hp yH pT s2=>?_⟩
 have hl:=uF (os:=os) hk
 have Ox:qs.length<=24:=by rw[<-pT,MO]at hl;omega
 refine ⟨p,qs,rfl,hp,yH,Ox,by rw[pT];exact nd,fun H3 s3=>?_⟩
 rw[pT]
 exact q _ H3 (s1.trans (s2.trans s3)) e
theorem Mu:bp P w K mg base dY 10 Nt Oa ["yard","word"] (Gd K):=by
 have wR:=yK (P:=P) (w:=w) (base:=base) T
 refine T.RN.fn.ok Mj (fun vs H Q E h=>len_own h) (fun cx A outer s H vs Q E hr h=>?_)
 refine ⟨_,(ai (aF (aj wR (hr.mono (by decide)) rfl T.Mg.mg T.Mg.fn.kp T.Mg.bd .nil aB (aa (pv 0) (aa (bP (aa (pv 1) ab)) ab))))),?_⟩
 obtain ⟨y,w',rfl,hy,hz,hw,pK,q⟩:=h
 refine ⟨_,rfl,_,rfl,by show 1<=sizeLine;decide,fun t nt=>?_⟩
 refine ⟨y,t,[w'],rfl,hy,hz,IZ hw pK,ag,fun n H1 s1 e=>?_⟩
 exact q n H1 ((ak.upd nt).trans s1) (e.trans (Gb y w'))
theorem Df:bp P w K mg base dY 11 NG Oo ["_law_yard_here","_law_words_here"] (uG K):=by
 have Au:=yF (P:=P) (w:=w) (base:=base) T
 have sd:=yG (P:=P) (w:=w) (base:=base) T
 have se:=yI (P:=P) (w:=w) (base:=base) T
 have Dg:=As (P:=P) (w:=w) (base:=base) T
 have QQ:=Mu (P:=P) (w:=w) (base:=base) T
 have Aq:=BP (P:=P) (w:=w) (base:=base) T
 have wR:=yK (P:=P) (w:=w) (base:=base) T
 refine T.RV.fn.ok b5 (fun vs H Q E h=>Ai h) (fun cx A outer s H vs Q E hr h=>?_)
 refine ⟨_,(ae (yV (aj Au (hr.mono (by decide)) rfl T.RP.mg T.RP.fn.kp T.RP.bd .nil aB (aa (pv 0) (aa (pv 1) ab))) (iL (n:=2) K rfl rfl (cj (aP (i:=2) b5.nd rfl (Or.inl rfl)) (cj (aP (i:=3) b5.nd rfl (Or.inl rfl)) iH))))
   (ae (ao (i:=4) b5.nd rfl (Or.inl rfl) (aj sd (hr.mono (by decide)) rfl T.Mh.mg T.Mh.fn.kp T.Mh.bd .nil aB (aa (aj se (hr.mono (by decide)) rfl T.Mb.mg T.Mb.fn.kp T.Mb.bd .nil aB (aa (pv 0) (aa (pv 2) ab))) ab)))
   (ae (ao (i:=5) b5.nd rfl (Or.inl rfl) (aj sd (hr.mono (by decide)) rfl T.Mh.mg T.Mh.fn.kp T.Mh.bd .nil aB (aa (pv 3) ab)))
   (ae (ao (i:=6) b5.nd rfl (Or.inl rfl) ah)
   (ae (bS PassesOwn.never rfl (eL rfl T.z_range (aa (aC (aV K rfl) rfl T.z_len Y3 (aa (pv 1) ab)) ab)) (aP (i:=7) b5.nd rfl (Or.inl rfl)) (ai (bS PassesOwn.never rfl (nE rfl T.z_range (aa (pv 7) (aa (aC (aV K rfl) rfl T.z_len Y3 (aa (pv 1) ab)) ab))) (aP (i:=8) b5.nd rfl (Or.inl rfl)) (ae (ao (i:=9) b5.nd rfl (Or.inl rfl) ah)
   (ae (ao (i:=10) b5.nd rfl (Or.inl rfl) (aj Dg (hr.mono (by decide)) rfl T.RO.mg T.RO.fn.kp T.RO.bd .nil aB (aa (pv 0) (aa (aA (az K rfl) (pv 1) (pv 7) (fun _ _=>rfl)) (aa (aA (az K rfl) (pv 1) (pv 8) (fun _ _=>rfl)) ab)))))
   (gF (bI (aH gT (pv 7) (pv 8) (aM _)) (ae (ao (i:=10) b5.nd rfl (Or.inl rfl) (aj QQ (hr.mono (by decide)) rfl T.RN.mg T.RN.fn.kp T.RN.bd .nil aB (aa (pv 0) (aa (aA (az K rfl) (pv 1) (pv 7) (fun _ _=>rfl)) ab))))
   (ai (ao (i:=9) b5.nd rfl (Or.inl rfl) (ay bJ (aA (az K rfl) (aj Aq (hr.mono (by decide)) rfl T.Md.mg T.Md.fn.kp T.Md.bd .nil aB (aa (aA (az K rfl) (pv 1) (pv 7) (fun _ _=>rfl)) ab)) ah (fun _ _=>rfl)) ah)))) a_)
   (gF (bI (PW.pt (w4 (aH D8 (qN (jt hr) (pv 4) (bP (aa (pv 7) (aa (pv 8) ab))) ah ⟨rfl,rfl,rfl,rfl⟩) (pv 10) (aM _)) (qp (aH D8 (qN (jt hr) (pv 5) (bP (aa (pv 7) (aa (pv 8) ab))) ah ⟨rfl,rfl,rfl,rfl⟩) (ay bJ (pv 10) (pv 9)) (aM _))))) (ai (aF AA)) a_)
   (ai (ao (i:=6) b5.nd rfl (Or.inl rfl) (ay aU (pv 6) (pv 10)))))))))))
   (ai (aF (qv xa xa (aj wR (hr.mono (by decide)) rfl T.Mg.mg T.Mg.fn.kp T.Mg.bd .nil aB (aa (pv 0) (aa (pv 1) ab))) (pv 6) (aC (aV K rfl) rfl T.z_len Y3 (aa (aj se (hr.mono (by decide)) rfl T.Mb.mg T.Mb.fn.kp T.Mb.bd .nil aB (aa (pv 0) (aa (pv 2) ab))) ab)))))))))),?_⟩
 obtain ⟨y,wt,ws,rfl,hy,hz,hk,qj,q⟩:=h
 have hs:(100000:Nat)<sizeLine:=by decide
 have xg:=hk.tR
 refine ⟨_,rfl,_,rfl,y,wt,ws,rfl,hy,hz,hk,qj,fun p dr th os L H1 hp Dk ht V6 hL hx s1=>?_⟩
 refine ⟨p,_,rfl,aX.of hp,rfl,_,_,rfl,_,_,rfl,rfl,?_⟩
 obtain ⟨M,_,ok,_⟩:=id ht
 obtain ⟨m0,m1,m2⟩:=Ge hy (fun w h=>(hk.sw w h).1) ht
 obtain ⟨f1,f2⟩:=C7 hy (fun w h=>(hk.sw w h).1) (ws:=ws)
 have T8:=Fu (os:=os) hk.ok
 have TR:=EU (y:=y) hk.all
 have GO: ∀c,c<ws.length->SW y (ws.getD c [])/\(ws.getD c []).length<=12:=fun c hc=>hk.sw _ (getD_in hc)
 refine ⟨_,rfl,_,rfl,y,dr,ws,os,rfl,hy,hz,hk.ok,ok,Dk,fun q1 qs H2 n1 V7 yH pT s2=>?_⟩
 have lq:qs.length=(ra y ws os).length:=by rw[<-pT,MO]
 refine ⟨q1,iD qs,_,rfl, .inl V7,Qs yH,by rw[MO,MO,lq];exact ZN T8 (by decide),fun D kD H3 nD hD bD s3=>?_⟩
 rw[pT]at bD
 have QR:=s2.trans s3
 have QS:=QR _ _ V6
 refine ⟨_,rfl,th,fB L,_,rfl, .inr QS,Qr (hL.ts (ba.of QR)),by rw[MO,hx];exact ZN TR (by decide),fun F kF H4 nF hF bF s4=>?_⟩
 rw[hx]at bF
 have YH:=s4 _ _ hD
 have J9:=s1.trans (QR.trans s4)
 have Jh:=J9 _ _ qj
 have UB:=Dk.same (QR.trans s4)
 clear V7 yH pT lq s2 s3 QR s4 hD QS V6 hL hx Dk hp s1 n1 nD nF T8 TR
 generalize VX:(ra y ws os).map at2=pd at bD m1 m2
 generalize Zl:(mH y ws).map BM=pf at bF f1 f2
 have key: ∀c d:Nat,c<=d->d<ws.length->(if c=d then 2*(pd.count (c,d):Int)=wc y (ws.getD c [])/\2*(pf.count (c,d):Int)=wc y (ws.getD c []) - 2*(kr (ws.getD c []) - 1) else (pd.count (c,d):Int)=SS y (ws.getD c []) (ws.getD d [])/\(pf.count (c,d):Int)=SS y (ws.getD c []) (ws.getD d [])):=fun c d iB hd=>by
  split
  ·rename_i e
   subst e
   refine ⟨m1 c hd,?_⟩
   rw[f1 c hd]
   unfold wc
   omega
  ·exact ⟨m2 c d (by omega) hd,f2 c d (by omega) hd⟩
 refine ⟨_,rfl,wt,_,rfl, .inr (aX.of Jh),?_⟩
 rw[bH]
 refine ⟨_,rfl,by omega,by omega,?_⟩
 rw[U6]
 refine dc (fun i σ H'=> ∃(tt:Int) (v7 v8 v9 v10:Option V),σ=[some (.str (S y)),some (.ref wt),some (.ref dr),some (.ref th),some (.ref D),some (.ref F),some (.int tt),v7,v8,v9,v10]/\tt=sm i (fun c=>sm (ws.length - c.toNat) fun j=>cD pd c (c+j))/\ak H4 H') ⟨0,none,none,none,none,rfl,rfl,ak.refl _⟩ ?_ ?_
 ·rintro i σ H5 hi ⟨tt,v7,v8,v9,v10,rfl,Jf,s5⟩
  rw[Qay]
  refine ⟨_,rfl,_,rfl,wt,_,rfl, .inr (aX.of (s5 _ _ Jh)),?_⟩
  rw[bH]
  refine ⟨_,_,rfl,⟨by omega,by omega,by omega,by omega⟩,?_⟩
  refine dc (fun j σ H'=> ∃(uu:Int) (v8 v9 v10:Option V),σ=[some (.str (S y)),some (.ref wt),some (.ref dr),some (.ref th),some (.ref D),some (.ref F),some (.int uu),some (.int (i:Nat)),v8,v9,v10]/\uu=tt+sm j (fun j=>cD pd i (i+j))/\ak H4 H') ⟨tt,v8,v9,v10,rfl,by show tt=tt+0;omega,s5⟩ ?_ ?_
  ·rintro j σ H6 hj ⟨uu,v8,v9,v10,rfl,UC,s6⟩
   have MX:i+j<ws.length:=by omega
   rw[show (i:Int)+(j:Int)=((i+j:Nat):Int) from rfl]
   have Ji:=s6 _ _ Jh
   obtain ⟨Oy,R_⟩:=GO i hi
   obtain ⟨YI,YJ⟩:=GO (i+j) MX
   have kk:=key i (i+j) (by omega) MX
   refine ⟨_,rfl,_,rfl,_,rfl,wt,_,_,_,rfl,rfl,aX.of Ji,bC (getD_at hi),_,rfl,_,rfl,wt,_,_,_,rfl,rfl,aX.of Ji,bC (getD_at MX),?_⟩
   refine ⟨y,_,_,rfl,hy,hz,Oy,R_,YI,YJ,fun H7 s7=>?_⟩
   refine ⟨fun σ' H'=> ∃(mo ma:Int),σ'=[some (.str (S y)),some (.ref wt),some (.ref dr),some (.ref th),some (.ref D),some (.ref F),some (.int uu),some (.int (i:Nat)),some (.int ((i+j:Nat):Int)),some (.int mo),some (.int ma)]/\ma=(pd.count (i,i+j):Nat)/\ma - mo=(pf.count (i,i+j):Nat)/\ak H4 H',?_,?_⟩
   ·refine ⟨_,rfl,_,rfl,_,_,rfl,rfl,_,rfl,bz (fun z=>?_) (fun z=>?_)⟩
    ·have e:j=0:=by have:=of_decide_eq_true z;omega
     subst e
     rw[if_pos (Qc9 i).symm]at kk
     refine ⟨_,rfl,_,rfl,_,rfl,wt,_,_,_,rfl,rfl,aX.of (s7 _ _ Ji),bC (getD_at hi),?_⟩
     refine ⟨y,_,rfl,hy,hz,Oy,R_,fun n H8 s8 e8=>?_⟩
     refine ⟨_,rfl,_,rfl,wt,_,_,_,rfl,rfl,aX.of (s8 _ _ (s7 _ _ Ji)),bC (getD_at hi),?_⟩
     refine ⟨_,rfl,fun c hc=>hy.lt c (Oy.bK c hc),by omega,fun p1 s1 H9 n1 pj GP s9=>?_⟩
     have ek:=Qt hy Oy GP
     refine ⟨p1,_,1,_,rfl,rfl,aX.of pj,rfl,_,_,rfl,rfl,?_⟩
     refine ⟨_,n,rfl,by omega,?_,s6.trans (s7.trans (s8.trans s9))⟩
     have k2:=kk.2
     rw[ek]at k2
     omega
    ·have e: ¬i=i+j:=fun q=>z (decide_eq_true (by omega))
     rw[if_neg e]at kk
     exact ⟨0,_,rfl,kk.1.symm,by rw[Qb4];exact kk.2.symm,s6.trans s7⟩
   ·rintro σ' H8 ⟨mo,ma,rfl,V8,YK,s8⟩
    refine ⟨fun σ' H'=>σ'=[some (.str (S y)),some (.ref wt),some (.ref dr),some (.ref th),some (.ref D),some (.ref F),some (.int uu),some (.int (i:Nat)),some (.int ((i+j:Nat):Int)),some (.int mo),some (.int ma)]/\ak H4 H',?_,?_⟩
    ·have V9:=s8 _ _ YH
     have V_:=s8 _ _ hF
     refine ⟨_,rfl,D,rfl, .inr ⟨_, .inl V9⟩,_,rfl,_,rfl,by show 2<=sizeLine;decide,fun t1 n1=>?_⟩
     have u1:=ak.upd (o:= .tup [.int (i:Nat), .int ((i+j:Nat):Int)]) n1
     have nh:upd H8 t1 (.tup [.int (i:Nat), .int ((i+j:Nat):Int)]) t1=some (.tup ((yR (i,i+j)).map kV)):=ag
     generalize upd H8 t1 (.tup [.int (i:Nat), .int ((i+j:Nat):Int)])=H9 at u1 nh ⊢
     refine ⟨_,jA.t (k:=yR (i,i+j)) (u1 _ _ V9) nh,?_⟩
     rw[bD.get]
     refine ⟨_,rfl,_,_,rfl,rfl,_,rfl,HW (by rw[V8,decide_eq_true rfl];rfl) ?_⟩
     refine ⟨_,rfl,F,rfl, .inr ⟨_, .inl (u1 _ _ V_)⟩,_,rfl,_,rfl,by show 2<=sizeLine;decide,fun t2 n2=>?_⟩
     have u2:=ak.upd (o:= .tup [.int (i:Nat), .int ((i+j:Nat):Int)]) n2
     have nB:upd H9 t2 (.tup [.int (i:Nat), .int ((i+j:Nat):Int)]) t2=some (.tup ((yR (i,i+j)).map kV)):=ag
     generalize upd H9 t2 (.tup [.int (i:Nat), .int ((i+j:Nat):Int)])=Zm at u2 nB ⊢
     refine ⟨_,jA.t (k:=yR (i,i+j)) (u2 _ _ (u1 _ _ V_)) nB,?_⟩
     rw[bF.get]
     refine ⟨_,rfl,_,rfl,_,_,rfl,rfl,_,_,rfl,rfl,_,rfl,HW (by rw[YK,decide_eq_true rfl];rfl) ?_⟩
     exact ⟨rfl,s8.trans (u1.trans u2)⟩
    ·rintro σ' H9 ⟨rfl,s9⟩
     refine ⟨_,rfl,_,rfl,_,_,rfl,rfl,?_⟩
     refine ⟨_,_,_,_,rfl,?_,s9⟩
     show uu+ma=tt+(sm j _+cD pd i ((i:Int)+(j:Int)))
     rw[UC,V8]
     unfold cD
     rw[U6,show ((i:Int)+(j:Int)).toNat=i+j by omega]
     omega
  ·rintro σ H6 ⟨uu,v8,v9,v10,rfl,UC,s6⟩
   refine ⟨uu,_,_,_,_,rfl,?_,s6⟩
   rw[UC,Jf]
   show _=sm i _+sm (ws.length - ((i:Nat):Int).toNat) _
   rw[U6,show ((ws.length:Int) - (i:Int)).toNat=ws.length - i by omega]
 ·rintro σ H5 ⟨tt,v7,v8,v9,v10,rfl,Jf,s5⟩
  have YL:=Jb m1 m2
  rw[<-Jf, <-m0]at YL
  refine ⟨_,rfl,_,rfl,y,wt,ws,rfl,hy,hz,hk,s5 _ _ Jh,fun n H6 s6 e6=>?_⟩
  refine ⟨_,rfl,rfl,_,rfl,Qe (decide_eq_true (congrArg V.int (by omega))) ?_⟩
  refine ⟨_,rfl,_,rfl,y,dr,ws,os,rfl,hy,hz,hk.ok,ok,UB.same (s5.trans s6),fun q2 qs H7 n2 YM yH pT s7=>?_⟩
  refine ⟨q2,_,rfl, .inl (bu.of YM),rfl,?_⟩
  have lq:qs.length=(ra y ws os).length:=by rw[<-pT,MO]
  have:=q H7 (J9.trans (s5.trans (s6.trans s7)))
  rw[<-show decide (V.int tt=V.int ((iD qs).length:Nat))=true from decide_eq_true (congrArg V.int (by rw[gN,lq];omega))]at this
  exact this
theorem nj:bp P w K mg base dY 1 Ny Of ["_law_box_here","_law_many"] (xK K):=by
 refine T.ji.fn.ok rQ (fun vs H Q E h=>Cv h) (fun cx A outer s H vs Q E hr h=>?_)
 refine ⟨_,(ae (bI (aH qu (aA (b6 K rfl) (pv 0) ah (fun _ _=>rfl)) ah (aM _)) (ae (ao (i:=2) rQ.nd rfl (Or.inl rfl) (ay cI (aA (b6 K rfl) (pv 0) ah (fun _ _=>rfl)) (pv 1)))
   (ae (yV (ay fk (aA (b6 K rfl) (pv 0) ah (fun _ _=>rfl)) (pv 1)) (DD (pv 0) ah set_list))
   (ai (aF (pv 2))))) a_)
   (ae (ao (i:=3) rQ.nd rfl (Or.inl rfl) (ay cI (ay kY (aA (b6 K rfl) (pv 0) ah (fun _ _=>rfl)) ah) ah))
   (ae (yV (ay aU (ay cI (ay aU (ay kY (pv 3) ah) ah) ah) ah) (DD (pv 0) ah set_list))
   (ai (aF (ay cI (ay fk (ay aU (ay kY (pv 3) ah) (aA (b6 K rfl) (pv 0) ah (fun _ _=>rfl))) ah) (pv 1))))))),?_⟩
 obtain ⟨b,m,rfl,⟨x,y,hb⟩,h1,h2,q⟩:=h
 have fin: ∀(r x' y':Int),0<=r->r<m->Q (.int r) (upd H b (.lst [.int x', .int y'])):=fun r x' y' h3 h4=>by
  have e:r=((r.toNat:Nat):Int):=by omega
  rw[e]
  exact q r.toNat _ (by omega) ⟨x',y',ag⟩ (aR.upd b H _)
 refine ⟨_,rfl,b,_,0,_,rfl,rfl,bu.of hb,rfl,_,_,rfl,rfl,_,rfl,bz (fun e=>?_) (fun e=>?_)⟩
 ·refine ⟨_,rfl,b,_,0,_,rfl,rfl,bu.of hb,rfl,_,rfl,_,_,rfl,rfl,(by omega:0<m),?_⟩
  refine ⟨_,rfl,b,_,0,_,rfl,rfl,bu.of hb,rfl,_,rfl,_,_,rfl,rfl,⟨by omega,by omega⟩,_,rfl,b,_,0,0,rfl,rfl,hb,rfl,_,rfl,?_⟩
  exact fin (x%m) (x / m) y (Qah _ (by omega)) (Qad _ (by omega))
 ·refine ⟨_,rfl,b,_,1,_,rfl,rfl,bu.of hb,rfl,_,_,rfl,rfl, .inr ⟨by decide,by decide⟩,_,_,rfl,rfl,(by decide:(0:Int)<2147483647),?_⟩
  refine ⟨_,rfl,_,_,rfl,rfl, .inr ⟨by decide,by decide⟩,_,_,rfl,rfl,_,_,rfl,rfl,(by decide:(0:Int)<2147483629),_,_,rfl,rfl,_,rfl,b,_,1,1,rfl,rfl,hb,rfl,?_⟩
  refine ⟨_,rfl,_,_,rfl,rfl, .inr ⟨by decide,by decide⟩,_,rfl,b,_,1,_,rfl,rfl,bu.of ag,rfl,_,_,rfl,rfl,_,_,rfl,rfl,⟨by decide,by decide⟩,_,rfl,_,_,rfl,rfl,(by omega:0<m),?_⟩
  exact fin _ _ _ (Qah _ (by omega)) (Qad _ (by omega))
theorem oF:bp P w K mg base dY 1 Nz Og ["_law_letter"] (tU K):=by
 refine T.wA.fn.ok ou (fun vs H Q E h=>zE h) (fun cx A outer s H vs Q E hr h=>?_)
 refine ⟨_,(ae (ao (i:=1) ou.nd rfl (Or.inl rfl) (kZ [97,98,99,100,101,102,103,104,105,106,107,108,109,110,111,112,113,114,115,116,117,118,119,120,121,122] (by decide+kernel)))
   (ae (ao (i:=2) ou.nd rfl (Or.inl rfl) (kZ [65,66,67,68,69,70,71,72,73,74,75,76,77,78,79,80,81,82,83,84,85,86,87,88,89,90] (by decide+kernel)))
   (ae (bI (aH K9 (pv 0) (pv 1) (by with_unfolding_all rfl)) (ai (aF (aA dW (pv 2) (bG K rfl ZI Qc6 Qc4 nM (pv 1) (aa (pv 0) ab)) (fun _ _=>rfl)))) a_)
   (ai (aF (aA dW (pv 1) (bG K rfl ZI Qc6 Qc4 nM (pv 2) (aa (pv 0) ab)) (fun _ _=>rfl))))))),?_⟩
 obtain ⟨c,rfl,hc,q⟩:=h
 refine ⟨_,rfl,_,rfl,c,bg,rfl,rfl,_,rfl,bz (fun e=>?_) (fun e=>?_)⟩
 ·have hm:c∈bg:=of_decide_eq_true e
  exact ⟨_,rfl,_,rfl,rfl,_,rfl,bg,c,rfl,rfl,hm,lh,_,aI c,rfl,rfl,by decide,xJ c hm,q⟩
 ·have hm:c∈lh:=hc.resolve_left fun z=>e (decide_eq_true z)
  exact ⟨_,rfl,_,rfl,rfl,_,rfl,lh,c,rfl,rfl,hm,bg,_,aI c,rfl,rfl,by decide,Cu c hm,q⟩
theorem uK:bp P w K mg base dY 2 NB Oi ["_law_box_here","_law_yard_here","_law_top"] (uf K):=by
 have cP:=nj (P:=P) (w:=w) (base:=base) T
 have fG:=oF (P:=P) (w:=w) (base:=base) T
 refine T.G2.fn.ok cS (fun vs H Q E h=>zL h) (fun cx A outer s H vs Q E hr h=>?_)
 refine ⟨_,(ae (ao (i:=3) cS.nd rfl (Or.inl rfl) (ay aU ah (aj cP (hr.mono (by decide)) rfl T.ji.mg T.ji.fn.kp T.ji.bd .nil aB (aa (pv 0) (aa (pv 2) ab)))))
   (ae (ao (i:=4) cS.nd rfl (Or.inl rfl) (aj cP (hr.mono (by decide)) rfl T.ji.mg T.ji.fn.kp T.ji.bd .nil aB (aa (pv 0) (aa ah ab))))
   (ae (ao (i:=5) cS.nd rfl (Or.inl rfl) (kZ [] (by decide+kernel)))
   (gF (dh PassesOwn.never (aH i5 (aC aK rfl T.z_len Y3 (aa (pv 5) ab)) (pv 3) (aM _)) (ae (ao (i:=6) cS.nd rfl (Or.inl rfl) (aA dW (pv 1) (aj cP (hr.mono (by decide)) rfl T.ji.mg T.ji.fn.kp T.ji.bd .nil aB (aa (pv 0) (aa (aC aK rfl T.z_len Y3 (aa (pv 1) ab)) ab))) (fun _ _=>rfl)))
   (gF (bI (PW.pt (jm (aH gT (pv 4) ah (aM _)) (jm (aH qu (aC aK rfl T.z_len Y3 (aa (pv 5) ab)) ah (aM _)) (iG (aH i5 (aC aK rfl T.z_len Y3 (aa (pv 5) ab)) ah (aM _)))))) (ai (ao (i:=6) cS.nd rfl (Or.inl rfl) (aA dW (pv 5) (ay cI (aC aK rfl T.z_len Y3 (aa (pv 5) ab)) ah) (fun _ _=>rfl)))) a_)
   (ai (bI (PW.pt (w4 (aH gS (pv 5) (kZ [] (by decide+kernel)) (aM _)) (qp (aH D7 (pv 6) (aj fG (hr.mono (by decide)) rfl T.wA.mg T.wA.fn.kp T.wA.bd .nil aB (aa (aA dW (pv 5) (lX iJ ah) (fun _ _=>rfl)) ab)) (aM _))))) (ai (ao (i:=5) cS.nd rfl (Or.inl rfl) (ay iK (pv 5) (pv 6)))) (ai (ao (i:=5) cS.nd rfl (Or.inl rfl) (ay iK (pv 5) (aA dW (pv 5) (lX iJ ah) (fun _ _=>rfl))))))))))
   (gF (dh PassesOwn.never (PW.pt (jm (aH qu (aC aK rfl T.z_len Y3 (aa (pv 5) ab)) ah (aM _)) (iG (aH gS (aA dW (pv 5) ah (fun _ _=>rfl)) (aj fG (hr.mono (by decide)) rfl T.wA.mg T.wA.fn.kp T.wA.bd .nil aB (aa (aA dW (pv 5) (lX iJ ah) (fun _ _=>rfl)) ab)) (aM _))))) (ai (ao (i:=5) cS.nd rfl (Or.inl rfl) (bV o8 (pv 5) dH (bM (lX iJ ah))))))
   (gF (bI (PW.pt (jm (aH gT (pv 4) ah (aM _)) (iG (aH DH (ay kY (aC aK rfl T.z_len Y3 (aa (pv 5) ab)) ah) (pv 2) (aM _))))) (ai (ao (i:=5) cS.nd rfl (Or.inl rfl) (ay iK (pv 5) (pv 5)))) a_)
   (ai (aF (pv 5))))))))),?_⟩
 obtain ⟨b,y,top,rfl,hb,hy,Kb,Kc,nh,nB,q⟩:=h
 have hs:(100000:Nat)<sizeLine:=by decide
 have QT:y.length<=sizeLine:=by omega
 refine ⟨_,rfl,_,rfl,b,_,rfl,hb,by omega,by omega,fun n H1 hn yN s1=>?_⟩
 refine ⟨_,_,rfl,rfl,_,rfl,b,5,rfl,yN,by decide,by decide,fun fm H2 YN hJ s2=>?_⟩
 have Zn:n+1<=top:=by omega
 have sg:=s1.trans s2
 walk_at "wk"
 refine ⟨fun σ' H'=> ∃(w:List Nat) (lv:Option V),σ'=[some (.ref b),some (.str (S y)),some (.int top),some (.int (1+(n:Int))),some (.int fm),some (.str (S w)),lv]/\Wd y w/\1<=w.length/\w.length<=n+1/\cV H' b/\aR b H H',?_,?_⟩
 ·refine ⟨fun k σ H'=> ∃(w:List Nat) (lv:Option V),σ=[some (.ref b),some (.str (S y)),some (.int top),some (.int (1+(n:Int))),some (.int fm),some (.str (S w)),lv]/\k=n+1 - w.length/\Wd y w/\w.length<=n+1/\cV H' b/\aR b H H',⟨_,[],none,rfl,rfl,⟨CJ.nil,fun _ h=>absurd h Zu⟩,WT _,hJ,sg⟩,?_⟩
  rintro k σ H3 ⟨w,lv,rfl,rfl,hw,pK,oX,s3⟩
  have pW:w.length<=sizeLine:=by omega
  refine ⟨_,rfl,w,rfl,pW,_,rfl,_,_,rfl,rfl,_,rfl,bz (fun z=>?_) (fun z=>?_)⟩
  ·have z1:(w.length:Int)<1+(n:Int):=of_decide_eq_true z
   refine ⟨_,rfl,_,rfl,_,rfl,y,rfl,QT,b,_,rfl,oX,by omega,by omega,fun r H4 G5 Dy s4=>?_⟩
   have hr:r<y.length:=by omega
   refine ⟨y,_,_,rfl,rfl,QT,bC (K3 hr),?_⟩
   have AR:y[r]∈y:=ZT hr
   generalize y[r]=c at AR ⊢
   refine ⟨fun σ' H'=>H'=H4/\ ∃e,e∈y/\σ'=[some (.ref b),some (.str (S y)),some (.int top),some (.int (1+(n:Int))),some (.int fm),some (.str (S w)),some (.str (S [e]))],?_,?_⟩
   ·refine ⟨_,rfl,_,_,rfl,rfl,_,rfl,bz (fun f1=>?_) (fun f1=>?_)⟩
    ·refine ⟨_,rfl,w,rfl,pW,_,_,rfl,rfl,_,rfl,bz (fun f2=>?_) (fun f2=>?_)⟩
     ·have g2:(1:Int)<w.length:=of_decide_eq_true f2
      have dz:w≠[]:=fun g=>by rw[g]at g2;simp at g2
      refine ⟨_,rfl,w,rfl,pW,_,_,rfl,rfl,_,rfl,bz (fun f3=>?_) (fun f3=>?_)⟩
      ·refine ⟨_,rfl,_,rfl,w,rfl,pW,_,_,rfl,rfl,by show (0:Int)<2;decide,w,_,_,rfl,rfl,pW,fz (by show -(w.length:Int)<=(w.length:Int)%2;omega) (by show (w.length:Int)%2<_;omega),?_⟩
       exact ⟨rfl,_,hw.bK _ (gW dz _),rfl⟩
      ·exact ⟨rfl,c,AR,rfl⟩
     ·refine zi ?_
      exact ⟨rfl,c,AR,rfl⟩
    ·refine zi ?_
     exact ⟨rfl,c,AR,rfl⟩
   rintro σ5 H5 ⟨rfl,e,GW,rfl⟩
   have s5:=s3.trans s4
   refine ⟨_,rfl,w,[],rfl,rfl,_,rfl,bz (fun f=>?_) (fun f=>?_)⟩
   ·have Ms:w=[]:=of_decide_eq_true f
    refine DT ?_
    refine ⟨_,rfl,_,rfl,w,[e],rfl,rfl,by show w.length+1<=_;omega,?_⟩
    exact ⟨n+1 - (w++[e]).length,by rw[U5];show n+1 - (w.length+1)<_;omega,w++[e],_,rfl,rfl,hw.more GW fun g=>absurd Ms g,by rw[U5];show w.length+1<=_;omega,Dy,s5⟩
   ·have dz:w≠[]:=fun g=>f (decide_eq_true g)
    have sG:0<w.length:=WO.mpr dz
    have IG:rd w (-1)∈y:=hw.bK _ (gW dz _)
    have Kd:o6 w (-1)=some (rd w (-1)):=fz (by omega) (by omega)
    refine ⟨_,rfl,_,rfl,_,rfl,w,_,_,rfl,rfl,pW,Kd,_,rfl,hy.lt _ IG,[e],_,rfl,rfl,_,rfl,bz (fun f2=>?_) (fun f2=>?_)⟩
    ·have UD:e≠aI (rd w (-1)):=fun g=>by rw[g]at f2;simp at f2
     refine ⟨_,rfl,_,rfl,w,[e],rfl,rfl,by show w.length+1<=_;omega,?_⟩
     exact ⟨n+1 - (w++[e]).length,by rw[U5];show n+1 - (w.length+1)<_;omega,w++[e],_,rfl,rfl,hw.more GW fun _=>UD,by rw[U5];show w.length+1<=_;omega,Dy,s5⟩
    ·refine ⟨_,rfl,_,rfl,_,rfl,w,_,_,rfl,rfl,pW,Kd,w,[rd w (-1)],rfl,rfl,by show w.length+1<=_;omega,?_⟩
     exact ⟨n+1 - (w++[rd w (-1)]).length,by rw[U5];show n+1 - (w.length+1)<_;omega,w++[rd w (-1)],_,rfl,rfl,hw.more IG fun _ g=>iM (hy.lt _ IG) g.symm,by rw[U5];show w.length+1<=_;omega,Dy,s5⟩
  ·have z1: ¬(w.length:Int)<1+(n:Int):=fun g=>z (decide_eq_true g)
   exact ⟨w,lv,rfl,hw,by omega,pK,oX,s3⟩
 rintro σ6 H3 ⟨w,lv,rfl,hw,Oz,pK,oX,s3⟩
 refine ⟨fun σ' H'=>H'=H3/\ ∃w:List Nat,σ'=[some (.ref b),some (.str (S y)),some (.int top),some (.int (1+(n:Int))),some (.int fm),some (.str (S w)),lv]/\SW y w/\w.length<=n+1,?_,?_⟩
 ·refine ⟨fun k σ H'=>H'=H3/\ ∃w:List Nat,σ=[some (.ref b),some (.str (S y)),some (.int top),some (.int (1+(n:Int))),some (.int fm),some (.str (S w)),lv]/\k=w.length/\Wd y w/\1<=w.length/\w.length<=n+1,⟨_,rfl,w,rfl,rfl,hw,Oz,pK⟩,?_⟩
  clear hw pK Oz w
  rintro k σ H4 ⟨rfl,w,rfl,rfl,hw,Oz,pK⟩
  have pW:w.length<=sizeLine:=by omega
  have dz:w≠[]:=fun g=>by rw[g]at Oz;simp at Oz
  have IG: ∀k,rd w k∈y:=fun k=>hw.bK _ (gW dz k)
  refine ⟨_,rfl,w,rfl,pW,_,_,rfl,rfl,_,rfl,bz (fun f=>?_) (fun f=>?_)⟩
  ·have g1:(1:Int)<w.length:=of_decide_eq_true f
   have Kd:o6 w (-1)=some (rd w (-1)):=fz (by omega) (by omega)
   refine ⟨_,rfl,w,_,_,rfl,rfl,pW,fz (k:=0) (by omega) (by omega),_,rfl,_,rfl,w,_,_,rfl,rfl,pW,Kd,_,rfl,hy.lt _ (IG _),[rd w 0],_,rfl,rfl,_,rfl,bz (fun f2=>?_) (fun f2=>?_)⟩
   ·refine ⟨_,rfl,_,rfl,_,rfl,w,rfl,pW,?_⟩
    rw[ET]
    exact ⟨(w.take (w.length - 1)).length,by rw[ZG];omega,rfl,w.take (w.length - 1),rfl,rfl,⟨hw.GQ.take _,fun c hc=>hw.bK c (Qbn hc)⟩,by rw[ZG];omega,by rw[ZG];omega⟩
   ·have UD:rd w 0≠aI (rd w (-1)):=fun g=>f2 (by simp[g])
    exact ⟨rfl,w,rfl,hw.sw dz UD,pK⟩
  ·have g1: ¬(1:Int)<w.length:=fun g=>f (decide_eq_true g)
   refine zi ?_
   exact ⟨rfl,w,rfl,hw.one hy (by omega),pK⟩
 rintro σ7 H7 ⟨rfl,w7,rfl,sw,YO⟩
 clear hw Oz pK w
 refine ⟨fun σ' H'=>H'=H7/\ ∃w:List Nat,σ'=[some (.ref b),some (.str (S y)),some (.int top),some (.int (1+(n:Int))),some (.int fm),some (.str (S w)),lv]/\SW y w/\w.length<=top,?_,?_⟩
 ·refine ⟨_,rfl,_,_,rfl,rfl,_,rfl,bz (fun f=>?_) (fun f=>?_)⟩
  ·refine ⟨_,rfl,w7,rfl,by omega,_,_,rfl,rfl, .inl ⟨by omega,by omega⟩,_,rfl,_,_,rfl,rfl,_,rfl,bz (fun f2=>?_) (fun f2=>?_)⟩
   ·have g2:(w7.length:Int)*2<=top:=of_decide_eq_true f2
    refine ⟨_,rfl,_,rfl,w7,w7,rfl,rfl,by omega,?_⟩
    exact ⟨rfl,_,rfl,sw.twice,by rw[U5];omega⟩
   ·exact ⟨rfl,_,rfl,sw,by omega⟩
  ·refine zi ?_
   exact ⟨rfl,_,rfl,sw,by omega⟩
 rintro σ8 H8 ⟨rfl,w8,rfl,YQ,UE⟩
 exact ⟨_,rfl,q w8 _ YQ UE oX s3⟩
theorem Gy:bp P w K mg base dY 3 NC Oj ["_law_box_here","_law_yard_here","_law_word","_law_top"] (xV K):=by
 have cP:=nj (P:=P) (w:=w) (base:=base) T
 have fG:=oF (P:=P) (w:=w) (base:=base) T
 have nk:=uK (P:=P) (w:=w) (base:=base) T
 refine T.RT.fn.ok j4 (fun vs H Q E h=>CL h) (fun cx A outer s H vs Q E hr h=>?_)
 refine ⟨_,(ae (ao (i:=4) j4.nd rfl (Or.inl rfl) (aj cP (hr.mono (by decide)) rfl T.ji.mg T.ji.fn.kp T.ji.bd .nil aB (aa (pv 0) (aa ah ab))))
   (ae (ao (i:=5) j4.nd rfl (Or.inl rfl) (aj cP (hr.mono (by decide)) rfl T.ji.mg T.ji.fn.kp T.ji.bd .nil aB (aa (pv 0) (aa (aC aK rfl T.z_len Y3 (aa (pv 2) ab)) ab))))
   (ae (bI (aH gT (pv 4) ah (aM _)) (ai (aF (ay iK (bV o8 (pv 2) (bM (pv 5)) dH) (bV o8 (pv 2) dH (bM (pv 5)))))) a_)
   (ae (bI (aH gT (pv 4) ah (aM _)) (ai (aF (bG K rfl ZI Qbk Qbj (jx K rfl) (kZ [] (by decide+kernel)) (aa (fi ["_law_letter"] [none] (D4 rfl T.z_reversed (aa (pv 2) ab)) trivial (fun _ _ _ _=>(aP (i:=0) (by decide+kernel:List.Nodup (["_law_letter"]:List Str)) rfl (Or.inl rfl))) (fun _ _ _ _=>ju) (fun _ _ _ _=>(aj fG (hr.mono (by decide)) rfl T.wA.mg T.wA.fn.kp T.wA.bd .nil aB (aa (pv 0) ab)))) ab)))) a_)
   (ae (bI (aH gT (pv 4) ah (aM _)) (ae (ao (i:=6) j4.nd rfl (Or.inl rfl) (aA dW (pv 1) (aj cP (hr.mono (by decide)) rfl T.ji.mg T.ji.fn.kp T.ji.bd .nil aB (aa (pv 0) (aa (aC aK rfl T.z_len Y3 (aa (pv 1) ab)) ab))) (fun _ _=>rfl)))
   (ae (ao (i:=7) j4.nd rfl (Or.inl rfl) (ay iK (bV o8 (pv 2) dH (bM (pv 5))) (pv 6)))
   (ai (bI (aH (HF K rfl) (pv 6) (cJ (aa (aj fG (hr.mono (by decide)) rfl T.wA.mg T.wA.fn.kp T.wA.bd .nil aB (aa (aA dW (pv 7) ah (fun _ _=>rfl)) ab)) (aa (aj fG (hr.mono (by decide)) rfl T.wA.mg T.wA.fn.kp T.wA.bd .nil aB (aa (aA dW (bV o8 (pv 7) (bM (lX iJ ah)) dH) ah (fun _ _=>rfl)) ab)) ab))) (by with_unfolding_all rfl)) (ai (aF (pv 7))) a_)))) a_)
   (ai (aF (aj nk (hr.mono (by decide)) rfl T.G2.mg T.G2.fn.kp T.G2.bd .nil aB (aa (pv 0) (aa (pv 1) (aa (pv 3) ab))))))))))),?_⟩
 obtain ⟨b,y,w,top,rfl,hb,hy,Kb,Kc,nh,nB,sw,qj,q⟩:=h
 have hs:(100000:Nat)<sizeLine:=by decide
 have QT:y.length<=sizeLine:=by omega
 have pK:w.length<=sizeLine:=by omega
 have sG:0<w.length:=WO.mpr sw.ne
 have lw: ∀c∈w,Lt c:=fun c hc=>hy.lt c (sw.bK c hc)
 refine ⟨_,rfl,b,5,rfl,hb,by decide,by decide,fun fm H1 YN yN s1=>?_⟩
 refine ⟨_,rfl,_,rfl,w,rfl,pK,b,_,rfl,yN,by omega,by omega,fun at' H2 Vs hJ s2=>?_⟩
 have sg:=s1.trans s2
 have YR:at'<w.length:=by omega
 refine ⟨_,rfl,_,_,rfl,rfl,_,rfl,bz (fun f0=>?_) (fun f0=>?_)⟩
 ·have hlen:(cut w (some (at':Int)) none).length+(cut w none (some (at':Int))).length<=sizeLine:=by rw[gn,hW,ZH,ZG];omega
  have Mo:cut w (some (at':Int)) none++cut w none (some (at':Int))=w.drop at'++w.take at':=by rw[gn,hW]
  refine ⟨_,rfl,_,rfl,_,rfl,w,rfl,pK,_,rfl,_,rfl,_,rfl,w,rfl,pK,_,_,rfl,rfl,hlen,?_⟩
  rw[Mo]
  exact q _ _ (sw.iC (by omega)) (by rw[U5,ZH,ZG];omega) hJ sg
 ·refine ⟨_,rfl,_,_,rfl,rfl,_,rfl,bz (fun f1=>?_) (fun f1=>?_)⟩
  ·refine ⟨rfl,_,rfl,w,rfl,by omega,?_⟩
   rw[AY]
   refine mi (xs:=dX w.reverse) (fun i acc H'=>ak H2 H'/\acc=dX ((w.reverse.take i).map aI)) (by rw[bf,ZX];omega) ⟨ak.refl H2,rfl⟩ ?_ ?_
   ·rintro i x acc H3 Nx hi hx hl ⟨s3,rfl⟩ nx
    obtain ⟨c,si,rfl⟩:=j_ hx
    refine ⟨trivial,gH ⟨_,rfl,c,rfl,lw c (Qcz.mp (Y4 si)),nx _ _ (by simpa using hl) ⟨s3,?_⟩⟩⟩
    rw[ft, <-take_snoc si,WQ]
    rfl
   ·rintro acc H3 D hl ⟨s3,rfl⟩ hD
    refine ⟨D,(eK w).map fun c=>[c],rfl,rfl,bu.of ?_,?_,?_⟩
    ·rw[ag, <-hV,bf,ZM (Ri _),Qbs]
     rfl
    ·rw[Cy]
     unfold eK
     rw[ZX,MO]
     omega
    ·rw[tW]
     exact q _ _ (sw.eK hy) (by rw[cn];omega) ((hJ.same s3).same (ak.upd hD)) (sg.after (s3.trans (ak.upd hD)))
  ·refine ⟨_,rfl,_,_,rfl,rfl,_,rfl,bz (fun f2=>?_) (fun f2=>?_)⟩
   ·refine ⟨_,rfl,_,rfl,_,rfl,y,rfl,QT,b,_,rfl,hJ,by omega,by omega,fun r H3 Wa oX s3=>?_⟩
    have G3:=sg.trans s3
    have hr:r<y.length:=by omega
    refine ⟨y,_,_,rfl,rfl,QT,bC (K3 hr),?_⟩
    have AR:y[r]∈y:=ZT hr
    generalize y[r]=c at AR ⊢
    have Zo:=hy.lt c AR
    have hlen:(cut w none (some (at':Int))).length+[c].length<=sizeLine:=by rw[gn,ZG];show _+1<=_;omega
    refine ⟨_,rfl,_,rfl,_,rfl,w,rfl,pK,_,rfl,_,_,rfl,rfl,hlen,?_⟩
    rw[gn]
    have BN:(w.take at').length=at':=by rw[ZG];omega
    have QU:=sw.GQ.take at'
    have Mv: ∀a∈w.take at',a∈y:=fun a ha=>sw.bK a (Qbn ha)
    generalize w.take at'=u at BN QU Mv ⊢
    have Qw:(u++[c]).length=at'+1:=by rw[U5,BN];rfl
    have QV:u++[c]≠[]:=by simp
    have Wb: ∀a∈u++[c],a∈y:=fun a ha=>(Zx.mp ha).elim (Mv a) fun g=>by rw[U7.mp g];exact AR
    have g0:o6 (u++[c]) (0:Int)=some (rd (u++[c]) 0):=fz (by omega) (by omega)
    have Rb:cut (u++[c]) (some (-2)) none=(u++[c]).drop (at'+1 - 2):=by rw[LB,Qw]
    have UG:((u++[c]).drop (at'+1 - 2)).length=at'+1 - (at'+1 - 2):=by rw[ZH,Qw]
    have QW:(u++[c]).drop (at'+1 - 2)≠[]:=fun z=>by rw[z]at UG;simp at UG;omega
    have g2:o6 ((u++[c]).drop (at'+1 - 2)) (0:Int)=some (rd ((u++[c]).drop (at'+1 - 2)) 0):=fz (by omega) (by omega)
    have Wc:=Wb _ (gW QV 0)
    have We:=Wb _ (Qbo (gW QW 0))
    have e0: ∀a,u.head? =some a->rd (u++[c]) 0=a:=fun a ha=>by
     have h1:=p9 QV
     cases u with
     | nil=>cases ha
     | cons x r=>exact (Zy (h1.symm.trans (show (x::r++[c]).head? =some a from ha)))
    have e2: ∀a,u.getLast? =some a->rd ((u++[c]).drop (at'+1 - 2)) 0=a:=fun a ha=>by
     have h1:=p9 QW
     have LH:u≠[]:=fun z=>by rw[z]at ha;cases ha
     have pj:=WO.mpr LH
     rw[Qda, Qav,Z7 (by omega)]at h1
     rw[Qbu, BN]at ha
     rw[show at'+1 - 2+0=at' - 1 by omega]at h1
     exact Zy (h1.symm.trans ha)
    generalize rd (u++[c]) 0=x0 at g0 Wc e0
    generalize rd ((u++[c]).drop (at'+1 - 2)) 0=x2 at g2 We e2
    refine ⟨_,rfl,_,rfl,_,_,_,rfl,rfl,by omega,g0,_,rfl,hy.lt _ Wc,?_⟩
    refine ⟨_,rfl,_,rfl,_,rfl,u++[c],rfl,by omega,?_⟩
    rw[Rb]
    refine ⟨_,_,_,rfl,rfl,by rw[UG];omega,g2,_,rfl,hy.lt _ We,by show 2<=sizeLine;decide,fun p np=>?_⟩
    have UH:=oX.ne np
    have Wf:=G3.none np UH
    refine ⟨p,_,rfl, .inl (bu.of ag),rfl,rfl,?_⟩
    have iv:=vc c (aI x0) (aI x2)
    rw[show (if true=true then !MM (.str (S [c])) [.str (S [aI x0]), .str (S [aI x2])] else MM (.str (S [c])) [.str (S [aI x0]), .str (S [aI x2])])=!(decide (c=aI x0)||decide (c=aI x2)) by rw[if_pos rfl,iv]]
    refine ⟨_,rfl,bz (fun f3=>?_) (fun f3=>?_)⟩
    ·have hn:c≠aI x0/\c≠aI x2:=by simpa using f3
     refine ⟨_,rfl,q (u++[c]) _ (SW.snoc hy QU Mv AR (fun a ha=>by rw[<-e2 a ha];exact hn.2) fun a ha=>by rw[<-e0 a ha];exact hn.1) (by omega) (oX.fK UH) (G3.fK Wf)⟩
    ·exact ⟨_,rfl,_,rfl,_,rfl,b,y,top,rfl,oX.fK UH,hy,Kb,Kc,nh,nB,fun l H4 hl Kd Dy s4=>q l H4 hl Kd Dy ((G3.fK Wf).trans s4)⟩
   ·exact ⟨_,rfl,_,rfl,_,rfl,b,y,top,rfl,hJ,hy,Kb,Kc,nh,nB,fun l H3 hl Kd oX s3=>q l H3 hl Kd oX (sg.trans s3)⟩
theorem Dh:bp P w K mg base dY 4 ND Ol ["_law_box_here","_law_yard_here","_law_many","_law_top"] (ug K):=by
 have nk:=uK (P:=P) (w:=w) (base:=base) T
 have cP:=nj (P:=P) (w:=w) (base:=base) T
 have Jj:=Gy (P:=P) (w:=w) (base:=base) T
 refine T.RU.fn.ok kz (fun vs H Q E h=>zM h) (fun cx A outer s H vs Q E hr h=>?_)
 refine ⟨_,(ae (ao (i:=4) kz.nd rfl (Or.inl rfl) (cJ (aa (aj nk (hr.mono (by decide)) rfl T.G2.mg T.G2.fn.kp T.G2.bd .nil aB (aa (pv 0) (aa (pv 1) (aa (pv 3) ab)))) ab)))
   (ae (bS PassesOwn.never rfl (eL rfl T.z_range (aa (aj cP (hr.mono (by decide)) rfl T.ji.mg T.ji.fn.kp T.ji.bd .nil aB (aa (pv 0) (aa (pv 2) ab))) ab)) (aP (i:=5) kz.nd rfl (Or.inl rfl)) (ae (ao (i:=6) kz.nd rfl (Or.inl rfl) (aA (b6 K rfl) (pv 4) (aj cP (hr.mono (by decide)) rfl T.ji.mg T.ji.fn.kp T.ji.bd .nil aB (aa (pv 0) (aa (aC (aV K rfl) rfl T.z_len Y3 (aa (pv 4) ab)) ab))) (fun _ _=>rfl)))
   (ai (bI (aH gT (aj cP (hr.mono (by decide)) rfl T.ji.mg T.ji.fn.kp T.ji.bd .nil aB (aa (pv 0) (aa ah ab))) ah (aM _)) (ai (b7 (bG K rfl ZD Z2 Z1 cy (pv 4) (aa (aj nk (hr.mono (by decide)) rfl T.G2.mg T.G2.fn.kp T.G2.bd .nil aB (aa (pv 0) (aa (pv 1) (aa (pv 3) ab)))) ab)))) (ai (b7 (bG K rfl ZD Z2 Z1 cy (pv 4) (aa (aj Jj (hr.mono (by decide)) rfl T.RT.mg T.RT.fn.kp T.RT.bd .nil aB (aa (pv 0) (aa (pv 1) (aa (pv 6) (aa (pv 3) ab))))) ab))))))))
   (ai (aF (de (cY K rfl) rfl T.z_tuple boot_tuple (aa (pv 4) ab)))))),?_⟩
 obtain ⟨b,y,many,top,rfl,hb,hy,Kb,Kc,Lj,Eg,nh,nB,Zp,q⟩:=h
 have hs:(100000:Nat)<sizeLine:=by decide
 refine ⟨_,rfl,_,rfl,_,rfl,b,y,top,rfl,hb,hy,Kb,Kc,nh,by omega,fun w1 H1 Oy R_ yN s1=>?_⟩
 refine ⟨by show 1<=sizeLine;decide,fun t nt=>?_⟩
 have tb:t≠b:=yN.ne nt
 have UI:=s1.none nt tb
 have QX:upd H1 t (.lst [.str (S w1)]) t=some (.lst (iN [w1])):=ag
 have hJ:=yN.fK (o:= .lst [.str (S w1)]) tb
 have s2:=s1.fK (o:= .lst [.str (S w1)]) UI
 generalize upd H1 t (.lst [.str (S w1)])=H2 at QX hJ s2 ⊢
 refine ⟨_,rfl,_,rfl,b,many,rfl,hJ,by omega,by omega,fun r H3 hr oX s3=>?_⟩
 refine ⟨_,rfl,by omega,by omega,?_⟩
 rw[U6]
 have Zq:r<many:=by omega
 refine dc (fun i σ H'=> ∃(ws:List (List Nat)) (kv ov:Option V),σ=[some (.ref b),some (.str (S y)),some (.int many),some (.int top),some (.ref t),kv,ov]/\H' t=some (.lst (iN ws))/\ws.length=i+1/\(∀w∈ws,SW y w/\w.length<=top)/\cV H' b/\aR b H H')
  ⟨[w1],none,none,rfl,s3 _ _ QX tb,rfl,fun w hw=>by rw[U7.mp hw];exact ⟨Oy,R_⟩,oX,s2.trans s3⟩ ?_ ?_
 ·rintro i σ H4 hi ⟨ws,kv,ov,rfl,Ar,QK,Mw,Dy,s4⟩
  refine ⟨_,rfl,_,rfl,_,rfl,t,_,rfl, .inl (bu.of Ar),b,_,rfl,Dy,by rw[bH];omega,by rw[bH];omega,fun r5 H5 Sa YS s5=>?_⟩
  rw[bH]at Sa
  have QY:r5<ws.length:=by omega
  refine ⟨t,_,_,_,rfl,rfl,bu.of (s5 _ _ Ar tb),bC (iO QY),?_⟩
  obtain ⟨so,lo⟩:=Mw _ (ZT QY)
  generalize ws[r5]=one at so lo ⊢
  refine ⟨_,rfl,b,3,rfl,YS,by decide,by decide,fun r6 H6 VT Wg s6=>?_⟩
  have Sb:=s6 _ _ (s5 _ _ Ar tb) tb
  have Wh:=s4.trans (s5.trans s6)
  refine ⟨_,_,rfl,rfl,_,rfl,bz (fun f=>?_) (fun f=>?_)⟩
  ·refine ⟨_,rfl, .inl ⟨rfl,_,bu.of Sb⟩,_,rfl,_,rfl,_,rfl,b,y,top,rfl,Wg,hy,Kb,Kc,nh,by omega,fun w7 H7 UJ UK UL s7=>?_⟩
   refine ⟨t,iN ws,_,rfl,rfl,s7 _ _ Sb tb,by rw[bH];omega,?_⟩
   refine ⟨ws++[w7],_,_,rfl,by rw[ag,qQ],by rw[U5,QK];rfl,fun w hw=>?_,UL.fK tb,(Wh.trans s7).fK UI⟩
   rcases Zx.mp hw with g | g
   ·exact Mw w g
   ·rw[U7.mp g];exact ⟨UJ,UK⟩
  ·refine ⟨_,rfl, .inl ⟨rfl,_,bu.of Sb⟩,_,rfl,_,rfl,_,rfl,_,rfl,b,y,one,top,rfl,Wg,hy,Kb,Kc,nh,by omega,so,lo,fun w7 H7 UJ UK UL s7=>?_⟩
   refine ⟨t,iN ws,_,rfl,rfl,s7 _ _ Sb tb,by rw[bH];omega,?_⟩
   refine ⟨ws++[w7],_,_,rfl,by rw[ag,qQ],by rw[U5,QK];rfl,fun w hw=>?_,UL.fK tb,(Wh.trans s7).fK UI⟩
   rcases Zx.mp hw with g | g
   ·exact Mw w g
   ·rw[U7.mp g];exact ⟨UJ,UK⟩
 ·rintro σ H4 ⟨ws,kv,ov,rfl,Ar,QK,Mw,Dy,s4⟩
  refine ⟨_,rfl,t,_,rfl, .inl ⟨bu.of Ar,fun u nu=>?_⟩⟩
  have ub:u≠b:=Dy.ne nu
  have Wi:=s4.none nu ub
  have j9:(places ws).length<=ws.length*top:=mN (fun w hw=>(Mw w hw).2) ws.length (Ri _)
  have hmul:ws.length*top<=many*top:=Nat.mul_le_mul_right _ (by omega)
  exact q u ws _ Wi ub ag ⟨fun w hw=>⟨(Mw w hw).1,by have:=(Mw w hw).2;omega⟩,by omega,by omega⟩ (Dy.fK ub) (s4.fK Wi)
theorem Jk:bp P w K mg base dY 1 Nw Oe ["_law_script","_law_k"] (AX K):=by
 refine T.RQ.fn.ok nc (fun vs H Q E h=>En h) (fun cx A outer s H vs Q E hr h=>?_)
 refine ⟨_,(ae (ao (i:=2) nc.nd rfl (Or.inl rfl) (ay aU (ay kY ah (pv 1)) ah))
   (ae (bI (aH i5 (pv 1) (aC (aV K rfl) rfl T.z_len Y3 (aa (pv 0) ab)) (aM _)) (ai (ao (i:=2) nc.nd rfl (Or.inl rfl) (aA (b6 K rfl) (pv 0) (pv 1) (fun _ _=>rfl)))) (ai (bI (aH qu (aC (aV K rfl) rfl T.z_len Y3 (aa (pv 0) ab)) ah (aM _)) (ai (ao (i:=2) nc.nd rfl (Or.inl rfl) (ay aU (pv 2) (ay kY (ay cI (aA (b6 K rfl) (pv 0) (ay cI (pv 1) (aC (aV K rfl) rfl T.z_len Y3 (aa (pv 0) ab))) (fun _ _=>rfl)) ah) ah)))) a_)))
   (ae (ao (i:=3) nc.nd rfl (Or.inl rfl) (ay cI (ay DE (ay aU (ay aU (ay cI (pv 2) ah) (ay kY ah (pv 1))) ah) ah) ah))
   (ai (aF (cJ (aa (aA (b6 K rfl) (cJ (aa ah (aa (pv 2) ab))) (de B4 rfl T.z_int boot_int (aa (gD DI (pv 2) (ay DE ah ah) (aM _)) ab)) (fun _ _=>rfl)) (aa (ay aU (ay cI (pv 3) ah) ah) ab)))))))),?_⟩
 obtain ⟨a,ns,k,rfl,hS,hk,q⟩:=h
 have hp:(0:Int)<2147483629:=by decide
 walk_at "rd"
 refine ⟨a,_,rfl, .inl hS,?_⟩
 walk_at "rd"
 refine bz (fun e=>?_) (fun e=>?_)
 ·have e':(k:Int)<((ns.map V.int).length:Nat):=of_decide_eq_true e
  rw[MO]at e'
  obtain ⟨z,hz⟩:=AZ (ns:=ns) (i:=k) (by omega)
  walk_at "rd"
  refine ⟨a,_,k,_,rfl,rfl,hS,bC hz,?_⟩
  walk_at "rd"
  refine fun p1 n1=>?_
  walk_at "rd"
  refine .inr ⟨_,rfl,?_⟩
  obtain ⟨y,hy⟩:=zG _ z
  refine ⟨p1,_,_,_,rfl,rfl,bu.of ag,hy,?_⟩
  walk_at "rd"
  exact fun p2 n2=>q p2 _ (ak.free (ak.upd n1) n2) ⟨_,_,ag⟩ ((ak.upd n1).trans (ak.upd n2))
 ·walk_at "rd"
  refine ⟨a,_,rfl, .inl hS,?_⟩
  walk_at "rd"
  refine bz (fun e2=>?_) (fun e2=>?_)
  ·have e':(0:Int)<((ns.map V.int).length:Nat):=of_decide_eq_true e2
   have hl:(0:Int)<(ns.length:Int):=by rw[MO]at e';exact e'
   have m1:0<=(k:Int)%(ns.length:Int):=Qah _ (by omega)
   have m2:(k:Int)%(ns.length:Int)<(ns.length:Int):=Qad _ hl
   obtain ⟨z,hz⟩:=AZ (ns:=ns) (i:=((k:Int)%(ns.length:Int)).toNat) (by omega)
   have MW:o6 (ns.map V.int) ((k:Int)%((ns.map V.int).length:Nat))=some (V.int z):=by
    have:=bC hz
    rw[Int.toNat_of_nonneg m1]at this
    rw[MO]
    exact this
   walk_at "rd"
   refine ⟨a,_,rfl, .inl hS,?_⟩
   walk_at "rd"
   refine ⟨a,_,_,_,rfl,rfl,hS,MW,?_⟩
   walk_at "rd"
   refine fun p1 n1=>?_
   walk_at "rd"
   refine .inr ⟨_,rfl,?_⟩
   obtain ⟨y,hy⟩:=zG _ _
   refine ⟨p1,_,_,_,rfl,rfl,bu.of ag,hy,?_⟩
   walk_at "rd"
   exact fun p2 n2=>q p2 _ (ak.free (ak.upd n1) n2) ⟨_,_,ag⟩ ((ak.upd n1).trans (ak.upd n2))
  ·walk_at "rd"
   refine fun p1 n1=>?_
   walk_at "rd"
   refine .inr ⟨_,rfl,?_⟩
   obtain ⟨y,hy⟩:=zG _ _
   refine ⟨p1,_,_,_,rfl,rfl,bu.of ag,hy,?_⟩
   walk_at "rd"
   exact fun p2 n2=>q p2 _ (ak.free (ak.upd n1) n2) ⟨_,_,ag⟩ ((ak.upd n1).trans (ak.upd n2))
theorem Gz:bp P w K mg base dY 2 NA Oh ["_law_box_here","_law_few","_law_top"] (xM K):=by
 have cP:=nj (P:=P) (w:=w) (base:=base) T
 have fG:=oF (P:=P) (w:=w) (base:=base) T
 refine T.RS.fn.ok fF (fun vs H Q E h=>Cw h) (fun cx A outer s H vs Q E hr h=>?_)
 refine ⟨_,(ae (ao (i:=3) fF.nd rfl (Or.inl rfl) (de (zp rfl) rfl T.z_list boot_list (aa (kZ [97,98,99,100,101,102,103,104,105,106,107,108,109,110,111,112,113,114,115,116,117,118,119,120,121,122] (by decide+kernel)) ab)))
   (ae (ao (i:=4) fF.nd rfl (Or.inl rfl) (cJ ab))
   (ae (bS PassesOwn.never rfl (eL rfl T.z_range (aa (ay aU (pv 1) (aj cP (hr.mono (by decide)) rfl T.ji.mg T.ji.fn.kp T.ji.bd .nil aB (aa (pv 0) (aa (ay aU (ay bJ (pv 2) (pv 1)) ah) ab)))) ab)) (aP (i:=5) fF.nd rfl (Or.inl rfl)) (ae (ao (i:=6) fF.nd rfl (Or.inl rfl) (bG K rfl ZD Qb8 Qb7 qy (pv 3) (aa (aj cP (hr.mono (by decide)) rfl T.ji.mg T.ji.fn.kp T.ji.bd .nil aB (aa (pv 0) (aa (aC (aV K rfl) rfl T.z_len Y3 (aa (pv 3) ab)) ab))) ab)))
   (ai (ao (i:=4) fF.nd rfl (Or.inl rfl) (ay K0 (pv 4) (cJ (aa (pv 6) (aa (aj fG (hr.mono (by decide)) rfl T.wA.mg T.wA.fn.kp T.wA.bd .nil aB (aa (pv 6) ab)) ab))))))))
   (ae (ao (i:=7) fF.nd rfl (Or.inl rfl) (kZ [] (by decide+kernel)))
   (ae (dh PassesOwn.never (aH qu (aC (aV K rfl) rfl T.z_len Y3 (aa (pv 4) ab)) ah (aM _)) (ai (ao (i:=7) fF.nd rfl (Or.inl rfl) (ay iK (pv 7) (bG K rfl ZD Qb8 Qb7 qy (pv 4) (aa (aj cP (hr.mono (by decide)) rfl T.ji.mg T.ji.fn.kp T.ji.bd .nil aB (aa (pv 0) (aa (aC (aV K rfl) rfl T.z_len Y3 (aa (pv 4) ab)) ab))) ab))))))
   (ai (aF (pv 7)))))))),?_⟩
 obtain ⟨b,tR,top,rfl,hb,h1,h2,h3,q⟩:=h
 have hs:(100000:Nat)<sizeLine:=by decide
 walk_at "rd"
 intro p1 n1
 walk_at "rd"
 intro p2 n2
 have s1:ak H (upd (upd H p1 (.lst (dX bg))) p2 (.lst [])):=(ak.upd n1).trans (ak.upd n2)
 have Se:p1≠b:=hb.ne n1
 have T3:H p2=none:=ak.free (ak.upd n1) n2
 have YT:p2≠b:=hb.ne T3
 have Wj:p1≠p2:=fun z=>by rw[<-z,ag]at n2;cases n2
 walk_at "rd"
 refine ⟨b,_,rfl,hb.same s1,by omega,by omega,fun n H1 hn yN s2=>?_⟩
 walk_at "rd"
 refine dc (fun i σ H'=> ∃(pe:Addr) (L E:List Nat) (kv lv:Option V),σ=[some (.ref b),some (.int tR),some (.int top),some (.ref p1),some (.ref pe),kv,lv,none]/\Lw i L E/\H' p1=some (.lst (dX L))/\H' pe=some (.lst (dX E))/\p1≠pe/\H pe=none/\cV H' b/\aR b H H')
  ⟨p2,bg,[],none,none,rfl,Lw.start,s2 _ _ (by rw[au Wj,ag];rfl) Se,s2 _ _ ag YT,Wj,T3,yN,(aR.of s1).trans s2⟩ ?_ ?_
 ·rintro i σ H2 hi ⟨pe,L,E,kv,lv,rfl,yw,pj,lS,Wl,Sf,hJ,s3⟩
  have Qk:i<26:=by simp at hi;omega
  have TV:=yw.ll
  have Sg:=yw.el
  refine ⟨_,rfl, .inl ⟨rfl,_,bu.of pj⟩,?_⟩
  walk_at "rd"
  refine ⟨p1,_,rfl, .inl (bu.of pj),b,_,rfl,hJ,by rw[bf];omega,by rw[bf];omega,fun r H3 Wa oX s4=>?_⟩
  rw[bf]at Wa
  have G5:r<L.length:=by omega
  have UM:=s4 _ _ pj Se
  have UN:=s4 _ _ lS (hb.ne Sf)
  refine ⟨p1,_,_,r,_,rfl,rfl,UM,by omega,by omega,by rw[bf,seqIndex_of (by omega) (by omega),U6],Eo G5,?_⟩
  rw[tX]
  have dq:Lt L[r]:= .inl (yw.sm _ (ZT G5))
  have QZ:(upd H3 p1 (.lst (dX (L.eraseIdx r)))) pe=some (.lst (dX E)):=by rw[au (Ne.symm Wl)];exact UN
  walk_at "rd"
  intro p3 n3
  have e3:pe≠p3:=aq QZ n3
  refine ⟨pe,p3,_,_,rfl,rfl,by rw[au e3];exact QZ,ag,by rw[bf];show E.length+2<=_;omega,fun p4 n4=>?_⟩
  have Wm:H p3=none:=((s3.trans s4).fK n1).none n3 (oX.fK Se |>.ne n3)
  have Wn:=(oX.fK (o:= .lst (dX (L.eraseIdx r))) Se).fK (o:= .lst [V.str (S [L[r]]),V.str (S [aI L[r]])]) (hb.ne Wm)
  have Wo:=((s3.trans s4).fK (o:= .lst (dX (L.eraseIdx r))) n1).fK (o:= .lst [V.str (S [L[r]]),V.str (S [aI L[r]])]) Wm
  have UO:H p4=none:=Wo.none n4 (Wn.ne n4)
  have Wq:p1≠p4:=fun z=>by rw[<-z]at n4;by_cases z3:p1=p3<;>simp[upd,z3]at n4
  have YU:p1≠p3:=fun z=>by rw[<-z,ag]at n3;cases n3
  refine ⟨p4,L.eraseIdx r,E++[L[r],aI L[r]],_,_,rfl,yw.turn Qk G5,by rw[au Wq,au YU,ag],?_,Wq,UO,Wn.fK (hb.ne UO),Wo.fK UO⟩
  rw[ag, <-HV]
  rfl
 ·rintro σ H2 ⟨pe,L,E,kv,lv,rfl,yw,pj,lS,Wl,Sf,hJ,s3⟩
  have Sg:=yw.el
  have GG:=hb.ne Sf
  walk_at "rd"
  refine ⟨fun m σ H'=> ∃F E':List Nat,σ=[some (.ref b),some (.int tR),some (.int top),some (.ref p1),some (.ref pe),kv,lv,some (.str (S F))]/\m=E'.length/\(F++E').Perm E/\H' pe=some (.lst (dX E'))/\cV H' b/\aR b H H',⟨_,[],E,rfl,rfl,List.Perm.refl _,lS,hJ,s3⟩,?_⟩
  rintro m σ H3 ⟨F,E',rfl,rfl,wD,Jl,oX,s4⟩
  have hlen:=wD.length_eq
  rw[U5]at hlen
  have yZ:(tR:Int)+n<=9:=by omega
  have YV:E.length<=100:=by rw[Sg];omega
  walk_at "rd"
  refine ⟨pe,_,rfl, .inl (bu.of Jl),_,_,rfl,rfl,_,rfl,bz (fun e=>?_) (fun e=>?_)⟩
  ·have e':(0:Int)<((dX E').length:Nat):=of_decide_eq_true e
   rw[bf]at e'
   refine ⟨_,rfl,_,rfl, .inl ⟨rfl,_,bu.of Jl⟩,?_⟩
   walk_at "rd"
   refine ⟨pe,_,rfl, .inl (bu.of Jl),b,_,rfl,oX,by rw[bf];omega,by rw[bf];omega,fun r H4 G5 Dy s5=>?_⟩
   rw[bf]at G5
   have Sa:r<E'.length:=by omega
   refine ⟨pe,_,_,r,_,rfl,rfl,s5 _ _ Jl GG,by omega,by omega,by rw[bf,seqIndex_of (by omega) (by omega),U6],Eo Sa,?_⟩
   rw[tX]
   have hp:=lj (K3 Sa)
   have j9:=hp.length_eq
   rw[ZR]at j9
   refine ⟨F,_,rfl,rfl,by show F.length+1<=_;omega,(E'.eraseIdx r).length,by omega,F++[E'[r]],E'.eraseIdx r,rfl,rfl,?_,ag,Dy.fK GG,(s4.trans s5).fK Sf⟩
   rw[Qak]
   exact (List.Perm.append_left F hp).trans wD
  ·have e':E'=[]:=by
    cases E' with
    | nil=>rfl
    | cons c r=>exact absurd (decide_eq_true (by rw[bf];show (0:Int)<((r.length+1:Nat):Int);omega)) e
   subst e'
   rw[ZV]at wD
   have Hr:=wD.length_eq
   refine ⟨_,rfl,q F H3 (yw.yd.perm wD.symm) ?_ ?_ oX s4⟩
   ·rw[Hr,Sg];omega
   ·rw[Hr,Sg];omega
theorem Mx:bp P w K mg base dY 12 NH Oq ["_law_script"] (nJ K):=by
 have Mz:=Jk (P:=P) (w:=w) (base:=base) T
 have Jm:=Gz (P:=P) (w:=w) (base:=base) T
 have GA:=Df (P:=P) (w:=w) (base:=base) T
 have GB:=Dh (P:=P) (w:=w) (base:=base) T
 refine T.XG.fn.ok wC (fun vs H Q E h=>HU h) (fun cx A outer s H vs Q E hr h=>?_)
 refine ⟨_,(ae (bS PassesOwn.never rfl (eL rfl T.z_range (aa (ay aU ah (aC (aV K rfl) rfl T.z_len Y3 (aa (bV (ml K rfl) (pv 0) (bM ah) (bM ah)) ab))) ab)) (aP (i:=1) wC.nd rfl (Or.inl rfl)) (ae (ao (i:=2) wC.nd rfl (Or.inl rfl) (aj Mz (hr.mono (by decide)) rfl T.RQ.mg T.RQ.fn.kp T.RQ.bd .nil aB (aa (pv 0) (aa (pv 1) ab))))
   (ae (ao (i:=3) wC.nd rfl (Or.inl rfl) (aj Jm (hr.mono (by decide)) rfl T.RS.mg T.RS.fn.kp T.RS.bd .nil aB (aa (pv 2) (aa ah (aa ah ab)))))
   (ai (bI (Kr (iF (aj GA (hr.mono (by decide)) rfl T.RV.mg T.RV.fn.kp T.RV.bd .nil aB (aa (pv 3) (aa (aj GB (hr.mono (by decide)) rfl T.RU.mg T.RU.fn.kp T.RU.bd .nil aB (aa (pv 2) (aa (pv 3) (aa ah (aa ah ab))))) ab))))) (ai (aF AA)) a_)))))
   (ai (aF AA))),?_⟩
 obtain ⟨a,ns,rfl,hS,hl,q⟩:=h
 have hs:(100000:Nat)<sizeLine:=by decide
 refine ⟨_,rfl,_,rfl,_,rfl,a,_,rfl,hS,fun p1 n1=>?_⟩
 have TM:(o5 (ns.map V.int) (some 2) (some 6)).length<=4:=by unfold o5;rw[ZG];exact ZN (Nat.min_le_left _ _) (by have e1: ∀n d:Nat,HT.i7 n d (some ((2:Nat):Int))=min 2 n:=fun n d=>HT.gE _ _ _;have e2: ∀n d:Nat,HT.i7 n d (some ((6:Nat):Int))=min 6 n:=fun n d=>HT.gE _ _ _;show HT.i7 _ _ (some ((6:Nat):Int)) - HT.i7 _ _ (some ((2:Nat):Int))<=4;rw[e1,e2];omega)
 refine ⟨p1,_,rfl, .inl (bu.of ag),_,_,rfl,rfl,?_⟩
 have s1:=ak.upd (o:= .lst (o5 (ns.map V.int) (some 2) (some 6))) n1
 generalize (o5 (ns.map V.int) (some 2) (some 6)).length=m at TM ⊢
 generalize upd H p1 (.lst (o5 (ns.map V.int) (some 2) (some 6)))=H1 at s1 ⊢
 refine ⟨_,rfl,by omega,by omega,?_⟩
 rw[show ((2:Int)+(m:Int)).toNat=2+m by omega]
 refine dc (fun i σ H'=> ∃v1 v2 v3:Option V,σ=[some (.ref a),v1,v2,v3]/\ak H H') ⟨none,none,none,rfl,s1⟩ ?_ ?_
 ·rintro i σ H2 hi ⟨v1,v2,v3,rfl,s2⟩
  refine ⟨_,rfl,_,rfl,a,ns,i,by rw[Qay];rfl,s2.seq hS,by omega,fun b H3 nb bx s3=>?_⟩
  refine ⟨_,rfl,b,1,4,rfl,bx,by decide,by decide,by decide,fun y H4 hy Kb Kc YW s4=>?_⟩
  refine ⟨_,rfl,_,rfl,_,rfl,b,y,4,6,rfl,YW,hy,by omega,by omega,by decide,by decide,by decide,by decide,by decide,fun t ws H5 nt tb ht hk Zr s5=>?_⟩
  refine ⟨y,t,ws,rfl,hy,by omega,hk,ht,fun H6 s6=>?_⟩
  refine ⟨_,rfl,HW rfl ?_⟩
  exact ⟨_,_,_,rfl,s2.trans (aR.same nb s3 ((s4.trans s5).after s6))⟩
 ·rintro σ H2 ⟨v1,v2,v3,rfl,s2⟩
  exact q H2
end
theorem bO {M:List Value->Prop} (h:M []): ∀us:List Value,us.length=0->M us
 | [],_=>h
theorem aG {M:List Value->Prop} {n:Nat} (h: ∀(a:Value) (us:List Value),us.length=n->M (a::us)): ∀us:List Value,us.length=n+1->M us
 | a::us,e=>h a us (Nat.succ.inj e)
def Dn (K:PySem.W.Frag) (x:Str) (st:Stmt) (f:Addr) (fd:FuncData):Prop:=PySem.W.nsIn K mainGlobals x=some (some (.ref f))/\Ht K x x st f fd
theorem dn {K:PySem.W.Frag} {x:Str} {st:Stmt} {f:Addr} {oc:Value} {od an:Option Addr} {GK:Array (Option Value)} {kV doc pm cx ct:Value} (a:PySem.W.nsIn K mainGlobals x=some (some (.ref f))) (l:K.lookup f=some ⟨oc,od, .func (PySem.W.fnOf x x (gc st) (eX st) (ar st) .none kV doc pm an cx ct),GK⟩) (c:PySem.W.codeIn K cx x=true) (k:PySem.W.keepIn K (.ref f)=true):Dn K x st f (PySem.W.fnOf x x (gc st) (eX st) (ar st) .none kV doc pm an cx ct):=⟨a,zh l c k⟩
theorem fH {K:PySem.W.Frag} {h:Heap} {mg:Str->Option Value} {x:Str} {st:Stmt} {f:Addr} {fd:FuncData} {ps:List Str} (X:K.In h) (G:h.Ns mainGlobals mg) (a:Dn K x st f fd) (b: ∀(kV doc pm:Value) (an:Option Addr) (cx ct:Value) (us:List Value),us.length=ps.length->bindArgs (PySem.W.fnOf x x (gc st) (eX st) (ar st) .none kV doc pm an cx ct) ⟨us,[]⟩=pure (ps.zip us)):aY K mg x st ps f fd:=⟨a.2,Qdo X G a.1,a.2.binds b⟩
theorem all_mk {l:PySem.W.OpenLaw} {w:World} {K:PySem.W.Frag} {h:Heap} {mg:Str->Option Value} {fa f0 f1 f2 f3 f4 f5 f6 f7 f8 f9 MY MZ M0 M1 M3 M4 M5 M6 M7 M8 M9 M_ Na Nb Nd Nf Ng Nh Ni Gj Gk Nj Nk Nl Nm Nn Np Nq Nr Nt Nu Nv Nw Ny Nz NA NB NC ND NF NG NH aQ aW kQ g8:Addr} (X:K.In h) (G:h.Ns mainGlobals mg) (Rq:mg "law"=some (.ref fa))
  {d0 d1 d2 d3 d4 d5 d6 d7 d8 d9 NI NJ NK NL NM NN NO NP NQ NR NS NT NU NV NW NX NY NZ N0 N1 N2 N3 N4 N5 N6 N7 N8 N9 N_ Oa Ob Oc Oe Of Og Oh Oi Oj Ol Om Oo Oq:FuncData}
  {MA MB Jn Jo:Option Addr} {MC Jp:Array (Option Value)} {MD ME MF MG GC MH Jq Jr Js Jt BR Ju:Value}
  (a0:Dn K "contrary" lK f0 d0)
  (a1:Dn K "turned" rF f1 d1)
  (a2:Dn K "bands" wm f2 d2)
  (a3:Dn K "steps_round" gY f3 d3)
  (a4:Dn K "goes_round" iV f4 d4)
  (a5:Dn K "strands_at" iW f5 d5)
  (a6:Dn K "points" rG f6 d6)
  (a7:Dn K "corner_points" fO f7 d7)
  (a8:Dn K "corners" oh f8 d8)
  (a9:Dn K "corners_meet" gs f9 d9)
  (a10:Dn K "meetings" lL MY NI)
  (a11:Dn K "chord_starts" gu MZ NJ)
  (a12:Dn K "number_in" jW M0 NK)
  (a13:Dn K "count_meetings" eU M1 NL)
  (a14:Dn K "strands_in" iX M3 NM)
  (a15:Dn K "corner_ends" gZ M4 NN)
  (a16:Dn K "meets_across" gv M5 NO)
  (a17:Dn K "letters_shared" eV M6 NP)
  (a18:Dn K "letters_along" fP M7 NQ)
  (a19:Dn K "forced_onward" fQ M8 NR)
  (a20:Dn K "forced_against" eW M9 NS)
  (a21:Dn K "forced_at" jX M_ NT)
  (a22:Dn K "strands_of" iY Na NU)
  (a23:Dn K "forced" rH Nb NV)
  (a24:Dn K "shortened" jY Nd NW)
  (a25:Dn K "shortest" lN Nf NX)
  (a26:Dn K "ring" Aj Ng NY)
  (a27:Dn K "root" Ak Nh NZ)
  (a28:Dn K "corner_steps" gw Ni N0)
  (a29:Dn K "steps_ahead" g5 Gj N1)
  (a30:Dn K "steps_back" iZ Gk N2)
  (a31:Dn K "parting" oj Nj N3)
  (a32:Dn K "side_of" om Nk N4)
  (a33:Dn K "comes_ahead" g6 Nl N5)
  (a34:Dn K "number_among" gz Nm N6)
  (a35:Dn K "seen_strand" g7 Nn N7)
  (a36:Dn K "taut_order" i0 Np N8)
  (a37:Dn K "taut" Al Nq N9)
  (a38:Dn K "least" wo Nr N_)
  (a39:Dn K "own" Gh Nt Oa)
  (a40:Dn K "between" oq Nu Ob)
  (a41:Dn K "paper_of" lO Nv Oc)
  (a42:Dn K "_law_box" Am Nw Oe)
  (a43:Dn K "_law_take" wq Ny Of)
  (a44:Dn K "_law_other" rJ Nz Og)
  (a45:Dn K "_law_yard" wu NA Oh)
  (a46:Dn K "_law_short" rK NB Oi)
  (a47:Dn K "_law_near" wx NC Oj)
  (a48:Dn K "_law_words" rL ND Ol)
  (a49:Dn K "_law_by_pairs" lQ NF Om)
  (a50:Dn K "_law_right" rM NG Oo)
  (a51:Dn K "law" Gi NH Oq)
  (q_Seen:PySem.W.nsIn K mainGlobals "Seen"=some (some (.ref aQ)))
  (pg_Seen:PySem.W.plainGet K aQ Str.empty=true)
  (hd_Seen:PySem.W.hasDictIn K aQ=true)
  (po_Seen:PySem.W.plainOver K aQ=true)
  (sa_Seen:PySem.W.findIn K (.ref aQ) "__setattr__"=some (some (.builtin "object.__setattr__")))
  (n_Seen_strand:PySem.W.findIn K (.ref aQ) "strand"=some none)
  (n_Seen_way:PySem.W.findIn K (.ref aQ) "way"=some none)
  (n_Seen_place:PySem.W.findIn K (.ref aQ) "place"=some none)
  (q_Way:PySem.W.nsIn K mainGlobals "Way"=some (some (.ref aW)))
  (pg_Way:PySem.W.plainGet K aW Str.empty=true)
  (hd_Way:PySem.W.hasDictIn K aW=true)
  (po_Way:PySem.W.plainOver K aW=true)
  (sa_Way:PySem.W.findIn K (.ref aW) "__setattr__"=some (some (.builtin "object.__setattr__")))
  (n_Way_size:PySem.W.findIn K (.ref aW) "size"=some none)
  (n_Way_root_size:PySem.W.findIn K (.ref aW) "root_size"=some none)
  (n_Way_leads:PySem.W.findIn K (.ref aW) "leads"=some none)
  (n_Way_onward:PySem.W.findIn K (.ref aW) "onward"=some none)
  (n_Way_backward:PySem.W.findIn K (.ref aW) "backward"=some none)
  (mk_Way:PySem.W.makesIn K aW=true)
  (qi_Way:PySem.W.findIn K (.ref aW) "__init__"=some (some (.ref kQ)))
  (fi_Way:PySem.W.isFn K (.ref kQ)=true)
  (kc_Way:PySem.W.keepIn K (.ref aW)=true)
  (li_Way:K.lookup kQ=some ⟨MD,MA, .func (PySem.W.fnOf "__init__" "Way.__init__" (gc ku) (eX ku) (ar ku) .none ME MF MG MB GC MH),MC⟩)
  (ci_Way:PySem.W.codeIn K GC "Way.__init__"=true)
  (ki_Way:PySem.W.keepIn K (.ref kQ)=true)
  (mk_Seen:PySem.W.makesIn K aQ=true)
  (qi_Seen:PySem.W.findIn K (.ref aQ) "__init__"=some (some (.ref g8)))
  (fi_Seen:PySem.W.isFn K (.ref g8)=true)
  (kc_Seen:PySem.W.keepIn K (.ref aQ)=true)
  (li_Seen:K.lookup g8=some ⟨Jq,Jn, .func (PySem.W.fnOf "__init__" "Seen.__init__" (gc ir) (eX ir) (ar ir) .none Jr Js Jt Jo BR Ju),Jp⟩)
  (ci_Seen:PySem.W.codeIn K BR "Seen.__init__"=true)
  (ki_Seen:PySem.W.keepIn K (.ref g8)=true)
  (z_enumerate:PySem.W.nsIn K mainGlobals "enumerate"=some none)
  (z_int:PySem.W.nsIn K mainGlobals "int"=some none)
  (z_len:PySem.W.nsIn K mainGlobals "len"=some none)
  (z_list:PySem.W.nsIn K mainGlobals "list"=some none)
  (z_max:PySem.W.nsIn K mainGlobals "max"=some none)
  (z_min:PySem.W.nsIn K mainGlobals "min"=some none)
  (z_range:PySem.W.nsIn K mainGlobals "range"=some none)
  (z_reversed:PySem.W.nsIn K mainGlobals "reversed"=some none)
  (z_sorted:PySem.W.nsIn K mainGlobals "sorted"=some none)
  (z_str:PySem.W.nsIn K mainGlobals "str"=some none)
  (z_tuple:PySem.W.nsIn K mainGlobals "tuple"=some none):
  ∃fd:FuncData,(∀(s:Shared) (v:Value),BindsTo s fd ⟨[v],[]⟩ [("_law_script",v)])/\ ∀base:Heap,K.In base->base.Ns mainGlobals mg->bp l.prog w K mg base dY 12 fa fd ["_law_script"] (nJ K):=by
 have e:=Rq.symm.trans (Qdo X G a51.1)
 cases e
 obtain ⟨_,_,_,_,_,_,_,_,_,rfl,_⟩:=a51.2.ex
 have GD:=zh (st:=ku) li_Way ci_Way ki_Way
 have MI:=GD.binds (ps:=["self","yard","word","longest"]) fun _ _ _ _ _ _=>aG fun _=>aG fun _=>aG fun _=>aG fun _=>bO rfl
 have BS:=zh (st:=ir) li_Seen ci_Seen ki_Seen
 have Jv:=BS.binds (ps:=["self","strand","way","place"]) fun _ _ _ _ _ _=>aG fun _=>aG fun _=>aG fun _=>aG fun _=>bO rfl
 have T:Txt K mg _ _ _ _ _ _ _ _ _ _ _ _ _ _ _ _ _ _ _ _ _ _ _ _ _ _ _ _ _ _ _ _ _ _ _ _ _ _ _ _ _ _ _ _ _ _ _ _ _ _ _ _ _ _ _ _ _ _ _ _ _ _ _ _ _ _ _ _ _ _ _ _ _ _ _ _ _ _ _ _ _ _ _ _ _ _ _ _ _ _ _ _ _ _ _ _ _ _ _ _ _ _ _ _ _ _ _ _ _ _:=⟨fH X G a0 fun _ _ _ _ _ _=>aG fun _=>bO rfl,fH X G a1 fun _ _ _ _ _ _=>aG fun _=>bO rfl,fH X G a2 fun _ _ _ _ _ _=>aG fun _=>bO rfl,fH X G a3 fun _ _ _ _ _ _=>aG fun _=>aG fun _=>aG fun _=>bO rfl,fH X G a4 fun _ _ _ _ _ _=>aG fun _=>aG fun _=>aG fun _=>aG fun _=>bO rfl,fH X G a5 fun _ _ _ _ _ _=>aG fun _=>aG fun _=>aG fun _=>bO rfl,fH X G a6 fun _ _ _ _ _ _=>aG fun _=>aG fun _=>bO rfl,fH X G a7 fun _ _ _ _ _ _=>aG fun _=>aG fun _=>aG fun _=>bO rfl,fH X G a8 fun _ _ _ _ _ _=>aG fun _=>aG fun _=>bO rfl,fH X G a9 fun _ _ _ _ _ _=>aG fun _=>aG fun _=>bO rfl,fH X G a10 fun _ _ _ _ _ _=>aG fun _=>aG fun _=>bO rfl,fH X G a11 fun _ _ _ _ _ _=>aG fun _=>bO rfl,fH X G a12 fun _ _ _ _ _ _=>aG fun _=>aG fun _=>bO rfl,fH X G a13 fun _ _ _ _ _ _=>aG fun _=>bO rfl,fH X G a14 fun _ _ _ _ _ _=>aG fun _=>aG fun _=>bO rfl,fH X G a15 fun _ _ _ _ _ _=>aG fun _=>aG fun _=>bO rfl,fH X G a16 fun _ _ _ _ _ _=>aG fun _=>aG fun _=>aG fun _=>aG fun _=>aG fun _=>bO rfl,fH X G a17 fun _ _ _ _ _ _=>aG fun _=>aG fun _=>aG fun _=>aG fun _=>bO rfl,fH X G a18 fun _ _ _ _ _ _=>aG fun _=>aG fun _=>aG fun _=>aG fun _=>aG fun _=>bO rfl,fH X G a19 fun _ _ _ _ _ _=>aG fun _=>aG fun _=>aG fun _=>aG fun _=>bO rfl,fH X G a20 fun _ _ _ _ _ _=>aG fun _=>aG fun _=>aG fun _=>aG fun _=>aG fun _=>bO rfl,fH X G a21 fun _ _ _ _ _ _=>aG fun _=>aG fun _=>aG fun _=>aG fun _=>aG fun _=>bO rfl,fH X G a22 fun _ _ _ _ _ _=>aG fun _=>bO rfl,fH X G a23 fun _ _ _ _ _ _=>aG fun _=>aG fun _=>bO rfl,fH X G a24 fun _ _ _ _ _ _=>aG fun _=>bO rfl,fH X G a25 fun _ _ _ _ _ _=>aG fun _=>bO rfl,fH X G a26 fun _ _ _ _ _ _=>aG fun _=>bO rfl,fH X G a27 fun _ _ _ _ _ _=>aG fun _=>bO rfl,fH X G a28 fun _ _ _ _ _ _=>aG fun _=>aG fun _=>aG fun _=>bO rfl,fH X G a29 fun _ _ _ _ _ _=>aG fun _=>aG fun _=>aG fun _=>bO rfl,fH X G a30 fun _ _ _ _ _ _=>aG fun _=>aG fun _=>aG fun _=>bO rfl,fH X G a31 fun _ _ _ _ _ _=>aG fun _=>aG fun _=>aG fun _=>aG fun _=>bO rfl,fH X G a32 fun _ _ _ _ _ _=>aG fun _=>bO rfl,fH X G a33 fun _ _ _ _ _ _=>aG fun _=>aG fun _=>bO rfl,fH X G a34 fun _ _ _ _ _ _=>aG fun _=>aG fun _=>bO rfl,fH X G a35 fun _ _ _ _ _ _=>aG fun _=>aG fun _=>aG fun _=>bO rfl,fH X G a36 fun _ _ _ _ _ _=>aG fun _=>aG fun _=>aG fun _=>bO rfl,fH X G a37 fun _ _ _ _ _ _=>aG fun _=>aG fun _=>bO rfl,fH X G a38 fun _ _ _ _ _ _=>aG fun _=>aG fun _=>bO rfl,fH X G a39 fun _ _ _ _ _ _=>aG fun _=>aG fun _=>bO rfl,fH X G a40 fun _ _ _ _ _ _=>aG fun _=>aG fun _=>aG fun _=>bO rfl,fH X G a41 fun _ _ _ _ _ _=>aG fun _=>aG fun _=>bO rfl,fH X G a42 fun _ _ _ _ _ _=>aG fun _=>aG fun _=>bO rfl,fH X G a43 fun _ _ _ _ _ _=>aG fun _=>aG fun _=>bO rfl,fH X G a44 fun _ _ _ _ _ _=>aG fun _=>bO rfl,fH X G a45 fun _ _ _ _ _ _=>aG fun _=>aG fun _=>aG fun _=>bO rfl,fH X G a46 fun _ _ _ _ _ _=>aG fun _=>aG fun _=>aG fun _=>bO rfl,fH X G a47 fun _ _ _ _ _ _=>aG fun _=>aG fun _=>aG fun _=>aG fun _=>bO rfl,fH X G a48 fun _ _ _ _ _ _=>aG fun _=>aG fun _=>aG fun _=>aG fun _=>bO rfl,fH X G a49 fun _ _ _ _ _ _=>aG fun _=>bO rfl,fH X G a50 fun _ _ _ _ _ _=>aG fun _=>aG fun _=>bO rfl,fH X G a51 fun _ _ _ _ _ _=>aG fun _=>bO rfl,Qdo X G q_Seen,⟨pg_Seen,hd_Seen,po_Seen,sa_Seen⟩,n_Seen_strand,n_Seen_way,n_Seen_place,Qdo X G q_Way,⟨pg_Way,hd_Way,po_Way,sa_Way⟩,n_Way_size,n_Way_root_size,n_Way_leads,n_Way_onward,n_Way_backward,⟨mk_Way,qi_Way,fi_Way,kc_Way⟩,GD,MI,⟨mk_Seen,qi_Seen,fi_Seen,kc_Seen⟩,BS,Jv,Qab X G z_enumerate,Qab X G z_int,Qab X G z_len,Qab X G z_list,Qab X G z_max,Qab X G z_min,Qab X G z_range,Qab X G z_reversed,Qab X G z_sorted,Qab X G z_str,Qab X G z_tuple⟩
 exact ⟨_,fun s v=> .of_eq rfl,fun base _ _=>Mx T⟩
theorem walk {l:PySem.W.OpenLaw} {q:Program} {loose:List Str} {XP:(Str->Option Value)->Heap->Prop} {YP:World->Heap->Prop} {d:DefRec} {K:Params->PySem.W.Frag} (hn:l.most=some 63) (Pk:d.params.defaults=[])
  (hY: ∀(w:World) (h:Heap),YP w h->(K w.params).In h)
  (F: ∀(w:World) (mg:Str->Option Value) (fa:Addr) (h:Heap),(K w.params).In h->h.Ns mainGlobals mg->mg d.name=some (.ref fa)->
   ∃fd:FuncData,(∀(s:Shared) (u:Value),BindsTo s fd ⟨[u],[]⟩ [("_law_script",u)])/\ ∀base:Heap,(K w.params).In base->base.Ns mainGlobals mg->bp l.prog w (K w.params) mg base dY 12 fa fd ["_law_script"] (nJ (K w.params))):
  PySem.W.WalkO q loose XP YP l.row.toRowW d [] (fun f vs=>PySem.call f vs):=
 L2.AJ (n:=63) (k:=12) (x:="_law_script") (CX:=fun _=>dY) (sp:=fun w=>nJ (K w.params)) hn (by decide) Pk ⟨rfl,by decide,by decide,rfl⟩ hY F (fun _ _ a ns hl _ hS=>⟨a,ns,rfl,hS,hl,fun _=>rfl⟩) fun _ _ _ _ _ z=>z
end My
namespace PySem.W.Fast
def tw1012674895924309267:=Nat
def tw1014652949091403025:=Nat
def tw10150824117005942255:=Nat
def tw10229733288087587960:=Nat
def tw10278150345089635924:=Nat
def tw10296746781031581818:=Nat
def tw1050046452834821828:=Nat
def tw1064856760590109910:=Nat
def tw10687236058903170446:=Nat
def tw1071293189158391141:=Nat
def tw10801091347709287532:=Nat
def tw10896222004008993131:=Nat
def tw11055990745460501230:=Nat
def tw11310133109651177975:=Nat
def tw11346393010932233774:=Nat
def tw11365673556626822385:=Nat
def tw11510727472698603086:=Nat
def tw11528213337173838186:=Nat
def tw11550098140634220627:=Nat
def tw11552332136857153291:=Nat
def tw11711713603787518655:=Nat
def tw11805648646351801776:=Nat
def tw11941085602655208236:=Nat
def tw11983373217043577222:=Nat
def tw1221781654099358366:=Nat
def tw12225648362454574425:=Nat
def tw12262605785888018391:=Nat
def tw12306344564424266399:=Nat
def tw12327565697389356687:=Nat
def tw12342840215482050038:=Nat
def tw12351276900738948919:=Nat
def tw1239244222058767660:=Nat
def tw12402959114489018429:=Nat
def tw12552272822097251086:=Nat
def tw12710035912028687124:=Nat
def tw12873727721663194679:=Nat
def tw129423001018025140:=Nat
def tw12957816194295209508:=Nat
def tw13112361888109188539:=Nat
def tw13200620451486269488:=Nat
def tw13252431209898949305:=Nat
def tw13305007964070637526:=Nat
def tw13404707982893102960:=Nat
def tw13411095687933821968:=Nat
def tw13457187312735593118:=Nat
def tw13474196125946187650:=Nat
def tw13689296282451616859:=Nat
def tw13694405093157356177:=Nat
def tw13905022690940718622:=Nat
def tw13908419575664370577:=Nat
def tw13918621745697747757:=Nat
def tw1399344886687105349:=Nat
def tw14013306547164766064:=Nat
def tw14051756258815149805:=Nat
def tw14057292778642245125:=Nat
def tw14151753731384286287:=Nat
def tw14313643744966659999:=Nat
def tw14443763191177269983:=Nat
def tw14454538606990544979:=Nat
def tw14540559449500000830:=Nat
def tw14625959824631284039:=Nat
def tw14698887181655397101:=Nat
def tw14759414746761221048:=Nat
def tw14765226622988361847:=Nat
def tw14963584578424649024:=Nat
def tw15059654509059285710:=Nat
def tw15089262735365054544:=Nat
def tw15093838643678388154:=Nat
def tw15160437813276107241:=Nat
def tw15210579879849060896:=Nat
def tw15266347634888740936:=Nat
def tw15441826203939671970:=Nat
def tw15449565133965636678:=Nat
def tw15544389968275150145:=Nat
def tw15670847280483907168:=Nat
def tw15691173724404057942:=Nat
def tw15707755588276452409:=Nat
def tw15738348784797226384:=Nat
def tw15752084072511109774:=Nat
def tw15817307484135916712:=Nat
def tw15942700838375457375:=Nat
def tw16054449616981966825:=Nat
def tw16090586999902352097:=Nat
def tw16153851933477773784:=Nat
def tw16194555321866258468:=Nat
def tw16195692680064761094:=Nat
def tw16261886471227918988:=Nat
def tw1637988668822263368:=Nat
def tw16649396692607896157:=Nat
def tw16662497723198512722:=Nat
def tw16739711869572803762:=Nat
def tw1689152077537780345:=Nat
def tw16920310734060862601:=Nat
def tw16942213827042572427:=Nat
def tw16978040356277772271:=Nat
def tw17283488957085514000:=Nat
def tw17294519705333903225:=Nat
def tw17342170258872189432:=Nat
def tw1737923896010932449:=Nat
def tw1742159524789358355:=Nat
def tw17454401459073211749:=Nat
def tw17509181989346889599:=Nat
def tw17547526350251096494:=Nat
def tw17641417039327035560:=Nat
def tw17641956941986245566:=Nat
def tw17822700712370220267:=Nat
def tw17862545121515712223:=Nat
def tw1788897117906343070:=Nat
def tw17918129056793919262:=Nat
def tw17961098941747798132:=Nat
def tw18209572028284087027:=Nat
def tw18252882369185952767:=Nat
def tw18262876291190241443:=Nat
def tw1852018581866702125:=Nat
def tw2100086197640391478:=Nat
def tw2162140678077844967:=Nat
def tw2225525039824086067:=Nat
def tw2266814541049426114:=Nat
def tw2587741620041332531:=Nat
def tw2595998917982921114:=Nat
def tw2608835056725853685:=Nat
def tw2637182595080029167:=Nat
def tw2659672832690586962:=Nat
def tw2683847258208446221:=Nat
def tw2690681289749739366:=Nat
def tw2899885836425717645:=Nat
def tw2992047115983272967:=Nat
def tw3089438917634372781:=Nat
def tw3090280890298644540:=Nat
def tw3203642020553843162:=Nat
def tw3341528489931281145:=Nat
def tw3743886909045388755:=Nat
def tw3848271901341985845:=Nat
def tw4145314464018777302:=Nat
def tw4234778499625129645:=Nat
def tw4486715869087565640:=Nat
def tw4563232683553316897:=Nat
def tw4602808556254947021:=Nat
def tw4754611063192783741:=Nat
def tw4979672288595199740:=Nat
def tw512471798184809426:=Nat
def tw5347582062229481088:=Nat
def tw5439776857229843672:=Nat
def tw5516664605384941707:=Nat
def tw5526060797560766064:=Nat
def tw5613137595204520279:=Nat
def tw5703196597142881555:=Nat
def tw572770261130681368:=Nat
def tw5734880768957912948:=Nat
def tw5893780416434890167:=Nat
def tw5931877717503849802:=Nat
def tw5993567279617915166:=Nat
def tw6025667600064774306:=Nat
def tw6162395020170144772:=Nat
def tw6168913926314523517:=Nat
def tw6270875989114716014:=Nat
def tw6321850730881013092:=Nat
def tw6478404999123861140:=Nat
def tw6591528864123252909:=Nat
def tw6634358814703347674:=Nat
def tw6725642741562972043:=Nat
def tw673759143110845548:=Nat
def tw6774543826875580394:=Nat
def tw7044016560895956732:=Nat
def tw7085423208476608462:=Nat
def tw711354693295815199:=Nat
def tw7129570484989789567:=Nat
def tw718783068629857926:=Nat
def tw7302192528391622031:=Nat
def tw7329137405248227230:=Nat
def tw7394332560332055774:=Nat
def tw740053122158306214:=Nat
def tw7412235274113140676:=Nat
def tw743284310530045460:=Nat
def tw7517680067272198399:=Nat
def tw7527803744165342265:=Nat
def tw7866154910320231163:=Nat
def tw7888783927009323794:=Nat
def tw7899053709398109012:=Nat
def tw8040233179951120947:=Nat
def tw8135219711404088773:=Nat
def tw8173198843177346774:=Nat
def tw8241762197634283913:=Nat
def tw8337688205741420288:=Nat
def tw8404101469953653042:=Nat
def tw8407713566167003226:=Nat
def tw8441355299280723369:=Nat
def tw8517581791485543166:=Nat
def tw8689761035341477898:=Nat
def tw8750104888709271624:=Nat
def tw8785845053853624637:=Nat
def tw8897912496965466146:=Nat
def tw8996227917215186778:=Nat
def tw9000059873598860397:=Nat
def tw9025808918642553123:=Nat
def tw9164604499074986391:=Nat
def tw9308137127047645568:=Nat
def tw9725232167347266379:=Nat
def tw9796372362464813968:=Nat
def tw9942932709151846193:=Nat
end PySem.W.Fast
open PySem PySem.W PyProof.Rows
set_option maxRecDepth 100000 in
set_option maxHeartbeats 0 in
theorem PySem.Challenge.cw_mustmeet_k76_whole_pair_by_pair_holds : PySem.Challenge.rw_mustmeet_k76_whole_pair_by_pair.Holds := by
 w_on;o_law;k_head;(case hw=>w_witness2)
 k_fill
 refine My.walk (l:=PySem.Challenge.rw_mustmeet_k76_whole_pair_by_pair) rfl rfl (fun w h Y=>PySem.W.kIn_of Y) ?F
 case F=>
  intro w mg fa h KX G hmg
  refine' My.all_mk KX G hmg (My.dn ?a0 ?l0 ?c0 ?k0) (My.dn ?a1 ?l1 ?c1 ?k1) (My.dn ?a2 ?l2 ?c2 ?k2) (My.dn ?a3 ?l3 ?c3 ?k3) (My.dn ?a4 ?l4 ?c4 ?k4) (My.dn ?a5 ?l5 ?c5 ?k5) (My.dn ?a6 ?l6 ?c6 ?k6) (My.dn ?a7 ?l7 ?c7 ?k7) (My.dn ?a8 ?l8 ?c8 ?k8) (My.dn ?a9 ?l9 ?c9 ?k9) (My.dn ?a10 ?l10 ?c10 ?k10) (My.dn ?a11 ?l11 ?c11 ?k11) (My.dn ?a12 ?l12 ?c12 ?k12) (My.dn ?a13 ?l13 ?c13 ?k13) (My.dn ?a14 ?l14 ?c14 ?k14) (My.dn ?a15 ?l15 ?c15 ?k15) (My.dn ?a16 ?l16 ?c16 ?k16) (My.dn ?a17 ?l17 ?c17 ?k17) (My.dn ?a18 ?l18 ?c18 ?k18) (My.dn ?a19 ?l19 ?c19 ?k19) (My.dn ?a20 ?l20 ?c20 ?k20) (My.dn ?a21 ?l21 ?c21 ?k21) (My.dn ?a22 ?l22 ?c22 ?k22) (My.dn ?a23 ?l23 ?c23 ?k23) (My.dn ?a24 ?l24 ?c24 ?k24) (My.dn ?a25 ?l25 ?c25 ?k25) (My.dn ?a26 ?l26 ?c26 ?k26) (My.dn ?a27 ?l27 ?c27 ?k27) (My.dn ?a28 ?l28 ?c28 ?k28) (My.dn ?a29 ?l29 ?c29 ?k29) (My.dn ?a30 ?l30 ?c30 ?k30) (My.dn ?a31 ?l31 ?c31 ?k31) (My.dn ?a32 ?l32 ?c32 ?k32) (My.dn ?a33 ?l33 ?c33 ?k33) (My.dn ?a34 ?l34 ?c34 ?k34) (My.dn ?a35 ?l35 ?c35 ?k35) (My.dn ?a36 ?l36 ?c36 ?k36) (My.dn ?a37 ?l37 ?c37 ?k37) (My.dn ?a38 ?l38 ?c38 ?k38) (My.dn ?a39 ?l39 ?c39 ?k39) (My.dn ?a40 ?l40 ?c40 ?k40) (My.dn ?a41 ?l41 ?c41 ?k41) (My.dn ?a42 ?l42 ?c42 ?k42) (My.dn ?a43 ?l43 ?c43 ?k43) (My.dn ?a44 ?l44 ?c44 ?k44) (My.dn ?a45 ?l45 ?c45 ?k45) (My.dn ?a46 ?l46 ?c46 ?k46) (My.dn ?a47 ?l47 ?c47 ?k47) (My.dn ?a48 ?l48 ?c48 ?k48) (My.dn ?a49 ?l49 ?c49 ?k49) (My.dn ?a50 ?l50 ?c50 ?k50) (My.dn ?a51 ?l51 ?c51 ?k51) ?q_Seen ?pg_Seen ?hd_Seen ?po_Seen ?sa_Seen ?n_Seen_strand ?n_Seen_way ?n_Seen_place ?q_Way ?pg_Way ?hd_Way ?po_Way ?sa_Way ?n_Way_size ?n_Way_root_size ?n_Way_leads ?n_Way_onward ?n_Way_backward ?mk_Way ?qi_Way ?fi_Way ?kc_Way ?li_Way ?ci_Way ?ki_Way ?mk_Seen ?qi_Seen ?fi_Seen ?kc_Seen ?li_Seen ?ci_Seen ?ki_Seen ?z_enumerate ?z_int ?z_len ?z_list ?z_max ?z_min ?z_range ?z_reversed ?z_sorted ?z_str ?z_tuple
  case a0|l0|c0|k0|a1|l1|c1|k1|a2|l2|c2|k2|a3|l3|c3|k3|a4|l4|c4|k4|a5|l5|c5|k5|a6|l6|c6|k6|a7|l7|c7|k7|a8|l8|c8|k8|a9|l9|c9|k9|a10|l10|c10|k10|a11|l11|c11|k11|a12|l12|c12|k12|a13|l13|c13|k13|a14|l14|c14|k14|a15|l15|c15|k15|a16|l16|c16|k16|a17|l17|c17|k17|a18|l18|c18|k18|a19|l19|c19|k19|a20|l20|c20|k20|a21|l21|c21|k21|a22|l22|c22|k22|a23|l23|c23|k23|a24|l24|c24|k24|a25|l25|c25|k25|a26|l26|c26|k26|a27|l27|c27|k27|a28|l28|c28|k28|a29|l29|c29|k29|a30|l30|c30|k30|a31|l31|c31|k31|a32|l32|c32|k32|a33|l33|c33|k33|a34|l34|c34|k34|a35|l35|c35|k35|a36|l36|c36|k36|a37|l37|c37|k37|a38|l38|c38|k38|a39|l39|c39|k39|a40|l40|c40|k40|a41|l41|c41|k41|a42|l42|c42|k42|a43|l43|c43|k43|a44|l44|c44|k44|a45|l45|c45|k45|a46|l46|c46|k46|a47|l47|c47|k47|a48|l48|c48|k48|a49|l49|c49|k49|a50|l50|c50|k50|a51|l51|c51|k51|q_Seen|pg_Seen|hd_Seen|po_Seen|sa_Seen|n_Seen_strand|n_Seen_way|n_Seen_place|q_Way|pg_Way|hd_Way|po_Way|sa_Way|n_Way_size|n_Way_root_size|n_Way_leads|n_Way_onward|n_Way_backward|mk_Way|qi_Way|fi_Way|kc_Way|li_Way|ci_Way|ki_Way|mk_Seen|qi_Seen|fi_Seen|kc_Seen|li_Seen|ci_Seen|ki_Seen|z_enumerate|z_int|z_len|z_list|z_max|z_min|z_range|z_reversed|z_sorted|z_str|z_tuple=>k_is
