import PyProof.Rows.All
import Wide.All
import OpenK.AllK
import Wide.FinOn
import Lean
import PyProof.EqAt
import PyProof.EqKinds
import PyProof.TupleCall
import PySem.Challenge.RW_mustmeet_k28_least_numbers
set_option Elab.async false
set_option linter.all false
set_option maxRecDepth 100000
open List renaming getElem?_eq_getElem→Kw,getElem?_eq_some_iff→Kx,length_map→UX,length_append→UY,mem_singleton→UZ,length_pos_iff→U0,map_append→WC,size_toArray→WD,idxOf_lt_length_of_mem→WE,getD_eq_getElem?_getD→Y3,mem_cons_of_mem→Y4,mem_cons→Y5,not_mem_nil→Zw,mem_of_getElem?→Zx,mem_cons_self→Zy,mem_append→Zz,getElem?_map→ZA,length_take→ZD,map_cons→ZJ,length_drop→ZL,mem_map→ZN,take_of_length_le→ZO,length_cons→ZQ,filter_cons_of_neg→ZR,mem_append_right→ZS,flatMap_cons→ZT,mem_flatMap→ZU,getElem_mem→ZV,mem_filter→ZX,length_reverse→Z0,flatMap_append→Z1,append_nil→Z3,filter_cons_of_pos→Z4,nodup_cons→Z6,take_append_drop→Qaa,getElem?_append_left→Qab,mem_range→Qac,take_length→Qad,lookup_cons→Qae,map_map→Qaf,range_succ→Qag,drop_eq_getElem_cons→Qah,pairwise_map→Qao,nodup_append→Qap,getElem?_append_right→Qaq,append_assoc→Qat,getElem_idxOf→Qav,filter_append→Qaw,pairwise_append→Qaz,length_eq_zero_iff→Qa0,flatMap_singleton→Qa2,drop_of_length_le→Qa3,getElem?_drop→Qa6,mem_of_mem_take→Qa8,mem_append_left→Qa9,sum_cons→Qbd,any_cons→Qbe,pairwise_cons→Qbg,getElem?_eq_none→Qbi,pairwise_iff_getElem→Qbj,find?_cons→Qbk,flatten_cons→Qbu,mem_of_mem_drop→Qbv,map_reverse→Qbz,all_eq_true→Qb0,getLast?_eq_getElem?→Qb2,map_congr_left→Qb5,getElem_of_mem→Qb6,getElem?_take→Qce,pairwise_singleton→Qcf,eraseIdx_cons_succ→Qcg,lt_irrefl→Qci,length_range→Qcj,drop_eq_nil_of_le→Qck,getElem?_reverse→Qco,map_take→Qcs,eq_nil_of_length_eq_zero→Qcu,forIn_cons→Qcv,foldl_cons→Qcw,take_add_one→Qc6,idxOf_append→Qc7,filter_congr→Qc8,map_drop→Qdb,mem_reverse→Qde,getElem_map→Qdf,head?_eq_getElem?→Qdl,sum_append→Qdo,filter_map→Qdp,length_filter_le→Qdr,cons_lt_cons_iff→Qds,nodup_nil→Qdv,dropLast_concat→Qdw,replicate_succ→Qdx,filterMap_cons→Qdy,ext_getElem?→Qd6,any_eq_false→Qd7,nodup_range→Qeb,flatMap_nil→Qec,map_id→Qee,of_mem_zip→Qeh,length_nil→Qei
open PySem.Heap renaming get?_push_of_some→MD,lt_size→ZC,get?_push_size→ZF,get?_update_other→Z_,get?_update_self→Qax,size_push→Qb8
open Nat renaming le_refl→Q3,zero_le→Y6,ne_of_lt→ZH,lt_of_lt_of_le→ZM,le_trans→ZW,lt_of_le_of_lt→ZZ,le_of_lt→Z5,lt_irrefl→kb,min_eq_left→Qal,lt_succ_self→Qam,min_eq_right→Qas,succ_le_succ→Qay,lt_succ_of_lt→Qba,mul_comm→Qbb,le_succ→Qbc,mod_eq_of_lt→Qbf,lt_or_gt_of_ne→Qbn,max_eq_left→Qbr,max_eq_right→Qby,not_lt_zero→Qb9,div_add_mod→Qca,pos_of_ne_zero→Qcc,mod_lt→Qcd,succ_mul→Qch,zero_add→Qcx,lt_trans→Qcy,lt_asymm→Qcz,le_succ_of_le→Qc5,zero_lt_succ→Qdc,succ_ne_self→Qdd,ne_of_gt→Qdk,mod_add_div→Qdn,div_lt_iff_lt_mul→Qdq,mul_le_mul_right→Qdu,mod_eq_sub_mod→Qd2,sub_zero→Qd4,add_comm→Qd5,le_antisymm→Qef,div_le_self→Qeg
open Int renaming toNat_natCast→WB,emod_eq_of_lt→ZP,natCast_add→Z7,emod_lt_of_pos→Qak,emod_nonneg→Qar,zero_add→Qa7,ofNat_lt→Qbo,add_zero→Qbp,add_emod_right→Qbq,emod_emod_of_dvd→Qbw,add_mul_emod_self_left→Qbx,emod_add_emod→Qcl,natCast_emod→Qcq,natCast_ediv→Qcr,sub_zero→Qc0,sub_emod→Qc1,natCast_nonneg→Qc3,emod_add_mul_ediv→Qdt,dvd_refl→Qd9,natCast_mul→Qej
open PySem renaming boot_len→WG,mem_of_lookup→Qb3
open PySem.F renaming plainAttrs_str→ZE,plainAttrs_list→ZK,type_list_append→Z8,slot_list_append→Z9,type_str_index→Qai,slot_str_index→Qaj,plain_max_loop→Qa1,called_set→Qa5,type_str_join→Qbs,slot_str_join→Qbt,type_list_pop→Qcm,slot_list_pop→Qcn,type_str_islower→Qc9,slot_str_islower→Qda,type_str_lower→Qdg,slot_str_lower→Qdh,entry_max_loop→Qdi
open Option.some renaming inj→ZG
open Bool renaming false_ne_true→ZI,and_eq_true→Z2,false_eq_true→Qbh,eq_iff_iff→Qcb,or_false→Qct,not_true→Qd0,false_or→Qd1,decide_and→Qek
open PySem.W renaming mg_none_of→ZY,kia_one→Qau,kasC_bind→Qbl,callWith_K→Qc2,kasC_pure→Qc4,mg_of→Qdz,kasC_cons→Qd3,kasC_get→Qea
open PyProof.Rows renaming callWith_type1→Qan,slot_tuple_getitem→Qa4
open Array renaming length_toList→Qbm,toList_inj→Qb1,getElem?_toList→Qcp
open PyProof.Rows.F renaming plain_set_update_loop→Qb4
open List.Pairwise renaming imp_of_mem→Qb7,imp→Qd8
open Option renaming map_eq_some_iff→Qdj,map_some→Qdm
open PySem.Heap.SameBut renaming update→Qed
namespace L2
open PySem PySem.Spec PyProof.Rows
abbrev Key:=Sum Int Str
noncomputable def qP:Key->Value->Bool
 | .inl k,v=>Value.isInt k v
 | .inr x,v=>Value.isStrOf x v
noncomputable def R3 (w:World):Key->Int
 | .inl k=>hashInt k
 | .inr x=>hashStr w x
theorem b7: ∀{k:Key} {v:Value},qP k v=true->(∃i t,k=Sum.inl i/\v=Value.int i t)\/(∃x t,k=Sum.inr x/\v=Value.str x t)
 | .inl i,v,h=>by
  obtain ⟨t,e⟩:=Value.isInt_shape (k:=i) (v:=v) h
  exact .inl ⟨i,t,rfl,e⟩
 | .inr x,v,h=>by
  obtain ⟨t,e⟩:=Value.isStrOf_shape (x:=x) (v:=v) h
  exact .inr ⟨x,t,rfl,e⟩
theorem A6 (i:Int) (t:Tok):qP (.inl i) (.int i t)=true:=by simp[qP,Value.isInt]
theorem A7 (x:Str) (t:Tok):qP (.inr x) (.str x t)=true:=by simp[qP,Value.isStrOf]
theorem JS (a b:Int):decide ((Sum.inl a:Key)=Sum.inl b)=(a==b):=by
 by_cases e:a=b
 ·subst e;simp
 ·have h: ¬(Sum.inl a:Key)=Sum.inl b:=fun q=>e (Sum.inl.inj q)
  rw[decide_eq_false h]
  exact (beq_eq_false_iff_ne.mpr e).symm
theorem JT (a b:Str):decide ((Sum.inr a:Key)=Sum.inr b)=decide (a=b):=by
 by_cases e:a=b
 ·subst e;simp
 ·have h: ¬(Sum.inr a:Key)=Sum.inr b:=fun q=>e (Sum.inr.inj q)
  rw[decide_eq_false h,decide_eq_false e]
theorem JU (a:Int) (b:Str):decide ((Sum.inl a:Key)=Sum.inr b)=false:=decide_eq_false (fun q=>nomatch q)
theorem JV (a:Str) (b:Int):decide ((Sum.inr a:Key)=Sum.inl b)=false:=decide_eq_false (fun q=>nomatch q)
noncomputable def cB (prog:Program) (w:World):PySem.KeyKind prog w Key where
 is:=qP
 hash:=R3 w
 inj:=fun v a b ha hb=>by
  rcases b7 ha with ⟨i,t,rfl,rfl⟩ | ⟨x,t,rfl,rfl⟩
  ·rcases b7 hb with ⟨j,u,rfl,e⟩ | ⟨y,u,rfl,e⟩
   ·injection e with e1 _;rw[e1]
   ·exact nomatch e
  ·rcases b7 hb with ⟨j,u,rfl,e⟩ | ⟨y,u,rfl,e⟩
   ·exact nomatch e
   ·injection e with e1 _;rw[e1]
 byValue:=fun k v h=>by
  rcases b7 h with ⟨i,t,rfl,rfl⟩ | ⟨x,t,rfl,rfl⟩<;>rfl
 pyHash:=fun hv h=>by
  rcases b7 hv with ⟨i,t,rfl,rfl⟩ | ⟨x,t,rfl,rfl⟩
  ·exact wpAny_pyHash_int h
  ·exact wpAny_pyHash_str h
 eqBool:=fun hu hv h=>by
  rcases b7 hu with ⟨i,t,rfl,rfl⟩ | ⟨x,t,rfl,rfl⟩
  ·rcases b7 hv with ⟨j,u,rfl,rfl⟩ | ⟨y,u,rfl,rfl⟩
   ·rw[JS]at h;exact wpAny_eqBool_int h
   ·rw[JU]at h;exact SeqAt.EqAt.int_str i t y u _ _ _ _ h
  ·rcases b7 hv with ⟨j,u,rfl,rfl⟩ | ⟨y,u,rfl,rfl⟩
   ·rw[JV]at h;exact SeqAt.EqAt.str_int x t j u _ _ _ _ h
   ·rw[JT]at h;exact wpAny_eqBool_str h
 «strs» :=fun k x t v h=>by
  rcases b7 h with ⟨i,u,rfl,e⟩ | ⟨y,u,rfl,e⟩
  ·exact nomatch e
  ·injection e with e1 _
   subst e1
   cases v<;>rfl
theorem vd (prog:Program) (w:World) (i:Int) (t:Tok):(cB prog w).is (.inl i) (.int i t)=true:=A6 i t
theorem ve (prog:Program) (w:World) (x:Str) (t:Tok):(cB prog w).is (.inr x) (.str x t)=true:=A7 x t
inductive V where
 | ft | bl (b:Bool) | int (i:Int) | str (x:Str) | zC (b:Array UInt8) | JW (b:UInt64) | ref (a:Addr) | ty (n:String)
 deriving DecidableEq
def RelV:V->Value->Prop
 | .ft,u=>u=Value.none
 | .bl b,u=>u=Value.bool b
 | .int i,u=> ∃t,u=Value.int i t
 | .str x,u=> ∃t,u=Value.str x t
 | .zC b,u=> ∃t,u=Value.bytes b t
 | .JW b,u=> ∃t,u=Value.float b t
 | .ref a,u=>u=Value.ref a
 | .ty n,u=>u=Value.type n
abbrev Vals:List V->List Value->Prop:=Paired RelV
theorem Vals.length {xs:List V} {us:List Value} (r:Vals xs us):xs.length=us.length:=Paired.length r
theorem Vals.get: ∀{xs:List V} {us:List Value} {i:Nat} {x:V},Vals xs us->xs[i]? =some x-> ∃u,us[i]? =some u/\RelV x u
 | _,_,_,_, .nil,e=>by simp at e
 | _,_,0,_, .cons r _,e=>by simp at e;subst e;exact ⟨_,rfl,r⟩
 | _,_,i+1,x, .cons _ t,e=>by
  obtain ⟨u,h1,h2⟩:=Vals.get (i:=i) (x:=x) t (by simpa using e)
  exact ⟨u,by simpa using h1,h2⟩
theorem Vals.set {x:V} {u:Value} (r:RelV x u): ∀{xs:List V} {us:List Value} (i:Nat),Vals xs us->Vals (xs.set i x) (us.set i u)
 | _,_,_, .nil=> .nil
 | _,_,0, .cons _ t=> .cons r t
 | _,_,i+1, .cons q t=> .cons q (Vals.set r i t)
theorem Vals.append: ∀{xs ys:List V} {us ws:List Value},Vals xs us->Vals ys ws->Vals (xs++ys) (us++ws)
 | _,_,_,_, .nil,s=>s
 | _,_,_,_, .cons r t,s=> .cons r (Vals.append t s)
theorem Vals.take: ∀{xs:List V} {us:List Value} (n:Nat),Vals xs us->Vals (xs.take n) (us.take n)
 | _,_,0,_=> .nil
 | _,_,_+1, .nil=> .nil
 | _,_,n+1, .cons r t=> .cons r (Vals.take n t)
theorem Vals.drop: ∀{xs:List V} {us:List Value} (n:Nat),Vals xs us->Vals (xs.drop n) (us.drop n)
 | _,_,0,r=>r
 | _,_,_+1, .nil=> .nil
 | _,_,n+1, .cons _ t=>Vals.drop n t
def lS:Option V->Option Value->Prop
 | some v,some u=>RelV v u
 | none,none=>True
 | _,_=>False
def KV {κ:Type}:List (κ×V)->List (κ×Value)->Prop:=Paired fun (p:κ×V) (q:κ×Value)=>p.1=q.1/\RelV p.2 q.2
noncomputable def kV:Key->V
 | .inl i=> .int i
 | .inr x=> .str x
inductive HO where
  | lst (xs:List V)
  | tup (xs:List V)
  | dK (aP:List (Key×V)) | dT (aP:List (List Key×V))
  | set (S:Int->Bool) (n:Nat)
  | ins (C dx:Addr) (fs:List (Str×V))
  | own (x:Addr)
  | xd (fs:List (Str×V))
  | met (f x:Addr)
  | R4 (lo hi:Int)
  | zD (o:Obj) (u:HO)
  | JX (ps:Array Value)
  | ext (φ:Heap->Prop)
abbrev Hp:=Addr->Option HO
noncomputable def upd (H:Hp) (a:Addr) (o:HO):Hp:=fun b=>if b=a then some o else H b
theorem ah {H:Hp} {a:Addr} {o:HO}:upd H a o a=some o:=by unfold upd;rw[if_pos rfl]
theorem ay {H:Hp} {a b:Addr} {o:HO} (h:b≠a):upd H a o b=H b:=by unfold upd;rw[if_neg h]
theorem Oh {H:Hp} {a b:Addr} {o u:HO} (h:H a=some o) (h':H b=some u) (d:o≠u):a≠b:=by
 intro e;subst e;rw[h]at h';exact d (ZG h')
theorem ar {H:Hp} {a b:Addr} {o:HO} (h:H a=some o) (h':H b=none):a≠b:=by
 intro e;subst e;rw[h]at h';cases h'
section
variable (P:Program) (w:World)
def bZ (H:Hp) (h:Heap) (a:Addr):HO->Prop
 | .lst xs=>xs.length<=sizeLine/\ ∃(aJ:List Value) (n:Nat),Vals xs aJ/\h.get? a=some { cls:= .type "list",data:= .seq aJ.toArray n }
 | .tup xs=>xs.length<=sizeLine/\ ∃aJ:List Value,Vals xs aJ/\IsTup h a aJ.toArray
 | .dK aP=>aP.length<=sizeLine/\(a==sysModules)=false/\ ∃vs,KV aP vs/\h.DictOf (cB P w) a vs
 | .dT aP=>aP.length<=sizeLine/\(a==sysModules)=false/\ ∃xs:List (List Key×Addr×Value),
   Paired (fun (p:List Key×V) (q:List Key×Addr×Value)=>p.1=q.1/\H q.2.1=some (.tup (p.1.map kV))/\RelV p.2 q.2.2) aP xs/\
   ∃o es ep,h.get? a=some o/\o.ExactDict/\o.data= .dict es ep/\es.toList=xs.map (entryOfKey (tupleKind (cB P w)))/\(xs.map (·.1)).Nodup
 | .set S n=>h.SetOf (intKind P w) a S n
 | .ins C dx fs=>H dx=some (.own a)/\fs.length<=1000/\dx≠a/\h.get? a=some (PySem.W.instObj C dx)/\
   ∃mA,h.Ns1 dx mA/\(∀f,lS (fs.lookup f) (mA f))/\PySem.Within mA (fs.map (·.1))
 | .own _=> ∃o,h.get? a=some o
 | .xd fs=> ∃mA,h.Ns1 a mA/\ ∀f,lS (fs.lookup f) (mA f)
 | .R4 lo hi=> ∃t u v,h.get? a=some { cls:= .type "range",data:= .fields #[.int lo t, .int hi u, .int 1 v] }
 | .zD o u=>h.get? a=some o/\bZ H h a u
 | .JX ps=>h.get? a=some { cls:= .none,data:= .fields ps }
 | .met f x=>h.get? a=some (PySem.W.methodObj (.ref f) (.ref x))
 | .ext φ=>φ h/\(∃o,h.get? a=some o)/\ ∀h1 h2:Heap,φ h1->(∀o,h1.get? a=some o->h2.get? a=some o)->φ h2
def j6 (H:Hp) (h:Heap):Prop:= ∀a o,H a=some o->bZ P w H h a o
end
section
variable {P:Program} {w:World} {H H':Hp} {h h':Heap} {a:Addr} {o:HO}
theorem bZ.lt (x:bZ P w H h a o):a<h.objs.size:=by
 cases o with
 | lst xs=>obtain ⟨_,_,_,_,e⟩:=x;exact ZC e
 | tup xs=>obtain ⟨_,_,_,p⟩:=x;exact p.lt
 | dK aP=>obtain ⟨_,_,_,_,o,_,_,e,_⟩:=x;exact ZC e
 | dT aP=>obtain ⟨_,_,_,_,o,_,_,e,_⟩:=x;exact ZC e
 | set S n=>obtain ⟨o,_,_,_,e,_⟩:=x;exact ZC e
 | ins C dx fs=>obtain ⟨_,_,_,e,_⟩:=x;exact ZC e
 | own y=>obtain ⟨_,e⟩:=x;exact ZC e
 | xd fs=>obtain ⟨_,⟨_,_,_,e,_⟩,_⟩:=x;exact ZC e
 | R4 lo hi=>obtain ⟨_,_,_,e⟩:=x;exact ZC e
 | zD ob u=>obtain ⟨e,_⟩:=x;exact ZC e
 | JX ps=>exact ZC (show h.get? a=some _ from x)
 | met f y=>exact ZC (show h.get? a=some _ from x)
 | ext φ=>obtain ⟨_,⟨_,e⟩,_⟩:=x;exact ZC e
theorem Paired.JY {α β:Type} {F G:α->β->Prop}: ∀{l₁:List α} {l₂:List β},Paired F l₁ l₂->(∀a b,F a b->G a b)->Paired G l₁ l₂
 | _,_, .nil,_=> .nil
 | _,_, .cons r t,f=> .cons (f _ _ r) (Paired.JY t f)
theorem bZ.vf (x:bZ P w H h a o) (k: ∀b u,(b=a\/H b=some (.own a))->h.get? b=some u->h'.get? b=some u)
  (ho: ∀b,H b=some (.own a)->H' b=some (.own a)) (ht: ∀b xs,H b=some (.tup xs)->H' b=some (.tup xs)):bZ P w H' h' a o:=by
 induction o with
 | lst xs=>obtain ⟨z,aJ,n,r,e⟩:=x;exact ⟨z,aJ,n,r,k _ _ (.inl rfl) e⟩
 | tup xs=>obtain ⟨z,aJ,r,ob,e,c⟩:=x;exact ⟨z,aJ,r,ob,k _ _ (.inl rfl) e,c⟩
 | dK aP=>obtain ⟨z,y,vs,r,ob,es,ep,e,c⟩:=x;exact ⟨z,y,vs,r,ob,es,ep,k _ _ (.inl rfl) e,c⟩
 | dT aP=>
  obtain ⟨z,y,xs,r,ob,es,ep,e,c⟩:=x
  exact ⟨z,y,xs,Paired.JY r fun p q z=>⟨z.1,ht _ _ z.2.1,z.2.2⟩,ob,es,ep,k _ _ (.inl rfl) e,c⟩
 | set S n=>obtain ⟨ob,es,ep,t,e,c⟩:=x;exact ⟨ob,es,ep,t,k _ _ (.inl rfl) e,c⟩
 | ins C dx fs=>
  obtain ⟨d,z,ne,e,mA,⟨od,es,ep,e2,c⟩,r⟩:=x
  exact ⟨ho _ d,z,ne,k _ _ (.inl rfl) e,mA,⟨od,es,ep,k _ _ (.inr d) e2,c⟩,r⟩
 | own y=>obtain ⟨ob,e⟩:=x;exact ⟨ob,k _ _ (.inl rfl) e⟩
 | xd fs=>obtain ⟨mA,⟨od,es,ep,e,c⟩,r⟩:=x;exact ⟨mA,⟨od,es,ep,k _ _ (.inl rfl) e,c⟩,r⟩
 | R4 lo hi=>obtain ⟨t,u,v,e⟩:=x;exact ⟨t,u,v,k _ _ (.inl rfl) e⟩
 | zD ob u ih=>obtain ⟨e,q⟩:=x;exact ⟨k _ _ (.inl rfl) e,ih q⟩
 | JX ps=>
  have e:h.get? a=some { cls:= .none,data:= .fields ps }:=x
  show h'.get? a=some { cls:= .none,data:= .fields ps }
  exact k a _ (.inl rfl) e
 | met f y=>
  have e:h.get? a=some (PySem.W.methodObj (.ref f) (.ref y)):=x
  show h'.get? a=some (PySem.W.methodObj (.ref f) (.ref y))
  exact k a _ (.inl rfl) e
 | ext φ=>obtain ⟨p,⟨o,e⟩,st⟩:=x;exact ⟨st _ _ p fun o q=>k _ _ (.inl rfl) q,⟨o,k _ _ (.inl rfl) e⟩,st⟩
theorem j6.lt (x:j6 P w H h) (e:H a=some o):a<h.objs.size:=(x a o e).lt
theorem j6.fresh (x:j6 P w H h) (e:h.objs.size<=a):H a=none:=by
 cases q:H a with
 | none=>rfl
 | some u=>exact absurd (ZM (x.lt q) e) (kb _)
theorem j6.kept (x:j6 P w H h) (k: ∀b u,h.get? b=some u->h'.get? b=some u):j6 P w H h':=fun a o e=>
 (x a o e).vf (fun b u _ q=>k b u q) (fun _ q=>q) fun _ _ q=>q
theorem j6.laid (x:j6 P w H h) (k: ∀b u,h.get? b=some u->h'.get? b=some u) (hp:h.objs.size<=a) (new:bZ P w (upd H a o) h' a o):j6 P w (upd H a o) h':=fun b u e=>by
 have hn:=x.fresh hp
 by_cases hb:b=a
 ·subst hb;rw[ah]at e;cases e;exact new
 ·rw[ay hb]at e
  exact (x b u e).vf (fun c v _ q=>k c v q) (fun c q=>by rw[ay (ar q hn)];exact q) fun c xs q=>by rw[ay (ar q hn)];exact q
end
def Rd (H:Hp) (a:Addr) (u:HO):Prop:=H a=some u\/ ∃o,H a=some (.zD o u)
theorem Rd.ok {P:Program} {w:World} {H:Hp} {h:Heap} {a:Addr} {u:HO} (r:Rd H a u) (x:j6 P w H h):bZ P w H h a u:=by
 rcases r with r | ⟨o,r⟩
 ·exact x a u r
 ·obtain ⟨_,q⟩:=x a _ r
  exact q
def Oi:Option HO->Prop
 | some (.lst _)=>True
 | some (.dK _)=>True
 | some (.dT _)=>True
 | some (.set _ _)=>True
 | some (.ins _ _ _)=>True
 | some (.ext _)=>True
 | _=>False
section
variable {P:Program} {w:World} {H:Hp} {h h':Heap} {x e:Addr} {o':HO}
theorem j6.write (ok:j6 P w H h) (mu:Oi (H x)) (he:e=x\/H e=some (.own x)) (k: ∀b u,b≠e->h.get? b=some u->h'.get? b=some u) (Mu: ∃u,h'.get? e=some u)
  (new:bZ P w (upd H x o') h' x o'):j6 P w (upd H x o') h':=fun b u q=>by
 have Oj: ∀c y,H c=some (.own y)->c≠x:=fun c y r z=>by subst z;rw[r]at mu;exact mu
 have R5: ∀c xs,H c=some (.tup xs)->c≠x:=fun c xs r z=>by subst z;rw[r]at mu;exact mu
 by_cases hb:b=x
 ·subst hb;rw[ah]at q;cases q;exact new
 ·rw[ay hb]at q
  by_cases Ge:b=e
  ·have q':H b=some (.own x):=by
    rcases he with z | z
    ·exact absurd (Ge.trans z) hb
    ·rw[Ge];exact z
   rw[q]at q';cases q'
   obtain ⟨v,hv⟩:=Mu
   exact ⟨v,by rw[Ge];exact hv⟩
  ·refine (ok b u q).vf (fun c v hc r=>k c v ?_ r) (fun c r=>by rw[ay (Oj c b r)];exact r) fun c xs r=>by rw[ay (R5 c xs r)];exact r
   rcases hc with rfl | hc
   ·exact Ge
   ·rintro rfl
    rcases he with z | z
    ·exact Oj c b hc z
    ·rw[hc]at z;cases z;exact hb rfl
end
structure Un (fs ex:List Addr) (H H':Hp) (h h':Heap):Prop where
 keep: ∀b o,h.get? b=some o->H b=none->b∉fs->b∉ex->h'.get? b=some o
 slot: ∀b o,h.get? b=some o->H b=none->b∈fs->b∉ex-> ∃sl,h'.get? b=some { o with slots:=sl }
 free: ∀b o,h.get? b=some o->H b=none->b∉ex->H' b=none
 there: ∀b o,h.get? b=some o->b∉ex-> ∃o',h'.get? b=some o'
 lT: ∀b xs,H b=some (.tup xs)->H' b=some (.tup xs)
 oj: ∀b o u,H b=some (.zD o u)->H' b=some (.zD o u)
 sN: ∀b ps,H b=some (.JX ps)-> ∃more,H' b=some (.JX (ps++more))
section
variable {fs Wg ex YX:List Addr} {H H1 H2:Hp} {h h1 h2 h':Heap} {a x e:Addr} {o:HO}
theorem Un.any (u:Un fs ex H H1 h h1) {b:Addr} {ob:Obj} (q:h.get? b=some ob) (n:H b=none) (hx:b∉ex): ∃sl,h1.get? b=some { ob with slots:=sl }:=by
 by_cases hb:b∈fs
 ·exact u.slot b ob q n hb hx
 ·exact ⟨ob.slots,u.keep b ob q n hb hx⟩
theorem Un.kept (k: ∀b u,h.get? b=some u->h'.get? b=some u):Un fs ex H H h h':=
 ⟨fun b ob q _ _ _=>k b ob q,fun b ob q _ _ _=>⟨ob.slots,k b ob q⟩,fun _ _ _ n _=>n,fun b ob q _=>⟨ob,k b ob q⟩,fun _ _ q=>q,fun _ _ _ q=>q,fun _ ps q=>⟨#[],by rw[q];simp⟩⟩
theorem Un.refl:Un fs ex H H h h:=Un.kept fun _ _ q=>q
theorem Un.laid (k: ∀b u,h.get? b=some u->h'.get? b=some u) (hp:h.objs.size<=a) (hn:H a=none):Un fs ex H (upd H a o) h h' where
 keep:=fun b u q _ _ _=>k b u q
 slot:=fun b u q _ _ _=>⟨u.slots,k b u q⟩
 free:=fun b u q n _=>by rw[ay (ZH (ZM (ZC q) hp))];exact n
 there:=fun b u q _=>⟨u,k b u q⟩
 lT:=fun b xs q=>by rw[ay (ar q hn)];exact q
 oj:=fun b u xs q=>by rw[ay (ar q hn)];exact q
 sN:=fun b ps q=>⟨#[],by rw[ay (ar q hn),q];simp⟩
theorem Un.write (mu:Oi (H x)) (he:e=x\/H e=some (.own x)) (k: ∀b u,b≠e->h.get? b=some u->h'.get? b=some u) (Mu: ∃u,h'.get? e=some u):Un fs ex H (upd H x o) h h':=by
 have hx: ∀b,H b=none->b≠x:=fun b n z=>by subst z;rw[n]at mu;exact mu
 have hb: ∀b,H b=none->b≠e:=fun b n z=>by
  subst z
  rcases he with r | r
  ·exact hx b n r
  ·rw[n]at r;cases r
 have hm: ∀b u,H b=some u-> ¬Oi (some u)->b≠x:=fun b u q nm z=>by subst z;rw[q]at mu;exact nm mu
 refine ⟨fun b u q n _ _=>k b u (hb b n) q,fun b u q n _ _=>⟨u.slots,k b u (hb b n) q⟩,fun b u q n _=>by rw[ay (hx b n)];exact n,fun b u q _=>?_,
  fun b xs q=>by rw[ay (hm b _ q fun z=>z)];exact q,fun b u xs q=>by rw[ay (hm b _ q fun z=>z)];exact q,fun b ps q=>⟨#[],by rw[ay (hm b _ q fun z=>z),q];simp⟩⟩
 by_cases Ge:b=e
 ·subst Ge;exact Mu
 ·exact ⟨u,k b u Ge q⟩
end
noncomputable def QR (h:Heap) (H:Hp):List Addr:=(List.range h.objs.size).filter fun a=>(H a).isSome
noncomputable def sO (h:Heap) (H:Hp):Heap:=PySem.W.hideAll h (QR h H)
theorem A8 (h:Heap) (H:Hp):(sO h H).objs.size=h.objs.size:=PySem.W.hideAll_size _ _
theorem CQ {h:Heap} {H:Hp} {b:Addr} {o:Obj} (e:h.get? b=some o) (n:H b=none):(sO h H).get? b=some o:=
 PySem.W.hideAll_get _ e fun hm=>by
  have q:(H b).isSome=true:=(ZX.mp hm).2
  rw[n]at q;simp at q
theorem GA {h:Heap} {H:Hp} {b:Addr} {o:Obj} (e:(sO h H).get? b=some o):h.get? b=some o/\H b=none:=by
 have e':h.get? b=some o:=PySem.W.of_hideAll (QR h H) e
 refine ⟨e',?_⟩
 cases q:H b with
 | none=>rfl
 | some x=>
  have hm:b∈QR h H:=ZX.mpr ⟨Qac.mpr (ZC e'),by simp[q]⟩
  have z:(sO h H).get? b=none:=PySem.W.hideAll_none (QR h H) hm
  rw[z]at e;cases e
structure Mod (K:PySem.W.Frag) (mg:Str->Option Value) (base:Heap):Prop where
 Mv:K.In base
 glob:base.Ns mainGlobals mg
 blt: ∃mb,base.Ns builtinsNs mb/\ ∀x:Str,x≠"__name__"->mb x=bootBuiltins x
 nolimit:base.NoLimit
structure Cx where
 prog:Program
 w:World
 K:PySem.W.Frag
 mg:Str->Option Value
 base:Heap
 A:Around
 N:List Str
 s₀:Shared
 H₀:Hp
 env:Env
 outer:List Env
 stack:List Env
 ex:List Addr
 fn:Str->Bool
 calm:Bool
 pn:List (Addr×Obj)
 xe:Value->Shared->Prop
noncomputable def zE (l:List Env):List Addr:=l.filterMap (·.frame)
noncomputable abbrev Cx.fs (X:Cx):List Addr:=zE X.outer
def Ol (sc:Scope) (x:Str):Prop:=sc.names.lookup x=some .local\/sc.names.lookup x=some .cell\/sc.names.lookup x=some .free
def Loc (sc:Scope) (x:Str):Prop:=sc.names.lookup x=some .local\/sc.names.lookup x=some .cell
def Look (env:Env) (h:Heap) (m:Str->Option Value) (x:Str) (u:Value):Prop:=
 (env.kindOf x=some .local/\m x=some u)\/((env.kindOf x=some .cell\/env.kindOf x=some .free)/\ ∃c,env.cells.lookup x=some c/\h.IsCell c (some u))
structure Cx.Ok (X:Cx):Prop where
 mod:Mod X.K X.mg X.base
 kind:X.env.scope.kind= .function
 glob:X.env.globals=mainGlobals
 blt:X.env.builtins=builtinsNs
 above:X.s₀.heap.objs.size<=X.env.locals
 inj: ∀x y c,X.env.cells.lookup x=some c->X.env.cells.lookup y=some c->x=y
 has: ∀x,(X.env.kindOf x=some .cell\/X.env.kindOf x=some .free)-> ∃c,X.env.cells.lookup x=some c
 Om: ∀x c,X.fn x=true->X.env.cells.lookup x=some c->X.s₀.heap.objs.size<=c
 hd:X.calm=true->X.A.handled=none
 frames:X.A.frames=some X.stack
 QS:X.stack=X.outer\/(X.stack=X.env::X.outer/\X.env.frame=some X.env.locals)
 UI: ∀b∈X.ex,b≠X.env.locals/\ ∀x c,X.env.cells.lookup x=some c->c≠b
 bs: ∀b o,X.base.get? b=some o->X.s₀.heap.get? b=some o/\X.H₀ b=none
 GB:X.base.objs.size<=X.s₀.heap.objs.size
 CT: ∀b o,X.base.get? b=some o->b∉X.ex
 GC: ∀b∈X.ex,b∉X.fs
 nh:X.s₀.heap.FunFrames X.base X.outer
 JZ: ∀b∈X.fs,X.H₀ b=none
structure Inv (X:Cx) (pins:List (Addr×Obj)) (σ:List (Option V)) (H:Hp) (s:Shared):Prop where
 ok:X.Ok
 os:s.os=X.s₀.os
 bare:AllBare s.gens
 base:Un X.fs X.ex X.H₀ H X.s₀.heap s.heap
 loc: ∃m,s.heap.Ns X.env.locals m/\ ∀(i:Nat) (x:Str) (v:V),X.N[i]? =some x->σ[i]? =some (some v)->Ol X.env.scope x-> ∃u,RelV v u/\Look X.env s.heap m x u
 cell: ∀x c,X.env.cells.lookup x=some c-> ∃v,s.heap.IsCell c v
 free:H X.env.locals=none
 iM: ∀x c,X.env.cells.lookup x=some c->H c=none
 pin: ∀p∈X.pn++pins,s.heap.get? p.1=some p.2/\H p.1=none/\p.1≠X.env.locals/\p.1∉X.fs/\ ∀v,p.2.data≠ .cell v
 bW:j6 X.prog X.w H s.heap
 len:σ.length=X.N.length
section
variable {X:Cx} {pins:List (Addr×Obj)} {σ:List (Option V)} {H H':Hp} {s:Shared} {h':Heap}
theorem Cx.Ok.R6 (ok:X.Ok) {b:Addr} {o:Obj} (e:X.base.get? b=some o):b∉X.fs:=fun hb=>by
 have:=(ok.nh.mem hb).1
 rw[e]at this;cases this
theorem Inv.bs (I:Inv X pins σ H s): ∀b o,X.base.get? b=some o->s.heap.get? b=some o/\H b=none:=fun b o e=>
 ⟨I.base.keep b o (I.ok.bs b o e).1 (I.ok.bs b o e).2 (I.ok.R6 e) (I.ok.CT b o e),I.base.free b o (I.ok.bs b o e).1 (I.ok.bs b o e).2 (I.ok.CT b o e)⟩
theorem Inv.bk (I:Inv X pins σ H s): ∀b o,X.base.get? b=some o->s.heap.get? b=some o:=fun b o e=>(I.bs b o e).1
theorem Inv.mod (I:Inv X pins σ H s):Mod X.K X.mg X.base:=I.ok.mod
theorem Inv.nP (I:Inv X pins σ H s):X.K.In s.heap:=I.ok.mod.Mv.keeps I.bk
theorem Inv.lt (I:Inv X pins σ H s):X.env.locals<s.heap.objs.size:=let ⟨_,hn,_⟩:=I.loc;hn.lt
theorem Inv.sz (I:Inv X pins σ H s):X.s₀.heap.objs.size<=s.heap.objs.size:=ZW I.ok.above (Z5 I.lt)
theorem Inv.J0 (I:Inv X pins σ H s) {a:Addr} (h:s.heap.objs.size<=a):a∉X.fs:=fun hb=>by
 obtain ⟨_,o,ho,_⟩:=I.ok.nh.mem hb
 exact absurd (ZM (ZC ho) (ZW I.sz h)) (kb _)
theorem Inv.J1 (I:Inv X pins σ H s): ∀x c,X.env.cells.lookup x=some c->c≠X.env.locals:=fun x c e z=>by
 obtain ⟨v,o,ho,hd⟩:=I.cell x c e
 obtain ⟨m,⟨o',es,ep,GD,R7,_⟩,_⟩:=I.loc
 rw[z,GD]at ho;cases ho;rw[R7]at hd;cases hd
theorem Inv.nh (I:Inv X pins σ H s):s.heap.FunFrames X.base X.outer:=by
 have all: ∀(l:List Env),(∀b∈zE l,b∈X.fs)->X.s₀.heap.FunFrames X.base l->s.heap.FunFrames X.base l:=by
  intro l
  induction l with
  | nil=>intro _ _;trivial
  | cons env r ih=>
   intro hs hl
   obtain ⟨hk,⟨L,o,hf,hn,ho,hd⟩,hr⟩:=hl
   have hL:L∈X.fs:=hs L (by unfold zE;rw[Qdy,hf];exact Zy)
   obtain ⟨sl,e⟩:=I.base.slot L o ho (I.ok.JZ L hL) hL fun z=>I.ok.GC L z hL
   exact ⟨hk,⟨L,_,hf,hn,e,hd⟩,ih (fun b hb=>hs b (by unfold zE;rw[Qdy,hf];exact Y4 _ hb)) hr⟩
 exact all X.outer (fun _ hb=>hb) I.ok.nh
theorem Inv.stack (I:Inv X pins σ H s):s.heap.FunFrames X.base X.stack:=by
 rcases I.ok.QS with e | ⟨e,hf⟩
 ·rw[e];exact I.nh
 ·rw[e]
  obtain ⟨m,hn,_⟩:=I.loc
  refine .cons (by rw[I.ok.kind];decide) hf hn ?_ I.nh
  exact Heap.get?_none_of_le (ZW I.ok.GB I.ok.above)
theorem Inv.om (I:Inv X pins σ H s): ∀b∈zE X.stack,b∈X.env.locals::X.fs:=fun b hb=>by
 rcases I.ok.QS with e | ⟨e,hf⟩
 ·rw[e]at hb;exact Y4 _ hb
 ·rw[e]at hb
  unfold zE at hb
  rw[Qdy,hf]at hb
  exact hb
theorem Inv.zF (I:Inv X pins σ H s): ∀b∈zE X.stack,H b=none:=fun b hb=>by
 rcases Y5.mp (I.om b hb) with e | hb
 ·rw[e];exact I.free
 ·obtain ⟨_,o,ho,_⟩:=I.ok.nh.mem hb
  exact I.base.free b o ho (I.ok.JZ b hb) fun z=>I.ok.GC b z hb
theorem Inv.step {g':Array GenState} {t':Nat} {d':Drawn} {ch:List Addr} (I:Inv X pins σ H s)
  (Gf: ∀b∈ch,(b∈X.ex\/X.s₀.heap.objs.size<=b)/\b≠X.env.locals/\(∀x c,X.env.cells.lookup x=some c->c≠b)/\ ∀p∈X.pn++pins,p.1≠b)
  (keep: ∀b o,b≠X.env.locals->b∉X.fs->b∉ch->s.heap.get? b=some o->H b=none->h'.get? b=some o)
  (slot: ∀b o,b≠X.env.locals->b∈X.fs->b∉ch->s.heap.get? b=some o->H b=none-> ∃sl,h'.get? b=some { o with slots:=sl }) (free: ∀b o,b∉ch->s.heap.get? b=some o->H b=none->H' b=none)
  (there: ∀b o,b∉ch->s.heap.get? b=some o-> ∃o',h'.get? b=some o')
  (lT: ∀b xs,H b=some (.tup xs)->H' b=some (.tup xs)) (oj: ∀b o u,H b=some (.zD o u)->H' b=some (.zD o u)) (sN: ∀b ps,H b=some (.JX ps)-> ∃more,H' b=some (.JX (ps++more)))
  (ns: ∀m,s.heap.Ns X.env.locals m->h'.Ns X.env.locals m) (bW:j6 X.prog X.w H' h') (hg:AllBare g'):
  Inv X pins σ H' { s with heap:=h',gens:=g',drawn:=d',toks:=t' }:=by
 have UJ: ∀b o,X.s₀.heap.get? b=some o->b≠X.env.locals:=fun b o e=>ZH (ZM (ZC e) I.ok.above)
 have J2: ∀b o,X.s₀.heap.get? b=some o->b∉X.ex->b∉ch:=fun b o e hx hb=>by
  rcases (Gf b hb).1 with z | z
  ·exact hx z
  ·exact absurd (ZM (ZC e) z) (kb _)
 have cellK: ∀x c,X.env.cells.lookup x=some c-> ∀v,s.heap.IsCell c v->h'.IsCell c v:=fun x c e v ⟨o,ho,hd⟩=>by
  have Oo:c∉ch:=fun z=>(Gf c z).2.2.1 x c e rfl
  by_cases hc:c∈X.fs
  ·obtain ⟨sl,q⟩:=slot c o (I.J1 x c e) hc Oo ho (I.iM x c e)
   exact ⟨_,q,hd⟩
  ·exact ⟨o,keep c o (I.J1 x c e) hc Oo ho (I.iM x c e),hd⟩
 refine ⟨I.ok,I.os,hg,⟨fun b o e n hb hx=>?_,fun b o e n hb hx=>?_,fun b o e n hx=>?_,fun b o e hx=>?_,fun b xs e=>lT b xs (I.base.lT b xs e),fun b o xs e=>oj b o xs (I.base.oj b o xs e),fun b ps e=>?_⟩,?_,fun x c e=>?_,?_,fun x c e=>?_,fun p hp=>?_,bW,I.len⟩
 ·exact keep b o (UJ b o e) hb (J2 b o e hx) (I.base.keep b o e n hb hx) (I.base.free b o e n hx)
 ·obtain ⟨sl,e1⟩:=I.base.slot b o e n hb hx
  obtain ⟨Wh,e2⟩:=slot b _ (UJ b o e) hb (J2 b o e hx) e1 (I.base.free b o e n hx)
  exact ⟨Wh,e2⟩
 ·obtain ⟨o',e1⟩:=I.base.there b o e hx
  exact free b o' (J2 b o e hx) e1 (I.base.free b o e n hx)
 ·obtain ⟨o',e1⟩:=I.base.there b o e hx
  exact there b o' (J2 b o e hx) e1
 ·obtain ⟨m1,e1⟩:=I.base.sN b ps e
  obtain ⟨m2,e2⟩:=sN b _ e1
  exact ⟨m1++m2,by rw[e2,Array.append_assoc]⟩
 ·obtain ⟨m,hn,hl⟩:=I.loc
  refine ⟨m,ns m hn,fun i x v e1 e2 e3=>?_⟩
  obtain ⟨u,r,l⟩:=hl i x v e1 e2 e3
  refine ⟨u,r,?_⟩
  rcases l with l | ⟨k,c,e,z⟩
  ·exact .inl l
  ·exact .inr ⟨k,c,e,cellK x c e _ z⟩
 ·obtain ⟨v,z⟩:=I.cell x c e
  exact ⟨v,cellK x c e v z⟩
 ·obtain ⟨m,⟨o,_,_,ho,_⟩,_⟩:=I.loc
  exact free _ o (fun z=>(Gf _ z).2.1 rfl) ho I.free
 ·obtain ⟨v,o,ho,hd⟩:=I.cell x c e
  exact free c o (fun z=>(Gf c z).2.2.1 x c e rfl) ho (I.iM x c e)
 ·obtain ⟨e,n,ne,nf,d⟩:=I.pin p hp
  have Oo:p.1∉ch:=fun z=>(Gf p.1 z).2.2.2 p hp rfl
  exact ⟨keep p.1 p.2 ne nf Oo e n,free p.1 p.2 Oo e n,ne,nf,d⟩
theorem Inv.un {t':Nat} (I:Inv X pins σ H s) (u:Un X.fs [] H H' s.heap h') (bW:j6 X.prog X.w H' h'):Inv X pins σ H' { s with heap:=h',toks:=t' }:=by
 obtain ⟨m,⟨o,es,ep,ho,r⟩,_⟩:=id I.loc
 obtain ⟨sl,hL⟩:=u.any ho I.free (by simp)
 exact I.step (g':=s.gens) (d':=s.drawn) (ch:=[]) (fun _ z=>nomatch z) (fun b o _ hb _ e n=>u.keep b o e n hb (by simp)) (fun b o _ hb _ e n=>u.slot b o e n hb (by simp)) (fun b o _ e n=>u.free b o e n (by simp)) (fun b o _ e=>u.there b o e (by simp)) u.lT u.oj u.sN (fun m' hm=>by
  obtain ⟨o',R8,Oq,GD,r'⟩:=hm
  rw[ho]at GD;cases GD
  exact ⟨_,R8,Oq,hL,r'⟩) bW I.bare
theorem Inv.call {g':Array GenState} {t':Nat} {d':Drawn} {ch:List Addr} (I:Inv X pins σ H s) (u:Un (zE X.stack) ch H H' s.heap h') (bW:j6 X.prog X.w H' h') (hg:AllBare g')
  (Gf: ∀b∈ch,(b∈X.ex\/X.s₀.heap.objs.size<=b)/\b≠X.env.locals/\(∀x c,X.env.cells.lookup x=some c->c≠b)/\ ∀p∈X.pn++pins,p.1≠b):
  Inv X pins σ H' { s with heap:=h',gens:=g',drawn:=d',toks:=t' }:=by
 obtain ⟨m,⟨o,es,ep,ho,r⟩,_⟩:=id I.loc
 obtain ⟨sl,hL⟩:=u.any ho I.free fun z=>(Gf _ z).2.1 rfl
 exact I.step (ch:=ch) Gf (fun b o hL hb hc e n=>u.keep b o e n (fun z=>(Y5.mp (I.om b z)).elim hL hb) hc) (fun b o _ _ hc e n=>u.any e n hc) (fun b o hc e n=>u.free b o e n hc) (fun b o hc e=>u.there b o e hc) u.lT u.oj u.sN (fun m' hm=>by
  obtain ⟨o',R8,Oq,GD,r'⟩:=hm
  rw[ho]at GD;cases GD
  exact ⟨_,R8,Oq,hL,r'⟩) bW hg
theorem Inv.turned {t':Nat} {it:Addr} (I:Inv X pins σ H s) (k: ∀b o,b≠it->s.heap.get? b=some o->h'.get? b=some o) (hn:H it=none) (hL:it≠X.env.locals)
  (h1:it∈X.ex\/X.s₀.heap.objs.size<=it) (h2: ∀x c,X.env.cells.lookup x=some c->c≠it) (h3: ∀p∈X.pn++pins,p.1≠it):Inv X pins σ H { s with heap:=h',toks:=t' }:=by
 have IZ: ∀b u,H b=some u->b≠it:=fun b u e z=>by rw[z,hn]at e;cases e
 refine I.step (g':=s.gens) (d':=s.drawn) (ch:=[it]) (fun b hb=>?_) (fun b o _ _ hc e _=>k b o (fun z=>hc (by simp[z])) e) (fun b o _ _ hc e _=>⟨o.slots,k b o (fun z=>hc (by simp[z])) e⟩) (fun _ _ _ _ n=>n)
  (fun b o hc e=>⟨o,k b o (fun z=>hc (by simp[z])) e⟩) (fun _ _ e=>e) (fun _ _ _ e=>e) (fun b ps e=>⟨#[],by rw[e];simp⟩) (fun m hm=>?_) (fun b u e=>?_) I.bare
 ·have e:b=it:=by simpa using hb
  subst e
  exact ⟨h1,hL,h2,h3⟩
 ·obtain ⟨o,es,ep,ho,r⟩:=hm
  exact ⟨o,es,ep,k _ o (Ne.symm hL) ho,r⟩
 ·refine (I.bW b u e).vf (fun c v hc q=>k c v ?_ q) (fun _ q=>q) fun _ _ q=>q
  rcases hc with z | z
  ·rw[z];exact IZ b u e
  ·exact IZ c _ z
theorem Inv.tok (I:Inv X pins σ H s) (t:Nat):Inv X pins σ H { s with toks:=t }:=I.un (h':=s.heap) (t':=t) Un.refl I.bW
theorem Inv.kept {t':Nat} (I:Inv X pins σ H s) (k: ∀b u,s.heap.get? b=some u->h'.get? b=some u):Inv X pins σ H { s with heap:=h',toks:=t' }:=I.un (Un.kept k) (I.bW.kept k)
theorem Inv.laid {a:Addr} {o:HO} {t':Nat} (I:Inv X pins σ H s) (k: ∀b u,s.heap.get? b=some u->h'.get? b=some u) (hp:s.heap.objs.size<=a) (new:bZ X.prog X.w (upd H a o) h' a o):
  Inv X pins σ (upd H a o) { s with heap:=h',toks:=t' }:=I.un (Un.laid k hp (I.bW.fresh hp)) (I.bW.laid k hp new)
theorem Inv.write {x e:Addr} {o:HO} {t':Nat} (I:Inv X pins σ H s) (mu:Oi (H x)) (he:e=x\/H e=some (.own x)) (k: ∀b u,b≠e->s.heap.get? b=some u->h'.get? b=some u) (Mu: ∃u,h'.get? e=some u)
  (new:bZ X.prog X.w (upd H x o) h' x o):Inv X pins σ (upd H x o) { s with heap:=h',toks:=t' }:=I.un (Un.write mu he k Mu) (I.bW.write mu he k Mu new)
theorem Inv.weak {σ':List (Option V)} (I:Inv X pins σ H s) (hl:σ'.length=σ.length) (w: ∀(i:Nat) v,σ'[i]? =some (some v)->σ[i]? =some (some v)):Inv X pins σ' H s:=
 ⟨I.ok,I.os,I.bare,I.base,let ⟨m,hn,zG⟩:=I.loc;⟨m,hn,fun i x v e1 e2 e3=>zG i x v e1 (w i v e2) e3⟩,I.cell,I.free,I.iM,I.pin,I.bW,hl.trans I.len⟩
theorem Inv.ky {zH:List (Addr×Obj)} (I:Inv X pins σ H s) (h: ∀p∈zH,s.heap.get? p.1=some p.2/\H p.1=none/\p.1≠X.env.locals/\p.1∉X.fs/\ ∀v,p.2.data≠ .cell v):Inv X zH σ H s:=
 ⟨I.ok,I.os,I.bare,I.base,I.loc,I.cell,I.free,I.iM,fun p hp=>(Zz.mp hp).elim (fun z=>I.pin p (Qa9 _ z)) (h p),I.bW,I.len⟩
theorem vg {N:List Str} (hN:N.Nodup) {i j:Nat} {x:Str} (a:N[i]? =some x) (b:N[j]? =some x):i=j:=by
 obtain ⟨h1,e1⟩:=Kx.mp a
 obtain ⟨h2,e2⟩:=Kx.mp b
 exact (List.getElem_inj hN).mp (e1.trans e2.symm)
theorem A9 {M:Model} {A:Around} {E:Value->Shared->Prop} {i:Nat} {x:Str} {v:V} {u:Value} {Q:Unit->Shared->Prop} (I:Inv X pins σ H s) (hN:X.N.Nodup) (hi:X.N[i]? =some x) (hx:Loc X.env.scope x) (r:RelV v u)
  (h: ∀s',Inv X pins (σ.set i (some v)) H s'->(∃a,Heap.SameBut a s.heap s'.heap/\(a=X.env.locals\/X.env.cells.lookup x=some a))->Q () s') (hf:X.fn x=true\/X.env.scope.names.lookup x=some .local:=by first | exact .inl rfl | exact .inr rfl | assumption):wpAny M A (storeName X.env x u) Q E s:=by
 obtain ⟨m,hn,hl⟩:=id I.loc
 have R9:(X.env.scope.kind== .class||(X.env.scope.kind== .module&&X.env.locals != X.env.globals))=false:=by rw[I.ok.kind];rfl
 have UK:i<σ.length:=by rw[I.len];exact (Kx.mp hi).1
 have J1:=I.J1
 have tracked: ∀{a:Addr} {h':Heap},(∃o,s.heap.get? a=some o/\H a=none)->Heap.SameBut a s.heap h'->j6 X.prog X.w H h':=fun {a h'} ha hs b ob e=>by
  obtain ⟨_,_,I_⟩:=ha
  refine (I.bW b ob e).vf (fun c w' hc q=>(hs.2 c ?_).trans q) (fun _ q=>q) fun _ _ q=>q
  rintro rfl
  rcases hc with rfl | hc
  ·rw[I_]at e;cases e
  ·rw[I_]at hc;cases hc
 rcases hx with hk | hk
 ·refine wpAny_storeName_local hk hn (fun h' QT hs=>?_) R9
  obtain ⟨oL,_,_,GF,_⟩:=id hn
  refine h _ ⟨I.ok,I.os,I.bare,⟨fun b o e n hb hx=>?_,fun b o e n hb hx=>?_,I.base.free,fun b o e hx=>?_,I.base.lT,I.base.oj,I.base.sN⟩,⟨_,QT,fun j y v' e1 e2 e3=>?_⟩,fun y c e=>?_,I.free,I.iM,fun p hp=>?_,tracked ⟨oL,GF,I.free⟩ hs,by simpa using I.len⟩ ⟨_,hs, .inl rfl⟩
  ·exact (hs.2 b (ZH (ZM (ZC e) I.ok.above))).trans (I.base.keep b o e n hb hx)
  ·obtain ⟨sl,e1⟩:=I.base.slot b o e n hb hx
   exact ⟨sl,(hs.2 b (ZH (ZM (ZC e) I.ok.above))).trans e1⟩
  ·obtain ⟨o',e1⟩:=I.base.there b o e hx
   exact ⟨o',(hs.2 b (ZH (ZM (ZC e) I.ok.above))).trans e1⟩
  ·by_cases hj:j=i
   ·subst hj
    rw[hi]at e1;cases e1
    rw[List.getElem?_set_self UK]at e2
    cases e2
    exact ⟨u,r, .inl ⟨hk,by simp⟩⟩
   ·rw[List.getElem?_set_ne (Ne.symm hj)]at e2
    obtain ⟨u',r',q⟩:=hl j y v' e1 e2 e3
    refine ⟨u',r',?_⟩
    rcases q with ⟨k,e⟩ | ⟨k,c,e,z⟩
    ·refine .inl ⟨k,?_⟩
     have:y≠x:=fun e=>hj (vg hN e1 (e▸hi))
     simp[this,e]
    ·exact .inr ⟨k,c,e,z.sameBut hs (J1 y c e)⟩
  ·obtain ⟨w',z⟩:=I.cell y c e
   exact ⟨w',z.sameBut hs (J1 y c e)⟩
  ·obtain ⟨e,n,ne,nf,d⟩:=I.pin p hp
   exact ⟨(hs.2 p.1 ne).trans e,n,ne,nf,d⟩
 ·have R_:X.fn x=true:=by
   rcases hf with z | z
   ·exact z
   ·rw[z]at hk;cases hk
  obtain ⟨c,hc⟩:=I.ok.has x (.inl hk)
  obtain ⟨w',z⟩:=I.cell x c hc
  refine wpAny_storeName_cell I.ok.kind hk hc z (fun h' qr hs=>?_)
  obtain ⟨oc,UL,Sa⟩:=id z
  refine h { s with heap:=h' } ⟨I.ok,I.os,I.bare,⟨fun b o e n hb hx=>?_,fun b o e n hb hx=>?_,I.base.free,fun b o e hx=>?_,I.base.lT,I.base.oj,I.base.sN⟩,⟨m,hn.sameBut hs (Ne.symm (J1 x c hc)),fun j y v' e1 e2 e3=>?_⟩,fun y c' e=>?_,I.free,I.iM,fun p hp=>?_,tracked ⟨oc,UL,I.iM x c hc⟩ hs,by simpa using I.len⟩ ⟨c,hs, .inr hc⟩
  ·exact (hs.2 b (ZH (ZM (ZC e) (I.ok.Om x c R_ hc)))).trans (I.base.keep b o e n hb hx)
  ·obtain ⟨sl,e1⟩:=I.base.slot b o e n hb hx
   exact ⟨sl,(hs.2 b (ZH (ZM (ZC e) (I.ok.Om x c R_ hc)))).trans e1⟩
  ·obtain ⟨o',e1⟩:=I.base.there b o e hx
   exact ⟨o',(hs.2 b (ZH (ZM (ZC e) (I.ok.Om x c R_ hc)))).trans e1⟩
  ·by_cases hj:j=i
   ·subst hj
    rw[hi]at e1;cases e1
    rw[List.getElem?_set_self UK]at e2
    cases e2
    exact ⟨u,r, .inr ⟨.inl hk,c,hc,qr⟩⟩
   ·rw[List.getElem?_set_ne (Ne.symm hj)]at e2
    obtain ⟨u',r',q⟩:=hl j y v' e1 e2 e3
    refine ⟨u',r',?_⟩
    rcases q with q | ⟨k,c',e,z'⟩
    ·exact .inl q
    ·refine .inr ⟨k,c',e,z'.sameBut hs ?_⟩
     rintro rfl
     exact hj (vg hN e1 (I.ok.inj _ _ _ e hc▸hi))
  ·by_cases Mw:c'=c
   ·subst Mw;exact ⟨_,qr⟩
   ·obtain ⟨w2,z2⟩:=I.cell y c' e
    exact ⟨w2,z2.sameBut hs Mw⟩
  ·obtain ⟨e,n,ne,nf,d⟩:=I.pin p hp
   refine ⟨(hs.2 p.1 ?_).trans e,n,ne,nf,d⟩
   intro q
   rw[q,UL]at e
   have q':oc=p.2:=ZG e
   exact d w' (by rw[<-q'];exact Sa)
theorem iN {M:Model} {A:Around} {E:Value->Shared->Prop} {i:Nat} {x:Str} {v:V} {u:Value} {Q:Unit->Shared->Prop} (I:Inv X pins σ H s) (hN:X.N.Nodup) (hi:X.N[i]? =some x) (hx:Loc X.env.scope x) (r:RelV v u)
  (h: ∀s',Inv X pins (σ.set i (some v)) H s'->Q () s') (hf:X.fn x=true\/X.env.scope.names.lookup x=some .local:=by first | exact .inl rfl | exact .inr rfl | assumption):wpAny M A (storeName X.env x u) Q E s:=
 A9 I hN hi hx r (fun s' I' _=>h s' I') hf
theorem Inv.Ot {s':Shared} {ch:List Addr} (I:Inv X pins σ H s) (ho:s'.os=s.os) (u:Un (zE X.stack) ch H H' s.heap s'.heap) (bW:j6 X.prog X.w H' s'.heap) (hg:AllBare s'.gens)
  (Gf: ∀b∈ch,(b∈X.ex\/X.s₀.heap.objs.size<=b)/\b≠X.env.locals/\(∀x c,X.env.cells.lookup x=some c->c≠b)/\ ∀p∈X.pn++pins,p.1≠b):Inv X pins σ H' s':=by
 obtain ⟨h',g',d',t',o'⟩:=s'
 have e:o'=s.os:=ho
 subst e
 exact I.call (g':=g') (t':=t') (d':=d') u bW hg Gf
end
abbrev XK:=Value->Option Addr->Hp->Prop
abbrev St:=List (Option V)
abbrev VK:=V->Hp->Prop
abbrev TE:=St->Hp->VK->Prop
abbrev TT:=St->Hp->(Bool->Hp->Prop)->Prop
abbrev TA:=St->Hp->(List V->Hp->Prop)->Prop
structure Ends where
 nx:St->Hp->Prop
 rt:VK
 bk:St->Hp->Prop:=fun _ _=>False
 ct:St->Hp->Prop:=fun _ _=>False
abbrev TS:=Ends->St->Hp->Prop
def EP (X:Cx) (pins:List (Addr×Obj)) (σ:St) (Q:VK) (u:Value) (s':Shared):Prop:= ∃v H',Inv X pins σ H' s'/\RelV v u/\Q v H'
def TP (X:Cx) (pins:List (Addr×Obj)) (σ:St) (Q:Bool->Hp->Prop) (b:Bool) (s':Shared):Prop:= ∃H',Inv X pins σ H' s'/\Q b H'
def AP (X:Cx) (pins:List (Addr×Obj)) (σ:St) (Q:List V->Hp->Prop) (us:List Value) (s':Shared):Prop:= ∃vs H',Inv X pins σ H' s'/\Vals vs us/\Q vs H'
def SP (X:Cx) (pins:List (Addr×Obj)) (D:Ends) (f:Flow) (s':Shared):Prop:=
 match f with
 | .next=> ∃σ' H',Inv X pins σ' H' s'/\D.nx σ' H'
 | .brk=> ∃σ' H',Inv X pins σ' H' s'/\D.bk σ' H'
 | .cont=> ∃σ' H',Inv X pins σ' H' s'/\D.ct σ' H'
 | .ret u=> ∃v σ' H',Inv X pins σ' H' s'/\RelV v u/\D.rt v H'
def PE (X:Cx) (e:Expr) (t:TE):Prop:=
 ∀(pins:List (Addr×Obj)) (s:Shared) (σ:St) (H:Hp) (Q:VK),Inv X pins σ H s->t σ H Q->wpAny (model X.prog X.w) X.A (eval e X.env) (EP X pins σ Q) X.xe s
def PT (X:Cx) (e:Expr) (t:TT):Prop:=
 ∀(pins:List (Addr×Obj)) (s:Shared) (σ:St) (H:Hp) (Q:Bool->Hp->Prop),Inv X pins σ H s->t σ H Q->wpAny (model X.prog X.w) X.A (isTrue e X.env (eval e X.env)) (TP X pins σ Q) X.xe s
def PW (X:Cx) (e:Expr) (t:TT):Prop:=
 ∀(whole:Sem Value) (pins:List (Addr×Obj)) (s:Shared) (σ:St) (H:Hp) (Q:Bool->Hp->Prop),Inv X pins σ H s->t σ H Q->wpAny (model X.prog X.w) X.A (isTrue e X.env whole) (TP X pins σ Q) X.xe s
theorem PW.pt {X:Cx} {e:Expr} {t:TT} (h:PW X e t):PT X e t:=h _
def PA (X:Cx) (es:List Expr) (t:TA):Prop:=
 ∀(pos:Pos) (pins:List (Addr×Obj)) (s:Shared) (σ:St) (H:Hp) (Q:List V->Hp->Prop),Inv X pins σ H s->t σ H Q->wpAny (model X.prog X.w) X.A (spliced (backTo pos (starEach es X.env))) (AP X pins σ Q) X.xe s
def PS (X:Cx) (st:Stmt) (t:TS):Prop:=
 ∀(pins:List (Addr×Obj)) (s:Shared) (σ:St) (H:Hp) (D:Ends),Inv X pins σ H s->t D σ H->wpAny (model X.prog X.w) X.A (exec st X.env) (SP X pins D) X.xe s
def xE (X:Cx) (st:List Stmt) (t:TS):Prop:=
 ∀(pins:List (Addr×Obj)) (s:Shared) (σ:St) (H:Hp) (D:Ends),Inv X pins σ H s->t D σ H->wpAny (model X.prog X.w) X.A (execs st X.env) (SP X pins D) X.xe s
theorem cg {α:Type} {t:Sem α} {Q Q':α->Shared->Prop} {M:Model} {A:Around} {E:Value->Shared->Prop} {s:Shared} (h:wpAny M A t Q E s) (hQ: ∀a s,Q a s->Q' a s):wpAny M A t Q' E s:=wpAny_mono h hQ fun _ _ x=>x
section
variable {X:Cx}
def J3 (i:Nat):TE:=fun σ H Q=> ∃v,σ[i]? =some (some v)/\Q v H
def tC (v:V):TE:=fun _ H Q=>Q v H
theorem J4 {i:Nat} {x:Str} {pos:Pos} (hN:X.N[i]? =some x) (hv:Ol X.env.scope x) (hd:(x==("__debug__":Str))=false:=by decide) (lL:(x==("__classdict__":Str))=false:=by decide):PE X (.Name x pos) (J3 i):=by
 intro pins s σ H Q I h
 obtain ⟨v,e,h⟩:=h
 obtain ⟨m,hn,hl⟩:=I.loc
 obtain ⟨u,r,l⟩:=hl i x v hN e hv
 have fin:EP X pins σ Q u s:=⟨v,H,I,r,h⟩
 rcases l with ⟨hk,hm⟩ | ⟨hk,c,hc,iO⟩
 ·exact wpAny_Name (wpAny_loadName_local I.ok.kind hk hn hm fin) hd
 ·rcases hk with hk | hk
  ·exact wpAny_Name (wpAny_loadName_cell I.ok.kind hk hc iO fin) hd
  ·exact wpAny_Name (wpAny_loadName_free I.ok.kind hk hc iO fin lL) hd
theorem aj {i j pos}:PE X (.Constant (.int i) j pos) (tC (.int i)):=fun _ _ _ H _ I h=>wpAny_Constant_int ⟨.int i,H,I.tok _,⟨_,rfl⟩,h⟩
theorem oq {b j pos}:PE X (.Constant (.bool b) j pos) (tC (.bl b)):=fun _ _ _ H _ I h=>Constant_bool ⟨.bl b,H,I,rfl,h⟩
theorem J5 {x j pos}:PE X (.Constant (.str x) j pos) (tC (.str x)):=fun _ _ _ H _ I h=>Calls.Constant_str ⟨.str x,H,I.tok _,⟨_,rfl⟩,h⟩
def Gl (X:Cx) (x:Str):Prop:=X.env.kindOf x=some .globalImplicit
theorem sP {E:Value->Shared->Prop} {pins:List (Addr×Obj)} {s:Shared} {σ:St} {H:Hp} {x:Str} {u:Value} {pos:Pos} {Q:Value->Shared->Prop} (I:Inv X pins σ H s) (hg:Gl X x) (hm:X.mg x=some u) (h:Q u s)
  (hd:(x==("__debug__":Str))=false:=by decide):wpAny (model X.prog X.w) X.A (eval (.Name x pos) X.env) Q E s:=
 Calls.Name_function_global I.ok.kind hg (Calls.loadGlobal_global (by rw[I.ok.glob];exact I.mod.glob.keeps I.bk) hm h) hd
theorem gw {E:Value->Shared->Prop} {pins:List (Addr×Obj)} {s:Shared} {σ:St} {H:Hp} {x:Str} {u:Value} {pos:Pos} {Q:Value->Shared->Prop} (I:Inv X pins σ H s) (hg:Gl X x) (hm:X.mg x=none) (hv:bootBuiltins x=some u) (h:Q u s)
  (hn:x≠"__name__":=by decide) (hd:(x==("__debug__":Str))=false:=by decide):wpAny (model X.prog X.w) X.A (eval (.Name x pos) X.env) Q E s:=by
 obtain ⟨mb,h1,h2⟩:=I.mod.blt
 exact Calls.Name_function_global I.ok.kind hg (Calls.loadGlobal_builtin (by rw[I.ok.glob];exact I.mod.glob.keeps I.bk) hm (by rw[I.ok.blt];exact h1.keeps I.bk) ((h2 x hn).trans hv) h) hd
theorem zI {x:Str} {v:V} {u:Value} {pos:Pos} (hg:Gl X x) (hm:X.mg x=some u) (r:RelV v u) (hd:(x==("__debug__":Str))=false:=by decide):PE X (.Name x pos) (tC v):=
 fun _ _ _ H _ I h=>sP I hg hm ⟨v,H,I,r,h⟩ hd
theorem zJ {x:Str} {v:V} {u:Value} {pos:Pos} (hg:Gl X x) (hm:X.mg x=none) (hv:bootBuiltins x=some u) (r:RelV v u) (hn:x≠"__name__":=by decide) (hd:(x==("__debug__":Str))=false:=by decide):PE X (.Name x pos) (tC v):=
 fun _ _ _ H _ I h=>gw I hg hm hv ⟨v,H,I,r,h⟩ hn hd
variable {a b:Expr} {ta tb:TE} {pos:Pos}
def tB (t:TE):TT:=fun σ H Q=>t σ H fun x H1=> ∃c,x= .bl c/\Q c H1
theorem eI {e:Expr} {t:TE} (h:PE X e t) (he: ∀whole,isTrue e X.env whole=(do let v <-whole;standAt e.pos;holding [v] (truthy v)):=by intro _;rfl):PT X e (tB t):=by
 intro pins s σ H Q I hw
 refine isTrue_plain (cg (h pins s σ H _ I hw) fun v s1 ⟨x,H1,I1,r1,q1⟩=>?_) (he _)
 obtain ⟨d,rfl,q⟩:=q1
 cases r1
 exact wpAny_truthy_bool ⟨H1,I1,q⟩
variable {tA QU:TT} {rest:List Expr}
def Sb (t u:TT):TT:=fun σ H Q=>t σ H fun c H1=>if c=true then u σ H1 Q else Q false H1
def Wi (t u:TT):TT:=fun σ H Q=>t σ H fun c H1=>if c=true then Q true H1 else u σ H1 Q
def Se (t:TT):TT:=fun σ H Q=>t σ H fun c H1=>Q (!c) H1
theorem dR (ha:PT X a tA):PW X (.BoolOp .And [a] pos) tA:=by
 intro wh pins s σ H Q I h
 refine isTrue_and (cg (ha pins s σ H Q I h) fun c s1 e=>?_)
 cases c with
 | true=>exact isTrue_and_nil e
 | false=>exact e
theorem sQ (ha:PT X a tA):PW X (.BoolOp .Or [a] pos) tA:=by
 intro wh pins s σ H Q I h
 refine isTrue_or (cg (ha pins s σ H Q I h) fun c s1 e=>?_)
 cases c with
 | false=>exact isTrue_or_nil e
 | true=>exact e
theorem fu (ha:PT X a tA) (hb:PW X (.BoolOp .And (b::rest) pos) QU):PW X (.BoolOp .And (a::b::rest) pos) (Sb tA QU):=by
 intro wh pins s σ H Q I h
 refine isTrue_and (cg (ha pins s σ H _ I h) fun c s1 ⟨H1,I1,q1⟩=>?_)
 cases c with
 | true=>exact hb wh pins s1 σ H1 Q I1 q1
 | false=>exact ⟨H1,I1,q1⟩
theorem zK (ha:PT X a tA) (hb:PW X (.BoolOp .Or (b::rest) pos) QU):PW X (.BoolOp .Or (a::b::rest) pos) (Wi tA QU):=by
 intro wh pins s σ H Q I h
 refine isTrue_or (cg (ha pins s σ H _ I h) fun c s1 ⟨H1,I1,q1⟩=>?_)
 cases c with
 | true=>exact ⟨H1,I1,q1⟩
 | false=>exact hb wh pins s1 σ H1 Q I1 q1
theorem xF (ha:PT X a tA):PT X (.UnaryOp .Not a pos) (Se tA):=by
 intro pins s σ H Q I h
 exact isTrue_not (ha pins s σ H (fun c H1=>Q (!c) H1) I h)
def Ou (ta tb:TE):TE:=fun σ H Q=>ta σ H fun x H1=> ∃c,x= .bl c/\if c=true then tb σ H1 Q else Q (.bl false) H1
def Ov (ta:TE):TE:=fun σ H Q=>ta σ H fun x H1=> ∃c,x= .bl c/\Q (.bl (!c)) H1
theorem J6 {op} {t:TE} (h:PE X a t):PE X (.BoolOp op [a] pos) t:=fun pins s σ H Q I hw=>BoolOp_one (h pins s σ H Q I hw)
theorem CU (ha:PE X a ta) (hb:PE X (.BoolOp .And (b::rest) pos) tb):PE X (.BoolOp .And (a::b::rest) pos) (Ou ta tb):=by
 intro pins s σ H Q I h
 refine BoolOp_and (cg (ha pins s σ H _ I h) fun v s1 ⟨x,H1,I1,r1,q1⟩=>?_)
 obtain ⟨c,rfl,q1⟩:=q1
 cases r1
 refine wpAny_truthy_bool ?_
 cases c with
 | true=>exact hb pins s1 σ H1 Q I1 q1
 | false=>exact ⟨.bl false,H1,I1,rfl,q1⟩
theorem J9 (ha:PE X a ta):PE X (.UnaryOp .Not a pos) (Ov ta):=by
 intro pins s σ H Q I h
 refine UnaryOp_ (cg (ha pins s σ H _ I h) fun v s1 ⟨x,H1,I1,r1,q1⟩=>?_)
 obtain ⟨c,rfl,q1⟩:=q1
 cases r1
 exact not_of (wpAny_truthy_bool ⟨.bl (!c),H1,I1,rfl,q1⟩)
end
def br (K:PySem.W.Frag) (H:Hp) (a:Addr) (xs:List V):Prop:=
 Rd H a (.lst xs)\/
  ∃(o:Obj) (aJ:Array Value) (n:Nat),K.lookup a=some o/\o.cls= .type "list"/\o.dict=none/\o.data= .seq aJ n/\aJ.size<=sizeLine/\Vals xs aJ.toList
def bV (K:PySem.W.Frag) (H:Hp) (a:Addr) (xs:List V):Prop:=
 Rd H a (.tup xs)\/
  ∃(o:Obj) (aJ:Array Value) (n:Nat),K.lookup a=some o/\o.cls= .type "tuple"/\o.data= .seq aJ n/\aJ.size<=sizeLine/\Vals xs aJ.toList
noncomputable def Sf:Value->Option V
 | .none=>some .ft
 | .bool b=>some (.bl b)
 | .int i _=>some (.int i)
 | .str x _=>some (.str x)
 | .bytes b _=>some (.zC b)
 | .float b _=>some (.JW b)
 | .ref a=>some (.ref a)
 | .type n=>some (.ty n)
 | _=>none
theorem RelV.abs {x:V} {u:Value} (r:RelV x u):Sf u=some x:=by
 cases x with
 | ft=>cases r;rfl
 | bl _=>cases r;rfl
 | int _=>obtain ⟨t,rfl⟩:=r;rfl
 | str _=>obtain ⟨t,rfl⟩:=r;rfl
 | zC _=>obtain ⟨t,rfl⟩:=r;rfl
 | JW _=>obtain ⟨t,rfl⟩:=r;rfl
 | ref _=>cases r;rfl
 | ty _=>cases r;rfl
theorem RelV.inj {x y:V} {u:Value} (r:RelV x u) (q:RelV y u):x=y:=ZG (r.abs.symm.trans q.abs)
theorem Vals.inj: ∀{xs ys:List V} {us:List Value},Vals xs us->Vals ys us->xs=ys
 | _,_,_, .nil, .nil=>rfl
 | _,_,_, .cons r t, .cons r' t'=>by rw[r.inj r',Vals.inj t t']
section
variable {X:Cx} {pins:List (Addr×Obj)} {σ:St} {H:Hp} {s:Shared} {a:Addr} {xs ys:List V}
theorem br.of {K:PySem.W.Frag} (h:H a=some (.lst xs)):br K H a xs:= .inl (.inl h)
theorem bV.of {K:PySem.W.Frag} (h:H a=some (.tup xs)):bV K H a xs:= .inl (.inl h)
theorem Inv.list (I:Inv X pins σ H s) (h:br X.K H a xs): ∃aJ:List Value,Vals xs aJ/\PlainL s.heap a aJ.toArray/\xs.length<=sizeLine:=by
 rcases h with h | ⟨o,aJ,n,hk,hc,hd,hs,hz,r⟩
 ·obtain ⟨z,aJ,n,r,e⟩:=h.ok I.bW
  exact ⟨aJ,r,⟨_,n,e,rfl,rfl,rfl⟩,z⟩
 ·refine ⟨aJ.toList,r,⟨o,n,I.nP a o hk,hc,hd,by simpa using hs⟩,?_⟩
  have e:=r.length
  simp only[Qbm]at e
  omega
theorem Inv.tuple (I:Inv X pins σ H s) (h:bV X.K H a xs): ∃aJ:List Value,Vals xs aJ/\IsTup s.heap a aJ.toArray/\xs.length<=sizeLine:=by
 rcases h with h | ⟨o,aJ,n,hk,hc,hs,hz,r⟩
 ·obtain ⟨z,aJ,r,p⟩:=h.ok I.bW
  exact ⟨aJ,r,p,z⟩
 ·refine ⟨aJ.toList,r,⟨o,I.nP a o hk,hc,n,by simpa using hs⟩,?_⟩
  have e:=r.length
  simp only[Qbm]at e
  omega
theorem Inv.vh (I:Inv X pins σ H s) (h:br X.K H a xs) (h':br X.K H a ys):xs=ys:=by
 obtain ⟨aJ,r,⟨o,n,e,_,_,d⟩,_⟩:=I.list h
 obtain ⟨its',r',⟨o',n',e',_,_,d'⟩,_⟩:=I.list h'
 rw[e]at e';cases e'
 rw[d]at d'
 injection d' with d1 _
 have:aJ=its':=by simpa using congrArg Array.toList d1
 subst this
 exact r.inj r'
theorem Inv.qQ (I:Inv X pins σ H s) (h:bV X.K H a xs) (h':bV X.K H a ys):xs=ys:=by
 obtain ⟨aJ,r,⟨o,e,_,n,d⟩,_⟩:=I.tuple h
 obtain ⟨its',r',⟨o',e',_,n',d'⟩,_⟩:=I.tuple h'
 rw[e]at e';cases e'
 rw[d]at d'
 injection d' with d1 _
 have:aJ=its':=by simpa using congrArg Array.toList d1
 subst this
 exact r.inj r'
end
noncomputable abbrev Cx.qt (X:Cx) (E:Value->Shared->Prop):Cx:={ X with xe:=E }
noncomputable abbrev Cx.QV (X:Cx):Cx:=X.qt fun _ _=>False
theorem Cx.Ok.qt {X:Cx} (ok:X.Ok) (E:Value->Shared->Prop):(X.qt E).Ok:=
 ⟨ok.mod,ok.kind,ok.glob,ok.blt,ok.above,ok.inj,ok.has,ok.Om,ok.hd,ok.frames,ok.QS,ok.UI,ok.bs,ok.GB,ok.CT,ok.GC,ok.nh,ok.JZ⟩
theorem Cx.Ok.iP {X:Cx} {E:Value->Shared->Prop} (ok:(X.qt E).Ok):X.Ok:=
 ⟨ok.mod,ok.kind,ok.glob,ok.blt,ok.above,ok.inj,ok.has,ok.Om,ok.hd,ok.frames,ok.QS,ok.UI,ok.bs,ok.GB,ok.CT,ok.GC,ok.nh,ok.JZ⟩
section
variable {X:Cx} {pins:List (Addr×Obj)} {σ:St} {H:Hp} {s:Shared} {E:Value->Shared->Prop}
theorem Inv.qt (I:Inv X pins σ H s) (E:Value->Shared->Prop):Inv (X.qt E) pins σ H s:=⟨I.ok.qt E,I.os,I.bare,I.base,I.loc,I.cell,I.free,I.iM,I.pin,I.bW,I.len⟩
theorem Inv.iP (I:Inv (X.qt E) pins σ H s):Inv X pins σ H s:=⟨I.ok.iP,I.os,I.bare,I.base,I.loc,I.cell,I.free,I.iM,I.pin,I.bW,I.len⟩
theorem SP.iP {D:Ends} {f:Flow} {s':Shared} (h:SP (X.qt E) pins D f s'):SP X pins D f s':=by
 cases f with
 | next=>obtain ⟨σ',H',I,q⟩:=h;exact ⟨σ',H',I.iP,q⟩
 | brk=>obtain ⟨σ',H',I,q⟩:=h;exact ⟨σ',H',I.iP,q⟩
 | cont=>obtain ⟨σ',H',I,q⟩:=h;exact ⟨σ',H',I.iP,q⟩
 | ret u=>obtain ⟨v,σ',H',I,r,q⟩:=h;exact ⟨v,σ',H',I.iP,r,q⟩
theorem xE.QV {st:List Stmt} {t:TS} (h:xE X.QV st t):xE X st t:=fun pins s σ H D I hw=>
 wpAny_mono (h pins s σ H D (I.qt _) hw) (fun _ _ q=>q.iP) fun _ _ z=>False.elim z
end
section
variable {X:Cx} {st:Stmt} {rest:List Stmt} {t u:TS} {e:Expr} {te:TE} {pos:Pos}
def Ow:TS:=fun D σ H=>D.nx σ H
def Sg (t u:TS):TS:=fun D σ H=>t { D with nx:=u D } σ H
theorem aV:xE X [] Ow:=fun _ _ σ H _ I h=>wpAny_execs_nil ⟨σ,H,I,h⟩
theorem ag (h1:PS X st t) (h2:xE X rest u):xE X (st::rest) (Sg t u):=by
 intro pins s σ H D I h
 refine wpAny_execs_cons (cg (h1 pins s σ H { D with nx:=u D } I h) fun f s1 q=>?_)
 cases f with
 | next=>
  obtain ⟨σ',H',I',q⟩:=q
  exact h2 pins s1 σ' H' D I' q
 | ret v=>exact q
 | brk=>exact q
 | cont=>exact q
theorem ai (h1:PS X st t):xE X [st] t:=by
 intro pins s σ H D I h
 refine wpAny_execs_cons (cg (h1 pins s σ H D I h) fun f s1 q=>?_)
 cases f with
 | next=>exact wpAny_execs_nil q
 | ret v=>exact q
 | brk=>exact q
 | cont=>exact q
theorem Inv.quiet {pins:List (Addr×Obj)} {σ:St} {H:Hp} {s:Shared} (I:Inv X pins σ H s):interactive X.env=false:=by simp[interactive,I.ok.kind]
def Ox (te:TE):TS:=fun D σ H=>te σ H fun _ H1=>D.nx σ H1
theorem cj (he:PE X e te) (hs:swapsWith e none pos.line X.env=pure false:=by rfl):PS X (.Expr e pos) (Ox te):=by
 intro pins s σ H D I h
 exact wpAny_Expr_any (cg (he pins s σ H _ I h) fun v s1 ⟨x,H1,I1,r1,q1⟩=>⟨σ,H1,I1,q1⟩) I.quiet hs
def Sh (te:TE):TS:=fun D σ H=>te σ H D.rt
theorem aE (he:PE X e te):PS X (.Return (some e) pos) (Sh te):=by
 intro pins s σ H D I h
 exact wpAny_Return_some (cg (he pins s σ H _ I h) fun v s1 ⟨x,H1,I1,r1,q1⟩=>⟨x,σ,H1,I1,r1,q1⟩)
def Si (c:TT) (t u:TS):TS:=fun D σ H=>c σ H fun b H1=>if b=true then t D σ H1 else u D σ H1
theorem bF {c:Expr} {a b:List Stmt} {tc:TT} (hc:PT X c tc) (ha:xE X a t) (hb:xE X b u):PS X (.If c a b pos) (Si tc t u):=by
 intro pins s σ H D I h
 refine wpAny_If (cg (hc pins s σ H _ I h) fun d s1 ⟨H1,I1,q1⟩=>?_)
 cases d with
 | true=>exact ha pins s1 σ H1 D I1 q1
 | false=>exact hb pins s1 σ H1 D I1 q1
end
abbrev TG:=V->St->Hp->(St->Hp->Prop)->Prop
abbrev Ja:=List V->St->Hp->(St->Hp->Prop)->Prop
def PG (X:Cx) (target:Expr) (t:TG):Prop:=
 ∀(pins:List (Addr×Obj)) (s:Shared) (σ:St) (H:Hp) (v:V) (u:Value) (Q:St->Hp->Prop),Inv X pins σ H s->RelV v u->t v σ H Q->
  wpAny (model X.prog X.w) X.A (assign target X.env u) (fun _ s'=> ∃σ' H',Inv X pins σ' H' s'/\Q σ' H') X.xe s
def Oy (X:Cx) (ts:List Expr) (t:Ja):Prop:=
 ∀(pins:List (Addr×Obj)) (s:Shared) (σ:St) (H:Hp) (vs:List V) (us:List Value) (Q:St->Hp->Prop),Inv X pins σ H s->Vals vs us->t vs σ H Q->
  wpAny (model X.prog X.w) X.A (assignInOrder ((assignEach ts X.env).map (·.2)) us) (fun _ s'=> ∃σ' H',Inv X pins σ' H' s'/\Q σ' H') X.xe s
abbrev J_:=V->V->V->Hp->(Hp->Prop)->Prop
def Oz (X:Cx) (t:J_):Prop:=
 ∀(pins:List (Addr×Obj)) (s:Shared) (σ:St) (H:Hp) (o i v:V) (ov iv u:Value) (Q:Hp->Prop),Inv X pins σ H s->RelV o ov->RelV i iv->RelV v u->t o i v H Q->
  wpAny (model X.prog X.w) X.A (setItem ov iv u) (fun _ s'=> ∃H',Inv X pins σ H' s'/\Q H') X.xe s
abbrev QW:=V->V->Hp->VK->Prop
def OA (X:Cx) (op:Operator) (t:QW):Prop:=
 ∀(pins:List (Addr×Obj)) (s:Shared) (σ:St) (H:Hp) (x y:V) (v u:Value) (Q:VK),Inv X pins σ H s->RelV x v->RelV y u->t x y H Q->
  wpAny (model X.prog X.w) X.A (inplaceOp op v u) (EP X pins σ Q) X.xe s
section
variable {X:Cx} {pos:Pos}
def CV (i:Nat):TG:=fun v σ H Q=>Q (σ.set i (some v)) H
theorem aK {i:Nat} {x:Str} (hN:X.N.Nodup) (hi:X.N[i]? =some x) (hx:Loc X.env.scope x) (hf:X.fn x=true\/X.env.scope.names.lookup x=some .local:=by first | exact .inl rfl | exact .inr rfl | assumption):PG X (.Name x pos) (CV i):=by
 intro pins s σ H v u Q I r h
 exact wpAny_assign_Name (iN I hN hi hx r (fun s' I'=>⟨_,H,I',h⟩) hf)
def Sj:Ja:=fun vs σ H Q=>vs=[]/\Q σ H
def OB (t:TG) (u:Ja):Ja:=fun vs σ H Q=> ∃v r,vs=v::r/\t v σ H fun σ' H'=>u r σ' H' Q
theorem fJ:Oy X [] Sj:=by
 intro pins s σ H vs us Q I r h
 obtain ⟨e,h⟩:=h
 subst e
 cases r
 exact assignInOrder_nil ⟨σ,H,I,h⟩
theorem bI {e:Expr} {es:List Expr} {t:TG} {u:Ja} (h1:PG X e t) (h2:Oy X es u)
  (hs:(assignEach (e::es) X.env).map (·.2)=assign e X.env::(assignEach es X.env).map (·.2):=by rfl):Oy X (e::es) (OB t u):=by
 intro pins s σ H vs us Q I r h
 obtain ⟨v,vr,e1,h⟩:=h
 subst e1
 cases r with
 | cons r rr=>
  rw[hs]
  refine assignInOrder_cons (cg (h1 pins s σ H _ _ _ I r h) fun _ s1 ⟨σ1,H1,I1,q1⟩=>?_)
  exact h2 pins s1 σ1 H1 _ _ Q I1 rr q1
def OC (K:PySem.W.Frag) (n:Nat) (t:Ja):TG:=fun v σ H Q=> ∃a xs,v= .ref a/\bV K H a xs/\xs.length=n/\t xs σ H Q
theorem Ka {es:List Expr} {k:Nat} {t:Ja} {n:Nat} (hc:X.calm=true) (h:Oy X es t)
  (hn:(assignEach es X.env).length=n:=by rfl) (kx:(assignEach es X.env).findIdx? (·.1)=none:=by rfl):PG X (.Tuple es k pos) (OC X.K n t):=by
 intro pins s σ H v u Q I r hw
 obtain ⟨a,xs,e1,hq,hl,hw⟩:=hw
 subst e1
 cases r
 obtain ⟨aJ,rv,ht,hz⟩:=I.tuple hq
 refine assign_Tuple_tuple (I.ok.hd hc) ht (by simp[hn, <-hl,rv.length]) kx fun h' hx=>?_
 have I1:Inv X pins σ H { s with heap:=h' }:=I.kept (t':=s.toks) fun b o e=>hx b o (ZH (ZC e)) e
 exact h pins _ σ H xs _ Q I1 (by simpa using rv) hw
def Sk (to ti:TE) (t:J_):TG:=fun v σ H Q=>to σ H fun o H1=>ti σ H1 fun i H2=>t o i v H2 fun H3=>Q σ H3
theorem CY {o i:Expr} {to ti:TE} {t:J_} (ho:PE X o to) (hi:PE X i ti) (hs:Oz X t)
  (ha: ∀v,assign (.Subscript o i pos) X.env v=(do
   let ov <-holding [v] (eval o X.env)
   let iv <-holding [v,ov] (eval i X.env)
   standAt pos
   holding [v,ov,iv] (setItem ov iv v)
   release [v,ov,iv] []):=by intro _;rfl):PG X (.Subscript o i pos) (Sk to ti t):=by
 intro pins s σ H v u Q I r h
 rw[ha]
 refine wpAny_bind (wpAny_holding (cg (ho pins s σ H _ I h) fun ov s1 ⟨x,H1,I1,r1,q1⟩=>?_))
 refine wpAny_bind (wpAny_holding (cg (hi pins s1 σ H1 _ I1 q1) fun iv s2 ⟨y,H2,I2,r2,q2⟩=>?_))
 refine wpAny_bind (wpAny_standAt (wpAny_bind (wpAny_holding (cg (hs pins s2 σ H2 x y v ov iv u _ I2 r1 r2 r q2) fun _ s3 ⟨H3,I3,q3⟩=>?_))))
 exact wpAny_release ⟨σ,H3,I3,q3⟩
def OD (te:TE) (g:TG):TS:=fun D σ H=>te σ H fun x H1=>g x σ H1 D.nx
theorem xG {tg e:Expr} {te:TE} {g:TG} (he:PE X e te) (hg:PG X tg g) (hs:swapsWithSole [tg] e pos.line X.env=pure false:=by rfl) (hw:swappedStores [tg] e X.env=pure none:=by rfl)
  (h1:(assignEach [tg] X.env).map (·.2)=[assign tg X.env]:=by rfl):PS X (.Assign [tg] e pos) (OD te g):=by
 intro pins s σ H D I h
 refine wpAny_Assign_stores (cg (he pins s σ H _ I h) fun v s1 ⟨x,H1,I1,r1,q1⟩=>?_) hs hw
 rw[h1]
 exact cg (hg pins s1 σ H1 x v _ I1 r1 q1) fun _ s2 q=>q
theorem aq {i:Nat} {x:Str} {e:Expr} {te:TE} {pos':Pos} (hN:X.N.Nodup) (hi:X.N[i]? =some x) (hx:Loc X.env.scope x) (he:PE X e te) (hs:swapsWith e (some (.Name x pos')) pos.line X.env=pure false:=by rfl) (hf:X.fn x=true\/X.env.scope.names.lookup x=some .local:=by first | exact .inl rfl | exact .inr rfl | assumption):
  PS X (.Assign [.Name x pos'] e pos) (OD te (CV i)):=by
 intro pins s σ H D I h
 refine wpAny_Assign_Name (cg (he pins s σ H _ I h) fun v s1 ⟨y,H1,I1,r1,q1⟩=>?_) hs
 exact iN I1 hN hi hx r1 (fun s2 I2=>⟨_,H1,I2,q1⟩) hf
def Sl (i j:Nat) (ta:TA):TS:=fun D σ H=>ta σ H fun vs H1=> ∃v w,vs=[v,w]/\D.nx ((σ.set i (some v)).set j (some w)) H1
theorem xH {i j:Nat} {x y:Str} {a b:Expr} {ta:TA} {px py pt:Pos} {kt k2 Sm} (hc:X.calm=true) (hN:X.N.Nodup) (hi:X.N[i]? =some x) (hj:X.N[j]? =some y) (Wj:i≠j)
  (hx:X.env.scope.names.lookup x=some .local) (hy:X.env.scope.names.lookup y=some .local) (ha:PA X [a,b] ta)
  (hw:swappedStores [.Tuple [.Name x px, .Name y py] kt pt] (.Tuple [a,b] k2 Sm) X.env=pure (some [x,y]))
  (hs:swapsWithSole [.Tuple [.Name x px, .Name y py] kt pt] (.Tuple [a,b] k2 Sm) pos.line X.env=pure false:=by rfl):
  PS X (.Assign [.Tuple [.Name x px, .Name y py] kt pt] (.Tuple [a,b] k2 Sm) pos) (Sl i j ta):=by
 intro pins s σ H D I h
 rw[exec_Assign_arm]
 refine wpAny_bind (wpAny_standAt ?_)
 rw[hs]
 refine wpAny_bind (wpAny_pure ?_)
 rw[if_neg (by decide)]
 refine wpAny_bind (Tuple_ (cg (ha _ pins s σ H _ I h) fun us s1 ⟨vs,H1,I1,r1,q1⟩=>?_))
 obtain ⟨v,w,e1,q1⟩:=q1
 subst e1
 obtain ⟨u1,u2,rfl,rv,sR⟩: ∃u1 u2,us=[u1,u2]/\RelV v u1/\RelV w u2:=by
  cases r1 with
  | cons p q=>
   cases q with
   | cons p' q'=>
    cases q'
    exact ⟨_,_,rfl,p,p'⟩
 refine wpAny_newObj_type ?_ (by show 2<=sizeLine;decide)
 have I2:Inv X pins σ H1 { s1 with heap:=s1.heap.push { cls:= .type "tuple",data:= .seq [u1,u2].toArray } }:=I1.kept (t':=s1.toks) fun b o e=>MD _ e
 rw[hw]
 refine wpAny_bind (wpAny_pure ?_)
 show wpAny (model X.prog X.w) X.A (do rule "assign.swapped-stores";let items <-unpackItems (.ref s1.heap.objs.size) 2 none;assignInOrder [fun v=>bindName X.env y v,fun v=>bindName X.env x v] items.reverse;pure Flow.next) _ _ _
 refine wpAny_bind (wpAny_rule (wpAny_bind (unpackItems_tuple (items:= #[u1,u2]) (I.ok.hd hc) (IsTup.new s1.heap _) fun h' Jb=>?_)))
 have I3:=I2.kept (h':=h') (t':=s1.toks) fun b o e=>Jb b o (ZH (ZC e)) e
 show wpAny _ _ (assignInOrder [fun v=>bindName X.env y v,fun v=>bindName X.env x v] [u2,u1] >>= fun _=>pure Flow.next) _ _ _
 refine wpAny_bind (assignInOrder_cons (wpAny_bindName (iN I3 hN hj (.inl hy) sR (fun s2 I4=>?_) (.inr hy))))
 refine assignInOrder_cons (wpAny_bindName (iN I4 hN hi (.inl hx) rv (fun s3 I5=>assignInOrder_nil (wpAny_pure ?_)) (.inr hx)))
 rw[List.set_comm _ _ (Ne.symm Wj)]at I5
 exact ⟨_,H1,I5,q1⟩
def So (i:Nat) (te:TE) (ti:QW):TS:=fun D σ H=> ∃x,σ[i]? =some (some x)/\te σ H fun y H1=>ti x y H1 fun z H2=>D.nx (σ.set i (some z)) H2
theorem j7 {i:Nat} {x:Str} {e:Expr} {te:TE} {op:Operator} {ti:QW} {pos':Pos} (hN:X.N.Nodup) (hi:X.N[i]? =some x) (hx:Loc X.env.scope x) (he:PE X e te) (ho:OA X op ti) (hf:X.fn x=true\/X.env.scope.names.lookup x=some .local:=by first | exact .inl rfl | exact .inr rfl | assumption):
  PS X (.AugAssign (.Name x pos') op e pos) (So i te ti):=by
 intro pins s σ H D I h
 obtain ⟨v,e1,h⟩:=h
 obtain ⟨m,hn,hl⟩:=I.loc
 have Wl:Ol X.env.scope x:=by rcases hx with k | k;exact .inl k;exact .inr (.inl k)
 obtain ⟨u,r,l⟩:=hl i x v hi e1 Wl
 refine wpAny_AugAssign_Name ?_
 have go:wpAny (model X.prog X.w) X.A (eval e X.env) (fun w s₂=>wpAny (model X.prog X.w) X.A (inplaceOp op u w) (fun r s₃=>wpAny (model X.prog X.w) X.A (storeName X.env x r) (fun _=>SP X pins D .next) X.xe s₃) X.xe s₂) X.xe s:=by
  refine cg (he pins s σ H _ I h) fun w s1 ⟨y,H1,I1,r1,q1⟩=>?_
  refine cg (ho pins s1 σ H1 v y u w _ I1 r r1 q1) fun z s2 ⟨zv,H2,I2,r2,q2⟩=>?_
  exact iN I2 hN hi hx r2 (fun s3 I3=>⟨_,H2,I3,q2⟩) hf
 rcases l with ⟨hk,hm⟩ | ⟨hk,c,hc,iO⟩
 ·exact wpAny_loadName_local I.ok.kind hk hn hm go
 ·rcases hk with hk | hk
  ·exact wpAny_loadName_cell I.ok.kind hk hc iO go
  ·rcases hx with k | k
   ·have:X.env.scope.names.lookup x=some .free:=hk
    rw[k]at this;cases this
   ·have:X.env.scope.names.lookup x=some .free:=hk
    rw[k]at this;cases this
def UM (f:Int->Int->Int):QW:=fun x y H Q=> ∃i j,x= .int i/\y= .int j/\Q (.int (f i j)) H
theorem sS:OA X .Add (UM fun i j=>i+j):=by
 intro pins s σ H x y v u Q I r1 r2 h
 obtain ⟨i,j,e1,e2,q⟩:=h
 subst e1;subst e2
 obtain ⟨t,rfl⟩:=r1
 obtain ⟨t',rfl⟩:=r2
 exact iadd_int ⟨.int _,H,I.tok _,⟨_,rfl⟩,q⟩
theorem Kb:OA X .Sub (UM fun i j=>i - j):=by
 intro pins s σ H x y v u Q I r1 r2 h
 obtain ⟨i,j,e1,e2,q⟩:=h
 subst e1;subst e2
 obtain ⟨t,rfl⟩:=r1
 obtain ⟨t',rfl⟩:=r2
 exact isub_int ⟨.int _,H,I.tok _,⟨_,rfl⟩,q⟩
end
section
variable {X:Cx} {pos:Pos}
end
structure It where
 go:Nat->Hp->Prop
 CG:Nat->Hp->V->Hp->Prop
 stop:Nat->Hp->Prop
def ni (X:Cx) (pins:List (Addr×Obj)) (H:Hp) (b:Addr):Prop:=
 H b=none/\b≠X.env.locals/\b∉X.fs/\(b∈X.ex\/X.s₀.heap.objs.size<=b)/\(∀x c,X.env.cells.lookup x=some c->c≠b)/\ ∀p∈X.pn++pins,p.1≠b
theorem Inv.ou {X:Cx} {pins:List (Addr×Obj)} {σ:St} {H H':Hp} {s:Shared} {b:Addr} (I:Inv X pins σ H s) (hb:s.heap.objs.size<=b) (hn:H' b=none):ni X pins H' b:=by
 refine ⟨hn,Qdk (ZM I.lt hb),I.J0 hb, .inr (ZW I.sz hb),fun x c e z=>?_,fun p hp z=>?_⟩
 ·obtain ⟨v,q⟩:=I.cell x c e
  exact absurd (ZM q.lt (by rw[z];exact hb)) (kb _)
 ·exact absurd (ZM (ZC (I.pin p hp).1) (by rw[z];exact hb)) (kb _)
structure Turn (P:Program) (w:World) (K:PySem.W.Frag) (tg:Expr) (J:It) (fp:List Addr) (it:Addr) (tn:Nat->Heap->Prop):Prop where
 mem:it∈fp
 obj: ∀i h,tn i h-> ∀b∈fp, ∃o,h.get? b=some o/\ ∀v,o.data≠ .cell v
 keep: ∀i h h',tn i h->(∀b∈fp, ∀o,h.get? b=some o->h'.get? b=some o)->tn i h'
 item: ∀(X:Cx),X.prog=P->X.w=w->X.K=K->X.calm=true-> ∀(i:Nat) (pins:List (Addr×Obj)) (s:Shared) (σ:St) (H:Hp) (E:Value->Shared->Prop),Inv X pins σ H s->(∀b∈fp,ni X pins H b)->tn i s.heap->J.go i H->
  wpAny (model P w) X.A (pyNext (.ref it)) (fun r s1=> ∃u,r=some u/\
   wpAny (model P w) X.A (letOwnedTupleGo tg (.ref it) u) (fun _ s2=> ∃x H',Inv X pins σ H' s2/\RelV x u/\J.CG i H x H'/\tn (i+1) s2.heap/\ ∀b∈fp,H' b=none) E s1) E s
 done: ∀(X:Cx),X.prog=P->X.w=w->X.K=K->X.calm=true-> ∀(i:Nat) (pins:List (Addr×Obj)) (s:Shared) (σ:St) (H:Hp) (E:Value->Shared->Prop),Inv X pins σ H s->(∀b∈fp,ni X pins H b)->tn i s.heap->J.stop i H->
  wpAny (model P w) X.A (pyNext (.ref it)) (fun r s1=>r=none/\Inv X pins σ H s1) E s
 self: ∀(A:Around) (i:Nat) (s:Shared) (Q:Value->Shared->Prop) (E:Value->Shared->Prop),tn i s.heap->Q (.ref it) s->wpAny (model P w) A (pyIter (.ref it)) Q E s
abbrev TI:=St->Hp->(It->Hp->Prop)->Prop
def UN (X:Cx) (pins:List (Addr×Obj)) (σ:St) (tg:Expr) (R:It->Hp->Prop) (Sq:Value) (s2:Shared):Prop:=
 ∃(it:Addr) (fp:List Addr) (tn:Nat->Heap->Prop) (J:It) (H':Hp),Sq= .ref it/\Inv X pins σ H' s2/\Turn X.prog X.w X.K tg J fp it tn/\tn 0 s2.heap/\(∀b∈fp,ni X pins H' b)/\R J H'
def PI (X:Cx) (tg iter:Expr) (wi:TI):Prop:=
 ∀(pins:List (Addr×Obj)) (s:Shared) (σ:St) (H:Hp) (R:It->Hp->Prop),Inv X pins σ H s->wi σ H R->
  wpAny (model X.prog X.w) X.A (eval iter X.env) (fun v s1=>wpAny (model X.prog X.w) X.A (pyIter v) (UN X pins σ tg R) X.xe s1) X.xe s
theorem vm {M:Model} {A:Around} {E:Value->Shared->Prop} {s:Shared} {tg:Expr} {it:Addr} {u:Value} {o:Obj} {n:String} {vs:Array Value} {Q:Unit->Shared->Prop} (ho:s.heap.get? it=some o) (hc:o.cls= .type n) (hd:o.data= .fields vs)
  (hn:["enumerate","zip","dict_itemiterator","dict_reverseitemiterator","odict_iterator","itertools.zip_longest","itertools.pairwise"].contains n=false) (hQ:Q () s):wpAny M A (letOwnedTupleGo tg (.ref it) u) Q E s:=by
 unfold letOwnedTupleGo
 cases tg<;>first
  | exact wpAny_pure hQ
  |(cases u<;>first
    | exact wpAny_pure hQ
    |(refine wpAny_bind (wpAny_load ho ?_)
      rw[hc,hd]
      show wpAny M A (if (["enumerate","zip","dict_itemiterator","dict_reverseitemiterator","odict_iterator","itertools.zip_longest","itertools.pairwise"].contains n&&vs[0]? ==some (rawInt _))=true then _ else _) Q E s
      rw[if_neg (by intro h;rw[hn,Bool.false_and]at h;cases h)]
      exact wpAny_pure hQ))
noncomputable def Mx (K:PySem.W.Frag) (a:Addr):It:=
 ⟨fun i H=> ∃xs x,br K H a xs/\xs[i]? =some x,fun i H x H'=>H'=H/\ ∀xs,br K H a xs->xs[i]? =some x,fun i H=> ∃xs,br K H a xs/\xs.length<=i⟩
noncomputable def Mz (K:PySem.W.Frag) (a:Addr):It:=
 ⟨fun i H=> ∃xs x,bV K H a xs/\xs[i]? =some x,fun i H x H'=>H'=H/\ ∀xs,bV K H a xs->xs[i]? =some x,fun i H=> ∃xs,bV K H a xs/\xs.length<=i⟩
noncomputable def Jc (lo:Int) (n:Nat):It:=⟨fun i _=>i<n,fun i H x H'=>H'=H/\x= .int (lo+i),fun i _=>n<=i⟩
theorem A_ {P:Program} {w:World} {K:PySem.W.Frag} {tg:Expr} (a it:Addr):Turn P w K tg (Mx K a) [it] it (fun i h=>h.IsListIter it a i) where
 mem:=by simp
 obj:=fun i h st b hb=>by
  have e:b=it:=by simpa using hb
  subst e
  obtain ⟨o,e,c,d⟩:=st
  exact ⟨o,e,fun v z=>by rw[d]at z;cases z⟩
 keep:=fun i h h' st k=>st.at fun o e=>k it (by simp) o e
 item:=by
  intro X hP hw hK hc i pins s σ H E I hf st hg
  subst hP hw hK
  obtain ⟨xs,x,hq,hx⟩:=hg
  obtain ⟨aJ,rv,p,hz⟩:=I.list hq
  obtain ⟨u,hu,ru⟩:=rv.get hx
  obtain ⟨f0,f1,f2,f3,f4,f5⟩:=hf it (by simp)
  refine wpAny_pyNext_list_item st p.isList (x:=u) (by simpa using hu) fun h' lM sb=>?_
  have I1:Inv X pins σ H { s with heap:=h' }:=I.turned (t':=s.toks) (fun b o hb e=>(sb.2 b hb).trans e) f0 f1 f3 f4 f5
  obtain ⟨o,e,c,d⟩:=id lM
  exact ⟨u,rfl,vm (s:={ s with heap:=h' }) e c d (by decide) ⟨x,H,I1,ru,⟨rfl,fun ys hy=>by rw[I.vh hy hq];exact hx⟩,lM,fun b hb=>(hf b hb).1⟩⟩
 done:=by
  intro X hP hw hK hc i pins s σ H E I hf st hg
  subst hP hw hK
  obtain ⟨xs,hq,hx⟩:=hg
  obtain ⟨aJ,rv,p,hz⟩:=I.list hq
  obtain ⟨f0,f1,f2,f3,f4,f5⟩:=hf it (by simp)
  have hl:=rv.length
  exact wpAny_pyNext_list_end (I.ok.hd hc) st p.isList (by simp;omega) fun h' eb=>⟨rfl,I.turned (t':=s.toks) (fun b o hb e=>eb b o hb e) f0 f1 f3 f4 f5⟩
 self:=fun _ _ _ _ _ st h=>wpAny_pyIter_listiter st h
theorem xI {P:Program} {w:World} {K:PySem.W.Frag} {tg:Expr} (a it:Addr):Turn P w K tg (Mz K a) [it] it (fun i h=>h.IsTupleIter it a i) where
 mem:=by simp
 obj:=fun i h st b hb=>by
  have e:b=it:=by simpa using hb
  subst e
  obtain ⟨o,e,c,d⟩:=st
  exact ⟨o,e,fun v z=>by rw[d]at z;cases z⟩
 keep:=fun i h h' st k=>st.at fun o e=>k it (by simp) o e
 item:=by
  intro X hP hw hK hc i pins s σ H E I hf st hg
  subst hP hw hK
  obtain ⟨xs,x,hq,hx⟩:=hg
  obtain ⟨aJ,rv,p,hz⟩:=I.tuple hq
  obtain ⟨u,hu,ru⟩:=rv.get hx
  obtain ⟨f0,f1,f2,f3,f4,f5⟩:=hf it (by simp)
  refine wpAny_pyNext_tuple_item st (show s.heap.IsTuple a aJ.toArray from p) (x:=u) (by simpa using hu) fun h' lM sb=>?_
  have I1:Inv X pins σ H { s with heap:=h' }:=I.turned (t':=s.toks) (fun b o hb e=>(sb.2 b hb).trans e) f0 f1 f3 f4 f5
  obtain ⟨o,e,c,d⟩:=id lM
  exact ⟨u,rfl,vm (s:={ s with heap:=h' }) e c d (by decide) ⟨x,H,I1,ru,⟨rfl,fun ys hy=>by rw[I.qQ hy hq];exact hx⟩,lM,fun b hb=>(hf b hb).1⟩⟩
 done:=by
  intro X hP hw hK hc i pins s σ H E I hf st hg
  subst hP hw hK
  obtain ⟨xs,hq,hx⟩:=hg
  obtain ⟨aJ,rv,p,hz⟩:=I.tuple hq
  obtain ⟨f0,f1,f2,f3,f4,f5⟩:=hf it (by simp)
  have hl:=rv.length
  exact wpAny_pyNext_tuple_end (I.ok.hd hc) st (show s.heap.IsTuple a aJ.toArray from p) (by simp;omega) fun h' eb=>⟨rfl,I.turned (t':=s.toks) (fun b o hb e=>eb b o hb e) f0 f1 f3 f4 f5⟩
 self:=fun _ _ _ _ _ st h=>wpAny_pyIter_tupleiter st h
theorem xJ {P:Program} {w:World} {K:PySem.W.Frag} {tg:Expr} (it:Addr) (lo:Int) (n:Nat):Turn P w K tg (Jc lo n) [it] it (fun i h=>IsRangeIter h it (lo+(i:Nat)*1) ((n:Int) - (i:Nat)) 1) where
 mem:=by simp
 obj:=fun i h st b hb=>by
  have e:b=it:=by simpa using hb
  subst e
  exact ⟨_,st,fun v z=>by
   have z':Data.fields _=Data.cell v:=z
   cases z'⟩
 keep:=fun i h h' st k=>k it (by simp) _ st
 item:=by
  intro X hP hw hK hc i pins s σ H E I hf st hg
  subst hP hw hK
  obtain ⟨f0,f1,f2,f3,f4,f5⟩:=hf it (by simp)
  have W:=Walks.range (prog:=X.prog) (w:=X.w) (I.ok.hd hc) it lo 1 n
  refine W.item i s _ _ hg st fun v h' tk hv lM kk=>?_
  obtain ⟨t,rfl⟩:=hv
  have I1:Inv X pins σ H { s with heap:=h',toks:=tk }:=I.turned (fun b o hb e=>kk b o (by simpa using hb) e) f0 f1 f3 f4 f5
  refine ⟨_,rfl,vm (s:={ s with heap:=h',toks:=tk }) (n:="range_iterator") lM rfl rfl (by decide) ⟨.int (lo+i),H,I1,⟨t,?_⟩,⟨rfl,rfl⟩,lM,fun b hb=>(hf b hb).1⟩⟩
  rw[Int.mul_one]
 done:=by
  intro X hP hw hK hc i pins s σ H E I hf st hg
  subst hP hw hK
  obtain ⟨f0,f1,f2,f3,f4,f5⟩:=hf it (by simp)
  exact wpAny_pyNext_range_end (I.ok.hd hc) st (by have:n<=i:=hg;omega) fun h' eb=>⟨rfl,I.turned (t':=s.toks) (fun b o hb e=>eb b o hb e) f0 f1 f3 f4 f5⟩
 self:=fun _ _ _ _ _ st h=>wpAny_pyIter_rangeiter st h
section
variable {X:Cx} {tg:Expr}
def Jd (K:PySem.W.Frag) (tl:TE):TI:=fun σ H R=>tl σ H fun x H1=> ∃a,x= .ref a/\(∃xs,br K H1 a xs)/\R (Mx K a) H1
def OE (K:PySem.W.Frag) (tl:TE):TI:=fun σ H R=>tl σ H fun x H1=> ∃a,x= .ref a/\(∃xs,bV K H1 a xs)/\R (Mz K a) H1
theorem GG {l:Expr} {tl:TE} (hl:PE X l tl):PI X tg l (Jd X.K tl):=by
 intro pins s σ H R I h
 refine cg (hl pins s σ H _ I h) fun v s1 ⟨x,H1,I1,r1,q1⟩=>?_
 obtain ⟨a,e,⟨xs,hq⟩,q⟩:=q1
 subst e
 cases r1
 obtain ⟨aJ,rv,p,hz⟩:=I1.list hq
 refine wpAny_pyIter_list p.isList ?_
 refine ⟨s1.heap.objs.size,[s1.heap.objs.size],_,_,H1,rfl,I1.kept (t':=s1.toks) fun b o e=>MD _ e,A_ a _,⟨_,ZF _ rfl,rfl,rfl⟩,fun b hb=>?_,q⟩
 have e:b=s1.heap.objs.size:=by simpa using hb
 subst e
 exact I1.ou (Q3 _) (I1.bW.fresh (Q3 _))
theorem Kc {l:Expr} {tl:TE} (hl:PE X l tl):PI X tg l (OE X.K tl):=by
 intro pins s σ H R I h
 refine cg (hl pins s σ H _ I h) fun v s1 ⟨x,H1,I1,r1,q1⟩=>?_
 obtain ⟨a,e,⟨xs,hq⟩,q⟩:=q1
 subst e
 cases r1
 obtain ⟨aJ,rv,p,hz⟩:=I1.tuple hq
 refine wpAny_pyIter_tuple (show s1.heap.IsTuple a aJ.toArray from p) ?_
 refine ⟨s1.heap.objs.size,[s1.heap.objs.size],_,_,H1,rfl,I1.kept (t':=s1.toks) fun b o e=>MD _ e,xI a _,⟨_,ZF _ rfl,rfl,rfl⟩,fun b hb=>?_,q⟩
 have e:b=s1.heap.objs.size:=by simpa using hb
 subst e
 exact I1.ou (Q3 _) (I1.bW.fresh (Q3 _))
theorem vn {pins:List (Addr×Obj)} {σ:St} {H:Hp} {s:Shared} {R:It->Hp->Prop} {E:Value->Shared->Prop} {lo hi:Int} {t u v:Tok} {tk:Nat} (I:Inv X pins σ H s) (h1: -(2 ^ 62)<=lo) (h2:lo<2 ^ 62) (h3: -(2 ^ 62)<=hi) (h4:hi<2 ^ 62)
  (q:R (Jc lo (hi - lo).toNat) H):wpAny (model X.prog X.w) X.A (pyIter (.ref s.heap.objs.size)) (UN X pins σ tg R) E { s with heap:=s.heap.push { cls:= .type "range",data:= .fields #[.int lo t, .int hi u, .int 1 v] },toks:=tk }:=by
 refine wpAny_pyIter_range (IsRange.new ..) (small_one h1 h2 h3 h4) ?_
 have I1:Inv X pins σ H { s with heap:=s.heap.push { cls:= .type "range",data:= .fields #[.int lo t, .int hi u, .int 1 v] },toks:=tk }:=I.kept fun b o e=>MD _ e
 refine ⟨(s.heap.push { cls:= .type "range",data:= .fields #[.int lo t, .int hi u, .int 1 v] }).objs.size,[(s.heap.push { cls:= .type "range",data:= .fields #[.int lo t, .int hi u, .int 1 v] }).objs.size],_,_,H,rfl,
  I1.kept (t':=tk) fun b o e=>MD _ e,xJ _ lo (hi - lo).toNat,?_,fun b hb=>?_,q⟩
 ·have e1:lo+((0:Nat):Int)*1=lo:=by simp
  have e2:(((hi - lo).toNat:Nat):Int) - ((0:Nat):Int)=Builtin.Range.rangeSize lo hi 1:=by rw[rangeSize_one];split<;>omega
  show IsRangeIter _ _ (lo+((0:Nat):Int)*1) ((((hi - lo).toNat:Nat):Int) - ((0:Nat):Int)) 1
  rw[e1,e2]
  exact ZF _ rfl
 ·have e:b=(s.heap.push { cls:= .type "range",data:= .fields #[.int lo t, .int hi u, .int 1 v] }).objs.size:=by simpa using hb
  subst e
  exact I1.ou (Q3 _) (I1.bW.fresh (Q3 _))
def OF (ta:TA):TI:=fun σ H R=>ta σ H fun vs H1=> ∃j:Int,vs=[.int j]/\ -(2 ^ 62)<=j/\j<2 ^ 62/\R (Jc 0 j.toNat) H1
def OG (ta:TA):TI:=fun σ H R=>ta σ H fun vs H1=> ∃i j:Int,vs=[.int i, .int j]/\(-(2 ^ 62)<=i/\i<2 ^ 62/\ -(2 ^ 62)<=j/\j<2 ^ 62)/\R (Jc i (j - i).toNat) H1
theorem eJ {a:Expr} {ta:TA} {p pos:Pos} (hg:Gl X "range") (hm:X.mg "range"=none) (ha:PA X [a] ta) (hs:starEach [a] X.env=[(false,eval a X.env)]:=by rfl):PI X tg (.Call (.Name "range" p) [a] [] pos) (OF ta):=by
 intro pins s σ H R I h
 refine Call_ (gw I hg hm boot_range (Qan (cg (ha pos pins s σ H _ I h) fun us s1 ⟨vs,H1,I1,r1,q1⟩=>?_) hs rfl))
 obtain ⟨j,e,q1,q2,q⟩:=q1
 subst e
 cases r1 with
 | cons r rr=>
  cases rr
  obtain ⟨t,rfl⟩:=r
  exact call_range_1 (vn I1 (by omega) (by omega) q1 q2 (by simpa using q))
theorem lU {a b:Expr} {ta:TA} {p pos:Pos} (hg:Gl X "range") (hm:X.mg "range"=none) (ha:PA X [a,b] ta) (hs:starEach [a,b] X.env=[(false,eval a X.env),(false,eval b X.env)]:=by rfl) (OH:starEach [b] X.env=[(false,eval b X.env)]:=by rfl):
  PI X tg (.Call (.Name "range" p) [a,b] [] pos) (OG ta):=by
 intro pins s σ H R I h
 refine Call_ (gw I hg hm boot_range (Qan (cg (ha pos pins s σ H _ I h) fun us s1 ⟨vs,H1,I1,r1,q1⟩=>?_) (by rw[hs,OH]) (by rw[OH];rfl)))
 obtain ⟨i,j,e,⟨q1,q2,q3,q4⟩,q⟩:=q1
 subst e
 cases r1 with
 | cons r rr=>
  cases rr with
  | cons r' rr=>
   cases rr
   obtain ⟨t,rfl⟩:=r
   obtain ⟨t',rfl⟩:=r'
   exact call_range_2 (vn I1 q1 q2 q3 q4 q)
def Sr (wi:TI) (g:TG) (tb:TS):TS:=fun D σ H=>wi σ H fun J H1=> ∃W:Nat->Nat->St->Hp->Prop,(∃m,W 0 m σ H1)/\ ∀i m σ H,W i m σ H->
 (J.stop i H/\D.nx σ H)\/(J.go i H/\ ∃N:St->Hp->Prop,(∀σ' H',N σ' H'-> ∃m',m'<m/\W (i+1) m' σ' H')/\ ∀x H',J.CG i H x H'->g x σ H' fun σ2 H2=>tb { D with nx:=N,ct:=N,bk:=D.nx } σ2 H2)
noncomputable def ow (fp:List Addr) (h:Heap):List (Addr×Obj):=fp.filterMap fun b=>(h.get? b).map fun o=>(b,o)
theorem g7 {fp:List Addr} {h:Heap} {b:Addr} {o:Obj} (hb:b∈fp) (e:h.get? b=some o):(b,o)∈ow fp h:=List.mem_filterMap.mpr ⟨b,hb,by rw[e];rfl⟩
theorem Ba {fp:List Addr} {h:Heap} {p:Addr×Obj} (hp:p∈ow fp h):p.1∈fp/\h.get? p.1=some p.2:=by
 obtain ⟨b,hb,e⟩:=List.mem_filterMap.mp hp
 cases q:h.get? b with
 | none=>rw[q]at e;cases e
 | some o=>
  rw[q]at e
  have e':(b,o)=p:=ZG e
  subst e'
  exact ⟨hb,q⟩
theorem Inv.pinned {pins:List (Addr×Obj)} {σ:St} {H:Hp} {s:Shared} {fp:List Addr} (I:Inv X pins σ H s) (hf: ∀b∈fp,ni X pins H b) (ho: ∀b∈fp, ∃o,s.heap.get? b=some o/\ ∀v,o.data≠ .cell v):Inv X (pins++ow fp s.heap) σ H s:=
 I.ky fun p hp=>(Zz.mp hp).elim (fun z=>I.pin p (ZS _ z)) fun z=>by
  obtain ⟨hb,e⟩:=Ba z
  obtain ⟨f0,f1,f2,_⟩:=hf p.1 hb
  obtain ⟨o,e',d⟩:=ho p.1 hb
  rw[e]at e';cases e'
  exact ⟨e,f0,f1,f2,d⟩
theorem Inv.kz {pins pl:List (Addr×Obj)} {σ:St} {H:Hp} {s:Shared} (I:Inv X (pins++pl) σ H s):Inv X pins σ H s:=I.ky fun p hp=>I.pin p (ZS _ (Qa9 _ hp))
theorem bT {iter:Expr} {body:List Stmt} {wi:TI} {g:TG} {tb:TS} {pos:Pos} (hp:PassesOwn (model X.prog X.w) X.A X.env X.xe) (hc:X.calm=true) (hi:PI X tg iter wi) (hg:PG X tg g) (hb:xE X body tb)
  (hs: ∀x,foldedSetIterable iter X.env x=pure x:=by intro _;rfl):PS X (.For tg iter body [] pos) (Sr wi g tb):=by
 intro pins s σ H D I h
 refine wpAny_For (cg (hi pins s σ H _ I h) fun v s1 h1=>cg h1 fun Sq s2 h2=>?_) hs
 obtain ⟨it,fp,tn,J,H2,e,I2,T,xo,f2,W,⟨m0,w0⟩,turn⟩:=h2
 subst e
 -- Wm stays true of Gg Kd objects through Gg loop
 have Ke: ∀{H':Hp},(∀b∈fp,H' b=none)-> ∀b∈fp,ni X pins H' b:=fun hn b hb=>⟨hn b hb,(f2 b hb).2⟩
 refine codeAny_forLoop_any (fun n s'=> ∃i σ' H',Inv X pins σ' H' s'/\tn i s'.heap/\(∀b∈fp,H' b=none)/\W i n σ' H') ?_ m0 ⟨0,σ,H2,I2,xo,fun b hb=>(f2 b hb).1,w0⟩
 rintro n s3 ⟨i,σ3,H3,I3,OI,OJ,w3⟩
 rcases turn i n σ3 H3 w3 with ⟨stop,qn⟩ | ⟨go,N,hN,step⟩
 ·refine wpAny_passesOwn hp (cg (T.done X rfl rfl rfl hc i pins s3 σ3 H3 X.xe I3 (Ke OJ) OI stop) fun r s4 ⟨hr,I4⟩=>?_)
  subst hr
  exact wpAny_execs_nil ⟨σ3,H3,I4,qn⟩
 ·refine wpAny_passesOwn hp (cg (T.item X rfl rfl rfl hc i pins s3 σ3 H3 X.xe I3 (Ke OJ) OI go) fun r s4 ⟨u,hr,h4⟩=>?_)
  subst hr
  refine wpAny_passesOwn hp (cg h4 fun _ s5 ⟨x,H5,I5,r5,y5,Kf,Ss⟩=>?_)
  have Su:=I5.pinned (Ke Ss) (T.obj _ _ Kf)
  refine wpAny_passesOwn hp (cg (hg _ s5 σ3 H5 x u _ Su r5 (step x H5 y5)) fun _ s6 ⟨σ6,H6,I6,q6⟩=>?_)
  refine wpAny_passesOwn hp (cg (hb _ s6 σ6 H6 _ I6 q6) fun f s7 q7=>?_)
  have again: ∀{σ7:St} {H7:Hp},Inv X (pins++ow fp s5.heap) σ7 H7 s7->N σ7 H7-> ∃m,m<n/\ ∃i σ' H',Inv X pins σ' H' s7/\tn i s7.heap/\(∀b∈fp,H' b=none)/\W i m σ' H':=fun {σ7 H7} I7 n7=>by
   obtain ⟨m',hm,w7⟩:=hN σ7 H7 n7
   refine ⟨m',hm,i+1,σ7,H7,I7.kz,T.keep _ _ _ Kf fun b hb o e=>(I7.pin (b,o) (ZS _ (ZS _ (g7 hb e)))).1,fun b hb=>?_,w7⟩
   obtain ⟨o,e,d⟩:=T.obj _ _ Kf b hb
   exact (I7.pin (b,o) (ZS _ (ZS _ (g7 hb e)))).2.1
  cases f with
  | next=>obtain ⟨σ7,H7,I7,n7⟩:=q7;exact again I7 n7
  | cont=>obtain ⟨σ7,H7,I7,n7⟩:=q7;exact again I7 n7
  | brk=>obtain ⟨σ7,H7,I7,q7⟩:=q7;exact ⟨σ7,H7,I7.kz,q7⟩
  | ret v=>obtain ⟨x7,σ7,H7,I7,r7,q7⟩:=q7;exact ⟨x7,σ7,H7,I7.kz,r7,q7⟩
end
theorem gM {K:PySem.W.Frag} {a:Addr} {xs:List V} {g:TG} {tb:TS} {D:Ends} {σ:St} {H:Hp} (Pv:Nat->St->Hp->Prop) (h0:Pv 0 σ H) (hl: ∀i σ H,i<=xs.length->Pv i σ H->br K H a xs)
  (hs: ∀i x σ H,xs[i]? =some x->Pv i σ H->g x σ H fun σ2 H2=>tb { D with nx:=Pv (i+1),ct:=Pv (i+1),bk:=D.nx } σ2 H2) (hd: ∀σ H,Pv xs.length σ H->D.nx σ H):
  ∃W:Nat->Nat->St->Hp->Prop,(∃m,W 0 m σ H)/\ ∀i m σ H,W i m σ H->
   ((Mx K a).stop i H/\D.nx σ H)\/((Mx K a).go i H/\ ∃N:St->Hp->Prop,(∀σ' H',N σ' H'-> ∃m',m'<m/\W (i+1) m' σ' H')/\ ∀x H',(Mx K a).CG i H x H'->g x σ H' fun σ2 H2=>tb { D with nx:=N,ct:=N,bk:=D.nx } σ2 H2):=by
 refine ⟨fun i m σ H=>m=xs.length - i/\i<=xs.length/\Pv i σ H,⟨xs.length,by simp,Y6 _,h0⟩,?_⟩
 rintro i m σ H ⟨rfl,hi,p⟩
 have q:=hl i σ H hi p
 by_cases cV:i<xs.length
 ·refine .inr ⟨⟨xs,xs[i],q,by simp[cV]⟩,Pv (i+1),fun σ' H' p'=>⟨xs.length - (i+1),by omega,rfl,cV,p'⟩,fun x H' y=>?_⟩
  obtain ⟨e,y⟩:=y
  subst e
  exact hs i x σ _ (y xs q) p
 ·have e:i=xs.length:=by omega
  subst e
  exact .inl ⟨⟨xs,q,Q3 _⟩,hd σ H p⟩
theorem sU {K:PySem.W.Frag} {a:Addr} {xs:List V} {g:TG} {tb:TS} {D:Ends} {σ:St} {H:Hp} (Pv:Nat->St->Hp->Prop) (h0:Pv 0 σ H) (hl: ∀i σ H,i<=xs.length->Pv i σ H->bV K H a xs)
  (hs: ∀i x σ H,xs[i]? =some x->Pv i σ H->g x σ H fun σ2 H2=>tb { D with nx:=Pv (i+1),ct:=Pv (i+1),bk:=D.nx } σ2 H2) (hd: ∀σ H,Pv xs.length σ H->D.nx σ H):
  ∃W:Nat->Nat->St->Hp->Prop,(∃m,W 0 m σ H)/\ ∀i m σ H,W i m σ H->
   ((Mz K a).stop i H/\D.nx σ H)\/((Mz K a).go i H/\ ∃N:St->Hp->Prop,(∀σ' H',N σ' H'-> ∃m',m'<m/\W (i+1) m' σ' H')/\ ∀x H',(Mz K a).CG i H x H'->g x σ H' fun σ2 H2=>tb { D with nx:=N,ct:=N,bk:=D.nx } σ2 H2):=by
 refine ⟨fun i m σ H=>m=xs.length - i/\i<=xs.length/\Pv i σ H,⟨xs.length,by simp,Y6 _,h0⟩,?_⟩
 rintro i m σ H ⟨rfl,hi,p⟩
 have q:=hl i σ H hi p
 by_cases cV:i<xs.length
 ·refine .inr ⟨⟨xs,xs[i],q,by simp[cV]⟩,Pv (i+1),fun σ' H' p'=>⟨xs.length - (i+1),by omega,rfl,cV,p'⟩,fun x H' y=>?_⟩
  obtain ⟨e,y⟩:=y
  subst e
  exact hs i x σ _ (y xs q) p
 ·have e:i=xs.length:=by omega
  subst e
  exact .inl ⟨⟨xs,q,Q3 _⟩,hd σ H p⟩
theorem dM {lo:Int} {n:Nat} {g:TG} {tb:TS} {D:Ends} {σ:St} {H:Hp} (Pv:Nat->St->Hp->Prop) (h0:Pv 0 σ H)
  (hs: ∀i σ H,i<n->Pv i σ H->g (.int (lo+i)) σ H fun σ2 H2=>tb { D with nx:=Pv (i+1),ct:=Pv (i+1),bk:=D.nx } σ2 H2) (hd: ∀σ H,Pv n σ H->D.nx σ H):
  ∃W:Nat->Nat->St->Hp->Prop,(∃m,W 0 m σ H)/\ ∀i m σ H,W i m σ H->
   ((Jc lo n).stop i H/\D.nx σ H)\/((Jc lo n).go i H/\ ∃N:St->Hp->Prop,(∀σ' H',N σ' H'-> ∃m',m'<m/\W (i+1) m' σ' H')/\ ∀x H',(Jc lo n).CG i H x H'->g x σ H' fun σ2 H2=>tb { D with nx:=N,ct:=N,bk:=D.nx } σ2 H2):=by
 refine ⟨fun i m σ H=>m=n - i/\i<=n/\Pv i σ H,⟨n,by simp,Y6 _,h0⟩,?_⟩
 rintro i m σ H ⟨rfl,hi,p⟩
 by_cases cV:i<n
 ·refine .inr ⟨cV,Pv (i+1),fun σ' H' p'=>⟨n - (i+1),by omega,rfl,cV,p'⟩,fun x H' y=>?_⟩
  obtain ⟨e,y⟩:=y
  subst e y
  exact hs i σ _ cV p
 ·have e:i=n:=by omega
  subst e
  exact .inl ⟨Q3 _,hd σ H p⟩
abbrev R2:=V->V->Hp->VK->Prop
def js (X:Cx) (f:Value->Value->Sem Value) (r:R2):Prop:=
 ∀(pins:List (Addr×Obj)) (s:Shared) (σ:St) (H:Hp) (x y:V) (v u:Value) (Q:VK),Inv X pins σ H s->RelV x v->RelV y u->r x y H Q->
  wpAny (model X.prog X.w) X.A (f v u) (EP X pins σ Q) X.xe s
def Sv (X:Cx) (f:Value->Sem Value) (r:V->Hp->VK->Prop):Prop:=
 ∀(pins:List (Addr×Obj)) (s:Shared) (σ:St) (H:Hp) (x:V) (v:Value) (Q:VK),Inv X pins σ H s->RelV x v->r x H Q->
  wpAny (model X.prog X.w) X.A (f v) (EP X pins σ Q) X.xe s
def cN (X:Cx) (f:Value) (r:List V->Hp->VK->Prop):Prop:=
 ∀(pins:List (Addr×Obj)) (s:Shared) (σ:St) (H:Hp) (xs:List V) (us:List Value) (Q:VK),Inv X pins σ H s->Vals xs us->r xs H Q->
  wpAny (model X.prog X.w) X.A (call f us) (EP X pins σ Q) X.xe s
def Sw (X:Cx) (r:V->Hp->(Bool->Hp->Prop)->Prop):Prop:=
 ∀(pins:List (Addr×Obj)) (s:Shared) (σ:St) (H:Hp) (x:V) (v:Value) (Q:Bool->Hp->Prop),Inv X pins σ H s->RelV x v->r x H Q->
  wpAny (model X.prog X.w) X.A (truthy v) (TP X pins σ Q) X.xe s
def QX (r:R2) (ta tb:TE):TE:=fun σ H Q=>ta σ H fun x H1=>tb σ H1 fun y H2=>r x y H2 Q
def Wn (r:V->Hp->VK->Prop) (ta:TE):TE:=fun σ H Q=>ta σ H fun x H1=>r x H1 Q
def rI (C:Int->Int->Prop) (g:Int->Int->V):R2:=fun x y H Q=> ∃i j,x= .int i/\y= .int j/\C i j/\Q (g i j) H
def Gh (g:Int->Int->V):R2:=fun x y H Q=> ∃i j,x= .int i/\y= .int j/\Q (g i j) H
def rU (g:Int->V):V->Hp->VK->Prop:=fun x H Q=> ∃i,x= .int i/\Q (g i) H
section
variable {X:Cx} {a b c:Expr} {ta tb tc:TE} {pos:Pos}
theorem Kg (ha:PE X a ta) (hb:PE X b tb) {pins:List (Addr×Obj)} {s:Shared} {σ:St} {H:Hp} {R:V->V->Hp->Prop} (I:Inv X pins σ H s)
  (h:ta σ H fun x H1=>tb σ H1 fun y H2=>R x y H2) {Q:Value->Shared->Prop} {f:Value->Value->Sem Value}
  (hf: ∀v u s2 x y H2,Inv X pins σ H2 s2->RelV x v->RelV y u->R x y H2->wpAny (model X.prog X.w) X.A (f v u) Q X.xe s2):
  wpAny (model X.prog X.w) X.A (eval a X.env) (fun v s₁=>wpAny (model X.prog X.w) X.A (eval b X.env) (fun u s₂=>wpAny (model X.prog X.w) X.A (f v u) Q X.xe s₂) X.xe s₁) X.xe s:=by
 refine cg (ha pins s σ H _ I h) fun v s1 ⟨x,H1,I1,r1,q1⟩=>?_
 refine cg (hb pins s1 σ H1 _ I1 q1) fun u s2 ⟨y,H2,I2,r2,q2⟩=>?_
 exact hf v u s2 x y H2 I2 r1 r2 q2
theorem aA {op:Operator} {r:R2} (ho:js X (binaryOp op) r) (ha:PE X a ta) (hb:PE X b tb):PE X (.BinOp a op b pos) (QX r ta tb):=by
 intro pins s σ H Q I h
 exact wpAny_BinOp (Kg ha hb I h fun v u s2 x y H2 I2 rx ry q=>ho pins s2 σ H2 x y v u Q I2 rx ry q)
theorem jP {op:UnaryOp} {r:V->Hp->VK->Prop} (ho:Sv X (unaryOp op) r) (ha:PE X a ta):PE X (.UnaryOp op a pos) (Wn r ta):=by
 intro pins s σ H Q I h
 exact UnaryOp_ (cg (ha pins s σ H _ I h) fun v s1 ⟨x,H1,I1,r1,q1⟩=>ho pins s1 σ H1 x v Q I1 r1 q1)
theorem QY {f:Value->Value->Sem Value} {C:Int->Int->Prop} {g:Int->Int->Int}
  (rule: ∀(i j:Int) (t u:Tok) (s:Shared) (Q:Value->Shared->Prop) (E:Value->Shared->Prop),C i j->Q (.int (g i j) s.toks) { s with toks:=s.toks+1 }->wpAny (model X.prog X.w) X.A (f (.int i t) (.int j u)) Q E s):
  js X f (rI C fun i j=> .int (g i j)):=by
 intro pins s σ H x y v u Q I rx ry h
 obtain ⟨i,j,rfl,rfl,hc,q⟩:=h
 obtain ⟨t,rfl⟩:=rx
 obtain ⟨t',rfl⟩:=ry
 exact rule i j t t' s _ _ hc ⟨.int (g i j),H,I.tok _,⟨_,rfl⟩,q⟩
theorem OK {f:Value->Value->Sem Value} {g:Int->Int->Int}
  (rule: ∀(i j:Int) (t u:Tok) (s:Shared) (Q:Value->Shared->Prop) (E:Value->Shared->Prop),Q (.int (g i j) s.toks) { s with toks:=s.toks+1 }->wpAny (model X.prog X.w) X.A (f (.int i t) (.int j u)) Q E s):
  js X f (Gh fun i j=> .int (g i j)):=by
 intro pins s σ H x y v u Q I rx ry h
 obtain ⟨i,j,rfl,rfl,q⟩:=h
 obtain ⟨t,rfl⟩:=rx
 obtain ⟨t',rfl⟩:=ry
 exact rule i j t t' s _ _ ⟨.int (g i j),H,I.tok _,⟨_,rfl⟩,q⟩
theorem GH {f:Value->Value->Sem Value} {g:Int->Int->Bool}
  (rule: ∀(i j:Int) (t u:Tok) (s:Shared) (Q:Value->Shared->Prop) (E:Value->Shared->Prop),Q (.bool (g i j)) s->wpAny (model X.prog X.w) X.A (f (.int i t) (.int j u)) Q E s):
  js X f (Gh fun i j=> .bl (g i j)):=by
 intro pins s σ H x y v u Q I rx ry h
 obtain ⟨i,j,rfl,rfl,q⟩:=h
 obtain ⟨t,rfl⟩:=rx
 obtain ⟨t',rfl⟩:=ry
 exact rule i j t t' s _ _ ⟨.bl (g i j),H,I,rfl,q⟩
def Sx (i j:Int):Prop:=0<j/\j<1073741824
def Sy (i j:Int):Prop:=0<=j/\j<=1000000/\i.natAbs<2 ^ 64
def GI (i j:Int):Prop:=(-(2 ^ 64)<i/\i<2 ^ 64)\/(-(2 ^ 64)<j/\j<2 ^ 64)
theorem GI.ok {i j:Int} (h:GI i j):IntMulOk i j:=by
 rcases h with ⟨h1,h2⟩ | ⟨h1,h2⟩
 ·exact .of_left (intBits_le_64 h1 h2)
 ·exact .of_right (intBits_le_64 h1 h2)
theorem aU:js X (binaryOp .Add) (Gh fun i j=> .int (i+j)):=OK fun _ _ _ _ _ _ _ q=>add_int q
theorem bN:js X (binaryOp .Sub) (Gh fun i j=> .int (i - j)):=OK fun _ _ _ _ _ _ _ q=>sub_int q
theorem iQ:js X (binaryOp .Mult) (rI GI fun i j=> .int (i*j)):=QY fun _ _ _ _ _ _ _ hc q=>mul_int q hc.ok
theorem dm:js X (binaryOp .Mod) (rI (fun _ j=>0<j) fun i j=> .int (i%j)):=QY fun i j _ _ _ _ _ hc q=>by
 have h1:(0:Int)<j:=hc
 exact mod_int' (by omega) (by rw[Int.fmod_eq_emod_of_nonneg i (by omega)];exact q)
theorem CZ:js X (binaryOp .Pow) (rI Sy fun i j=> .int (i ^ j.toNat)):=QY fun _ _ _ _ _ _ _ hc q=>pow_int_small hc.1 hc.2.1 hc.2.2 q
theorem Wo {f:Value->Sem Value} {g:Int->Int}
  (rule: ∀(i:Int) (t:Tok) (s:Shared) (Q:Value->Shared->Prop) (E:Value->Shared->Prop),Q (.int (g i) s.toks) { s with toks:=s.toks+1 }->wpAny (model X.prog X.w) X.A (f (.int i t)) Q E s):
  Sv X f (rU fun i=> .int (g i)):=by
 intro pins s σ H x v Q I rx h
 obtain ⟨i,rfl,q⟩:=h
 obtain ⟨t,rfl⟩:=rx
 exact rule i t s _ _ ⟨.int (g i),H,I.tok _,⟨_,rfl⟩,q⟩
theorem gz:Sv X (unaryOp .USub) (rU fun i=> .int (-i)):=Wo fun _ _ _ _ _ q=>neg_int q
end
noncomputable def OL:V->V->Bool
 | .ft, .ft=>true | .ft, .int _=>true | .int _, .ft=>true | .ft, .bl _=>true | .bl _, .ft=>true | .ft, .str _=>true | .str _, .ft=>true
 | .int _, .int _=>true | .bl _, .bl _=>true | .str _, .str _=>true | .zC _, .zC _=>true
 | .int _, .str _=>true | .str _, .int _=>true | .bl _, .str _=>true | .str _, .bl _=>true
 | _,_=>false
def Wq:R2:=fun x y H Q=>OL x y=true/\Q (.bl (decide (x=y))) H
def Wr:R2:=fun x y H Q=>OL x y=true/\Q (.bl (!decide (x=y))) H
theorem zL {i j:Int}:decide (V.int i=V.int j)=(i==j):=by
 rw[Qcb]
 simp
theorem C0 {i j:Bool}:decide (V.bl i=V.bl j)=(i==j):=by
 rw[Qcb]
 simp
theorem zM {i j:Str}:decide (V.str i=V.str j)=(i==j):=by
 rw[Qcb]
 simp
theorem zN {i j:Array UInt8}:decide (V.zC i=V.zC j)=(i.toList==j.toList):=by
 rw[Qcb]
 cases i
 cases j
 simp
section
variable {X:Cx} {a b c:Expr} {ta tb tc:TE} {pos:Pos}
theorem bu {pins:List (Addr×Obj)} {σ:St} {H:Hp} {s:Shared} {Q:VK} {k k':Bool} (I:Inv X pins σ H s) (q:Q (.bl k) H) (e:k=k'):EP X pins σ Q (.bool k') s:=by
 subst e
 exact ⟨.bl k,H,I,rfl,q⟩
theorem C1:js X (compareOp .Eq) Wq:=by
 intro pins s σ H x y v u Q I rx ry h
 obtain ⟨hs,q⟩:=h
 cases x with
 | ft=>
  cases rx
  cases y with
  | ft=>cases ry;exact PySem.EqNone.eq_none_none (bu I q (by simp))
  | bl j=>cases ry;exact PySem.EqNone.eq_none_bool (bu I q (by simp))
  | int j=>obtain ⟨t',rfl⟩:=ry;exact PySem.EqNone.eq_none_int (bu I q (by simp))
  | str j=>obtain ⟨t',rfl⟩:=ry;exact PySem.EqNone.eq_none_str (bu I q (by simp))
  | _=>exact absurd (show false=true from hs) ZI
 | bl i=>
  cases rx
  cases y with
  | ft=>cases ry;exact PySem.EqNone.eq_bool_none (bu I q (by simp))
  | bl j=>cases ry;exact eq_bool (bu I q C0)
  | str j=>obtain ⟨t',rfl⟩:=ry;exact PySem.EqMixed.eq_bool_str (bu I q (by simp))
  | _=>exact absurd (show false=true from hs) ZI
 | int i=>
  obtain ⟨t,rfl⟩:=rx
  cases y with
  | ft=>cases ry;exact PySem.EqNone.eq_int_none (bu I q (by simp))
  | int j=>obtain ⟨t',rfl⟩:=ry;exact eq_int (bu I q zL)
  | str j=>obtain ⟨t',rfl⟩:=ry;exact PySem.EqMixed.eq_int_str (bu I q (by simp))
  | _=>exact absurd (show false=true from hs) ZI
 | str i=>
  obtain ⟨t,rfl⟩:=rx
  cases y with
  | ft=>cases ry;exact PySem.EqNone.eq_str_none (bu I q (by simp))
  | bl j=>cases ry;exact PySem.EqMixed.eq_str_bool (bu I q (by simp))
  | int j=>obtain ⟨t',rfl⟩:=ry;exact PySem.EqMixed.eq_str_int (bu I q (by simp))
  | str j=>obtain ⟨t',rfl⟩:=ry;exact eq_str (bu I q zM)
  | _=>exact absurd (show false=true from hs) ZI
 | zC i=>
  obtain ⟨t,rfl⟩:=rx
  cases y with
  | zC j=>obtain ⟨t',rfl⟩:=ry;exact PySem.W.eq_bytes (bu I q zN)
  | _=>exact absurd (show false=true from hs) ZI
 | _=>cases y<;>exact absurd (show false=true from hs) ZI
theorem Je:js X (compareOp .NotEq) Wr:=by
 intro pins s σ H x y v u Q I rx ry h
 obtain ⟨hs,q⟩:=h
 cases x with
 | ft=>
  cases rx
  cases y with
  | ft=>cases ry;exact PySem.EqNone.ne_none_none (bu I q (by simp))
  | bl j=>cases ry;exact PySem.EqNone.ne_none_bool (bu I q (by simp))
  | int j=>obtain ⟨t',rfl⟩:=ry;exact PySem.EqNone.ne_none_int (bu I q (by simp))
  | str j=>obtain ⟨t',rfl⟩:=ry;exact PySem.EqNone.ne_none_str (bu I q (by simp))
  | _=>exact absurd (show false=true from hs) ZI
 | bl i=>
  cases rx
  cases y with
  | ft=>cases ry;exact PySem.EqNone.ne_bool_none (bu I q (by simp))
  | bl j=>cases ry;exact ne_bool (bu I q (congrArg not C0))
  | str j=>obtain ⟨t',rfl⟩:=ry;exact PySem.EqMixed.ne_bool_str (bu I q (by simp))
  | _=>exact absurd (show false=true from hs) ZI
 | int i=>
  obtain ⟨t,rfl⟩:=rx
  cases y with
  | ft=>cases ry;exact PySem.EqNone.ne_int_none (bu I q (by simp))
  | int j=>obtain ⟨t',rfl⟩:=ry;exact ne_int (bu I q (congrArg not zL))
  | str j=>obtain ⟨t',rfl⟩:=ry;exact PySem.EqMixed.ne_int_str (bu I q (by simp))
  | _=>exact absurd (show false=true from hs) ZI
 | str i=>
  obtain ⟨t,rfl⟩:=rx
  cases y with
  | ft=>cases ry;exact PySem.EqNone.ne_str_none (bu I q (by simp))
  | bl j=>cases ry;exact PySem.EqMixed.ne_str_bool (bu I q (by simp))
  | int j=>obtain ⟨t',rfl⟩:=ry;exact PySem.EqMixed.ne_str_int (bu I q (by simp))
  | str j=>obtain ⟨t',rfl⟩:=ry;exact ne_str (bu I q (congrArg not zM))
  | _=>exact absurd (show false=true from hs) ZI
 | zC i=>
  obtain ⟨t,rfl⟩:=rx
  cases y with
  | zC j=>obtain ⟨t',rfl⟩:=ry;exact PySem.W.ne_bytes (bu I q (congrArg not zN))
  | _=>exact absurd (show false=true from hs) ZI
 | _=>cases y<;>exact absurd (show false=true from hs) ZI
theorem gN:js X (compareOp .Lt) (Gh fun i j=> .bl (decide (i<j))):=GH fun _ _ _ _ _ _ _ q=>lt_int q
theorem Jf:js X (compareOp .LtE) (Gh fun i j=> .bl (decide (i<=j))):=GH fun _ _ _ _ _ _ _ q=>le_int q
theorem mW:js X (compareOp .Gt) (Gh fun i j=> .bl (decide (j<i))):=GH fun _ _ _ _ _ _ _ q=>gt_int q
theorem C2:js X (compareOp .GtE) (Gh fun i j=> .bl (decide (j<=i))):=GH fun _ _ _ _ _ _ _ q=>ge_int q
theorem Bb:js X (compareOp .Lt) (fun x y H Q=> ∃i j,x= .str i/\y= .str j/\Q (.bl (decide (i.cps.toList<j.cps.toList))) H):=by
 intro pins s σ H x y v u Q I rx ry h
 obtain ⟨i,j,rfl,rfl,q⟩:=h
 obtain ⟨t,rfl⟩:=rx
 obtain ⟨t',rfl⟩:=ry
 exact lt_str (bu I q rfl)
theorem Bc:js X (compareOp .In) (fun x y H Q=> ∃i j,x= .str i/\y= .str j/\Q (.bl (!(Builtin.Str.occurrences j i 0 j.length 1).isEmpty)) H):=by
 intro pins s σ H x y v u Q I rx ry h
 obtain ⟨i,j,rfl,rfl,q⟩:=h
 obtain ⟨t,rfl⟩:=rx
 obtain ⟨t',rfl⟩:=ry
 exact in_str (bu I q rfl)
theorem aL (b:Expr) {op:CmpOp} (h:op≠ .In:=by decide) (h2:op≠ .NotIn:=by decide):behindInMarks op b=false:=by
 have e1:(op==CmpOp.In)=false:=by cases op<;>first | rfl | exact absurd rfl h
 have e2:(op==CmpOp.NotIn)=false:=by cases op<;>first | rfl | exact absurd rfl h2
 cases b<;>simp[behindInMarks,e1,e2]
theorem fK {op:CmpOp} {r:R2} (ho:js X (compareOp op) r) (ha:PE X a ta) (hb:PE X b tb) (hm:behindInMarks op b=false):PE X (.Compare a [op] [b] pos) (QX r ta tb):=by
 intro pins s σ H Q I h
 exact wpAny_Compare1 (Kg ha hb I h fun v u s2 x y H2 I2 rx ry q=>ho pins s2 σ H2 x y v u Q I2 rx ry q) hm
def OM (t:TE):TT:=fun σ H Q=>t σ H fun x H'=> ∃k,x= .bl k/\Q k H'
theorem aG {op:CmpOp} {r:R2} (ho:js X (compareOp op) r) (ha:PE X a ta) (hb:PE X b tb) (hm:behindInMarks op b=false):PT X (.Compare a [op] [b] pos) (OM (QX r ta tb)):=by
 intro pins s σ H Q I h
 refine wpAny_isTrue_Compare1 (cg (ha pins s σ H _ I h) fun v s1 ⟨x,H1,I1,r1,q1⟩=>cg (hb pins s1 σ H1 _ I1 q1) fun u s2 ⟨y,H2,I2,r2,q2⟩=>
  cg (ho pins s2 σ H2 x y v u _ I2 r1 r2 q2) fun c s3 ⟨z,H3,I3,r3,k,e,q3⟩=>?_) hm
 subst e
 cases r3
 exact wpAny_truthy_bool ⟨H3,I3,q3⟩
def Sz (K:PySem.W.Frag) (x:V) (H:Hp) (k:Bool):Prop:=
 match x with
 | .ft=>k=false
 | .bl b=>k=b
 | .int i=>k=(i != 0)
 | .str y=>y.length<=sizeLine/\k=((y.length:Int) != 0)
 | .zC y=>y.size<=sizeLine/\k=((y.size:Int) != 0)
 | .ref p=>(∃xs,br K H p xs/\k=!xs.isEmpty)\/(∃xs,bV K H p xs/\k=!xs.isEmpty)\/ ∃aP,H p=some (.dK aP)/\k=!aP.isEmpty
 | _=>False
theorem xK {κ:Type} {aP:List (κ×V)} {vs:List (κ×Value)} (r:KV aP vs):(!vs.isEmpty)=!aP.isEmpty:=by
 cases r<;>rfl
theorem oz {xs:List V} {aJ:List Value} (r:Vals xs aJ):(!aJ.toArray.isEmpty)=!xs.isEmpty:=by
 cases r<;>simp
theorem fT:(sizeLine:Nat)<2 ^ 63:=by rw[sizeLine_eq];decide
theorem Kh:Sw X (fun x H Q=> ∃k,Sz X.K x H k/\Q k H):=by
 intro pins s σ H x v Q I rx h
 obtain ⟨k,e,q⟩:=h
 have hl:=fT
 have hs:sizeLine=16777216:=sizeLine_eq
 cases x with
 | ft=>
  cases rx
  have e':k=false:=e
  subst e'
  exact truthy_none ⟨H,I,q⟩
 | bl b=>
  cases rx
  have e':k=b:=e
  subst e'
  exact wpAny_truthy_bool ⟨H,I,q⟩
 | int i=>
  obtain ⟨t,rfl⟩:=rx
  have e':k=(i != 0):=e
  subst e'
  exact PySem.P.truthy_int ⟨H,I,q⟩
 | str y=>
  obtain ⟨t,rfl⟩:=rx
  obtain ⟨hy,e'⟩:y.length<=sizeLine/\k=((y.length:Int) != 0):=e
  subst e'
  exact PySem.P.truthy_str (by omega) ⟨H,I.tok _,q⟩
 | zC y=>
  obtain ⟨t,rfl⟩:=rx
  obtain ⟨hy,e'⟩:y.size<=sizeLine/\k=((y.size:Int) != 0):=e
  subst e'
  exact PySem.W.truthy_bytes (by omega) ⟨H,I.tok _,q⟩
 | ref p=>
  cases rx
  have e':(∃xs,br X.K H p xs/\k=!xs.isEmpty)\/(∃xs,bV X.K H p xs/\k=!xs.isEmpty)\/ ∃aP,H p=some (.dK aP)/\k=!aP.isEmpty:=e
  rcases e' with ⟨xs,hx,e'⟩ | ⟨xs,hx,e'⟩ | ⟨aP,hx,e'⟩
  ·subst e'
   obtain ⟨aJ,r,pl,hz⟩:=I.list hx
   have hlen:=r.length
   exact wpAny_truthy_list pl.isList (by simp only[WD];omega) ⟨H,I.tok _,by rw[oz r];exact q⟩
  ·subst e'
   obtain ⟨aJ,r,pl,hz⟩:=I.tuple hx
   have hlen:=r.length
   exact truthy_tuple pl (by simp only[WD];omega) ⟨H,I.tok _,by rw[oz r];exact q⟩
  ·subst e'
   obtain ⟨hz,hS,vs,r,m⟩:aP.length<=sizeLine/\(p==sysModules)=false/\ ∃vs,KV aP vs/\s.heap.DictOf (cB X.prog X.w) p vs:=I.bW p _ hx
   have hlen:aP.length=vs.length:=Paired.length r
   exact wpAny_truthy_dict hS m (by omega) ⟨H,I.tok _,by rw[xK r];exact q⟩
 | _=>exact (show False from e).elim
theorem xM:js X (binaryOp .Add) (fun x y H Q=> ∃i j,x= .str i/\y= .str j/\i.length+j.length<=sizeLine/\Q (.str (i++j)) H):=by
 intro pins s σ H x y v u Q I rx ry h
 obtain ⟨i,j,rfl,rfl,hz,q⟩:=h
 obtain ⟨t,rfl⟩:=rx
 obtain ⟨t',rfl⟩:=ry
 exact add_str (fun t' tk=>⟨.str (i++j),H,I.tok _,⟨_,rfl⟩,q⟩) hz
theorem vals1 {x:V} {us:List Value} (r:Vals [x] us): ∃u,us=[u]/\RelV x u:=by
 cases r with
 | cons r1 r2=>cases r2;exact ⟨_,rfl,r1⟩
theorem vals2 {x y:V} {us:List Value} (r:Vals [x,y] us): ∃u w',us=[u,w']/\RelV x u/\RelV y w':=by
 cases r with
 | cons r1 r2=>
  cases r2 with
  | cons r3 r4=>cases r4;exact ⟨_,_,rfl,r1,r3⟩
theorem Bd (hc:X.calm=true):cN X (.builtin "max") (fun xs H Q=> ∃i j,xs=[.int i, .int j]/\Q (.int (if j>i then j else i)) H):=by
 intro pins s σ H xs us Q I r h
 obtain ⟨i,j,rfl,q⟩:=h
 obtain ⟨u,w',rfl,⟨t,rfl⟩,⟨t',rfl⟩⟩:=vals2 r
 refine max_two_ints (I.ok.hd hc) fun h' tk k=>⟨_,H,I.kept k,?_,q⟩
 by_cases hj:j>i
 ·rw[if_pos hj,if_pos hj];exact ⟨_,rfl⟩
 ·rw[if_neg hj,if_neg hj];exact ⟨_,rfl⟩
theorem qR (hc:X.calm=true):cN X (.builtin "min") (fun xs H Q=> ∃i j,xs=[.int i, .int j]/\Q (.int (if j<i then j else i)) H):=by
 intro pins s σ H xs us Q I r h
 obtain ⟨i,j,rfl,q⟩:=h
 obtain ⟨u,w',rfl,⟨t,rfl⟩,⟨t',rfl⟩⟩:=vals2 r
 refine min_two_ints (I.ok.hd hc) fun h' tk k=>⟨_,H,I.kept k,?_,q⟩
 by_cases hj:j<i
 ·rw[if_pos hj,if_pos hj];exact ⟨_,rfl⟩
 ·rw[if_neg hj,if_neg hj];exact ⟨_,rfl⟩
theorem qS:cN X (.type "int") (fun xs H Q=>(∃i,xs=[.int i]/\Q (.int i) H)\/ ∃k,xs=[.bl k]/\Q (.int (if k then 1 else 0)) H):=by
 intro pins s σ H xs us Q I r h
 rcases h with ⟨i,rfl,q⟩ | ⟨k,rfl,q⟩
 ·obtain ⟨u,rfl,t,rfl⟩:=vals1 r
  exact call_int_int ⟨.int i,H,I,⟨_,rfl⟩,q⟩
 ·obtain ⟨u,rfl,r1⟩:=vals1 r
  cases r1
  exact call_int_bool ⟨.int (if k then 1 else 0),H,I.tok _,⟨_,rfl⟩,q⟩
theorem sV:cN X (.type "str") (fun xs H Q=> ∃i,xs=[.int i]/\i.natAbs.log2<1920/\Q (.str (toString i)) H):=by
 intro pins s σ H xs us Q I r h
 obtain ⟨i,rfl,hz,q⟩:=h
 obtain ⟨u,rfl,t,rfl⟩:=vals1 r
 exact PySem.P.str_of_int hz ⟨.str _,H,I.tok _,⟨_,rfl⟩,q⟩
end
structure Be (h:Heap) (x dx C:Addr) (mA:Str->Option Value):Prop where
 obj:h.get? x=some (PySem.W.instObj C dx)
 ns:h.Ns1 dx mA
 ne:dx≠x
theorem Bf {h:Heap} {dx:Addr} {mA:Str->Option Value} (n:h.Ns1 dx mA): ∃od,h.get? dx=some od/\ ∀name,PySem.W.lookIn name od=some (mA name):=by
 obtain ⟨o,es,ep,ho,hd,hk,_,hm⟩:=n
 refine ⟨o,ho,fun name=>?_⟩
 have e:=hm name
 unfold nsFind findBy at e
 rw[<-Array.find?_toList]at e
 unfold PySem.W.lookIn
 rw[hd]
 dsimp only
 split
 ·rename_i y q
  rw[q]at e
  exact congrArg some e
 ·rename_i q
  rw[q]at e
  have a:es.toList.any (·.refKey)=false:=by
   rw[Qd7]
   intro y hy
   obtain ⟨z,t,SA⟩:=hk y (Array.mem_toList_iff.mp hy)
   simp[DictEntry.refKey,SA]
  have a': ¬es.toList.any (·.refKey)=true:=by rw[a];exact ZI
  rw[if_neg a']
  exact congrArg some e
theorem Be.look {h:Heap} {x dx C:Addr} {mA:Str->Option Value} (I:Be h x dx C mA): ∃od,PySem.W.InstAt h x (PySem.W.instObj C dx) C (some od)/\ ∀name,PySem.W.lookIn name od=some (mA name):=
 let ⟨od,ho,hl⟩:=Bf I.ns
 ⟨od,⟨I.obj,rfl,rfl,ho⟩,hl⟩
section
variable {prog:Program} {w:World} {A:Around} {E:Value->Shared->Prop} {s:Shared} {K:PySem.W.Frag} {x dx C f:Addr} {mA:Str->Option Value} {name:Str} {v:Value}
theorem get_map {expr:Bool} {Q:Value->Shared->Prop} (X:K.In s.heap) (I:Be s.heap x dx C mA) (hg:PySem.W.plainGet K C name=true) (hh:PySem.W.hasDictIn K C=true)
  (ha:PySem.W.findIn K (.ref C) name=some none) (hv:mA name=some v) (Ws:PySem.W.handedIn v=true) (h:Q v { s with toks:=s.toks+1 }):
  wpAny (model prog w) A (getAttr (.ref x) name expr) Q E s:=by
 obtain ⟨od,J,hl⟩:=I.look
 exact PySem.W.get_value X J (PySem.W.plainGet_of hg).1 (PySem.W.findObj_own hh ha rfl (by rw[hl,hv])) Ws h
theorem GJ {ns:List Str} {Q:Unit->Shared->Prop} (X:K.In s.heap) (I:Be s.heap x dx C mA)
  (hs:PySem.W.findIn K (.ref C) "__setattr__"=some (some (.builtin "object.__setattr__"))) (hp:PySem.W.plainOver K C=true) (ht:PySem.W.takerIn K C name=some none) (hh:PySem.W.hasDictIn K C=true)
  (hw:PySem.Within mA ns) (hsz:ns.length<=sizeLine)
  (h: ∀h',Be h' x dx C (fun y=>if y=name then some v else mA y)->Heap.SameBut dx s.heap h'->Q () { s with heap:=h',toks:=s.toks+2 }):
  wpAny (model prog w) A (setAttr (.ref x) name v) Q E s:=by
 obtain ⟨od,J,hl⟩:=I.look
 refine PySem.W.set_plain X J hs (PySem.W.osa_open (s:={ s with toks:=s.toks+1 }) (r:=none) X J hp ht fun b=>?_)
 obtain ⟨cd,hc,R7⟩:=PySem.W.any_some hh
 have hx:s.heap.get? x=some ⟨.ref C,some dx, .plain, #[]⟩:=I.obj
 refine wpAny_bind (wpAny_pure (wpAny_bind (wpAny_bind (wpAny_loadPart hx (wpAny_bind (PySem.W.Looks.here (s:={ s with toks:=s.toks+1 }) (PySem.W.looks_clsIn X hc) ?_))))))
 rw[R7]
 refine wpAny_pure (a:=some dx) (wpAny_bind (wpAny_pure (wpAny_bind ?_)))
 refine wpAny_nsSet1 (s:={ s with toks:=s.toks+1 }) I.ns fun h' xN OH=>?_
 obtain ⟨oD,YY,YZ,Wt,Wu,Wv⟩:=xN.count (PySem.Within.cons name v hw)
 refine wpAny_bind (wpAny_lookBehind Wt (by rw[Wu];exact pastItsLine_dict (ZW Wv (by rw[ZQ];omega))) ?_)
 exact wpAny_pure (h _ ⟨(OH.2 _ (Ne.symm I.ne)).trans I.obj,xN,I.ne⟩ OH)
theorem C3 {R:Result->Shared->Prop} {vs:List Value} {kw:List (Str×Value)} (X:K.In s.heap) (hm:PySem.W.makesIn K C=true)
  (hi:PySem.W.findIn K (.ref C) "__init__"=some (some (.ref f))) (hf:PySem.W.typeIn K (.ref f)=some (.type "function"))
  (h:codeAny (model prog w) (A.under (.builtin "type.__call__" ⟨.ref C::vs,kw⟩)) (.call (.ref f) ⟨.ref (s.heap.objs.size+1)::vs,kw⟩) (PySem.W.InitBack (s.heap.objs.size+1) R)
   { s with heap:=(s.heap.push PySem.W.emptyDict).push (PySem.W.instObj C s.heap.objs.size) }):
  codeAny (model prog w) A (.call (.ref C) ⟨vs,kw⟩) R s:=by
 obtain ⟨hh,g,d,t,os⟩:=s
 exact PySem.W.make_core (PySem.W.makes_of X hm) (PySem.W.looks_findIn X hi) (fun self=>PySem.W.bind_fn X self hf) (.inl rfl) h
end
noncomputable def dS (f:Str) (v:V):List (Str×V)->List (Str×V)
 | []=>[(f,v)]
 |(g,x)::r=>if g=f then (g,v)::r else (g,x)::dS f v r
theorem aO (f g:Str) (v:V): ∀fs:List (Str×V),(dS f v fs).lookup g=if g=f then some v else fs.lookup g
 | []=>by
  show List.lookup g [(f,v)]=_
  by_cases h:g=f
  ·have hb:(g==f)=true:=beq_iff_eq.mpr h
   simp only[List.lookup,hb,if_pos h]
  ·have hb:(g==f)=false:=beq_eq_false_iff_ne.mpr h
   simp only[List.lookup,hb,if_neg h]
 |(k,x)::r=>by
  have ih:=aO f g v r
  rw[show dS f v ((k,x)::r)=(if k=f then (k,v)::r else (k,x)::dS f v r) from rfl]
  by_cases hk:k=f
  ·rw[if_pos hk]
   by_cases h:g=k
   ·have hb:(g==k)=true:=beq_iff_eq.mpr h
    simp only[List.lookup,hb,if_pos (h.trans hk)]
   ·have hb:(g==k)=false:=beq_eq_false_iff_ne.mpr h
    simp only[List.lookup,hb,if_neg (fun e:g=f=>h (e.trans hk.symm))]
  ·rw[if_neg hk]
   by_cases h:g=k
   ·have hb:(g==k)=true:=beq_iff_eq.mpr h
    simp only[List.lookup,hb,if_neg (fun e:g=f=>hk (h.symm.trans e))]
   ·have hb:(g==k)=false:=beq_eq_false_iff_ne.mpr h
    simp only[List.lookup,hb]
    exact ih
theorem lV (f:Str) (v:V): ∀fs:List (Str×V),f∈(dS f v fs).map (·.1)/\ ∀g,g∈fs.map (·.1)->g∈(dS f v fs).map (·.1)
 | []=>⟨by simp[dS],fun g h=>by simp at h⟩
 |(k,x)::r=>by
  obtain ⟨i1,i2⟩:=lV f v r
  rw[show dS f v ((k,x)::r)=(if k=f then (k,v)::r else (k,x)::dS f v r) from rfl]
  by_cases hk:k=f
  ·rw[if_pos hk]
   subst hk
   exact ⟨by simp,fun g h=>by simpa using h⟩
  ·rw[if_neg hk]
   refine ⟨?_,fun g h=>?_⟩
   ·rw[ZJ]
    exact Y4 _ i1
   ·rw[ZJ]at h ⊢
    rcases Y5.mp h with e | e
    ·exact Y5.mpr (.inl e)
    ·exact Y4 _ (i2 g e)
theorem mX (f:Str) (v:V): ∀fs:List (Str×V),(dS f v fs).length<=fs.length+1
 | []=>by simp[dS]
 |(k,x)::r=>by
  have ih:=mX f v r
  rw[show dS f v ((k,x)::r)=(if k=f then (k,v)::r else (k,x)::dS f v r) from rfl]
  by_cases hk:k=f
  ·rw[if_pos hk,ZQ,ZQ];omega
  ·rw[if_neg hk,ZQ,ZQ];omega
theorem lS.some_of {v:V} {o:Option Value} (r:lS (some v) o): ∃u,o=some u/\RelV v u:=by
 cases o with
 | none=>exact (show False from r).elim
 | some u=>exact ⟨u,rfl,r⟩
theorem Bg {v:V} {u:Value} (r:RelV v u):PySem.W.handedIn u=true:=by
 cases v with
 | ft=>cases (show u=Value.none from r);rfl
 | bl b=>cases (show u=Value.bool b from r);rfl
 | int i=>obtain ⟨t,e⟩:=(show ∃t,u=Value.int i t from r);cases e;rfl
 | str x=>obtain ⟨t,e⟩:=(show ∃t,u=Value.str x t from r);cases e;rfl
 | zC b=>obtain ⟨t,e⟩:=(show ∃t,u=Value.bytes b t from r);cases e;rfl
 | JW b=>obtain ⟨t,e⟩:=(show ∃t,u=Value.float b t from r);cases e;rfl
 | ref a=>cases (show u=Value.ref a from r);rfl
 | ty n=>cases (show u=Value.type n from r);rfl
section
variable {P:Program} {w:World} {H H':Hp} {h h':Heap} {a C dx:Addr} {fs Wg:List (Str×V)}
theorem sW (bW:j6 P w H h) (e:H a=some (.ins C dx fs)): ∃mA,Be h a dx C mA/\(∀f,lS (fs.lookup f) (mA f))/\PySem.Within mA (fs.map (·.1))/\fs.length<=1000/\H dx=some (.own a):=by
 obtain ⟨d,z,ne,ob,mA,n,r,q⟩:=(show bZ P w H h a (.ins C dx fs) from bW a _ e)
 exact ⟨mA,⟨ob,n,ne⟩,r,q,z,d⟩
end
structure GK (K:PySem.W.Frag) (C:Addr):Prop where
 pg:PySem.W.plainGet K C Str.empty=true
 hd:PySem.W.hasDictIn K C=true
 po:PySem.W.plainOver K C=true
 sa:PySem.W.findIn K (.ref C) "__setattr__"=some (some (.builtin "object.__setattr__"))
theorem GK.get {K:PySem.W.Frag} {C:Addr} (c:GK K C) (f:Str):PySem.W.plainGet K C f=true:=c.pg
def dU (K:PySem.W.Frag) (C:Addr) (f:Str):Prop:=PySem.W.findIn K (.ref C) f=some none
theorem dU.ON {K:PySem.W.Frag} {C:Addr} {f:Str} (n:dU K C f):PySem.W.takerIn K C f=some none:=by
 unfold PySem.W.takerIn
 rw[show PySem.W.findIn K (.ref C) f=some none from n]
 rfl
section
variable {X:Cx} {pins:List (Addr×Obj)} {σ:St} {H:Hp} {s:Shared} {a C dx:Addr} {fs:List (Str×V)} {f:Str} {v:V} {A:Around} {E:Value->Shared->Prop}
theorem xO {b:Bool} {Q:Value->Shared->Prop} (I:Inv X pins σ H s) (e:H a=some (.ins C dx fs)) (c:GK X.K C) (n:dU X.K C f) (l:fs.lookup f=some v)
  (h: ∀u s',Inv X pins σ H s'->RelV v u->Q u s'):wpAny (model X.prog X.w) A (getAttr (.ref a) f b) Q E s:=by
 obtain ⟨mA,O,r,_,_,_⟩:=sW I.bW e
 obtain ⟨u,hu,ru⟩:=lS.some_of (v:=v) (o:=mA f) (by rw[<-l];exact r f)
 exact get_map I.nP O (c.get f) c.hd n hu (Bg ru) (h u _ (I.tok _) ru)
theorem xP {y:V} {u:Value} {Q:Unit->Shared->Prop} (I:Inv X pins σ H s) (e:H a=some (.ins C dx fs)) (c:GK X.K C) (n:dU X.K C f) (hl:fs.length<1000) (ry:RelV y u)
  (h: ∀s',Inv X pins σ (upd H a (.ins C dx (dS f y fs))) s'->Q () s'):wpAny (model X.prog X.w) A (setAttr (.ref a) f u) Q E s:=by
 obtain ⟨mA,O,r,wi,_,ho⟩:=sW I.bW e
 have hz:(fs.map (·.1)).length<=sizeLine:=by rw[UX,sizeLine_eq];omega
 refine GJ I.nP O c.sa c.po n.ON c.hd wi hz fun h' O' sb=>h _ ?_
 have hd: ∃o,h'.get? dx=some o:=let ⟨o,_,_,e',_⟩:=O'.ns;⟨o,e'⟩
 refine I.write (x:=a) (e:=dx) (by rw[e];exact True.intro) (.inr ho) (fun b q hb z=>(sb.2 b hb).trans z) hd ?_
 refine ⟨by rw[ay O.ne];exact ho,?_,O.ne,O'.obj,_,O'.ns,fun g=>?_,fun g hg=>?_⟩
 ·have:=mX f y fs;omega
 ·show lS ((dS f y fs).lookup g) (if g=f then some u else mA g)
  rw[aO]
  by_cases q:g=f
  ·rw[if_pos q,if_pos q];exact ry
  ·rw[if_neg q,if_neg q];exact r g
 ·by_cases q:g=f
  ·rw[q];exact (lV f y fs).1
  ·refine (lV f y fs).2 g (wi g fun z=>hg ?_)
   show (if g=f then some u else mA g)=none
   rw[if_neg q];exact z
theorem Inv.made (I:Inv X pins σ H s):Inv X pins σ (upd (upd H s.heap.objs.size (.own (s.heap.objs.size+1))) (s.heap.objs.size+1) (.ins C s.heap.objs.size []))
  { s with heap:=(s.heap.push PySem.W.emptyDict).push (PySem.W.instObj C s.heap.objs.size) }:=by
 have e1:(s.heap.push PySem.W.emptyDict).get? s.heap.objs.size=some PySem.W.emptyDict:=ZF s.heap rfl
 have e2:((s.heap.push PySem.W.emptyDict).push (PySem.W.instObj C s.heap.objs.size)).get? (s.heap.objs.size+1)=some (PySem.W.instObj C s.heap.objs.size):=by
  have:=ZF (s.heap.push PySem.W.emptyDict) (o:=PySem.W.instObj C s.heap.objs.size) rfl
  rwa [Qb8]at this
 have e3:(s.heap.push PySem.W.emptyDict).Ns s.heap.objs.size (fun _=>none):=⟨PySem.W.emptyDict, #[],_,e1,rfl,(fun e he=>absurd he (by simp)),fun _=>rfl⟩
 have I1:=I.laid (a:=s.heap.objs.size) (o:= .own (s.heap.objs.size+1)) (h':=s.heap.push PySem.W.emptyDict) (t':=s.toks) (fun b u q=>MD _ q) (Q3 _) ⟨_,e1⟩
 refine I1.laid (a:=s.heap.objs.size+1) (o:= .ins C s.heap.objs.size []) (t':=s.toks) (fun b u q=>MD _ q) (Nat.le_of_eq (Qb8 _ _)) ?_
 have ne:s.heap.objs.size≠s.heap.objs.size+1:=ZH (Qam _)
 refine ⟨by rw[ay ne,ah],Y6 _,ne,e2,fun _=>none,(Heap.Ns1.of_empty e3).at fun o q=>MD _ q,fun _=>True.intro,fun y hy=>absurd rfl hy⟩
theorem GL {prog:Program} {w:World} {env:Env} {e:Expr} {f:Str} {pos:Pos} {s:Shared} {Q:Value->Shared->Prop} (hb:attributeBase e f env (eval e env)=eval e env)
  (h:wpAny (model prog w) A (eval e env) (fun o s₁=>wpAny (model prog w) A (getAttr o f true) Q E s₁) E s):wpAny (model prog w) A (eval (.Attribute e f pos) env) Q E s:=
 Attribute_any_ h (by rw[arm_eval_Attribute,hb])
end
def OO (K:PySem.W.Frag) (ta:TE) (f:Str):TE:=fun σ H Q=>ta σ H fun x H1=> ∃a C dx fs v,x= .ref a/\H1 a=some (.ins C dx fs)/\GK K C/\dU K C f/\fs.lookup f=some v/\Q v H1
def SD (K:PySem.W.Frag) (ta tv:TE) (f:Str):TS:=fun D σ H=>tv σ H fun y H1=>ta σ H1 fun x H2=> ∃a C dx fs,x= .ref a/\H2 a=some (.ins C dx fs)/\GK K C/\dU K C f/\fs.length<1000/\
 D.nx σ (upd H2 a (.ins C dx (dS f y fs)))
section
variable {X:Cx} {o e value:Expr} {f:Str} {pos pos' OP:Pos} {ta tv:TE}
theorem Ki (he:PE X e ta) (hb:attributeBase e f X.env (eval e X.env)=eval e X.env):PE X (.Attribute e f pos) (OO X.K ta f):=by
 intro pins s σ H Q I h
 refine GL hb (cg (he pins s σ H _ I h) fun u s1 ⟨x,H1,I1,rx,a,C,dx,fs,v,ex,ea,c,n,l,q⟩=>?_)
 subst ex
 obtain rfl:u=Value.ref a:=rx
 exact xO I1 ea c n l fun u' s2 I2 ru=>⟨v,H1,I2,ru,q⟩
theorem iR (ha:PE X o ta) (hv:PE X value tv) (hs:swapsWith value (some (.Attribute o f pos')) pos.line X.env=pure false):PS X (.Assign [.Attribute o f pos'] value pos) (SD X.K ta tv f):=by
 intro pins s σ H D I h
 refine plainObj_wpAny_Assign_Attribute (cg (hv pins s σ H _ I h) fun u s1 ⟨y,H1,I1,ry,q⟩=>cg (ha pins s1 σ H1 _ I1 q) fun ov s2 ⟨x,H2,I2,rx,a,C,dx,fs,ex,ea,c,n,l,q2⟩=>?_) hs
 subst ex
 obtain rfl:ov=Value.ref a:=rx
 exact xP I2 ea c n l ry fun s3 I3=>⟨σ,_,I3,q2⟩
end
section
variable {X:Cx} {pins:List (Addr×Obj)} {σ:St} {H:Hp} {s:Shared} {A:Around} {E:Value->Shared->Prop} {Q:Value->Shared->Prop} {c:Value} {b:Bool}
inductive nj (K:PySem.W.Frag) (H:Hp):V->Value->Prop where
 | ft:nj K H .ft (.type "NoneType")
 | bl (x:Bool):nj K H (.bl x) (.type "bool")
 | int (i:Int):nj K H (.int i) (.type "int")
 | str (x:Str):nj K H (.str x) (.type "str")
 | JW (x:UInt64):nj K H (.JW x) (.type "float")
 | lst {a:Addr} {xs:List V} (e:H a=some (.lst xs)):nj K H (.ref a) (.type "list")
 | zD {a:Addr} {o:Obj} {xs:List V} (e:H a=some (.zD o (.lst xs))):nj K H (.ref a) (.type "list")
 | tup {a:Addr} {xs:List V} (e:H a=some (.tup xs)):nj K H (.ref a) (.type "tuple")
 | dK {a:Addr} {aP:List (Key×V)} (e:H a=some (.dK aP)):nj K H (.ref a) (.type "dict")
 | dT {a:Addr} {aP:List (List Key×V)} (e:H a=some (.dT aP)):nj K H (.ref a) (.type "dict")
 | ins {a C dx:Addr} {fs:List (Str×V)} (e:H a=some (.ins C dx fs)) (cl:GK K C) (ha:PySem.W.findIn K (.ref C) "__class__"=some (some (.builtin "object.__class__")))
   (hn:PySem.W.specialIn K (.builtin "object.__class__") "__get__"=some (some (.builtin "getset_descriptor.__get__"))) (UO:PySem.W.takesIn K (.builtin "object.__class__")=some true)
   (hm:PySem.W.mroIn K C (.type "object")=some true):nj K H (.ref a) (.ref C)
theorem qT {x:V} {u t:Value} (I:Inv X pins σ H s) (rx:RelV x u) (ty:nj X.K H x t) (e:PySem.W.kitOne X.K t c=some b) (h: ∀tk,Q (.bool b) { s with toks:=tk }):
  wpAny (model X.prog X.w) A (call (.builtin "isinstance") [u,c]) Q E s:=by
 cases ty with
 | ft=>cases (show u=Value.none from rx);exact Qau PySem.W.kitx_none I.nP True.intro e (fun z=>nomatch z) h
 | bl y=>cases (show u=Value.bool y from rx);exact Qau PySem.W.kitx_bool I.nP True.intro e (fun z=>nomatch z) h
 | int i=>obtain ⟨t,q⟩:=(show ∃t,u=Value.int i t from rx);cases q;exact Qau PySem.W.kitx_int I.nP True.intro e (fun z=>nomatch z) h
 | str y=>obtain ⟨t,q⟩:=(show ∃t,u=Value.str y t from rx);cases q;exact Qau PySem.W.kitx_str I.nP True.intro e (fun z=>nomatch z) h
 | JW y=>obtain ⟨t,q⟩:=(show ∃t,u=Value.float y t from rx);cases q;exact Qau PySem.W.kitx_float I.nP True.intro e (fun z=>nomatch z) h
 | @lst a xs ea=>
  cases (show u=Value.ref a from rx)
  obtain ⟨_,_,n,_,h1⟩:=(show bZ X.prog X.w H s.heap a (.lst xs) from I.bW a _ ea)
  exact Qau PySem.W.kitx_list I.nP ⟨_,h1,rfl⟩ e (fun z=>nomatch z) h
 | @zD a ob xs ea=>
  cases (show u=Value.ref a from rx)
  obtain ⟨_,_,_,n,_,h1⟩:=(show bZ X.prog X.w H s.heap a (.zD ob (.lst xs)) from I.bW a _ ea)
  exact Qau PySem.W.kitx_list I.nP ⟨_,h1,rfl⟩ e (fun z=>nomatch z) h
 | @tup a xs ea=>
  cases (show u=Value.ref a from rx)
  obtain ⟨_,_,_,p⟩:=(show bZ X.prog X.w H s.heap a (.tup xs) from I.bW a _ ea)
  obtain ⟨o,h1,h2,_⟩:=p
  exact Qau PySem.W.kitx_tuple I.nP ⟨o,h1,h2⟩ e (fun z=>nomatch z) h
 | @dK a aP ea=>
  cases (show u=Value.ref a from rx)
  obtain ⟨_,_,vs,_,p⟩:=(show bZ X.prog X.w H s.heap a (.dK aP) from I.bW a _ ea)
  obtain ⟨o,es,ep,h1,h2,_⟩:=p
  exact Qau PySem.W.kitx_dict I.nP ⟨o,h1,h2.1⟩ e (fun z=>nomatch z) h
 | @dT a aP ea=>
  cases (show u=Value.ref a from rx)
  obtain ⟨_,_,xs,_,o,es,ep,h1,h2,_⟩:=(show bZ X.prog X.w H s.heap a (.dT aP) from I.bW a _ ea)
  exact Qau PySem.W.kitx_dict I.nP ⟨o,h1,h2.1⟩ e (fun z=>nomatch z) h
 | @ins a C dx fs ea cl ha hn UO hm=>
  cases (show u=Value.ref a from rx)
  obtain ⟨mA,O,_⟩:=sW I.bW ea
  obtain ⟨od,J,_⟩:=O.look
  exact Qau (PySem.W.kitx_own (cl.get _) cl.hd ha hn UO hm) I.nP J e (fun z=>nomatch z) h
end
structure eY (k:Nat) (A:Around):Prop where
 hd:A.handled=none
 dp:A.depth+3*k+5<recursionLimit
 un:A.units+16*k+200<cLine
 gd:A.guards=some []
theorem eY.mono {j k:Nat} {A:Around} (r:eY k A) (h:j<=k):eY j A:=⟨r.hd,by have:=r.dp;omega,by have:=r.un;omega,r.gd⟩
theorem eY.deeper {k:Nat} {A:Around} (r:eY (k+1) A) (env:Env):eY k (A.deeper env):=
 ⟨r.hd,by have:=r.dp;show A.depth+1+3*k+5<_;omega,by have:=r.un;show A.units+3+16*k+200<_;omega,r.gd⟩
theorem xQ {A:Around} {C:Addr} {us:List Value} {kw:List (Str×Value)}:(A.under (.builtin "type.__call__" ⟨.ref C::us,kw⟩)).depth=A.depth+1:=by
 first | rfl | simp[Around.under,Code.weight,Code.isCreation,Code.isGuard,Code.isCaller,Code.frames,Code.isFrame,guardIds]
theorem xR {A:Around} {C:Addr} {us:List Value} {kw:List (Str×Value)}:(A.under (.builtin "type.__call__" ⟨.ref C::us,kw⟩)).units=A.units+1:=by
 first | rfl | simp[Around.under,Code.cUnits,Code.frames,Code.isFrame]
theorem eY.make {k:Nat} {A:Around} (r:eY (k+1) A) (C:Addr) (us:List Value) (kw:List (Str×Value)):eY k (A.under (.builtin "type.__call__" ⟨.ref C::us,kw⟩)):=
 ⟨r.hd,by have:=r.dp;rw[xQ];omega,by have:=r.un;rw[xR];omega,by first | exact r.gd | (simpa [Around.under,Code.guards,Code.isGuard,pushGuards,guardIds]using r.gd)⟩
theorem eY.depth {k:Nat} {A:Around} (r:eY k A):A.depth<recursionLimit:=by have:=r.dp;omega
theorem eY.units {k:Nat} {A:Around} (r:eY k A):A.units+64<cLine:=by have:=r.un;omega
def SE:TA:=fun _ H Q=>Q [] H
def OQ (ta:TE) (tr:TA):TA:=fun σ H Q=>ta σ H fun x H1=>tr σ H1 fun xs H2=>Q (x::xs) H2
section
variable {X:Cx} {e:Expr} {es:List Expr} {te:TE} {t:TA} {pos:Pos}
theorem ae:PA X [] SE:=fun _ _ _ _ H Q I h=>Calls.spliced_nil ⟨[],H,I, .nil,h⟩
theorem aa (ha:PE X e te) (hr:PA X es t) (hs:starEach (e::es) X.env=(false,eval e X.env)::starEach es X.env:=by rfl):PA X (e::es) (OQ te t):=by
 intro pos pins s σ H Q I h
 rw[hs]
 show wpAny _ _ (spliced ((false,eval e X.env)::backTo pos (starEach es X.env))) _ _ s
 refine Calls.spliced_cons (cg (ha pins s σ H _ I h) fun u s1 ⟨x,H1,I1,r1,q1⟩=>?_)
 exact cg (hr pos pins s1 σ H1 _ I1 q1) fun us s2 ⟨xs,H2,I2,r2,q2⟩=>⟨x::xs,H2,I2, .cons r1 r2,q2⟩
def SF (t:TA):TE:=fun σ H Q=>t σ H fun xs H1=>xs.length<=sizeLine/\ ∀p,H1 p=none->Q (.ref p) (upd H1 p (.tup xs))
def SG (t:TA):TE:=fun σ H Q=>t σ H fun xs H1=>xs.length<=sizeLine/\ ∀p,H1 p=none->Q (.ref p) (upd H1 p (.lst xs))
theorem bD {x1} (h:PA X es t):PE X (.Tuple es x1 pos) (SF t):=by
 intro pins s σ H Q I hq
 refine wpAny_Tuple_spliced (cg (h pos pins s σ H _ I hq) fun us s1 ⟨xs,H1,I1,r,z,q⟩=>⟨by rw[<-r.length];exact z,?_⟩)
 have hf:H1 s1.heap.objs.size=none:=I1.bW.fresh (Q3 _)
 refine ⟨.ref s1.heap.objs.size,upd H1 s1.heap.objs.size (.tup xs),I1.laid (t':=s1.toks) (fun b u e=>MD _ e) (Q3 _) ?_,rfl,q _ hf⟩
 exact ⟨z,us,r,⟨_,ZF _ rfl,rfl,_,rfl⟩⟩
theorem dq (h:PA X es t):PE X (.List es pos) (SG t):=by
 intro pins s σ H Q I hq
 refine wpAny_List_spliced (cg (h pos pins s σ H _ I hq) fun us s1 ⟨xs,H1,I1,r,z,q⟩=>⟨by rw[<-r.length];exact z,?_⟩)
 have hf:H1 s1.heap.objs.size=none:=I1.bW.fresh (Q3 _)
 refine ⟨.ref s1.heap.objs.size,upd H1 s1.heap.objs.size (.lst xs),I1.laid (t':=s1.toks) (fun b u e=>MD _ e) (Q3 _) ?_,rfl,q _ hf⟩
 exact ⟨z,us,0,r,ZF _ rfl⟩
end
abbrev Sp:=List V->Hp->VK->XK->Prop
abbrev Bh:=List Env->Hp->Shared->XK->Value->Shared->Prop
structure xS (P:Program) (w:World) (K:PySem.W.Frag) (mg:Str->Option Value) (base:Heap) (A:Around) (outer:List Env) (s:Shared) (H:Hp):Prop where
 frames:A.frames=some outer
 mod:Mod K mg base
 bs: ∀b o,base.get? b=some o->s.heap.get? b=some o/\H b=none
 GB:base.objs.size<=s.heap.objs.size
 nh:s.heap.FunFrames base outer
 JZ: ∀b∈zE outer,H b=none
 bW:j6 P w H s.heap
 bare:AllBare s.gens
def CE (outer:List Env) (P:Program) (w:World) (H:Hp) (s:Shared) (Q:VK) (u:Value) (s':Shared):Prop:=
 ∃v H',s'.os=s.os/\AllBare s'.gens/\Un (zE outer) [] H H' s.heap s'.heap/\j6 P w H' s'.heap/\RelV v u/\Q v H'
def CR (CX:Bh) (outer:List Env) (P:Program) (w:World) (H:Hp) (s:Shared) (Q:VK) (E:XK) (r:Result) (s':Shared):Prop:=
 match r with
 | .ok (.ret u)=>CE outer P w H s Q u s'
 | .ok _=>False
 | .error e=>CX outer H s E e s'
structure bA (P:Program) (w:World) (K:PySem.W.Frag) (mg:Str->Option Value) (base:Heap) (CX:Bh) (k:Nat) (f:Addr) (fd:FuncData) (ps:List Str) (sp:Sp):Prop where
 len: ∀vs H Q E,sp vs H Q E->vs.length=ps.length
 run: ∀(A:Around) (outer:List Env) (s:Shared) (H:Hp) (args:Args) (us:List Value) (vs:List V) (Q:VK) (E:XK),eY k A->xS P w K mg base A outer s H->BindsTo s fd args (ps.zip us)->Vals vs us->sp vs H Q E->
  codeAny (model P w) A (.call (.ref f) args) (CR CX outer P w H s Q E) s
theorem xS.make {P:Program} {w:World} {K:PySem.W.Frag} {mg:Str->Option Value} {base:Heap} {A:Around} {outer:List Env} {s:Shared} {H:Hp} (e:xS P w K mg base A outer s H) (C:Addr) (us:List Value) (kw:List (Str×Value)):
  xS P w K mg base (A.under (.builtin "type.__call__" ⟨.ref C::us,kw⟩)) outer s H:=⟨by first | exact e.frames | (simpa [Around.under,Code.envs,Code.isFrame,pushEnvs]using e.frames),e.mod,e.bs,e.GB,e.nh,e.JZ,e.bW,e.bare⟩
section
variable {X:Cx} {pins:List (Addr×Obj)} {σ:St} {H:Hp} {s s':Shared}
theorem Inv.OR (I:Inv X pins σ H s):xS X.prog X.w X.K X.mg X.base X.A X.stack s H:=
 ⟨I.ok.frames,I.ok.mod,I.bs,ZW I.ok.GB I.sz,I.stack,I.zF,I.bW,I.bare⟩
theorem Inv.after {Q:VK} {u:Value} (I:Inv X pins σ H s) (h:CE X.stack X.prog X.w H s Q u s'):EP X pins σ Q u s':=by
 obtain ⟨v,H',os,bare,un,bW,r,q⟩:=h
 obtain ⟨hh,g,d,t,SH⟩:=s'
 obtain rfl:SH=s.os:=os
 exact ⟨v,H',I.call (h':=hh) (g':=g) (d':=d) (t':=t) (ch:=[]) un bW bare (fun b z=>absurd z (by simp)),r,q⟩
end
def OS (sp:Sp) (dvs:List V) (E:XK) (t:TA):TE:=fun σ H Q=>t σ H fun vs H1=>sp (vs++dvs) H1 Q E
def OT (C:Addr) (sp:Sp) (dvs:List V) (E:XK) (t:TA):TE:=fun σ H Q=>t σ H fun vs H1=> ∀x dx,H1 x=none->H1 dx=none->dx≠x->
 sp (.ref x::(vs++dvs)) (upd (upd H1 dx (.own x)) x (.ins C dx [])) (fun v H2=>v= .ft/\Q (.ref x) H2) E
def Binds (K:PySem.W.Frag) (fd:FuncData) (ps:List Str) (ds:List Value):Prop:=
 ∀(s:Shared) (us:List Value),K.In s.heap->(us++ds).length=ps.length->BindsTo s fd ⟨us,[]⟩ (ps.zip (us++ds))
theorem Binds.all {K:PySem.W.Frag} {fd:FuncData} {ps:List Str} (h: ∀us:List Value,us.length=ps.length->bindArgs fd ⟨us,[]⟩=pure (ps.zip us)):Binds K fd ps []:=fun s us _ hl=>by
 rw[Z3]at hl ⊢
 exact .of_eq (h us hl)
def Passes (CX:Bh) (X:Cx) (E:XK):Prop:= ∀(pins:List (Addr×Obj)) (σ:St) (H:Hp) (s:Shared) (e:Value) (s':Shared),Inv X pins σ H s->CX X.stack H s E e s'->X.xe e s'
section
variable {X:Cx} {CX:Bh} {k:Nat} {f C:Addr} {fd:FuncData} {ps:List Str} {sp:Sp} {dvs:List V} {ds:List Value} {E:XK} {x m:Str} {p pos apos:Pos} {e o:Expr} {es:List Expr} {ta:TE} {t:TA}
theorem xT {pins:List (Addr×Obj)} {σ:St} {H:Hp} {s:Shared} {Q:VK} {us:List Value} {vs:List V} (F:bA X.prog X.w X.K X.mg X.base CX k f fd ps sp) (hr:eY k X.A) (hb:Binds X.K fd ps ds) (hd:Vals dvs ds) (hx:Passes CX X E)
  (I:Inv X pins σ H s) (r:Vals vs us) (h:sp (vs++dvs) H Q E):wpAny (model X.prog X.w) X.A (call (.ref f) us) (EP X pins σ Q) X.xe s:=by
 have r2:Vals (vs++dvs) (us++ds):=r.append hd
 have hl:(us++ds).length=ps.length:=by rw[<-r2.length];exact F.len _ _ _ _ h
 refine wpAny_call (codeAny_mono (F.run X.A X.stack s H ⟨us,[]⟩ (us++ds) (vs++dvs) Q E hr I.OR (hb s us I.nP hl) r2 h) fun r s' hq=>?_)
 cases r with
 | error e=>exact hx pins σ H s e s' I hq
 | ok fl=>
  cases fl with
  | ret u=>exact I.after hq
  | next=>exact False.elim hq
  | brk=>exact False.elim hq
  | cont=>exact False.elim hq
theorem ak (F:bA X.prog X.w X.K X.mg X.base CX k f fd ps sp) (hr:eY k X.A) (hg:Gl X x) (hm:X.mg x=some (.ref f)) (hk:PySem.W.keepIn X.K (.ref f)=true) (hb:Binds X.K fd ps ds) (hd:Vals dvs ds) (hx:Passes CX X E)
  (ha:PA X (e::es) t) (Kj:(x==("__debug__":Str))=false:=by decide) (he:starEach (e::es) X.env=(false,eval e X.env)::starEach es X.env:=by rfl) (jt:(backTo pos (starEach es X.env)).any (·.1)=false:=by rfl):
  PE X (.Call (.Name x p) (e::es) [] pos) (OS sp dvs E t):=by
 intro pins s σ H Q I h
 refine wpAny_Call_Name_kw (sP I hg hm ?_ Kj)
 refine Qc2 (h₀:=X.base) I.ok.mod.Mv hk (cg (ha pos pins s σ H _ I h) fun us s1 ⟨vs,H1,I1,r,q⟩=>⟨I1.nP,?_⟩) he jt
 exact xT F hr hb hd hx I1 r q
structure Mk (K:PySem.W.Frag) (C f:Addr):Prop where
 makes:PySem.W.makesIn K C=true
 init:PySem.W.findIn K (.ref C) "__init__"=some (some (.ref f))
 fn:PySem.W.isFn K (.ref f)=true
 kp:PySem.W.keepIn K (.ref C)=true
theorem C5 {pins:List (Addr×Obj)} {σ:St} {H:Hp} {s:Shared} {Q:VK} {us:List Value} {vs:List V} (M:Mk X.K C f) (F:bA X.prog X.w X.K X.mg X.base CX k f fd ps sp) (hr:eY (k+1) X.A) (hb:Binds X.K fd ps ds) (hd:Vals dvs ds)
  (hx:Passes CX X E) (I:Inv X pins σ H s) (r:Vals vs us)
  (h: ∀x dx,H x=none->H dx=none->dx≠x->sp (.ref x::(vs++dvs)) (upd (upd H dx (.own x)) x (.ins C dx [])) (fun v H2=>v= .ft/\Q (.ref x) H2) E):
  wpAny (model X.prog X.w) X.A (call (.ref C) us) (EP X pins σ Q) X.xe s:=by
 have hq:=h (s.heap.objs.size+1) s.heap.objs.size (I.bW.fresh (Qbc _)) (I.bW.fresh (Q3 _)) (ZH (Qam _))
 have I2:=Inv.made (C:=C) I
 have r2:Vals (V.ref (s.heap.objs.size+1)::(vs++dvs)) (Value.ref (s.heap.objs.size+1)::(us++ds)):= .cons rfl (r.append hd)
 have hl:(Value.ref (s.heap.objs.size+1)::us++ds).length=ps.length:=by
  have e:=r2.length
  rw[F.len _ _ _ _ hq]at e
  exact e.symm
 refine wpAny_call (C3 (f:=f) I.nP M.makes M.init (beq_iff_eq.mp M.fn) (codeAny_mono (F.run _ X.stack _ _ ⟨Value.ref (s.heap.objs.size+1)::us,[]⟩ (Value.ref (s.heap.objs.size+1)::(us++ds)) _ _ E (hr.make C us [])
  (I2.OR.make C us []) (hb _ (Value.ref (s.heap.objs.size+1)::us) I2.nP hl) r2 hq) fun r s' OU=>?_))
 cases r with
 | error e=>exact hx pins σ _ _ e s' I2 OU
 | ok fl=>
  cases fl with
  | ret u=>
   obtain ⟨v,H',I3,rv,ev,q3⟩:=I2.after OU
   subst ev
   exact ⟨rv,⟨V.ref (s.heap.objs.size+1),H',I3,rfl,q3⟩⟩
  | next=>exact False.elim OU
  | brk=>exact False.elim OU
  | cont=>exact False.elim OU
theorem nQ (M:Mk X.K C f) (F:bA X.prog X.w X.K X.mg X.base CX k f fd ps sp) (hr:eY (k+1) X.A) (hg:Gl X x) (hm:X.mg x=some (.ref C)) (hb:Binds X.K fd ps ds) (hd:Vals dvs ds) (hx:Passes CX X E)
  (ha:PA X (e::es) t) (Kj:(x==("__debug__":Str))=false:=by decide) (he:starEach (e::es) X.env=(false,eval e X.env)::starEach es X.env:=by rfl) (jt:(backTo pos (starEach es X.env)).any (·.1)=false:=by rfl):
  PE X (.Call (.Name x p) (e::es) [] pos) (OT C sp dvs E t):=by
 intro pins s σ H Q I h
 refine wpAny_Call_Name_kw (sP I hg hm ?_ Kj)
 refine Qc2 (h₀:=X.base) I.ok.mod.Mv M.kp (cg (ha pos pins s σ H _ I h) fun us s1 ⟨vs,H1,I1,r,q⟩=>⟨I1.nP,?_⟩) he jt
 exact C5 M F hr hb hd hx I1 r q
end
section
variable {X:Cx} {CX:Bh} {k:Nat} {f C:Addr} {fd:FuncData} {ps ks:List Str} {sp:Sp} {E:XK} {x m:Str} {p pos apos Ww:Pos} {e o:Expr} {es:List Expr} {Y0:List Keyword} {te ta:TE} {t tk:TA} {nm:Option Str}
variable {g:List Value->List Value->List Value} {gV:List V->List V->List V}
end
structure aD (N P:List Str) (sc:Scope):Prop where
 kind:sc.kind= .function
 co:sc.isCoroutine=false
 gen:sc.isGenerator=false
 nd:N.Nodup
 pre:N.take P.length=P
 par: ∀x∈P,sc.names.lookup x=some .local\/sc.names.lookup x=some .cell
 Kk: ∀y∈sc.names,y.2≠ .free
theorem qU {kindOf:Str->Option NameKind} {x:Str}: ∀{binds:List (Str×Value)} {m:Str->Option Value},(∀v,(x,v)∉binds)->bindL kindOf binds m x=m x
 | [],_,_=>rfl
 |(n,v)::r,m,h=>by
  unfold bindL
  rw[qU fun w hw=>h w (Y4 _ hw)]
  split
  ·have:x≠n:=by rintro rfl;exact h v Zy
   simp[this]
  ·rfl
theorem qV {kindOf:Str->Option NameKind} {x:Str}: ∀{binds:List (Str×Value)} {m:Str->Option Value},(∀v,(x,v)∉binds)->bindC kindOf binds m x=m x
 | [],_,_=>rfl
 |(n,v)::r,m,h=>by
  unfold bindC
  rw[qV fun w hw=>h w (Y4 _ hw)]
  split
  ·rfl
  ·have:x≠n:=by rintro rfl;exact h v Zy
   simp[this]
theorem qW {kindOf:Str->Option NameKind} {x:Str} {v:Value}: ∀{P:List Str} {vs:List Value} {i:Nat} {m:Str->Option Value},P.Nodup->P[i]? =some x->vs[i]? =some v->kindOf x=some .local->
  bindL kindOf (P.zip vs) m x=some v
 | [],_,_,_,_,h,_,_=>by simp at h
 | _::_,[],_,_,_,_,h,_=>by simp at h
 | p::P,w::vs,0,m,nd,h1,h2,hk=>by
  simp at h1 h2;subst h1;subst h2
  show bindL kindOf ((p,w)::P.zip vs) m p=_
  unfold bindL
  rw[qU fun v hv=>(Z6.mp nd).1 (Qeh hv).1,if_pos hk]
  simp
 | p::P,w::vs,i+1,m,nd,h1,h2,hk=>by
  show bindL kindOf ((p,w)::P.zip vs) m x=_
  unfold bindL
  exact qW (i:=i) (Z6.mp nd).2 (by simpa using h1) (by simpa using h2) hk
theorem qX {kindOf:Str->Option NameKind} {x:Str} {v:Value}: ∀{P:List Str} {vs:List Value} {i:Nat} {m:Str->Option Value},P.Nodup->P[i]? =some x->vs[i]? =some v->kindOf x≠some .local->
  bindC kindOf (P.zip vs) m x=some v
 | [],_,_,_,_,h,_,_=>by simp at h
 | _::_,[],_,_,_,_,h,_=>by simp at h
 | p::P,w::vs,0,m,nd,h1,h2,hk=>by
  simp at h1 h2;subst h1;subst h2
  show bindC kindOf ((p,w)::P.zip vs) m p=_
  unfold bindC
  rw[qV fun v hv=>(Z6.mp nd).1 (Qeh hv).1,if_neg hk]
  simp
 | p::P,w::vs,i+1,m,nd,h1,h2,hk=>by
  show bindC kindOf ((p,w)::P.zip vs) m x=_
  unfold bindC
  exact qX (i:=i) (Z6.mp nd).2 (by simpa using h1) (by simpa using h2) hk
noncomputable def start (N:List Str) (vs:List V):St:=vs.map some++List.replicate (N.length - vs.length) none
noncomputable def Bi (CX:Bh) (P:Program) (w:World) (K:PySem.W.Frag) (mg:Str->Option Value) (base:Heap) (N:List Str) (qual:Str) (scope:Scope) (f:Addr) (cd:Value) (A:Around) (outer:List Env) (s:Shared) (H:Hp) (E:XK):Cx where
 prog:=P
 w:=w
 K:=K
 mg:=mg
 base:=base
 A:=A.deeper (envOfC qual scope s.heap.objs.size f cd)
 N:=N
 s₀:=s
 H₀:=H
 env:=envOfC qual scope s.heap.objs.size f cd
 outer:=outer
 stack:=envOfC qual scope s.heap.objs.size f cd::outer
 ex:=[]
 calm:=true
 fn:=fun _=>true
 pn:=[]
 xe:=fun e s'=>wpAny (model P w) (A.deeper (envOfC qual scope s.heap.objs.size f cd)) (leaving (envOfC qual scope s.heap.objs.size f cd) e) (fun _ OV=>CX outer H s E e OV) (fun e' OV=>CX outer H s E e' OV) s'
theorem vp {sc:Scope} {n:Nat} {x:Str} (h:sc.names.lookup x=some .cell): ∃c,(cellsFrom n sc.names []).lookup x=some c:=by
 have q:=PySem.W.cellsFrom_some sc.names n [] (.inl h)
 exact Option.isSome_iff_exists.mp q
theorem Bj {CX:Bh} {P:Program} {w:World} {K:PySem.W.Frag} {mg:Str->Option Value} {base:Heap} {N ps:List Str} {qual:Str} {scope:Scope} {f:Addr} {cd:Value} {A:Around} {outer:List Env} {s s1:Shared} {H:Hp} {E:XK} {us:List Value} {vs:List V}
  (S:aD N ps scope) (hd:A.handled=none) (e0:xS P w K mg base A outer s H) (hl:vs.length=ps.length) (r:Vals vs us)
  (x:InCallC s s.heap.objs.size (bindL (envOfC qual scope s.heap.objs.size f cd).kindOf (ps.zip us) fun _=>none) (cellsFrom (s.heap.objs.size+1) scope.names []) (bindC (envOfC qual scope s.heap.objs.size f cd).kindOf (ps.zip us) fun _=>none) s1):
  Inv (Bi CX P w K mg base N qual scope f cd A outer s H E) [] (start N vs) H s1:=by
 have jt:ps.length<=N.length:=by have:=congrArg List.length S.pre;rw[ZD]at this;omega
 obtain ⟨h1,tk,rfl,hk⟩:=x.done
 have OW: ∀b:Addr,b∉(Bi CX P w K mg base N qual scope f cd A outer s H E).ex:=fun b z=>absurd (show b∈([]:List Addr) from z) (by simp)
 refine ⟨⟨e0.mod,S.kind,rfl,rfl,Q3 _,fun y z c h1 h2=>?_,fun y hy=>?_,fun y c _ h=>?_,fun _=>hd,Around.frames_deeper e0.frames, .inr ⟨rfl,rfl⟩,fun b z=>absurd z (OW b),e0.bs,e0.GB,fun b _ _=>OW b,fun b z=>absurd z (OW b),e0.nh,e0.JZ⟩,
  rfl,e0.bare,Un.kept hk,⟨_,x.toInCall.ns,fun i y v h1 h2 h3=>?_⟩,fun y c h=>⟨_,x.cell y c h⟩,e0.bW.fresh (Q3 _),fun y c h=>?_,fun p hp=>absurd (show p∈([]:List (Addr×Obj)) from hp) (by simp),e0.bW.kept hk,?_⟩
 ·exact name_of_addr x.apart (Qb3 h1) (Qb3 h2)
 ·have hy:scope.names.lookup y=some .cell\/scope.names.lookup y=some .free:=hy
  rcases hy with hy | hy
  ·exact vp hy
  ·exact absurd rfl (S.Kk _ (Qb3 hy))
 ·exact Z5 (x.above y c (Qb3 h))
 ·have hi:i<vs.length:=by
   unfold start at h2
   by_cases hi:i<vs.length
   ·exact hi
   ·rw[Qaq (by simpa using hi)]at h2
    rw[List.getElem?_replicate]at h2
    split at h2<;>cases h2
  have ha:vs[i]? =some v:=by
   unfold start at h2
   rw[Qab (by simpa using hi),ZA]at h2
   cases e:vs[i]? with
   | none=>rw[e]at h2;cases h2
   | some a=>rw[e]at h2;cases h2;rfl
  obtain ⟨u,hu,rv⟩:=r.get ha
  have hp:ps[i]? =some y:=by
   rw[<-S.pre,List.getElem?_take_of_lt (by omega)];exact h1
  have UP:ps.Nodup:=by rw[<-S.pre];exact S.nd.sublist (List.take_sublist _ _)
  refine ⟨u,rv,?_⟩
  rcases S.par y (Zx hp) with k | k
  ·exact .inl ⟨k,qW UP hp hu k⟩
  ·obtain ⟨c,e⟩:=vp (n:=s.heap.objs.size+1) k
   refine .inr ⟨.inl k,c,e,?_⟩
   have q:=x.cell y c e
   rw[qX UP hp hu (by show scope.names.lookup y≠_;rw[k];decide)]at q
   exact q
 ·exact e0.bW.fresh (Z5 (x.above y c (Qb3 h)))
 ·unfold start
  show _=N.length
  rw[UY,UX,List.length_replicate]
  omega
theorem OX {CX:Bh} {P:Program} {w:World} {K:PySem.W.Frag} {mg:Str->Option Value} {base:Heap} {k:Nat} {f:Addr} {name qual:Str} {params:Arguments} {body:List Stmt} {scope:Scope} {dV kV doc pm cn ct oc:Value} {an od:Option Addr}
  {Gi:Array (Option Value)} {N ps:List Str} {sp:Sp} (lk:K.lookup f=some ⟨oc,od, .func (PySem.W.fnOf name qual params body scope dV kV doc pm an cn ct),Gi⟩) (lL:PySem.W.codeIn K cn qual=true) (S:aD N ps scope)
  (len: ∀vs H Q E,sp vs H Q E->vs.length=ps.length)
  (C6: ∀(A:Around) (outer:List Env) (s:Shared) (H:Hp) (vs:List V) (Q:VK) (E:XK),eY k (A.deeper (envOfC qual scope s.heap.objs.size f cn))->sp vs H Q E->
   ∃t,xE (Bi CX P w K mg base N qual scope f cn A outer s H E) body t/\t { nx:=fun _ H'=>Q .ft H',rt:=Q } (start N vs) H):
  bA P w K mg base CX (k+1) f (PySem.W.fnOf name qual params body scope dV kV doc pm an cn ct) ps sp:=by
 refine ⟨len,fun A outer s H args us vs Q E hr e0 hb r Jg=>?_⟩
 have hl:=len _ _ _ _ Jg
 have KX:K.In s.heap:=e0.mod.Mv.keeps fun b o e=>(e0.bs b o e).1
 have lim:s.heap.NoLimit:=e0.mod.nolimit.keeps fun b o e=>(e0.bs b o e).1
 have kA: ∀y∈ps.zip us,scope.names.lookup y.1=some .local\/(scope.names.lookup y.1=some .cell/\((cellsFrom (s.heap.objs.size+1) scope.names []).lookup y.1).isSome=true):=fun ⟨n,v⟩ hy=>by
  rcases S.par n (Qeh hy).1 with q | q
  ·exact .inl q
  ·exact .inr ⟨q,PySem.W.cellsFrom_some _ _ _ (.inl q)⟩
 refine codeAny_call_function hr.depth (KX _ _ lk) rfl S.co S.gen rfl (PySem.W.codeRec_of KX lL) (hb _ _ _ _ ?_)
 refine wpAny_newFunctionEnv_cells S.kind kA fun env he s1 x=>?_
 subst he
 refine ⟨lim.keeps x.toInCall.keep,codeAny_func ?_⟩
 obtain ⟨t,ht,hq⟩:=C6 A outer s H vs Q E (hr.deeper _) Jg
 have I:Inv (Bi CX P w K mg base N qual scope f cn A outer s H E) [] (start N vs) H s1:=Bj S hr.hd e0 hl r x
 refine wpAny_mono (ht [] s1 (start N vs) H _ I hq) (fun fl s' hs=>?_) fun e s' hs=>hs
 have fin: ∀{σ':St} {H':Hp} {v:V} {u:Value},Inv (Bi CX P w K mg base N qual scope f cn A outer s H E) [] σ' H' s'->RelV v u->Q v H'->CE outer P w H s Q u s':=
  fun {σ' H' v u} J rv q=>⟨v,H',J.os,J.bare,J.base,J.bW,rv,q⟩
 cases fl with
 | ret u=>
  obtain ⟨v,σ',H',J,rv,q⟩:=hs
  exact fin J rv q
 | next=>
  obtain ⟨σ',H',J,q⟩:=hs
  exact fin (v:=V.ft) (u:=Value.none) J rfl q
 | brk=>
  obtain ⟨_,_,_,q⟩:=hs
  exact False.elim q
 | cont=>
  obtain ⟨_,_,_,q⟩:=hs
  exact False.elim q
section
variable {X:Cx} {x:Str} {p pos:Pos} {e:Expr} {es:List Expr} {t:TA} {id T:String} {r:List V->Hp->VK->Prop}
def UQ (r:List V->Hp->VK->Prop) (t:TA):TE:=fun σ H Q=>t σ H fun vs H1=>r vs H1 Q
theorem aB (hc:cN X (.builtin id) r) (hg:Gl X x) (hm:X.mg x=none) (hv:bootBuiltins x=some (.builtin id)) (ha:PA X (e::es) t) (hn:x≠"__name__":=by decide) (Kj:(x==("__debug__":Str))=false:=by decide)
  (he:starEach (e::es) X.env=(false,eval e X.env)::starEach es X.env:=by rfl) (jt:(backTo pos (starEach es X.env)).any (·.1)=false:=by rfl):PE X (.Call (.Name x p) (e::es) [] pos) (UQ r t):=by
 intro pins s σ H Q I h
 refine wpAny_Call_Name_kw (gw I hg hm hv ?_ hn Kj)
 exact PyProof.Rows.callWith_builtin1 (cg (ha pos pins s σ H _ I h) fun us s1 ⟨vs,H1,I1,r1,q1⟩=>hc pins s1 σ H1 vs us Q I1 r1 q1) he jt
theorem cR (hc:cN X (.type T) r) (hg:Gl X x) (hm:X.mg x=none) (hv:bootBuiltins x=some (.type T)) (ha:PA X (e::es) t) (hn:x≠"__name__":=by decide) (Kj:(x==("__debug__":Str))=false:=by decide)
  (he:starEach (e::es) X.env=(false,eval e X.env)::starEach es X.env:=by rfl) (jt:(backTo pos (starEach es X.env)).any (·.1)=false:=by rfl):PE X (.Call (.Name x p) (e::es) [] pos) (UQ r t):=by
 intro pins s σ H Q I h
 refine wpAny_Call_Name_kw (gw I hg hm hv ?_ hn Kj)
 exact Qan (cg (ha pos pins s σ H _ I h) fun us s1 ⟨vs,H1,I1,r1,q1⟩=>hc pins s1 σ H1 vs us Q I1 r1 q1) he jt
end
end L2
namespace HT
open PySem PyProof.Rows
section
open PySem.SeqAt
open PySem.AutoSeq1 (wpAny_loadPart')
open PySem.MeetsSeq PySem.MeetsSeq2 PySem.MeetsSeq3
end
section
variable {prog:Program} {w:World} {A:Around} {E:Value->Shared->Prop} {s:Shared}
noncomputable def cM (n d:Nat):Option Int->Nat
 | none=>d
 | some v=>if v<0 then (v+(n:Int)).toNat else min v.toNat n
theorem kB (n d:Nat):cM n d none=d:=rfl
theorem gi (n d k:Nat):cM n d (some (k:Int))=min k n:=by
 show (if (k:Int)<0 then ((k:Int)+(n:Int)).toNat else min (k:Int).toNat n)=min k n
 rw[if_neg (by omega),WB]
theorem C7 (n d:Nat) (hd:d<=n) (o:Option Int):cM n d o<=n:=by
 cases o with
 | none=>exact hd
 | some v=>
  show (if v<0 then (v+(n:Int)).toNat else min v.toNat n)<=n
  by_cases hv:v<0
  ·rw[if_pos hv];omega
  ·rw[if_neg hv];exact Nat.min_le_right _ _
theorem zO (v:Int) (n d:Nat):(if v<0 then max (v+(n:Int)) 0 else min v (n:Int))=((cM n d (some v):Nat):Int):=by
 show (if v<0 then max (v+(n:Int)) 0 else min v (n:Int))=(((if v<0 then (v+(n:Int)).toNat else min v.toNat n):Nat):Int)
 by_cases hv:v<0
 ·simp only[if_pos hv];omega
 ·simp only[if_neg hv];omega
theorem xU (lo hi:Option Int) (n:Nat):Builtin.Slice.sliceAdjust lo hi 1 (n:Int)=(((cM n 0 lo:Nat):Int),((cM n n hi:Nat):Int)):=by
 have h1: ¬((1:Int)<0):=by omega
 unfold Builtin.Slice.sliceAdjust
 simp only[h1,if_false]
 refine Prod.ext ?_ ?_
 ·cases lo with
  | none=>rfl
  | some v=>exact zO v n 0
 ·cases hi with
  | none=>rfl
  | some v=>exact zO v n n
theorem xV (i j:Nat):Builtin.Slice.slicePlaces (i:Int) (j:Int) 1=j - i:=by
 unfold Builtin.Slice.slicePlaces
 have h1:(1:Int)>0:=by omega
 simp only[h1,if_true,Int.ediv_one]
 split<;>omega
theorem oA {v:Value} {o:Option Int} {Q:Option Int->Shared->Prop} (p:IsPart v o) (h:Q o s):wpAny (model prog w) A (Builtin.Slice.slicePartIndex v) Q E s:=by
 cases p with
 | none=>exact slicePart_none h
 | int i t=>exact slicePart_int h
theorem gO {sl:Addr} {vl vu:Value} {lo hi:Option Int} {n:Nat} {Q:Int×Int×Nat->Shared->Prop} (hs:s.heap.IsSliceOf sl vl vu .none) (pl:IsPart vl lo) (pu:IsPart vu hi)
  (h:Q (((cM n 0 lo:Nat):Int),1,cM n n hi - cM n 0 lo) s):wpAny (model prog w) A (Builtin.Slice.sliceApplied (.ref sl) (pure (n:Int))) Q E s:=by
 obtain ⟨os,CH,MA,OY⟩:=id hs
 unfold Builtin.Slice.sliceApplied Builtin.Slice.sliceFields
 refine wpAny_bind (wpAny_bind (wpAny_field CH OY (x:=vl) rfl (wpAny_bind (wpAny_field CH OY (x:=vu) rfl (wpAny_bind (wpAny_field CH OY (x:= .none) rfl (wpAny_pure ?_)))))))
 refine wpAny_bind (slicePart_none ?_)
 show wpAny _ _ (if ((1:Int)==0)=true then _ else _) _ _ s
 rw[if_neg (by decide)]
 refine wpAny_bind (oA pl (wpAny_bind (oA pu (wpAny_bind (wpAny_pure ?_)))))
 show wpAny _ _ (match Builtin.Slice.sliceAdjust lo hi 1 (n:Int) with | (lo,hi)=>pure (lo,(1:Int),Builtin.Slice.slicePlaces lo hi 1)) _ _ s
 rw[xU lo hi n]
 show wpAny _ _ (pure (((cM n 0 lo:Nat):Int),(1:Int),Builtin.Slice.slicePlaces ((cM n 0 lo:Nat):Int) ((cM n n hi:Nat):Int) 1)) _ _ s
 rw[xV]
 exact wpAny_pure h
theorem C8 (xs:Array Value) (i k:Nat):((List.range k).filterMap fun (m:Nat)=>xs[((i:Int)+(m:Int)*1).toNat]?).toArray=((xs.toList.drop i).take k).toArray:=by
 have e:(fun (m:Nat)=>xs[((i:Int)+(m:Int)*1).toNat]?)=fun m=>xs[i+m]?:= by
  funext m
  have:((i:Int)+(m:Int)*1).toNat=i+m:=by omega
  rw[this]
 rw[e]
 have:=pick_run xs i k
 rw[List.filterMap_map]at this
 have e2:((fun x=>xs[x]?) ∘ fun x=>i+x)=fun m=>xs[i+m]?:= rfl
 rw[e2]at this
 rw[this]
theorem kC {t sl:Addr} {items:Array Value} {vl vu:Value} {lo hi:Option Int} {Q:Value->Shared->Prop} (ht:IsTup s.heap t items) (hs:s.heap.IsSliceOf sl vl vu .none) (pl:IsPart vl lo) (pu:IsPart vu hi)
  (hw: ¬(cM items.size 0 lo=0/\cM items.size items.size hi=items.size))
  (h:Q (.ref s.heap.objs.size) { s with heap:=s.heap.push { cls:= .type "tuple",data:= .seq ((items.toList.drop (cM items.size 0 lo)).take (cM items.size items.size hi - cM items.size 0 lo)).toArray } })
  (hsz:items.size<=sizeLine):wpAny (model prog w) A (getItem (.ref t) (.ref sl)) Q E s:=by
 have zP:sizeOk (.seq ((items.toList.drop (cM items.size 0 lo)).take (cM items.size items.size hi - cM items.size 0 lo)).toArray):=by
  show ((items.toList.drop (cM items.size 0 lo)).take (cM items.size items.size hi - cM items.size 0 lo)).toArray.size<=sizeLine
  rw[WD,ZD,ZL,Qbm]
  omega
 have hj:cM items.size items.size hi<=items.size:=C7 _ _ (Q3 _) hi
 obtain ⟨os,CH,MA,OY⟩:=id hs
 have SI:s.TypeIs (.ref sl) "slice":=⟨os,CH,MA⟩
 unfold getItem
 try with_reducible refine wpAny_holding ?_
 first | refine wpAny_bind (wpAny_pure ?_) | skip
 refine wpAny_bind (wpAny_sequenceKey ht.typeIs (by decide) ?_)
 refine wpAny_bind (wpAny_callSpecial?_slot (name:=Str.ofString "__getitem__") ht.typeIs Qa4
  (wpAny_call_entry Qa4 ht.typeIs entry_tuple_getitem ?_ (args_tuple_getitem _ _)))
 show wpAny _ _ (Builtin.Tuple.tupleItemsOf (.ref t) >>= _) _ _ s
 refine wpAny_bind (tupleItemsOf_ ht ?_)
 refine wpAny_bind (wpAny_typeOf SI ?_)
 rw[if_pos (by decide)]
 refine wpAny_bind (gO hs pl pu ?_)
 have C9: ¬((((cM items.size 0 lo:Nat):Int)==0&&(1:Int)==1&&(cM items.size items.size hi - cM items.size 0 lo)==items.size)=true):=by
  intro q
  rw[Z2,Z2]at q
  have q1:((cM items.size 0 lo:Nat):Int)=0:=eq_of_beq q.1.1
  have q2:cM items.size items.size hi - cM items.size 0 lo=items.size:=eq_of_beq q.2
  exact hw ⟨by omega,by omega⟩
 show wpAny _ _ (if (((cM items.size 0 lo:Nat):Int)==0&&(1:Int)==1&&(cM items.size items.size hi - cM items.size 0 lo)==items.size)=true then _ else _) _ _ s
 rw[if_neg C9,C8]
 first
  | exact wpAny_bind (m:=Builtin.Tuple.tupleExact _) (wpAny_newObj_type (wpAny_pure ⟨_,rfl,wpAny_pure h⟩) zP)
  | exact wpAny_bind (m:=Builtin.Tuple.tupleExact _) (wpAny_newObj_type (wpAny_bind (wpAny_pure (wpAny_pure ⟨_,rfl,wpAny_pure h⟩))) zP)
  | exact wpAny_bind (wpAny_bind (m:=Builtin.Tuple.tupleExact _) (wpAny_newObj_type (wpAny_pure (wpAny_pure ⟨_,rfl,wpAny_pure h⟩)) zP))
  | exact wpAny_bind (wpAny_bind (m:=Builtin.Tuple.tupleExact _) (wpAny_newObj_type (wpAny_pure ⟨_,rfl,wpAny_pure h⟩) zP))
end
end HT
namespace L2
open PySem PySem.Spec PyProof.Rows
abbrev TO:=St->Hp->(Option Int->Hp->Prop)->Prop
def PO (X:Cx) (e:Option Expr) (t:TO):Prop:=
 ∀(pins:List (Addr×Obj)) (s:Shared) (σ:St) (H:Hp) (Q:Option Int->Hp->Prop),Inv X pins σ H s->t σ H Q->
  wpAny (model X.prog X.w) X.A (evalPart e X.env) (fun u s'=> ∃o H',Inv X pins σ H' s'/\IsPart u o/\Q o H') X.xe s
def GN:TO:=fun _ H Q=>Q none H
def OZ (t:TE):TO:=fun σ H Q=>t σ H fun x H1=> ∃i,x= .int i/\Q (some i) H1
theorem intsAre_of {ns:List Int}: ∀{us:List Value},Vals (ns.map V.int) us->IntsAre us ns:=by
 induction ns with
 | nil=>intro us r;rw[List.map_nil]at r;cases r;exact .nil
 | cons n ns ih=>
  intro us r
  rw[ZJ]at r
  cases r with
  | cons r1 r2=>
   obtain ⟨t,e⟩:=r1
   subst e
   exact .cons n t (ih r2)
section
variable {X:Cx} {e:Expr} {te:TE} {lo hi:Option Expr} {tl th:TO} {pos p2:Pos}
theorem bY:PO X none GN:=by
 intro pins s σ H Q I h
 rw[evalPart_none]
 exact wpAny_pure ⟨none,H,I, .none,h⟩
theorem bc (h:PE X e te):PO X (some e) (OZ te):=by
 intro pins s σ H Q I hw
 rw[evalPart_some]
 refine cg (h pins s σ H _ I hw) fun u s1 ⟨x,H1,I1,r1,q1⟩=>?_
 obtain ⟨i,rfl,q⟩:=q1
 obtain ⟨t,rfl⟩:=r1
 exact ⟨some i,H1,I1, .int i t,q⟩
def O0 (X:Cx) (r:V->Option Int->Option Int->Hp->VK->Prop):Prop:=
 ∀(pins:List (Addr×Obj)) (s:Shared) (σ:St) (H:Hp) (x:V) (v vl vu:Value) (lo hi:Option Int) (sl:Addr) (Q:VK),Inv X pins σ H s->RelV x v->s.heap.IsSliceOf sl vl vu .none->IsPart vl lo->IsPart vu hi->r x lo hi H Q->
  ∃T id,typeLookup (.type T) "__getitem__"=pure (some (.builtin id))/\s.TypeIs v T/\wpAny (model X.prog X.w) X.A (getItem v (.ref sl)) (EP X pins σ Q) X.xe s
def Wx (r:V->Option Int->Option Int->Hp->VK->Prop) (te:TE) (tl th:TO):TE:=fun σ H Q=>te σ H fun x H1=>tl σ H1 fun l H2=>th σ H2 fun u H3=>r x l u H3 Q
theorem bj {r:V->Option Int->Option Int->Hp->VK->Prop} (hr:O0 X r) (he:PE X e te) (hl:PO X lo tl) (hu:PO X hi th):PE X (.Subscript e (.Slice lo hi none p2) pos) (Wx r te tl th):=by
 intro pins s σ H Q I h
 refine Subscript_ (cg (he pins s σ H _ I h) fun v s1 ⟨x,H1,I1,r1,q1⟩=>?_)
 refine wpAny_Slice (cg (hl pins s1 σ H1 _ I1 q1) fun vl s2 ⟨l,H2,I2,pl,q2⟩=>cg (hu pins s2 σ H2 _ I2 q2) fun vu s3 ⟨u,H3,I3,pu,q3⟩=>?_)
 rw[evalPart_none]
 refine wpAny_pure ?_
 have I4:Inv X pins σ H3 { s3 with heap:=s3.heap.push { cls:= .type "slice",data:= .fields #[vl,vu, .none] } }:=I3.kept (t':=s3.toks) fun b ob q=>MD _ q
 obtain ⟨T,id,hT,ht,hg⟩:=hr pins { s3 with heap:=s3.heap.push { cls:= .type "slice",data:= .fields #[vl,vu, .none] } } σ H3 x v vl vu l u s3.heap.objs.size Q I4 r1 (Heap.IsSliceOf.new ..) pl pu q3
 show wpAny (model X.prog X.w) X.A (subscriptTail e (.Slice lo hi none p2) v (.ref s3.heap.objs.size)) (EP X pins σ Q) X.xe { s3 with heap:=s3.heap.push { cls:= .type "slice",data:= .fields #[vl,vu, .none] } }
 exact tail_any (ops:=[.ref s3.heap.objs.size,v]) ht hT hg (by with_unfolding_all rfl)
noncomputable def iS (xs:List V) (lo hi:Option Int):List V:=(xs.drop (HT.cM xs.length 0 lo)).take (HT.cM xs.length xs.length hi - HT.cM xs.length 0 lo)
theorem iT (xs:List V) (lo hi:Option Int):(iS xs lo hi).length<=xs.length:=by
 unfold iS
 rw[ZD,ZL]
 omega
end
noncomputable def Gj (n:Nat) (i:Int):Option Nat:=if 0<=i then (if i<n then some i.toNat else none) else if -(n:Int)<=i then some (i+n).toNat else none
noncomputable def oB {α:Type} (xs:List α) (i:Int):Option α:=(Gj xs.length i).bind fun j=>xs[j]?
theorem zQ {n:Nat} {i:Int} {j:Nat} (h:Gj n i=some j):seqIndex? i n=some j/\j<n/\ -(n:Int)<=i/\i<n:=by
 unfold Gj at h
 by_cases h0:0<=i
 ·rw[if_pos h0]at h
  by_cases h1:i<n
  ·rw[if_pos h1]at h
   have e:i.toNat=j:=ZG h
   exact ⟨by rw[seqIndex_of h0 h1,e],by omega,by omega,h1⟩
  ·rw[if_neg h1]at h;cases h
 ·rw[if_neg h0]at h
  by_cases h1: -(n:Int)<=i
  ·rw[if_pos h1]at h
   have e:(i+n).toNat=j:=ZG h
   exact ⟨by rw[seqIndex_neg (by omega) h1,e],by omega,h1,by omega⟩
  ·rw[if_neg h1]at h;cases h
theorem sX {α:Type} {xs:List α} {i:Int} {v:α} (h:oB xs i=some v): ∃j,seqIndex? i xs.length=some j/\xs[j]? =some v/\j<xs.length/\ -(xs.length:Int)<=i/\i<xs.length:=by
 unfold oB at h
 cases e:Gj xs.length i with
 | none=>rw[e]at h;cases h
 | some j=>
  rw[e]at h
  obtain ⟨h1,h2,h3,h4⟩:=zQ e
  exact ⟨j,h1,h,h2,h3,h4⟩
theorem b8 {α:Type} {xs:List α} {j:Nat} {v:α} (h:xs[j]? =some v):oB xs (j:Int)=some v:=by
 have hj:j<xs.length:=(Kx.mp h).1
 have e:Gj xs.length (j:Int)=some j:=by
  unfold Gj
  rw[if_pos (by omega),if_pos (by omega)];simp
 unfold oB;rw[e];exact h
theorem C_ {α:Type} (xs:List α) (v:α):oB (xs++[v]) (-1)=some v:=by
 have hl:(xs++[v]).length=xs.length+1:=by simp
 have e:Gj (xs++[v]).length (-1)=some xs.length:=by
  unfold Gj
  rw[hl,if_neg (by decide),if_pos (by omega)]
  congr 1
  omega
 unfold oB
 rw[e]
 show (xs++[v])[xs.length]? =some v
 simp
def GO (b:Expr):Prop:= ∀o i,subscripted b false o i=operate [o,i] (getItem o i)
def Kl (X:Cx) (r:R2):Prop:=
 ∀(value slice:Expr) (pins:List (Addr×Obj)) (s:Shared) (σ:St) (H:Hp) (x y:V) (v u:Value) (Q:VK),Inv X pins σ H s->RelV x v->RelV y u->r x y H Q->
  subscripted slice false v u=operate [v,u] (getItem v u)->wpAny (model X.prog X.w) X.A (subscriptTail value slice v u) (EP X pins σ Q) X.xe s
def Bk (X:Cx) (id:String) (r:V->List V->Hp->VK->Prop):Prop:=
 ∀(pins:List (Addr×Obj)) (s:Shared) (σ:St) (H:Hp) (x:V) (xs:List V) (v:Value) (us:List Value) (Q:VK),Inv X pins σ H s->RelV x v->Vals xs us->r x xs H Q->
  wpAny (model X.prog X.w) X.A (call (.builtin id) (v::us)) (EP X pins σ Q) X.xe s
section
variable {X:Cx} {a b:Expr} {ta tb:TE} {pos:Pos}
theorem aT {r:R2} (hr:Kl X r) (ha:PE X a ta) (hb:PE X b tb) (hs:GO b):PE X (.Subscript a b pos) (QX r ta tb):=by
 intro pins s σ H Q I h
 exact Subscript_ (Kg ha hb I h fun v u s2 x y H2 I2 rx ry q=>hr a b pins s2 σ H2 x y v u Q I2 rx ry q (hs _ _))
def O1 (K:PySem.W.Frag):R2:=fun x y H Q=> ∃p xs i v,x= .ref p/\y= .int i/\br K H p xs/\oB xs i=some v/\Q v H
def O2 (K:PySem.W.Frag):R2:=fun x y H Q=> ∃p xs i v,x= .ref p/\y= .int i/\bV K H p xs/\oB xs i=some v/\Q v H
def SJ:R2:=fun x y H Q=> ∃z i c,x= .str z/\y= .int i/\z.length<=sizeLine/\oB z.cps.toList i=some c/\Q (.str ⟨#[c]⟩) H
theorem GP:Kl X (O1 X.K):=by
 intro value slice pins s σ H x y v u Q I rx ry h hs
 obtain ⟨p,xs,i,z,rfl,rfl,hq,he,q⟩:=h
 cases rx
 obtain ⟨t,rfl⟩:=ry
 obtain ⟨aJ,r,pl,hz⟩:=I.list hq
 obtain ⟨j,h1,h2,h3,h4,h5⟩:=sX he
 obtain ⟨w,ew,sR⟩:=r.get h2
 have hl:=r.length
 have hn:=fT
 have fin:EP X pins σ Q w s:=⟨z,H,I,sR,q⟩
 by_cases h0:0<=i
 ·have hj:i.toNat=j:=by
   rw[seqIndex_of h0 h5]at h1
   exact ZG h1
  exact item_listR pl.isList h0 (by omega) (by rw[hj];simpa using ew) fin hs
 ·have hj:(i+(aJ.toArray.size:Int)).toNat=j:=by
   rw[seqIndex_neg (by omega) h4]at h1
   rw[WD, <-hl]
   exact ZG h1
  exact subscriptTail_builtinR (x:=w) pl.isList.typeIs slot_list_getitem.lookup
   (wpAny_getItem_list_neg (Q:=fun r s'=>r=w/\EP X pins σ Q r s') pl.isList (by omega) (by rw[WD]<;>omega) (by omega) (by rw[hj];simpa using ew) ⟨rfl,fin⟩) hs
theorem Km:Kl X (O2 X.K):=by
 intro value slice pins s σ H x y v u Q I rx ry h hs
 obtain ⟨p,xs,i,z,rfl,rfl,hq,he,q⟩:=h
 cases rx
 obtain ⟨t,rfl⟩:=ry
 obtain ⟨aJ,r,pl,hz⟩:=I.tuple hq
 obtain ⟨j,h1,h2,h3,h4,h5⟩:=sX he
 obtain ⟨w,ew,sR⟩:=r.get h2
 have hl:=r.length
 have hn:=fT
 have fin:EP X pins σ Q w s:=⟨z,H,I,sR,q⟩
 exact subscriptTail_builtinR (x:=w) pl.typeIs slot_tuple_getitem.lookup
  (getItem_tuple (j:=j) (Q:=fun r s'=>r=w/\EP X pins σ Q r s') pl (by omega) (by omega) (by rw[WD, <-hl];exact h1) (by simpa using ew) ⟨rfl,fin⟩) hs
theorem Kn:Kl X SJ:=by
 intro value slice pins s σ H x y v u Q I rx ry h hs
 obtain ⟨z,i,c,rfl,rfl,hz,he,q⟩:=h
 obtain ⟨t,rfl⟩:=rx
 obtain ⟨t',rfl⟩:=ry
 obtain ⟨j,h1,h2,h3,h4,h5⟩:=sX he
 have hl:z.cps.toList.length=z.length:=by simp[Str.length]
 rw[hl]at h1 h4 h5
 have hn:=fT
 exact tail_any (typeIs_str s z t) slot_str_getitem.lookup (getItem_str (c:=c) (by
  have e1:decide (i< -(2 ^ 63:Int))=false:=decide_eq_false (by omega)
  have e2:decide (i ≥ 2 ^ 63)=false:=decide_eq_false (by omega)
  rw[e1,e2,Qct]) (by rw[h1];simpa using h2) ⟨.str ⟨#[c]⟩,H,I.tok _,⟨_,rfl⟩,q⟩) hs
theorem xW (aJ:List Value) (n j:Nat) (u:Value):Obj.mapSeq (·.setIfInBounds j u) { cls:= .type "list",data:= .seq aJ.toArray n }={ cls:= .type "list",data:= .seq (aJ.set j u).toArray n }:=by
 simp[Obj.mapSeq]
theorem Inv.lst {pins:List (Addr×Obj)} {σ:St} {H:Hp} {s:Shared} {p:Addr} {xs:List V} (I:Inv X pins σ H s) (h:H p=some (.lst xs)):
  ∃(aJ:List Value) (n:Nat),Vals xs aJ/\s.heap.get? p=some { cls:= .type "list",data:= .seq aJ.toArray n }/\xs.length<=sizeLine:=by
 obtain ⟨z,aJ,n,r,e⟩:=I.bW p _ h
 exact ⟨aJ,n,r,e,z⟩
theorem Inv.Ko {pins:List (Addr×Obj)} {σ:St} {H:Hp} {s:Shared} {p:Addr} {xs ys:List V} {aJ its':List Value} {n n':Nat} {f:Obj->Obj} (I:Inv X pins σ H s) (h:H p=some (.lst xs))
  (ho:s.heap.get? p=some { cls:= .type "list",data:= .seq aJ.toArray n }) (hf:f { cls:= .type "list",data:= .seq aJ.toArray n }={ cls:= .type "list",data:= .seq its'.toArray n' }) (r:Vals ys its') (hz:ys.length<=sizeLine) (t:Nat):
  Inv X pins σ (upd H p (.lst ys)) { s with heap:=s.heap.update p f,toks:=t }:=by
 have e:(s.heap.update p f).get? p=some { cls:= .type "list",data:= .seq its'.toArray n' }:=by
  rw[Qax f ho (by rw[hf]<;>rfl),hf]
 refine I.write (x:=p) (e:=p) (by rw[h];trivial) (.inl rfl) (fun b u hb q=>(Z_ _ _ (Ne.symm hb)).trans q) ⟨_,e⟩ ?_
 exact ⟨hz,its',n',r,e⟩
def O3:V->V->V->Hp->(Hp->Prop)->Prop:=fun o i v H Q=> ∃p xs k j,o= .ref p/\i= .int k/\H p=some (.lst xs)/\Gj xs.length k=some j/\Q (upd H p (.lst (xs.set j v)))
theorem set_list:Oz X O3:=by
 intro pins s σ H o i v ov iv u Q I ro ri rv h
 obtain ⟨p,xs,k,j,rfl,rfl,hp,hj,q⟩:=h
 cases ro
 obtain ⟨t,rfl⟩:=ri
 obtain ⟨aJ,n,r,ho,hz⟩:=I.lst hp
 obtain ⟨h1,h2,h3,h4⟩:=zQ hj
 have hl:=r.length
 have hn:=fT
 have I':Inv X pins σ (upd H p (.lst (xs.set j v))) { s with heap:=s.heap.update p (Obj.mapSeq (·.setIfInBounds j u)) }:=
  I.Ko hp ho (xW aJ n j u) (r.set rv j) (by rw[List.length_set];exact hz) s.toks
 by_cases h0:0<=k
 ·have hk:k.toNat=j:=by
   rw[seqIndex_of h0 h4]at h1
   exact ZG h1
  exact PySem.W.ki_setAt ho h0 (by omega) (by rw[WD, <-hl];exact h4) (by rw[hk];exact ⟨_,I',q⟩)
 ·have hk:(k+(aJ.toArray.size:Int)).toNat=j:=by
   rw[seqIndex_neg (by omega) h3]at h1
   rw[WD, <-hl]
   exact ZG h1
  exact PySem.W.ki_setBack ho (by omega) (by rw[WD, <-hl];exact h3) (by omega) (by rw[hk];exact ⟨_,I',q⟩)
theorem sY (lo hi:Option Int) (n:Nat):(sliceBounds lo hi none n).1=((HT.cM n 0 lo:Nat):Int)/\(sliceBounds lo hi none n).2.1=((HT.cM n n hi:Nat):Int)/\(sliceBounds lo hi none n).2.2=1:=by
 refine ⟨?_,?_,rfl⟩
 ·cases lo with
  | none=>simp[sliceBounds,HT.cM]
  | some i=>
   simp only[sliceBounds,HT.cM,Option.getD_none,show (1:Int)>0 by decide,if_true]
   by_cases h:i<0
   ·simp only[h,if_true]<;>omega
   ·simp only[h,if_false]<;>omega
 ·cases hi with
  | none=>simp[sliceBounds,HT.cM]
  | some i=>
   simp only[sliceBounds,HT.cM,Option.getD_none,show (1:Int)>0 by decide,if_true]
   by_cases h:i<0
   ·simp only[h,if_true]<;>omega
   ·simp only[h,if_false]<;>omega
theorem qu (aJ:List Value) (lo hi:Option Int):slicePick aJ.toArray lo hi none=((aJ.drop (HT.cM aJ.length 0 lo)).take (HT.cM aJ.length aJ.length hi - HT.cM aJ.length 0 lo)).toArray:=by
 obtain ⟨h1,h2,h3⟩:=sY lo hi aJ.toArray.size
 unfold slicePick
 rw[h1,h2,h3]
 simp only[sliceRange_one,pick_run,WD]<;>rfl
def O4 (K:PySem.W.Frag):V->Option Int->Option Int->Hp->VK->Prop:=fun x lo hi H Q=> ∃a xs,x= .ref a/\br K H a xs/\ ∀p,H p=none->Q (.ref p) (upd H p (.lst (iS xs lo hi)))
theorem GQ:O0 X (O4 X.K):=by
 intro pins s σ H x v vl vu lo hi sl Q I rx hs pl pu h
 obtain ⟨a,xs,rfl,hx,q⟩:=h
 cases rx
 obtain ⟨aJ,r,ht,hz⟩:=I.list hx
 have hlen:=r.length
 refine ⟨"list",_,slot_list_getitem.lookup,ht.isList.typeIs,?_⟩
 refine wpAny_getItem_list_slice ht.isList hs pl pu .none (by simp) ?_ (by rw[WD]<;>omega)
 rw[qu, <-hlen]
 refine ⟨.ref s.heap.objs.size,_,I.laid (t':=s.toks) (o:= .lst (iS xs lo hi)) (fun b ob q=>MD _ q) (Q3 _) ?_,rfl,q _ (I.bW.fresh (Q3 _))⟩
 exact ⟨ZW (iT xs lo hi) hz,_,0,(r.drop (HT.cM xs.length 0 lo)).take (HT.cM xs.length xs.length hi - HT.cM xs.length 0 lo),ZF _ rfl⟩
noncomputable def mY:V->Bool
 | .ft=>true
 | .bl _=>true
 | .int _=>true
 | .str _=>true
 | _=>false
noncomputable def GR:V->V->Bool
 | .ft, .ft=>true
 | .bl a, .bl b=>a==b
 | .bl a, .int b=>(if a then 1 else 0)==b
 | .int a, .bl b=>a==(if b then 1 else 0)
 | .int a, .int b=>a==b
 | .str a, .str b=>a==b
 | _,_=>false
theorem Kp {A:Around} {s:Shared} {y x:V} {u v:Value} (ry:RelV y u) (rx:RelV x v) (fy:mY y=true) (fx:mY x=true):SeqAt.EqAt A s u v (GR y x):=by
 cases y with
 | ft=>
  cases ry
  cases x with
  | ft=>cases rx;exact SeqAt.EqAt.same _
  | bl b=>cases rx;exact SeqAt.EqAt.none_bool b
  | int b=>obtain ⟨t,rfl⟩:=rx;exact SeqAt.EqAt.none_int b t
  | str b=>obtain ⟨t,rfl⟩:=rx;exact SeqAt.EqAt.none_str b t
  | _=>exact absurd (show false=true from fx) ZI
 | bl a=>
  cases ry
  cases x with
  | ft=>cases rx;exact SeqAt.EqAt.bool_none a
  | bl b=>cases rx;exact SeqAt.EqAt.bool_bool a b
  | int b=>obtain ⟨t,rfl⟩:=rx;exact SeqAt.EqAt.bool_int a b t
  | str b=>obtain ⟨t,rfl⟩:=rx;exact SeqAt.EqAt.bool_str a b t
  | _=>exact absurd (show false=true from fx) ZI
 | int a=>
  obtain ⟨t',rfl⟩:=ry
  cases x with
  | ft=>cases rx;exact SeqAt.EqAt.int_none a t'
  | bl b=>cases rx;exact SeqAt.EqAt.int_bool a t' b
  | int b=>obtain ⟨t,rfl⟩:=rx;exact SeqAt.EqAt.int_int a t' b t
  | str b=>obtain ⟨t,rfl⟩:=rx;exact SeqAt.EqAt.int_str a t' b t
  | _=>exact absurd (show false=true from fx) ZI
 | str a=>
  obtain ⟨t',rfl⟩:=ry
  cases x with
  | ft=>cases rx;exact SeqAt.EqAt.str_none a t'
  | bl b=>cases rx;exact SeqAt.EqAt.str_bool a t' b
  | int b=>obtain ⟨t,rfl⟩:=rx;exact SeqAt.EqAt.str_int a t' b t
  | str b=>obtain ⟨t,rfl⟩:=rx;exact SeqAt.EqAt.str_str a t' b t
  | _=>exact absurd (show false=true from fx) ZI
 | _=>exact absurd (show false=true from fy) ZI
noncomputable def GS (x:V) (u:Value):Bool:=match u with
 | .none=>GR .ft x
 | .bool b=>GR (.bl b) x
 | .int i _=>GR (.int i) x
 | .str z _=>GR (.str z) x
 | _=>false
theorem Dc {x y:V} {u:Value} (r:RelV y u) (f:mY y=true):GS x u=GR y x:=by
 cases y with
 | ft=>cases r;rfl
 | bl b=>cases r;rfl
 | int i=>obtain ⟨t,rfl⟩:=r;rfl
 | str z=>obtain ⟨t,rfl⟩:=r;rfl
 | _=>exact absurd (show false=true from f) ZI
theorem sZ {x:V}: ∀{xs:List V} {us:List Value},Vals xs us->xs.all mY=true->us.any (GS x)=xs.any fun y=>GR y x
 | _,_, .nil,_=>rfl
 | y::xs,u::us, .cons r t,f=>by
  rw[List.all_cons,Z2]at f
  rw[Qbe,Qbe,Dc r f.1,sZ t f.2]
theorem oE {A:Around} {s:Shared} {x:V} {v:Value} (rx:RelV x v) (fx:mY x=true): ∀{xs:List V} {us:List Value},Vals xs us->xs.all mY=true-> ∀u∈us,SeqAt.EqAt A s u v (GS x u)
 | _,_, .nil,_=>fun u hu=>by cases hu
 | y::xs,u::us, .cons r t,f=>fun u' hu=>by
  rw[List.all_cons,Z2]at f
  rcases Y5.mp hu with rfl | hu
  ·rw[Dc r f.1];exact Kp r rx f.1 fx
  ·exact oE rx fx t f.2 u' hu
noncomputable def MB (x:V) (xs:List V):Bool:=xs.any fun y=>GR y x
def UR (K:PySem.W.Frag) (neg:Bool):R2:=fun x y H Q=> ∃p xs,y= .ref p/\(br K H p xs\/bV K H p xs)/\mY x=true/\xs.all mY=true/\Q (.bl (if neg then !MB x xs else MB x xs)) H
theorem s_:js X (compareOp .NotIn) (UR X.K true):=by
 intro pins s σ H x y v u Q I rx ry h
 obtain ⟨p,xs,rfl,hq,fx,fs,q⟩:=h
 cases ry
 rcases hq with hq | hq
 ·obtain ⟨aJ,r,pl,hz⟩:=I.list hq
  refine SeqAt.notIn_listAt (GS x) pl.isList (fun w hw=>oE rx fx r fs w (by simpa using hw)) ⟨.bl _,H,I,rfl,?_⟩
  rw[show aJ.toArray.any (GS x)=aJ.any (GS x) by simp,sZ r fs]
  exact q
 ·obtain ⟨aJ,r,pl,hz⟩:=I.tuple hq
  refine SeqAt.notIn_tupleAt (GS x) pl (fun w hw=>oE rx fx r fs w (by simpa using hw)) ⟨.bl _,H,I,rfl,?_⟩
  rw[show aJ.toArray.any (GS x)=aJ.any (GS x) by simp,sZ r fs]
  exact q
theorem tf:cN X (.builtin "len") (fun xs H Q=> ∃p ys,xs=[.ref p]/\(br X.K H p ys\/bV X.K H p ys)/\Q (.int ys.length) H):=by
 intro pins s σ H xs us Q I r h
 obtain ⟨p,ys,rfl,hq,q⟩:=h
 obtain ⟨u,rfl,rx⟩:=vals1 r
 cases rx
 have hn:=fT
 rcases hq with hq | hq
 ·obtain ⟨aJ,r',pl,hz⟩:=I.list hq
  have hlen:=r'.length
  exact Calls.call_len_list pl.isList (by simp only[WD]<;>omega) ⟨.int ys.length,H,I.tok _,⟨s.toks+1,by rw[WD,hlen]⟩,q⟩
 ·obtain ⟨aJ,r',pl,hz⟩:=I.tuple hq
  have hlen:=r'.length
  exact len_tuple pl (by simp only[WD]<;>omega) ⟨.int ys.length,H,I.tok _,⟨s.toks+1,by rw[WD,hlen]⟩,q⟩
theorem tm:cN X (.builtin "len") (fun xs H Q=> ∃z,xs=[.str z]/\z.length<=sizeLine/\Q (.int z.length) H):=by
 intro pins s σ H xs us Q I r h
 obtain ⟨z,rfl,hz,q⟩:=h
 obtain ⟨u,rfl,t,rfl⟩:=vals1 r
 have hn:=fT
 exact len_str (by omega) ⟨.int z.length,H,I.tok _,⟨_,rfl⟩,q⟩
theorem tw:cN X (.type "list") (fun xs H Q=> ∃p ys,xs=[.ref p]/\(br X.K H p ys\/bV X.K H p ys)/\ ∀l,H l=none->Q (.ref l) (upd H l (.lst ys))):=by
 intro pins s σ H xs us Q I r h
 obtain ⟨p,ys,rfl,hq,q⟩:=h
 obtain ⟨u,rfl,rx⟩:=vals1 r
 cases rx
 have fin: ∀(aJ:List Value),Vals ys aJ->ys.length<=sizeLine-> ∀(h':Heap) (c':Nat),(∀b o',s.heap.get? b=some o'->h'.get? b=some o')->
   h'.get? s.heap.objs.size=some { cls:= .type "list",dict:=none,data:= .seq aJ.toArray c',slots:= #[] }->EP X pins σ Q (.ref s.heap.objs.size) { s with heap:=h' }:=fun aJ r' hz h' c' kp e=>
  ⟨.ref s.heap.objs.size,_,I.laid (t':=s.toks) kp (Q3 _) (show bZ X.prog X.w _ h' _ (.lst ys) from ⟨hz,aJ,c',r',e⟩),rfl,q _ (I.bW.fresh (Q3 _))⟩
 rcases hq with hq | hq
 ·obtain ⟨aJ,r',pl,hz⟩:=I.list hq
  have hlen:=r'.length
  obtain ⟨o,ho,hc,n,hd⟩:=pl.isList
  exact call_list_seq p (.inl rfl) ho hc hd (fun h' c' kp e=>fin aJ r' hz h' c' kp e) (by simp only[WD]<;>omega)
 ·obtain ⟨aJ,r',pl,hz⟩:=I.tuple hq
  have hlen:=r'.length
  obtain ⟨o,ho,hc,n,hd⟩:=pl
  exact call_list_seq p (.inr rfl) ho hc hd (fun h' c' kp e=>fin aJ r' hz h' c' kp e) (by simp only[WD]<;>omega)
theorem qv:cN X (.type "tuple") (fun xs H Q=> ∃p ys,xs=[.ref p]/\((br X.K H p ys/\ ∀l,H l=none->Q (.ref l) (upd H l (.tup ys)))\/(bV X.K H p ys/\Q (.ref p) H))):=by
 intro pins s σ H xs us Q I r h
 obtain ⟨p,ys,rfl,h⟩:=h
 obtain ⟨u,rfl,rx⟩:=vals1 r
 cases rx
 rcases h with ⟨hq,q⟩ | ⟨hq,q⟩
 ·obtain ⟨aJ,r',pl,hz⟩:=I.list hq
  have hlen:=r'.length
  refine call_tuple_list pl.isList (fun h' kp=>?_) (by simp only[WD]<;>omega)
  have I1:Inv X pins σ H { s with heap:=h' }:=I.kept (t':=s.toks) kp
  have I2:Inv X pins σ (upd H h'.objs.size (.tup ys)) { s with heap:=h'.push { cls:= .type "tuple",data:= .seq aJ.toArray } }:=
   I1.laid (t':=s.toks) (fun b o e=>MD _ e) (Q3 _) (show bZ X.prog X.w _ _ _ (.tup ys) from ⟨hz,aJ,r',IsTup.new _ _⟩)
  exact ⟨.ref h'.objs.size,_,I2,rfl,q _ (I1.bW.fresh (Q3 _))⟩
 ·obtain ⟨aJ,r',pl,hz⟩:=I.tuple hq
  exact call_tuple_same pl ⟨.ref p,H,I,rfl,q⟩
def SK (K:PySem.W.Frag) (T:String) (x:V) (H:Hp):Prop:=match x with
 | .str _=>T="str"
 | .int _=>T="int"
 | .ref p=>(T="list"/\ ∃xs,br K H p xs)\/(T="tuple"/\ ∃o,K.lookup p=some o/\o.cls= .type "tuple"/\o.dict=none)\/
   (T="dict"/\((∃aP,H p=some (.dK aP))\/ ∃aP,H p=some (.dT aP)))\/(T="set"/\ ∃S n,H p=some (.set S n))
 | _=>False
theorem Dd {pins:List (Addr×Obj)} {σ:St} {H:Hp} {s:Shared} {T:String} {x:V} {v:Value} (I:Inv X pins σ H s) (r:RelV x v) (ty:SK X.K T x H):
  s.TypeIs v T/\ ∀a,v= .ref a-> ∃ob,s.heap.get? a=some ob/\ob.dict=none:=by
 cases x with
 | str z=>
  obtain ⟨t,rfl⟩:=r
  cases (show T="str" from ty)
  exact ⟨typeIs_str s z t,fun _ e=>nomatch e⟩
 | int i=>
  obtain ⟨t,rfl⟩:=r
  cases (show T="int" from ty)
  exact ⟨typeIs_int s i t,fun _ e=>nomatch e⟩
 | ref p=>
  cases r
  rcases ty with ⟨rfl,xs,hq⟩ | ⟨rfl,o,hk,hc,hd⟩ | ⟨rfl,hk⟩ | ⟨rfl,S,n,hk⟩
  ·obtain ⟨aJ,_,pl,_⟩:=I.list hq
   refine ⟨pl.isList.typeIs,fun a e=>?_⟩
   cases e
   obtain ⟨o,n,e,c,hd,_⟩:=pl
   exact ⟨o,e,hd⟩
  ·refine ⟨⟨o,I.nP p o hk,hc⟩,fun a e=>?_⟩
   cases e
   exact ⟨o,I.nP _ o hk,hd⟩
  ·have z: ∃o,s.heap.get? p=some o/\o.ExactDict:=by
    rcases hk with ⟨aP,hk⟩ | ⟨aP,hk⟩
    ·obtain ⟨_,_,_,_,o,_,_,e,ex,_⟩:=I.bW p _ hk
     exact ⟨o,e,ex⟩
    ·obtain ⟨_,_,_,_,o,_,_,e,ex,_⟩:=I.bW p _ hk
     exact ⟨o,e,ex⟩
   obtain ⟨o,e,ex⟩:=z
   refine ⟨⟨o,e,ex.1⟩,fun a e2=>?_⟩
   cases e2
   exact ⟨o,e,ex.2.1⟩
  ·obtain ⟨o,_,_,_,e,ex,_⟩:=I.bW p _ hk
   refine ⟨⟨o,e,ex.1⟩,fun a e2=>?_⟩
   cases e2
   exact ⟨o,e,ex.2.1⟩
 | _=>exact False.elim ty
def O5 (K:PySem.W.Frag) (T:String) (r:V->List V->Hp->VK->Prop) (to:TE):TE:=fun σ H Q=>to σ H fun x H1=>SK K T x H1/\r x [] H1 Q
def US (K:PySem.W.Frag) (T:String) (r:V->List V->Hp->VK->Prop) (to:TE) (t:TA):TE:=fun σ H Q=>to σ H fun x H1=>SK K T x H1/\t σ H1 fun xs H2=>r x xs H2 Q
variable {o e:Expr} {es:List Expr} {to:TE} {t:TA} {name:Str} {apos iH:Pos} {T id:String} {r:V->List V->Hp->VK->Prop}
theorem Kq (pa:PlainAttrs T) (slot:Slot T name id) (Kr:typeOf (.builtin id)=pure (.type "method_descriptor")) (hm:Bk X id r) (ho:PE X o to)
  (oF:attributeBase o name X.env (eval o X.env)=eval o X.env:=by rfl) (mZ:(apos.endLine==iH.line)=true:=by rfl):PE X (.Call (.Attribute o name apos) [] [] iH) (O5 X.K T r to):=by
 intro pins s σ H Q I h
 refine wpAny_Call_method0_late oF mZ (cg (ho pins s σ H _ I h) fun v s1 ⟨x,H1,I1,r1,ty,q1⟩=>?_)
 obtain ⟨h1,h2⟩:=Dd I1 r1 ty
 exact ⟨T,id,pa,slot,Kr,h1,h2,Calls.callWith_builtin rfl (PySem.evalArgs_none (hm pins s1 σ H1 x [] v [] Q I1 r1 .nil q1))⟩
theorem O6 (pa:PlainAttrs T) (slot:Slot T name id) (Kr:typeOf (.builtin id)=pure (.type "method_descriptor")) (hm:Bk X id r) (ho:PE X o to) (ha:PA X (e::es) t)
  (oF:attributeBase o name X.env (eval o X.env)=eval o X.env:=by rfl)
  (Bl:((backTo iH (starEach (e::es) X.env)).all (fun x=>!x.1)&&(backToKw iH (keywordEach [] X.env)).all (fun x=>x.1.isSome)
   &&decide ((e::es).length+([]:List Keyword).length+(if ([]:List Keyword).isEmpty then 0 else 1)<30))=true:=by rfl)
  (mZ:(apos.endLine==iH.line)=true:=by rfl) (hs:starEach (e::es) X.env=(false,eval e X.env)::starEach es X.env:=by rfl) (xX:(backTo iH (starEach es X.env)).any (·.1)=false:=by rfl):
  PE X (.Call (.Attribute o name apos) (e::es) [] iH) (US X.K T r to t):=by
 intro pins s σ H Q I h
 refine wpAny_Call_method_late oF Bl mZ rfl (cg (ho pins s σ H _ I h) fun v s1 ⟨x,H1,I1,r1,ty,q1⟩=>?_)
 obtain ⟨h1,h2⟩:=Dd I1 r1 ty
 refine ⟨T,id,pa,slot,Kr,h1,h2,?_⟩
 have hA:=ha iH pins s1 σ H1 _ I1 q1
 rw[hs]at hA ⊢
 refine Calls.callWith_builtin (by show (false||(backTo iH (starEach es X.env)).any (·.1))=false;rw[xX]<;>rfl) (Calls.evalArgs_plain ?_)
 exact cg hA fun us s2 ⟨vs,H2,I2,r2,q2⟩=>hm pins s2 σ H2 x vs v us Q I2 r1 r2 q2
end
def MC (X:Cx) (id:String) (r:V->List V->Hp->VK->Prop):Prop:=
 ∀(pins:List (Addr×Obj)) (s:Shared) (σ:St) (H:Hp) (x:V) (xs:List V) (v:Value) (us:List Value) (Q:VK),Inv X pins σ H s->RelV x v->Vals xs us->r x xs H Q->
  wpAny (model X.prog X.w) X.A (call (.builtin id) (v::us)) (EP X pins σ Q) X.xe s
theorem Vals.one: ∀{x:V} {us:List Value},Vals [x] us-> ∃u,us=[u]/\RelV x u
 | _,_, .cons r .nil=>⟨_,rfl,r⟩
theorem Vals.zero: ∀{us:List Value},Vals [] us->us=[]
 | _, .nil=>rfl
theorem Vals.dropLast {xs:List V} {us:List Value} (h:Vals xs us):Vals xs.dropLast us.dropLast:=by
 induction h with
 | nil=>exact .nil
 | cons r t ih=>
  cases t with
  | nil=>exact .nil
  | cons q t'=>exact .cons r ih
theorem Vals.eraseIdx: ∀{xs:List V} {us:List Value} (i:Nat),Vals xs us->Vals (xs.eraseIdx i) (us.eraseIdx i)
 | _,_,_, .nil=> .nil
 | _,_,0, .cons _ t=>t
 | _,_,i+1, .cons r t=> .cons r (Vals.eraseIdx i t)
theorem Vals.reverse {xs:List V} {us:List Value} (h:Vals xs us):Vals xs.reverse us.reverse:=by
 induction h with
 | nil=>exact .nil
 | cons r t ih=>rw[List.reverse_cons,List.reverse_cons];exact Vals.append ih (.cons r .nil)
theorem xY {α:Type} (l:List α):l.eraseIdx (l.length - 1)=l.dropLast:=by
 induction l with
 | nil=>rfl
 | cons a r ih=>
  cases r with
  | nil=>rfl
  | cons b r=>
   have e:(a::b::r).length - 1=((b::r).length - 1)+1:=by
    have h1:(a::b::r).length=r.length+2:=rfl
    have h2:(b::r).length=r.length+1:=rfl
    omega
   rw[e,Qcg,ih]
   all_goals rfl
theorem qY {α:Type}: ∀(l:List α) (i:Nat),(l.eraseIdx i).length<=l.length
 | [],_=>Q3 _
 | _::_,0=>Qbc _
 | _::r,i+1=>Qay (qY r i)
section
variable {X:Cx} {pins:List (Addr×Obj)} {σ:St} {H:Hp} {s:Shared} {l b:Addr} {xs ys zs:List V}
theorem Inv.Bm {aJ its':List Value} {n:Nat} {f:Array Value->Array Value} {t':Nat} (I:Inv X pins σ H s) (hH:H l=some (.lst xs))
  (e:s.heap.get? l=some { cls:= .type "list",data:= .seq aJ.toArray n }) (hf:f aJ.toArray=its'.toArray) (hv:Vals ys its') (hz:ys.length<=sizeLine):
  Inv X pins σ (upd H l (.lst ys)) { s with heap:=s.heap.update l (Obj.mapSeq f),toks:=t' }:=by
 have q:=PySem.IsL.update e f
 rw[hf]at q
 refine I.write (x:=l) (e:=l) (by rw[hH];exact trivial) (.inl rfl) (fun b' u hb hu=>(Z_ s.heap (Obj.mapSeq f) (Ne.symm hb)).trans hu) ⟨_,q⟩ ?_
 exact ⟨hz,its',_,hv,q⟩
theorem Inv.SM {aJ:List Value} {t':Nat} (I:Inv X pins σ H s) (hv:Vals ys aJ) (hz:ys.length<=sizeLine):
  Inv X pins σ (upd H s.heap.objs.size (.lst ys)) { s with heap:=s.heap.push { cls:= .type "list",data:= .seq aJ.toArray },toks:=t' }:=
 I.laid (fun _ _ q=>MD _ q) (Q3 _) ⟨hz,aJ,0,hv,ZF _ rfl⟩
theorem Inv.fresh (I:Inv X pins σ H s):H s.heap.objs.size=none:=I.bW.fresh (Q3 _)
theorem Inv.tD (I:Inv X pins σ H s) (hH:H l=some (.lst xs)):xs.length<=sizeLine/\ ∃(aJ:List Value) (n:Nat),Vals xs aJ/\xs.length=aJ.length/\s.heap.get? l=some { cls:= .type "list",data:= .seq aJ.toArray n }:=by
 obtain ⟨z,aJ,n,r,e⟩:=I.bW l _ hH
 exact ⟨z,aJ,n,r,r.length,e⟩
theorem Df {n:Nat} (h:n<=sizeLine):Builtin.List.listTooLong n=false:=by
 unfold Builtin.List.listTooLong
 exact decide_eq_false (by omega)
end
section
variable {X:Cx}
def GU:V->List V->Hp->VK->Prop:=fun x vs H Q=> ∃l xs y,x= .ref l/\vs=[y]/\H l=some (.lst xs)/\xs.length<sizeLine/\Q .ft (upd H l (.lst (xs++[y])))
theorem cq:MC X "list.append" GU:=by
 intro pins s σ H x vs v us Q I rx rv h
 obtain ⟨l,xs,y,rfl,rfl,hH,hz,q⟩:=h
 cases rx
 obtain ⟨u,rfl,ru⟩:=rv.one
 obtain ⟨z,aJ,n,r,hl,e⟩:=I.tD hH
 refine call_meets F.slot_list_append ⟨_,e,rfl⟩ F.entry_list_append (F.args_list_append_2 _ _) (PySem.list_append l aJ.toArray n u (by rw[WD];omega)) ⟨e,?_⟩
 refine ⟨.ft,_,I.Bm (its':=aJ++[u]) hH e (by simp) (r.append (.cons ru .nil)) ?_,rfl,q⟩
 rw[UY,List.length_singleton]
 omega
def GV:V->List V->Hp->VK->Prop:=fun x vs H Q=> ∃l b xs zs,x= .ref l/\vs=[.ref b]/\H l=some (.lst xs)/\H b=some (.lst zs)/\xs.length+zs.length<=sizeLine/\Q .ft (upd H l (.lst (xs++zs)))
theorem Bn:MC X "list.extend" GV:=by
 intro pins s σ H x vs v us Q I rx rv h
 obtain ⟨l,b,xs,zs,rfl,rfl,hH,hB,hz,q⟩:=h
 cases rx
 obtain ⟨u,rfl,ru⟩:=rv.one
 cases ru
 obtain ⟨z,aJ,n,r,hl,e⟩:=I.tD hH
 obtain ⟨z2,xZ,n2,r2,GW,e2⟩:=I.tD hB
 have hsz:aJ.toArray.size+xZ.toArray.size<=sizeLine:=by rw[WD,WD];omega
 have O7: ¬(!aJ.toArray.isEmpty&&Builtin.List.listTooLong (aJ.toArray.size+xZ.toArray.size))=true:=by
  rw[Df hsz,Bool.and_false]
  exact ZI
 refine call_meets F.slot_list_extend ⟨_,e,rfl⟩ F.entry_list_extend (F.args_list_extend_2 _ _)
  (AutoSeq1.list_extend_list_list_0 l aJ.toArray n b xZ.toArray n2 O7 (by rw[WD];omega) (by omega)) ⟨e,e2,?_⟩
 refine ⟨.ft,_,I.Bm (its':=aJ++xZ) hH e (by simp) (r.append r2) ?_,rfl,q⟩
 rw[UY]
 omega
def SN:V->List V->Hp->VK->Prop:=fun x vs H Q=> ∃l xs y,x= .ref l/\vs=[]/\H l=some (.lst xs)/\xs[xs.length - 1]? =some y/\Q y (upd H l (.lst xs.dropLast))
theorem Ks:MC X "list.pop" SN:=by
 intro pins s σ H x vs v us Q I rx rv h
 obtain ⟨l,xs,y,rfl,rfl,hH,hy,q⟩:=h
 cases rx
 have xp:=rv.zero
 subst xp
 obtain ⟨z,aJ,n,r,hl,e⟩:=I.tD hH
 obtain ⟨u,hu,ru⟩:=r.get hy
 have Wy:aJ.toArray[aJ.toArray.size - 1]? =some u:=by
  show aJ.toArray[aJ.length - 1]? =some u
  rw[<-Qcp, <-hl]
  exact hu
 refine call_meets F.slot_list_pop ⟨_,e,rfl⟩ F.entry_list_pop (F.args_list_pop_1 _) (MeetsSeq.list_pop_last l aJ.toArray n u Wy (by rw[WD];omega)) ⟨e,?_⟩
 refine ⟨y,_,I.Bm (its':=aJ.dropLast) hH e ?_ r.dropLast ?_,ru,q⟩
 ·show aJ.toArray.eraseIdxIfInBounds (aJ.toArray.size - 1)=aJ.dropLast.toArray
  rw[WD,List.eraseIdxIfInBounds_toArray,xY]
 ·rw[List.length_dropLast]
  omega
def Kt:V->List V->Hp->VK->Prop:=fun x vs H Q=> ∃l xs i k y,x= .ref l/\vs=[.int i]/\H l=some (.lst xs)/\ -(2 ^ 63)<=i/\i<2 ^ 63/\seqIndex? i xs.length=some k/\xs[k]? =some y/\Q y (upd H l (.lst (xs.eraseIdx k)))
theorem oG:MC X "list.pop" Kt:=by
 intro pins s σ H x vs v us Q I rx rv h
 obtain ⟨l,xs,i,k,y,rfl,rfl,hH,h1,h2,hk,hy,q⟩:=h
 cases rx
 obtain ⟨u,rfl,ru⟩:=rv.one
 obtain ⟨t,rfl⟩:=ru
 obtain ⟨z,aJ,n,r,hl,e⟩:=I.tD hH
 obtain ⟨w,hw,sR⟩:=r.get hy
 refine call_meets F.slot_list_pop ⟨_,e,rfl⟩ F.entry_list_pop (F.args_list_pop_2 _ _)
  (MeetsSeq.list_pop_at l aJ.toArray n i t k w (fitsIndex_both h1 h2) (by rw[WD, <-hl];exact hk) (by rw[<-Qcp];exact hw) (by rw[WD];omega)) ⟨e,?_⟩
 refine ⟨y,_,I.Bm (its':=aJ.eraseIdx k) hH e ?_ (r.eraseIdx k) ?_,sR,q⟩
 ·show aJ.toArray.eraseIdxIfInBounds k=(aJ.eraseIdx k).toArray
  rw[List.eraseIdxIfInBounds_toArray]
 ·have:=qY xs k
  omega
def Dg:V->List V->Hp->VK->Prop:=fun x vs H Q=> ∃l xs,x= .ref l/\vs=[]/\H l=some (.lst xs)/\Q .ft (upd H l (.lst xs.reverse))
theorem x3:MC X "list.reverse" Dg:=by
 intro pins s σ H x vs v us Q I rx rv h
 obtain ⟨l,xs,rfl,rfl,hH,q⟩:=h
 cases rx
 have xp:=rv.zero
 subst xp
 obtain ⟨z,aJ,n,r,hl,e⟩:=I.tD hH
 refine call_meets F.slot_list_reverse ⟨_,e,rfl⟩ F.entry_list_reverse (F.args_list_reverse_1 _) (AutoSeq1.list_reverse_list_0 l aJ.toArray n (by rw[WD];omega)) ⟨e,?_⟩
 refine ⟨.ft,_,I.Bm (its':=aJ.reverse) hH e (by simp) r.reverse ?_,rfl,q⟩
 rw[Z0]
 omega
def SO:R2:=fun x y H Q=> ∃l b xs zs,x= .ref l/\y= .ref b/\H l=some (.lst xs)/\H b=some (.lst zs)/\xs.length+zs.length<=sizeLine/\ ∀p,H p=none->Q (.ref p) (upd H p (.lst (xs++zs)))
theorem Dh:js X (binaryOp .Add) SO:=by
 intro pins s σ H x y v u Q I rx ry h
 obtain ⟨l,b,xs,zs,rfl,rfl,hH,hB,hz,q⟩:=h
 cases rx
 cases ry
 obtain ⟨z,aJ,n,r,hl,e⟩:=I.tD hH
 obtain ⟨z2,xZ,n2,r2,GW,e2⟩:=I.tD hB
 refine PySem.P.add_list e e2 ?_ (by rw[WD,WD];omega)
 have ea:aJ.toArray++xZ.toArray=(aJ++xZ).toArray:=by simp
 rw[ea]
 exact ⟨.ref _,_,I.SM (t':=s.toks) (r.append r2) (by rw[UY];omega),rfl,q _ I.fresh⟩
end
section
variable {prog:Program} {w:World} {A:Around} {E:Value->Shared->Prop} {s:Shared}
end
section
variable {X:Cx}
end
end L2
namespace UT
open PySem PySem.W PySem.Calls PyProof.Rows
theorem nk {P:Params} {h:Heap}: ∀(ns:List Int) (vs:List Value),WellAll P h vs (ns.map WData.int)->IntsAre vs ns:=by
 intro ns
 induction ns with
 | nil=>
  intro vs w
  rw[List.map_nil]at w
  cases w
  exact .nil
 | cons n ns ih=>
  intro vs w
  rw[ZJ]at w
  cases w with
  | cons a b=>
   cases a
   exact .cons _ _ (ih _ b)
theorem Bo {l:OpenLaw} {n:Nat} (hn:l.most=some n) {P:Params} {h:Heap} {args:List WData} {vals:List Value}
  (GX:l.row.toRowW.claim.pre args=true) (x4:WellAll P h vals args):
  ∃a vs ns,vals=[Value.ref a]/\args=[WData.list (ns.map WData.int)]/\h.get? a=some { cls:= .type "list",data:= .seq vs.toArray }/\IntsAre vs ns/\ns.length<=n:=by
 have GY:WShape.hasAll [] args [.list .int]=true:=(pre_splitW GX).1
 have hc:l.pre.holds [] { args:=args }=true:=(pre_splitW GX).2
 obtain ⟨d,r,rfl,h1,h2⟩:=hasAllW_cons GY
 obtain rfl:=hasAllW_nil h2
 obtain ⟨xs,rfl,h3⟩:=hasW_list h1
 obtain ⟨ns,rfl⟩:=items_int h3
 have hlen:ns.length<=n:=by
  unfold OpenLaw.pre at hc
  have h4:(WTm.not (.lt (.lit (.int (n:Int))) (.len (.arg 0)))).holds [] { args:=[.list (ns.map .int)] }=true:=by
   have h4:=(holds_andW hc).1
   rw[hn]at h4
   exact h4
  have h5:=condW_of h4 (w_not (w_lt w_lit (w_len_list (w_arg rfl))))
  rw[UX]at h5
  refine Nat.le_of_not_lt fun q=>?_
  have q':(n:Int)<((ns.length:Nat):Int):=by omega
  first
   |(rw[decide_eq_true q']at h5;exact absurd h5 (by decide))
   |(simp at h5;omega)
 cases x4 with
 | cons w1 w2=>
  cases w2
  cases w1 with
  | list ho O8=>exact ⟨_,_,ns,rfl,rfl,ho,nk ns _ O8,hlen⟩
theorem Bp (l:OpenLaw) (args:List WData):l.row.toRowW.claim.post args (.bool true) args=true:=
 postW_of (r:=l.row.toRowW) (X:=(true==true))
  (show WShape.has [] (.bool true) .bool=true by first | rfl | decide | simp[WShape.has,WShape.arms,WShape.armsAll])
  (show (WTm.eq .res (.lit (.bool true))).value [] { args:=args,res:=some (.bool true),after:=args }=some (.bool (true==true)) from w_eq_bool (w_res rfl) w_lit) rfl
theorem vq {l:OpenLaw} {n:Nat} {q:Program} {loose:List Str} {XP:(Str->Option Value)->Heap->Prop} {YP:World->Heap->Prop} {d:DefRec}
  (hn:l.most=some n) (O9:d.params.defaults=[])
  (call: ∀(w:World) (s₀ s₁:Shared) (mg mb:Str->Option Value) (fa:Addr) (o:Obj) (pm cd doc:Value) (a:Addr) (vs:List Value) (ns:List Int),
   Ground q loose [] XP w s₀ mg mb s₁.heap->YP w s₁.heap->
   s₁.heap.get? fa=some o->o.data= .func (docDef d.name d.params d.body d.scope pm cd doc)->s₁.heap.CodeRec cd d.name->mg d.name=some (.ref fa)->
   s₁.heap.get? a=some { cls:= .type "list",data:= .seq vs.toArray }->IntsAre vs ns->ns.length<=n->s₁.gens= #[]->
   codeAny (model l.prog w) callerA (.call (.ref fa) ⟨[.ref a],[]⟩) (fun r s'=>r= .ok (.ret (.bool true))/\OldK s₁.heap s'.heap/\s'.os=s₁.os/\AllBare s'.gens) s₁):
  WalkO q loose XP YP l.row.toRowW d [] (fun f vs=>PySem.call f vs):=by
 intro w s₀ s₁ mg mb G Y fa o pm cd doc dV kV ho hd lL hD hmg hg args vals as GX Wz Y1 x4 Y2
 obtain rfl:dV= .none:=Dflts.none hD O9
 obtain rfl:kV= .none:=Dflts.noKw hD
 obtain ⟨a,vs,ns,rfl,rfl,Ku,hints,hlen⟩:=Bo hn GX x4
 refine enter_call (codeAny_mono (call w s₀ s₁ mg mb fa o pm cd doc a vs ns G Y ho (fd_plain hd) lL hmg Ku hints hlen hg) fun r s' hq=>?_)
 obtain ⟨rfl,h2,h3,h4⟩:=hq
 exact ⟨.inl ⟨.bool true, .bool true,[],rfl,fun _=>rfl, .bool true,Bp l _,fun _=>⟨List.Pairwise.nil,fun _ hm=>(nomatch hm)⟩⟩,h2,h3,h4⟩
section
variable {prog:Program} {w:World} {A:Around} {E:Value->Shared->Prop} {s:Shared} {K:Frag}
end
end UT
namespace L2
open PySem PySem.Spec PyProof.Rows
theorem qZ: ∀{vs:List Value} {ns:List Int},IntsAre vs ns->Vals (ns.map V.int) vs
 | _,_, .nil=> .nil
 | _,_, .cons n t h=> .cons ⟨t,rfl⟩ (qZ h)
def Kv (H:Hp):Prop:= ∀b,H b=none\/ ∃o xs,H b=some (.zD o (.lst xs))
theorem Di {P:Program} {w:World} {K:PySem.W.Frag} {mg mb:Str->Option Value} {CX:Bh} {k:Nat} {fa a:Addr} {fd:FuncData} {x:Str} {sp:Sp} {s₁:Shared} {vs:List Value} {ns:List Int}
  (KX:K.In s₁.heap) (QZ:s₁.heap.Ns mainGlobals mg) (hb:s₁.heap.Ns builtinsNs mb) (WA: ∀x:Str,x≠"__name__"->mb x=bootBuiltins x) (SQ:s₁.heap.NoLimit) (hg:s₁.gens= #[])
  (ha:s₁.heap.get? a=some { cls:= .type "list",data:= .seq vs.toArray }) (hi:IntsAre vs ns) (hl:ns.length<=sizeLine) (hr:eY k callerA)
  (F: ∀base:Heap,K.In base->base.Ns mainGlobals mg->bA P w K mg base CX k fa fd [x] sp) (O_: ∀(s:Shared) (u:Value),BindsTo s fd ⟨[u],[]⟩ [(x,u)])
  (Jg: ∀H:Hp,Kv H->br K H a (ns.map V.int)->sp [.ref a] H (fun v _=>v= .bl true) fun _ _ _=>False)
  (SR: ∀H e s',CX [] H s₁ (fun _ _ _=>False) e s'->False):
  codeAny (model P w) callerA (.call (.ref fa) ⟨[.ref a],[]⟩) (fun r s'=>r= .ok (.ret (.bool true))/\OldK s₁.heap s'.heap/\s'.os=s₁.os/\AllBare s'.gens) s₁:=by
 have rv:=qZ hi
 have SS:=hi.length
 -- from an abstract heap in UU nothing but Gg script may be tracked
 have core: ∀H:Hp,Kv H->br K H a (ns.map V.int)->j6 P w H s₁.heap->(∀b,H b≠none->b=a)->(H a≠none->K.lookup a=none)->
   codeAny (model P w) callerA (.call (.ref fa) ⟨[.ref a],[]⟩) (fun r s'=>r= .ok (.ret (.bool true))/\OldK s₁.heap s'.heap/\s'.os=s₁.os/\AllBare s'.gens) s₁:=by
  intro H hO hS bW hA hK
  have zR: ∀{b:Addr} {o:Obj},s₁.heap.get? b=some o->H b=none->(sO s₁.heap H).get? b=some o:=fun e n=>CQ e n
  have OW: ∀{b:Addr} {o:Obj} {es:Array DictEntry} {ep:Nat},s₁.heap.get? b=some o->o.data= .dict es ep->H b=none:=fun {b o es ep} e d=>by
   cases q:H b with
   | none=>rfl
   | some u=>
    have e':b=a:=hA b (by rw[q];simp)
    subst e'
    rw[ha]at e;cases e
    have d':Data.seq vs.toArray _=Data.dict es ep:=d
    cases d'
  have Q0: ∀{b:Addr} {m:Str->Option Value},s₁.heap.Ns b m->(sO s₁.heap H).Ns b m:=fun {b m} ⟨o,es,ep,e,d,r⟩=>⟨o,es,ep,zR e (OW e d),d,r⟩
  have UW:K.In (sO s₁.heap H):=fun b o e=>zR (KX b o e) (by
   cases q:H b with
   | none=>rfl
   | some u=>
    have e':b=a:=hA b (by rw[q];simp)
    subst e'
    rw[hK (by rw[q];simp)]at e;cases e)
  have hM:Mod K mg (sO s₁.heap H):=⟨UW,Q0 QZ,⟨mb,Q0 hb,WA⟩,let ⟨mc,h1,h2⟩:=SQ;⟨mc,Q0 h1,h2⟩⟩
  have e0:xS P w K mg (sO s₁.heap H) callerA [] s₁ H:=⟨rfl,hM,fun b o e=>GA e,Nat.le_of_eq (A8 _ _),trivial,fun b hb=>absurd (show b∈([]:List Addr) from hb) (by simp),bW, .of_eq hg⟩
  refine codeAny_mono ((F _ UW (Q0 QZ)).run callerA [] s₁ H ⟨[.ref a],[]⟩ [.ref a] [.ref a] _ _ hr e0 (O_ s₁ (.ref a)) (.cons rfl .nil) (Jg H hO hS)) fun r s' h=>?_
  cases r with
  | error e=>exact (SR H e s' h).elim
  | ok fl=>
   cases fl with
   | next=>exact False.elim h
   | brk=>exact False.elim h
   | cont=>exact False.elim h
   | ret u=>
    obtain ⟨v,H',os,bare,un,SU,r',q⟩:=h
    have q':v= .bl true:=q
    subst q'
    obtain rfl:u=Value.bool true:=r'
    refine ⟨rfl,OldK.of_keep fun b o e=>?_,os,bare⟩
    cases q:H b with
    | none=>exact un.keep b o e q (by intro z;exact absurd (show b∈([]:List Addr) from z) (by simp)) (by simp)
    | some u=>
     rcases hO b with z | ⟨ob,xs,z⟩
     ·rw[q]at z;cases z
     ·have z2:=un.oj b ob _ z
      obtain ⟨e1,_⟩:=bW b _ z
      obtain ⟨e2,_⟩:=SU b _ z2
      rw[e]at e1;cases e1
      exact e2
 cases hk:K.lookup a with
 | some o=>
  -- Gg script is one of Gg De own objects
  have e:=KX a o hk
  rw[ha]at e
  cases e
  refine core (fun _=>none) (fun _=> .inl rfl) (.inr ⟨_,vs.toArray,_,hk,rfl,rfl,rfl,by rw[WD,SS];exact hl,by simpa using rv⟩) (fun b u z=>by have z':(none:Option HO)=some u:=z;cases z') (fun b z=>absurd rfl z) fun z=>absurd rfl z
 | none=>
  refine core (fun b=>if b=a then some (.zD { cls:= .type "list",data:= .seq vs.toArray } (.lst (ns.map V.int))) else none) (fun b=>?_) (.inl (.inr ⟨{ cls:= .type "list",data:= .seq vs.toArray },if_pos rfl⟩)) (fun b u z=>?_) (fun b z=>?_) fun _=>hk
  ·by_cases hb:b=a
   ·exact .inr ⟨_,_,if_pos hb⟩
   ·exact .inl (if_neg hb)
  ·by_cases hb:b=a
   ·have z':=(if_pos hb).symm.trans z
    cases z'
    subst hb
    exact ⟨ha,by rw[UX];exact hl,vs,_,rv,ha⟩
   ·have z':=(if_neg hb).symm.trans z
    cases z'
  ·by_cases hb:b=a
   ·exact hb
   ·exact absurd (if_neg hb) z
theorem zS {l:PySem.W.OpenLaw} {n k:Nat} {q:Program} {loose:List Str} {XP:(Str->Option Value)->Heap->Prop} {YP:World->Heap->Prop} {d:DefRec} {K:Params->PySem.W.Frag} {CX:World->Bh} {sp:World->Sp} {x:Str}
  (hn:l.most=some n) (xN:n<=sizeLine) (O9:d.params.defaults=[]) (hr:eY k callerA)
  (hY: ∀(w:World) (h:Heap),YP w h->(K w.params).In h)
  (F: ∀(w:World) (mg:Str->Option Value) (fa:Addr) (h:Heap),(K w.params).In h->h.Ns mainGlobals mg->mg d.name=some (.ref fa)->
   ∃fd:FuncData,(∀(s:Shared) (u:Value),BindsTo s fd ⟨[u],[]⟩ [(x,u)])/\
    ∀base:Heap,(K w.params).In base->base.Ns mainGlobals mg->bA l.prog w (K w.params) mg base (CX w) k fa fd [x] (sp w))
  (Jg: ∀(w:World) (H:Hp) (a:Addr) (ns:List Int),ns.length<=n->Kv H->br (K w.params) H a (ns.map V.int)->sp w [.ref a] H (fun v _=>v= .bl true) fun _ _ _=>False)
  (SR: ∀(w:World) (H:Hp) (s:Shared) (e:Value) (s':Shared),CX w [] H s (fun _ _ _=>False) e s'->False):
  PySem.W.WalkO q loose XP YP l.row.toRowW d [] (fun f vs=>PySem.call f vs):=by
 refine UT.vq hn O9 fun w s₀ s₁ mg mb fa o pm cd doc a vs ns G Y ho hd lL hmg Ku hints hlen hg=>?_
 have KX:=hY w _ Y
 obtain ⟨fd,hb,hF⟩:=F w mg fa _ KX G.T.g hmg
 exact Di KX G.T.g G.T.b G.T.builtins G.T.nolimit hg Ku hints (ZW hlen xN) hr hF hb (fun H hO hS=>Jg w H a ns hlen hO hS) fun H e s'=>SR w H s₁ e s'
noncomputable def fL (s:Stmt):Arguments:=match s with
 | .FunctionDef _ a _ _ _ _ _ _ _ _=>a
 | _=>{ posonlyargs:=[],args:=[],vararg:=none,kwonlyargs:=[],kw_defaults:=[],kwarg:=none,defaults:=[] }
noncomputable def eT (s:Stmt):List Stmt:=match s with
 | .FunctionDef _ _ b _ _ _ _ _ _ _=>b
 | _=>[]
noncomputable def au (s:Stmt):Scope:=match s with
 | .FunctionDef _ _ _ _ _ _ sc _ _ _=>sc
 | _=>{ kind:= .function,names:=[],isGenerator:=false,isCoroutine:=false }
abbrev eF:Bh:=fun _ _ _ _ _ _=>False
abbrev E0:XK:=fun _ _ _=>False
theorem az {X:Cx}:Passes eF X E0:=fun _ _ _ _ _ _ _ h=>h.elim
structure GZ (K:PySem.W.Frag) (x qual:Str) (st:Stmt) (f:Addr) (fd:FuncData):Prop where
 ex: ∃(oc:Value) (od:Option Addr) (kV doc pm:Value) (an:Option Addr) (cn ct:Value) (Gi:Array (Option Value)),
  fd=PySem.W.fnOf x qual (fL st) (eT st) (au st) .none kV doc pm an cn ct/\K.lookup f=some ⟨oc,od, .func fd,Gi⟩/\PySem.W.codeIn K cn qual=true
 kp:PySem.W.keepIn K (.ref f)=true
section
variable {P:Program} {w:World} {K:PySem.W.Frag} {mg:Str->Option Value} {base:Heap}
theorem GZ.ok {x qual:Str} {st:Stmt} {f:Addr} {fd:FuncData} {N ps:List Str} {k:Nat} {sp:Sp} (F:GZ K x qual st f fd) (S:aD N ps (au st)) (len: ∀vs H Q E,sp vs H Q E->vs.length=ps.length)
  (C6: ∀(cn:Value) (A:Around) (outer:List Env) (s:Shared) (H:Hp) (vs:List V) (Q:VK) (E:XK),eY k (A.deeper (envOfC qual (au st) s.heap.objs.size f cn))->sp vs H Q E->
   ∃t,xE (Bi eF P w K mg base N qual (au st) f cn A outer s H E).QV (eT st) t/\t { nx:=fun _ H'=>Q .ft H',rt:=Q } (start N vs) H):bA P w K mg base eF (k+1) f fd ps sp:=by
 obtain ⟨oc,od,kV,doc,pm,an,cn,ct,Gi,rfl,lk,lL⟩:=F.ex
 refine OX lk lL S len fun A outer s H vs Q E hr Jg=>?_
 obtain ⟨t,h,q⟩:=C6 cn A outer s H vs Q E hr Jg
 exact ⟨t,h.QV,q⟩
theorem GZ.binds {x qual:Str} {st:Stmt} {f:Addr} {fd:FuncData} {ps:List Str} (F:GZ K x qual st f fd)
  (h: ∀(kV doc pm:Value) (an:Option Addr) (cn ct:Value) (us:List Value),us.length=ps.length->bindArgs (PySem.W.fnOf x qual (fL st) (eT st) (au st) .none kV doc pm an cn ct) ⟨us,[]⟩=pure (ps.zip us)):Binds K fd ps []:=by
 obtain ⟨oc,od,kV,doc,pm,an,cn,ct,Gi,rfl,lk,lL⟩:=F.ex
 exact .all (h kV doc pm an cn ct)
theorem x5 {x qual:Str} {st:Stmt} {f:Addr} {oc:Value} {od an:Option Addr} {Gi:Array (Option Value)} {kV doc pm cn ct:Value} (l:K.lookup f=some ⟨oc,od, .func (PySem.W.fnOf x qual (fL st) (eT st) (au st) .none kV doc pm an cn ct),Gi⟩)
  (c:PySem.W.codeIn K cn qual=true) (k:PySem.W.keepIn K (.ref f)=true):GZ K x qual st f (PySem.W.fnOf x qual (fL st) (eT st) (au st) .none kV doc pm an cn ct):=⟨⟨oc,od,kV,doc,pm,an,cn,ct,Gi,rfl,l,c⟩,k⟩
end
theorem oH {A:Around} {k:Nat} (hr:eY k A):A.units+1<cLine:=ZZ (Nat.add_le_add_left (by decide:1<=64) _) hr.units
section
variable {X:Cx}
theorem pv (i:Nat) {x:Str} {pos:Pos} (hN:X.N[i]? =some x:=by rfl) (hv:Ol X.env.scope x:=by first | exact Or.inl rfl | exact Or.inr (Or.inl rfl) | exact Or.inr (Or.inr rfl)) (hd:(x==("__debug__":Str))=false:=by decide)
  (lL:(x==("__classdict__":Str))=false:=by decide):PE X (.Name x pos) (J3 i):=J4 hN hv hd lL
end
theorem lX {A B:Prop} (h:B):if false=true then A else B:=by
 rw[if_neg ZI]
 exact h
theorem vv {A B:Prop} (h:A):if true=true then A else B:=by
 rw[if_pos rfl]
 exact h
theorem bC {c A B:Prop} [Decidable c] (h1:c->A) (h2: ¬c->B):if c then A else B:=by
 by_cases h:c
 ·rw[if_pos h]
  exact h1 h
 ·rw[if_neg h]
  exact h2 h
def ao (H H':Hp):Prop:= ∀b o,H b=some o->H' b=some o
theorem ao.refl (H:Hp):ao H H:=fun _ _ h=>h
theorem ao.trans {H H1 H2:Hp} (a:ao H H1) (b:ao H1 H2):ao H H2:=fun c o h=>b c o (a c o h)
theorem ao.free {H H':Hp} (e:ao H H') {l:Addr} (h:H' l=Option.none):H l=Option.none:=by
 cases q:H l with
 | none=>rfl
 | some o=>
  rw[e l o q]at h
  cases h
theorem ao.seq {K:PySem.W.Frag} {H H':Hp} {a:Addr} {xs:List V} (e:ao H H') (h:br K H a xs):br K H' a xs:=by
 rcases h with (h | ⟨o,h⟩) | h
 ·exact .inl (.inl (e _ _ h))
 ·exact .inl (.inr ⟨o,e _ _ h⟩)
 ·exact .inr h
noncomputable def iI (env:Env):List (Str×NameKind)->List (Str×Addr)->List (Str×Addr)
 | [],acc=>acc
 |(n,k)::r,acc=>iI env r (if k== .free then (match env.cells.lookup n with | some a=>(n,a)::acc | none=>acc) else acc)
theorem fz {env:Env}: ∀(names:List (Str×NameKind)) (acc:List (Str×Addr)),(∀y∈names,y.2= .free-> ∃c,env.cells.lookup y.1=some c)->
  (forIn names acc fun (x:Str×NameKind) (cs:List (Str×Addr))=>(if (x.2==NameKind.free)=true then do let a <-cellOf env x.1;pure (ForInStep.yield ((x.1,a)::cs)) else pure (ForInStep.yield cs):Sem (ForInStep (List (Str×Addr)))))=pure (iI env names acc)
 | [],acc,_=>rfl
 |(n,k)::r,acc,h=>by
  rw[Qcv]
  have hr: ∀y∈r,y.2= .free-> ∃c,env.cells.lookup y.1=some c:=fun y hy=>h y (Y4 _ hy)
  cases hk:(k==NameKind.free) with
  | false=>
   have e1:iI env ((n,k)::r) acc=iI env r acc:=by
    show iI env r (if (k==NameKind.free)=true then (match env.cells.lookup n with | some a=>(n,a)::acc | none=>acc) else acc)=_
    rw[hk,if_neg ZI]
   rw[e1, <-fz r acc hr]
   simp only[hk,Qbh,if_false,pure_bind]
  | true=>
   obtain ⟨c,hc⟩:=h (n,k) Zy (by simpa using hk)
   have e1:iI env ((n,k)::r) acc=iI env r ((n,c)::acc):=by
    have qr:env.cells.lookup n=some c:=hc
    show iI env r (if (k==NameKind.free)=true then (match env.cells.lookup n with | some a=>(n,a)::acc | none=>acc) else acc)=_
    rw[hk,qr,if_pos rfl]
   have e2:cellOf env n=pure c:=by
    have qr:env.cells.lookup n=some c:=hc
    unfold cellOf
    rw[qr]
   rw[e1, <-fz r ((n,c)::acc) hr]
   simp only[hk,if_true,e2,pure_bind]
theorem qw {scope:Scope} {env:Env} (h: ∀y∈scope.names,y.2= .free-> ∃c,env.cells.lookup y.1=some c):closureFor scope env=pure (iI env scope.names []):=by
 have e:=fz scope.names [] h
 simp only[closureFor]
 rw[e]
 rfl
theorem lY {env:Env} {x:Str} {c:Addr}: ∀(names:List (Str×NameKind)) (acc:List (Str×Addr)),(∀y d,acc.lookup y=some d->env.cells.lookup y=some d)->(iI env names acc).lookup x=some c->env.cells.lookup x=some c
 | [],acc,ha,h=>ha x c h
 |(n,k)::r,acc,ha,h=>by
  refine lY r _ (fun y d q=>?_) h
  by_cases hk:(k==NameKind.free)=true
  ·rw[if_pos hk]at q
   cases e:env.cells.lookup n with
   | none=>rw[e]at q;exact ha y d q
   | some a=>
    rw[e]at q
    have q':List.lookup y ((n,a)::acc)=some d:=q
    rw[Qae]at q'
    cases hy:(y==n) with
    | true=>
     rw[hy]at q'
     have:y=n:=by simpa using hy
     subst this
     rw[e];exact q'
    | false=>rw[hy]at q';exact ha y d q'
  ·rw[if_neg hk]at q;exact ha y d q
theorem vw {env:Env} {x:Str}: ∀(names:List (Str×NameKind)) (acc:List (Str×Addr)),(∃c,acc.lookup x=some c)-> ∃c,(iI env names acc).lookup x=some c
 | [],acc,h=>h
 |(n,k)::r,acc,⟨c,hc⟩=>by
  refine vw r _ ?_
  by_cases hk:(k==NameKind.free)=true
  ·rw[if_pos hk]
   cases e:env.cells.lookup n with
   | none=>exact ⟨c,hc⟩
   | some a=>
    show ∃c,List.lookup x ((n,a)::acc)=some c
    rw[Qae]
    cases hy:(x==n) with
    | true=>exact ⟨a,rfl⟩
    | false=>exact ⟨c,hc⟩
  ·rw[if_neg hk];exact ⟨c,hc⟩
theorem oI {env:Env} {x:Str}: ∀(names:List (Str×NameKind)) (acc:List (Str×Addr)),(∀y∈names,y.2= .free-> ∃c,env.cells.lookup y.1=some c)->names.lookup x=some .free-> ∃c,(iI env names acc).lookup x=some c
 | [],acc,_,h=>by simp at h
 |(n,k)::r,acc,hf,h=>by
  have hr: ∀y∈r,y.2= .free-> ∃c,env.cells.lookup y.1=some c:=fun y hy=>hf y (Y4 _ hy)
  rw[Qae]at h
  cases hy:(x==n) with
  | true=>
   rw[hy]at h
   have hk:k= .free:=ZG h
   subst hk
   have hx:x=n:=by simpa using hy
   subst hx
   obtain ⟨c,hc⟩:=hf (x, .free) Zy rfl
   have qr:env.cells.lookup x=some c:=hc
   refine vw r _ ⟨c,?_⟩
   rw[if_pos (show (NameKind.free==NameKind.free)=true by decide),qr]
   show List.lookup x ((x,c)::acc)=some c
   rw[Qae]
   simp
  | false=>
   rw[hy]at h
   exact oI r _ hr h
theorem kD {env:Env}: ∀{names:List (Str×NameKind)} {x:Str},names.lookup x=some .free->
  ((names.map fun (n,k)=>if (k==NameKind.free&&env.scope.kind== .function&&env.kindOf n==some .cell) then (n,NameKind.cell) else (n,k)).lookup x=some .cell\/
   (names.map fun (n,k)=>if (k==NameKind.free&&env.scope.kind== .function&&env.kindOf n==some .cell) then (n,NameKind.cell) else (n,k)).lookup x=some .free)
 | [],_,h=>by simp at h
 |(n,k)::r,x,h=>by
  have ih:= @kD env r x
  show (List.lookup x ((if (k==NameKind.free&&env.scope.kind== .function&&env.kindOf n==some .cell)=true then (n,NameKind.cell) else (n,k))::_)=_\/List.lookup x ((if (k==NameKind.free&&env.scope.kind== .function&&env.kindOf n==some .cell)=true then (n,NameKind.cell) else (n,k))::_)=_)
  cases hx:x==n with
  | true=>
   simp only[Qae,hx]at h
   cases h
   by_cases hc:((NameKind.free==NameKind.free)&&env.scope.kind== .function&&env.kindOf n==some .cell)=true
   ·rw[if_pos hc];simp[Qae,hx]
   ·rw[if_neg hc];simp[Qae,hx]
  | false=>
   simp only[Qae,hx]at h
   by_cases hc:(k==NameKind.free&&env.scope.kind== .function&&env.kindOf n==some .cell)=true
   ·rw[if_pos hc];simp only[Qae,hx];exact ih h
   ·rw[if_neg hc];simp only[Qae,hx];exact ih h
theorem kE {env:Env}: ∀{names:List (Str×NameKind)} {x:Str},(∀y∈names,y.2≠ .cell)->
  ((names.map fun (n,k)=>if (k==NameKind.free&&env.scope.kind== .function&&env.kindOf n==some .cell) then (n,NameKind.cell) else (n,k)).lookup x=some .cell\/
   (names.map fun (n,k)=>if (k==NameKind.free&&env.scope.kind== .function&&env.kindOf n==some .cell) then (n,NameKind.cell) else (n,k)).lookup x=some .free)->names.lookup x=some .free
 | [],_,_,h=>by simp at h
 |(n,k)::r,x,hn,h=>by
  have ih:= @kE env r x (fun y hy=>hn y (Y4 _ hy))
  have hk:=hn (n,k) Zy
  have h':(List.lookup x ((if (k==NameKind.free&&env.scope.kind== .function&&env.kindOf n==some .cell)=true then (n,NameKind.cell) else (n,k))::(r.map fun (n,k)=>if (k==NameKind.free&&env.scope.kind== .function&&env.kindOf n==some .cell) then (n,NameKind.cell) else (n,k)))=some .cell\/List.lookup x ((if (k==NameKind.free&&env.scope.kind== .function&&env.kindOf n==some .cell)=true then (n,NameKind.cell) else (n,k))::(r.map fun (n,k)=>if (k==NameKind.free&&env.scope.kind== .function&&env.kindOf n==some .cell) then (n,NameKind.cell) else (n,k)))=some .free):=h
  cases hx:x==n with
  | true=>
   rw[Qae,hx]
   by_cases hc:(k==NameKind.free&&env.scope.kind== .function&&env.kindOf n==some .cell)=true
   ·have:(k==NameKind.free)=true:=by
     rw[Z2,Z2]at hc;exact hc.1.1
    have Bq:k= .free:=by simpa using this
    rw[Bq]
   ·rw[if_neg hc]at h'
    simp only[Qae,hx]at h'
    rcases h' with h' | h'
    ·exact absurd (ZG h') hk
    ·exact h'
  | false=>
   rw[Qae,hx]
   by_cases hc:(k==NameKind.free&&env.scope.kind== .function&&env.kindOf n==some .cell)=true
   ·rw[if_pos hc]at h';simp only[Qae,hx]at h';exact ih h'
   ·rw[if_neg hc]at h';simp only[Qae,hx]at h';exact ih h'
abbrev Gk:Value->Shared->Prop:=fun _ _=>False
theorem tE {prog:Program} {w:World} {A:Around} {R:Result->Shared->Prop} {s:Shared} {elt target iter:Expr} {ifs:List Expr} {scope:Scope} {pos:Pos} {it acc:Value} {env:Env} (I:Nat->Shared->Prop)
  (turn: ∀n s,I n s->wpAny (model prog w) A (pyNext it) (fun r s₁=>match r with
   | none=>R (.ok .next) s₁
   | some v=>wpAny (model prog w) A (letOwnedTupleGo target it v) (fun _ U1=>wpAny (model prog w) A (assign target env v) (fun _ s₂=>
     wpAny (model prog w) A (forIn ifs true fun c r=>if r=true then do let ok <-isTrue c env (eval c env);pure (ForInStep.yield ok) else pure (ForInStep.yield r)) (fun ok s₃=>
      if ok=true then wpAny (model prog w) A (eval elt env) (fun x s₄=>
       wpAny (model prog w) A (call (.builtin "list.append") [acc,x]) (fun _ s₅=> ∃m,m<n/\I m s₅) Gk s₄) Gk s₃
      else ∃m,m<n/\I m s₃) Gk s₂) Gk U1) Gk s₁) Gk s)
  (n:Nat) (h:I n s):codeAny (model prog w) A (.compLoop (.ListComp elt [⟨target,iter,ifs,0⟩] scope pos) 0 it acc env) R s:=by
 refine codeAny_loop rfl I (fun n s hI=>?_) n h
 show wpAny _ A ((compTurn (.ListComp elt [⟨target,iter,ifs,0⟩] scope pos) 0 it acc env).onRaise (fun x=>do noteFrame x env;theTreesLotGoes x)) _ _ s
 refine wpAny_noted ?_
 rw[compTurn_list]
 have no: ∀{F:Value->Shared->Prop} (e:Value) (s':Shared),Gk e s'->F e s':=fun _ _ h=>h.elim
 refine wpAny_bind (wpAny_standAt (wpAny_bind (wpAny_mono (turn n s hI) (fun r s₁ h₁=>?_) no)))
 cases r with
 | none=>exact wpAny_pure h₁
 | some v=>
  refine wpAny_bind (wpAny_mono h₁ (fun _ U1 WH=>?_) no)
  refine wpAny_bind (wpAny_mono WH (fun _ s₂ h₂=>wpAny_bind (wpAny_mono h₂ (fun ok s₃ h₃=>?_) no)) no)
  cases ok with
  | false=>exact wpAny_pure ⟨rfl,h₃⟩
  | true=>
   exact wpAny_bind (wpAny_bind (wpAny_mono h₃ (fun x s₄ h₄=>wpAny_bind (wpAny_mono h₄ (fun _ s₅ h₅=>wpAny_pure (wpAny_pure ⟨rfl,h₅⟩)) no)) no))
noncomputable def cC (X:Cx) (scope:Scope) (C:Addr) (Nc:List Str) (s:Shared) (H:Hp) (fp:List Addr):Cx where
 prog:=X.prog
 w:=X.w
 K:=X.K
 mg:=X.mg
 base:=X.base
 A:=X.A
 N:=Nc
 s₀:=s
 H₀:=H
 env:=compEnvC scope (iI X.env scope.names []) C X.env
 outer:=X.stack
 stack:=X.stack
 ex:=fp
 fn:=fun _=>false
 calm:=X.calm
 pn:=[]
 xe:=Gk
def kF (X:Cx) (scope:Scope):List Str->List (Option Nat)->Prop
 | [],[]=>True
 | _::ys,none::os=>kF X scope ys os
 | y::ys,some j::os=>(X.N[j]? =some y/\scope.names.lookup y=some .free/\(X.env.kindOf y=some .cell\/X.env.kindOf y=some .free))/\kF X scope ys os
 | _,_=>False
noncomputable def kG (σ:St) (ix:List (Option Nat)):St:=ix.map fun o=>match o with | none=>none | some j=>(σ[j]?).getD none
def Wk:St->St->Prop
 | [],[]=>True
 | none::a,_::b=>Wk a b
 | some v::a,w::b=>w=some v/\Wk a b
 | _,_=>False
theorem Wk.len: ∀{a b:St},Wk a b->a.length=b.length
 | [],[],_=>rfl
 | none::a,_::b,h=>congrArg (· +1) (Wk.len (a:=a) (b:=b) h)
 | some _::a,_::b,h=>congrArg (· +1) (Wk.len (a:=a) (b:=b) h.2)
theorem Wk.get: ∀{a b:St} {i:Nat} {v:V},Wk a b->a[i]? =some (some v)->b[i]? =some (some v)
 | [],[],i,v,_,h=>by simp at h
 | none::a,x::b,0,v,_,h=>by simp at h
 | none::a,x::b,i+1,v,k,h=>by
  have:=Wk.get (a:=a) (b:=b) (i:=i) (v:=v) k (by simpa using h)
  simpa using this
 | some y::a,x::b,0,v,k,h=>by
  have e:y=v:=by simpa using h
  subst e
  simp[k.1]
 | some y::a,x::b,i+1,v,k,h=>by
  have:=Wk.get (a:=a) (b:=b) (i:=i) (v:=v) k.2 (by simpa using h)
  simpa using this
theorem kF.len {X:Cx} {scope:Scope}: ∀{N:List Str} {ix:List (Option Nat)},kF X scope N ix->ix.length=N.length
 | [],[],_=>rfl
 | _::ys,none::os,h=>congrArg (· +1) (kF.len (N:=ys) (ix:=os) h)
 | _::ys,some _::os,h=>congrArg (· +1) (kF.len (N:=ys) (ix:=os) h.2)
theorem kF.get {X:Cx} {scope:Scope}: ∀{N:List Str} {ix:List (Option Nat)} {i j:Nat},kF X scope N ix->ix[i]? =some (some j)-> ∃y,N[i]? =some y/\X.N[j]? =some y/\scope.names.lookup y=some .free/\(X.env.kindOf y=some .cell\/X.env.kindOf y=some .free)
 | [],[],i,j,_,h=>by simp at h
 | y::ys,none::os,0,j,_,h=>by simp at h
 | y::ys,none::os,i+1,j,k,h=>by
  obtain ⟨z,h1,h2⟩:=kF.get (N:=ys) (ix:=os) (i:=i) (j:=j) k (by simpa using h)
  exact ⟨z,by simpa using h1,h2⟩
 | y::ys,some j'::os,0,j,k,h=>by
  have e:j'=j:=by simpa using h
  subst e
  exact ⟨y,by simp,k.1⟩
 | y::ys,some j'::os,i+1,j,k,h=>by
  obtain ⟨z,h1,h2⟩:=kF.get (N:=ys) (ix:=os) (i:=i) (j:=j) k.2 (by simpa using h)
  exact ⟨z,by simpa using h1,h2⟩
theorem Br {σ:St} {ix:List (Option Nat)} {i:Nat} {v:V} (h:(kG σ ix)[i]? =some (some v)): ∃j,ix[i]? =some (some j)/\σ[j]? =some (some v):=by
 unfold kG at h
 rw[ZA]at h
 cases e:ix[i]? with
 | none=>rw[e]at h;cases h
 | some o=>
  rw[e]at h
  cases o with
  | none=>cases h
  | some j=>
   refine ⟨j,rfl,?_⟩
   have h':some ((σ[j]?).getD none)=some (some v):=h
   cases q:σ[j]? with
   | none=>rw[q]at h';cases h'
   | some z=>rw[q]at h';cases h';rfl
theorem x6 {X:Cx} {pins:List (Addr×Obj)} {σ:St} {H:Hp} {s:Shared} (I:Inv X pins σ H s) {scope:Scope} {Nc:List Str} {ix:List (Option Nat)} (Dj:kF X scope Nc ix) (iO: ∀y∈scope.names,y.2≠ .cell)
  (kA:scope.kind= .function) (ME: ∀y∈scope.names,y.2= .free->X.env.kindOf y.1=some .cell\/X.env.kindOf y.1=some .free) {fp:List Addr} (hf: ∀b∈fp,ni X pins H b) (Pa: ∀b∈fp, ∃o,s.heap.get? b=some o)
  {C:Addr} {h':Heap} {t':Nat} {m0:Str->Option Value} (hC:s.heap.objs.size<=C) (QZ:h'.Ns C m0) (k: ∀b o,s.heap.get? b=some o->h'.get? b=some o):
  Inv (cC X scope C Nc s H fp) [] (kG σ ix) H { s with heap:=h',toks:=t' }:=by
 have Q5: ∀y∈scope.names,y.2= .free-> ∃c,X.env.cells.lookup y.1=some c:=fun y hy e=>I.ok.has y.1 (ME y hy e)
 have kH: ∀{x:Str} {c:Addr},(iI X.env scope.names []).lookup x=some c->X.env.cells.lookup x=some c:=fun {x c} e=>lY scope.names [] (fun y d q=>by simp at q) e
 refine ⟨⟨I.ok.mod,kA,I.ok.glob,I.ok.blt,hC,fun x y c h1 h2=>I.ok.inj x y c (kH h1) (kH h2),fun x hx=>?_,fun x c h=>?_,I.ok.hd,I.ok.frames, .inl rfl,fun b hb=>?_,I.bs,ZW I.ok.GB I.sz,fun b o e hb=>?_,fun b hb hs=>?_,I.stack,I.zF⟩,
  rfl,I.bare,Un.kept k,⟨m0,QZ,fun i x v h1 h2 h3=>?_⟩,fun x c e=>?_,I.bW.fresh hC,fun x c e=>I.iM x c (kH e),fun p hp=>absurd (show p∈([]:List (Addr×Obj)) from hp) (by simp),I.bW.kept k,?_⟩
 ·have Jb:scope.names.lookup x=some .free:=kE iO hx
  exact oI scope.names [] Q5 Jb
 ·exact absurd (show false=true from h) (by decide)
 ·refine ⟨?_,fun x c e=>(hf b hb).2.2.2.2.1 x c (kH e)⟩
  obtain ⟨o,ho⟩:=Pa b hb
  exact ZH (ZM (ZC ho) hC)
 ·rcases (hf b hb).2.2.2.1 with z | z
  ·exact I.ok.CT b o e z
  ·exact absurd (ZM (ZC e) (ZW I.ok.GB z)) (kb _)
 ·rcases Y5.mp (I.om b hs) with z | z
  ·exact (hf b hb).2.1 z
  ·exact (hf b hb).2.2.1 z
 ·obtain ⟨j,e1,e2⟩:=Br h2
  obtain ⟨y,y1,y2,y3,y4⟩:=Dj.get e1
  have U2:Nc[i]? =some x:=h1
  rw[y1]at U2
  cases U2
  obtain ⟨m,hn,hl⟩:=I.loc
  have hv:Ol X.env.scope x:=by
   rcases y4 with z | z
   ·exact .inr (.inl z)
   ·exact .inr (.inr z)
  obtain ⟨u,r,l⟩:=hl j x v y2 e2 hv
  refine ⟨u,r, .inr ⟨kD y3,?_⟩⟩
  rcases l with ⟨l,_⟩ | ⟨_,c,hc,q⟩
  ·rcases y4 with z | z
   ·rw[z]at l;cases l
   ·rw[z]at l;cases l
  ·obtain ⟨c',qr⟩:=oI scope.names [] Q5 y3
   have e:=kH qr
   rw[hc]at e
   cases e
   obtain ⟨o,ho,hd⟩:=q
   exact ⟨c,qr,o,k _ _ ho,hd⟩
 ·obtain ⟨v,o,ho,hd⟩:=I.cell x c (kH e)
  exact ⟨v,o,k _ _ ho,hd⟩
 ·show (kG σ ix).length=Nc.length
  unfold kG
  rw[UX]
  exact Dj.len
theorem Bs {X:Cx} {pins zH:List (Addr×Obj)} {σ σ':St} {H H':Hp} {s s':Shared} (I:Inv X pins σ H s) {scope:Scope} {Nc:List Str} {fp:List Addr} {C D:Addr} (J:Inv (cC X scope C Nc s H fp) zH σ' H' s')
  (hf: ∀b∈fp,ni X pins H b) (hD:s.heap.objs.size<=D) (hC:s.heap.objs.size<=C) (Ky:D≠C) {aJ:List Value} {n:Nat} {acc:List V} (eD:s'.heap.get? D=some { cls:= .type "list",data:= .seq aJ.toArray n }) (r:Vals acc aJ)
  (hz:acc.length<=sizeLine) (nD:H' D=none) {oC:Obj} (eC:s'.heap.get? C=some oC) (dC: ∀v,oC.data≠ .cell v):Inv X (pins++[(C,oC)]) σ (upd H' D (.lst acc)) s':=by
 have lt: ∀b o,s.heap.get? b=some o->b≠D:=fun b o e=>ZH (ZM (ZC e) hD)
 have U:Un (zE X.stack) fp H H' s.heap s'.heap:=J.base
 have U':Un (zE X.stack) fp H (upd H' D (.lst acc)) s.heap s'.heap:=
  ⟨U.keep,U.slot,fun b o e n hx=>by rw[ay (lt b o e)];exact U.free b o e n hx,U.there,fun b xs e=>by rw[ay (ar (U.lT b xs e) nD)];exact U.lT b xs e,
   fun b o u e=>by rw[ay (ar (U.oj b o u e) nD)];exact U.oj b o u e,fun b ps e=>by
    obtain ⟨more,q⟩:=U.sN b ps e
    exact ⟨more,by rw[ay (ar q nD)];exact q⟩⟩
 have bW:j6 X.prog X.w (upd H' D (.lst acc)) s'.heap:=fun b u e=>by
  by_cases hb:b=D
  ·subst hb
   rw[ah]at e;cases e
   exact ⟨hz,aJ,n,r,eD⟩
  ·rw[ay hb]at e
   exact (J.bW b u e).vf (fun c v _ q=>q) (fun c q=>by rw[ay (ar q nD)];exact q) fun c xs q=>by rw[ay (ar q nD)];exact q
 have I':Inv X pins σ (upd H' D (.lst acc)) s':=I.Ot (ch:=fp) J.os U' bW J.bare fun b hb=>by
  obtain ⟨_,h1,_,h2,h3,h4⟩:=hf b hb
  exact ⟨h2,h1,h3,h4⟩
 refine I'.ky fun p hp=>?_
 rcases Zz.mp hp with z | z
 ·exact I'.pin p (ZS _ z)
 ·have e:p=(C,oC):=UZ.mp z
  subst e
  refine ⟨eC,?_,Qdk (ZM I.lt hC),I.J0 hC,dC⟩
  rw[ay (Ne.symm Ky)]
  exact J.free
def PF (Y:Cx) (ifs:List Expr) (tc:TT):Prop:=
 ∀(pins:List (Addr×Obj)) (s:Shared) (σ:St) (H:Hp) (Q:Bool->Hp->Prop),Inv Y pins σ H s->tc σ H Q->
  wpAny (model Y.prog Y.w) Y.A (forIn ifs true fun c r=>if r=true then do let ok <-isTrue c Y.env (eval c Y.env);pure (ForInStep.yield ok) else pure (ForInStep.yield r)) (TP Y pins σ Q) Y.xe s
def Pb:TT:=fun _ H Q=>Q true H
theorem gA {Y:Cx}:PF Y [] Pb:=fun _ _ _ H _ I h=>wpAny_tests_nil ⟨H,I,h⟩
theorem x8 {Y:Cx} {c:Expr} {tc:TT} (h:PT Y c tc):PF Y [c] tc:=fun pins s σ H Q I hw=>wpAny_tests_one (h pins s σ H Q I hw)
def q0 (J:It) (σc:St) (g:TG) (tc:TT) (te:TE) (Q:VK) (H1:Hp):Prop:=
 ∃W:Nat->Nat->List V->Hp->Prop,(∃m,W 0 m [] H1)/\ ∀i m acc H,W i m acc H->acc.length<sizeLine/\
 ((J.stop i H/\ ∀D,H D=none->Q (.ref D) (upd H D (.lst acc)))\/
  (J.go i H/\ ∀x H',J.CG i H x H'->g x σc H' fun σ2 H2=>Wk σc σ2/\tc σ2 H2 fun b H3=>if b=true then te σ2 H3 fun v H4=> ∃m',m'<m/\W (i+1) m' (acc++[v]) H4 else ∃m',m'<m/\W (i+1) m' acc H3))
def Dk (wi:TI) (ix:List (Option Nat)) (g:TG) (tc:TT) (te:TE):TE:=fun σ H Q=>wi σ H fun J H1=>q0 J (kG σ ix) g tc te Q H1
theorem Bt {X:Cx} {tg iter elt:Expr} {ifs:List Expr} {scope:Scope} {pos:Pos} {wi:TI} {g:TG} {tc:TT} {te:TE} {Nc:List Str} {ix:List (Option Nat)} (hi:PI X tg iter wi) (q5:X.calm=true) (Dj:kF X scope Nc ix)
  (iO: ∀y∈scope.names,y.2≠ .cell) (kA:scope.kind= .function) (ME: ∀y∈scope.names,y.2= .free->X.env.kindOf y.1=some .cell\/X.env.kindOf y.1=some .free)
  (hG: ∀C s H fp,PG (cC X scope C Nc s H fp) tg g) (hT: ∀C s H fp,PF (cC X scope C Nc s H fp) ifs tc) (hE: ∀C s H fp,PE (cC X scope C Nc s H fp) elt te)
  {pins:List (Addr×Obj)} {s:Shared} {σ:St} {H:Hp} {Q:VK} (I:Inv X pins σ H s) (h:Dk wi ix g tc te σ H Q) {RR:Value->Addr->Result->Shared->Prop}
  (WI: ∀(D C:Addr) (oC:Obj) (m:Str->Option Value) (H':Hp) (s':Shared),s'.heap.get? C=some oC->s'.heap.Ns C m->ni X pins H' C->Inv X (pins++[(C,oC)]) σ H' s'->Q (.ref D) H'->RR (.ref D) C (.ok .next) s'):
  wpAny (model X.prog X.w) X.A (eval iter X.env) (fun v s1=>wpAny (model X.prog X.w) X.A (pyIter v) (fun it s2=>wpAny (model X.prog X.w) X.A (newList []) (fun acc s3=>
   wpAny (model X.prog X.w) X.A (newFunctionEnv scope X.env.globals (iI X.env scope.names []) [] X.env.qual none .none (some X.env)) (fun Pc s4=>
    codeAny (model X.prog X.w) X.A (.compStart (.ListComp elt [⟨tg,iter,ifs,0⟩] scope pos) 0 it acc { Pc with scope:=relabel scope X.env }) (RR acc Pc.locals) s4) X.xe s3) X.xe s2) X.xe s1) X.xe s:=by
 refine cg (hi pins s σ H _ I h) fun v s1 h1=>cg h1 fun Sq s2 h2=>?_
 obtain ⟨it,fp,tn,J,H2,e,I2,T,xo,f2,W,⟨m0,w0⟩,turn⟩:=h2
 subst e
 refine wpAny_newObj_type (wpAny_newFunctionEnv iO (by intro y hy;simp at hy) (fun h₁ Kz G0=>?_) kA)
 dsimp only at Kz G0 ⊢
 generalize Jh:s2.heap.push { cls:= .type "list",dict:=none,data:= .seq ([]:List Value).toArray }=P2 at Kz G0 ⊢
 have hC:P2.objs.size=s2.heap.objs.size+1:=by rw[<-Jh,Qb8]
 have Ky:s2.heap.objs.size≠P2.objs.size:=by rw[hC];exact ZH (Qam _)
 have KA:s2.heap.objs.size<=P2.objs.size:=by rw[hC];exact Qbc _
 have J2: ∀b,b<s2.heap.objs.size->b≠P2.objs.size:=fun b hb=>by rw[hC];exact ZH (Qba hb)
 have old: ∀b o,s2.heap.get? b=some o->h₁.get? b=some o:=fun b o e=>G0.extBut b o (J2 b (ZC e)) (MD _ (Jh▸MD _ e))
 have x9:h₁.get? s2.heap.objs.size=some { cls:= .type "list",data:= .seq ([]:List Value).toArray }:=G0.extBut _ _ Ky (MD _ (Jh▸ZF _ rfl))
 have U3:tn 0 h₁:=T.keep 0 _ _ xo fun b _ o e=>old b o e
 have Pa: ∀b∈fp, ∃o,s2.heap.get? b=some o:=fun b hb=>let ⟨o,e,_⟩:=T.obj 0 _ xo b hb;⟨o,e⟩
 have U4: ∀b∈fp,s2.heap.objs.size≠b:=fun b hb=>let ⟨o,e⟩:=Pa b hb;Qdk (ZC e)
 have IY:=x6 I2 Dj iO kA ME f2 Pa (t':=s2.toks+([]:List (Str×Value)).length) KA Kz old
 have SV: ∀b,s2.heap.objs.size<=b->b∉zE X.stack:=fun b hb hs=>by
  rcases Y5.mp (I2.om b hs) with z | z
  ·exact absurd (ZM I2.lt hb) (by rw[z];exact kb _)
  ·exact I2.J0 hb z
 have kH: ∀{x:Str} {c:Addr},(iI X.env scope.names []).lookup x=some c->X.env.cells.lookup x=some c:=fun {x c} e=>lY scope.names [] (fun y d q=>by simp at q) e
 have Pd: ∀x c,(iI X.env scope.names []).lookup x=some c->c≠s2.heap.objs.size:=fun x c e z=>by
  obtain ⟨v,q⟩:=I2.cell x c (kH e)
  exact absurd (q.lt) (by rw[z];exact kb _)
 have fY: ∀{pl:List (Addr×Obj)} {H':Hp},(∀p∈pl,p.1=s2.heap.objs.size)->(∀b∈fp,H' b=none)-> ∀b∈fp,ni (cC X scope P2.objs.size Nc s2 H2 fp) pl H' b:=fun {pl H'} jt hn b hb=>by
  refine ⟨hn b hb,?_,?_, .inl hb,fun x c e=>(f2 b hb).2.2.2.2.1 x c (kH e),fun p hp=>?_⟩
  ·obtain ⟨o,e⟩:=Pa b hb
   exact J2 b (ZC e)
  ·intro hs
   rcases Y5.mp (I2.om b hs) with z | z
   ·exact (f2 b hb).2.1 z
   ·exact (f2 b hb).2.2.1 z
  ·rw[jt p hp]
   exact U4 b hb
 have loop: ∀s₃:Shared,s₃={ s2 with heap:=h₁,toks:=s2.toks+([]:List (Str×Value)).length }->
   codeAny (model X.prog X.w) X.A (.compLoop (.ListComp elt [⟨tg,iter,ifs,0⟩] scope pos) 0 (.ref it) (.ref s2.heap.objs.size) (compEnvC scope (iI X.env scope.names []) P2.objs.size X.env)) (RR (.ref s2.heap.objs.size) P2.objs.size) s₃:=by
  rintro s₃ rfl
  refine tE (fun n s'=> ∃i acc aJ nn H',Inv (cC X scope P2.objs.size Nc s2 H2 fp) [] (kG σ ix) H' s'/\tn i s'.heap/\(∀b∈fp,H' b=none)/\
   s'.heap.get? s2.heap.objs.size=some { cls:= .type "list",data:= .seq (aJ:List Value).toArray nn }/\Vals acc aJ/\H' s2.heap.objs.size=none/\W i n acc H') ?_ m0
   ⟨0,[],[],0,H2,IY,U3,fun b hb=>(f2 b hb).1,x9, .nil,I2.bW.fresh (Q3 _),w0⟩
  rintro n s3 ⟨i,acc,aJ,nn,H3,I3,OI,OJ,eD,rv,nD,w3⟩
  obtain ⟨hz,alt⟩:=turn i n acc H3 w3
  have IP:Inv (cC X scope P2.objs.size Nc s2 H2 fp) [(s2.heap.objs.size,{ cls:= .type "list",data:= .seq aJ.toArray nn })] (kG σ ix) H3 s3:=I3.ky fun p hp=>by
   have e:p=(s2.heap.objs.size,_):=UZ.mp hp
   subst e
   refine ⟨eD,nD,Ky,SV _ (Q3 _),fun v z=>?_⟩
   have z':Data.seq aJ.toArray nn=Data.cell v:=z
   cases z'
  have jt: ∀p∈[(s2.heap.objs.size,({ cls:= .type "list",data:= .seq aJ.toArray nn }:Obj))],p.1=s2.heap.objs.size:=fun p hp=>by
   have e:p=(s2.heap.objs.size,_):=UZ.mp hp
   rw[e]
  rcases alt with ⟨stop,fin⟩ | ⟨go,step⟩
  ·refine cg (T.done (cC X scope P2.objs.size Nc s2 H2 fp) rfl rfl rfl q5 i _ s3 _ H3 Gk IP (fY jt OJ) OI stop) fun r s4 zz=>?_
   obtain ⟨hr,I4⟩:=zz
   subst hr
   obtain ⟨m,hn,_⟩:=id I4.loc
   obtain ⟨oC,es,ep,eC,dC,_⟩:=id hn
   have WJ:=(I4.pin (s2.heap.objs.size,_) (ZS _ (UZ.mpr rfl))).1
   have SX:=fin _ nD
   refine WI _ _ oC m _ s4 eC hn ?_ (Bs I2 I4 f2 (Q3 _) KA Ky WJ rv (Z5 hz) nD eC fun v z=>?_) SX
   ·refine I2.ou KA ?_
    rw[ay (Ne.symm Ky)]
    exact I4.free
   ·rw[dC]at z;cases z
  ·refine cg (T.item (cC X scope P2.objs.size Nc s2 H2 fp) rfl rfl rfl q5 i _ s3 _ H3 Gk IP (fY jt OJ) OI go) fun r s4 zz=>?_
   obtain ⟨u,hr,h4⟩:=zz
   subst hr
   refine cg h4 fun _ s5 zz=>?_
   obtain ⟨x,H5,I5,r5,y5,Kf,Ss⟩:=zz
   have Su:=I5.pinned (fY jt Ss) (T.obj _ _ Kf)
   refine cg (hG _ s2 H2 fp _ s5 _ H5 x u _ Su r5 (step x H5 y5)) fun _ s6 zz=>?_
   obtain ⟨σ6,H6,I6,wk,q6⟩:=zz
   refine cg (hT _ s2 H2 fp _ s6 σ6 H6 _ I6 q6) fun b s7 zz=>?_
   obtain ⟨H7,I7,q7⟩:=zz
   have again: ∀{H9:Hp} {s9:Shared} {m':Nat},Inv (cC X scope P2.objs.size Nc s2 H2 fp) ([(s2.heap.objs.size,({ cls:= .type "list",data:= .seq aJ.toArray nn }:Obj))]++ow fp s5.heap) σ6 H9 s9->
     (s9.heap.get? s2.heap.objs.size=some { cls:= .type "list",data:= .seq aJ.toArray nn }/\H9 s2.heap.objs.size=none)/\tn (i+1) s9.heap/\(∀b∈fp,H9 b=none)/\Inv (cC X scope P2.objs.size Nc s2 H2 fp) [] (kG σ ix) H9 s9:=fun {H9 s9 m'} I9=>by
    have pD:=I9.pin (s2.heap.objs.size,_) (ZS _ (Qa9 _ (UZ.mpr rfl)))
    refine ⟨⟨pD.1,pD.2.1⟩,T.keep _ _ _ Kf fun b hb o e=>(I9.pin (b,o) (ZS _ (ZS _ (g7 hb e)))).1,fun b hb=>?_,?_⟩
    ·obtain ⟨o,e,d⟩:=T.obj _ _ Kf b hb
     exact (I9.pin (b,o) (ZS _ (ZS _ (g7 hb e)))).2.1
    ·exact (I9.weak wk.len fun i v e=>wk.get e).ky fun p hp=>absurd hp (by simp)
   cases b with
   | false=>
    rw[if_neg ZI]at q7 ⊢
    obtain ⟨m',hm,w7⟩:=q7
    obtain ⟨⟨e7,n7⟩,t7,f7,J7⟩:=again (m':=0) I7
    exact ⟨m',hm,i+1,acc,aJ,nn,H7,J7,t7,f7,e7,rv,n7,w7⟩
   | true=>
    rw[if_pos rfl]at q7 ⊢
    refine cg (hE _ s2 H2 fp _ s7 σ6 H7 _ I7 q7) fun y s8 zz=>?_
    obtain ⟨v,H8,I8,r8,m',hm,w8⟩:=zz
    obtain ⟨⟨e8,n8⟩,t8,f8,J8⟩:=again (m':=0) I8
    refine wpAny_list_append_plain (items:=aJ.toArray) ⟨nn,e8⟩ (fun h9 WK U5=>?_) (by rw[WD, <-rv.length];exact Z5 hz)
    obtain ⟨n9,e9⟩:=WK
    refine ⟨m',hm,i+1,acc++[v],aJ++[y],n9,H8,J8.turned (t':=s8.toks) (fun b o hb e=>(U5.2 b hb).trans e) n8 Ky (.inr (Q3 _)) Pd (fun p hp=>absurd hp (by simp[cC])),?_,f8,?_,rv.append (.cons r8 .nil),n8,w8⟩
    ·exact T.keep _ _ _ t8 fun b hb o e=>(U5.2 b (Ne.symm (U4 b hb))).trans e
    ·simpa using e9
 exact codeAny_compStart_list (loop _ rfl) (T.self _ 0 _ _ _ U3 (loop _ rfl))
theorem G1 {X:Cx} {tg iter elt:Expr} {ifs:List Expr} {scope:Scope} {pos:Pos} {wi:TI} {g:TG} {tc:TT} {te:TE} (Nc:List Str) (ix:List (Option Nat)) (hi:PI X tg iter wi) (q5:X.calm=true) (Dj:kF X scope Nc ix)
  (iO: ∀y∈scope.names,y.2≠ .cell) (kA:scope.kind= .function) (ME: ∀y∈scope.names,y.2= .free->X.env.kindOf y.1=some .cell\/X.env.kindOf y.1=some .free)
  (KC: ∀x∈scope.names,x.2= .local->scope.names.lookup x.1=some .local)
  (hG: ∀C s H fp,PG (cC X scope C Nc s H fp) tg g) (hT: ∀C s H fp,PF (cC X scope C Nc s H fp) ifs tc) (hE: ∀C s H fp,PE (cC X scope C Nc s H fp) elt te)
  (hs: ∀x,foldedSetIterable iter X.env x=pure x:=by intro _;rfl):PE X (.ListComp elt [⟨tg,iter,ifs,0⟩] scope pos) (Dk wi ix g tc te):=by
 intro pins s σ H Q I h
 rw[eval_ListComp]
 have Q5: ∀y∈scope.names,y.2= .free-> ∃c,X.env.cells.lookup y.1=some c:=fun y hy e=>I.ok.has y.1 (ME y hy e)
 refine wpAny_comprehension_free (use:=none) rfl hs (qw Q5) kA KC (Bt hi q5 Dj iO kA ME hG hT hE I h (RR:=fun acc C=>compPost (model X.prog X.w) X.A X.xe none (EP X pins σ Q) acc C) ?_)
 intro D C oC m H' s' eC hn fC I' q
 refine ⟨m,hn,fun h' SY=>⟨.ref D,H',?_,rfl,q⟩⟩
 exact I'.kz.turned (t':=s'.toks) (fun b o hb e=>(SY.2 b hb).trans e) fC.1 fC.2.1 fC.2.2.2.1 fC.2.2.2.2.1 fC.2.2.2.2.2
noncomputable def S (l:List Nat):Str:=⟨l.toArray⟩
theorem fU (l:List Nat):(S l).cps.toList=l:=by simp[S]
theorem dk (l:List Nat):(S l).length=l.length:=by simp[S,Str.length]
theorem lZ (l:List Nat):(S l).cps.size=l.length:=by simp[S]
theorem Pe {a b:List Nat} (h:S a=S b):a=b:=by
 have:=congrArg (fun x:Str=>x.cps.toList) h
 simpa [S]using this
theorem Ph (x:Str):x=S x.cps.toList:=by cases x;simp[S]
theorem Pj (a b:List Nat):S a++S b=S (a++b):=by
 apply Str.ext'
 apply Qb1.mp
 simp[S,Str.cps_append]
theorem Ji {a b:List Nat}:decide (V.str (S a)=V.str (S b))=decide (a=b):=by
 by_cases h:a=b
 ·subst h;simp
 ·rw[decide_eq_false h,decide_eq_false]
  intro q
  exact h (Pe (V.str.inj q))
noncomputable def cut {α:Type} (xs:List α) (lo hi:Option Int):List α:=(xs.drop (HT.cM xs.length 0 lo)).take (HT.cM xs.length xs.length hi - HT.cM xs.length 0 lo)
theorem G2 {α:Type} (xs:List α) (lo hi:Option Int):(cut xs lo hi).length<=xs.length:=by
 unfold cut
 rw[ZD,ZL]
 omega
theorem vx (n d:Nat) (v:Int):max 0 (min (if v<0 then v+(n:Int) else v) (n:Int))=((HT.cM n d (some v):Nat):Int):=by
 show _=(((if v<0 then (v+(n:Int)).toNat else min v.toNat n):Nat):Int)
 by_cases hv:v<0
 ·simp only[if_pos hv];omega
 ·simp only[if_neg hv];omega
theorem m3 (lo hi:Option Int) (n:Nat):Builtin.Str.strSliceIndices lo hi 1 n=(List.range (HT.cM n n hi - HT.cM n 0 lo)).map (HT.cM n 0 lo+ ·):=by
 have h1:(1:Int)>0:=by decide
 rw[<-sliceRange_one]
 unfold Builtin.Str.strSliceIndices
 simp only[h1,if_true]
 congr 1
 ·cases lo with
  | none=>rfl
  | some v=>exact vx n 0 v
 ·cases hi with
  | none=>rfl
  | some v=>exact vx n n v
theorem G3 (l:List Nat) (lo hi:Option Int):Txt.slice (S l) lo hi=S (cut l lo hi):=by
 have hx:((Builtin.Str.strSliceIndices lo hi 1 (S l).length).filterMap ((S l).cps[·]?))=cut l lo hi:=by
  rw[dk,m3,pick_run,fU]
  rfl
 have hlen:(Builtin.Str.strSliceIndices lo hi 1 (S l).length).length=HT.cM l.length l.length hi - HT.cM l.length 0 lo:=by
  rw[dk,m3,UX,Qcj]
 unfold Txt.slice
 by_cases hc:((1:Int)==1&&(Builtin.Str.strSliceIndices lo hi 1 (S l).length).length==(S l).length)=true
 ·rw[if_pos hc]
  rw[hlen,dk]at hc
  have e:HT.cM l.length l.length hi - HT.cM l.length 0 lo=l.length:=by simpa using hc
  have h2:=HT.C7 l.length l.length (Q3 _) hi
  have e0:HT.cM l.length 0 lo=0\/l.length=0:=by omega
  unfold cut
  rw[e]
  rcases e0 with z | z
  ·rw[z];simp
  ·have:l=[]:=Qcu z
   subst this
   simp
 ·rw[if_neg hc]
  rw[hx]
  rfl
section
variable {X:Cx}
theorem j8 {x:Str} {j pos} (l:List Nat) (h:x=S l):PE X (.Constant (.str x) j pos) (tC (.str (S l))):=by
 subst h
 exact J5
def Pk:R2:=fun x y H Q=> ∃a b,x= .str (S a)/\y= .str (S b)/\a.length+b.length<=sizeLine/\Q (.str (S (a++b))) H
theorem fM:js X (binaryOp .Add) Pk:=by
 intro pins s σ H x y v u Q I rx ry h
 obtain ⟨a,b,rfl,rfl,hz,q⟩:=h
 exact xM pins s σ H _ _ v u Q I rx ry ⟨S a,S b,rfl,rfl,by rw[dk,dk];exact hz,by rw[Pj];exact q⟩
def Pl:R2:=fun x y H Q=> ∃l i c,x= .str (S l)/\y= .int i/\l.length<=sizeLine/\oB l i=some c/\Q (.str (S [c])) H
theorem g8:Kl X Pl:=by
 intro value slice pins s σ H x y v u Q I rx ry h hs
 obtain ⟨l,i,c,rfl,rfl,hz,he,q⟩:=h
 exact Kn value slice pins s σ H _ _ v u Q I rx ry ⟨S l,i,c,rfl,rfl,by rw[dk];exact hz,by rw[fU];exact he,q⟩ hs
def S0:V->Option Int->Option Int->Hp->VK->Prop:=fun x lo hi H Q=> ∃l,x= .str (S l)/\l.length<=sizeLine/\Q (.str (S (cut l lo hi))) H
theorem iU:O0 X S0:=by
 intro pins s σ H x v vl vu lo hi sl Q I rx hs pl pu h
 obtain ⟨l,rfl,hz,q⟩:=h
 obtain ⟨t,rfl⟩:=rx
 refine ⟨"str",_,F.slot_str_getitem.lookup,typeIs_str _ _ _,?_⟩
 have key: ∀(a b:Option (Int×Tok)),vl=partValue a->vu=partValue b->a.map (·.1)=lo->b.map (·.1)=hi->wpAny (model X.prog X.w) X.A (getItem (.str (S l) t) (.ref sl)) (EP X pins σ Q) X.xe s:=by
  rintro a b rfl rfl rfl rfl
  obtain ⟨o,e,c,d⟩:=hs
  refine wpAny_getItem_str_slice (l:=a) (u:=b) (st:=none) ⟨o,e,c,d⟩ rfl (post_val_or_str ⟨?_,fun t' k=>?_⟩)
  ·exact ZW (Txt.slice_le (S l) _ _) (by rw[dk];exact hz)
  ·exact ⟨.str (S (cut l _ _)),H,I.tok _,⟨t',congrArg (fun z=>Value.str z t') (G3 l _ _)⟩,q⟩
 cases pl with
 | none=>
  cases pu with
  | none=>exact key none none rfl rfl rfl rfl
  | int i ti=>exact key none (some (i,ti)) rfl rfl rfl rfl
 | int i ti=>
  cases pu with
  | none=>exact key (some (i,ti)) none rfl rfl rfl rfl
  | int j tj=>exact key (some (i,ti)) (some (j,tj)) rfl rfl rfl rfl
theorem aI:cN X (.builtin "len") (fun xs H Q=> ∃l,xs=[.str (S l)]/\l.length<=sizeLine/\Q (.int l.length) H):=by
 intro pins s σ H xs us Q I r h
 obtain ⟨l,rfl,hz,q⟩:=h
 exact tm pins s σ H _ us Q I r ⟨S l,rfl,by rw[dk];exact hz,by rw[dk];exact q⟩
noncomputable def dz (l:List Nat):List V:=l.map fun c=>V.str (S [c])
theorem x_ {l:List Nat}: ∀{acc:List Value},acc.length=l.length->(∀j v,acc[j]? =some v->SignAt (S l) j v)->Vals (dz l) acc:=by
 induction l with
 | nil=>intro acc h _;have:acc=[]:=Qcu h;subst this;exact .nil
 | cons c l ih=>
  intro acc h k
  cases acc with
  | nil=>cases h
  | cons a acc=>
   refine .cons ?_ (ih (by simpa using h) fun j v e=>?_)
   ·obtain ⟨c',u,e1,e2⟩:=k 0 a rfl
    have:c=c':=by simpa [S]using e1
    subst this
    exact ⟨u,e2⟩
   ·obtain ⟨c',u,e1,e2⟩:=k (j+1) v (by simpa using e)
    exact ⟨c',u,by simpa [S]using e1,e2⟩
theorem yf (hc:X.calm=true):cN X (.type "list") (fun xs H Q=> ∃l,xs=[.str (S l)]/\l.length<=sizeLine/\ ∀p,H p=none->Q (.ref p) (upd H p (.lst (dz l)))):=by
 intro pins s σ H xs us Q I r h
 obtain ⟨l,rfl,hz,q⟩:=h
 obtain ⟨u,rfl,t,rfl⟩:=vals1 r
 refine call_list_str (I.ok.hd hc) (S l) t (fun h' tk eK c' hk e x9=>?_) (by rw[lZ];exact hz)
 obtain ⟨h1,h2⟩:=x9
 rw[lZ]at h1
 refine ⟨.ref s.heap.objs.size,_,I.laid (t':=tk) (o:= .lst (dz l)) hk (Q3 _) ?_,rfl,q _ I.fresh⟩
 exact ⟨by unfold dz;rw[UX];exact hz,eK.toList,c',x_ (by simpa using h1) (fun j v e=>h2 j v (by simpa using e)),by simpa using e⟩
def S3:R2:=fun x y H Q=> ∃c l,x= .str (S [c])/\y= .str (S l)/\Q (.bl (decide (c∈l))) H
theorem KD:js X (compareOp .In) S3:=by
 intro pins s σ H x y v u Q I rx ry h
 obtain ⟨c,l,rfl,rfl,q⟩:=h
 refine Bc pins s σ H _ _ v u Q I rx ry ⟨S [c],S l,rfl,rfl,?_⟩
 have e:=StrLaws.found_one (S l) c
 rw[fU]at e
 rw[show (S [c])=(⟨#[c]⟩:Str) from rfl,e]
 exact q
end
theorem q8 (s sub:Str) (hi:Nat): ∀(l:List Nat) (st:Array Nat×Nat),1<=st.fst.size->(forIn l st (StrLaws.occBody s sub hi 1)).run.fst=st.fst
 | [],st,h=>rfl
 | a::l,st,h=>by
  rw[Qcv]
  unfold StrLaws.occBody
  rw[if_neg (fun z=>absurd z.1.1.1 (Nat.not_lt.mpr h))]
  exact q8 s sub hi l _ h
theorem occ_first (s sub:Str) (hi:Nat): ∀(l:List Nat) (free:Nat),(∀i∈l,free<=i)->
  (forIn l ((#[]:Array Nat),free) (StrLaws.occBody s sub hi 1)).run.fst.toList=(l.find? fun i=>decide (i+sub.length<=hi)&&Builtin.Str.subAt s sub i).toList
 | [],free,_=>rfl
 | a::l,free,hf=>by
  rw[Qcv,Qbk]
  unfold StrLaws.occBody
  have ha:free<=a:=hf a Zy
  by_cases hc:a+sub.length<=hi/\Builtin.Str.subAt s sub a=true
  ·rw[if_pos ⟨⟨⟨by simp,ha⟩,hc.1⟩,hc.2⟩]
   have:(decide (a+sub.length<=hi)&&Builtin.Str.subAt s sub a)=true:=by simp[hc]
   rw[this]
   show (forIn l (#[].push a,a+sub.length) (StrLaws.occBody s sub hi 1)).run.fst.toList=_
   rw[q8 s sub hi l _ (by simp)]
   rfl
  ·rw[if_neg (fun z=>hc ⟨z.1.2,z.2⟩)]
   have:(decide (a+sub.length<=hi)&&Builtin.Str.subAt s sub a)=false:=by
    cases h1:decide (a+sub.length<=hi) with
    | false=>rfl
    | true=>
     cases h2:Builtin.Str.subAt s sub a with
     | false=>rfl
     | true=>exact absurd ⟨of_decide_eq_true h1,h2⟩ hc
   rw[this]
   exact occ_first s sub hi l free fun i lN=>hf i (Y4 _ lN)
theorem subAt_one (l:List Nat) (c i:Nat):Builtin.Str.subAt (S l) (S [c]) i=(l[i]? ==some c):=by
 unfold Builtin.Str.subAt
 rw[dk]
 show ((S l).cps.extract i (i+1)== #[c])=_
 have e:((S l).cps.extract i (i+1))=((l.drop i).take 1).toArray:=by
  apply Qb1.mp
  simp[S,List.take_drop]
 rw[e]
 by_cases h:i<l.length
 ·have e2:(l.drop i).take 1=[l[i]]:=by
   rw[Qah h];rfl
  rw[e2,Kw h]
  by_cases hc:l[i]=c
  ·rw[hc];simp
  ·have h1:([l[i]].toArray== #[c])=false:=by
    rw[beq_eq_false_iff_ne]
    intro z
    apply hc
    have:=congrArg Array.toList z
    simpa using this
   have h2:(some l[i]==some c)=false:=by simpa using hc
   rw[h1,h2]
 ·have e2:(l.drop i).take 1=[]:=by rw[Qck (by omega)];rfl
  rw[e2,Qbi (by omega)]
  rfl
theorem oJ (l:List Nat) (c:Nat): ∀(k n:Nat),k+n=l.length+1->((List.range' k n).find? fun i=>decide (i+1<=l.length)&&(l[i]? ==some c))=if c∈l.drop k then some (k+(l.drop k).idxOf c) else none
 | k,0,h=>by
  have:l.drop k=[]:=Qck (by omega)
  rw[this];simp
 | k,n+1,h=>by
  rw[List.range'_succ,Qbk]
  by_cases hk:k<l.length
  ·have e:l.drop k=l[k]::l.drop (k+1):=Qah hk
   rw[Kw hk,e]
   by_cases hc:l[k]=c
   ·have:(decide (k+1<=l.length)&&(some l[k]==some c))=true:=by simp[hc];omega
    rw[this,if_pos (by simp[hc])]
    simp[hc]
   ·have:(decide (k+1<=l.length)&&(some l[k]==some c))=false:=by simp[hc]
    rw[this,oJ l c (k+1) n (by omega)]
    have qr: ¬c=l[k]:=fun z=>hc z.symm
    by_cases hm:c∈l.drop (k+1)
    ·rw[if_pos hm,if_pos (Y4 _ hm),List.idxOf_cons]
     have:(l[k]==c)=false:=by simpa using hc
     rw[this]
     show some (k+1+List.idxOf c (List.drop (k+1) l))=some (k+(List.idxOf c (List.drop (k+1) l)+1))
     congr 1
     omega
    ·rw[if_neg hm,if_neg (by intro z;rcases Y5.mp z with z | z;exact qr z;exact hm z)]
  ·have:l.drop k=[]:=Qck (by omega)
   have e1:(decide (k+1<=l.length)&&(l[k]? ==some c))=false:=by
    rw[decide_eq_false (by omega)];rfl
   have e2:l.drop (k+1)=[]:=Qck (by omega)
   rw[e1,oJ l c (k+1) n (by omega),this,e2]
   simp
theorem Jj (l:List Nat) (c:Nat):Builtin.Str.occurrences (S l) (S [c]) 0 (S l).length 1=if c∈l then [l.idxOf c] else []:=by
 rw[StrLaws.occ_eq,occ_first _ _ _ _ 0 fun _ _=>Y6 _]
 have e:(fun i=>decide (i+(S [c]).length<=(S l).length)&&Builtin.Str.subAt (S l) (S [c]) i)=fun i=>decide (i+1<=l.length)&&(l[i]? ==some c):=by
  funext i
  rw[subAt_one,dk,dk]
  rfl
 rw[e,dk,Qd4,oJ l c 0 (l.length+1) (by omega),List.drop_zero]
 by_cases h:c∈l
 ·rw[if_pos h,if_pos h,Qcx];rfl
 ·rw[if_neg h,if_neg h];rfl
section
variable {X:Cx}
def G4:V->List V->Hp->VK->Prop:=fun x vs H Q=> ∃l c,x= .str (S l)/\vs=[.str (S [c])]/\c∈l/\Q (.int (l.idxOf c:Nat)) H
theorem de:Bk X "str.index" G4:=by
 intro pins s σ H x xs v us Q I rx rv h
 obtain ⟨l,c,rfl,rfl,hc,q⟩:=h
 obtain ⟨t,rfl⟩:=rx
 obtain ⟨u,rfl,t',rfl⟩:=vals1 rv
 exact SC.index (i:=l.idxOf c) (rest:=[]) (by rw[Jj,if_pos hc]) ⟨.int (l.idxOf c:Nat),H,I.tok _,⟨_,rfl⟩,q⟩
def KG:V->List V->Hp->VK->Prop:=fun x vs H Q=> ∃l c,x= .str (S l)/\vs=[.str (S [c])]/\Q (.int (if c∈l then (l.idxOf c:Nat) else -1)) H
theorem vy:Bk X "str.find" KG:=by
 intro pins s σ H x xs v us Q I rx rv h
 obtain ⟨l,c,rfl,rfl,q⟩:=h
 obtain ⟨t,rfl⟩:=rx
 obtain ⟨u,rfl,t',rfl⟩:=vals1 rv
 refine SC.find ⟨.int _,H,I.tok _,⟨_,rfl⟩,?_⟩
 have e:Txt.find (S l) (S [c])=(if c∈l then ((l.idxOf c:Nat):Int) else -1):=by
  unfold Txt.find
  rw[Jj]
  by_cases h:c∈l
  ·rw[if_pos h,if_pos h]
  ·rw[if_neg h,if_neg h]
 rw[e]
 exact q
def Jk (f:Nat->Bool):V->List V->Hp->VK->Prop:=fun x vs H Q=> ∃c,x= .str (S [c])/\vs=[]/\c<128/\Q (.bl (f c)) H
def Pm (f:Nat->Nat):V->List V->Hp->VK->Prop:=fun x vs H Q=> ∃c,x= .str (S [c])/\vs=[]/\c<128/\Q (.str (S [f c])) H
noncomputable def aC (c:Nat):Bool:=decide (97<=c)&&decide (c<=122)
noncomputable def isUp (c:Nat):Bool:=decide (65<=c)&&decide (c<=90)
theorem G5: ∀c,c<128->Txt.islower ⟨#[c]⟩=aC c:=by decide+kernel
theorem KH: ∀c,c<128->Txt.isupper ⟨#[c]⟩=isUp c:=by decide+kernel
theorem j9:Bk X "str.islower" (Jk aC):=by
 intro pins s σ H x xs v us Q I rx rv h
 obtain ⟨c,rfl,rfl,hc,q⟩:=h
 obtain ⟨t,rfl⟩:=rx
 have e:us=[]:=by cases rv;rfl
 subst e
 exact SC.islower ⟨.bl (aC c),H,I,congrArg Value.bool (G5 c hc),q⟩
theorem yg:Bk X "str.isupper" (Jk isUp):=by
 intro pins s σ H x xs v us Q I rx rv h
 obtain ⟨c,rfl,rfl,hc,q⟩:=h
 obtain ⟨t,rfl⟩:=rx
 have e:us=[]:=by cases rv;rfl
 subst e
 exact SC.isupper ⟨.bl (isUp c),H,I,congrArg Value.bool (KH c hc),q⟩
theorem upper_one {c:Nat} (hc:c<128):Txt.upper (S [c])=S [up1 c]:=by
 rw[upper_ascii (by intro d hd;rw[fU]at hd;simp at hd;omega)]
 simp[S]
theorem q9 {c:Nat} (hc:c<128):Txt.lower (S [c])=S [lo1 c]:=by
 rw[lower_ascii (by intro d hd;rw[fU]at hd;simp at hd;omega)]
 simp[S]
theorem Jl (c:Nat):Builtin.Str.tooLong (S [c]).length=false:=by
 rw[dk]
 show Builtin.Str.tooLong 1=false
 decide
theorem Dm:Bk X "str.upper" (Pm up1):=by
 intro pins s σ H x xs v us Q I rx rv h
 obtain ⟨c,rfl,rfl,hc,q⟩:=h
 obtain ⟨t,rfl⟩:=rx
 have e:us=[]:=by cases rv;rfl
 subst e
 exact SC.upper (by rw[upper_one hc];exact Jl _) ⟨.str (S [up1 c]),H,I.tok _,⟨_,congrArg (fun z=>Value.str z _) (upper_one hc)⟩,q⟩
theorem oK:Bk X "str.lower" (Pm lo1):=by
 intro pins s σ H x xs v us Q I rx rv h
 obtain ⟨c,rfl,rfl,hc,q⟩:=h
 obtain ⟨t,rfl⟩:=rx
 have e:us=[]:=by cases rv;rfl
 subst e
 exact SC.lower (by rw[q9 hc];exact Jl _) ⟨.str (S [lo1 c]),H,I.tok _,⟨_,congrArg (fun z=>Value.str z _) (q9 hc)⟩,q⟩
theorem Dp: ∀(ls:List (List Nat)) (a:Array Nat),(ls.map S).foldl (fun acc p=>acc++(S []).cps++p.cps) a=a++ls.flatten.toArray
 | [],a=>by simp
 | l::ls,a=>by
  rw[ZJ,Qcw,Dp ls]
  simp[S]
theorem KI (ls:List (List Nat)):Txt.join (S []) (ls.map S)=S ls.flatten:=by
 unfold Txt.join Builtin.Str.glued
 cases ls with
 | nil=>rfl
 | cons l ls=>
  show Str.mk ((List.map S ls).foldl (fun acc p=>acc++(S []).cps++p.cps) (S l).cps)=_
  rw[Dp]
  simp[S]
theorem j_: ∀{ls:List (List Nat)} {us:List Value},Vals (ls.map fun l=>V.str (S l)) us->StrsAre us (ls.map S)
 | [],us,r=>by cases r;exact .nil
 | l::ls,us,r=>by
  cases r with
  | cons r1 r2=>
   obtain ⟨t,rfl⟩:=r1
   exact .cons _ t (j_ r2)
def Dq (K:PySem.W.Frag):V->List V->Hp->VK->Prop:=fun x vs H Q=> ∃(p:Addr) (ls:List (List Nat)),x= .str (S [])/\vs=[.ref p]/\br K H p (ls.map fun l=>V.str (S l))/\(ls.map List.length).sum<=16777216/\Q (.str (S ls.flatten)) H
theorem Dr:Bk X "str.join" (Dq X.K):=by
 intro pins s σ H x xs v us Q I rx rv h
 obtain ⟨p,ls,rfl,rfl,hq,hz,q⟩:=h
 obtain ⟨t,rfl⟩:=rx
 obtain ⟨u,rfl,ru⟩:=vals1 rv
 cases ru
 obtain ⟨aJ,r,pl,_⟩:=I.list hq
 have e:(S []).length=0:=rfl
 refine join_list pl.isList (by simpa using j_ r) ?_ fun t' k=>?_
 ·rw[e,Nat.mul_zero,Nat.add_zero,Qaf]
  have e2:(Str.length ∘ S)=List.length:=by funext l;exact dk l
  have e3:((fun x:Str=>x.length) ∘ S)=List.length:=by funext l;exact dk l
  first | (rw[e2];exact hz) | (rw[e3];exact hz)
 ·exact ⟨.str (S ls.flatten),H,I.tok _,⟨t',congrArg (fun z=>Value.str z t') (KI ls)⟩,q⟩
theorem Bu (hc:X.calm=true):cN X (.builtin "all") (fun xs H Q=> ∃(p:Addr) (bs:List Bool),xs=[.ref p]/\br X.K H p (bs.map V.bl)/\Q (.bl (bs.all id)) H):=by
 intro pins s σ H xs us Q I r h
 obtain ⟨p,bs,rfl,hq,q⟩:=h
 obtain ⟨u,rfl,ru⟩:=vals1 r
 cases ru
 obtain ⟨aJ,rv,pl,hz⟩:=I.list hq
 have hlen:aJ.length=bs.length:=by rw[<-rv.length,UX]
 have hp:p<s.heap.objs.size:=by
  obtain ⟨o,n,e,_⟩:=pl
  exact ZC e
 refine call_all_walk (wpAny_pyIter_list pl.isList ?_)
 refine ⟨s.heap.objs.size,_,_,_,_,_,fun i=>(bs[i]?).getD true,rfl,Walks.list (A:=X.A.in1) (I.ok.hd hc) s.heap.objs.size p (ZH hp) aJ.toArray,⟨⟨_,ZF _ rfl,rfl,rfl⟩,?_⟩,fun i v s' Q' E' hP hQ=>?_,fun h' tk hk=>?_⟩
 ·obtain ⟨o,ho,hr⟩:=pl.isList
  exact ⟨o,MD _ ho,hr⟩
 ·have Q6:aJ[i]? =some v:=by simpa using hP
  have hi:i<bs.length:=by rw[<-hlen];exact (Kx.mp Q6).1
  have hb:(bs.map V.bl)[i]? =some (V.bl bs[i]):=by rw[ZA,Kw hi];rfl
  obtain ⟨u,hu,ru⟩:=rv.get hb
  rw[Q6]at hu;cases hu
  cases (show v=Value.bool bs[i] from ru)
  have e:(bs[i]?).getD true=bs[i]:=by rw[Kw hi];rfl
  have U6:Q' ((bs[i]?).getD true) s':=hQ
  rw[e]at U6
  exact wpAny_pure U6
 ·have e:((List.range aJ.toArray.size).all fun i=>(bs[i]?).getD true)=bs.all id:=by
   rw[WD,hlen]
   clear hq rv hlen q
   rw[Qcb,Qb0,Qb0]
   constructor
   ·intro h b hb
    obtain ⟨i,hi,e⟩:=Qb6 hb
    have:=h i (Qac.mpr hi)
    rw[Kw hi,e]at this
    exact this
   ·intro h i hi
    have lN:=Qac.mp hi
    rw[Kw lN]
    exact h _ (ZV lN)
  have I1:Inv X pins σ H { s with heap:=h',toks:=tk }:=by
   have I0:Inv X pins σ H { s with heap:=s.heap.push { cls:= .type "list_iterator",data:= .fields #[.ref p, .int 0 0] } }:=I.kept (t':=s.toks) fun b o e=>MD _ e
   have f:=I.ou (H':=H) (b:=s.heap.objs.size) (Q3 _) I.fresh
   have J:=I0.turned (h':=h') (t':=tk) (it:=s.heap.objs.size) (fun b o hb e=>hk b o (by simpa using hb) e) f.1 f.2.1 f.2.2.2.1 f.2.2.2.2.1 f.2.2.2.2.2
   exact J
  exact ⟨.bl (bs.all id),H,I1,by rw[e];rfl,q⟩
end
end L2
namespace L2.F2
open PySem PySem.Spec PyProof.Rows
theorem q_:Manifest.owners.lookup (String.ofList ['d','e','s','r','e','v','e','r'].reverse)=some Manifest.sig_reversed:=by kernel_rfl
theorem dA:Slot "reversed" "__next__" "reversed.__next__":=
 .of (owner:="reversed") (n:="__next__") (by rw[typeLookup_type,builtinLookup_eq_fast];kernel_rfl) (by decide+kernel) (by decide+kernel) (by decide+kernel)
  (by first | exact .inl (by decide+kernel) | exact .inr (by decide+kernel)) (by rw[isSubtype_type];kernel_rfl)
theorem iV:entryFor table "reversed.__next__"=some Builtin.«reversed.__next__» :=entryFor_of_tree (by kernel_rfl)
theorem iA (a:Value):argsOk "reversed.__next__" ⟨[a],[]⟩:=by
 unfold argsOk;rw[signature?_of (id:="reversed.__next__") (n:=['_','_','t','x','e','n','_','_']) (o:=['d','e','s','r','e','v','e','r']) (by kernel_rfl) q_];kernel_rfl
theorem jQ:Slot "reversed" "__iter__" "reversed.__iter__":=
 .of (owner:="reversed") (n:="__iter__") (by rw[typeLookup_type,builtinLookup_eq_fast];kernel_rfl) (by decide+kernel) (by decide+kernel) (by decide+kernel)
  (by first | exact .inl (by decide+kernel) | exact .inr (by decide+kernel)) (by rw[isSubtype_type];kernel_rfl)
theorem nq (a:Value):argsOk "reversed.__iter__" ⟨[a],[]⟩:=by
 unfold argsOk;rw[signature?_of (id:="reversed.__iter__") (n:=['_','_','r','e','t','i','_','_']) (o:=['d','e','s','r','e','v','e','r']) (by kernel_rfl) q_];kernel_rfl
theorem oM:entryFor table "reversed.__iter__"=some Builtin.«dict_keyiterator.__iter__» :=
 entryFor_alias (id':="dict_keyiterator.__iter__") (by kernel_rfl) (by first | rfl | decide+kernel | (unfold String.splitOn;simp+decide [String.splitOnAux])) (by decide+kernel) (by kernel_rfl)
theorem qx:Slot "reversed" "__init__" "object.__init__":=
 .of (owner:="object") (n:="__init__") (by rw[typeLookup_type,builtinLookup_eq_fast];kernel_rfl) (by decide+kernel) (by decide+kernel) (by decide+kernel)
  (by first | exact .inl (by decide+kernel) | exact .inr (by decide+kernel)) (by rw[isSubtype_type];kernel_rfl)
theorem yh:TypeCalled "reversed" "reversed.__new__" "object.__init__":=
 ⟨by decide+kernel,by decide+kernel,⟨_,_,F.mro_reversed⟩,F.made_reversed,by decide+kernel,by rw[isSubtype_type];kernel_rfl,qx⟩
theorem yi:typeLookup (.type "str") "__reversed__"=pure none:=by rw[typeLookup_type,builtinLookup_eq_fast];kernel_rfl
end L2.F2
namespace L2
open PySem PySem.Spec PyProof.Rows
theorem oN (x:Str) (t:Tok) (hz:x.length<=sizeLine):Meets (Builtin.«reversed.__new__» ⟨[.type "reversed", .str x t],[]⟩) (fun _ R s=> ∀tk,R (.ok (.ret (.ref s.heap.objs.size))) { s with heap:=s.heap.push { cls:= .type "reversed",data:= .fields #[.str x t,rawInt ((x.length:Int) - 1)] },toks:=tk }):=by
 refine Meets.of_wp fun prog w A R s h=>?_
 unfold Builtin.«reversed.__new__»
 refine wpAny_bind (wpAny_of_eq (newClass_reversed _) ?_)
 try dsimp only
 refine wpAny_bind (wpAny_of_eq (a:=()) (by first | rfl | kernel_rfl) ?_)
 refine wpAny_bind (wpAny_of_eq (a:=()) (by first | rfl | kernel_rfl) ?_)
 try dsimp only
 refine wpAny_bind (wpAny_specialOf (typeIs_str s x t) F2.yi ?_)
 try dsimp only
 refine wpAny_bind (wpAny_of_eq (a:=true) (by first | rfl | kernel_rfl) ?_)
 rw[if_neg (by decide)]
 have hn:=fT
 refine wpAny_bind (len_str (by omega) ?_)
 refine wpAny_bind (wpAny_of_eq (a:=some (x.length:Int)) (by first | rfl | kernel_rfl) ?_)
 show wpAny _ _ (Builtin.SmallTypes.newRecord (Value.type "reversed") [Value.str x t,rawInt ((x.length:Int) - 1)] >>= _) _ _ _
 refine wpAny_bind ?_
 unfold Builtin.SmallTypes.newRecord
 refine wpAny_newObj_type ?_ (by size_fits)
 exact wpAny_pure ⟨_,rfl,h _⟩
section
variable {prog:Program} {w:World} {A:Around} {E:Value->Shared->Prop} {s:Shared}
theorem oO {x:Str} {t:Tok} {Q:Value->Shared->Prop} (hz:x.length<=sizeLine) (h: ∀tk,Q (.ref s.heap.objs.size) { s with heap:=s.heap.push { cls:= .type "reversed",data:= .fields #[.str x t,rawInt ((x.length:Int) - 1)] },toks:=tk }):
  wpAny (model prog w) A (call (.type "reversed") [.str x t]) Q E s:=
 callType_new F2.yh (by decide+kernel) (F.typeCall_reversed_1 _) (F.newCall_reversed_1 _) (fun obj=>by unfold argsOk;kernel_rfl) F.entry_reversed_new (oN x t hz)
  fun tk=>⟨⟨_,ZF _ rfl,rfl⟩,h tk⟩
def iW (h:Heap) (it:Addr) (x:Str) (t:Tok) (i:Int):Prop:= ∃o,h.get? it=some o/\o.cls= .type "reversed"/\o.data= .fields #[.str x t,rawInt i]
theorem iW.typeIs {it:Addr} {x:Str} {t:Tok} {i:Int} (h:iW s.heap it x t i):s.TypeIs (.ref it) "reversed":=let ⟨o,ho,hc,_⟩:=h;⟨o,ho,hc⟩
theorem oP {it:Addr} {x:Str} {t:Tok} {i:Int} {Q:Value->Shared->Prop} (hit:iW s.heap it x t i) (h:Q (.ref it) s):wpAny (model prog w) A (pyIter (.ref it)) Q E s:=by
 refine wpAny_pyIter_slot hit.typeIs F2.jQ (wpAny_call_entry F2.jQ hit.typeIs F2.oM ?_ (F2.nq _))
 show wpAny _ _ (ret (.ref it)) _ _ s
 exact wpAny_pure ⟨_,rfl,"reversed",_,hit.typeIs,F2.dA.lookup,h⟩
theorem ny {it:Addr} {x:Str} {t:Tok} {i c:Nat} {Q:Option Value->Shared->Prop} (hit:iW s.heap it x t (i:Int)) (hx:x.cps[i]? =some c) (hz:x.length<=sizeLine)
  (hQ: ∀h' tk u,iW h' it x t ((i:Int) - 1)->Heap.SameBut it s.heap h'->Q (some (.str ⟨#[c]⟩ u)) { s with heap:=h',toks:=tk }):wpAny (model prog w) A (pyNext (.ref it)) Q E s:=by
 obtain ⟨o,ho,hc,hd⟩:=id hit
 have hn:=fT
 have hi:i<x.length:=(Array.getElem?_eq_some_iff.mp hx).1
 unfold pyNext
 refine wpAny_bind (wpAny_attempt (wpAny_callSpecial?_slot (name:=Str.ofString "__next__") hit.typeIs F2.dA
  (wpAny_call_entry F2.dA hit.typeIs F2.iV ?_ (F2.iA _))))
 unfold Builtin.«reversed.__next__»
 refine wpAny_bind (wpAny_of_eq (a:=(Value.ref it,[])) rfl ?_)
 try dsimp only
 refine wpAny_bind (wpAny_field ho hd (x:= .str x t) rfl ?_)
 refine wpAny_bind (wpAny_field ho hd (x:=rawInt (i:Int)) rfl ?_)
 show wpAny _ _ (if (i:Int)<0 then _ else _) _ _ s
 rw[if_neg (by omega)]
 refine wpAny_bind (wpAny_specialOf (typeIs_str s x t) F.slot_str_getitem.lookup ?_)
 show wpAny _ _ (if (some (Value.builtin _)).isNone=true then _ else _) _ _ s
 rw[if_neg (by decide)]
 refine wpAny_bind (wpAny_mkInt ?_)
 refine wpAny_bind (wpAny_attempt (getItem_str (c:=c) (by
  have e1:decide ((i:Int)< -(2 ^ 63:Int))=false:=decide_eq_false (by omega)
  have e2:decide ((i:Int) ≥ 2 ^ 63)=false:=decide_eq_false (by omega)
  rw[e1,e2,Qct]) (by rw[seqIndex_of (by omega) (by omega),WB];exact hx) ?_))
 show wpAny _ _ (field (Value.ref it) 1 >>= _) _ _ _
 refine wpAny_bind (wpAny_field ho hd (x:=rawInt (i:Int)) rfl ?_)
 show wpAny _ _ (setField (Value.ref it) 1 (rawInt ((i:Int) - 1)) >>= _) _ _ _
 refine wpAny_bind (wpAny_setField ho hd (by simp) ?_)
 refine wpAny_pure ⟨_,rfl,wpAny_pure (hQ _ _ _ ?_ (Qed ..))⟩
 exact ⟨_,Qax _ ho (Obj.isFreed_of_fields (Obj.data_mapFields hd _)),(Obj.cls_mapFields ..).trans hc,by
  rw[Obj.data_mapFields hd];simp⟩
theorem oQ {it:Addr} {x:Str} {t:Tok} {Q:Option Value->Shared->Prop} (hh:A.handled=none) (hit:iW s.heap it x t (-1))
  (hQ: ∀h',Heap.ExtBut it s.heap h'->Q none { s with heap:=h' }):wpAny (model prog w) A (pyNext (.ref it)) Q E s:=by
 obtain ⟨o,ho,hc,hd⟩:=id hit
 unfold pyNext
 refine wpAny_bind (wpAny_attempt (wpAny_callSpecial?_slot (name:=Str.ofString "__next__") hit.typeIs F2.dA
  (wpAny_call_entry F2.dA hit.typeIs F2.iV ?_ (F2.iA _))))
 unfold Builtin.«reversed.__next__»
 refine wpAny_bind (wpAny_of_eq (a:=(Value.ref it,[])) rfl ?_)
 try dsimp only
 refine wpAny_bind (wpAny_field ho hd (x:= .str x t) rfl ?_)
 refine wpAny_bind (wpAny_field ho hd (x:=rawInt (-1)) rfl ?_)
 show wpAny _ _ (if (-1:Int)<0 then _ else _) _ _ s
 rw[if_pos (by decide)]
 refine wpAny_bind (wpAny_rule ?_)
 refine wpAny_bind ?_
 show wpAny _ _ (setField (Value.ref it) 1 (rawInt (-1)) >>= fun _=>setField (Value.ref it) 0 .none) _ _ _
 refine wpAny_bind (wpAny_setField ho hd (by simp) ?_)
 refine wpAny_setField (Qax _ ho (Obj.isFreed_of_fields (Obj.data_mapFields hd _))) (Obj.data_mapFields hd _) (by simp) ?_
 first
 | show wpAny _ _ (newExc (.type "StopIteration") [] >>= _) _ _ _
 |(refine wpAny_bind ?_;show wpAny _ _ (newExc (.type "StopIteration") [] >>= _) _ _ _)
 refine wpAny_bind ?_
 simp only[newExc,newTuple]
 refine wpAny_bind (wpAny_newObj_type ?_ (by size_fits))
 refine wpAny_bind (m:=firstArgMember _ _) (wpAny_of_eq (a:=Value.none) (by first | rfl | (simp only[firstArgMember];rfl)) ?_)
 refine wpAny_newObj_type ?_ (by size_fits)
 simp only[raiseNew]
 refine wpAny_bind (wpAny_handled ?_)
 first | rw[show A.in1.handled=none from hh] | rw[hh]
 refine wpAny_bind (wpAny_pure (wpAny_throw ?_))
 refine wpAny_bind (wpAny_isInstance (T:="StopIteration") (b:=true) ⟨_,ZF _ rfl,rfl⟩ isSubtype_stop ?_)
 refine wpAny_pure (hQ _ fun b ob hb e=>?_)
 refine MD _ (MD _ ?_)
 exact (Z_ _ _ (Ne.symm hb)).trans ((Z_ _ _ (Ne.symm hb)).trans e)
end
noncomputable def G6 (xs:List V):It:=⟨fun i _=>i<xs.length,fun i H x H'=>H'=H/\xs[i]? =some x,fun i _=>xs.length<=i⟩
theorem g9 {l:List Nat} {i:Nat} {x:V} (h:(dz l)[i]? =some x): ∃c,l[i]? =some c/\x= .str (S [c]):=by
 unfold dz at h
 rw[ZA]at h
 cases e:l[i]? with
 | none=>rw[e]at h;cases h
 | some c=>rw[e]at h;cases h;exact ⟨c,rfl,rfl⟩
theorem aY (l:List Nat):(dz l).length=l.length:=by unfold dz;rw[UX]
theorem Ds {P:Program} {w:World} {K:PySem.W.Frag} {tg:Expr} (it:Addr) (l:List Nat) (t:Tok):Turn P w K tg (G6 (dz l)) [it] it (fun i h=>h.IsStrIter it (strIterType (S l)) (S l) t i) where
 mem:=by simp
 obj:=fun i h st b hb=>by
  have e:b=it:=by simpa using hb
  subst e
  obtain ⟨o,e,c,d⟩:=st
  exact ⟨o,e,fun v z=>by rw[d]at z;cases z⟩
 keep:=fun i h h' st k=>let ⟨o,e,r⟩:=st;⟨o,k it (by simp) o e,r⟩
 item:=by
  intro X hP hw hK hc i pins s σ H E I hf st hg
  subst hP hw hK
  have KJ:i<l.length:=by have:i<(dz l).length:=hg;rwa [aY]at this
  obtain ⟨f0,f1,f2,f3,f4,f5⟩:=hf it (by simp)
  have fin: ∀(v:Value) (h':Heap) (tk:Nat),SignAt (S l) i v->h'.IsStrIter it (strIterType (S l)) (S l) t (i+1)->(∀b o,b∉[it]->s.heap.get? b=some o->h'.get? b=some o)->
    ∃u,some v=some u/\wpAny (model X.prog X.w) X.A (letOwnedTupleGo tg (.ref it) u) (fun _ s2=> ∃x H',Inv X pins σ H' s2/\RelV x u/\(G6 (dz l)).CG i H x H'/\s2.heap.IsStrIter it (strIterType (S l)) (S l) t (i+1)/\ ∀b∈[it],H' b=none) E { s with heap:=h',toks:=tk }:=by
   intro v h' tk hv lM kk
   obtain ⟨c,u,e1,e2⟩:=hv
   subst e2
   have I1:Inv X pins σ H { s with heap:=h',toks:=tk }:=I.turned (fun b o hb e=>kk b o (by simpa using hb) e) f0 f1 f3 f4 f5
   obtain ⟨o,e,cc,d⟩:=id lM
   refine ⟨_,rfl,vm (s:={ s with heap:=h',toks:=tk }) e cc d (by unfold strIterType;split<;>decide) ⟨.str (S [c]),H,I1,⟨u,rfl⟩,⟨rfl,?_⟩,lM,fun b hb=>(hf b hb).1⟩⟩
   unfold dz
   rw[ZA]
   have Dt:l[i]? =some c:=by simpa [S]using e1
   rw[Dt]
   rfl
  have hsz:i<(S l).cps.size:=by rw[lZ];exact KJ
  by_cases ha:(S l).cps.all (· <128)=true
  ·have et:strIterType (S l)="str_ascii_iterator":=by unfold strIterType;rw[if_pos ha]
   rw[et]at st
   exact (Walks.strAscii (prog:=X.prog) (w:=X.w) (I.ok.hd hc) it (S l) t).item i s _ _ hsz st fun v h' tk hv lM kk=>fin v h' tk hv (by rw[et];exact lM) kk
  ·have et:strIterType (S l)="str_iterator":=by unfold strIterType;rw[if_neg ha]
   rw[et]at st
   exact (Walks.strWide (prog:=X.prog) (w:=X.w) (I.ok.hd hc) it (S l) t).item i s _ _ hsz st fun v h' tk hv lM kk=>fin v h' tk hv (by rw[et];exact lM) kk
 done:=by
  intro X hP hw hK hc i pins s σ H E I hf st hg
  subst hP hw hK
  obtain ⟨f0,f1,f2,f3,f4,f5⟩:=hf it (by simp)
  have KJ:l.length<=i:=by have:(dz l).length<=i:=hg;rwa [aY]at this
  have hx:(S l).cps[i]? =none:=by rw[Array.getElem?_eq_none_iff,lZ];exact KJ
  by_cases ha:(S l).cps.all (· <128)=true
  ·have et:strIterType (S l)="str_ascii_iterator":=by unfold strIterType;rw[if_pos ha]
   rw[et]at st
   exact wpAny_pyNext_ascii_end (I.ok.hd hc) st hx fun h' eb=>⟨rfl,I.turned (t':=s.toks) (fun b o hb e=>eb b o hb e) f0 f1 f3 f4 f5⟩
  ·have et:strIterType (S l)="str_iterator":=by unfold strIterType;rw[if_neg ha]
   rw[et]at st
   exact wpAny_pyNext_wide_end (I.ok.hd hc) st hx fun h' eb=>⟨rfl,I.turned (t':=s.toks) (fun b o hb e=>eb b o hb e) f0 f1 f3 f4 f5⟩
 self:=fun _ _ s _ _ st h=>by
  by_cases ha:(S l).cps.all (· <128)=true
  ·have et:strIterType (S l)="str_ascii_iterator":=by unfold strIterType;rw[if_pos ha]
   rw[et]at st
   exact wpAny_pyIter_striter_ascii st h
  ·have et:strIterType (S l)="str_iterator":=by unfold strIterType;rw[if_neg ha]
   rw[et]at st
   exact wpAny_pyIter_striter_wide st h
theorem Du {P:Program} {w:World} {K:PySem.W.Frag} {tg:Expr} (it:Addr) (l:List Nat) (t:Tok) (hz:l.length<=sizeLine):Turn P w K tg (G6 (dz l).reverse) [it] it (fun i h=>i<=l.length/\iW h it (S l) t ((l.length:Int) - 1 - (i:Int))) where
 mem:=by simp
 obj:=fun i h st b hb=>by
  have e:b=it:=by simpa using hb
  subst e
  obtain ⟨_,o,e,c,d⟩:=st
  exact ⟨o,e,fun v z=>by rw[d]at z;cases z⟩
 keep:=fun i h h' st k=>let ⟨q,o,e,r⟩:=st;⟨q,o,k it (by simp) o e,r⟩
 item:=by
  intro X hP hw hK hc i pins s σ H E I hf st hg
  subst hP hw hK
  have KJ:i<l.length:=by have:i<(dz l).reverse.length:=hg;rwa [Z0,aY]at this
  obtain ⟨f0,f1,f2,f3,f4,f5⟩:=hf it (by simp)
  obtain ⟨_,st⟩:=st
  have e:(l.length:Int) - 1 - (i:Int)=((l.length - 1 - i:Nat):Int):=by omega
  rw[e]at st
  have cV:l.length - 1 - i<l.length:=by omega
  refine ny (c:=l[l.length - 1 - i]) st (by simp[S,cV]) (by rw[dk];exact hz) fun h' tk u lM sb=>?_
  have I1:Inv X pins σ H { s with heap:=h',toks:=tk }:=I.turned (fun b o hb e=>(sb.2 b hb).trans e) f0 f1 f3 f4 f5
  obtain ⟨o,e1,cc,d⟩:=id lM
  refine ⟨_,rfl,vm (s:={ s with heap:=h',toks:=tk }) e1 cc d (by decide) ⟨.str (S [l[l.length - 1 - i]]),H,I1,⟨u,rfl⟩,⟨rfl,?_⟩,⟨KJ,?_⟩,fun b hb=>(hf b hb).1⟩⟩
  ·rw[Qco (by rw[aY];exact KJ),aY]
   unfold dz
   rw[ZA,Kw cV]
   rfl
  ·have e2:(l.length:Int) - 1 - ((i+1:Nat):Int)=((l.length - 1 - i:Nat):Int) - 1:=by omega
   rw[e2]
   exact lM
 done:=by
  intro X hP hw hK hc i pins s σ H E I hf st hg
  subst hP hw hK
  obtain ⟨f0,f1,f2,f3,f4,f5⟩:=hf it (by simp)
  have KJ:l.length<=i:=by have:(dz l).reverse.length<=i:=hg;rwa [Z0,aY]at this
  obtain ⟨hi,st⟩:=st
  have e:(l.length:Int) - 1 - (i:Int)= -1:=by omega
  rw[e]at st
  exact oQ (I.ok.hd hc) st fun h' eb=>⟨rfl,I.turned (t':=s.toks) (fun b o hb e=>eb b o hb e) f0 f1 f3 f4 f5⟩
 self:=fun _ _ _ _ _ st h=>oP st.2 h
section
variable {X:Cx} {tg:Expr}
def S4 (tl:TE):TI:=fun σ H R=>tl σ H fun x H1=> ∃l,x= .str (S l)/\R (G6 (dz l)) H1
theorem tF {l:Expr} {tl:TE} (hl:PE X l tl):PI X tg l (S4 tl):=by
 intro pins s σ H R I h
 refine cg (hl pins s σ H _ I h) fun v s1 ⟨x,H1,I1,r1,q1⟩=>?_
 obtain ⟨l,rfl,q⟩:=q1
 obtain ⟨t,rfl⟩:=r1
 refine wpAny_pyIter_strU ?_
 refine ⟨s1.heap.objs.size,[s1.heap.objs.size],_,_,H1,rfl,I1.kept (t':=s1.toks) fun b o e=>MD _ e,Ds _ l t,⟨_,ZF _ rfl,rfl,rfl⟩,fun b hb=>?_,q⟩
 have e:b=s1.heap.objs.size:=by simpa using hb
 subst e
 exact I1.ou (Q3 _) (I1.bW.fresh (Q3 _))
def S5 (ta:TA):TI:=fun σ H R=>ta σ H fun vs H1=> ∃l,vs=[.str (S l)]/\l.length<=sizeLine/\R (G6 (dz l).reverse) H1
theorem Dv {a:Expr} {ta:TA} {p pos:Pos} (hg:Gl X "reversed") (hm:X.mg "reversed"=none) (ha:PA X [a] ta) (hs:starEach [a] X.env=[(false,eval a X.env)]:=by rfl):PI X tg (.Call (.Name "reversed" p) [a] [] pos) (S5 ta):=by
 intro pins s σ H R I h
 refine Call_ (gw I hg hm boot_reversed (Qan (cg (ha pos pins s σ H _ I h) fun us s1 ⟨vs,H1,I1,r1,q1⟩=>?_) hs rfl))
 obtain ⟨l,rfl,hz,q⟩:=q1
 obtain ⟨u,rfl,t,rfl⟩:=vals1 r1
 refine oO (by rw[dk];exact hz) fun tk=>?_
 have hit:iW (s1.heap.push { cls:= .type "reversed",data:= .fields #[.str (S l) t,rawInt (((S l).length:Int) - 1)] }) s1.heap.objs.size (S l) t (((S l).length:Int) - 1):=⟨_,ZF _ rfl,rfl,rfl⟩
 refine oP hit ?_
 refine ⟨s1.heap.objs.size,[s1.heap.objs.size],_,_,H1,rfl,I1.kept (t':=tk) fun b o e=>MD _ e,Du _ l t hz,⟨Y6 _,?_⟩,fun b hb=>?_,q⟩
 ·have e:(l.length:Int) - 1 - ((0:Nat):Int)=((S l).length:Int) - 1:=by rw[dk];simp
  rw[e]
  exact hit
 ·have e:b=s1.heap.objs.size:=by simpa using hb
  subst e
  exact I1.ou (Q3 _) (I1.bW.fresh (Q3 _))
end
theorem zT {xs:List V} {g:TG} {tb:TS} {D:Ends} {σ:St} {H:Hp} (Pv:Nat->St->Hp->Prop) (h0:Pv 0 σ H)
  (hs: ∀i x σ H,xs[i]? =some x->Pv i σ H->g x σ H fun σ2 H2=>tb { D with nx:=Pv (i+1),ct:=Pv (i+1),bk:=D.nx } σ2 H2) (hd: ∀σ H,Pv xs.length σ H->D.nx σ H):
  ∃W:Nat->Nat->St->Hp->Prop,(∃m,W 0 m σ H)/\ ∀i m σ H,W i m σ H->
   ((G6 xs).stop i H/\D.nx σ H)\/((G6 xs).go i H/\ ∃N:St->Hp->Prop,(∀σ' H',N σ' H'-> ∃m',m'<m/\W (i+1) m' σ' H')/\ ∀x H',(G6 xs).CG i H x H'->g x σ H' fun σ2 H2=>tb { D with nx:=N,ct:=N,bk:=D.nx } σ2 H2):=by
 refine ⟨fun i m σ H=>m=xs.length - i/\i<=xs.length/\Pv i σ H,⟨xs.length,by simp,Y6 _,h0⟩,?_⟩
 rintro i m σ H ⟨rfl,hi,p⟩
 by_cases cV:i<xs.length
 ·refine .inr ⟨cV,Pv (i+1),fun σ' H' p'=>⟨xs.length - (i+1),by omega,rfl,cV,p'⟩,fun x H' y=>?_⟩
  obtain ⟨e,y⟩:=y
  subst e
  exact hs i x σ _ y p
 ·have e:i=xs.length:=by omega
  subst e
  exact .inl ⟨Q3 _,hd σ H p⟩
theorem nR {J:It} {n:Nat} {xs:Nat->V->Prop} {σc:St} {g:TG} {tc:TT} {te:TE} {Q:VK} {H1:Hp} (Pv:Nat->List V->Hp->Prop) (hn:n<sizeLine) (WL: ∀i acc H,i<n->Pv i acc H->J.go i H) (Pn: ∀acc H,Pv n acc H->J.stop n H)
  (hy: ∀i acc H x H',i<n->Pv i acc H->J.CG i H x H'->H'=H/\xs i x) (h0:Pv 0 [] H1)
  (hs: ∀(i:Nat) (x:V) (acc:List V) (H:Hp) (Nx:List V->Hp->Prop),i<n->xs i x->acc.length<=i->Pv i acc H->(∀eK H',eK.length<=i+1->Pv (i+1) eK H'->Nx eK H')->
   g x σc H fun σ2 H2=>Wk σc σ2/\tc σ2 H2 fun b H3=>if b=true then te σ2 H3 fun v H4=>Nx (acc++[v]) H4 else Nx acc H3)
  (hd: ∀acc H D,acc.length<=n->Pv n acc H->H D=none->Q (.ref D) (upd H D (.lst acc))):q0 J σc g tc te Q H1:=by
 refine ⟨fun i m acc H=>m=n - i/\i<=n/\acc.length<=i/\Pv i acc H,⟨n,by simp,Y6 _,Q3 _,h0⟩,?_⟩
 rintro i m acc H ⟨rfl,hi,hl,p⟩
 refine ⟨by omega,?_⟩
 by_cases cV:i<n
 ·refine .inr ⟨WL i acc H cV p,fun x H' y=>?_⟩
  obtain ⟨rfl,y2⟩:=hy i acc H x H' cV p y
  exact hs i x acc _ (fun eK H'=> ∃m',m'<n - i/\(m'=n - (i+1)/\i+1<=n/\eK.length<=i+1/\Pv (i+1) eK H')) cV y2 hl p fun eK H' h1 h2=>⟨n - (i+1),by omega,rfl,cV,h1,h2⟩
 ·have e:i=n:=by omega
  subst e
  exact .inl ⟨Pn acc H p,fun D hD=>hd acc H D hl p hD⟩
theorem kI {xs:List V} {σc:St} {g:TG} {tc:TT} {te:TE} {Q:VK} {H1:Hp} (Pv:Nat->List V->Hp->Prop) (hn:xs.length<sizeLine) (h0:Pv 0 [] H1)
  (hs: ∀(i:Nat) (x:V) (acc:List V) (H:Hp) (Nx:List V->Hp->Prop),i<xs.length->xs[i]? =some x->acc.length<=i->Pv i acc H->(∀eK H',eK.length<=i+1->Pv (i+1) eK H'->Nx eK H')->
   g x σc H fun σ2 H2=>Wk σc σ2/\tc σ2 H2 fun b H3=>if b=true then te σ2 H3 fun v H4=>Nx (acc++[v]) H4 else Nx acc H3)
  (hd: ∀acc H D,acc.length<=xs.length->Pv xs.length acc H->H D=none->Q (.ref D) (upd H D (.lst acc))):q0 (G6 xs) σc g tc te Q H1:=
 nR (xs:=fun i x=>xs[i]? =some x) Pv hn (fun i _ _ h _=>h) (fun _ _ _=>Q3 _) (fun i _ H x H' _ _ y=>y) h0 hs hd
theorem vA {lo:Int} {n:Nat} {σc:St} {g:TG} {tc:TT} {te:TE} {Q:VK} {H1:Hp} (Pv:Nat->List V->Hp->Prop) (hn:n<sizeLine) (h0:Pv 0 [] H1)
  (hs: ∀(i:Nat) (acc:List V) (H:Hp) (Nx:List V->Hp->Prop),i<n->acc.length<=i->Pv i acc H->(∀eK H',eK.length<=i+1->Pv (i+1) eK H'->Nx eK H')->
   g (.int (lo+i)) σc H fun σ2 H2=>Wk σc σ2/\tc σ2 H2 fun b H3=>if b=true then te σ2 H3 fun v H4=>Nx (acc++[v]) H4 else Nx acc H3)
  (hd: ∀acc H D,acc.length<=n->Pv n acc H->H D=none->Q (.ref D) (upd H D (.lst acc))):q0 (Jc lo n) σc g tc te Q H1:=
 nR (xs:=fun i x=>x= .int (lo+i)) Pv hn (fun i _ _ h _=>h) (fun _ _ _=>Q3 _) (fun i _ H x H' _ _ y=>y) h0 (fun i x acc H Nx h1 h2=>by subst h2;exact hs i acc H Nx h1) hd
theorem l_ {K:PySem.W.Frag} {a:Addr} {xs:List V} {σc:St} {g:TG} {tc:TT} {te:TE} {Q:VK} {H1:Hp} (Pv:Nat->List V->Hp->Prop) (hn:xs.length<sizeLine) (hl: ∀i acc H,Pv i acc H->br K H a xs) (h0:Pv 0 [] H1)
  (hs: ∀(i:Nat) (x:V) (acc:List V) (H:Hp) (Nx:List V->Hp->Prop),i<xs.length->xs[i]? =some x->acc.length<=i->Pv i acc H->(∀eK H',eK.length<=i+1->Pv (i+1) eK H'->Nx eK H')->
   g x σc H fun σ2 H2=>Wk σc σ2/\tc σ2 H2 fun b H3=>if b=true then te σ2 H3 fun v H4=>Nx (acc++[v]) H4 else Nx acc H3)
  (hd: ∀acc H D,acc.length<=xs.length->Pv xs.length acc H->H D=none->Q (.ref D) (upd H D (.lst acc))):q0 (Mx K a) σc g tc te Q H1:=
 nR (xs:=fun i x=>xs[i]? =some x) Pv hn (fun i acc H h p=>⟨xs,xs[i],hl i acc H p,by simp[h]⟩) (fun acc H p=>⟨xs,hl _ acc H p,Q3 _⟩) (fun i acc H x H' h p y=>⟨y.1,y.2 xs (hl i acc H p)⟩) h0 hs hd
def G7 (c:TT) (tb:TS):TS:=fun D σ H=> ∃W:Nat->St->Hp->Prop,(∃m,W m σ H)/\ ∀m σ H,W m σ H->
 c σ H fun b H1=>if b=true then tb { D with nx:=fun σ' H'=> ∃m',m'<m/\W m' σ' H',ct:=fun σ' H'=> ∃m',m'<m/\W m' σ' H',bk:=D.nx } σ H1 else D.nx σ H1
theorem dN {X:Cx} {c:Expr} {body:List Stmt} {tc:TT} {tb:TS} {pos:Pos} (hp:PassesOwn (model X.prog X.w) X.A X.env X.xe) (hc:PT X c tc) (hb:xE X body tb):PS X (.While c body [] pos) (G7 tc tb):=by
 intro pins s σ H D I h
 obtain ⟨W,⟨m0,w0⟩,turn⟩:=h
 refine wpAny_While (codeAny_whileLoop (fun n s'=> ∃σ' H',Inv X pins σ' H' s'/\W n σ' H') ?_ m0 ⟨σ,H,I,w0⟩)
 rintro n s1 ⟨σ1,H1,I1,w1⟩
 refine wpAny_passesOwn hp (cg (hc pins s1 σ1 H1 _ I1 (turn n σ1 H1 w1)) fun b s2 ⟨H2,I2,q2⟩=>?_)
 cases b with
 | true=>
  rw[if_pos rfl]at q2 ⊢
  refine wpAny_passesOwn hp (cg (hb pins s2 σ1 H2 _ I2 q2) fun f s3 q3=>?_)
  cases f with
  | next=>
   obtain ⟨σ3,H3,I3,m',hm,w3⟩:=q3
   exact ⟨m',hm,σ3,H3,I3,w3⟩
  | cont=>
   obtain ⟨σ3,H3,I3,m',hm,w3⟩:=q3
   exact ⟨m',hm,σ3,H3,I3,w3⟩
  | brk=>exact q3
  | ret v=>exact q3
 | false=>
  rw[if_neg ZI]at q2 ⊢
  exact wpAny_execs_nil ⟨σ1,H2,I2,q2⟩
noncomputable def yj (X:Cx) (scope:Scope):Bool:=(scope.names.all fun y=>y.2 != .cell)&&(scope.kind== .function)&&(scope.names.all fun y=>y.2 != .free||X.env.kindOf y.1==some .cell||X.env.kindOf y.1==some .free)&&(scope.names.all fun y=>y.2 != .local||scope.names.lookup y.1==some .local)
theorem tG {X:Cx} {scope:Scope} (h:yj X scope=true):(∀y∈scope.names,y.2≠ .cell)/\scope.kind= .function/\(∀y∈scope.names,y.2= .free->X.env.kindOf y.1=some .cell\/X.env.kindOf y.1=some .free)/\(∀x∈scope.names,x.2= .local->scope.names.lookup x.1=some .local):=by
 unfold yj at h
 simp only[Z2]at h
 obtain ⟨⟨⟨h1,h2⟩,h3⟩,h4⟩:=h
 refine ⟨fun y hy e=>?_,by simpa using h2,fun y hy e=>?_,fun y hy e=>?_⟩
 ·have:=Qb0.mp h1 y hy
  rw[e]at this;simp at this
 ·have:=Qb0.mp h3 y hy
  rw[e]at this
  simpa using this
 ·have:=Qb0.mp h4 y hy
  rw[e]at this
  simpa using this
theorem cu {X:Cx} {tg iter elt:Expr} {ifs:List Expr} {scope:Scope} {pos:Pos} {wi:TI} {g:TG} {tc:TT} {te:TE} (Nc:List Str) (ix:List (Option Nat)) (hi:PI X tg iter wi) (Dj:kF X scope Nc ix)
  (hG: ∀C s H fp,PG (cC X scope C Nc s H fp) tg g) (hT: ∀C s H fp,PF (cC X scope C Nc s H fp) ifs tc) (hE: ∀C s H fp,PE (cC X scope C Nc s H fp) elt te) (bW:yj X scope=true:=by rfl) (q5:X.calm=true:=by rfl)
  (hs: ∀x,foldedSetIterable iter X.env x=pure x:=by intro _;rfl):PE X (.ListComp elt [⟨tg,iter,ifs,0⟩] scope pos) (Dk wi ix g tc te):=
 let ⟨h1,h2,h3,h4⟩:=tG bW
 G1 Nc ix hi q5 Dj h1 h2 h3 h4 hG hT hE hs
section
variable {X:Cx}
def S6:R2:=fun x y H Q=> ∃a b,x= .str (S a)/\y= .str (S b)/\Q (.bl (decide (a=b))) H
def S7:R2:=fun x y H Q=> ∃a b,x= .str (S a)/\y= .str (S b)/\Q (.bl (!decide (a=b))) H
theorem gB:js X (compareOp .Eq) S6:=by
 intro pins s σ H x y v u Q I rx ry h
 obtain ⟨a,b,rfl,rfl,q⟩:=h
 exact C1 pins s σ H _ _ v u Q I rx ry ⟨rfl,by rw[Ji];exact q⟩
theorem Dw:js X (compareOp .NotEq) S7:=by
 intro pins s σ H x y v u Q I rx ry h
 obtain ⟨a,b,rfl,rfl,q⟩:=h
 exact Je pins s σ H _ _ v u Q I rx ry ⟨rfl,by rw[Ji];exact q⟩
theorem Jm {i j:Int}:decide (V.int i=V.int j)=decide (i=j):=by
 by_cases h:i=j
 ·subst h;simp
 ·rw[decide_eq_false h,decide_eq_false]
  intro q
  exact h (V.int.inj q)
theorem Po {i j:Bool}:decide (V.bl i=V.bl j)=decide (i=j):=by
 by_cases h:i=j
 ·subst h;simp
 ·rw[decide_eq_false h,decide_eq_false]
  intro q
  exact h (V.bl.inj q)
theorem fV:js X (compareOp .Eq) (Gh fun i j=> .bl (decide (i=j))):=by
 intro pins s σ H x y v u Q I rx ry h
 obtain ⟨a,b,rfl,rfl,q⟩:=h
 exact C1 pins s σ H _ _ v u Q I rx ry ⟨rfl,by rw[Jm];exact q⟩
theorem KL:js X (compareOp .NotEq) (Gh fun i j=> .bl (!decide (i=j))):=by
 intro pins s σ H x y v u Q I rx ry h
 obtain ⟨a,b,rfl,rfl,q⟩:=h
 exact Je pins s σ H _ _ v u Q I rx ry ⟨rfl,by rw[Jm];exact q⟩
def WM (g:Bool->Bool->V):R2:=fun x y H Q=> ∃i j,x= .bl i/\y= .bl j/\Q (g i j) H
theorem KN:js X (compareOp .Eq) (WM fun i j=> .bl (decide (i=j))):=by
 intro pins s σ H x y v u Q I rx ry h
 obtain ⟨a,b,rfl,rfl,q⟩:=h
 exact C1 pins s σ H _ _ v u Q I rx ry ⟨rfl,by rw[Po];exact q⟩
def S8 (f:List Nat->List Nat->Bool):R2:=fun x y H Q=> ∃a b,x= .str (S a)/\y= .str (S b)/\Q (.bl (f a b)) H
theorem tH:js X (compareOp .Lt) (S8 fun a b=>decide (a<b)):=by
 intro pins s σ H x y v u Q I rx ry h
 obtain ⟨a,b,rfl,rfl,q⟩:=h
 exact Bb pins s σ H _ _ v u Q I rx ry ⟨S a,S b,rfl,rfl,by rw[fU,fU];exact q⟩
end
section
variable {X:Cx} {tg:Expr}
theorem b9 (K:PySem.W.Frag) (h:X.K=K):Kl X (O1 K):=by subst h;exact GP
theorem bp (K:PySem.W.Frag) (h:X.K=K):Kl X (O2 K):=by subst h;exact Km
def Pp (K:PySem.W.Frag):List V->Hp->VK->Prop:=fun xs H Q=> ∃p ys,xs=[.ref p]/\(br K H p ys\/bV K H p ys)/\Q (.int ys.length) H
theorem aW (K:PySem.W.Frag) (h:X.K=K):cN X (.builtin "len") (Pp K):=by subst h;exact tf
theorem iX (K:PySem.W.Frag) (h:X.K=K):Bk X "str.join" (Dq K):=by subst h;exact Dr
def Pq (K:PySem.W.Frag):List V->Hp->VK->Prop:=fun xs H Q=> ∃(p:Addr) (bs:List Bool),xs=[.ref p]/\br K H p (bs.map V.bl)/\Q (.bl (bs.all id)) H
theorem Bv (K:PySem.W.Frag) (h:X.K=K) (hc:X.calm=true):cN X (.builtin "all") (Pq K):=by subst h;exact Bu hc
def G8 (K:PySem.W.Frag):List V->Hp->VK->Prop:=fun xs H Q=> ∃p ys,xs=[.ref p]/\(br K H p ys\/bV K H p ys)/\ ∀l,H l=none->Q (.ref l) (upd H l (.lst ys))
theorem qy (K:PySem.W.Frag) (h:X.K=K):cN X (.type "list") (G8 K):=by subst h;exact tw
theorem kJ (K:PySem.W.Frag) (h:X.K=K):O0 X (O4 K):=by subst h;exact GQ
theorem dW (K:PySem.W.Frag) (h:X.K=K) {l:Expr} {tl:TE} (hl:PE X l tl):PI X tg l (Jd K tl):=by subst h;exact GG hl
theorem g_ (K:PySem.W.Frag) (h:X.K=K) {l:Expr} {tl:TE} (hl:PE X l tl):PI X tg l (OE K tl):=by subst h;exact Kc hl
end
section
variable {X:Cx} {o e:Expr} {es:List Expr} {to:TE} {t:TA} {name:Str} {apos iH:Pos} {T id:String} {r:V->List V->Hp->VK->Prop}
theorem eU (K:PySem.W.Frag) (hK:X.K=K) (pa:PlainAttrs T) (slot:Slot T name id) (Kr:typeOf (.builtin id)=pure (.type "method_descriptor")) (hm:Bk X id r) (ho:PE X o to)
  (oF:attributeBase o name X.env (eval o X.env)=eval o X.env:=by rfl) (mZ:(apos.endLine==iH.line)=true:=by rfl):PE X (.Call (.Attribute o name apos) [] [] iH) (O5 K T r to):=by
 subst hK
 exact Kq pa slot Kr hm ho oF mZ
theorem bz (K:PySem.W.Frag) (hK:X.K=K) (pa:PlainAttrs T) (slot:Slot T name id) (Kr:typeOf (.builtin id)=pure (.type "method_descriptor")) (hm:Bk X id r) (ho:PE X o to) (ha:PA X (e::es) t)
  (oF:attributeBase o name X.env (eval o X.env)=eval o X.env:=by rfl)
  (Bl:((backTo iH (starEach (e::es) X.env)).all (fun x=>!x.1)&&(backToKw iH (keywordEach [] X.env)).all (fun x=>x.1.isSome)
   &&decide ((e::es).length+([]:List Keyword).length+(if ([]:List Keyword).isEmpty then 0 else 1)<30))=true:=by rfl)
  (mZ:(apos.endLine==iH.line)=true:=by rfl) (hs:starEach (e::es) X.env=(false,eval e X.env)::starEach es X.env:=by rfl) (xX:(backTo iH (starEach es X.env)).any (·.1)=false:=by rfl):
  PE X (.Call (.Attribute o name apos) (e::es) [] iH) (US K T r to t):=by
 subst hK
 exact O6 pa slot Kr hm ho ha oF Bl mZ hs xX
end
section
variable {X:Cx} {pins:List (Addr×Obj)} {σ:St} {H:Hp} {s:Shared}
end
section
variable {X:Cx}
def Pu (K:PySem.W.Frag) (ta:TE):TT:=fun σ H Q=>ta σ H fun x H'=> ∃p xs,x= .ref p/\br K H' p xs/\Q (!xs.isEmpty) H'
theorem G9 {a:Expr} {ta:TE} (K:PySem.W.Frag) (h:X.K=K) (ha:PE X a ta) (he: ∀whole,isTrue a X.env whole=(do let v <-whole;standAt a.pos;holding [v] (truthy v)):=by intro _;rfl):PT X a (Pu K ta):=by
 subst h
 intro pins s σ H Q I hw
 refine isTrue_plain (cg (ha pins s σ H _ I hw) fun v s1 ⟨x,H1,I1,r1,q1⟩=>?_) (he _)
 obtain ⟨p,xs,rfl,hq,q⟩:=q1
 exact Kh pins s1 σ H1 _ v Q I1 r1 ⟨_, .inl ⟨xs,hq,rfl⟩,q⟩
theorem fN (K:PySem.W.Frag) (h:X.K=K) {es:List Expr} {k:Nat} {t:Ja} {n:Nat} {pos:Pos} (hc:X.calm=true) (hs:Oy X es t)
  (hn:(assignEach es X.env).length=n:=by rfl) (kx:(assignEach es X.env).findIdx? (·.1)=none:=by rfl):PG X (.Tuple es k pos) (OC K n t):=by
 subst h
 exact Ka hc hs hn kx
end
noncomputable def cU (a b:List Nat):List Nat:=if b<a then b else a
noncomputable def b_:List Nat->List (List Nat)->List Nat
 | a,[]=>a
 | a,b::r=>b_ (cU a b) r
theorem argBest_lt (bt:Nat->Nat->Bool): ∀n,argBest bt n<=n
 | 0=>Q3 _
 | n+1=>by
  unfold argBest
  split
  ·exact Q3 _
  ·exact Qc5 (argBest_lt bt n)
section
variable {X:Cx}
end
section
variable {X:Cx}
theorem G_ (K:PySem.W.Frag) (h:X.K=K):js X (compareOp .NotIn) (UR K true):=by subst h;exact s_
end
noncomputable def dB (n:Nat) (l:List Nat):List Nat:=(List.replicate n l).flatten
theorem eL (n:Nat) (l:List Nat):dB (n+1) l=l++dB n l:=by unfold dB;rw[Qdx,Qbu]
theorem yk (n:Nat) (l:List Nat):dB (n+1) l=dB n l++l:=by unfold dB;rw[List.replicate_succ',List.flatten_append,Qbu,List.flatten_nil,Z3]
theorem oR (n:Nat) (l:List Nat):(dB n l).length=n*l.length:=by
 induction n with
 | zero=>simp[dB]
 | succ n ih=>rw[eL,UY,ih,Qch,Qd5]
theorem ra (l:List Nat): ∀(n:Nat) (acc:Array Nat),((List.replicate n (S l).cps).foldl (· ++ ·) acc).toList=acc.toList++dB n l
 | 0,acc=>by simp[dB]
 | n+1,acc=>by
  rw[Qdx,Qcw,ra l n,eL]
  simp[S]
def Pw:R2:=fun x y H Q=> ∃(l:List Nat) (i:Int),x= .str (S l)/\y= .int i/\(0<=i/\i<=1000000)/\l.length*i.toNat<=sizeLine/\Q (.str (S (dB i.toNat l))) H
theorem nS {X:Cx}:js X (binaryOp .Mult) Pw:=by
 intro pins s σ H x y v u Q I rx ry h
 obtain ⟨l,i,rfl,rfl,⟨h0,h1⟩,hz,q⟩:=h
 obtain ⟨t,rfl⟩:=rx
 obtain ⟨t',rfl⟩:=ry
 have hn:=fT
 have S9:(S l).length=l.length:=dk l
 have S_:(l.length:Int)*i<=2 ^ 63 - 1:=by
  have e:((l.length*i.toNat:Nat):Int)=(l.length:Int)*i:=by rw[Qej,Int.toNat_of_nonneg h0]
  have:((l.length*i.toNat:Nat):Int)<=(sizeLine:Int):=by exact_mod_cast hz
  rw[<-e];omega
 refine P.mul_str (x:=S l) (n:=i) (t:=t) (u:=t') (by
  have e1:decide (i< -(2 ^ 63:Int))=false:=decide_eq_false (by omega)
  have e2:decide (i ≥ 2 ^ 63)=false:=decide_eq_false (by omega)
  rw[e1,e2];rfl) (fun z _=>?_) (fun z _=>?_) ?_
 ·rw[S9]
  have:(l.length:Int)<=(2 ^ 63 - 1) / i:=(Int.le_ediv_iff_mul_le (by omega)).mpr S_
  omega
 ·rw[S9]
  show Builtin.Str.tooLong _=false
  unfold Builtin.Str.tooLong
  exact decide_eq_false (by omega)
 ·by_cases z:i<1
  ·rw[if_pos z]
   have e:i.toNat=0:=by omega
   rw[e]at q
   exact ⟨by decide, .str _,H,I.tok _,⟨_,rfl⟩,q⟩
  ·rw[if_neg z]
   by_cases z2:(i==1||(S l).length==0)=true
   ·rw[if_pos z2]
    have e:dB i.toNat l=l:=by
     rcases Bool.or_eq_true _ _ |>.mp z2 with e | e
     ·have e:i=1:=by simpa using e
      subst e
      show dB 1 l=l
      rw[eL];simp[dB]
     ·have e:l.length=0:=by rw[S9]at e;simpa using e
      have e:l=[]:=Qa0.mp e
      subst e
      unfold dB
      simp
    rw[e]at q
    exact ⟨.str _,H,I,⟨_,rfl⟩,q⟩
   ·rw[if_neg z2]
    have e:(⟨(List.replicate i.toNat (S l).cps).foldl (· ++ ·) #[]⟩:Str)=S (dB i.toNat l):=by
     have:=ra l i.toNat #[]
     show _=(⟨(dB i.toNat l).toArray⟩:Str)
     congr 1
     apply Qb1.mp
     rw[this]
     simp
    rw[e]
    refine ⟨?_, .str _,H,I.tok _,⟨_,rfl⟩,q⟩
    rw[dk,oR,Qbb]
    exact hz
section
variable {X:Cx}
end
section
variable {X:Cx} {pins:List (Addr×Obj)} {σ:St} {H:Hp} {s:Shared} {h':Heap}
theorem Inv.oS {t':Nat} {ch:List Addr} {T:Addr} {ob:HO} (I:Inv X pins σ H s) (k: ∀b o,b∉ch->s.heap.get? b=some o->h'.get? b=some o) (hf: ∀b∈ch,ni X pins H b)
  (hT:s.heap.objs.size<=T) (new:bZ X.prog X.w (upd H T ob) h' T ob):Inv X pins σ (upd H T ob) { s with heap:=h',toks:=t' }:=by
 have hn:=I.bW.fresh hT
 have IZ: ∀b u,H b=some u->b∉ch:=fun b u e z=>by rw[(hf b z).1]at e;cases e
 have neT: ∀b o,s.heap.get? b=some o->b≠T:=fun b o e z=>absurd (ZM (ZC e) hT) (by rw[z];exact kb _)
 refine I.step (g':=s.gens) (d':=s.drawn) (ch:=ch) (fun b hb=>?_) (fun b o _ _ hc e _=>k b o hc e) (fun b o _ _ hc e _=>⟨o.slots,k b o hc e⟩) (fun b o _ e n=>by rw[ay (neT b o e)];exact n)
  (fun b o hc e=>⟨o,k b o hc e⟩) (fun b xs e=>by rw[ay (ar e hn)];exact e) (fun b o u e=>by rw[ay (ar e hn)];exact e) (fun b ps e=>⟨#[],by rw[ay (ar e hn),e];simp⟩) (fun m hm=>?_) (fun b u e=>?_) I.bare
 ·obtain ⟨_,h2,_,h4,h5,h6⟩:=hf b hb
  exact ⟨h4,h2,h5,h6⟩
 ·obtain ⟨o,es,ep,ho,r⟩:=hm
  exact ⟨o,es,ep,k _ o (fun z=>(hf _ z).2.1 rfl) ho,r⟩
 ·by_cases hb:b=T
  ·subst hb;rw[ah]at e;cases e;exact new
  ·rw[ay hb]at e
   refine (I.bW b u e).vf (fun c v hc q=>k c v ?_ q) (fun c q=>by rw[ay (ar q hn)];exact q) fun c xs q=>by rw[ay (ar q hn)];exact q
   rcases hc with z | z
   ·rw[z];exact IZ b u e
   ·exact IZ c _ z
theorem Inv.tI {t':Nat} {ch:List Addr} (I:Inv X pins σ H s) (k: ∀b o,b∉ch->s.heap.get? b=some o->h'.get? b=some o) (hf: ∀b∈ch,ni X pins H b):Inv X pins σ H { s with heap:=h',toks:=t' }:=by
 have IZ: ∀b u,H b=some u->b∉ch:=fun b u e z=>by rw[(hf b z).1]at e;cases e
 refine I.step (g':=s.gens) (d':=s.drawn) (ch:=ch) (fun b hb=>?_) (fun b o _ _ hc e _=>k b o hc e) (fun b o _ _ hc e _=>⟨o.slots,k b o hc e⟩) (fun b o _ e n=>n)
  (fun b o hc e=>⟨o,k b o hc e⟩) (fun b xs e=>e) (fun b o u e=>e) (fun b ps e=>⟨#[],by rw[e];simp⟩) (fun m hm=>?_) (fun b u e=>?_) I.bare
 ·obtain ⟨_,h2,_,h4,h5,h6⟩:=hf b hb
  exact ⟨h4,h2,h5,h6⟩
 ·obtain ⟨o,es,ep,ho,r⟩:=hm
  exact ⟨o,es,ep,k _ o (fun z=>(hf _ z).2.1 rfl) ho,r⟩
 ·refine (I.bW b u e).vf (fun c v hc q=>k c v ?_ q) (fun c q=>q) fun c xs q=>q
  rcases hc with z | z
  ·rw[z];exact IZ b u e
  ·exact IZ c _ z
end
noncomputable def Px (l:List Nat):It:=⟨fun i _=>i<l.length,fun i H x H'=> ∃T c,l[i]? =some c/\x= .ref T/\H T=none/\H'=upd H T (.tup [.int i, .str (S [c])]),fun i _=>l.length<=i⟩
theorem rh {prog:Program} {w:World} {A:Around} (hh:A.handled=none) (it:Addr) (x:Str) (t:Tok):
  Draws prog w A it [it] x.cps.size (fun i v=> ∃c u,x.cps[i]? =some c/\v= .str ⟨#[c]⟩ u) (fun i h=>h.IsStrIter it (strIterType x) x t i):=by
 by_cases ha:x.cps.all (· <128)=true
 ·have et:strIterType x="str_ascii_iterator":=by unfold strIterType;rw[if_pos ha]
  rw[et];exact Draws.strAscii hh it x t
 ·have et:strIterType x="str_iterator":=by unfold strIterType;rw[if_neg ha]
  rw[et];exact Draws.strWide hh it x t
theorem yl {P:Program} {w:World} {K:PySem.W.Frag} {elts:List Expr} {k:Nat} {pos:Pos} (e it:Addr) (zU:e≠it) (l:List Nat) (t:Tok):
  Turn P w K (.Tuple elts k pos) (Px l) [e,it] e (fun i h=>i<=l.length/\(∃old,IsEnum h e it i old)/\h.IsStrIter it (strIterType (S l)) (S l) t i) where
 mem:=by simp
 obj:=fun i h st b hb=>by
  obtain ⟨_,⟨old,he⟩,o,ho,hc,hd⟩:=st
  rcases Y5.mp hb with z | z
  ·rw[z];exact ⟨_,he,fun v z=>by cases z⟩
  ·rw[UZ.mp z];exact ⟨o,ho,fun v z=>by rw[hd]at z;cases z⟩
 keep:=fun i h h' st kp=>by
  obtain ⟨h1,⟨old,he⟩,o,ho,r⟩:=st
  exact ⟨h1,⟨old,kp e (by simp) _ he⟩,o,kp it (by simp) o ho,r⟩
 item:=by
  intro X hP hw hK hc i pins s σ H E I hf st hg
  subst hP hw hK
  obtain ⟨_,xq,xo⟩:=st
  have D:=rh (prog:=X.prog) (w:=X.w) (A:=X.A.in1) (I.ok.hd hc) it (S l) t
  have W:=WalksT.enumerateD D e zU (by simpa using zU) (by simp)
  have hi:i<(S l).cps.size:=by rw[lZ];exact hg
  refine W.item i s _ _ hi ⟨xq,xo⟩ fun T vals h' tk Py hT Dx vB hk=>⟨_,rfl,?_⟩
  refine W.go elts k pos i T { s with heap:=h',toks:=tk } _ _ vB fun h2 vC ym=>?_
  obtain ⟨tt,x,⟨c,u,Ta,rfl⟩,rfl⟩:=Py
  have Jn:T∉[e,it]:=W.apart i T h' vB
  have vD:h2.IsTuple T #[.int i tt, .str ⟨#[c]⟩ u]:=by
   obtain ⟨o,ho,r⟩:=Dx
   exact ⟨o,ym T o Jn ho,r⟩
  have hl:l[i]? =some c:=by simpa [S]using Ta
  refine ⟨.ref T,upd H T (.tup [.int i, .str (S [c])]),?_,rfl,⟨T,c,hl,rfl,I.bW.fresh hT,rfl⟩,⟨hg,vC.1,vC.2⟩,fun b hb=>?_⟩
  ·refine I.oS (t':=tk) (h':=h2) (fun b o hb y=>ym b o hb (hk b o hb y)) hf hT ?_
   exact ⟨by show 2<=sizeLine;decide,[.int i tt, .str ⟨#[c]⟩ u], .cons ⟨tt,rfl⟩ (.cons ⟨u,rfl⟩ .nil),vD⟩
  ·rw[ay (fun z:b=T=>Jn (z▸hb))];exact (hf b hb).1
 done:=by
  intro X hP hw hK hc i pins s σ H E I hf st hg
  subst hP hw hK
  obtain ⟨h1,xq,xo⟩:=st
  have e1:i=l.length:=Qef h1 hg
  have D:=rh (prog:=X.prog) (w:=X.w) (A:=X.A.in1) (I.ok.hd hc) it (S l) t
  have W:=WalksT.enumerateD D e zU (by simpa using zU) (by simp)
  refine W.done s _ _ ?_ fun h' tk hk=>⟨rfl,I.tI (t':=tk) hk hf⟩
  rw[lZ, <-e1]
  exact ⟨xq,xo⟩
 self:=fun _ _ s _ _ st h=>by
  obtain ⟨_,⟨old,he⟩,_⟩:=st
  exact wpAny_pyIter_enum he h
def KO (ta:TA):TI:=fun σ H R=>ta σ H fun vs H1=> ∃l,vs=[.str (S l)]/\R (Px l) H1
theorem Dy {X:Cx} {elts:List Expr} {k:Nat} {pos':Pos} {a:Expr} {ta:TA} {p pos:Pos} (hg:Gl X "enumerate") (hm:X.mg "enumerate"=none) (ha:PA X [a] ta) (hs:starEach [a] X.env=[(false,eval a X.env)]:=by rfl):PI X (.Tuple elts k pos') (.Call (.Name "enumerate" p) [a] [] pos) (KO ta):=by
 intro pins s σ H R I h
 refine Call_ (gw I hg hm boot_enumerate (Qan (cg (ha pos pins s σ H _ I h) fun us s1 ⟨vs,H1,I1,r1,q1⟩=>?_) hs rfl))
 obtain ⟨l,rfl,q⟩:=q1
 obtain ⟨u,rfl,t,rfl⟩:=vals1 r1
 refine call_enumerate_str fun h' he hit hsz hk=>?_
 refine wpAny_pyIter_enum he ?_
 refine ⟨s1.heap.objs.size+1,[s1.heap.objs.size+1,s1.heap.objs.size],_,_,H1,rfl,I1.kept (t':=s1.toks) hk,yl _ _ (Qdd _) l t,⟨Y6 _,⟨_,he⟩,hit⟩,fun b hb=>?_,q⟩
 have m4:s1.heap.objs.size<=b:=by
  rcases Y5.mp hb with z | z
  ·rw[z];exact Qbc _
  ·rw[UZ.mp z];exact Q3 _
 exact I1.ou m4 (I1.bW.fresh m4)
theorem Dz {l:List Nat} {g:TG} {tb:TS} {D:Ends} {σ:St} {H:Hp} (Pv:Nat->St->Hp->Prop) (h0:Pv 0 σ H)
  (hs: ∀i c σ H T,l[i]? =some c->Pv i σ H->H T=none->g (.ref T) σ (upd H T (.tup [.int i, .str (S [c])])) fun σ2 H2=>tb { D with nx:=Pv (i+1),ct:=Pv (i+1),bk:=D.nx } σ2 H2) (hd: ∀σ H,Pv l.length σ H->D.nx σ H):
  ∃W:Nat->Nat->St->Hp->Prop,(∃m,W 0 m σ H)/\ ∀i m σ H,W i m σ H->
   ((Px l).stop i H/\D.nx σ H)\/((Px l).go i H/\ ∃N:St->Hp->Prop,(∀σ' H',N σ' H'-> ∃m',m'<m/\W (i+1) m' σ' H')/\ ∀x H',(Px l).CG i H x H'->g x σ H' fun σ2 H2=>tb { D with nx:=N,ct:=N,bk:=D.nx } σ2 H2):=by
 refine ⟨fun i m σ H=>m=l.length - i/\i<=l.length/\Pv i σ H,⟨l.length,by simp,Y6 _,h0⟩,?_⟩
 rintro i m σ H ⟨rfl,hi,p⟩
 by_cases cV:i<l.length
 ·refine .inr ⟨cV,Pv (i+1),fun σ' H' p'=>⟨l.length - (i+1),by omega,rfl,cV,p'⟩,fun x H' y=>?_⟩
  obtain ⟨T,c,hc,rfl,hn,rfl⟩:=y
  exact hs i c σ _ T hc p hn
 ·have e:i=l.length:=by omega
  subst e
  exact .inl ⟨Q3 _,hd σ H p⟩
section
variable {X:Cx}
theorem Ha {ls:List (List Nat)}: ∀{aJ:List Value},Vals (ls.map fun l=>V.str (S l)) aJ->StrsAre aJ (ls.map S):=by
 induction ls with
 | nil=>intro aJ r;cases r;exact .nil
 | cons l ls ih=>
  intro aJ r
  cases r with
  | cons r1 r2=>
   obtain ⟨t,rfl⟩:=r1
   exact .cons _ t (ih r2)
theorem zV: ∀{aJ:List Value} {ss:List Str},StrsAre aJ ss->Vals ((ss.map fun x=>x.cps.toList).map fun l=>V.str (S l)) aJ
 | _,_, .nil=> .nil
 | _,_, .cons x t h=> .cons ⟨t,by rw[<-Ph]⟩ (zV h)
theorem rj: ∀(p:Str) (r:List Str),risingS p r=true->(p::r).Pairwise fun a b=> ¬b.cps.toList<a.cps.toList
 | p,[],_=>Qcf _ _
 | p,x::r,h=>by
  have h':(!ltCps x.cps.toList p.cps.toList&&risingS x r)=true:=h
  rw[Z2,ltCps_eq]at h'
  have h1: ¬x.cps.toList<p.cps.toList:=by simpa using h'.1
  have ih:=rj x r h'.2
  refine Qbg.mpr ⟨fun y hy=>?_,ih⟩
  rcases Y5.mp hy with z | z
  ·rw[z];exact h1
  ·exact List.le_trans (show p.cps.toList<=x.cps.toList from h1) (show x.cps.toList<=y.cps.toList from List.rel_of_pairwise_cons ih z)
theorem Bw {ss:List Str} (h:sortedS ss=true):(ss.map fun x=>x.cps.toList).Pairwise fun a b=> ¬b<a:=by
 rw[Qao]
 cases ss with
 | nil=>exact List.Pairwise.nil
 | cons x r=>exact rj x r h
def KP (K:PySem.W.Frag):List V->Hp->VK->Prop:=fun xs H Q=> ∃(p:Addr) (ls:List (List Nat)),xs=[.ref p]/\br K H p (ls.map fun l=>V.str (S l))/\ls.length<64/\ ∀(q:Addr) (Tb:List (List Nat)),H q=none->Tb.Perm ls->(Tb.Pairwise fun a b=> ¬b<a)->Q (.ref q) (upd H q (.lst (Tb.map fun l=>V.str (S l))))
theorem tJ (K:PySem.W.Frag) (h:X.K=K):cN X (.builtin "sorted") (KP K):=by
 subst h
 intro pins s σ H xs us Q I r h
 obtain ⟨p,ls,rfl,hq,hn,q⟩:=h
 obtain ⟨u,rfl,ru⟩:=vals1 r
 cases ru
 obtain ⟨aJ,rv,pl,hz⟩:=I.list hq
 have hlen:aJ.length=ls.length:=by rw[<-rv.length,UX]
 refine sorted_strs (l:=p) (vs:=aJ) (ss:=ls.map S) pl.isList (Ha rv) (by omega) fun out CI h1 h2 h3=>?_
 obtain ⟨e,he⟩:=sortedAll_at s.heap aJ out
 have vE:(CI.map fun x=>x.cps.toList).Perm ls:=by
  have:=h2.map fun x:Str=>x.cps.toList
  rw[Qaf]at this
  have e2:ls.map ((fun x:Str=>x.cps.toList) ∘ S)=ls:=by
   have: ∀l∈ls,((fun x:Str=>x.cps.toList) ∘ S) l=l:=fun l _=>fU l
   calc ls.map _=ls.map id:=Qb5 this
    _=ls:=Qee ls
  rwa [e2]at this
 have GW:=vE.length_eq
 have WN:(64:Nat)<sizeLine:=by decide
 have Pz:((CI.map fun x=>x.cps.toList).map fun l=>V.str (S l)).length<=sizeLine:=by rw[UX,GW];omega
 refine ⟨.ref (s.heap.objs.size+1),_,I.laid (t':=s.toks) (a:=s.heap.objs.size+1) (o:= .lst ((CI.map fun x=>x.cps.toList).map fun l=>V.str (S l))) (fun b o e=>sortedAll_old e) (Qbc _) ⟨Pz,out.toList,e,zV h1,by simpa [seqObj]using he⟩,rfl,q _ _ (I.bW.fresh (Qbc _)) vE (Bw h3)⟩
end
section
variable {X:Cx}
theorem Hb {ls:List (List Nat)} {l:List Nat} (h:ls.Perm (l.map fun c=>[c])): ∃l':List Nat,ls=l'.map (fun c=>[c])/\l'.Perm l:=by
 refine ⟨ls.flatten,?_,?_⟩
 ·have hs: ∀x∈ls, ∃c,x=[c]:=fun x hx=>by
   obtain ⟨c,_,e⟩:=ZN.mp (h.mem_iff.mp hx)
   exact ⟨c,e.symm⟩
  clear h
  induction ls with
  | nil=>rfl
  | cons x ls ih=>
   obtain ⟨c,rfl⟩:=hs x Zy
   rw[Qbu,WC, <-ih fun y hy=>hs y (Y4 _ hy)]
   rfl
 ·have:=h.flatten
  have e:(l.map fun c=>[c]).flatten=l:=by
   clear h this
   induction l with
   | nil=>rfl
   | cons c l ih=>rw[ZJ,Qbu,ih];rfl
  rwa [e]at this
theorem Hc {l:List Nat} (h:(l.map fun c=>[c]).Pairwise fun a b=> ¬b<a):l.Pairwise fun a b=>a<=b:=by
 rw[Qao]at h
 refine h.imp fun {a b} z=>?_
 by_cases y:a<=b
 ·exact y
 ·exact absurd (Qds.mpr (.inl (by omega))) z
end
section
variable {X:Cx}
end
section
variable {prog:Program} {w:World} {A:Around} {E:Value->Shared->Prop} {s:Shared}
theorem yn {it tp:Addr} {j:Nat} {xs:Array Value} {y:Value} {Q:Value->Shared->Prop} (hi:s.heap.IsTupleIter it tp j) (ht:s.heap.IsTuple tp xs) (hy:xs[j]? =some y)
  (q: ∀h2,h2.IsTupleIter it tp (j+1)->Heap.SameBut it s.heap h2->Q y { s with heap:=h2 }):wpAny (model prog w) A (Builtin.SmallTypes.nextOf (.ref it)) Q E s:=by
 obtain ⟨oi,eo,ec,ed⟩:=id hi
 obtain ⟨ot,et,_,nt,dt⟩:=ht
 unfold Builtin.SmallTypes.nextOf
 refine wpAny_bind (wpAny_callSpecial?_slot (name:=Str.ofString "__next__") hi.typeIs F.slot_tuple_iterator_next (wpAny_call_entry F.slot_tuple_iterator_next hi.typeIs F.entry_tuple_iterator_next ?_ (F.args_tuple_iterator_next_1 _)))
 refine wpAny_bind (m:=field (.ref it) 0) (wpAny_field eo ed (x:= .ref tp) rfl ?_)
 show wpAny (model prog w) _ (if (Value.ref tp==Value.none)=true then _ else _) _ E s
 rw[if_neg (show ¬(Value.ref tp==Value.none)=true from ZI)]
 refine wpAny_bind (m:=field (.ref it) 1) (wpAny_field eo ed (x:= .int j 0) rfl ?_)
 refine wpAny_bind (m:=seqItems? (.ref tp)) (wpAny_seqItems et dt ?_)
 simp only[WB,hy]
 refine wpAny_bind (wpAny_setField eo ed (by simp) (wpAny_pure ⟨y,rfl,wpAny_pure (q _ ⟨_,Qax _ eo (Obj.isFreed_of_fields (Obj.data_mapFields ed _)),(Obj.cls_mapFields ..).trans ec,by rw[Obj.data_mapFields ed];simp[rawInt]⟩ (Qed ..))⟩))
theorem Bx {it tp:Addr} {j:Nat} {xs:Array Value} {Q:Value->Shared->Prop} (hh:A.handled=none) (hi:s.heap.IsTupleIter it tp j) (ht:s.heap.IsTuple tp xs) (hy:xs[j]? =none)
  (q: ∀h2 e,Heap.ExtBut it s.heap h2->(∃o,h2.get? e=some o/\o.cls= .type "StopIteration")->E (.ref e) { s with heap:=h2 }):wpAny (model prog w) A (Builtin.SmallTypes.nextOf (.ref it)) Q E s:=by
 obtain ⟨oi,eo,ec,ed⟩:=id hi
 obtain ⟨ot,et,_,nt,dt⟩:=ht
 unfold Builtin.SmallTypes.nextOf
 refine wpAny_bind (wpAny_callSpecial?_slot (name:=Str.ofString "__next__") hi.typeIs F.slot_tuple_iterator_next (wpAny_call_entry F.slot_tuple_iterator_next hi.typeIs F.entry_tuple_iterator_next ?_ (F.args_tuple_iterator_next_1 _)))
 refine wpAny_bind (m:=field (.ref it) 0) (wpAny_field eo ed (x:= .ref tp) rfl ?_)
 show wpAny (model prog w) _ (if (Value.ref tp==Value.none)=true then _ else _) _ E s
 rw[if_neg (show ¬(Value.ref tp==Value.none)=true from ZI)]
 refine wpAny_bind (m:=field (.ref it) 1) (wpAny_field eo ed (x:= .int j 0) rfl ?_)
 refine wpAny_bind (m:=seqItems? (.ref tp)) (wpAny_seqItems et dt ?_)
 simp only[WB,hy]
 refine wpAny_bind (wpAny_rule (wpAny_bind (wpAny_setField eo ed (by simp) ?_)))
 refine wpAny_bind (m:=newExc (.type "StopIteration") []) ?_
 simp only[newExc,newTuple]
 refine wpAny_bind (wpAny_newObj_type (wpAny_bind (m:=firstArgMember _ _) (wpAny_of_eq (a:=Value.none) (by first | rfl | (simp only[firstArgMember];rfl)) (wpAny_newObj_type ?_ (by size_fits)))) (by size_fits))
 simp only[raiseNew]
 refine wpAny_bind (wpAny_handled ?_);first | rw[show A.in1.handled=none from hh] | rw[hh]
 exact wpAny_bind (wpAny_pure (wpAny_throw (q _ _ (((Qed ..).extBut.push _).push _) ⟨_,ZF _ rfl,rfl⟩)))
theorem m5 (hh:A.handled=none) (it tp:Addr) (ne:tp≠it) (xs:Array Value):
  Draws prog w A it [it,tp] xs.size (fun i v=>xs[i]? =some v) (fun i h=>h.IsTupleIter it tp i/\h.IsTuple tp xs) where
 live:=fun _ _ z=>let ⟨o,e,_⟩:=z.1;⟨o,e⟩
 frame:=fun _ _ _ z k=>by
  obtain ⟨⟨o,e,r⟩,o2,e2,r2⟩:=z
  exact ⟨⟨o,k it (by simp) o e,r⟩,o2,k tp (by simp) o2 e2,r2⟩
 item:=fun i s Q E hi z q=>yn z.1 z.2 (y:=xs[i]) (by simp[hi]) fun h2 z2 sb=>q _ h2 s.toks (by simp[hi]) ⟨z2,z.2.extBut sb.extBut ne⟩ sb
 done:=fun s Q E z q=>Bx hh z.1 z.2 (by simp) q
theorem vF (l:Addr) (items:Array Value) (n:Nat) (Tc:Option Addr) (sl:Array (Option Value)):
  Meets (Builtin.«enumerate.__new__» ⟨[.type "enumerate", .ref l],[]⟩) (fun _ R s=>s.heap.get? l=some { cls:= .type "tuple",dict:=Tc,data:= .seq items n,slots:=sl }/\
   R (.ok (.ret (.ref (s.heap.push { cls:= .type "tuple_iterator",data:= .fields #[.ref l, .int 0 0] }).objs.size)))
    { s with heap:=(s.heap.push { cls:= .type "tuple_iterator",data:= .fields #[.ref l, .int 0 0] }).push { cls:= .type "enumerate",data:= .fields #[.none, .bool false, .ref s.heap.objs.size,rawInt 0, .none, .none] } }):=
 .of_wp fun prog w A R s h=>by
  obtain ⟨hp,g,d,tk,os⟩:=s;obtain ⟨hl,q⟩:=h;have Td:=sub_enumerate
  have hT:Heap.IsTuple (Shared.heap ⟨hp,g,d,tk,os⟩) l items:=⟨_,hl,rfl,n,rfl⟩
  wp_walk using AutoSeq1.wpAny_loadPart' hl
  refine wpAny_stack_any fun st=>wpAny_pure ?_
  split
  ·rename_i c _ _ _ _ _
   cases (c==Value.type "enumerate")<;>(wp_walk using AutoSeq1.wpAny_loadPart' hl,wpAny_pyIter_tuple hT;exact ⟨_,rfl,q⟩)
  ·wp_walk using AutoSeq1.wpAny_loadPart' hl,wpAny_pyIter_tuple hT
   exact ⟨_,rfl,q⟩
theorem yo {l:Addr} {items:Array Value} {Q:Value->Shared->Prop} (hL:s.heap.IsTuple l items)
  (h: ∀h',IsEnum h' (s.heap.objs.size+1) s.heap.objs.size 0 .none->h'.IsTupleIter s.heap.objs.size l 0->(∀b o,s.heap.get? b=some o->h'.get? b=some o)->Q (.ref (s.heap.objs.size+1)) { s with heap:=h' }):
  wpAny (model prog w) A (call (.type "enumerate") [.ref l]) Q E s:=by
 obtain ⟨⟨c,Tc,dt,sl⟩,hl,hc,n,hd⟩:=hL
 cases (show c= .type "tuple" from hc)
 cases (show dt= .seq items n from hd)
 refine callType_new F.called_enumerate (by decide) (F.typeCall_enumerate_1 _) (F.newCall_enumerate_1 _) (fun ob=>F.args_object_init_2 ob _) F.entry_enumerate_new (vF l items n Tc sl) ⟨hl,?_⟩
 have hz:(s.heap.push { cls:= .type "tuple_iterator",data:= .fields #[.ref l, .int 0 0] }).objs.size=s.heap.objs.size+1:=Qb8 ..
 show _/\_
 rw[hz]
 have he:IsEnum ((s.heap.push { cls:= .type "tuple_iterator",data:= .fields #[.ref l, .int 0 0] }).push { cls:= .type "enumerate",data:= .fields #[.none, .bool false, .ref s.heap.objs.size,rawInt 0, .none, .none] }) (s.heap.objs.size+1) s.heap.objs.size 0 .none:=by
  have:=ZF (s.heap.push { cls:= .type "tuple_iterator",data:= .fields #[.ref l, .int 0 0] }) (o:={ cls:= .type "enumerate",data:= .fields #[.none, .bool false, .ref s.heap.objs.size,rawInt 0, .none, .none] }) rfl
  rwa [hz]at this
 exact ⟨⟨_,he,rfl⟩,h _ he ⟨_,MD _ (ZF _ rfl),rfl,rfl⟩ fun b o x=>MD _ (MD _ x)⟩
end
noncomputable def DA (K:PySem.W.Frag) (a:Addr):It:=⟨fun i H=> ∃xs x,bV K H a xs/\xs[i]? =some x,fun i H x H'=> ∃T y,(∀xs,bV K H a xs->xs[i]? =some y)/\x= .ref T/\H T=none/\H'=upd H T (.tup [.int i,y]),fun i H=> ∃xs,bV K H a xs/\xs.length=i⟩
noncomputable def DB (K:PySem.W.Frag) (a:Addr):It:=⟨fun i H=> ∃xs x,br K H a xs/\xs[i]? =some x,fun i H x H'=> ∃T y,(∀xs,br K H a xs->xs[i]? =some y)/\x= .ref T/\H T=none/\H'=upd H T (.tup [.int i,y]),fun i H=> ∃xs,br K H a xs/\xs.length=i⟩
theorem yp {P:Program} {w:World} {K:PySem.W.Frag} {elts:List Expr} {k:Nat} {pos:Pos} (e it a:Addr) (zU:e≠it) (PB:a≠e) (PC:a≠it):
  Turn P w K (.Tuple elts k pos) (DA K a) [e,it] e (fun i h=>(∃old,IsEnum h e it i old)/\h.IsTupleIter it a i) where
 mem:=by simp
 obj:=fun i h st b hb=>by
  obtain ⟨⟨old,he⟩,o,ho,hc,hd⟩:=st
  rcases Y5.mp hb with z | z
  ·rw[z];exact ⟨_,he,fun v z=>by cases z⟩
  ·rw[UZ.mp z];exact ⟨o,ho,fun v z=>by rw[hd]at z;cases z⟩
 keep:=fun i h h' st kp=>by
  obtain ⟨⟨old,he⟩,o,ho,r⟩:=st
  exact ⟨⟨old,kp e (by simp) _ he⟩,o,kp it (by simp) o ho,r⟩
 item:=by
  intro X hP hw hK hc i pins s σ H E I hf st hg
  subst hP hw hK
  obtain ⟨xq,xo⟩:=st
  obtain ⟨xs,x,hq,hx⟩:=hg
  obtain ⟨aJ,rv,p,hz⟩:=I.tuple hq
  obtain ⟨u0,hu,ru⟩:=rv.get hx
  have D:=m5 (prog:=X.prog) (w:=X.w) (A:=X.A.in1) (I.ok.hd hc) it a PC aJ.toArray
  have W:=WalksT.enumerateD D e zU (by simp;exact ⟨zU,Ne.symm PB⟩) (by simp)
  have Te:i<aJ.toArray.size:=by rw[WD];exact (Kx.mp hu).1
  refine W.item i s _ _ Te ⟨xq,xo,p⟩ fun T vals h' tk Py hT Dx vB hk=>⟨_,rfl,?_⟩
  refine W.go elts k pos i T { s with heap:=h',toks:=tk } _ _ vB fun h2 vC ym=>?_
  obtain ⟨tt,x2,PD,rfl⟩:=Py
  have ex:x2=u0:=by
   rw[List.getElem?_toArray]at PD
   exact ZG (PD.symm.trans hu)
  subst ex
  have Jn:T∉[e,it]:=W.apart i T h' vB
  have vD:h2.IsTuple T #[.int i tt,x2]:=by
   obtain ⟨o,ho,r⟩:=Dx
   exact ⟨o,ym T o Jn ho,r⟩
  refine ⟨.ref T,upd H T (.tup [.int i,x]),?_,rfl,⟨T,x,fun ys hy=>by rw[I.qQ hy hq];exact hx,rfl,I.bW.fresh hT,rfl⟩,⟨vC.1,vC.2.1⟩,fun b hb=>?_⟩
  ·refine I.oS (t':=tk) (h':=h2) (fun b o hb y=>ym b o hb (hk b o hb y)) hf hT ?_
   exact ⟨by show 2<=sizeLine;decide,[.int i tt,x2], .cons ⟨tt,rfl⟩ (.cons ru .nil),vD⟩
  ·rw[ay (fun z:b=T=>Jn (z▸hb))];exact (hf b hb).1
 done:=by
  intro X hP hw hK hc i pins s σ H E I hf st hg
  subst hP hw hK
  obtain ⟨xq,xo⟩:=st
  obtain ⟨xs,hq,hx⟩:=hg
  obtain ⟨aJ,rv,p,hz⟩:=I.tuple hq
  have hl:=rv.length
  have D:=m5 (prog:=X.prog) (w:=X.w) (A:=X.A.in1) (I.ok.hd hc) it a PC aJ.toArray
  have W:=WalksT.enumerateD D e zU (by simp;exact ⟨zU,Ne.symm PB⟩) (by simp)
  refine W.done s _ _ ?_ fun h' tk hk=>⟨rfl,I.tI (t':=tk) hk hf⟩
  have e1:aJ.toArray.size=i:=by rw[WD];omega
  rw[e1]
  exact ⟨xq,xo,p⟩
 self:=fun _ _ s _ _ st h=>by
  obtain ⟨⟨old,he⟩,_⟩:=st
  exact wpAny_pyIter_enum he h
theorem yq {P:Program} {w:World} {K:PySem.W.Frag} {elts:List Expr} {k:Nat} {pos:Pos} (e it a:Addr) (zU:e≠it) (PB:a≠e) (PC:a≠it):
  Turn P w K (.Tuple elts k pos) (DB K a) [e,it] e (fun i h=>(∃old,IsEnum h e it i old)/\h.IsListIter it a i) where
 mem:=by simp
 obj:=fun i h st b hb=>by
  obtain ⟨⟨old,he⟩,o,ho,hc,hd⟩:=st
  rcases Y5.mp hb with z | z
  ·rw[z];exact ⟨_,he,fun v z=>by cases z⟩
  ·rw[UZ.mp z];exact ⟨o,ho,fun v z=>by rw[hd]at z;cases z⟩
 keep:=fun i h h' st kp=>by
  obtain ⟨⟨old,he⟩,o,ho,r⟩:=st
  exact ⟨⟨old,kp e (by simp) _ he⟩,o,kp it (by simp) o ho,r⟩
 item:=by
  intro X hP hw hK hc i pins s σ H E I hf st hg
  subst hP hw hK
  obtain ⟨xq,xo⟩:=st
  obtain ⟨xs,x,hq,hx⟩:=hg
  obtain ⟨aJ,rv,p,hz⟩:=I.list hq
  obtain ⟨u0,hu,ru⟩:=rv.get hx
  have D:=Draws.list (prog:=X.prog) (w:=X.w) (A:=X.A.in1) (I.ok.hd hc) it a PC aJ.toArray
  have W:=WalksT.enumerateD D e zU (by simp;exact ⟨zU,Ne.symm PB⟩) (by simp)
  have Te:i<aJ.toArray.size:=by rw[WD];exact (Kx.mp hu).1
  refine W.item i s _ _ Te ⟨xq,xo,p.isList⟩ fun T vals h' tk Py hT Dx vB hk=>⟨_,rfl,?_⟩
  refine W.go elts k pos i T { s with heap:=h',toks:=tk } _ _ vB fun h2 vC ym=>?_
  obtain ⟨tt,x2,PD,rfl⟩:=Py
  have ex:x2=u0:=by
   rw[List.getElem?_toArray]at PD
   exact ZG (PD.symm.trans hu)
  subst ex
  have Jn:T∉[e,it]:=W.apart i T h' vB
  have vD:h2.IsTuple T #[.int i tt,x2]:=by
   obtain ⟨o,ho,r⟩:=Dx
   exact ⟨o,ym T o Jn ho,r⟩
  refine ⟨.ref T,upd H T (.tup [.int i,x]),?_,rfl,⟨T,x,fun ys hy=>by rw[I.vh hy hq];exact hx,rfl,I.bW.fresh hT,rfl⟩,⟨vC.1,vC.2.1⟩,fun b hb=>?_⟩
  ·refine I.oS (t':=tk) (h':=h2) (fun b o hb y=>ym b o hb (hk b o hb y)) hf hT ?_
   exact ⟨by show 2<=sizeLine;decide,[.int i tt,x2], .cons ⟨tt,rfl⟩ (.cons ru .nil),vD⟩
  ·rw[ay (fun z:b=T=>Jn (z▸hb))];exact (hf b hb).1
 done:=by
  intro X hP hw hK hc i pins s σ H E I hf st hg
  subst hP hw hK
  obtain ⟨xq,xo⟩:=st
  obtain ⟨xs,hq,hx⟩:=hg
  obtain ⟨aJ,rv,p,hz⟩:=I.list hq
  have hl:=rv.length
  have D:=Draws.list (prog:=X.prog) (w:=X.w) (A:=X.A.in1) (I.ok.hd hc) it a PC aJ.toArray
  have W:=WalksT.enumerateD D e zU (by simp;exact ⟨zU,Ne.symm PB⟩) (by simp)
  refine W.done s _ _ ?_ fun h' tk hk=>⟨rfl,I.tI (t':=tk) hk hf⟩
  have e1:aJ.toArray.size=i:=by rw[WD];omega
  rw[e1]
  exact ⟨xq,xo,p.isList⟩
 self:=fun _ _ s _ _ st h=>by
  obtain ⟨⟨old,he⟩,_⟩:=st
  exact wpAny_pyIter_enum he h
def KQ (K:PySem.W.Frag) (ta:TA):TI:=fun σ H R=>ta σ H fun vs H1=> ∃a,vs=[.ref a]/\(∃xs,bV K H1 a xs)/\R (DA K a) H1
def KR (K:PySem.W.Frag) (ta:TA):TI:=fun σ H R=>ta σ H fun vs H1=> ∃a,vs=[.ref a]/\(∃xs,br K H1 a xs)/\R (DB K a) H1
theorem oT {X:Cx} (K:PySem.W.Frag) (hK:X.K=K) {elts:List Expr} {k:Nat} {pos':Pos} {a:Expr} {ta:TA} {p pos:Pos} (hg:Gl X "enumerate") (hm:X.mg "enumerate"=none) (ha:PA X [a] ta) (hs:starEach [a] X.env=[(false,eval a X.env)]:=by rfl):PI X (.Tuple elts k pos') (.Call (.Name "enumerate" p) [a] [] pos) (KQ K ta):=by
 subst hK
 intro pins s σ H R I h
 refine Call_ (gw I hg hm boot_enumerate (Qan (cg (ha pos pins s σ H _ I h) fun us s1 ⟨vs,H1,I1,r1,q1⟩=>?_) hs rfl))
 obtain ⟨b,rfl,⟨xs,hq⟩,q⟩:=q1
 obtain ⟨u,rfl,ru⟩:=vals1 r1
 cases ru
 obtain ⟨aJ,rv,pl,hz⟩:=I1.tuple hq
 obtain ⟨ob,eb,_⟩:=id pl
 have cV:b<s1.heap.objs.size:=ZC eb
 refine yo pl fun h' he hit hk=>wpAny_pyIter_enum he ?_
 refine ⟨s1.heap.objs.size+1,[s1.heap.objs.size+1,s1.heap.objs.size],_,_,H1,rfl,I1.kept (t':=s1.toks) hk,yp _ _ b (Qdd _) (ZH (Qba cV)) (ZH cV),⟨⟨_,he⟩,hit⟩,fun c hb=>?_,q⟩
 have m4:s1.heap.objs.size<=c:=by
  rcases Y5.mp hb with z | z
  ·rw[z];exact Qbc _
  ·rw[UZ.mp z];exact Q3 _
 exact I1.ou m4 (I1.bW.fresh m4)
theorem DC {X:Cx} (K:PySem.W.Frag) (hK:X.K=K) {elts:List Expr} {k:Nat} {pos':Pos} {a:Expr} {ta:TA} {p pos:Pos} (hg:Gl X "enumerate") (hm:X.mg "enumerate"=none) (ha:PA X [a] ta) (hs:starEach [a] X.env=[(false,eval a X.env)]:=by rfl):PI X (.Tuple elts k pos') (.Call (.Name "enumerate" p) [a] [] pos) (KR K ta):=by
 subst hK
 intro pins s σ H R I h
 refine Call_ (gw I hg hm boot_enumerate (Qan (cg (ha pos pins s σ H _ I h) fun us s1 ⟨vs,H1,I1,r1,q1⟩=>?_) hs rfl))
 obtain ⟨b,rfl,⟨xs,hq⟩,q⟩:=q1
 obtain ⟨u,rfl,ru⟩:=vals1 r1
 cases ru
 obtain ⟨aJ,rv,pl,hz⟩:=I1.list hq
 obtain ⟨ob,eb,_⟩:=id pl.isList
 have cV:b<s1.heap.objs.size:=ZC eb
 refine call_enumerate_list pl.isList fun h' he hit hsz hk=>wpAny_pyIter_enum he ?_
 refine ⟨s1.heap.objs.size+1,[s1.heap.objs.size+1,s1.heap.objs.size],_,_,H1,rfl,I1.kept (t':=s1.toks) hk,yq _ _ b (Qdd _) (ZH (Qba cV)) (ZH cV),⟨⟨_,he⟩,hit⟩,fun c hb=>?_,q⟩
 have m4:s1.heap.objs.size<=c:=by
  rcases Y5.mp hb with z | z
  ·rw[z];exact Qbc _
  ·rw[UZ.mp z];exact Q3 _
 exact I1.ou m4 (I1.bW.fresh m4)
theorem me {K:PySem.W.Frag} {a:Addr} {xs:List V} {g:TG} {tb:TS} {D:Ends} {σ:St} {H:Hp} (Pv:Nat->St->Hp->Prop) (h0:Pv 0 σ H) (hl: ∀i σ H,i<=xs.length->Pv i σ H->bV K H a xs)
  (hs: ∀i x σ H T,xs[i]? =some x->Pv i σ H->H T=none->g (.ref T) σ (upd H T (.tup [.int i,x])) fun σ2 H2=>tb { D with nx:=Pv (i+1),ct:=Pv (i+1),bk:=D.nx } σ2 H2) (hd: ∀σ H,Pv xs.length σ H->D.nx σ H):
  ∃W:Nat->Nat->St->Hp->Prop,(∃m,W 0 m σ H)/\ ∀i m σ H,W i m σ H->
   ((DA K a).stop i H/\D.nx σ H)\/((DA K a).go i H/\ ∃N:St->Hp->Prop,(∀σ' H',N σ' H'-> ∃m',m'<m/\W (i+1) m' σ' H')/\ ∀x H',(DA K a).CG i H x H'->g x σ H' fun σ2 H2=>tb { D with nx:=N,ct:=N,bk:=D.nx } σ2 H2):=by
 refine ⟨fun i m σ H=>m=xs.length - i/\i<=xs.length/\Pv i σ H,⟨xs.length,by simp,Y6 _,h0⟩,?_⟩
 rintro i m σ H ⟨rfl,hi,p⟩
 have hq:=hl i σ H hi p
 by_cases cV:i<xs.length
 ·refine .inr ⟨⟨xs,xs[i],hq,by simp[cV]⟩,Pv (i+1),fun σ' H' p'=>⟨xs.length - (i+1),by omega,rfl,cV,p'⟩,fun x H' y=>?_⟩
  obtain ⟨T,z,hz,rfl,hn,rfl⟩:=y
  exact hs i z σ _ T (hz xs hq) p hn
 ·have e:i=xs.length:=by omega
  subst e
  exact .inl ⟨⟨xs,hq,rfl⟩,hd σ H p⟩
theorem By {K:PySem.W.Frag} {a:Addr} {xs:List V} {g:TG} {tb:TS} {D:Ends} {σ:St} {H:Hp} (Pv:Nat->St->Hp->Prop) (h0:Pv 0 σ H) (hl: ∀i σ H,i<=xs.length->Pv i σ H->br K H a xs)
  (hs: ∀i x σ H T,xs[i]? =some x->Pv i σ H->H T=none->g (.ref T) σ (upd H T (.tup [.int i,x])) fun σ2 H2=>tb { D with nx:=Pv (i+1),ct:=Pv (i+1),bk:=D.nx } σ2 H2) (hd: ∀σ H,Pv xs.length σ H->D.nx σ H):
  ∃W:Nat->Nat->St->Hp->Prop,(∃m,W 0 m σ H)/\ ∀i m σ H,W i m σ H->
   ((DB K a).stop i H/\D.nx σ H)\/((DB K a).go i H/\ ∃N:St->Hp->Prop,(∀σ' H',N σ' H'-> ∃m',m'<m/\W (i+1) m' σ' H')/\ ∀x H',(DB K a).CG i H x H'->g x σ H' fun σ2 H2=>tb { D with nx:=N,ct:=N,bk:=D.nx } σ2 H2):=by
 refine ⟨fun i m σ H=>m=xs.length - i/\i<=xs.length/\Pv i σ H,⟨xs.length,by simp,Y6 _,h0⟩,?_⟩
 rintro i m σ H ⟨rfl,hi,p⟩
 have hq:=hl i σ H hi p
 by_cases cV:i<xs.length
 ·refine .inr ⟨⟨xs,xs[i],hq,by simp[cV]⟩,Pv (i+1),fun σ' H' p'=>⟨xs.length - (i+1),by omega,rfl,cV,p'⟩,fun x H' y=>?_⟩
  obtain ⟨T,z,hz,rfl,hn,rfl⟩:=y
  exact hs i z σ _ T (hz xs hq) p hn
 ·have e:i=xs.length:=by omega
  subst e
  exact .inl ⟨⟨xs,hq,rfl⟩,hd σ H p⟩
section
variable {X:Cx}
end
section
variable {X:Cx}
def KS (K:PySem.W.Frag):List V->Hp->VK->Prop:=fun xs H Q=> ∃p ys,xs=[.ref p]/\((br K H p ys/\ ∀l,H l=none->Q (.ref l) (upd H l (.tup ys)))\/(bV K H p ys/\Q (.ref p) H))
theorem dX (K:PySem.W.Frag) (h:X.K=K):cN X (.type "tuple") (KS K):=by subst h;exact qv
end
theorem kK {K:PySem.W.Frag} {a:Addr} {xs:List V} {σc:St} {g:TG} {tc:TT} {te:TE} {Q:VK} {H1:Hp} (Pv:Nat->List V->Hp->Prop) (hn:xs.length<sizeLine) (hl: ∀i acc H,Pv i acc H->bV K H a xs) (h0:Pv 0 [] H1)
  (hs: ∀(i:Nat) (x:V) (acc:List V) (H:Hp) (Nx:List V->Hp->Prop),i<xs.length->xs[i]? =some x->acc.length<=i->Pv i acc H->(∀eK H',eK.length<=i+1->Pv (i+1) eK H'->Nx eK H')->
   g x σc H fun σ2 H2=>Wk σc σ2/\tc σ2 H2 fun b H3=>if b=true then te σ2 H3 fun v H4=>Nx (acc++[v]) H4 else Nx acc H3)
  (hd: ∀acc H D,acc.length<=xs.length->Pv xs.length acc H->H D=none->Q (.ref D) (upd H D (.lst acc))):q0 (Mz K a) σc g tc te Q H1:=
 nR (xs:=fun i x=>xs[i]? =some x) Pv hn (fun i acc H h p=>⟨xs,xs[i],hl i acc H p,by simp[h]⟩) (fun acc H p=>⟨xs,hl _ acc H p,Q3 _⟩) (fun i acc H x H' h p y=>⟨y.1,y.2 xs (hl i acc H p)⟩) h0 hs hd
theorem Hd (l a b:Nat):MB (.str (S [l])) [.str (S [a]), .str (S [b])]=(decide (l=a)||decide (l=b)):=by
 have key: ∀c:Nat,GR (.str (S [c])) (.str (S [l]))=decide (l=c):=fun c=>by
  show decide (S [c]=S [l])=_
  refine decide_eq_decide.mpr ⟨fun z=>?_,fun z=>by rw[z]⟩
  have:=congrArg (fun x:Str=>x.cps.toList) z
  simpa [S,eq_comm]using this
 unfold MB
 rw[Qbe,Qbe,List.any_nil,key,key,Qct]
def ba (H H':Hp):Prop:= ∀c xs,H c=some (.tup xs)->H' c=some (.tup xs)
theorem ba.trans {H H1 H2:Hp} (a:ba H H1) (b:ba H1 H2):ba H H2:=fun c xs h=>b c xs (a c xs h)
theorem ba.of {H H':Hp} (s:ao H H'):ba H H':=fun c xs h=>s c _ h
theorem ba.yr {H:Hp} {p:Addr} {ys:List V} {o:HO} (h:H p=some (.lst ys)):ba H (upd H p o):=fun c xs e=>by
 rw[ay (fun z=>by rw[z,h]at e;cases e)];exact e
theorem ba.dY {H:Hp} {p:Addr} {o:HO} (h:H p=none):ba H (upd H p o):=fun c xs e=>by
 rw[ay (fun z=>by rw[z,h]at e;cases e)];exact e
section
variable {prog:Program} {w:World} {A:Around} {E:Value->Shared->Prop} {s:Shared}
theorem vG {cmp:Nat->Nat->(Bool->Shared->Prop)->Shared->Prop} {Q:Nat->Shared->Prop} {p:Array Nat} {s:Shared}: ∀f n,(∀k,n<=k->k<n+f-> ∀C:Bool->Shared->Prop,C false s->cmp (p.getD k 0) (p.getD (k - 1) 0) C s)->Q (n+f) s->(PySem.W.kas_asc p f n).kasWp cmp Q s
 | 0,n,_,q=>q
 | f+1,n,h,q=>by
  show cmp (p.getD n 0) (p.getD (n - 1) 0) (fun b s'=>(if b=true then PySem.W.KasT.ret n else PySem.W.kas_asc p f (n+1)).kasWp cmp Q s') s
  refine h n (Q3 _) (by omega) _ ?_
  show (if false=true then PySem.W.KasT.ret n else PySem.W.kas_asc p f (n+1)).kasWp cmp Q s
  rw[if_neg (by decide)]
  exact vG f (n+1) (fun k h1 h2=>h k (by omega) (by omega)) (by rwa [show n+1+f=n+(f+1) by omega])
theorem zW: ∀l:List Value,(l.zip l).map (fun x=>x.2)=l
 | []=>rfl
 | v::l=>by rw[List.zip_cons_cons,ZJ,zW l]
end
section
variable {X:Cx}
end
section
variable {prog:Program} {w:World} {A:Around} {E:Value->Shared->Prop} {s:Shared}
noncomputable def a_:List Int->List Int->Bool
 | [],[]=>false
 | [],_::_=>true
 | _::_,[]=>false
 | a::r,b::t=>if a=b then a_ r t else decide (a<b)
theorem oU: ∀{us:List Value} {ns:List Int},IntsAre us ns->us.length=ns.length
 | _,_, .nil=>rfl
 | _,_, .cons _ _ h=>congrArg (· +1) (oU h)
theorem rk: ∀(f n r:Nat),r<=1->minRun' f n r<=n+r
 | 0,n,r,_=>Q3 _
 | f+1,n,r,h=>by
  rw[minRun'_succ]
  split
  ·exact Q3 _
  ·have:=rk f (n / 2) (max r (n%2)) (by omega)
   omega
theorem DD {κ:SortKind} {it:Array Keyed} {n:Nat} {Q:Unit->SortSt->Shared->Prop} (h2:2<=n) (h: ∀k,1<=k->k<n-> ∀C:Bool->Shared->Prop,C false s->PySem.W.kas_cmp prog w A κ it k (k - 1) C s)
  (q: ∀lM:SortSt,arrOf lM=(List.toArray (List.range n)).map (PySem.W.kas_item it)->failedOf lM=none->Q () lM s):PySem.W.kasC (model prog w) A E sortRuns' Q (PySem.W.kas_st κ it (List.toArray (List.range n))) s:=by
 obtain ⟨r,rfl⟩: ∃r,n=r+2:=⟨n - 2,by omega⟩
 have get: ∀k,k<r+2->(List.toArray (List.range (r+2))).getD k 0=k:=fun k hk=>by simp[Array.getD,hk]
 have U7:(List.toArray (List.range (r+2))).size=r+2:=by simp
 rw[sortRuns'_eq]
 refine Qbl (Qea ?_);dsimp only
 have hsz:(arrOf (PySem.W.kas_st κ it (List.toArray (List.range (r+2))))).size=r+2:=by
  show ((List.toArray (List.range (r+2))).map (PySem.W.kas_item it)).size=_;rw[Array.size_map,U7]
 have WO:=rk (r+2) (r+2) 0 (by omega)
 simp only[hsz]
 generalize minRun' (r+2) (r+2) 0=mr at WO
 refine Qbl (PySem.W.kasC_range (show PySem.W.kasC _ _ _ (forIn (0::1::List.range' 2 r) _ _) _ _ _ from Qd3 ?_))
 dsimp only;rw[if_neg (by omega)]
 simp only[Qd4,Qcx]
 have hc:(PySem.W.kas_count (r+2) (List.toArray (List.range (r+2)))).kasWp (PySem.W.kas_cmp prog w A κ it) (fun x s'=>x=(r+2,List.toArray (List.range (r+2)))/\s'=s) s:=by
  unfold PySem.W.kas_count
  rw[PySem.W.KasT.kasWp_bind]
  refine vG (r+2 - 1) 1 (fun k h1 h3 C c=>?_) ?_
  ·rw[get k (by omega),get (k - 1) (by omega)]
   exact h k h1 (by omega) C c
  ·have e:1+(r+2 - 1)=r+2:=by omega
   rw[e,if_pos (by simp)]
   exact ⟨rfl,rfl⟩
 refine Qbl (PySem.W.kas_count_ (by omega) (by rw[U7];exact Q3 _) (fun m p' s' KU DE hp hg=>?_) hc)
 obtain ⟨e1,rfl⟩:=hg
 cases e1
 dsimp only;rw[if_neg (by omega)]
 refine Qbl (Qea ?_);rw[show (pendingOf (PySem.W.kas_st κ it (List.toArray (List.range (r+2))))).back? =none from rfl]
 dsimp only;refine Qbl (PySem.W.kasC_modify (Qc4 (show PySem.W.kasC _ _ _ (forIn (1::List.range' 2 r) _ _) _ _ _ from Qd3 ?_)))
 dsimp only;rw[if_pos (Q3 _)]
 refine Qc4 ?_;dsimp only
 refine Qbl (PySem.W.kasC_range (show PySem.W.kasC _ _ _ (forIn (0::1::List.range' 2 r) _ _) _ _ _ from Qd3 (Qbl (Qea ?_))))
 rw[if_pos (show (pendingOf (setPending (PySem.W.kas_st κ it (List.toArray (List.range (r+2)))) ((pendingOf (PySem.W.kas_st κ it (List.toArray (List.range (r+2))))).push (0,r+2,0)))).size<=1 from Q3 1)]
 refine Qc4 ?_;dsimp only
 exact Qc4 (q _ rfl rfl)
end
section
variable {X:Cx}
end
end L2
namespace HT
open PySem PySem.Spec PyProof.Rows
section
variable {prog:Program} {w:World} {A:Around} {E:Value->Shared->Prop} {s:Shared}
end
end HT
namespace L2
open PySem PySem.Spec PyProof.Rows
section
variable {X:Cx} {e st:Expr} {te:TE} {ts:TO} {pos p2:Pos}
end
section
variable {κ:Type} [DecidableEq κ]
noncomputable def dD (aP:List (κ×V)) (k:κ):Option V:=(aP.find? fun kv=>decide (kv.1=k)).map (·.2)
noncomputable def putK (aP:List (κ×V)) (k:κ) (v:V):List (κ×V):=
 if (aP.any fun kv=>decide (kv.1=k))=true then aP.map (fun kv=>if kv.1=k then (kv.1,v) else kv) else aP++[(k,v)]
theorem cO {p:κ×V} {r:List (κ×V)} {k:κ} (e:p.1=k):dD (p::r) k=some p.2:=by simp[dD,Qbk,e]
theorem cw {p:κ×V} {r:List (κ×V)} {k:κ} (e: ¬p.1=k):dD (p::r) k=dD r k:=by simp[dD,Qbk,e]
theorem iY (k:κ): ∀aP:List (κ×V),(aP.any fun kv=>decide (kv.1=k))=(dD aP k).isSome
 | []=>rfl
 | p::r=>by
  rw[Qbe]
  by_cases e:p.1=k
  ·simp only[cO e,decide_eq_true e,Bool.true_or,Option.isSome_some]
  ·rw[cw e,decide_eq_false e,Qd1];exact iY k r
theorem vH (k j:κ) (y:V): ∀aP:List (κ×V),dD (aP.map fun kv=>if kv.1=k then (kv.1,y) else kv) j=(dD aP j).map fun x=>if j=k then y else x
 | []=>rfl
 | p::r=>by
  have ih:=vH k j y r
  rw[ZJ]
  by_cases h:p.1=k
  ·rw[if_pos h]
   by_cases e:p.1=j
   ·rw[cO (p:=(p.1,y)) e,cO e,Qdm,if_pos (e.symm.trans h)]
   ·rw[cw (p:=(p.1,y)) e,cw e,ih]
  ·rw[if_neg h]
   by_cases e:p.1=j
   ·rw[cO (p:=p) e,cO e,Qdm,if_neg (fun z=>h (e.trans z))]
   ·rw[cw (p:=p) e,cw e,ih]
theorem rm (k j:κ) (y:V): ∀aP:List (κ×V),dD aP k=none->dD (aP++[(k,y)]) j=if j=k then some y else dD aP j
 | [],_=>by
  by_cases e:k=j
  ·rw[if_pos e.symm];exact cO (p:=(k,y)) e
  ·rw[if_neg (fun z=>e z.symm)];exact cw (p:=(k,y)) e
 | p::r,hn=>by
  rw[List.cons_append]
  have hk: ¬p.1=k:=fun z=>by rw[cO z]at hn;cases hn
  rw[cw hk]at hn
  have ih:=rm k j y r hn
  by_cases e:p.1=j
  ·rw[cO e,cO e,if_neg (fun z=>hk (e.trans z))]
  ·rw[cw e,cw e,ih]
theorem DF (aP:List (κ×V)) (k j:κ) (y:V):dD (putK aP k y) j=if j=k then some y else dD aP j:=by
 unfold putK
 by_cases a:(aP.any fun kv=>decide (kv.1=k))=true
 ·rw[if_pos a,vH]
  rw[iY]at a
  by_cases e:j=k
  ·obtain ⟨x,hx⟩:=Option.isSome_iff_exists.mp a
   rw[if_pos e,e,hx,Qdm,if_pos rfl]
  ·rw[if_neg e]
   cases dD aP j with
   | none=>rfl
   | some x=>rw[Qdm,if_neg e]
 ·rw[if_neg a]
  refine rm k j y aP ?_
  rw[iY]at a
  cases q:dD aP k with
  | none=>rfl
  | some x=>rw[q]at a;exact (a rfl).elim
theorem gj (aP:List (κ×V)) (k:κ) (v:V):(putK aP k v).length<=aP.length+1:=by
 unfold putK
 split
 ·rw[UX];omega
 ·rw[UY,ZQ,Qei];omega
theorem vI {aP:List (κ×V)} {k:κ} (v:V) (h:dD aP k=none):putK aP k v=aP++[(k,v)]:=by
 unfold putK
 rw[iY,h]
 exact if_neg (by decide)
theorem lS.Bz {o:Option V} {u:Option Value} (r:lS o u):o.isSome=u.isSome:=by
 cases o with
 | none=>cases u with
  | none=>rfl
  | some _=>exact (show False from r).elim
 | some _=>cases u with
  | none=>exact (show False from r).elim
  | some _=>rfl
theorem KV.val {aP:List (κ×V)} {vs:List (κ×Value)} (r:KV aP vs) (k:κ):lS (dD aP k) (valueAt vs k):=by
 unfold KV at r
 induction r with
 | nil=>exact True.intro
 | @cons p q ps qs h t ih=>
  obtain ⟨h1,h2⟩:=h
  by_cases e:p.1=k
  ·have e':q.1=k:=h1.symm.trans e
   have b:valueAt (q::qs) k=some q.2:=by simp[valueAt,Qbk,e']
   rw[cO e,b];exact h2
  ·have e': ¬q.1=k:=fun z=>e (h1.trans z)
   have b:valueAt (q::qs) k=valueAt qs k:=by simp[valueAt,Qbk,e']
   rw[cw e,b];exact ih
theorem KV.any {aP:List (κ×V)} {vs:List (κ×Value)} (r:KV aP vs) (k:κ):(aP.any fun kv=>decide (kv.1=k))=vs.any fun kv=>decide (kv.1=k):=by
 unfold KV at r
 induction r with
 | nil=>rfl
 | cons h t ih=>rw[Qbe,Qbe,ih,h.1]
theorem KV.KW {aP:List (κ×V)} {vs:List (κ×Value)} (r:KV aP vs) (k:κ) {y:V} {u:Value} (ry:RelV y u):
  KV (aP.map fun kv=>if kv.1=k then (kv.1,y) else kv) (vs.map fun kv=>if kv.1=k then (kv.1,u) else kv):=by
 unfold KV at r ⊢
 induction r with
 | nil=>exact .nil
 | @cons p q ps qs h t ih=>
  rw[ZJ,ZJ]
  refine .cons ?_ ih
  obtain ⟨h1,h2⟩:=h
  by_cases e:p.1=k
  ·rw[if_pos e,if_pos (h1.symm.trans e)];exact ⟨h1,ry⟩
  ·rw[if_neg e,if_neg (fun z=>e (h1.trans z))];exact ⟨h1,h2⟩
theorem KV.put {aP:List (κ×V)} {vs:List (κ×Value)} (r:KV aP vs) (k:κ) {y:V} {u:Value} (ry:RelV y u):KV (putK aP k y) (stored vs k u):=by
 unfold putK stored
 rw[r.any k]
 by_cases e:(vs.any fun kv=>decide (kv.1=k))=true
 ·rw[if_pos e,if_pos e];exact r.KW k ry
 ·rw[if_neg e,if_neg e];exact Paired.snoc r ⟨rfl,ry⟩
theorem KV.length {aP:List (κ×V)} {vs:List (κ×Value)} (r:KV aP vs):aP.length=vs.length:=Paired.length r
end
theorem DG {P:Program} {w:World} {k:Key} {u:Value} (r:RelV (kV k) u):(cB P w).is k u=true:=by
 cases k with
 | inl i=>obtain ⟨t,e⟩:=(show ∃t,u=Value.int i t from r);subst e;exact vd P w i t
 | inr x=>obtain ⟨t,e⟩:=(show ∃t,u=Value.str x t from r);subst e;exact ve P w x t
theorem rq {P:Program} {w:World}: ∀{ks:List Key} {us:List Value},Vals (ks.map kV) us->ItemsAre (cB P w) ks us
 | [],_,r=>by rw[List.map_nil]at r;cases r;exact .nil
 | k::ks,_,r=>by
  rw[ZJ]at r
  cases r with
  | cons h t=>exact .cons (DG h) (rq t)
abbrev KT (H:Hp):List (List Key×V)->List (List Key×Addr×Value)->Prop:=Paired fun p q=>p.1=q.1/\H q.2.1=some (.tup (p.1.map kV))/\RelV p.2 q.2.2
theorem KT.val {H:Hp} {aP:List (List Key×V)} {xs:List (List Key×Addr×Value)} (r:KT H aP xs) (k:List Key):lS (dD aP k) ((atKey xs k).map (·.2)):=by
 induction r with
 | nil=>exact True.intro
 | @cons p q ps qs h t ih=>
  obtain ⟨h1,_,h2⟩:=h
  by_cases e:p.1=k
  ·have e':q.1=k:=h1.symm.trans e
   have b:atKey (q::qs) k=some q.2:=by simp[atKey,Qbk,e']
   rw[cO e,b];exact h2
  ·have e': ¬q.1=k:=fun z=>e (h1.trans z)
   have b:atKey (q::qs) k=atKey qs k:=by simp[atKey,Qbk,e']
   rw[cw e,b];exact ih
theorem KT.KW {H:Hp} {aP:List (List Key×V)} {xs:List (List Key×Addr×Value)} (r:KT H aP xs) (k:List Key) {y:V} {u:Value} (ry:RelV y u):
  KT H (aP.map fun kv=>if kv.1=k then (kv.1,y) else kv) (xs.map (putAt k u)):=by
 induction r with
 | nil=>exact .nil
 | @cons p q ps qs h t ih=>
  rw[ZJ,ZJ]
  refine .cons ?_ ih
  obtain ⟨h1,h2,h3⟩:=h
  unfold putAt
  by_cases e:p.1=k
  ·rw[if_pos e,if_pos (h1.symm.trans e)];exact ⟨h1,h2,ry⟩
  ·rw[if_neg e,if_neg (fun z=>e (h1.trans z))];exact ⟨h1,h2,h3⟩
theorem KT.put {H:Hp} {aP:List (List Key×V)} {xs:List (List Key×Addr×Value)} (r:KT H aP xs) (k:List Key) {b:Addr} {y:V} {u:Value} (hb:H b=some (.tup (k.map kV))) (ry:RelV y u):
  KT H (putK aP k y) (storedH xs k b u):=by
 have e:(aP.any fun kv=>decide (kv.1=k))=(atKey xs k).isSome:=by
  rw[iY,(r.val k).Bz,Option.isSome_map]
 unfold putK storedH
 rw[e]
 by_cases q:(atKey xs k).isSome=true
 ·rw[if_pos q,if_pos q];exact r.KW k ry
 ·rw[if_neg q,if_neg q];exact Paired.snoc r ⟨rfl,hb,ry⟩
theorem KT.keeps {H H':Hp} {aP:List (List Key×V)} {xs:List (List Key×Addr×Value)} (r:KT H aP xs) (ht: ∀b ys,H b=some (.tup ys)->H' b=some (.tup ys)):KT H' aP xs:=
 Paired.JY r fun _ _ z=>⟨z.1,ht _ _ z.2.1,z.2.2⟩
section
variable {P:Program} {w:World} {H:Hp} {h:Heap} {a:Addr}
theorem Jo {u:HO} (ok:j6 P w H h) (e:Rd H a u):bZ P w H h a u:=e.ok ok
theorem DH {aP:List (Key×V)} (ok:j6 P w H h) (e:Rd H a (.dK aP)):aP.length<=sizeLine/\(a==sysModules)=false/\ ∃vs,KV aP vs/\h.DictOf (cB P w) a vs:=
 show bZ P w H h a (.dK aP) from Jo ok e
theorem PH {aP:List (Key×V)} (ok:j6 P w H h) (e:H a=some (.dK aP)):aP.length<=sizeLine/\(a==sysModules)=false/\ ∃vs,KV aP vs/\h.DictOf (cB P w) a vs:=DH ok (.inl e)
theorem yt {ks:List Key} (ok:j6 P w H h) (e:H a=some (.tup (ks.map kV))):(tupleKind (cB P w)).is h ks a:=by
 obtain ⟨_,aJ,r,o,h1,h2,n,h3⟩:=(show bZ P w H h a (.tup (ks.map kV)) from ok a _ e)
 exact ⟨o,aJ.toArray,n,h1,h2,h3,by simpa using rq r⟩
theorem DI {aP:List (List Key×V)} (ok:j6 P w H h) (e:Rd H a (.dT aP)):aP.length<=sizeLine/\(a==sysModules)=false/\
  ∃xs,KT H aP xs/\h.DictOfH (tupleKind (cB P w)) a xs:=by
 obtain ⟨z,y,xs,r,o,es,ep,h1,h2,h3,h4,h5⟩:=(show bZ P w H h a (.dT aP) from Jo ok e)
 refine ⟨z,y,xs,r,o,es,ep,h1,h2,h3,h4,fun x hx=>?_,h5⟩
 have all: ∀{l:List (List Key×V)} {m:List (List Key×Addr×Value)},KT H l m-> ∀x∈m,(tupleKind (cB P w)).is h x.1 x.2.1:=by
  intro l m q
  induction q with
  | nil=>intro x hx;exact nomatch hx
  | @cons p q ps qs hq t ih=>
   intro x hx
   rcases Y5.mp hx with e | hx
   ·subst e
    exact yt ok (by rw[<-hq.1];exact hq.2.1)
   ·exact ih x hx
 exact all r x hx
theorem PJ {aP:List (List Key×V)} (ok:j6 P w H h) (e:H a=some (.dT aP)):aP.length<=sizeLine/\(a==sysModules)=false/\
  ∃xs,KT H aP xs/\h.DictOfH (tupleKind (cB P w)) a xs:=DI ok (.inl e)
end
def oV (H:Hp) (a:Addr) (y:V) (r:Option V):Prop:=
 (∃aP k,Rd H a (.dK aP)/\y=kV k/\r=dD aP k)\/ ∃aP k b,Rd H a (.dT aP)/\y= .ref b/\H b=some (.tup (k.map kV))/\r=dD aP k
def tK (H:Hp) (a:Addr) (y v:V) (H':Hp):Prop:=
 (∃aP k,H a=some (.dK aP)/\y=kV k/\aP.length<sizeLine/\H'=upd H a (.dK (putK aP k v)))\/
 ∃aP k b,H a=some (.dT aP)/\y= .ref b/\H b=some (.tup (k.map kV))/\aP.length<sizeLine/\H'=upd H a (.dT (putK aP k v))
theorem oV.k {H:Hp} {a:Addr} {aP:List (Key×V)} {k:Key} (e:H a=some (.dK aP)):oV H a (kV k) (dD aP k):= .inl ⟨aP,k, .inl e,rfl,rfl⟩
theorem oV.t {H:Hp} {a b:Addr} {aP:List (List Key×V)} {k:List Key} (e:H a=some (.dT aP)) (eb:H b=some (.tup (k.map kV))):oV H a (.ref b) (dD aP k):= .inr ⟨aP,k,b, .inl e,rfl,eb,rfl⟩
theorem tK.k {H:Hp} {a:Addr} {aP:List (Key×V)} {k:Key} {v:V} (e:H a=some (.dK aP)) (hl:aP.length<sizeLine):tK H a (kV k) v (upd H a (.dK (putK aP k v))):= .inl ⟨aP,k,e,rfl,hl,rfl⟩
theorem tK.t {H:Hp} {a b:Addr} {aP:List (List Key×V)} {k:List Key} {v:V} (e:H a=some (.dT aP)) (eb:H b=some (.tup (k.map kV))) (hl:aP.length<sizeLine):
  tK H a (.ref b) v (upd H a (.dT (putK aP k v))):= .inr ⟨aP,k,b,e,rfl,eb,hl,rfl⟩
section
variable {X:Cx} {pins:List (Addr×Obj)} {σ:St} {H:Hp} {s:Shared} {a:Addr} {y v:V} {u r:Value} {o:Option V} {A:Around} {E:Value->Shared->Prop}
theorem Inv.big (I:Inv X pins σ H s):sysModules<s.heap.objs.size:=by
 have h:mainGlobals<s.heap.objs.size:=(I.mod.glob.keeps I.bk).lt
 exact Qcy (by decide) h
theorem BA {Q:Value->Shared->Prop} (hu:A.units+1<cLine) (I:Inv X pins σ H s) (g:oV H a y (some v)) (ry:RelV y u) (h: ∀w' s',Inv X pins σ H s'->RelV v w'->Q w' s'):
  wpAny (model X.prog X.w) A (getItem (.ref a) u) Q E s:=by
 rcases g with ⟨aP,k,e,ey,l⟩ | ⟨aP,k,b,e,ey,eb,l⟩
 ·subst ey
  obtain ⟨z,hd,vs,rel,dd⟩:=DH I.bW e
  obtain ⟨w',hw,sR⟩:=lS.some_of (v:=v) (o:=valueAt vs k) (by rw[l];exact rel.val k)
  exact wpAny_getItem_of (DG ry) dd.mapOf hw (h w' _ (I.tok _) sR)
 ·subst ey
  cases (show u=Value.ref b from ry)
  obtain ⟨z,hd,xs,rel,dd⟩:=DI I.bW e
  obtain ⟨w',hw,sR⟩:=lS.some_of (v:=v) (o:=(atKey xs k).map (·.2)) (by rw[l];exact rel.val k)
  obtain ⟨p,hp,oW⟩:=Qdj.mp hw
  refine wpAny_getItem_heap (tupleKind_room_in1 hu) (yt I.bW eb) dd hp ?_
  rw[oW]
  exact h w' _ (I.tok _) sR
theorem zX {h':Heap} {t':Nat} {ob:HO} (I:Inv X pins σ H s) (mu:Oi (H a)) (hs:Heap.SameBut a s.heap h') (he: ∃q,h'.get? a=some q) (new:bZ X.prog X.w (upd H a ob) h' a ob):
  Inv X pins σ (upd H a ob) { s with heap:=h',toks:=t' }:=
 I.write (x:=a) (e:=a) mu (.inl rfl) (fun b q hb z=>(hs.2 b hb).trans z) he new
theorem KY {P:Program} {w:World} {H':Hp} {h':Heap} {aP:List (Key×V)} {vs:List (Key×Value)} (z:aP.length<=sizeLine) (hd:(a==sysModules)=false) (rel:KV aP vs) (dd:h'.DictOf (cB P w) a vs):
  bZ P w H' h' a (.dK aP):=⟨z,hd,vs,rel,dd⟩
theorem BB {H':Hp} {Q:Unit->Shared->Prop} (hu:A.units+1<cLine) (I:Inv X pins σ H s) (g:tK H a y v H') (ry:RelV y u) (rv:RelV v r) (h: ∀s',Inv X pins σ H' s'->Q () s'):
  wpAny (model X.prog X.w) A (setItem (.ref a) u r) Q E s:=by
 rcases g with ⟨aP,k,e,ey,l,eH⟩ | ⟨aP,k,b,e,ey,eb,l,eH⟩
 ·subst ey eH
  obtain ⟨z,hd,vs,rel,dd⟩:=PH I.bW e
  have hz:vs.length<=sizeLine:=by rw[<-rel.length];exact z
  have hl:(putK aP k v).length<=sizeLine:=by have:=gj aP k v;omega
  refine wpAny_setItem_pairs (hsz:=hz) (DG ry) dd fun h' Q7 hs=>h _ ?_
  have he: ∃q,h'.get? a=some q:=let ⟨q,_,_,hq,_⟩:=Q7;⟨q,hq⟩
  exact zX I (by rw[e];exact True.intro) hs he (KY hl hd (rel.put k rv) Q7)
 ·subst ey eH
  cases (show u=Value.ref b from ry)
  obtain ⟨z,hd,xs,rel,dd⟩:=PJ I.bW e
  have hz:xs.length<=sizeLine:=by rw[<-Paired.length rel];exact z
  have hl:(putK aP k v).length<=sizeLine:=by have:=gj aP k v;omega
  refine wpAny_setItem_heap (hsz:=hz) (tupleKind_room_in1 hu) (yt I.bW eb) dd fun h' Q7 hs=>h _ ?_
  obtain ⟨q,es,ep,hq,h2,h3,h4,_,h5⟩:=Q7
  refine zX I (by rw[e];exact True.intro) hs ⟨q,hq⟩ ⟨hl,hd,_,(rel.put k eb rv).keeps fun c ys ec=>?_,q,es,ep,hq,h2,h3,h4,h5⟩
  rw[ay (Oh ec e (fun z=>nomatch z))]
  exact ec
end
section
variable {X:Cx} {pins:List (Addr×Obj)} {σ:St} {H:Hp} {s:Shared} {a:Addr} {aP:List (Key×V)} {k:Key} {u:Value} {A:Around} {E:Value->Shared->Prop}
end
def PK (i:Expr):Prop:= ∀ov iv,subscripted i false ov iv=operate [ov,iv] (getItem ov iv)
theorem He {prog:Program} {w:World} {A:Around} {E:Value->Shared->Prop} {s:Shared} {env:Env} {value slice:Expr} {pos:Pos} {T id:String} {Q:Value->Shared->Prop}
  (hl:typeLookup (.type T) "__getitem__"=pure (some (.builtin id))) (hs:PK slice)
  (h:wpAny (model prog w) A (eval value env) (fun o s₁=>wpAny (model prog w) A (eval slice env) (fun i s₂=>s₂.TypeIs o T/\wpAny (model prog w) A (getItem o i) Q E s₂) E s₁) E s):
  wpAny (model prog w) A (eval (.Subscript value slice pos) env) Q E s:=by
 refine Subscript_ (wpAny_mono h (fun o s₁ h₁=>wpAny_mono h₁ (fun i s₂ h₂=>?_) fun _ _ x=>x) fun _ _ x=>x)
 obtain ⟨hT,h₂⟩:=h₂
 unfold subscriptTail
 refine wpAny_bind ?_
 rw[getitemInPython_of_ne hT.not_modules]
 refine wpAny_bind (wpAny_specialOf hT hl ?_)
 have fin:wpAny (model prog w) A (subscripted slice false o i) (fun r s₃=>wpAny (model prog w) A (letTemporaryGo value o r >>= fun _=>pure r) Q E s₃) E s₂:=by
  rw[hs o i]
  exact wpAny_operating (wpAny_mono h₂ (fun r s₃ h₃=>wpAny_bind (wpAny_letTemporaryGo (wpAny_pure h₃))) fun _ _ x=>x)
 first
  | exact wpAny_pure (wpAny_bind fin)
  | exact wpAny_bind (wpAny_pure (wpAny_bind fin))
  | exact wpAny_bind fin
theorem vJ {X:Cx} {pins:List (Addr×Obj)} {σ:St} {H:Hp} {s:Shared} {a:Addr} {y:V} {o:Option V} (I:Inv X pins σ H s) (g:oV H a y o):s.TypeIs (.ref a) "dict":=by
 rcases g with ⟨aP,k,e,_,_⟩ | ⟨aP,k,b,e,_,_,_⟩
 ·obtain ⟨_,_,vs,_,dd⟩:=DH I.bW e
  exact dd.typeIs
 ·obtain ⟨_,_,xs,_,dd⟩:=DI I.bW e
  exact dd.typeIs
def PL (td ty:TE):TE:=fun σ H Q=>td σ H fun x H1=>ty σ H1 fun y H2=> ∃a v,x= .ref a/\oV H2 a y (some v)/\Q v H2
def PM (td ty tv:TE):TS:=fun D σ H=>tv σ H fun v H1=>td σ H1 fun x H2=>ty σ H2 fun y H3=> ∃a H4,x= .ref a/\tK H3 a y v H4/\D.nx σ H4
section
variable {X:Cx} {o i e value:Expr} {pos pos' OP:Pos} {td ty tv:TE}
theorem nU (hu:X.A.units+1<cLine) (ho:PE X o td) (hi:PE X i ty) (hs:PK i):PE X (.Subscript o i pos) (PL td ty):=by
 intro pins s σ H Q I h
 refine He PySem.F.slot_dict_getitem.lookup hs (cg (ho pins s σ H _ I h) fun u s1 ⟨x,H1,I1,rx,q1⟩=>cg (hi pins s1 σ H1 _ I1 q1) fun iv s2 ⟨y,H2,I2,ry,a,v,ex,g,q2⟩=>?_)
 subst ex
 obtain rfl:u=Value.ref a:=rx
 exact ⟨vJ I2 g,BA hu I2 g ry fun w' s3 I3 sR=>⟨v,H2,I3,sR,q2⟩⟩
theorem tL (hu:X.A.units+1<cLine) (ho:PE X o td) (hi:PE X i ty) (hv:PE X value tv) (hs:swapsWith value (some (.Subscript o i pos')) pos.line X.env=pure false):
  PS X (.Assign [.Subscript o i pos'] value pos) (PM td ty tv):=by
 intro pins s σ H D I h
 refine wpAny_Assign_Subscript (cg (hv pins s σ H _ I h) fun r s1 ⟨v,H1,I1,rv,q1⟩=>cg (ho pins s1 σ H1 _ I1 q1) fun u s2 ⟨x,H2,I2,rx,q2⟩=>cg (hi pins s2 σ H2 _ I2 q2) fun iv s3 ⟨y,H3,I3,ry,a,H4,ex,g,q3⟩=>?_) hs
 subst ex
 obtain rfl:u=Value.ref a:=rx
 exact BB hu I3 g ry rv fun s4 I4=>⟨σ,H4,I4,q3⟩
end
theorem DJ {P:Program} {w:World} {H:Hp} (h:Heap) (hb:sysModules<h.objs.size):bZ P w H (h.push { cls:= .type "dict",data:= .dict #[] }) h.objs.size (.dK []):=
 ⟨Y6 _,beq_eq_false_iff_ne.mpr (Ne.symm (ZH hb)),[], .nil,Heap.DictOf.new h⟩
theorem DK {P:Program} {w:World} {H:Hp} (h:Heap) (hb:sysModules<h.objs.size):bZ P w H (h.push { cls:= .type "dict",data:= .dict #[] }) h.objs.size (.dT []):=
 ⟨Y6 _,beq_eq_false_iff_ne.mpr (Ne.symm (ZH hb)),[], .nil,_, #[],0,ZF _ rfl,⟨rfl,rfl,rfl⟩,rfl,rfl,Qdv⟩
def KZ:TE:=fun _ H Q=> ∀p,H p=none->Q (.ref p) (upd H p (.dK []))
def K0:TE:=fun _ H Q=> ∀p,H p=none->Q (.ref p) (upd H p (.dT []))
section
variable {X:Cx} {pos:Pos}
theorem DL:PE X (.Dict [] [] pos) KZ:=fun pins s σ H Q I h=>
 wpAny_Dict_empty ⟨.ref s.heap.objs.size,_,I.laid (a:=s.heap.objs.size) (o:= .dK []) (t':=s.toks) (fun _ _ q=>MD _ q) (Q3 _) (DJ s.heap I.big),rfl,h _ (I.bW.fresh (Q3 _))⟩
theorem DM:PE X (.Dict [] [] pos) K0:=fun pins s σ H Q I h=>
 wpAny_Dict_empty ⟨.ref s.heap.objs.size,_,I.laid (a:=s.heap.objs.size) (o:= .dT []) (t':=s.toks) (fun _ _ q=>MD _ q) (Q3 _) (DK s.heap I.big),rfl,h _ (I.bW.fresh (Q3 _))⟩
end
section
variable {X:Cx} {pins:List (Addr×Obj)} {σ:St} {H:Hp} {s:Shared} {a:Addr} {y d:V} {u r:Value} {o:Option V} {A:Around} {E:Value->Shared->Prop}
end
section
variable {X:Cx} {o e f:Expr} {apos iH:Pos} {td ty tx:TE}
end
section
variable {X:Cx} {pins:List (Addr×Obj)} {σ:St} {H:Hp} {s:Shared} {a:Addr} {aP:List (Key×V)} {A:Around} {E:Value->Shared->Prop}
end
section
variable {X:Cx} {pins:List (Addr×Obj)} {σ:St} {H:Hp} {s:Shared} {a:Addr} {y:V} {u:Value} {A:Around} {E:Value->Shared->Prop}
end
section
variable {prog:Program} {w:World} {A:Around} {E:Value->Shared->Prop} {s:Shared}
end
section
variable {X:Cx}
end
end L2
set_option maxHeartbeats 1000000
namespace L2
open PySem PySem.Spec PyProof.Rows
section
variable {prog:Program} {w:World} {KK:Type} [DecidableEq KK] {knd:KeyKind prog w KK}
end
section
variable {X:Cx}
end
end L2
set_option maxHeartbeats 1000000
namespace L2.F2
open PySem PySem.Spec PyProof.Rows
end L2.F2
namespace L2
open PySem PySem.Spec PyProof.Rows
section
variable {prog:Program} {w:World} {A:Around} {E:Value->Shared->Prop} {s:Shared}
end
section
variable {X:Cx}
end
end L2
set_option maxHeartbeats 1000000
namespace L2
open PySem PySem.Spec PyProof.Rows
section
variable {prog:Program} {w:World} {A:Around} {E:Value->Shared->Prop} {s:Shared}
end
section
variable {X:Cx}
end
end L2
set_option maxHeartbeats 2000000
namespace L2
open PySem PySem.Spec PyProof.Rows
noncomputable def iZ (a b c d:Int):Bool:=if a=c then decide (b<d) else decide (a<c)
section
variable {prog:Program} {w:World} {A:Around} {E:Value->Shared->Prop} {s:Shared}
theorem Hf {p q:Addr} {ox oy:Obj} {mx my:Nat} {a b c d:Int} {t1 t2 t3 t4:Tok} {P:PySem.Fin->Shared->Prop} (Q8:s.heap.get? p=some ox) (Tf:ox.data= .seq #[.int a t1, .int b t2] mx)
  (PN:s.heap.get? q=some oy) (zY:oy.cls= .type "tuple") (Tg:oy.data= .seq #[.int c t3, .int d t4] my) (h:P (.done (.ret (.bool (iZ a b c d)))) s):
  wpAny (model prog w) A (Builtin.«tuple.__lt__» ⟨[.ref p, .ref q],[]⟩) P E s:=by
 have hT:s.TypeIs (.ref q) "tuple":=⟨oy,PN,zY⟩
 show wpAny _ _ (isInstance (.ref q) (.type "tuple") >>= fun b=>_) _ _ s
 refine wpAny_bind (wpAny_isInstance (b:=true) hT isSubtype_tuple_tuple ?_)
 simp only[Qd0,Qbh,if_false]
 refine wpAny_bind (wpAny_tupleItemsOf Q8 Tf ?_)
 refine wpAny_bind (wpAny_tupleItemsOf PN Tg ?_)
 refine wpAny_bind ?_
 show wpAny _ _ (forIn [(Value.int a t1,Value.int c t3),(Value.int b t2,Value.int d t4)] _ _) _ _ _
 rw[Qcv]
 refine wpAny_bind (wpAny_bind (wpAny_eqBool_int ?_))
 unfold iZ at h
 by_cases e:a=c
 ·rw[if_pos e]at h
  rw[show (a==c)=true by simp[e]]
  simp only[Qd0,Qbh,if_false]
  refine wpAny_pure ?_
  dsimp only
  rw[Qcv]
  refine wpAny_bind (wpAny_bind (wpAny_eqBool_int ?_))
  by_cases e2:b=d
  ·rw[show (b==d)=true by simp[e2]]
   simp only[Qd0,Qbh,if_false]
   refine wpAny_pure ?_
   dsimp only
   rw[List.forIn_nil]
   refine wpAny_pure ?_
   dsimp only
   refine wpAny_pure ?_
   rw[decide_eq_false (by omega)]at h
   exact h
  ·rw[show (b==d)=false by simp[e2]]
   simp only[Bool.not_false,if_true]
   refine wpAny_bind (wpAny_rule ?_)
   refine wpAny_bind (lt_int ?_)
   refine wpAny_bind (wpAny_pure ?_)
   refine wpAny_pure ?_
   dsimp only
   refine wpAny_pure ?_
   dsimp only
   exact wpAny_pure h
 ·rw[if_neg e]at h
  rw[show (a==c)=false by simp[e]]
  simp only[Bool.not_false,if_true]
  refine wpAny_bind (wpAny_rule ?_)
  refine wpAny_bind (lt_int ?_)
  refine wpAny_bind (wpAny_pure ?_)
  refine wpAny_pure ?_
  dsimp only
  refine wpAny_pure ?_
  dsimp only
  exact wpAny_pure h
end
section
variable {X:Cx}
def Th (K:PySem.W.Frag):R2:=fun x y H Q=> ∃p q a b c d,x= .ref p/\y= .ref q/\bV K H p [.int a, .int b]/\bV K H q [.int c, .int d]/\Q (.bl (iZ a b c d)) H
theorem vK {a b:Int} {us:List Value} (r:Vals [.int a, .int b] us): ∃t u,us=[.int a t, .int b u]:=by
 cases r with
 | cons r1 r=>
  cases r with
  | cons r2 r=>
   cases r
   obtain ⟨t,rfl⟩:=r1
   obtain ⟨u,rfl⟩:=r2
   exact ⟨t,u,rfl⟩
theorem tM {k:Nat} (K:PySem.W.Frag) (h:X.K=K) (hr:eY k X.A):js X (compareOp .Lt) (Th K):=by
 subst h
 intro pins s σ H x y v u Q I rx ry h
 obtain ⟨p,q,a,b,c,d,rfl,rfl,hp,hq,r⟩:=h
 cases rx
 cases ry
 obtain ⟨xs,WQ,px,_⟩:=I.tuple hp
 obtain ⟨ys,WR,py,_⟩:=I.tuple hq
 obtain ⟨ox,Q8,Ta,mx,Tf⟩:=px
 obtain ⟨oy,PN,zY,my,Tg⟩:=py
 obtain ⟨t1,t2,rfl⟩:=vK WQ
 obtain ⟨t3,t4,rfl⟩:=vK WR
 have hu:=hr.units
 show wpAny _ _ (richCompare .Lt (.ref p) (.ref q)) _ _ s
 have hT:s.TypeIs (.ref p) "tuple":=⟨ox,Q8,Ta⟩
 refine wpAny_richCompare_same_room hT ⟨oy,PN,zY⟩ PySem.F.slot_tuple_lt (wpAny_call_entry PySem.F.slot_tuple_lt hT PySem.F.entry_tuple_lt (Hf Q8 Tf PN zY Tg ⟨_,rfl,(fun z=>nomatch z),?_⟩) (PySem.F.args_tuple_lt_2 _ _)) (by omega)
 exact ⟨.bl _,H,I,rfl,r⟩
end
noncomputable def dd {α:Type} [DecidableEq α]:List α->List α->List α
 | σ,[]=>σ
 | σ,x::l=>dd (if x∈σ then σ else σ++[x]) l
theorem tN {α:Type} [DecidableEq α]: ∀(l σ:List α),(dd σ l).length<=σ.length+l.length
 | [],σ=>Q3 _
 | x::l,σ=>by
  unfold dd
  have:=tN l (if x∈σ then σ else σ++[x])
  split at this<;>rename_i z
  ·rw[if_pos z,ZQ];omega
  ·rw[if_neg z,ZQ];rw[UY]at this;simp at this ⊢; omega
theorem DN {α:Type} [DecidableEq α]: ∀(l σ:List α),(dd σ l).length=σ.length+l.length↔l.Nodup/\ ∀x∈l,x∉σ
 | [],σ=>by simp[dd]
 | x::l,σ=>by
  unfold dd
  by_cases z:x∈σ
  ·rw[if_pos z]
   have:=tN l σ
   rw[ZQ]
   exact ⟨fun h=>by omega,fun h=>absurd z (h.2 x Zy)⟩
  ·rw[if_neg z,ZQ]
   have h1:=DN l (σ++[x])
   rw[UY,List.length_singleton,show σ.length+1+l.length=σ.length+(l.length+1) by omega]at h1
   rw[h1,Z6]
   constructor
   ·rintro ⟨g1,g2⟩
    refine ⟨⟨fun q=>g2 x q (by simp),g1⟩,fun u hu=>?_⟩
    rcases Y5.mp hu with q | q
    ·rw[q];exact z
    ·exact fun q2=>g2 u q (Qa9 _ q2)
   ·rintro ⟨⟨g1,g2⟩,g3⟩
    refine ⟨g2,fun u hu q=>?_⟩
    rcases Zz.mp q with q | q
    ·exact g3 u (Y4 _ hu) q
    ·rw[UZ.mp q]at hu;exact g1 hu
theorem zZ {α:Type} [DecidableEq α]: ∀(l σ:List α) (x:α),dd σ (l++[x])=if x∈dd σ l then dd σ l else dd σ l++[x]
 | [],σ,x=>rfl
 | y::l,σ,x=>zZ l _ x
section
variable {prog:Program} {w:World} {A:Around} {E:Value->Shared->Prop} {s:Shared}
abbrev oX (prog:Program) (w:World) (h:Heap) (a:Addr) (l:List Str):Prop:=h.SetOf (strKind prog w) a (fun k=>decide (k∈dd [] l)) (dd [] l).length
theorem oX.frame {h h':Heap} {a:Addr} {l:List Str} (x:oX prog w h a l) (k: ∀o,h.get? a=some o->h'.get? a=some o):oX prog w h' a l:=by
 obtain ⟨o,es,ep,t,ho,r⟩:=x
 exact ⟨o,es,ep,t,k o ho,r⟩
theorem DO {R:Result->Shared->Prop} {I S:Addr} {fp wr:List Addr} {G:Array GenState->Array GenState->Prop} {P:Nat->Value->Prop} {St:Nat->Shared->Prop} {l:List Str}
  (W:WalksS prog w A.in1 I fp wr G l.length P St) (hS:S∉fp) (hP: ∀i v,P i v-> ∃x t,l[i]? =some x/\v= .str x t) (hb:l.length+1<scanBound):
  ∀(k i:Nat) (s:Shared),l.length - i=k->i<=l.length->St i s->oX prog w s.heap S (l.take i)->(∀s',Moved (S::wr) G s s'->oX prog w s'.heap S l->R (.ok (.ret .none)) s')->
   codeAny (model prog w) A (.builtin "set.update.loop" ⟨[.ref S, .ref I],[]⟩) R s:=by
 have U8:S∉wr:=fun h=>hS (W.sub _ h)
 have Jp: ∀b∈wr,b∈S::wr:=fun b g=>Y4 _ g
 intro k
 induction k with
 | zero=>
  intro i s hk hi kx qz hR
  obtain rfl:i=l.length:=by omega
  rw[Qad]at qz
  refine codeAny_builtin PyProof.Rows.F.entry_set_update_loop ?_
  rw[Around.under_plainId Qb4 _]
  show wpAny _ A.in1 (pyNext (.ref I) >>= fun r=>_) _ _ s
  refine wpAny_bind (W.done s _ _ kx fun s' hm=>?_)
  exact wpAny_pure (hR s' (hm.mono Jp) (qz.frame fun o ho=>hm.heap S o U8 ho))
 | succ k ih=>
  intro i s hk hi kx qz hR
  have cV:i<l.length:=by omega
  refine codeAny_builtin PyProof.Rows.F.entry_set_update_loop ?_
  rw[Around.under_plainId Qb4 _]
  show wpAny _ A.in1 (pyNext (.ref I) >>= fun r=>_) _ _ s
  refine wpAny_bind (W.item i s _ _ cV kx fun v s' hp Ti hm=>?_)
  obtain ⟨x,t,hx,rfl⟩:=hP i v hp
  have PQ:oX prog w s'.heap S (l.take i):=qz.frame fun o ho=>hm.heap S o U8 ho
  show wpAny _ A.in1 (holding [Value.str x t] (setAdd S (.str x t)) >>= fun b=>_) _ _ s'
  refine wpAny_bind (wpAny_holding ?_)
  unfold setAdd
  refine wpAny_holding (wpAny_bind ((strKind prog w).pyHash (k:=x) (by simp[PySem.strKind,Value.isStrOf]) ?_))
  have hle:=tN (l.take i) ([]:List Str)
  rw[ZD]at hle
  refine wpAny_setAddHashed_of (knd:=strKind prog w) (s:={ s' with toks:=s'.toks+1 }) (k:=x) (by simp[PySem.strKind,Value.isStrOf]) rfl PQ (by simp at hle;omega) fun h' PR PU=>?_
  have PV:oX prog w h' S (l.take (i+1)):=by
   have e1:l.take (i+1)=l.take i++[x]:=by rw[Qc6,hx];rfl
   unfold oX
   rw[e1,zZ]
   refine PyProof.Rows.SetOf_congr PU (fun y=>?_) ?_
   ·by_cases z:x∈dd [] (l.take i)
    ·rw[if_pos z]
     by_cases u:y=x
     ·rw[u,decide_eq_true z,Bool.true_or]
     ·rw[decide_eq_false u,Qct]
    ·rw[if_neg z]
     by_cases u:y=x
     ·rw[u,decide_eq_true (show x=x from rfl),Bool.or_true,decide_eq_true (by simp)]
     ·rw[decide_eq_false u,Qct]
      exact decide_eq_decide.mpr ⟨fun q=>Qa9 _ q,fun q=>(Zz.mp q).resolve_right fun q=>u (UZ.mp q)⟩
   ·by_cases z:x∈dd [] (l.take i)
    ·rw[if_pos z,if_pos (decide_eq_true z)]
    ·rw[if_neg z,if_neg (by simpa using z),UY];rfl
  refine wpAny_pure ⟨plainId_quiet Qb4 _,ih (i+1) _ (by omega) cV (W.frame _ s' _ _ Ti (Qbc _) fun b g o e=>?_) PV fun OV Tj Tn=>?_⟩
  ·rw[PR.2 b fun z:b=S=>hS (z▸g)];exact e
  ·refine hR OV (Moved.trans W.gtrans ((hm.mono Jp).then_heap (Qbc _) fun b o g e=>?_) Tj) Tn
   rw[PR.2 b fun z:b=S=>g (z▸Zy)];exact e
end
section
variable {prog:Program} {w:World} {A:Around} {E:Value->Shared->Prop} {s:Shared}
theorem rz: ∀{vs:List Value} {xs:List Str},StrsAre vs xs-> ∀(i:Nat) (v:Value),vs[i]? =some v-> ∃x t,xs[i]? =some x/\v= .str x t
 | _,_, .nil,i,v,h=>by simp at h
 | _,_, .cons y t r,0,v,h=>by simp at h;exact ⟨y,t,rfl,h.symm⟩
 | _,_, .cons y t r,i+1,v,h=>by
  obtain ⟨x,u,e1,e2⟩:=rz r i v (by simpa using h)
  exact ⟨x,u,by simpa using e1,e2⟩
noncomputable def tP (led:Bool):Obj:={ cls:= .type "set",dict:=none,data:= .set #[] 0 (.fresh 0 0 led) }
theorem DP {R:Result->Shared->Prop} {l S:Addr} {items:Array Value} {xs:List Str} {led:Bool} (hh:A.handled=none) (hS:s.heap.get? S=some (tP led)) (hl:s.heap.IsList l items) (hi:StrsAre items.toList xs) (hb:xs.length+1<scanBound)
  (h: ∀(h':Heap) (tk:Nat),oX prog w h' S xs->(∀b o,b≠S->b<s.heap.objs.size->s.heap.get? b=some o->h'.get? b=some o)->R (.ok (.ret .none)) { s with heap:=h',toks:=tk }):
  wpAny (model prog w) A.in1 (Builtin.«set.__init__» ⟨[.ref S, .ref l],[]⟩) (fun fin s'=>match fin with | .done f=>R (.ok f) s' | .again c'=>c'.quiet=true/\codeAny (model prog w) A c' R s') (fun e s'=>R (.error e) s') s:=by
 obtain ⟨ol,BC,Jq,nl,MF⟩:=id hl
 have cV:=ZC BC
 have WS:=ZC hS
 have hT:s.TypeIs (.ref l) "list":=⟨ol,BC,Jq⟩
 have dv:l≠S:=fun z=>by rw[z,hS]at BC;cases BC;exact absurd Jq (by unfold tP;simp)
 have z1:=PySem.F.sub_list_set
 have z2:=PySem.F.sub_list_frozenset
 have z3:(Value.type "list"==Value.type "dict")=false:=by decide
 obtain ⟨WT,U9,U_,To⟩:=ol
 simp only at Jq MF
 subst Jq MF
 have WU:=BC
 unfold Builtin.«set.__init__» noKeywords Builtin.Frozenset.updateFrom
 generalize WV:pyIter=PI
 unfold tP at hS
 wp_walk
 subst WV
 refine wpAny_pyIter_list hl ?_
 refine wpAny_bind (wpAny_runValue ?_)
 have hlen:items.size=xs.length:=by rw[<-Qbm];exact hi.length
 have Tp:l≠s.heap.objs.size:=ZH cV
 have WW:S∉[s.heap.objs.size,l]:=fun hm=>by
  rcases Y5.mp hm with z | z
  ·exact absurd z (ZH WS)
  ·exact dv (UZ.mp z).symm
 have W:=(Walks.list (prog:=prog) (w:=w) (A:=A.in1.in1) (show A.in1.in1.handled=none from hh) s.heap.objs.size l Tp items).toS
 rw[hlen]at W
 have hit:(s.heap.push { cls:= .type "list_iterator",data:= .fields #[.ref l, .int 0 0] }).get? s.heap.objs.size=some { cls:= .type "list_iterator",data:= .fields #[.ref l, .int 0 0] }:=ZF _ rfl
 refine DO (A:=A.in1) (l:=xs) W WW (fun i v hv=>?_) hb (xs.length - 0) 0 { s with heap:=s.heap.push { cls:= .type "list_iterator",data:= .fields #[.ref l, .int 0 0] } } rfl (Y6 _) ⟨⟨_,hit,rfl,rfl⟩,hl.push _⟩ ?_ fun s' hm qz=>?_
 ·exact rz hi i v (by rw[Qcp];exact hv)
 ·have MG:=MD { cls:= .type "list_iterator",data:= .fields #[.ref l, .int 0 0] } hS
  exact PyProof.Rows.SetOf_congr ((PyProof.Rows.setObjOf_fresh (knd:=PySem.strKind prog w) led).setOf MG (by unfold scanBound;omega)) (fun k=>by rw[List.take_zero];rfl) rfl
 ·obtain ⟨h',g',d',WX,SH⟩:=s'
  obtain rfl:g'=s.gens:=hm.gens
  obtain rfl:d'=s.drawn:=hm.drawn
  obtain rfl:SH=s.os:=hm.os
  refine wpAny_pure (wpAny_pure (h h' WX qz fun b o hb Tq e=>?_))
  exact hm.heap b o (fun Tr=>by
   rcases Y5.mp Tr with z | z
   ·exact hb z
   ·exact absurd (UZ.mp z) (ZH Tq)) (MD _ e)
theorem BD {l:Addr} {items:Array Value} {xs:List Str} {Q:Value->Shared->Prop} (hh:A.handled=none) (hl:s.heap.IsList l items) (hi:StrsAre items.toList xs) (hb:xs.length+1<scanBound)
  (h: ∀(h':Heap) (tk:Nat),oX prog w h' s.heap.objs.size xs->(∀b o,s.heap.get? b=some o->h'.get? b=some o)->Q (.ref s.heap.objs.size) { s with heap:=h',toks:=tk }):
  wpAny (model prog w) A (call (.type "set") [.ref l]) Q E s:=by
 obtain ⟨c,tl,WY⟩:=Qa5.mro
 have Va:=Qa5.made
 have Td:=Qa5.sub
 have g1:=Qa5.notType
 have g2:=Qa5.canCreate
 have g3:=PySem.F.typeCall_set_1 (.ref l)
 refine wpAny_call (codeAny_of_tree ?_)
 show wpAny _ _ (callAny (.type "set") ⟨[.ref l],[]⟩) _ _ _
 refine wpAny_pure ⟨Code.quiet_builtin _ (by decide+kernel),codeAny_builtin PySem.F.entry_type_call ?_⟩
 rw[Around.under_plain (weight_type_call_type "set" [.ref l] []) rfl]
 repeat (any_goals (first | wp_step | assumption))
 refine codeAny_mono (code_set_new_1 (.ref l) (E:=E) (Q₁:=fun v s₁=> ∃led:Bool,v= .ref s.heap.objs.size/\s₁={ s with heap:=s.heap.push (tP led) }) fun led=>⟨led,rfl,rfl⟩) fun r s₁ hr=>?_
 cases r with
 | error e=>exact hr
 | ok fl=>
  cases fl with
  | next=>exact hr.elim
  | brk=>exact hr.elim
  | cont=>exact hr.elim
  | ret v=>
   obtain ⟨led,rfl,rfl⟩:=hr
   have hS:(s.heap.push (tP led)).get? s.heap.objs.size=some (tP led):=ZF _ rfl
   have hT:Shared.TypeIs { s with heap:=s.heap.push (tP led) } (.ref s.heap.objs.size) "set":=⟨_,hS,rfl⟩
   have g4:=Qa5.init.lookup
   have g5:=Qa5.init.bind (.ref s.heap.objs.size)
   repeat (any_goals (first | wp_step | assumption))
   refine codeAny_mono (codeAny_call_builtin (R:=wants (fun v s₂=>v= .none/\ ∃h' tk,s₂={ s with heap:=h',toks:=tk }/\oX prog w h' s.heap.objs.size xs/\ ∀b o,s.heap.get? b=some o->h'.get? b=some o) E) Qa5.init.plain PySem.F.entry_set_init (check_set_init_1 hT ?_)) fun r₂ s₂ PX=>?_
   ·refine DP (s:={ s with heap:=s.heap.push (tP led) }) hh hS (hl.push _) hi hb fun h' tk qz hk=>⟨rfl,h',tk,rfl,qz,fun b o e=>?_⟩
    have cV:=ZC e
    exact hk b o (ZH cV) (by show b<(s.heap.push (tP led)).objs.size;rw[Qb8];exact Qba cV) (MD _ e)
   ·cases r₂ with
    | error e=>exact PX
    | ok WZ=>
     cases WZ with
     | next=>exact PX.elim
     | brk=>exact PX.elim
     | cont=>exact PX.elim
     | ret v=>
      obtain ⟨rfl,h',tk,rfl,k1,k2⟩:=PX
      repeat (any_goals (first | wp_step | assumption))
      exact h _ _ k1 k2
end
section
variable {X:Cx}
noncomputable def BE (q:Addr) (n:Nat):HO:= .ext fun h=> ∃(o:Obj) (es:Array (Int×Value)) (ep:Nat) (t:SetTable),h.get? q=some o/\o.ExactSet/\o.data= .set es ep t/\t.fits es.size=true/\es.size=n
def PY (K:PySem.W.Frag):List V->Hp->VK->Prop:=fun xs H Q=> ∃(p:Addr) (l:List (List Nat)),xs=[.ref p]/\br K H p (l.map fun c=>V.str (S c))/\l.length<=20/\ ∀q,H q=none->Q (.ref q) (upd H q (BE q (dd [] (l.map S)).length))
theorem BF (K:PySem.W.Frag) (h:X.K=K) (hc:X.calm=true):cN X (.type "set") (PY K):=by
 subst h
 intro pins s σ H xs us Q I r h
 obtain ⟨p,l,rfl,hq,hz,q⟩:=h
 obtain ⟨u,rfl,ru⟩:=vals1 r
 cases ru
 obtain ⟨aJ,rv,pl,_⟩:=I.list hq
 refine BD (I.ok.hd hc) pl.isList (by simpa using j_ rv) (by rw[UX];unfold scanBound;omega) fun h' tk qz hk=>?_
 refine ⟨.ref s.heap.objs.size,upd H s.heap.objs.size (BE _ _),I.laid (t':=tk) hk (Q3 _) ?_,rfl,q _ I.fresh⟩
 obtain ⟨o,es,ep,t,ho,hex,hd,_,_,_,hf,hn⟩:=qz
 exact ⟨⟨o,es,ep,t,ho,hex,hd,hf,hn⟩,⟨_,ho⟩,fun h1 h2 ⟨o,es,ep,t,ho,r⟩ k=>⟨o,es,ep,t,k o ho,r⟩⟩
theorem vL:cN X (.builtin "len") (fun xs H Q=> ∃a n,xs=[V.ref a]/\H a=some (BE a n)/\n<=1000/\Q (.int n) H):=by
 intro pins s σ H xs us Q I r h
 obtain ⟨a,n,rfl,ha,hz,q⟩:=h
 obtain ⟨u,rfl,ru⟩:=vals1 r
 cases ru
 obtain ⟨hv,_,_⟩:bZ X.prog X.w H s.heap a (BE a n):=I.bW a _ ha
 obtain ⟨o,es,ep,t,ho,hex,hd,hf,hn⟩: ∃(o:Obj) (es:Array (Int×Value)) (ep:Nat) (t:SetTable),s.heap.get? a=some o/\o.ExactSet/\o.data= .set es ep t/\t.fits es.size=true/\es.size=n:=hv
 refine call_len_set ho hex hd hf (by omega) ?_
 rw[hn]
 exact ⟨.int n,H,I.tok _,⟨_,rfl⟩,q⟩
end
section
variable {prog:Program} {w:World} {A:Around} {E:Value->Shared->Prop} {s:Shared}
def oY (h:Heap) (k:Nat) (v:Value) (ns:List Int):Prop:= ∃x ox us m is z t,v= .ref x/\h.get? x=some ox/\ox.cls= .type "tuple"/\ox.data= .seq us m/\us.toList=is++[.str z t]/\IntsAre is ns/\ns.length=k+1
theorem z4 {Q:Bool->Shared->Prop} {ta tb:List Value}: ∀{us vs:List Value} {ns ms:List Int} {i:Nat},IntsAre us ns->IntsAre vs ms->ns.length=ms.length->ns≠ms->Q (a_ ns ms) s->PySem.W.KatLex prog w A true false Q ((us++ta).zip (vs++tb)) i s
 | _,_,_,_,i, .nil, .nil,_,z,_=>absurd rfl z
 | _,_,_,_,i, .nil, .cons _ _ _,h,_,_=>by simp at h
 | _,_,_,_,i, .cons _ _ _, .nil,h,_,_=>by simp at h
 | _,_,_,_,i, .cons (ns:=ns) a t1 h1, .cons (ns:=ms) b t2 h2,h,z,q=>by
  refine PySem.W.kat_cons (wpAny_eqBool_int ?_)
  have hl:ns.length=ms.length:=by simpa using h
  have q':Q (if a=b then a_ ns ms else decide (a<b)) s:=q
  by_cases e:a=b
  ·rw[show (a==b)=true by simp[e]]
   rw[if_pos e]at q'
   exact PySem.W.kat_yes (z4 h1 h2 hl (fun g=>z (by rw[e,g])) q')
  ·rw[show (a==b)=false by simp[e]]
   rw[if_neg e]at q'
   refine PySem.W.kat_no ?_
   by_cases y:i=0
   ·subst y
    exact PySem.W.kat_lt_int (E:=fun _ _=>False) q'
   ·rw[show (true&&(i==0))=false by simp[y]]
    exact PySem.W.kat_one _ _ (lt_int q')
theorem K1 {k:Nat} {u v:Value} {a c:List Int} {Q:Bool->Shared->Prop} (hx:oY s.heap k u a) (hy:oY s.heap k v c) (dv:a≠c) (q:Q (a_ a c) s):wpAny (model prog w) A (keyLt' (tuples' true) u v) Q E s:=by
 obtain ⟨x,ox,us,n,i1,z1,t1,rfl,gx,_,dx,ex,ix,lx⟩:=hx
 obtain ⟨y,oy,vs,m,i2,z2,t2,rfl,gy,_,dy,ey,iy,ly⟩:=hy
 have e1:=oU ix
 have e2:=oU iy
 refine PySem.W.kat_lt gx dx gy dy ?_
 rw[show decide (us.size<vs.size)=false from decide_eq_false (by rw[<-Qbm, <-Qbm,ex,ey,UY,UY];simp;omega)]
 rw[ex,ey]
 exact z4 ix iy (by omega) dv q
theorem oY.keep {h h':Heap} {k:Nat} {v:Value} {n:List Int} (p:oY h k v n) (kp: ∀b o,h.get? b=some o->h'.get? b=some o):oY h' k v n:=by
 obtain ⟨x,ox,us,m,i1,z1,t1,e1,e2,r⟩:=p
 exact ⟨x,ox,us,m,i1,z1,t1,e1,kp _ _ e2,r⟩
def cY (h:Heap) (k:Nat):List Value->List (List Int)->Prop
 | [],[]=>True
 | v::vs,n::ns=>oY h k v n/\cY h k vs ns
 | _,_=>False
theorem cY.keep {h h':Heap} {k:Nat} (kp: ∀b o,h.get? b=some o->h'.get? b=some o): ∀{vs:List Value} {ns:List (List Int)},cY h k vs ns->cY h' k vs ns
 | [],[],_=>trivial
 | _::_,_::_,⟨a,b⟩=>⟨a.keep kp,cY.keep kp b⟩
theorem cY.get {h:Heap} {k:Nat}: ∀{vs:List Value} {ns:List (List Int)} {i:Nat},cY h k vs ns->(hi:i<vs.length)-> ∃n,ns[i]? =some n/\oY h k (vs.getD i Value.none) n
 | [],[],i,_,hi=>absurd hi (Qb9 _)
 | v::vs,n::ns,0,⟨a,_⟩,_=>⟨n,rfl,a⟩
 | v::vs,n::ns,i+1,⟨_,b⟩,hi=>by
  obtain ⟨m,e,p⟩:=cY.get (i:=i) b (Nat.lt_of_succ_lt_succ hi)
  exact ⟨m,e,p⟩
theorem cY.lT {h:Heap} {k:Nat}: ∀{vs:List Value} {ns:List (List Int)},cY h k vs ns-> ∃fs,PySem.W.KatTups h vs fs/\fs.length=vs.length/\ ∀v∈fs, ∃i t,v=Value.int i t
 | [],[],_=>⟨[],trivial,rfl,fun _ h=>absurd h Zw⟩
 | v::vs,n::ns,⟨⟨x,ox,us,m,i1,z1,t1,e1,e2,e3,e4,e0,e5,e6⟩,b⟩=>by
  obtain ⟨fs,k1,k2,k3⟩:=cY.lT b
  obtain ⟨f,t,e7⟩: ∃f t,us[0]? =some (Value.int f t):=by
   rw[<-Qcp,e0]
   clear e0
   cases e5 with
   | nil=>simp at e6
   | cons a t _=>exact ⟨a,t,rfl⟩
  refine ⟨.int f t::fs,⟨⟨x,ox,us,m,e1,e2,e3,e4,e7⟩,k1⟩,by simp[k2],fun u hu=>?_⟩
  rcases Y5.mp hu with z | z
  ·exact ⟨_,_,z⟩
  ·exact k3 u z
theorem cY.ne {h:Heap} {k:Nat} {vs:List Value} {ns:List (List Int)} (p:cY h k vs ns) {a:Addr} (ha:h.objs.size<=a): ∀v∈vs,v≠ .ref a:=fun v hv z=>by
 obtain ⟨i,hi,e⟩:=List.mem_iff_getElem.mp hv
 obtain ⟨n,_,x,ox,us,m,i1,z1,t1,e1,e2,_⟩:=p.get (i:=i) hi
 have e3:vs.getD i Value.none=v:=by rw[Y3,Kw hi,e];rfl
 rw[e3,z]at e1
 cases e1
 exact absurd (ZM (ZC e2) ha) (kb _)
theorem oZ {a:Addr} {vs:List Value} {ns:List (List Int)} {k n:Nat} {P:PySem.Fin->Shared->Prop} (ho:s.heap.get? a=some (seqObj "list" vs.toArray n)) (hp:cY s.heap k vs ns) (Vb: ∀v∈vs,v≠ .ref a) (hs: ∀k x y,ns[k]? =some x->ns[k+1]? =some y->a_ y x=false/\y≠x) (hsz:vs.length<=sizeLine)
  (q:P (.done (.ret .none)) { s with heap:=sortedHeap s.heap a vs vs.toArray }):wpAny (model prog w) A (Builtin.«list.sort» ⟨[.ref a],[]⟩) P E s:=by
 rw[list_sort_plain]
 have ha:a<s.heap.objs.size:=ZC ho
 refine wpAny_bind (listItems_at ho rfl (wpAny_bind (listUpdate_at ho rfl ?_ (by rw[WD];omega) (Y6 _))))
 obtain ⟨e1,Vc⟩: ∃e1,(s.heap.update a (Obj.mapSeq fun _=> #[])).get? a=some (seqObj "list" #[] e1):=⟨_,get?_update_seq ho (fun _=> #[])⟩
 refine wpAny_bind (seqEpoch_at Vc rfl (wpAny_bind (wpAny_newTuple (wpAny_bind (wpAny_newList (wpAny_holding ?_) (Y6 _))) (by show vs.length<=_;omega))))
 generalize hH:((s.heap.update a (Obj.mapSeq fun _=>(#[]:Array Value))).push (seqObj "tuple" vs.toArray 0)).push (seqObj "list" #[] 0)=H2
 have Vd:H2.get? a=some (seqObj "list" #[] e1):=by
  rw[<-hH]
  exact MD _ (MD _ Vc)
 have keep: ∀b o,b≠a->s.heap.get? b=some o->H2.get? b=some o:=fun b o hb e=>by
  rw[<-hH]
  exact MD _ (MD _ ((Z_ s.heap _ (Ne.symm hb)).trans e))
 have oW:cY H2 k vs ns:=by
  clear q hsz hs hH ho
  revert ns
  induction vs with
  | nil=>intro ns hp;cases ns with
   | nil=>trivial
   | cons _ _=>exact hp.elim
  | cons v vs ih=>
   intro ns hp
   cases ns with
   | nil=>exact hp.elim
   | cons n ns=>
    obtain ⟨⟨x,ox,us,m,i1,z1,t1,rfl,g2,g3⟩,b⟩:=hp
    exact ⟨⟨x,ox,us,m,i1,z1,t1,rfl,keep x ox (fun z=>Vb _ Zy (by rw[z])) g2,g3⟩,ih (fun u hu=>Vb u (Y4 _ hu)) b⟩
 have fin: ∀st:SortSt,(arrOf st).map (·.2)=vs.toArray->failedOf st=none->wpAny (model prog w) A (do { let touched:=(<-seqEpoch a) != e1;Builtin.List.listUpdate (.ref a) (fun _=>(arrOf st).map (·.2));if let some e:=failedOf st then { rule "list.sort.comparison-raised";throw e };if touched then { rule "list.sort.modified";raiseError "ValueError" "list modified during sort" };ret .none }) P E { s with heap:=H2 }:=fun st e0 e2=>by
  rw[e0,e2]
  refine wpAny_bind (seqEpoch_at Vd rfl (wpAny_bind (listUpdate_at Vd rfl ?_ (Y6 _) (by rw[WD];omega))))
  simp only[bne_self_eq_false,Qbh,if_false]
  refine wpAny_pure ?_
  have e3:sortedHeap s.heap a vs vs.toArray=H2.update a (Obj.mapSeq fun _=>vs.toArray):=by unfold sortedHeap;rw[hH]
  rw[e3]at q
  exact q
 show wpAny (model prog w) A _ P E { s with heap:=H2 }
 dsimp only
 by_cases h2:vs.toArray.size<2
 ·rw[if_pos h2,if_pos h2]
  refine wpAny_bind (wpAny_pure ?_)
  rw[StateT.run_pure]
  refine wpAny_bind (wpAny_pure ?_)
  exact fin (SortSt.mk' general' (vs.toArray.zip vs.toArray) #[] 7 none) (by show (vs.toArray.zip vs.toArray).map (·.2)=vs.toArray;apply Qb1.mp;simp;exact zW vs) rfl
 ·have W0:2<=vs.length:=by rw[WD]at h2;omega
  rw[if_neg h2,if_neg h2]
  obtain ⟨fs,k1,k2,k3⟩:=oW.lT
  refine wpAny_bind (PySem.W.kat_kind (s:={ s with heap:=H2 }) (T:= .type "int") k1 (by omega) (fun v hv=>by obtain ⟨i,t,rfl⟩:=k3 v hv;exact PySem.W.Looks.of_pure rfl) (by rfl) ?_)
  have W2:SortSt.mk' (tuples' (Value.type "int" != Value.type "tuple")) (vs.toArray.zip vs.toArray) #[] 7 none=PySem.W.kas_st (tuples' true) (vs.toArray.zip vs.toArray) (List.toArray (List.range vs.length)):=by
   have e:=PySem.W.kas_range (vs.toArray.zip vs.toArray)
   rw[show (vs.toArray.zip vs.toArray).size=vs.length by simp]at e
   show SortSt.mk' (tuples' true) (vs.toArray.zip vs.toArray) #[] 7 none=SortSt.mk' (tuples' true) ((List.toArray (List.range vs.length)).map (PySem.W.kas_item (vs.toArray.zip vs.toArray))) #[] 7 none
   rw[e]
  rw[W2]
  have run:=DD (prog:=prog) (w:=w) (A:=A) (E:=E) (s:={ s with heap:=H2 }) (κ:=tuples' true) (it:=vs.toArray.zip vs.toArray) (n:=vs.length) (Q:=fun _ lM s'=>s'={ s with heap:=H2 }/\(arrOf lM).map (·.2)=vs.toArray/\failedOf lM=none) W0 (fun j g1 g2 C c=>by
   rw[<-PySem.W.kat_ask_eq rfl]
   obtain ⟨x,ex,px⟩:=oW.get (i:=j) g2
   obtain ⟨y,ey,py⟩:=oW.get (i:=j - 1) (by omega)
   obtain ⟨f1,f2⟩:=hs (j - 1) y x ey (by rw[show j - 1+1=j by omega];exact ex)
   refine K1 (s:={ s with heap:=H2 }) px py f2 ?_
   rw[f1]
   exact c) (fun lM a2 a3=>by
   refine ⟨rfl,?_,a3⟩
   rw[PySem.W.kat_snds rfl a2]
   apply Qb1.mp
   show (List.range vs.length).map (fun i=>vs.getD i Value.none)=vs
   refine List.ext_getElem (by simp) fun i g1 g2=>?_
   simp
   rw[Kw g2]
   rfl)
  refine wpAny_bind (wpAny_mono run ?_ fun _ _ e=>e)
  rintro ⟨⟨⟩,lM⟩ s' ⟨rfl,g1,g2⟩
  exact fin lM g1 g2
theorem m6 {tp:Addr} {T:String} {o:Obj} {vs:List Value} {ns:List (List Int)} {k n:Nat} {Q:Value->Shared->Prop} (hT:T="list"\/T="tuple") (ho:s.heap.get? tp=some o) (hc:o.cls= .type T) (hd:o.data= .seq vs.toArray n) (hp:cY s.heap k vs ns)
  (hs: ∀k x y,ns[k]? =some x->ns[k+1]? =some y->a_ y x=false/\y≠x) (hsz:vs.length<=sizeLine)
  (q: ∀(h1 h':Heap) (a:Addr) (e:Nat),(∀b o,s.heap.get? b=some o->h1.get? b=some o)->(∀b o,h1.get? b=some o->h'.get? b=some o)->a=h1.objs.size->h'.get? a=some (seqObj "list" vs.toArray e)->Q (.ref a) { s with heap:=h' }):
  wpAny (model prog w) A (call (.builtin "sorted") [.ref tp]) Q E s:=by
 refine Calls.call_function_entry kind_sorted plain_sorted entry_sorted (args_sorted1 _) ?_
 unfold Builtin.«sorted»
 refine wpAny_bind (m:=checkCount "sorted" 1 1 _) (wpAny_pure (wpAny_bind (wpAny_collect_seq tp hT ho hc hd (fun h1 k1=>?_) (by rw[WD];omega))))
 refine wpAny_bind (wpAny_newList ?_ (by show vs.length<=_;omega))
 have GF:(h1.push (seqObj "list" vs.toArray 0)).get? h1.objs.size=some (seqObj "list" vs.toArray 0):=ZF _ rfl
 show wpAny _ _ _ _ _ { s with heap:=h1.push (seqObj "list" vs.toArray 0) }
 have tQ:=hp.keep (h':=h1) k1
 have oW:=tQ.keep (h':=h1.push (seqObj "list" vs.toArray 0)) fun b o e=>MD _ e
 refine wpAny_bind (wpAny_holding (wpAny_call_entry slot_list_sort ⟨_,GF,rfl⟩ entry_list_sort (oZ (s:={ s with heap:=h1.push (seqObj "list" vs.toArray 0) }) GF oW (tQ.ne (Q3 _)) hs hsz ⟨_,rfl,?_⟩) (args_list_sort _)))
 obtain ⟨e,he⟩:=sortedHeap_at (out:=vs.toArray) GF
 refine wpAny_pure ⟨_,rfl,q h1 _ _ e k1 (fun b o hb=>?_) rfl he⟩
 have cV:=ZC hb
 rw[sortedHeap_old (ZH cV) (by rw[size_push'];exact Qba cV)]
 exact MD _ hb
end
section
variable {X:Cx}
theorem rA: ∀{ns:List Int} {z:Str} {us:List Value},Vals (ns.map V.int++[.str z]) us-> ∃is t,us=is++[.str z t]/\IntsAre is ns
 | [],z,_, .cons r .nil=>by
  obtain ⟨t,rfl⟩:=r
  exact ⟨[],t,rfl, .nil⟩
 | n::ns,z,_, .cons r rs=>by
  obtain ⟨u,rfl⟩:=r
  obtain ⟨is,t,e,h⟩:=rA rs
  exact ⟨.int n u::is,t,by rw[e];rfl, .cons n u h⟩
def BG (K:PySem.W.Frag) (H:Hp) (k:Nat):List V->List (List Int)->Prop
 | [],[]=>True
 | v::vs,n::ns=>(∃t z,v= .ref t/\bV K H t (n.map V.int++[.str z])/\n.length=k+1)/\BG K H k vs ns
 | _,_=>False
theorem BG.at {pins:List (Addr×Obj)} {σ:St} {H:Hp} {s:Shared} {k:Nat} (I:Inv X pins σ H s): ∀{vs:List V} {ns:List (List Int)} {us:List Value},BG X.K H k vs ns->Vals vs us->cY s.heap k us ns
 | [],[],_,_, .nil=>trivial
 | v::vs,n::ns,_,⟨⟨t,z,e,h,hl⟩,b⟩, .cons r rs=>by
  subst e
  cases r
  obtain ⟨aJ,rv,p,_⟩:=I.tuple h
  obtain ⟨o,ho,hc,m,hd⟩:=p
  obtain ⟨i1,t1,e1,e2⟩:=rA rv
  exact ⟨⟨t,o,aJ.toArray,m,i1,z,t1,rfl,ho,hc,hd,e1,e2,hl⟩,BG.at I b rs⟩
def K2 (K:PySem.W.Frag):List V->Hp->VK->Prop:=fun xs H Q=> ∃p ys ns k,xs=[.ref p]/\(br K H p ys\/bV K H p ys)/\BG K H k ys ns/\(∀k x y,ns[k]? =some x->ns[k+1]? =some y->a_ y x=false/\y≠x)/\ ∀q,H q=none->Q (.ref q) (upd H q (.lst ys))
theorem tR (K:PySem.W.Frag) (h:X.K=K):cN X (.builtin "sorted") (K2 K):=by
 subst h
 intro pins s σ H xs us Q I r h
 obtain ⟨p,ys,ns,k,rfl,hq,hv,hs,q⟩:=h
 obtain ⟨u,rfl,ru⟩:=vals1 r
 cases ru
 have fin: ∀aJ:List Value,ys.length<=sizeLine->Vals ys aJ-> ∀(h1 h':Heap) (a:Addr) (e:Nat),(∀b o,s.heap.get? b=some o->h1.get? b=some o)->(∀b o,h1.get? b=some o->h'.get? b=some o)->a=h1.objs.size->h'.get? a=some (seqObj "list" aJ.toArray e)->EP X pins σ Q (.ref a) { s with heap:=h' }:=fun aJ hz rv h1 h' a e k1 k2 ea he=>by
  have I1:Inv X pins σ H { s with heap:=h1 }:=I.kept (t':=s.toks) k1
  have I2:Inv X pins σ (upd H a (.lst ys)) { s with heap:=h' }:=I1.laid (t':=s.toks) (a:=a) (o:= .lst ys) k2 (by rw[ea];exact Q3 _) ⟨hz,aJ,e,rv,by simpa [seqObj]using he⟩
  exact ⟨.ref a,_,I2,rfl,q _ (I1.bW.fresh (by rw[ea];exact Q3 _))⟩
 rcases hq with hq | hq
 ·obtain ⟨aJ,rv,pl,hz⟩:=I.list hq
  obtain ⟨o,ho,hc,m,hd⟩:=pl.isList
  exact m6 (.inl rfl) ho hc hd (hv.at I rv) hs (by rw[<-rv.length];exact hz) (fin aJ hz rv)
 ·obtain ⟨aJ,rv,pl,hz⟩:=I.tuple hq
  obtain ⟨o,ho,hc,m,hd⟩:=pl
  exact m6 (.inr rfl) ho hc hd (hv.at I rv) hs (by rw[<-rv.length];exact hz) (fin aJ hz rv)
end
section
variable {X:Cx}
end
section
variable {X:Cx} {st:Stmt} {rest:List Stmt} {t u:TS}
def Ts (t u:TS):TS:=fun D σ H=> ∃P:St->Hp->Prop,t { D with nx:=P } σ H/\ ∀σ' H',P σ' H'->u D σ' H'
theorem gk (h1:PS X st t) (h2:xE X rest u):xE X (st::rest) (Ts t u):=by
 intro pins s σ H D I h
 obtain ⟨P,h,g⟩:=h
 refine wpAny_execs_cons (cg (h1 pins s σ H _ I h) fun f s1 q=>?_)
 cases f with
 | ret v=>exact q
 | brk=>exact q
 | cont=>exact q
 | next=>
  obtain ⟨τ,G,J,p⟩:=q
  exact h2 pins s1 τ G D J (g τ G p)
end
section
variable {X:Cx}
def PZ (K:PySem.W.Frag):List V->Hp->VK->Prop:=fun xs H Q=> ∃(p:Addr) (ns:List Int),xs=[.ref p]/\br K H p (ns.map V.int)/\Q (.int ns.sum) H
theorem BH (K:PySem.W.Frag) (h:X.K=K) (hc:X.calm=true):cN X (.builtin "sum") (PZ K):=by
 subst h
 intro pins s σ H xs us Q I r h
 obtain ⟨p,ns,rfl,hq,q⟩:=h
 obtain ⟨u,rfl,ru⟩:=vals1 r
 cases ru
 obtain ⟨aJ,rv,pl,_⟩:=I.list hq
 have hi:IntsAre aJ ns:=intsAre_of rv
 obtain ⟨ys,e⟩:=hi.allInts.items
 have hl:s.heap.IsList p (intItems ys):=by rw[<-e];exact pl.isList
 refine sum_intListG (I.ok.hd hc) hl fun h' tk t' hk=>?_
 have e2:preSum (numAt ys) ys.size=ns.sum:=by
  rw[preSum_eq,ZO (by simp), <-nums_intItems, <-e]
  exact congrArg List.sum hi.numsOf
 rw[e2]
 exact ⟨.int ns.sum,H,I.kept (t':=tk) hk,⟨_,rfl⟩,q⟩
theorem o4:cN X (.builtin "isinstance") (fun xs H Q=> ∃i,(xs=[.int i, .ty "int"]/\Q (.bl true) H)\/(xs=[.int i, .ty "bool"]/\Q (.bl false) H)):=by
 intro pins s σ H xs us Q I r h
 obtain ⟨i,h⟩:=h
 rcases h with ⟨rfl,q⟩ | ⟨rfl,q⟩
 ·obtain ⟨u,w',rfl,r1,r2⟩:=vals2 r
  cases (show w'=Value.type "int" from r2)
  exact qT I r1 (.int i) (by unfold PySem.W.kitOne;rw[if_pos (by decide)]) fun tk=>⟨.bl true,H,I.tok _,rfl,q⟩
 ·obtain ⟨u,w',rfl,r1,r2⟩:=vals2 r
  cases (show w'=Value.type "bool" from r2)
  exact qT I r1 (.int i) (b:=false) (by unfold PySem.W.kitOne;rw[if_neg (by decide)];rfl) fun tk=>⟨.bl false,H,I.tok _,rfl,q⟩
end
section
variable {X:Cx}
end
section
variable {prog:Program} {w:World} {A:Around} {E:Value->Shared->Prop} {s:Shared}
section
variable {z TI TO i1 i2:Addr} {f1 f2:List Addr} {n1 n2 i:Nat} {P1 P2:Nat->Value->Prop} {S1 S2:Nat->Heap->Prop} {a b:Value}
end
end
section
variable {X:Cx} {elts:List Expr} {k:Nat} {pos':Pos} {a b:Expr} {ta:TA} {p pos:Pos}
end
section
variable {X:Cx}
end
end L2
namespace L2
open PySem PySem.Spec PyProof.Rows PySem.MeetsSeq PySem.SeqAt
section
variable {X:Cx}
end
end L2
set_option maxHeartbeats 4000000
namespace XL
open PySem PySem.Spec PySem.Calls PyProof.Rows PySem.W Builtin Builtin.ObjectAttr
section
variable {prog:Program} {w:World} {A:Around} {E:Value->Shared->Prop} {h:Heap} {g:Array GenState} {d:Drawn} {t:Nat} {os:OsState} {K:Frag} {C:Addr}
variable {x:Addr} {mA:Str->Option Value} {name:Str} {v:Value}
end
end XL
set_option maxHeartbeats 4000000
namespace XL
open PySem PySem.Spec PySem.Calls PyProof.Rows PySem.W Builtin Builtin.ObjectAttr
section
variable {prog:Program} {w:World} {A:Around} {E:Value->Shared->Prop} {h:Heap} {g:Array GenState} {d:Drawn} {t:Nat} {os:OsState} {K:Frag} {C x:Addr}
end
end XL
set_option maxHeartbeats 4000000
namespace XL
open PySem PySem.Spec PySem.Calls PyProof.Rows PySem.W
section
variable {M:Model} {A:Around} {E:Value->Shared->Prop} {s:Shared} {base:Heap} {env:Env} {outer:List Env} {L e C:Addr} {dO:Option Addr}
end
end XL
set_option maxHeartbeats 4000000
namespace L2
open PySem PySem.Spec PyProof.Rows XL
section
variable {P:Program} {w:World} {H H' H1 H2:Hp} {h h' h0 h1 h2:Heap} {a e:Addr} {o:HO} {fs ex S:List Addr}
end
section
variable {P:Program} {w:World} {K:PySem.W.Frag} {mg:Str->Option Value} {base:Heap} {N:List Str} {qual:Str} {scope:Scope} {f:Addr} {cd:Value} {A:Around} {outer:List Env} {s:Shared} {H:Hp} {E:XK}
end
end L2
set_option maxHeartbeats 4000000
namespace L2
open PySem PySem.Spec PyProof.Rows XL
section
variable {X:Cx} {pins:List (Addr×Obj)} {σ:St} {H:Hp} {s:Shared} {a:Addr} {o:HO}
end
section
variable {X:Cx} {CX:Bh} {k:Nat} {f C:Addr} {fd:FuncData} {ps:List Str} {sp:Sp} {dvs:List V} {ds:List Value} {E:St->XK} {x:Str} {p pos:Pos} {e:Expr} {es:List Expr} {ta te:TE} {t:TA}
end
section
variable {P:Program} {w:World} {K:PySem.W.Frag} {mg:Str->Option Value} {base:Heap}
end
end L2
set_option maxHeartbeats 4000000
namespace L2
open PySem PySem.Spec PyProof.Rows XL
section
variable {X:Cx} {k:Nat} {f C M:Addr} {fd:FuncData} {ps:List Str} {sp:Sp} {x:Str} {p pos apos:Pos} {e:Expr} {es:List Expr} {ta te tv:TE} {t:TA} {pins:List (Addr×Obj)} {σ:St} {H:Hp} {s:Shared}
end
end L2
set_option maxHeartbeats 4000000
namespace L2
open PySem PySem.Spec PyProof.Rows XL
section
variable {X:Cx} {pins pn:List (Addr×Obj)} {σ:St} {H:Hp} {s:Shared} {W:Value->Shared->Prop} {ev:Value}
end
section
variable {X:Cx} {M:Addr} {n:Nat} {mx nm:Str} {body Ve:List Stmt} {b₀:Stmt} {tb:(St->XK)->TS} {th:TS} {pos qA mp:Pos} {pins:List (Addr×Obj)} {σ:St} {H:Hp} {s:Shared} {D:Ends}
end
end L2
set_option maxHeartbeats 4000000
namespace L2
open PySem PySem.Spec PyProof.Rows XL
noncomputable def Vf (s:Stmt) (j:Nat):Stmt:=match s with
 | .ClassDef _ _ _ b _ _ _ _ _ _ _=>b.getD j (.Pass ⟨0,0,0,0⟩)
 | _=> .Pass ⟨0,0,0,0⟩
end L2
set_option maxHeartbeats 4000000
namespace L2
open PySem PySem.Spec PyProof.Rows XL
def P0 (_ j:Int):Prop:=0<j/\j<18446744073709551616
theorem dE {X:Cx}:js X (binaryOp .FloorDiv) (rI P0 fun i j=> .int (i / j)):=QY fun i j _ _ _ _ _ hc q=>by
 have h1:(0:Int)<j:=hc.1
 have h2:j<18446744073709551616:=hc.2
 have h3:j.natAbs<2 ^ 64:=by omega
 exact floordiv_int (by omega) (by rw[Int.fdiv_eq_ediv_of_nonneg i (by omega)];exact q) (.inl (PyProof.noPylong_of_log2 (Qcy ((Nat.log2_lt (by omega)).mpr h3) (by decide))))
end L2
namespace PySem
end PySem
namespace L2
open PySem PySem.Spec PyProof.Rows
section
variable {P:Program} {w:World} {K:PySem.W.Frag} {mg:Str->Option Value} {base:Heap}
end
section
variable {X:Cx}
end
section
variable {X:Cx}
end
end L2
set_option maxHeartbeats 1000000
namespace L2.F3
open PySem PySem.Spec PyProof.Rows
end L2.F3
namespace L2
open PySem PySem.Spec PyProof.Rows
section
variable {prog:Program} {w:World} {A:Around} {E:Value->Shared->Prop} {s:Shared}
end
section
variable {X:Cx}
end
section
variable {P:Program} {w:World} {K:PySem.W.Frag} {mg:Str->Option Value} {base:Heap}
end
section
variable {X:Cx}
noncomputable def dg (n:Nat):List Nat:=((toString (n:Int):String):Str).cps.toList
theorem Tt (n:Nat):((toString (n:Int):String):Str)=S (dg n):=Ph _
theorem BI {n:Nat} (h:n<2 ^ 60):((n:Int)).natAbs.log2<1920:=by
 rw[Int.natAbs_natCast]
 by_cases z:n=0
 ·subst z;decide
 ·exact (Nat.log2_lt z).mpr (ZM h (Nat.pow_le_pow_right (by decide) (by decide)))
theorem BJ:cN X (.type "str") (fun xs H Q=> ∃n:Nat,xs=[.int n]/\n<2 ^ 60/\Q (.str (S (dg n))) H):=by
 intro pins s σ H xs us Q I r h
 obtain ⟨n,rfl,hz,q⟩:=h
 refine sV pins s σ H _ us Q I r ⟨n,rfl,BI hz,?_⟩
 rw[Tt]
 exact q
end
section
variable {X:Cx} {elts:List Expr} {k:Nat} {pos':Pos} {a b:Expr} {ta:TA} {p pos:Pos}
end
end L2
set_option maxHeartbeats 1000000
namespace L2
open PySem PySem.Spec PyProof.Rows
theorem vM:typeLookup (.type "dict") "__len__"=pure (some (.builtin "dict.__len__")):=PySem.F.slot_dict_len.lookup
section
variable {prog:Program} {w:World} {A:Around} {E:Value->Shared->Prop} {s:Shared} {KK:Type} [DecidableEq KK] {knd:PySem.KeyKind prog w KK}
theorem tT {Q:List Value->Shared->Prop} (hh:A.handled=none) (d:Addr) (aP:List (KK×Value)) (ep:Nat) (hd:(d==sysModules)=false) (hm:s.heap.DictAt knd d aP ep) (hn:aP.length<=sizeLine)
  (hQ: ∀s' acc,(∀b o,s.heap.get? b=some o->s'.heap.get? b=some o)->s'.gens=s.gens->s'.drawn=s.drawn->s'.os=s.os->ItemsOf (fun i v=> ∃k x,aP[i]? =some (k,x)/\knd.is k v=true) acc aP.length->Q acc.toList s'):
  wpAny (model prog w) A (collect (.ref d)) Q E s:=by
 have hT:s.TypeIs (.ref d) "dict":=hm.dictOf.typeIs
 obtain ⟨od,P4,W3⟩:=id hT
 have P5:=ZC P4
 unfold collect
 refine wpAny_bind (wpAny_runValue (codeAny_builtin PySem.F.entry_proto_collect ?_))
 rw[Around.under_plainId PySem.F.plain_proto_collect _]
 show wpAny _ A.in1 (newList [] >>= fun l=>again (.builtin "list.__iadd__" ⟨[l, .ref d],[]⟩)) _ _ s
 refine wpAny_bind (wpAny_newObj_type ?_)
 refine wpAny_pure ⟨plainId_quiet PySem.F.plain_list_iadd _,codeAny_builtin PySem.F.entry_list_iadd ?_⟩
 rw[Around.under_plainId PySem.F.plain_list_iadd _]
 show wpAny _ A.in1 (Builtin.List.listExtendWith (.ref s.heap.objs.size) (.ref d) (.ref s.heap.objs.size)) _ _ _
 generalize hH:s.heap.push { cls:= .type "list",data:= .seq ([]:List Value).toArray }=H
 have Tu:H.objs.size=s.heap.objs.size+1:=by rw[<-hH,Qb8]
 have KU:H.DictAt knd d aP ep:=hm.at' fun o e=>by rw[<-hH];exact MD _ e
 have W4:Shared.TypeIs { s with heap:=H } (.ref d) "dict":=KU.dictOf.typeIs
 have Tv:s.heap.objs.size≠d:=Qdk P5
 unfold Builtin.List.listExtendWith
 refine wpAny_bind (wpAny_typeOf W4 ?_)
 have h1:Builtin.List.listSameRef (.ref s.heap.objs.size) (.ref d)=false:=by simp[Builtin.List.listSameRef,Tv]
 rw[if_neg (by rw[h1];decide)]
 refine wpAny_bind (wpAny_pyIter_dict (s:={ s with heap:=H }) hd KU ?_)
 show wpAny _ A.in1 _ _ _ { s with heap:=H.push { cls:= .type "dict_keyiterator",data:= .fields #[.ref d, .int 0 0, .int aP.length 0, .int ep 0] } }
 generalize Jh:H.push { cls:= .type "dict_keyiterator",data:= .fields #[.ref d, .int 0 0, .int aP.length 0, .int ep 0] }=H2
 have DE:H2.DictAt knd d aP ep:=KU.at' fun o e=>by rw[<-Jh];exact MD _ e
 have Tw:Shared.TypeIs { s with heap:=H2 } (.ref d) "dict":=DE.dictOf.typeIs
 refine wpAny_bind (wpAny_holding ?_)
 unfold Builtin.List.listLengthHint
 refine wpAny_bind (wpAny_specialOf Tw vM ?_)
 wp_delta
 refine wpAny_bind (wpAny_isInstance (T:="dict") (b:=true) Tw (by rw[isSubtype_type];kernel_rfl) ?_)
 show wpAny _ A.in1 (typeOf (Value.ref d) >>= _) _ _ _
 refine wpAny_bind (wpAny_typeOf Tw ?_)
 refine wpAny_pure ?_
 rw[if_pos (by decide+kernel)]
 refine wpAny_bind (wpAny_rule ?_)
 refine wpAny_bind ?_
 unfold Builtin.List.listTouch
 have hS:H2.get? s.heap.objs.size=some { cls:= .type "list",data:= .seq ([]:List Value).toArray }:=by
  rw[<-Jh];exact MD _ (by rw[<-hH];exact ZF _ rfl)
 refine wpAny_bind (wpAny_updateSeq hS rfl ?_ (Y6 _) (Qay (Y6 _)))
 have MG:=Qax (Obj.mapSeq (fun l:Array Value=>l.push .none)) hS rfl
 refine wpAny_updateSeq MG rfl ?_ (by show 1<=sizeLine;decide) (Y6 _)
 have W5:=Qax (Obj.mapSeq (fun l:Array Value=>l.pop)) MG rfl
 have Tx: ∀b o,b≠s.heap.objs.size->H2.get? b=some o->((H2.update s.heap.objs.size (Obj.mapSeq (fun l:Array Value=>l.push .none))).update s.heap.objs.size (Obj.mapSeq (fun l:Array Value=>l.pop))).get? b=some o:=fun b o hb e=>
  (Z_ _ _ (Ne.symm hb)).trans ((Z_ _ _ (Ne.symm hb)).trans e)
 have hit:H2.get? H.objs.size=some { cls:= .type "dict_keyiterator",data:= .fields #[.ref d, .int 0 0, .int aP.length 0, .int ep 0] }:=by rw[<-Jh];exact ZF _ rfl
 have Vg:H.objs.size≠s.heap.objs.size:=by rw[Tu];exact Qdd _
 have W6:d≠H.objs.size:=by rw[Tu];exact ZH (Qba P5)
 have W7:s.heap.objs.size∉[H.objs.size,d]:=fun W8=>by
  rcases Y5.mp W8 with z | z
  ·exact Vg z.symm
  ·exact Tv (UZ.mp z)
 refine wpAny_pure ⟨plainId_quiet PySem.F.plain_extend_loop _,codeAny_extend_loopS (Walks.dictKeys (knd:=knd) (A:=A.in1) hh H.objs.size d W6 aP ep).toS hn _ W7 _ aP.length 0 _ _ _ rfl (Y6 _)
  ⟨⟨_,Tx _ _ Vg hit,rfl,rfl⟩,DE.at' fun o e=>Tx d o (Ne.symm Tv) e⟩ W5 (ItemsOf.nil _) fun s' eK c' Q9 W9 x9=>?_⟩
 show wpAny _ A (load s.heap.objs.size >>= _) _ _ s'
 refine wpAny_bind (wpAny_load W9 ?_)
 refine wpAny_pure (hQ s' eK (fun b ob e=>Q9.heap b ob (fun hb=>?_) (Tx b ob (ZH (ZC e)) (by rw[<-Jh];exact MD _ (by rw[<-hH];exact MD _ e)))) Q9.gens Q9.drawn Q9.os x9)
 have cV:=ZC e
 rcases Y5.mp hb with h | h
 ·exact absurd cV (h▸kb _)
 ·rw[UZ.mp h,Tu]at cV;exact absurd cV (Nat.not_lt.mpr (Qbc _))
end
section
variable {X:Cx}
theorem z5 {aP:List (Key×V)} {vs:List (Key×Value)} (h:KV aP vs):vs.map (·.1)=aP.map (·.1):=by
 induction h with
 | nil=>rfl
 | cons r _ ih=>rw[ZJ,ZJ,ih,r.1]
end
section
variable {X:Cx}
end
end L2
set_option maxHeartbeats 4000000
namespace XL
open PySem PySem.Spec PySem.Calls PyProof.Rows PySem.W
section
variable {M:Model} {A:Around} {E:Value->Shared->Prop} {s:Shared} {base:Heap} {env W_:Env} {outer:List Env} {L e C:Addr} {dO:Option Addr}
end
end XL
set_option maxHeartbeats 4000000
namespace L2
open PySem PySem.Spec PyProof.Rows XL
section
variable {P:Program} {w:World} {K:PySem.W.Frag} {mg:Str->Option Value} {base:Heap} {N:List Str} {qual:Str} {scope:Scope} {f:Addr} {cd:Value} {A:Around} {outer:List Env} {s:Shared} {H:Hp} {E:XK}
end
section
variable {X:Cx} {scope:Scope} {C:Addr} {Nc:List Str} {s0:Shared} {H0:Hp} {fp:List Addr} {pn pins:List (Addr×Obj)} {xe:Value->Shared->Prop} {σ:St} {H:Hp} {s:Shared}
end
end L2
set_option maxHeartbeats 1000000
namespace L2
open PySem PySem.Spec PyProof.Rows
section
variable {X:Cx}
end
section
variable {X:Cx}
end
end L2
namespace PySem
open Sem (wp)
section
variable {prog:Program} {w:World} {K:Type} [DecidableEq K] (knd:KeyKind prog w K)
variable {knd}
variable {A:Around} {E:Value->Shared->Prop} {s:Shared}
end
end PySem
namespace PySem
open Sem (wp)
namespace F
end F
section
variable {prog:Program} {w:World} {A:Around} {E:Value->Shared->Prop} {s:Shared}
end
section
variable {prog:Program} {w:World} {K:Type} [DecidableEq K] {knd:HeapKind prog w K} {A:Around} {E:Value->Shared->Prop} {s:Shared}
end
end PySem
namespace L2
open PySem PySem.Spec PyProof.Rows
section
variable {X:Cx} {o i:Expr} {pos:Pos} {td ty:TE}
end
end L2
namespace L2.F2
open PySem PySem.Spec PyProof.Rows
end L2.F2
namespace L2
open PySem PySem.Spec PyProof.Rows
section
variable {prog:Program} {w:World} {A:Around} {E:Value->Shared->Prop} {s:Shared}
end
section
variable {X:Cx} {tg:Expr}
end
end L2
set_option maxHeartbeats 1000000
namespace L2
open PySem PySem.Spec PyProof.Rows
section
variable {X:Cx}
theorem DQ {i:Nat} (h:(i:Int)<2 ^ 63):Builtin.List.listFitsIndex (i:Int)=true:=by
 unfold Builtin.List.listFitsIndex
 rw[Z2]
 exact ⟨decide_eq_true (by omega),decide_eq_true (by omega)⟩
def Hg:V->List V->Hp->VK->Prop:=fun x vs H Q=> ∃(l:Addr) (xs:List V) (i:Nat) (y:V),x= .ref l/\vs=[.int i,y]/\H l=some (.lst xs)/\i<=xs.length/\xs.length<sizeLine/\Q .ft (upd H l (.lst (xs.take i++y::xs.drop i)))
theorem BK:MC X "list.insert" Hg:=by
 intro pins s σ H x vs v us Q I rx rv h
 obtain ⟨l,xs,i,y,rfl,rfl,hH,hi,hz,q⟩:=h
 cases rx
 obtain ⟨a,b,rfl,⟨t,rfl⟩,rb⟩:=vals2 rv
 obtain ⟨z,aJ,n,r,hl,e⟩:=I.tD hH
 have hn:=fT
 have hf: ¬(!Builtin.List.listFitsIndex (i:Int))=true:=by rw[DQ (by omega)];decide
 have hsz:aJ.toArray.size<=sizeLine:=by rw[WD];omega
 generalize hI:(i:Int)=I' at hf
 have hm:=PySem.AutoSeq1.list_insert_list_int_val_1 l aJ.toArray n I' t b hf hsz
 refine call_meets F.slot_list_insert ⟨_,e,rfl⟩ F.entry_list_insert (F.args_list_insert_3 _ _ _) hm ⟨e,?_⟩
 clear hm
 refine ⟨.ft,_,I.Bm (its':=aJ.take i++b::aJ.drop i) hH e ?_ ?_ ?_,rfl,q⟩
 ·have e1:(if I'<0 then (I'+(aJ.toArray.size:Int)).toNat else min I'.toNat aJ.toArray.size)=i:=by rw[<-hI,if_neg (by omega),WB,WD];omega
  show ((aJ.toArray.extract 0 (if I'<0 then (I'+(aJ.toArray.size:Int)).toNat else min I'.toNat aJ.toArray.size)).push b++aJ.toArray.extract (if I'<0 then (I'+(aJ.toArray.size:Int)).toNat else min I'.toNat aJ.toArray.size))=_
  rw[e1]
  apply Qb1.mp
  simp
  exact ZO (by rw[ZL];exact Q3 _)
 ·have h1:Vals (xs.take i) (aJ.take i):=r.take i
  exact h1.append (.cons rb (r.drop i))
 ·rw[UY,ZQ,ZD,ZL];omega
end
end L2
namespace L2
open PySem PySem.Spec PyProof.Rows PySem.W
section
section
variable {lt:Nat->Nat->Bool} {n:Nat}
end
end
section
variable {prog:Program} {w:World} {A:Around} {E:Value->Shared->Prop} {s:Shared}
end
section
variable {X:Cx}
end
section
variable {X:Cx} {tg:Expr}
end
section
variable {X:Cx} {tg:Expr}
end
end L2
namespace L2
open PySem PySem.Spec PyProof.Rows PySem.MeetsSeq PySem.SeqAt
section
variable {X:Cx}
end
section
variable {prog:Program} {w:World} {A:Around} {E:Value->Shared->Prop} {s:Shared}
variable {z TI TO i1 i2:Addr} {f1 f2:List Addr} {n1 n2 i:Nat} {P1 P2:Nat->Value->Prop} {S1 S2:Nat->Heap->Prop} {a b:Value}
end
section
variable {X:Cx} {nx:Str} {pos':Pos} {a b:Expr} {ta:TA} {p pos:Pos}
end
end L2
namespace L2
open PySem PySem.Spec PyProof.Rows HT
section
variable {prog:Program} {w:World} {A:Around} {E:Value->Shared->Prop} {s:Shared}
theorem kL {t sl:Addr} {items:Array Value} {vl vu:Value} {lo hi:Option Int} {Q:Value->Shared->Prop} (ht:IsTup s.heap t items) (hs:s.heap.IsSliceOf sl vl vu .none) (pl:IsPart vl lo) (pu:IsPart vu hi)
  (hw:cM items.size 0 lo=0/\cM items.size items.size hi=items.size) (h:Q (.ref t) s):wpAny (model prog w) A (getItem (.ref t) (.ref sl)) Q E s:=by
 obtain ⟨os,CH,MA,OY⟩:=id hs
 have SI:s.TypeIs (.ref sl) "slice":=⟨os,CH,MA⟩
 unfold getItem
 try with_reducible refine wpAny_holding ?_
 first | refine wpAny_bind (wpAny_pure ?_) | skip
 refine wpAny_bind (wpAny_sequenceKey ht.typeIs (by decide) ?_)
 refine wpAny_bind (wpAny_callSpecial?_slot (name:=Str.ofString "__getitem__") ht.typeIs Qa4
  (wpAny_call_entry Qa4 ht.typeIs entry_tuple_getitem ?_ (args_tuple_getitem _ _)))
 show wpAny _ _ (Builtin.Tuple.tupleItemsOf (.ref t) >>= _) _ _ s
 refine wpAny_bind (tupleItemsOf_ ht ?_)
 refine wpAny_bind (wpAny_typeOf SI ?_)
 rw[if_pos (by decide)]
 refine wpAny_bind (gO hs pl pu ?_)
 show wpAny _ _ (if (((cM items.size 0 lo:Nat):Int)==0&&(1:Int)==1&&(cM items.size items.size hi - cM items.size 0 lo)==items.size)=true then _ else _) _ _ s
 rw[if_pos (by rw[hw.1,hw.2];simp)]
 show wpAny _ _ (Builtin.Tuple.tupleIsExact (.ref t) >>= _) _ _ s
 refine wpAny_bind (m:=Builtin.Tuple.tupleIsExact (.ref t)) (wpAny_bind (wpAny_typeOf ht.typeIs (wpAny_pure ?_)))
 show wpAny _ _ (if true=true then _ else _) _ _ s
 rw[if_pos rfl]
 exact wpAny_bind (wpAny_rule (wpAny_pure ⟨_,rfl,wpAny_pure h⟩))
end
section
variable {X:Cx}
def Tz:V->Option Int->Option Int->Hp->VK->Prop:=fun x lo hi H Q=> ∃a xs,x= .ref a/\H a=some (.tup xs)/\
 ∀p H',(∀c o,H c=some o->H' c=some o)->H' p=some (.tup (iS xs lo hi))->Q (.ref p) H'
theorem Hh:O0 X Tz:=by
 intro pins s σ H x v vl vu lo hi sl Q I rx hs pl pu h
 obtain ⟨a,xs,rfl,hx,q⟩:=h
 cases rx
 obtain ⟨aJ,r,ht,hz⟩:=I.tuple (bV.of hx)
 have hlen:aJ.toArray.size=xs.length:=by rw[WD];exact r.length.symm
 refine ⟨"tuple",_,Qa4.lookup,ht.typeIs,?_⟩
 by_cases hw:HT.cM xs.length 0 lo=0/\HT.cM xs.length xs.length hi=xs.length
 ·refine kL ht hs pl pu (by rw[hlen];exact hw) ⟨.ref a,H,I,rfl,q a H (fun _ _ e=>e) ?_⟩
  unfold iS
  rw[hw.1,hw.2,List.drop_zero,Qd4,Qad]
  exact hx
 refine HT.kC ht hs pl pu (by rw[hlen];exact hw) ?_ (by rw[hlen];exact hz)
 rw[hlen]
 have n:=I.bW.fresh (Q3 s.heap.objs.size)
 refine ⟨.ref s.heap.objs.size,_,I.laid (t':=s.toks) (o:= .tup (iS xs lo hi)) (fun b ob q=>MD _ q) (Q3 _) ?_,rfl,q _ _ (fun c o e=>?_) ah⟩
 ·exact ⟨ZW (iT xs lo hi) hz,_,(r.drop (HT.cM xs.length 0 lo)).take (HT.cM xs.length xs.length hi - HT.cM xs.length 0 lo),IsTup.new _ _⟩
 ·rw[ay (fun z=>by rw[z,n]at e;cases e)];exact e
end
section
variable {X:Cx} {o i e value tg:Expr} {pos pos' OP:Pos} {td ty tv:TE} (K:PySem.W.Frag) (P:Program) (w:World)
end
section
variable {X:Cx}
end
section
variable {X:Cx}
end
section
variable {X:Cx} {tg:Expr}
end
end L2
set_option maxHeartbeats 1000000
namespace L2
open PySem PySem.Spec PyProof.Rows
section
variable {prog:Program} {w:World} {A:Around} {E:Value->Shared->Prop} {s:Shared}
end
section
variable {X:Cx} {a b:Expr} {ta:TA} {p p2 pos Xa:Pos}
end
end L2
set_option maxHeartbeats 1000000
namespace L2
open PySem PySem.Spec PyProof.Rows
section
variable {prog:Program} {w:World} {A:Around} {E:Value->Shared->Prop} {s:Shared} {κ:KeyKind} {a₀:Array Keyed}
end
section
variable {prog:Program} {w:World} {A:Around} {E:Value->Shared->Prop} {s:Shared} {κ:KeyKind} {a₀:Array Keyed}
end
end L2
set_option maxHeartbeats 1000000
namespace L2
open PySem PySem.Spec PyProof.Rows
section
variable {prog:Program} {w:World} {A:Around} {E:Value->Shared->Prop} {s:Shared} {κ:KeyKind} {a₀:Array Keyed}
end
section
variable {prog:Program} {w:World} {A:Around} {E:Value->Shared->Prop} {s:Shared} {κ:KeyKind} {a₀:Array Keyed}
end
end L2
set_option maxHeartbeats 1000000
namespace L2
open PySem PySem.Spec PyProof.Rows
section
variable {prog:Program} {w:World} {A:Around} {E:Value->Shared->Prop} {s:Shared}
end
section
variable {X:Cx}
end
end L2
set_option maxHeartbeats 1000000
namespace L2
open PySem PySem.Spec PyProof.Rows
section
variable {X:Cx}
end
end L2
set_option maxHeartbeats 1000000
namespace L2
open PySem PySem.Spec PyProof.Rows
section
variable {prog:Program} {w:World} {A:Around} {E:Value->Shared->Prop} {s:Shared} {kd:SortKind} {lt:Keyed->Keyed->Bool} {a₀:Array Keyed}
end
end L2
set_option maxHeartbeats 1000000
namespace L2
open PySem PySem.Spec PyProof.Rows
section
variable {lt:Keyed->Keyed->Bool}
variable {a b out:Array Keyed} {ia ib k:Nat} {p q:Keyed}
end
section
variable {prog:Program} {w:World} {A:Around} {E:Value->Shared->Prop} {s:Shared} {kd:SortKind} {lt:Keyed->Keyed->Bool} {a₀:Array Keyed}
end
end L2
set_option maxHeartbeats 1000000
namespace L2
open PySem PySem.Spec PyProof.Rows
section
variable {lt:Keyed->Keyed->Bool}
variable {a b out:Array Keyed} {na nb k:Nat} {p q:Keyed}
end
section
variable {prog:Program} {w:World} {A:Around} {E:Value->Shared->Prop} {s:Shared} {kd:SortKind} {lt:Keyed->Keyed->Bool} {a₀:Array Keyed}
end
end L2
set_option maxHeartbeats 1000000
namespace L2
open PySem PySem.Spec PyProof.Rows
section
variable {lt:Keyed->Keyed->Bool}
end
section
variable {prog:Program} {w:World} {A:Around} {E:Value->Shared->Prop} {s:Shared} {kd:SortKind} {lt:Keyed->Keyed->Bool} {a₀:Array Keyed}
end
section
variable {prog:Program} {w:World} {A:Around} {E:Value->Shared->Prop} {s:Shared} {kd:SortKind} {lt:Keyed->Keyed->Bool} {a₀:Array Keyed}
end
end L2
set_option maxHeartbeats 1000000
namespace L2
open PySem PySem.Spec PyProof.Rows
section
variable {prog:Program} {w:World} {A:Around} {E:Value->Shared->Prop} {s:Shared} {kd:SortKind} {lt:Keyed->Keyed->Bool} {a₀:Array Keyed}
end
end L2
set_option maxHeartbeats 1000000
namespace L2
open PySem PySem.Spec PyProof.Rows
theorem tU: ∀a b c:List Int,a_ b a=false->a_ c b=false->a_ c a=false
 | [],[],[],_,_=>rfl
 | [],[],_::_,_,h=>h
 | [],_::_,[],_,_=>rfl
 | [],_::_,_::_,_,_=>rfl
 | _::_,[],_,h,_=>by cases h
 | _::_,_::_,[],_,h=>by cases h
 | x::a,y::b,z::c,h,g=>by
  have h':(if y=x then a_ b a else decide (y<x))=false:=h
  have g':(if z=y then a_ c b else decide (z<y))=false:=g
  show (if z=x then a_ c a else decide (z<x))=false
  by_cases e1:y=x
  ·rw[if_pos e1]at h'
   by_cases e2:z=y
   ·rw[if_pos e2]at g'
    rw[if_pos (e2.trans e1)]
    exact tU a b c h' g'
   ·rw[if_neg e2]at g'
    rw[if_neg fun w=>e2 (w.trans e1.symm), <-e1]
    exact g'
  ·rw[if_neg e1]at h'
   have q1:=of_decide_eq_false h'
   by_cases e2:z=y
   ·rw[if_neg fun w=>e1 (e2.symm.trans w),e2];exact h'
   ·rw[if_neg e2]at g'
    have q2:=of_decide_eq_false g'
    rw[if_neg (by omega)]
    exact decide_eq_false (by omega)
open Classical in
section
variable {prog:Program} {w:World} {A:Around} {E:Value->Shared->Prop} {s:Shared}
end
section
variable {X:Cx}
end
section
variable {X:Cx} {e st:Expr} {te:TE} {ts:TO} {pos p2:Pos}
theorem BL (l:List Nat) (t tk:Tok):sliceMade (S l) t none none (some (-1,tk))= .str (S l.reverse):=by
 unfold sliceMade
 rw[if_neg (by simp)]
 have e:slicePicked (S l) none none (some (-1,tk))=(List.range (S l).cps.size).reverse:=by
  rw[<-PySem.W.krv_range, <-PySem.W.krv_sliceRange]
  rfl
 rw[e,List.filterMap_reverse,PySem.W.krv_all,fU]
 rfl
def P6 (te:TE) (ts:TO):TE:=fun σ H Q=>te σ H fun x H1=>ts σ H1 fun o H2=>o=some (-1)/\ ∃l,x= .str (S l)/\l.length<=sizeLine/\Q (.str (S l.reverse)) H2
theorem Hi (he:PE X e te) (hs:PO X (some st) ts):PE X (.Subscript e (.Slice none none (some st) p2) pos) (P6 te ts):=by
 intro pins s σ H Q I h
 refine Subscript_ (cg (he pins s σ H _ I h) fun v s1 ⟨x,H1,I1,r1,q1⟩=>?_)
 refine wpAny_Slice ?_
 rw[evalPart_none]
 refine wpAny_pure (wpAny_pure (cg (hs pins s1 σ H1 _ I1 q1) fun vk s3 ⟨o,H3,I3,pk,eo,l,ex,hz,q3⟩=>?_))
 subst eo ex
 obtain ⟨t,rfl⟩:=r1
 cases pk with
 | int i tk=>
 have I4:Inv X pins σ H3 { s3 with heap:=s3.heap.push { cls:= .type "slice",data:= .fields #[.none, .none, .int (-1) tk] } }:=I3.kept (t':=s3.toks) fun b ob q=>MD _ q
 show wpAny (model X.prog X.w) X.A (subscriptTail e (.Slice none none (some st) p2) (.str (S l) t) (.ref s3.heap.objs.size)) (EP X pins σ Q) X.xe { s3 with heap:=s3.heap.push { cls:= .type "slice",data:= .fields #[.none, .none, .int (-1) tk] } }
 refine tail_any (ops:=[.str (S l) t, .ref s3.heap.objs.size]) (typeIs_str _ _ _) F.slot_str_getitem.lookup (wpAny_getItem_str_slice (l:=none) (u:=none) (st:=some (-1,tk)) ⟨_,ZF _ rfl,rfl,rfl⟩ rfl ?_) (by with_unfolding_all rfl)
 rw[BL]
 refine ⟨by rw[dk,Z0];exact hz,?_⟩
 exact ⟨.str (S l.reverse),H3,I4.tok _,⟨_,rfl⟩,q3⟩
end
end L2
namespace PySem
open PySem.Spec PyProof.Rows
section
variable {M:Model} {A:Around} {E:Value->Shared->Prop} {s₀ s:Shared} {m cm:Str->Option Value} {env:Env}
end
end PySem
namespace L2
open PySem PySem.Spec PyProof.Rows
section
variable {P:Program} {w:World} {K:PySem.W.Frag} {mg:Str->Option Value} {base:Heap}
end
section
variable {X:Cx} {n:Nat} {p:Value->Shared->Prop}
end
section
variable {X:Cx}
end
section
variable {X:Cx}
end
section
variable {X:Cx}
end
section
variable {X:Cx}
end
section
variable {X:Cx}
end
end L2
set_option maxHeartbeats 1000000
namespace L2
open PySem PySem.Spec PyProof.Rows
section
variable {prog:Program} {w:World} {A:Around} {E:Value->Shared->Prop} {s:Shared}
end
section
variable {X:Cx}
end
section
variable {X:Cx}
end
section
variable {X:Cx}
end
section
variable {X:Cx}
end
end L2
set_option maxHeartbeats 4000000
namespace L2
open PySem PySem.Spec PyProof.Rows
section
variable {X:Cx} {K:PySem.W.Frag} {CX:Bh} {k1 k2:Nat} {f1 f2:Addr} {Vh Vi:FuncData} {Vj Vk:List Str} {Q_ Ra:Sp} {E:XK} {x f:Str} {p pos pos':Pos} {e o value:Expr} {es:List Expr} {ta tv:TE} {t:TA}
theorem bL (K:PySem.W.Frag) (hK:X.K=K) (he:PE X e ta) (hb:attributeBase e f X.env (eval e X.env)=eval e X.env):PE X (.Attribute e f pos) (OO K ta f):=by subst hK;exact Ki he hb
def DR (f1 f2:Addr) (Q_ Ra:Sp) (E:XK) (ta:TE) (t:TA):TE:=fun σ H Q=>ta σ H fun v H1=>(v= .ref f1/\t σ H1 fun vs H2=>Q_ vs H2 Q E)\/(v= .ref f2/\t σ H1 fun vs H2=>Ra vs H2 Q E)
theorem kM (hf:PE X (.Name x p) ta) (F1:bA X.prog X.w X.K X.mg X.base CX k1 f1 Vh Vj Q_) (Jr:eY k1 X.A) (MH:PySem.W.keepIn X.K (.ref f1)=true) (BM:Binds X.K Vh Vj []) (F2:bA X.prog X.w X.K X.mg X.base CX k2 f2 Vi Vk Ra) (P7:eY k2 X.A) (ym:PySem.W.keepIn X.K (.ref f2)=true) (m4:Binds X.K Vi Vk []) (hx:Passes CX X E)
  (ha:PA X (e::es) t) (he:starEach (e::es) X.env=(false,eval e X.env)::starEach es X.env:=by rfl) (jt:(backTo pos (starEach es X.env)).any (·.1)=false:=by rfl):
  PE X (.Call (.Name x p) (e::es) [] pos) (DR f1 f2 Q_ Ra E ta t):=by
 intro pins s σ H Q I h
 refine wpAny_Call_Name_kw (cg (hf pins s σ H _ I h) fun u s1 ⟨v,H1,I1,r,q⟩=>?_)
 rcases q with ⟨rfl,q⟩ | ⟨rfl,q⟩
 ·obtain rfl:u=Value.ref f1:=r
  refine Qc2 (h₀:=X.base) I1.ok.mod.Mv MH (cg (ha pos pins s1 σ H1 _ I1 q) fun us s2 ⟨vs,H2,I2,r2,q2⟩=>⟨I2.nP,?_⟩) he jt
  exact xT (dvs:=[]) (ds:=[]) F1 Jr BM .nil hx I2 r2 (by rw[Z3];exact q2)
 ·obtain rfl:u=Value.ref f2:=r
  refine Qc2 (h₀:=X.base) I1.ok.mod.Mv ym (cg (ha pos pins s1 σ H1 _ I1 q) fun us s2 ⟨vs,H2,I2,r2,q2⟩=>⟨I2.nP,?_⟩) he jt
  exact xT (dvs:=[]) (ds:=[]) F2 P7 m4 .nil hx I2 r2 (by rw[Z3];exact q2)
end
end L2
set_option maxHeartbeats 4000000
namespace L2
open PySem PySem.Spec PyProof.Rows
section
variable {prog:Program} {w:World} {A:Around} {E:Value->Shared->Prop} {R:Result->Shared->Prop} {I S:Addr} {fp wr:List Addr} {n:Nat} {P:Nat->Value->Prop} {St:Nat->Heap->Prop} {kw:List (Str×Value)} {bt:Nat->Nat->Bool}
theorem z6:(toString "max"++toString ".loop":String)="max.loop":=by decide
theorem P8 (W:Walks prog w A.in1 I fp wr n P St) (cm:CmpOf prog w A.in1 .Gt P bt) (sf:S∉fp): ∀(m j:Nat) (s:Shared) (b:Value) (c:Nat),n=j+1+m->St (j+1) s.heap->P (argBest bt j) b->s.heap.get? S=some { cls:= .type "list",dict:=none,data:= .seq #[b,b] c,slots:= #[] }->
  (∀v h' tk,P (argBest bt (n - 1)) v->(∀a o,a∉wr->a≠S->s.heap.get? a=some o->h'.get? a=some o)->R (.ok (.ret v)) { s with heap:=h',toks:=tk })->
  codeAny (model prog w) A (.builtin "max.loop" ⟨[.ref I, .none, .ref S],kw⟩) R s:=by
 have sw:S∉wr:=fun z=>sf (W.sub _ z)
 intro m
 induction m with
 | zero=>
  intro j s b c en kx hb hS hR
  have e1:n=j+1:=en
  subst e1
  refine codeAny_builtin Qdi ?_
  rw[Around.under_plainId Qa1 _]
  refine wpAny_bind (m:=seqItems? (.ref S)) (wpAny_seqItems hS rfl ?_)
  refine wpAny_bind (m:=tryCatch (pyNext (.ref I)) _) (wpAny_tryCatch (W.done s _ _ kx fun h1 tk k1=>?_))
  refine wpAny_bind (m:=updateSeq S fun _=> #[]) (wpAny_updateSeq (k1 S _ sw hS) rfl (wpAny_bind (wpAny_letGo (wpAny_pure ?_))))
  exact hR b _ tk hb fun a o aw aS ea=>(Z_ _ _ (Ne.symm aS)).trans (k1 a o aw ea)
 | succ m ih=>
  intro j s b c en kx hb hS hR
  refine codeAny_builtin Qdi ?_
  rw[Around.under_plainId Qa1 _]
  refine wpAny_bind (m:=seqItems? (.ref S)) (wpAny_seqItems hS rfl ?_)
  refine wpAny_bind (m:=tryCatch (pyNext (.ref I)) _) (wpAny_tryCatch (W.item (j+1) s _ _ (by omega) kx fun v h1 tk pv xq k1=>?_))
  have MI:=k1 S _ sw hS
  refine wpAny_bind (m:=tryCatch (holding [v,v] (richCompare .Gt v b >>= _)) _) (wpAny_tryCatch (wpAny_holding (wpAny_bind (cm (j+1) (argBest bt j) v b _ _ _ pv hb (wpAny_bind (wpAny_holding (wpAny_truthy_bool (wpAny_bind (wpAny_letGo (wpAny_pure ?_))))))))))
  cases q:bt (j+1) (argBest bt j)
  ·rw[if_neg (by decide)]
   refine wpAny_bind (wpAny_letGo ?_)
   rw[z6]
   refine wpAny_pure ⟨plainId_quiet Qa1 _,ih (j+1) _ b c (by omega) xq (by rw[argBest,q];exact hb) MI fun v' h2 P9 p2 k2=>?_⟩
   exact hR v' h2 P9 p2 fun a o aw aS ea=>k2 a o aw aS (k1 a o aw ea)
  ·rw[if_pos rfl]
   refine wpAny_bind (wpAny_updateSeq MI rfl (wpAny_bind (wpAny_letGo ?_)))
   rw[z6]
   refine wpAny_pure ⟨plainId_quiet Qa1 _,ih (j+1) _ v _ (by omega) (W.frame _ _ _ xq fun a af o ea=>?_) (by rw[argBest,q];exact pv) (Qax _ MI rfl) fun v' h2 P9 p2 k2=>?_⟩
   ·exact (Z_ _ _ (fun z:S=a=>sf (z▸af))).trans ea
   ·exact hR v' h2 P9 p2 fun a o aw aS ea=>k2 a o aw aS ((Z_ _ _ (Ne.symm aS)).trans (k1 a o aw ea))
theorem P_ (a d:Value):argsOk "max" ⟨[a],[(Str.ofString "default",d)]⟩:=by unfold argsOk;kernel_rfl
theorem Hj {s:Shared} {x d:Value} {Q:Value->Shared->Prop}
  (h:wpAny (model prog w) A.in1 (pyIter x) (fun it s₂=> ∃I fp wr n P St bt,it= .ref I/\Walks prog w A.in1 I fp wr n P St/\St 0 s₂.heap/\(∀b∈fp,b<s₂.heap.objs.size)/\CmpOf prog w A.in1 .Gt P bt/\
   ∀v h' tk,(n=0->v=d)->(0<n->P (argBest bt (n - 1)) v)->(∀b o,b∉wr->s₂.heap.get? b=some o->h'.get? b=some o)->Q v { s₂ with heap:=h',toks:=tk }) E s):
  wpAny (model prog w) A (call (.builtin "max") [x] [(Str.ofString "default",d)]) Q E s:=by
 refine kmk_tree PySem.F.kind_max PySem.F.plain_max PySem.F.entry_max (P_ x d) ?_
 refine wpAny_bind (m:=Builtin.Builtins.bindParams "max" ["key","default"] 0 ⟨[],[(Str.ofString "default",d)]⟩) (wpAny_of_eq (a:=[none,some d]) rfl ?_)
 refine wpAny_bind (wpAny_pure (wpAny_bind (wpAny_mono h (fun it s2 h2=>?_) fun _ _ e=>e)))
 obtain ⟨I,fp,wr,n,P,St,bt,rfl,W,kx,Xb,cm,hQ⟩:=h2
 refine wpAny_bind (wpAny_newObj_type ?_)
 have sf:s2.heap.objs.size∉fp:=fun z=>kb _ (Xb _ z)
 have sw:s2.heap.objs.size∉wr:=fun z=>sf (W.sub _ z)
 have hS:(s2.heap.push { cls:= .type "list",data:= .seq #[] }).get? s2.heap.objs.size=some { cls:= .type "list",dict:=none,data:= .seq #[] 0,slots:= #[] }:=ZF _ rfl
 have Qa:=W.frame _ _ (s2.heap.push { cls:= .type "list",data:= .seq #[] }) kx fun b _ o e=>MD _ e
 have lo: ∀{b o},s2.heap.get? b=some o->b≠s2.heap.objs.size:=fun e=>ZH (ZC e)
 rw[z6]
 refine wpAny_pure ⟨plainId_quiet Qa1 _,codeAny_builtin Qdi ?_⟩
 rw[Around.under_plainId Qa1 _]
 refine wpAny_bind (m:=seqItems? (.ref s2.heap.objs.size)) (wpAny_seqItems hS rfl ?_)
 cases n with
 | zero=>
  refine wpAny_bind (m:=tryCatch (pyNext (.ref I)) _) (wpAny_tryCatch (W.done _ _ _ Qa fun h1 tk k1=>?_))
  refine wpAny_bind (wpAny_rule ?_)
  refine wpAny_pure (hQ d h1 tk (fun _=>rfl) (fun z=>absurd z (kb _)) fun b o bw e=>k1 b o bw (MD _ e))
 | succ m=>
  refine wpAny_bind (m:=tryCatch (pyNext (.ref I)) _) (wpAny_tryCatch (W.item 0 _ _ _ (Nat.succ_pos _) Qa fun v h1 tk pv xq k1=>?_))
  have MI:=k1 _ _ sw hS
  refine wpAny_bind (m:=updateSeq s2.heap.objs.size fun _=> #[v,v]) (wpAny_updateSeq MI rfl ?_)
  rw[z6]
  refine wpAny_pure ⟨plainId_quiet Qa1 _,P8 W cm sf m 0 _ v _ (by omega) (W.frame _ _ _ xq fun a af o ea=>?_) pv (Qax _ MI rfl) fun v' h2 P9 p2 k2=>?_⟩
  ·exact (Z_ _ _ (fun z:s2.heap.objs.size=a=>sf (z▸af))).trans ea
  ·exact hQ v' h2 P9 (fun z=>by omega) (fun _=>p2) fun b o bw e=>k2 b o bw (lo e) ((Z_ _ _ (Ne.symm (lo e))).trans (k1 b o bw (MD _ e)))
end
noncomputable def K3 (d:Int):List Int->Int
 | []=>d
 | a::r=>r.foldl (fun x y=>if y>x then y else x) a
noncomputable def eZ (l:List Int) (i j:Nat):Bool:=decide (l.getD i 0>l.getD j 0)
theorem kN (l:List Int): ∀n:Nat,n<l.length->l.getD (argBest (eZ l) n) 0=((l.drop 1).take n).foldl (fun x y=>if y>x then y else x) (l.getD 0 0)
 | 0,_=>by simp[argBest]
 | n+1,h=>by
  have ih:=kN l n (by omega)
  have e:(l.drop 1).take (n+1)=(l.drop 1).take n++[l.getD (n+1) 0]:=by
   rw[Qc6,Qa6,show 1+n=n+1 by omega,Y3,Kw h]
   rfl
  rw[e,List.foldl_append, <-ih]
  show l.getD (if eZ l (n+1) (argBest (eZ l) n)=true then n+1 else argBest (eZ l) n) 0=if l.getD (n+1) 0>l.getD (argBest (eZ l) n) 0 then l.getD (n+1) 0 else l.getD (argBest (eZ l) n) 0
  by_cases z:l.getD (n+1) 0>l.getD (argBest (eZ l) n) 0
  ·rw[if_pos (show eZ l (n+1) (argBest (eZ l) n)=true from decide_eq_true z),if_pos z]
  ·rw[if_neg (show ¬eZ l (n+1) (argBest (eZ l) n)=true from fun w=>z (of_decide_eq_true w)),if_neg z]
section
variable {X:Cx}
theorem DS {prog:Program} {w:World} {A:Around} {l:List Int} {aJ:List Value} (r:Vals (l.map V.int) aJ):CmpOf prog w A .Gt (fun i v=>aJ.toArray[i]? =some v) (eZ l):=by
 intro i j vi vj s Q E hi hj hQ
 have get: ∀{i:Nat} {v:Value},aJ.toArray[i]? =some v-> ∃t,v= .int (l.getD i 0) t:=by
  intro i v h
  have h':aJ[i]? =some v:=by simpa using h
  have hl:i<l.length:=by have:=(Kx.mp h').1;rw[<-r.length,UX]at this;exact this
  obtain ⟨u,hu,ru⟩:=r.get (i:=i) (x:=V.int (l.getD i 0)) (by rw[ZA,Y3,Kw hl];rfl)
  rw[h']at hu;cases hu
  exact ru
 obtain ⟨t,rfl⟩:=get hi
 obtain ⟨u,rfl⟩:=get hj
 exact gt_int hQ
def Qb (K:PySem.W.Frag) (d:Int) (t:TA):TE:=fun σ H Q=>t σ H fun vs H1=> ∃(p:Addr) (l:List Int),vs=[.ref p]/\br K H1 p (l.map V.int)/\Q (.int (K3 d l)) H1
theorem Hk {e:Expr} {t:TA} {d:Int} {j:Nat} {kp cp p pos:Pos} (K:PySem.W.Frag) (hK:X.K=K) (hc:X.calm=true) (hg:Gl X "max") (hm:X.mg "max"=none) (ha:PA X [e] t)
  (he:backTo pos (starEach [e] X.env)=[(false,eval e X.env)]:=by rfl):PE X (.Call (.Name "max" p) [e] [⟨some "default", .Constant (.int d) j cp,kp⟩] pos) (Qb K d t):=by
 subst hK
 intro pins s σ H Q I h
 refine wpAny_Call_Name_kw (gw I hg hm boot_max ?_)
 refine callWith_kw (cg (ha pos pins s σ H _ I h) fun us s1 ⟨vs,H1,I1,r1,q1⟩=>?_) he (by rw[he];rfl)
 obtain ⟨a,l,rfl,hq,q⟩:=q1
 obtain ⟨u,rfl,ru⟩:=vals1 r1
 cases ru
 refine kws_cons (wpAny_Constant_int (kws_nil ?_))
 obtain ⟨aJ,rv,pl,hz⟩:=I1.list hq
 have hlen:aJ.length=l.length:=by rw[<-rv.length,UX]
 have hp:a<s1.heap.objs.size:=by
  obtain ⟨o,n,e,_⟩:=pl
  exact ZC e
 refine Hj (wpAny_pyIter_list pl.isList ?_)
 refine ⟨_,_,_,_,_,_,eZ l,rfl,Walks.list (A:=X.A.in1) (I1.ok.hd hc) s1.heap.objs.size a (ZH hp) aJ.toArray,⟨⟨_,ZF _ rfl,rfl,rfl⟩,?_⟩,fun b hb=>?_,DS rv,fun v h' tk h0 h1 hk=>?_⟩
 ·obtain ⟨o,ho,hr⟩:=pl.isList
  exact ⟨o,MD _ ho,hr⟩
 ·show b<(s1.heap.push _).objs.size
  rw[Qb8]
  exact (Y5.mp hb).elim (fun z=>z▸Qam _) fun z=>(UZ.mp z)▸Qba hp
 ·have ru:RelV (.int (K3 d l)) v:=by
   cases l with
   | nil=>
    have:=h0 (by rw[WD,hlen];rfl)
    subst this
    exact ⟨_,rfl⟩
   | cons b l=>
    have hn:aJ.toArray.size - 1=l.length:=by rw[WD,hlen];rfl
    have hP:=h1 (by rw[WD,hlen];exact Nat.succ_pos _)
    rw[hn]at hP
    have Q6:aJ[argBest (eZ (b::l)) l.length]? =some v:=by simpa using hP
    have hl:argBest (eZ (b::l)) l.length<(b::l).length:=Nat.lt_succ_of_le (argBest_lt _ _)
    have e:=kN (b::l) l.length (Qam _)
    rw[show ((b::l).drop 1).take l.length=l from ZO (Q3 _),Y3,Kw hl]at e
    have e':(b::l)[argBest (eZ (b::l)) l.length]=K3 d (b::l):=e
    obtain ⟨u,hu,ru⟩:=rv.get (i:=argBest (eZ (b::l)) l.length) (x:=V.int (K3 d (b::l))) (by rw[ZA,Kw hl,e'];rfl)
    rw[Q6]at hu;cases hu
    exact ru
  refine ⟨.int (K3 d l),H1,?_,ru,q⟩
  have I2:Inv X pins σ H1 { s1 with heap:=s1.heap.push { cls:= .type "list_iterator",data:= .fields #[.ref a, .int 0 0] },toks:=s1.toks+1 }:=I1.kept (t':=s1.toks+1) fun b o e=>MD _ e
  have f:=I1.ou (H':=H1) (b:=s1.heap.objs.size) (Q3 _) I1.fresh
  exact I2.turned (h':=h') (t':=tk) (it:=s1.heap.objs.size) (fun b o hb e=>hk b o (by simpa using hb) e) f.1 f.2.1 f.2.2.2.1 f.2.2.2.2.1 f.2.2.2.2.2
end
end L2
set_option maxHeartbeats 1000000
namespace L2
open PySem PySem.Spec PyProof.Rows
section
variable {X:Cx}
theorem K4:OA X .Mult (fun x y H Q=> ∃i j,x= .int i/\y= .int j/\GI i j/\Q (.int (i*j)) H):=by
 intro pins s σ H x y v u Q I r1 r2 h
 obtain ⟨i,j,rfl,rfl,c,q⟩:=h
 obtain ⟨t,rfl⟩:=r1
 obtain ⟨t',rfl⟩:=r2
 exact imul_int ⟨.int _,H,I.tok _,⟨_,rfl⟩,q⟩ c.ok
theorem Hl:OA X .FloorDiv (fun x y H Q=> ∃i j,x= .int i/\y= .int j/\Sx i j/\Q (.int (i / j)) H):=by
 intro pins s σ H x y v u Q I r1 r2 h
 obtain ⟨i,j,rfl,rfl,hc,q⟩:=h
 obtain ⟨t,rfl⟩:=r1
 obtain ⟨t',rfl⟩:=r2
 have h1:(0:Int)<j:=hc.1
 have h2:j<1073741824:=hc.2
 exact ifloordiv_int (by omega) (by rw[Int.fdiv_eq_ediv_of_nonneg i (by omega)];exact ⟨.int _,H,I.tok _,⟨_,rfl⟩,q⟩) (.inl (PyProof.noPylong_small (by omega)))
end
theorem vN: ∀{ls:List Int} {aJ:List Value},Vals (ls.map V.int) aJ->IntsAre aJ ls
 | [],_, .nil=> .nil
 | _::_,_, .cons ⟨t,e⟩ h=>e▸ .cons _ t (vN h)
theorem vO: ∀{ls:List Int} {aJ:List Value},IntsAre aJ ls->Vals (ls.map V.int) aJ
 | _,_, .nil=> .nil
 | _,_, .cons n t h=> .cons ⟨t,rfl⟩ (vO h)
section
variable {prog:Program} {w:World} {A:Around} {E:Value->Shared->Prop} {s:Shared}
theorem tV {Q:Value->Shared->Prop} (hh:A.handled=none) (d:Addr) (aP:List (Key×Value)) (ep:Nat) (ls:List Int) (hk:aP.map (·.1)=ls.map fun l=>Sum.inl l) (hd:(d==sysModules)=false) (hm:s.heap.DictAt (cB prog w) d aP ep) (WN:aP.length<64)
  (h: ∀(h1 h':Heap) (tk:Nat) (a:Addr) (out:Array Value) (CI:List Int) (e:Nat),(∀b o,s.heap.get? b=some o->h1.get? b=some o)->(∀b o,h1.get? b=some o->h'.get? b=some o)->a=h1.objs.size->h'.get? a=some (seqObj "list" out e)->IntsAre out.toList CI->CI.Perm ls->(CI.Pairwise fun a b=> ¬b<a)->Q (.ref a) { s with heap:=h',toks:=tk }):
  wpAny (model prog w) A (call (.builtin "sorted") [.ref d]) Q E s:=by
 refine Calls.call_function_entry kind_sorted plain_sorted entry_sorted (args_sorted1 _) ?_
 unfold Builtin.«sorted»
 refine wpAny_bind (m:=checkCount "sorted" 1 1 _) (wpAny_pure ?_)
 have mZ:(10000:Nat)<sizeLine:=by decide
 refine wpAny_bind (tT (A:=A.in1) (show A.in1.handled=none from hh) d aP ep hd hm (by omega) (fun s' acc Xc hg MJ ho x9=>?_))
 obtain ⟨h1,h2⟩:=x9
 have hlen:aP.length=ls.length:=by have:=congrArg List.length hk;simpa using this
 have rv:Vals (ls.map V.int) acc.toList:=by
  have key: ∀(ls:List Int) (vs:List Value),vs.length=ls.length->(∀(j:Nat) (v:Value),vs[j]? =some v-> ∃l t,ls[j]? =some l/\v=Value.int l t)->Vals (ls.map V.int) vs:=by
   intro ls
   induction ls with
   | nil=>intro vs hl _;have:vs=[]:=Qcu hl;subst this;exact .nil
   | cons l ls ih=>
    intro vs hl hv
    cases vs with
    | nil=>simp at hl
    | cons v vs=>
     obtain ⟨l',t,e1,e2⟩:=hv 0 v rfl
     have Dt:l=l':=by simpa using e1
     subst Dt
     refine .cons ⟨t,e2⟩ (ih vs (by simpa using hl) fun j v' e=>?_)
     obtain ⟨l',t',g1,g2⟩:=hv (j+1) v' (by simpa using e)
     exact ⟨l',t',by simpa using g1,g2⟩
  refine key ls acc.toList (by simpa [<-hlen]using h1) fun j v e=>?_
  obtain ⟨k,x,e1,e2⟩:=h2 j v (by simpa using e)
  have e3:(aP.map (·.1))[j]? =some k:=by rw[ZA,e1];rfl
  rw[hk,ZA]at e3
  cases e4:ls[j]? with
  | none=>rw[e4]at e3;cases e3
  | some l=>
   rw[e4]at e3
   have e5:k=Sum.inl l:=(ZG e3).symm
   subst e5
   obtain ⟨t,e6⟩:=Value.isInt_shape (k:=l) (v:=v) e2
   exact ⟨l,t,rfl,e6⟩
 have hS:=vN rv
 have hn:acc.toList.length=ls.length:=by rw[<-rv.length,UX]
 refine wpAny_bind (wpAny_newList ?_)
 have GF:(s'.heap.push (seqObj "list" acc.toList.toArray 0)).get? s'.heap.objs.size=some (seqObj "list" acc.toList.toArray 0):=ZF _ rfl
 show wpAny _ _ _ _ _ { s' with heap:=s'.heap.push (seqObj "list" acc.toList.toArray 0) }
 refine wpAny_bind (wpAny_holding (wpAny_call_entry slot_list_sort ⟨_,GF,rfl⟩ entry_list_sort (list_sort_tree GF hS (by omega) fun out CI k1 k2 k3=>⟨_,rfl,?_⟩) (args_list_sort _)))
 obtain ⟨e,he⟩:=sortedHeap_at (out:=out) GF
 refine wpAny_pure ⟨_,rfl,?_⟩
 have es: ∀hh:Heap,({ s' with heap:=hh }:Shared)={ s with heap:=hh,toks:=s'.toks }:=fun hh=>by
  cases s;cases s'
  simp only at hg MJ ho
  subst hg MJ ho
  rfl
 show Q (.ref s'.heap.objs.size) { s' with heap:=sortedHeap (s'.heap.push (seqObj "list" acc.toList.toArray 0)) s'.heap.objs.size acc.toList (out) }
 rw[es]
 refine h s'.heap _ _ _ _ CI e Xc (fun b o hb=>?_) rfl he k1 k2 (k3.imp fun h=>Int.not_lt.mpr h)
 have cV:=ZC hb
 rw[sortedHeap_old (ZH cV) (by rw[size_push'];exact Qba cV)]
 exact MD _ hb
end
section
variable {X:Cx}
def Hm:List V->Hp->VK->Prop:=fun xs H Q=> ∃(d:Addr) (aP:List (Key×V)) (ls:List Int),xs=[.ref d]/\H d=some (.dK aP)/\aP.map (·.1)=(ls.map fun l=>Sum.inl l)/\ls.length<64/\ ∀(q:Addr) (ms:List Int),H q=none->ms.Perm ls->(ms.Pairwise fun a b=> ¬b<a)->Q (.ref q) (upd H q (.lst (ms.map V.int)))
theorem qB (hc:X.calm=true):cN X (.builtin "sorted") Hm:=by
 intro pins s σ H xs us Q I r h
 obtain ⟨d,aP,ls,rfl,hd,hk,hn,q⟩:=h
 obtain ⟨u,rfl,ru⟩:=vals1 r
 cases ru
 obtain ⟨hz,TB,vs,kv,o,es,ep,e1,e2,e3,e4,e5,e6⟩:=I.bW d _ hd
 have hlen:vs.length=ls.length:=by
  have a1:=congrArg List.length (z5 kv)
  have a2:=congrArg List.length hk
  simp only[UX]at a1 a2
  omega
 refine tV (s:=s) (I.ok.hd hc) d vs ep ls ((z5 kv).trans hk) TB ⟨o,es,e1,e2,e3,e4,e5,e6⟩ (by omega) fun h1 h' tk a out CI e k1 k2 ea he g1 g2 g3=>?_
 have vE:=g2
 have hv:=vO g1
 have pw:=g3
 have I1:Inv X pins σ H { s with heap:=h1,toks:=tk }:=I.kept k1
 have hsz:(10000:Nat)<sizeLine:=by decide
 have I2:Inv X pins σ (upd H a (.lst (CI.map V.int))) { s with heap:=h',toks:=tk }:=
  I1.laid (t':=tk) (a:=a) (o:= .lst (CI.map V.int)) k2 (by rw[ea];exact Q3 _) ⟨by rw[UX,vE.length_eq];omega,out.toList,e,hv,by simpa [seqObj]using he⟩
 exact ⟨.ref a,_,I2,rfl,q _ _ (I1.bW.fresh (by rw[ea];exact Q3 _)) vE pw⟩
end
end L2
set_option maxHeartbeats 4000000
namespace My
open PySem PySem.Spec PyProof.Rows L2 XL
noncomputable def bf:List Nat:=[97,98,99,100,101,102,103,104,105,106,107,108,109,110,111,112,113,114,115,116,117,118,119,120,121,122]
noncomputable def ka:List Nat:=[65,66,67,68,69,70,71,72,73,74,75,76,77,78,79,80,81,82,83,84,85,86,87,88,89,90]
def Lt (c:Nat):Prop:=c∈bf\/c∈ka
noncomputable instance (c:Nat):Decidable (Lt c):=by unfold Lt;infer_instance
noncomputable def aF (c:Nat):Nat:=if aC c=true then PyProof.Rows.up1 c else PyProof.Rows.lo1 c
theorem tW: ∀c∈bf++ka,c<128/\aF c∈bf++ka/\aF (aF c)=c/\aF c≠c:=by decide+kernel
theorem Lt.mem {c:Nat} (h:Lt c):c∈bf++ka:=Zz.mpr h
theorem Lt.lt {c:Nat} (h:Lt c):c<128:=(tW c h.mem).1
theorem Lt.aF {c:Nat} (h:Lt c):Lt (aF c):=Zz.mp (tW c h.mem).2.1
theorem aR {c:Nat} (h:Lt c):aF (aF c)=c:=(tW c h.mem).2.2.1
theorem hJ {c:Nat} (h:Lt c):aF c≠c:=(tW c h.mem).2.2.2
theorem eV {a b:Nat} (ha:Lt a) (hb:Lt b) (e:My.aF a=My.aF b):a=b:=by rw[<-aR ha,e,aR hb]
theorem vP: ∀c∈bf,oB ka ((bf.idxOf c:Nat):Int)=some (aF c):=by decide+kernel
theorem BN: ∀c∈ka,oB bf ((ka.idxOf c:Nat):Int)=some (aF c):=by decide+kernel
noncomputable def gK (l:List Nat):List Nat:=(l.map aF).reverse
def aN (b:Addr) (H H':Hp):Prop:= ∀c o,H c=some o->c≠b->H' c=some o
theorem aN.refl (b:Addr) (H:Hp):aN b H H:=fun _ _ h _=>h
theorem aN.trans {b:Addr} {H H1 H2:Hp} (x:aN b H H1) (y:aN b H1 H2):aN b H H2:=fun c o h n=>y c o (x c o h n) n
theorem aN.of {b:Addr} {H H':Hp} (x:ao H H'):aN b H H':=fun c o h _=>x c o h
theorem aN.upd (b:Addr) (H:Hp) (o:HO):aN b H (upd H b o):=fun c o h n=>by rw[ay n];exact h
theorem ao.upd {H:Hp} {p:Addr} {o:HO} (h:H p=none):ao H (L2.upd H p o):=fun c u e=>by rw[ay (ar e h)];exact e
def cP (H:Hp) (b:Addr):Prop:= ∃x y:Int,H b=some (.lst [.int x, .int y])
theorem cP.same {H H':Hp} {b:Addr} (h:cP H b) (s:ao H H'):cP H' b:=let ⟨x,y,e⟩:=h;⟨x,y,s _ _ e⟩
structure Yd (y:List Nat):Prop where
 nd:y.Nodup
 lt: ∀c∈y,Lt c
 cl: ∀c∈y,aF c∈y
def m7 (_:PySem.W.Frag):Sp:=fun vs H Q _=> ∃c,vs=[.str (S [c])]/\c<128/\Q (.str (S [aF c])) H
theorem tX {K:PySem.W.Frag} {vs:List V} {H:Hp} {Q:VK} {E:XK} (h:m7 K vs H Q E):vs.length=1:=by obtain ⟨c,rfl,_⟩:=h;rfl
def rB (_:PySem.W.Frag):Sp:=fun vs H Q _=> ∃c,vs=[.str (S [c])]/\Lt c/\Q (.str (S [aF c])) H
theorem yu {K:PySem.W.Frag} {vs:List V} {H:Hp} {Q:VK} {E:XK} (h:rB K vs H Q E):vs.length=1:=by obtain ⟨c,rfl,_⟩:=h;rfl
def rC (_:PySem.W.Frag):Sp:=fun vs H Q _=> ∃l:List Nat,vs=[.str (S l)]/\(∀c∈l,c<128)/\l.length<=1000/\ ∀H',ao H H'->Q (.str (S (gK l))) H'
theorem yv {K:PySem.W.Frag} {vs:List V} {H:Hp} {Q:VK} {E:XK} (h:rC K vs H Q E):vs.length=1:=by obtain ⟨c,rfl,_⟩:=h;rfl
def z7 (K:PySem.W.Frag):Sp:=fun vs H Q _=> ∃(a:Addr) (ns:List Int) (k:Nat),vs=[.ref a, .int k]/\br K H a (ns.map V.int)/\k<=1000/\ ∀b H',H b=none->cP H' b->ao H H'->Q (.ref b) H'
theorem DT {K:PySem.W.Frag} {vs:List V} {H:Hp} {Q:VK} {E:XK} (h:z7 K vs H Q E):vs.length=2:=by obtain ⟨a,ns,k,rfl,_⟩:=h;rfl
def vQ (_:PySem.W.Frag):Sp:=fun vs H Q _=> ∃(b:Addr) (m:Int),vs=[.ref b, .int m]/\cP H b/\1<=m/\m<1000000/\ ∀(r:Nat) H',(r:Int)<m->cP H' b->aN b H H'->Q (.int r) H'
theorem BO {K:PySem.W.Frag} {vs:List V} {H:Hp} {Q:VK} {E:XK} (h:vQ K vs H Q E):vs.length=2:=by obtain ⟨b,m,rfl,_⟩:=h;rfl
def vR (_:PySem.W.Frag):Sp:=fun vs H Q _=> ∃(b:Addr) (uY top:Nat),vs=[.ref b, .int uY, .int top]/\cP H b/\1<=uY/\uY<=top/\top<=8/\ ∀(y:List Nat) H',Yd y->2*uY<=y.length->y.length<=2*top->cP H' b->aN b H H'->Q (.str (S y)) H'
theorem BP {K:PySem.W.Frag} {vs:List V} {H:Hp} {Q:VK} {E:XK} (h:vR K vs H Q E):vs.length=3:=by obtain ⟨b,m,t,rfl,_⟩:=h;rfl
def lW (K:PySem.W.Frag):Sp:=fun vs H Q _=> ∃(a:Addr) (ns:List Int),vs=[.ref a]/\br K H a (ns.map V.int)/\ns.length<=63/\ ∀H',Q (.bl true) H'
theorem Hn {K:PySem.W.Frag} {vs:List V} {H:Hp} {Q:VK} {E:XK} (h:lW K vs H Q E):vs.length=1:=by obtain ⟨b,m,rfl,_⟩:=h;rfl
theorem rD: ∀l:List Nat,(l.map fun c=>[c]).flatten=l
 | []=>rfl
 | c::l=>by rw[ZJ,Qbu,rD l];rfl
theorem BQ: ∀l:List Nat,((l.map fun c=>[c]).map List.length).sum=l.length
 | []=>rfl
 | c::l=>by
  rw[ZJ,ZJ,Qbd,BQ l]
  show 1+l.length=l.length+1
  omega
theorem gP (l:List Nat):dz l=(l.map fun c=>[c]).map fun l=>V.str (S l):=by unfold dz;rw[Qaf];rfl
theorem z8 (l:List Nat):(dz l).reverse=dz l.reverse:=by unfold dz;rw[Qbz]
theorem dZ (l:List Nat) (c:Nat):dz l++[V.str (S [c])]=dz (l++[c]):=by unfold dz;rw[WC];rfl
theorem take_snoc {α:Type} {l:List α} {i:Nat} {x:α} (h:l[i]? =some x):l.take i++[x]=l.take (i+1):=by rw[Qc6,h];rfl
theorem z9 {ns:List Int} {i:Nat} (h:i<ns.length): ∃z,(ns.map V.int)[i]? =some (V.int z):=⟨ns[i],by rw[ZA,Kw h];rfl⟩
theorem eW {σ:L2.St} {H:Hp} {A B:Hp->Prop} (h:A H):Pb σ H fun b H3=>if b=true then A H3 else B H3:=by
 show (if true=true then A H else B H)
 rw[if_pos rfl]
 exact h
theorem yx (b:Bool) (z:Int): ∃y,oB [V.int 0,V.int z] (if b=true then 1 else 0)=some (V.int y):=by
 cases b
 ·exact ⟨0,rfl⟩
 ·exact ⟨z,rfl⟩
theorem kc {α:Type}: ∀{l:List α} {i:Nat} {x:α},l[i]? =some x->(x::l.eraseIdx i).Perm l
 | [],i,x,h=>by simp at h
 | a::l,0,x,h=>by
  have:a=x:=by simpa using h
  subst this
  exact List.Perm.refl _
 | a::l,i+1,x,h=>by
  have ih:=kc (l:=l) (i:=i) (x:=x) (by simpa using h)
  rw[Qcg]
  exact (List.Perm.swap a x _).trans (List.Perm.cons a ih)
theorem rE (l:List Nat) (i:Nat):(dz l).eraseIdx i=dz (l.eraseIdx i):=by
 unfold dz
 induction l generalizing i with
 | nil=>rfl
 | cons a l ih=>
  cases i with
  | zero=>rfl
  | succ i=>rw[ZJ,Qcg,ih,Qcg,ZJ]
theorem DU {l:List Nat} {i:Nat} (h:i<l.length):(dz l)[i]? =some (V.str (S [l[i]])):=by unfold dz;rw[ZA,Kw h];rfl
theorem Ho (a b:List Nat):dz a++dz b=dz (a++b):=by unfold dz;rw[WC]
theorem BR: ∀c∈bf,aF c∉bf:=by decide+kernel
theorem BS:bf.Nodup:=by decide+kernel
theorem Yd.perm {a b:List Nat} (h:Yd a) (p:a.Perm b):Yd b:=
 ⟨p.nodup_iff.mp h.nd,fun c hc=>h.lt c (p.mem_iff.mpr hc),fun c hc=>p.mem_iff.mp (h.cl c (p.mem_iff.mpr hc))⟩
structure K5 (i:Nat) (L E:List Nat):Prop where
 yd:Yd E
 nd:L.Nodup
 sm: ∀c∈L,c∈bf
 ap: ∀c∈L,c∉E
 ll:L.length=26 - i
 el:E.length=2*i
theorem K5.start:K5 0 bf []:=⟨⟨Qdv,fun _ h=>absurd h Zw,fun _ h=>absurd h Zw⟩,BS,fun _ h=>h,fun _ _ h=>absurd h Zw,rfl,rfl⟩
theorem K5.turn {i r:Nat} {L E:List Nat} (w:K5 i L E) (hi:i<26) (hr:r<L.length):K5 (i+1) (L.eraseIdx r) (E++[L[r],aF L[r]]):=by
 have hp:=kc (l:=L) (Kw hr)
 have hm:L[r]∈L:=ZV hr
 have hs:=w.sm _ hm
 have hl:Lt L[r]:= .inl hs
 have Rb:=hp.nodup_iff.mpr w.nd
 have sub: ∀c∈L.eraseIdx r,c∈L:=fun c hc=>hp.mem_iff.mp (Y4 _ hc)
 have Vl:=w.ap _ hm
 have Xd:aF L[r]∉E:=fun z=>Vl (by have:=w.yd.cl _ z;rwa [aR hl]at this)
 refine ⟨⟨?_,fun c hc=>?_,fun c hc=>?_⟩,(Z6.mp Rb).2,fun c hc=>w.sm c (sub c hc),fun c hc hE=>?_,?_,?_⟩
 ·rw[Qap]
  refine ⟨w.yd.nd,?_,fun a ha b hb z=>?_⟩
  ·rw[Z6]
   refine ⟨fun z=>(hJ hl) (UZ.mp z).symm,Z6.mpr ⟨Zw,Qdv⟩⟩
  ·subst z
   rcases Y5.mp hb with z | z
   ·exact Vl (z▸ha)
   ·exact Xd (UZ.mp z▸ha)
 ·rcases Zz.mp hc with z | z
  ·exact w.yd.lt c z
  ·rcases Y5.mp z with z | z
   ·rw[z];exact hl
   ·rw[UZ.mp z];exact hl.aF
 ·rcases Zz.mp hc with z | z
  ·exact Qa9 _ (w.yd.cl c z)
  ·refine ZS _ ?_
   rcases Y5.mp z with z | z
   ·rw[z];exact Y4 _ (UZ.mpr rfl)
   ·rw[UZ.mp z,aR hl];exact Zy
 ·rcases Zz.mp hE with z | z
  ·exact w.ap c (sub c hc) z
  ·rcases Y5.mp z with z | z
   ·exact (Z6.mp Rb).1 (z▸hc)
   ·have e:c=aF L[r]:=UZ.mp z
    exact BR _ hs (e▸w.sm c (sub c hc))
 ·have:=hp.length_eq
  rw[ZQ,w.ll]at this
  omega
 ·rw[UY,w.el]
  show 2*i+2=_
  omega
theorem aN.dY {b p:Addr} {H H':Hp} {o:HO} (h:aN b H H') (n:H p=none):aN b H (L2.upd H' p o):=fun c u e z=>by rw[ay (ar e n)];exact h c u e z
theorem cP.dY {b p:Addr} {H:Hp} {o:HO} (h:cP H b) (n:p≠b):cP (L2.upd H p o) b:=let ⟨x,y,e⟩:=h;⟨x,y,by rw[ay (Ne.symm n)];exact e⟩
theorem aN.none {b p:Addr} {H H':Hp} (h:aN b H H') (n:H' p=none) (z:p≠b):H p=none:=by
 cases q:H p with
 | none=>rfl
 | some o=>rw[h p o q z]at n;cases n
theorem cP.ne {b p:Addr} {H:Hp} (h:cP H b) (n:H p=none):p≠b:=fun z=>by obtain ⟨x,y,e⟩:=h;rw[<-z,n]at e;cases e
theorem DV {c:Bool} {A B:Prop} (h:c=false) (hB:B):if c=true then A else B:=by rw[h];exact lX hB
theorem TC {c:Bool} {A B:Prop} (h:c=true) (hA:A):if c=true then A else B:=by rw[h];exact vv hA
theorem ck (l:List Nat):(gK l).length=l.length:=by unfold gK;rw[Z0,UX]
theorem Hq {l:List Nat} (h: ∀c∈l,Lt c):gK (gK l)=l:=by
 unfold gK
 rw[Qbz,List.reverse_reverse,Qaf]
 have: ∀c∈l,(aF ∘ aF) c=c:=fun c hc=>aR (h c hc)
 calc l.map (aF ∘ aF)=l.map id:=Qb5 this
  _=l:=Qee l
theorem Js {l:List Nat} (h: ∀c∈l,Lt c): ∀c∈l,c<128:=fun c hc=>(h c hc).lt
theorem vS (a:List Nat):a.take (dz a).length=a:=by rw[aY];exact ZO (Q3 _)
theorem Hr (n:Nat):(List.replicate n true).all id=true:=by rw[Qb0];intro b hb;rw[List.eq_of_mem_replicate hb];rfl
theorem DW (n:Nat):(List.replicate n true).map V.bl++[V.bl true]=(List.replicate (n+1) true).map V.bl:=by rw[List.replicate_succ',WC];rfl
theorem TF {K:PySem.W.Frag} {H H':Hp} {a p:Addr} {xs:List V} (h:br K H a xs) (n:H p=none) (s:aN p H H'):br K H' a xs:=by
 rcases h with (h | ⟨o,h⟩) | h
 ·exact .inl (.inl (s _ _ h (ar h n)))
 ·exact .inl (.inr ⟨o,s _ _ h (ar h n)⟩)
 ·exact .inr h
theorem Hs {α:Type} {l:List α} {lo hi:Option Int} {c:α} (h:c∈cut l lo hi):c∈l:=Qbv (Qa8 h)
theorem aN.same {b:Addr} {H H2 H3:Hp} (n:H b=Option.none) (s:ao H H2) (t:aN b H2 H3):ao H H3:=fun c o e=>t c o (s c o e) (ar e n)
theorem aN.after {p:Addr} {H H1 H2:Hp} (s:aN p H H1) (t:ao H1 H2):aN p H H2:=fun c o e z=>t c o (s c o e z)
noncomputable def gL (ws:List (List Nat)):List V:=ws.map fun l=>V.str (S l)
theorem bM (ws:List (List Nat)):(gL ws).length=ws.length:=by unfold gL;rw[UX]
theorem vT (ws:List (List Nat)) (l:List Nat):gL ws++[V.str (S l)]=gL (ws++[l]):=by unfold gL;rw[WC];rfl
theorem ke {ws:List (List Nat)} {i:Nat} (h:i<ws.length):(gL ws)[i]? =some (V.str (S ws[i])):=by unfold gL;rw[ZA,Kw h];rfl
noncomputable def fE (st:List Nat) (c:Nat):List Nat:=if st.getLast? =some (aF c) then st.dropLast else st++[c]
noncomputable def red (l:List Nat):List Nat:=l.foldl fE []
def yy:List Nat->Prop
 | []=>True
 | [_]=>True
 | a::b::r=>a≠aF b/\yy (b::r)
theorem yy.init: ∀{l:List Nat} {c:Nat},yy (l++[c])->yy l/\l.getLast?≠ some (aF c)
 | [],_,_=>⟨trivial,by simp⟩
 | [a],c,h=>⟨trivial,fun z=>h.1 (by simpa using z)⟩
 | a::b::r,c,h=>by
  have ih:=yy.init (l:=b::r) (c:=c) h.2
  exact ⟨⟨h.1,ih.1⟩,by simpa using ih.2⟩
theorem snoc_cases (l:List Nat):l=[]\/ ∃m a,l=m++[a]:=by
 by_cases h:l=[]
 ·exact .inl h
 ·exact .inr ⟨l.dropLast,l.getLast h,(List.dropLast_concat_getLast h).symm⟩
theorem yy.left: ∀{m l:List Nat},yy (m++l)->yy m
 | [],_,_=>trivial
 | [_],_,_=>trivial
 | a::b::r,l,h=>⟨h.1,yy.left (m:=b::r) (l:=l) h.2⟩
theorem BU {st:List Nat} {c d:Nat} (h:d∈fE st c):d∈st\/d=c:=by
 unfold fE at h
 by_cases e:st.getLast? =some (aF c)
 ·rw[if_pos e]at h
  exact .inl (List.dropLast_subset _ h)
 ·rw[if_neg e]at h
  rcases Zz.mp h with z | z
  ·exact .inl z
  ·exact .inr (UZ.mp z)
theorem fold_same: ∀(l st:List Nat),yy (st++l)->l.foldl fE st=st++l
 | [],st,_=>by simp
 | c::l,st,h=>by
  have h':yy ((st++[c])++l):=by rw[Qat];exact h
  have h2:=(yy.left h').init.2
  rw[Qcw]
  have:fE st c=st++[c]:=by unfold fE;rw[if_neg h2]
  rw[this,fold_same l (st++[c]) h',Qat]
  rfl
theorem DX {l:List Nat} (h:yy l):red l=l:=by
 exact fold_same l [] h
theorem fold_lt: ∀(l st:List Nat),(∀c∈l,Lt c)->(∀c∈st,Lt c)-> ∀c∈l.foldl fE st,Lt c
 | [],_,_,h=>h
 | a::l,st,h1,h2=>fold_lt l _ (fun c hc=>h1 c (Y4 _ hc)) fun c hc=>(BU hc).elim (h2 c) fun z=>z▸h1 a Zy
theorem K6 {l:List Nat} (h: ∀c∈l,Lt c): ∀c∈red l,Lt c:=fold_lt l [] h fun _ h=>absurd h Zw
theorem BV (st:List Nat) (c:Nat):(fE st c).length<=st.length+1:=by
 unfold fE
 by_cases e:st.getLast? =some (aF c)
 ·rw[if_pos e,List.length_dropLast];omega
 ·rw[if_neg e,UY];exact Q3 _
theorem vU: ∀(l st:List Nat),(l.foldl fE st).length<=st.length+l.length
 | [],_=>Q3 _
 | c::l,st=>by
  have:=vU l (fE st c)
  have h2:=BV st c
  rw[Qcw,ZQ]
  omega
theorem kO (l:List Nat):(red l).length<=l.length:=by
 have:=vU l []
 rw[Qei,Qcx]at this
 exact this
theorem DY {l:List Nat} {i c:Nat} (h:l[i]? =some c):red (l.take (i+1))=fE (red (l.take i)) c:=by
 unfold red
 rw[<-take_snoc h,List.foldl_append]
 rfl
theorem DZ: ∀{l:List Nat},(∀k a b,l[k]? =some a->l[k+1]? =some b->a≠aF b)->yy l
 | [],_=>trivial
 | [_],_=>trivial
 | a::b::r,h=>⟨h 0 a b rfl rfl,DZ (l:=b::r) fun k x y h1 h2=>h (k+1) x y (by simpa using h1) (by simpa using h2)⟩
noncomputable def CJ (l:List Nat) (s e:Nat):List Nat:=(l.drop s).take (e - s)
noncomputable def strip:Nat->List Nat->List Nat
 | 0,l=>l
 | n+1,l=>match l with
  | []=>[]
  | [a]=>[a]
  | a::b::r=>if a=aF ((b::r).getLast (by simp)) then strip n (b::r).dropLast else a::b::r
theorem e_: ∀(n:Nat) {l:List Nat},l.length<2->strip n l=l
 | 0,_,_=>rfl
 | _+1,[],_=>rfl
 | _+1,[_],_=>rfl
 | _+1,_::_::_,h=>by simp at h;omega
theorem kP (l:List Nat) (y:Nat):(l++[y]).getLast (by simp)=y:=by simp
theorem strip_go (n:Nat) {a y:Nat} {m:List Nat} (h:a=aF y):strip (n+1) (a::(m++[y]))=strip n m:=by
 cases m with
 | nil=>
  show (if a=aF (([y]:List Nat).getLast (by simp)) then strip n ([y]:List Nat).dropLast else _)=strip n []
  rw[if_pos (by simpa using h)]
  rfl
 | cons b r=>
  show (if a=aF ((b::(r++[y])).getLast (by simp)) then strip n (b::(r++[y])).dropLast else _)=strip n (b::r)
  have e1:(b::(r++[y])).getLast (by simp)=y:=kP (b::r) y
  have e2:(b::(r++[y])).dropLast=b::r:=by
   have:b::(r++[y])=(b::r)++[y]:=rfl
   rw[this,Qdw]
  rw[if_pos (by rw[e1];exact h),e2]
theorem strip_stop (n:Nat) {a y:Nat} {m:List Nat} (h:a≠aF y):strip n (a::(m++[y]))=a::(m++[y]):=by
 cases n with
 | zero=>rfl
 | succ n=>
  cases m with
  | nil=>
   show (if a=aF (([y]:List Nat).getLast (by simp)) then _ else _)=_
   rw[if_neg (by simpa using h)]
   rfl
  | cons b r=>
   show (if a=aF ((b::(r++[y])).getLast (by simp)) then _ else _)=_
   have e1:(b::(r++[y])).getLast (by simp)=y:=kP (b::r) y
   rw[if_neg (by rw[e1];exact h)]
   rfl
theorem D0 {l:List Nat} (h:2<=l.length): ∃a m y,l=a::(m++[y]):=by
 cases l with
 | nil=>simp at h
 | cons a r=>
  rcases snoc_cases r with rfl | ⟨m,y,rfl⟩
  ·simp at h
  ·exact ⟨a,m,y,rfl⟩
theorem o5: ∀(n:Nat) (l:List Nat) (k:Nat),l.length<=n->strip (n+k) l=strip n l
 | 0,l,k,h=>by rw[e_ _ (by omega),e_ _ (by omega)]
 | n+1,l,k,h=>by
  by_cases h2:l.length<2
  ·rw[e_ _ h2,e_ _ h2]
  ·obtain ⟨a,m,y,rfl⟩:=D0 (l:=l) (by omega)
   have hm:m.length<=n:=by simp at h;omega
   by_cases e:a=aF y
   ·have:n+1+k=(n+k)+1:=by omega
    rw[this,strip_go _ e,strip_go _ e,o5 n m k hm]
   ·rw[strip_stop _ e,strip_stop _ e]
noncomputable def core (l:List Nat):List Nat:=strip l.length l
theorem z_ {a y:Nat} {m:List Nat} (h:a=aF y):core (a::(m++[y]))=core m:=by
 unfold core
 have:(a::(m++[y])).length=(m.length+1)+1:=by simp
 rw[this,strip_go _ h,o5 _ _ _ (Q3 _)]
theorem mf {a y:Nat} {m:List Nat} (h:a≠aF y):core (a::(m++[y]))=a::(m++[y]):=strip_stop _ h
theorem hU {l:List Nat} (h:l.length<2):core l=l:=e_ _ h
theorem vV {P:List Nat->List Nat->Prop} (h1: ∀l,l.length<2->P l l) (h2: ∀a m y,a≠aF y->P (a::(m++[y])) (a::(m++[y]))) (h3: ∀a m y r,a=aF y->P m r->P (a::(m++[y])) r): ∀(n:Nat) (l:List Nat),l.length<=n->P l (core l)
 | 0,l,h=>by rw[hU (by omega)];exact h1 l (by omega)
 | n+1,l,h=>by
  by_cases hl:l.length<2
  ·rw[hU hl];exact h1 l hl
  ·obtain ⟨a,m,y,rfl⟩:=D0 (l:=l) (by omega)
   by_cases e:a=aF y
   ·rw[z_ e]
    exact h3 a m y _ e (vV h1 h2 h3 n m (by simp at h;omega))
   ·rw[mf e];exact h2 a m y e
theorem vW (l:List Nat):(core l).length<=l.length:=
 vV (P:=fun l r=>r.length<=l.length) (fun _ _=>Q3 _) (fun _ _ _ _=>Q3 _) (fun a m y r _ k=>by simp;omega) l.length l (Q3 _)
theorem K7 {l:List Nat} {s e:Nat} (h1:s+2<=e) (h2:e<=l.length):CJ l s e=l[s]::(CJ l (s+1) (e - 1)++[l[e - 1]]):=by
 unfold CJ
 rw[Qah (by omega)]
 have e1:e - s=(e - 1 - (s+1))+1+1:=by omega
 rw[e1,List.take_succ_cons,Qc6,Qa6]
 have e2:s+1+(e - 1 - (s+1))=e - 1:=by omega
 rw[e2,Kw (by omega)]
 rfl
theorem Ht {l:List Nat} {s e:Nat} (h2:e<=l.length):(CJ l s e).length=e - s:=by unfold CJ;rw[ZD,ZL];omega
theorem Hu (l:List Nat):CJ l 0 l.length=l:=by unfold CJ;simp
def kQ (_:PySem.W.Frag):Sp:=fun vs H Q _=> ∃l:List Nat,vs=[.str (S l)]/\(∀c∈l,Lt c)/\l.length<=1000/\ ∀H',ao H H'->Q (.str (S (red l))) H'
theorem qC {K:PySem.W.Frag} {vs:List V} {H:Hp} {Q:VK} {E:XK} (h:kQ K vs H Q E):vs.length=1:=by obtain ⟨c,rfl,_⟩:=h;rfl
def m8 (_:PySem.W.Frag):Sp:=fun vs H Q _=> ∃l:List Nat,vs=[.str (S l)]/\(∀c∈l,Lt c)/\l.length<=1000/\ ∀H',ao H H'->Q (.str (S (core (red l)))) H'
theorem tY {K:PySem.W.Frag} {vs:List V} {H:Hp} {Q:VK} {E:XK} (h:m8 K vs H Q E):vs.length=1:=by obtain ⟨c,rfl,_⟩:=h;rfl
theorem cD {α:Type} (l:List α) (k:Nat):cut l none (some (k:Int))=l.take k:=by
 unfold cut
 rw[HT.kB,HT.gi,List.drop_zero,Qd4]
 by_cases h:k<=l.length
 ·rw[Qal h]
 ·rw[Qas (by omega),ZO (Q3 _),ZO (by omega)]
theorem d_ {α:Type} (l:List α) (k:Nat):cut l (some (k:Int)) none=l.drop k:=by
 unfold cut
 rw[HT.kB,HT.gi]
 by_cases h:k<=l.length
 ·rw[Qal h,ZO (by rw[ZL];exact Q3 _)]
 ·rw[Qas (by omega),Qa3 (Q3 _),Qa3 (by omega)]
  simp
noncomputable def gZ (c:List Nat) (k:Nat):List Nat:=c.drop k++c.take k
noncomputable def kR (c:List Nat) (n:Nat):List (List Nat):=(List.range n).map fun k=>gZ c (k+1)
noncomputable def fF (c:List Nat):List Nat:=b_ c (kR c (c.length - 1))
@[irreducible] noncomputable def dP (w:List Nat):List Nat:=fF (core (red w))
theorem rF (c:List Nat) (n:Nat):kR c (n+1)=kR c n++[gZ c (n+1)]:=by unfold kR;rw[Qag,WC];rfl
theorem hV: ∀(r:List (List Nat)) (a b:List Nat),b_ a (r++[b])=cU (b_ a r) b
 | [],_,_=>rfl
 | _::r,_,_=>hV r _ _
theorem cE (c:List Nat) (k:Nat):(gZ c k).length=c.length:=by unfold gZ;rw[UY,ZL,ZD];omega
theorem kf: ∀(r:List (List Nat)) (a:List Nat),b_ a r=a\/b_ a r∈r
 | [],a=> .inl rfl
 | b::r,a=>by
  rcases kf r (cU a b) with h | h
  ·have hl:cU a b=a\/cU a b=b:=by unfold cU;split<;>simp
   rcases hl with e | e
   ·left;show b_ (cU a b) r=a;rw[h,e]
   ·right;show b_ (cU a b) r∈b::r;rw[h,e];exact Zy
  ·right;exact Y4 _ h
theorem rG (c:List Nat): ∃k,fF c=gZ c k:=by
 rcases kf (kR c (c.length - 1)) c with h | h
 ·exact ⟨0,by show b_ _ _=_;rw[h];unfold gZ;simp⟩
 ·unfold kR at h
  obtain ⟨k,_,e⟩:=ZN.mp h
  exact ⟨k+1,e.symm⟩
theorem BW (w:List Nat):(dP w).length<=w.length:=by
 obtain ⟨k,e⟩:=rG (core (red w))
 unfold dP
 rw[e,cE]
 exact ZW (vW _) (kO w)
def Aa (_:PySem.W.Frag):Sp:=fun vs H Q _=> ∃l:List Nat,vs=[.str (S l)]/\(∀c∈l,Lt c)/\l.length<=1000/\ ∀H',ao H H'->Q (.str (S (dP l))) H'
theorem D1 {K:PySem.W.Frag} {vs:List V} {H:Hp} {Q:VK} {E:XK} (h:Aa K vs H Q E):vs.length=1:=by obtain ⟨c,rfl,_⟩:=h;rfl
theorem K8 (n d:Nat):HT.cM n d (some (-1))=n - 1:=by
 have e:HT.cM n d (some (-1))=(if (-1:Int)<0 then ((-1:Int)+(n:Int)).toNat else min (-1:Int).toNat n):=rfl
 rw[e,if_pos (by decide)]
 omega
theorem K9 {α:Type} (l:List α):cut l (some (-2)) none=l.drop (l.length - 2):=by
 have e: ∀d,HT.cM l.length d (some (-2))=(if (-2:Int)<0 then ((-2:Int)+(l.length:Int)).toNat else min (-2:Int).toNat l.length):=fun _=>rfl
 have e2: ∀d,HT.cM l.length d (some (-2))=l.length - 2:=fun d=>by rw[e,if_pos (by decide)];omega
 unfold cut
 rw[HT.kB,e2]
 exact ZO (by rw[ZL];exact Q3 _)
def AllLt (l:List Nat):Prop:= ∀c∈l,Lt c
theorem o6 (a b:List Nat): ¬a<cU a b:=by
 unfold cU
 split
 ·rename_i h;exact fun g=>Qci a (List.lt_trans g h)
 ·exact Qci a
theorem nz (a b:List Nat): ¬b<cU a b:=by
 unfold cU
 split
 ·exact Qci b
 ·rename_i h;exact h
theorem Jt {a b c:List Nat} (h: ¬b<a) (g: ¬c<b): ¬c<a:=List.le_trans (show a<=b from h) (show b<=c from g)
theorem kg: ∀(r:List (List Nat)) (a:List Nat), ∀x∈a::r, ¬x<b_ a r
 | [],a,x,hx=>by rw[UZ.mp hx];exact Qci a
 | b::r,a,x,hx=>by
  show ¬x<b_ (cU a b) r
  have h0:=kg r (cU a b) (cU a b) Zy
  rcases Y5.mp hx with e | hx
  ·rw[e];exact Jt h0 (o6 a b)
  ·rcases Y5.mp hx with e | hx
   ·rw[e];exact Jt h0 (nz a b)
   ·exact kg r (cU a b) x (Y4 _ hx)
theorem vX (c:List Nat):gZ c 0=c:=by unfold gZ;simp
theorem kS (u:List Nat): ∀(m i:Nat),i<m*u.length->(dB m u)[i]? =u[i%u.length]?
 | 0,i,h=>by simp at h
 | m+1,i,h=>by
  rw[eL,List.getElem?_append]
  by_cases z:i<u.length
  ·rw[if_pos z,Qbf z]
  ·rw[if_neg z,kS u m (i - u.length) (by rw[Qch]at h;omega), <-Qd2 (by omega)]
def eh (w:List Nat) (s:Nat):Prop:=dB (w.length / s) (w.take s)=w
def gQ (w:List Nat) (k:Nat):Prop:=gZ w k=w
noncomputable instance (w:List Nat) (s:Nat):Decidable (eh w s):=by unfold eh;infer_instance
noncomputable instance (w:List Nat) (s:Nat):Decidable (gQ w s):=by unfold gQ;infer_instance
def bO (w:List Nat) (s:Nat):Prop:=(w=[]/\s=0)\/(1<=s/\s<=w.length/\eh w s/\ ∀j,1<=j->j<s-> ¬eh w j)
def kh (w:List Nat) (s:Nat):Prop:=(w=[]/\s=0)\/(1<=s/\s<=w.length/\gQ w s/\ ∀j,1<=j->j<s-> ¬gQ w j)
theorem tZ {w:List Nat} {s:Nat} (h1:1<=s) (h2:s<=w.length) (h:eh w s):gQ w s:=by
 unfold eh at h
 have hm:1<=w.length / s:=Nat.div_pos h2 h1
 obtain ⟨m,e⟩: ∃m,w.length / s=m+1:=⟨w.length / s - 1,by omega⟩
 rw[e]at h
 have hu:(w.take s).length=s:=by rw[ZD];omega
 generalize w.take s=u at h hu
 unfold gQ gZ
 rw[<-h,eL,List.drop_left' hu,List.take_left' hu, <-yk,eL]
noncomputable def Fw (w:List Nat) (i:Nat):Option Nat:=w[i%w.length]?
theorem nV {w:List Nat} {k i:Nat} (hk:k<=w.length) (hi:i<w.length):(gZ w k)[i]? =Fw w (i+k):=by
 unfold gZ Fw
 rw[List.getElem?_append,ZL]
 by_cases z:i<w.length - k
 ·rw[if_pos z,Qa6,Qbf (by omega),Qd5]
 ·rw[if_neg z,Qce,if_pos (by omega),Qd2 (by omega),Qbf (by omega)]
  congr 1
  omega
def xr (w:List Nat) (k:Nat):Prop:= ∀i,Fw w (i+k)=Fw w i
theorem D5 (w:List Nat) (i k:Nat):Fw w (i%w.length+k)=Fw w (i+k):=by unfold Fw;rw[Nat.mod_add_mod]
theorem gm {w:List Nat} {k:Nat} (hn:w≠[]) (hk:k<=w.length):gQ w k↔xr w k:=by
 have hl:0<w.length:=U0.mpr hn
 constructor
 ·intro h i
  have hi:=Qcd i hl
  rw[<-D5, <-nV hk hi,h]
  rfl
 ·intro h
  refine Qd6 fun i=>?_
  by_cases hi:i<w.length
  ·rw[nV hk hi,h i]
   unfold Fw
   rw[Qbf hi]
  ·have hr:(gZ w k).length=w.length:=cE w k
   rw[Qbi (by omega),Qbi (by omega)]
theorem xr.mul {w:List Nat} {k:Nat} (h:xr w k): ∀j i,Fw w (i+k*j)=Fw w i
 | 0,i=>rfl
 | j+1,i=>by rw[Nat.mul_succ, <-Nat.add_assoc,h,xr.mul h j]
theorem xr.whole (w:List Nat):xr w w.length:=fun i=>by unfold Fw;rw[Nat.add_mod_right]
theorem xr.rest {w:List Nat} {k:Nat} (h:xr w k):xr w (w.length%k):=fun i=>by
 rw[<-h.mul (w.length / k) (i+w.length%k),Nat.add_assoc,Qdn]
 exact xr.whole w i
theorem rH {w:List Nat} {k:Nat} (hn:w≠[]) (h1:1<=k) (h2:k<=w.length) (h:gQ w k) (hl: ∀j,1<=j->j<k-> ¬gQ w j):eh w k:=by
 have hp:=(gm hn h2).mp h
 have hr:w.length%k=0:=by
  by_cases z:w.length%k=0
  ·exact z
  ·have cV:=Qcd w.length (show k>0 by omega)
   exact absurd ((gm hn (by omega)).mpr hp.rest) (hl _ (by omega) cV)
 have hm:w.length / k*k=w.length:=by
  have:=Qdn w.length k
  rw[hr,Qcx,Qbb]at this
  exact this
 have hu:(w.take k).length=k:=by rw[ZD];omega
 unfold eh
 refine Qd6 fun i=>?_
 by_cases hi:i<w.length
 ·rw[kS _ _ _ (by rw[hu,hm];exact hi),hu,Qce]
  have Xe:=Qcd i (show k>0 by omega)
  rw[if_pos Xe]
  have e:=hp.mul (i / k) (i%k)
  rw[Qdn]at e
  unfold Fw at e
  rw[Qbf hi,Qbf (by omega)]at e
  exact e.symm
 ·rw[Qbi (by rw[oR,hu,hm];omega),Qbi (by omega)]
theorem ju {w:List Nat} {s k:Nat} (h:bO w s) (g:kh w k):s=k:=by
 rcases h with ⟨e,e2⟩ | ⟨h1,h2,h3,h4⟩
 ·rcases g with ⟨_,g2⟩ | ⟨g1,g2,_,_⟩
  ·rw[e2,g2]
  ·rw[e]at g2;simp at g2;omega
 ·rcases g with ⟨e,_⟩ | ⟨g1,g2,g3,g4⟩
  ·rw[e]at h2;simp at h2;omega
  ·have hn:w≠[]:=fun z=>by rw[z]at h2;simp at h2;omega
   by_cases z:s<k
   ·exact absurd (tZ h1 h2 h3) (g4 s h1 z)
   ·by_cases z2:k<s
    ·exact absurd (rH hn g1 g2 g3 g4) (h4 k g1 z2)
    ·omega
theorem rJ (w:List Nat) (h:w≠[]):eh w w.length:=by
 have hl:0<w.length:=U0.mpr h
 unfold eh
 rw[Nat.div_self hl,ZO (Q3 _)]
 show dB (0+1) w=w
 rw[eL]
 simp[dB]
theorem BX (w:List Nat):gQ w w.length:=by
 unfold gQ gZ
 rw[Qa3 (Q3 _),ZO (Q3 _)]
 rfl
noncomputable def Hv (c:List Nat) (n:Nat):List Nat:=((List.range n).map (· +1)).filter fun k=>decide (gQ c k)
theorem t5 {c:List Nat} {n k:Nat}:k∈Hv c n↔(1<=k/\k<=n)/\gQ c k:=by
 unfold Hv
 rw[ZX,ZN]
 constructor
 ·rintro ⟨⟨j,hj,rfl⟩,h⟩
  have:=Qac.mp hj
  exact ⟨by omega,of_decide_eq_true h⟩
 ·rintro ⟨h1,h2⟩
  exact ⟨⟨k - 1,Qac.mpr (by omega),by omega⟩,decide_eq_true h2⟩
theorem yA (c:List Nat) (n:Nat):(Hv c n).Pairwise (· < ·):=by
 unfold Hv
 refine List.Pairwise.filter _ ?_
 rw[Qao]
 exact (List.pairwise_lt_range (n:=n)).imp fun h=>Nat.succ_lt_succ h
theorem o7 {c:List Nat} (h:c≠[]): ∃k r,Hv c c.length=k::r/\kh c k:=by
 have hl:0<c.length:=U0.mpr h
 have hm:c.length∈Hv c c.length:=t5.mpr ⟨by omega,BX c⟩
 rcases e:Hv c c.length with _ | ⟨k,r⟩
 ·rw[e]at hm;exact absurd hm Zw
 ·refine ⟨k,r,rfl, .inr ?_⟩
  have hk:k∈Hv c c.length:=by rw[e];exact Zy
  obtain ⟨⟨h1,h2⟩,h3⟩:=t5.mp hk
  refine ⟨h1,h2,h3,fun j j1 j2 z=>?_⟩
  have hj:j∈Hv c c.length:=t5.mpr ⟨by omega,z⟩
  have hs:=yA c c.length
  rw[e]at hj hs
  rcases Y5.mp hj with w | w
  ·omega
  ·have:=List.rel_of_pairwise_cons hs w
   omega
noncomputable def Ju (w:List Nat) (s:Nat):List V:=[.str (S (w.take s)), .int ((w.length / s:Nat):Int)]
def Ab (_:PySem.W.Frag):Sp:=fun vs H Q _=> ∃l:List Nat,vs=[.str (S l)]/\(∀c∈l,Lt c)/\l.length<=1000/\ ∀p s H',H p=none->H' p=some (.tup (Ju (dP l) s))->bO (dP l) s->ao H H'->Q (.ref p) H'
theorem D6 {K:PySem.W.Frag} {vs:List V} {H:Hp} {Q:VK} {E:XK} (h:Ab K vs H Q E):vs.length=1:=by obtain ⟨c,rfl,_⟩:=h;rfl
theorem bg: ∀c∈bf,aC c=true/\PyProof.Rows.lo1 c=c/\aF c∈ka:=by decide+kernel
theorem bP: ∀c∈ka,aC c=false/\PyProof.Rows.lo1 c=aF c/\c∉bf/\aF c∈bf:=by decide+kernel
theorem rK: ∀c∈ka,c∉bf:=by decide+kernel
theorem jv {c:Nat} (h:Lt c):aC c=decide (c∈bf):=by
 rcases h with h | h
 ·rw[(bg c h).1,decide_eq_true h]
 ·rw[(bP c h).1,decide_eq_false (bP c h).2.2.1]
noncomputable def gr (y:List Nat) (a b c:Nat):Bool:=decide ((((y.idxOf b:Nat):Int) - ((y.idxOf a:Nat):Int))%(y.length:Int)<(((y.idxOf c:Nat):Int) - ((y.idxOf a:Nat):Int))%(y.length:Int))
def jL (i j k:Nat):Prop:=(i<j/\j<k)\/(j<k/\k<i)\/(k<i/\i<j)
noncomputable instance (i j k:Nat):Decidable (jL i j k):=by unfold jL;infer_instance
theorem i0 {i j n:Nat} (hi:i<n) (hj:j<n):((j:Int) - (i:Int))%(n:Int)=if i<=j then (j:Int) - i else (j:Int) - i+n:=by
 split
 ·exact ZP (by omega) (by omega)
 ·rw[<-Qbq]
  exact ZP (by omega) (by omega)
theorem gC {y:List Nat} {a b c:Nat} (hn:y.Nodup) (ha:a∈y) (hb:b∈y) (hc:c∈y) (uZ:a≠b) (Jv:a≠c) (Jw:b≠c):gr y a b c=decide (jL (y.idxOf a) (y.idxOf b) (y.idxOf c)):=by
 have ia:=WE ha
 have ib:=WE hb
 have ic:=WE hc
 have inj: ∀{u v:Nat},u∈y->v∈y->u≠v->y.idxOf u≠y.idxOf v:=fun {u v} hu hv h z=>h (by
  have e1:=Qav (WE hu)
  have e2:=Qav (WE hv)
  rw[<-e1, <-e2]
  congr 1)
 have n1:=inj ha hb uZ
 have n2:=inj ha hc Jv
 have n3:=inj hb hc Jw
 unfold gr
 rw[i0 ia ib,i0 ia ic]
 generalize y.idxOf a=i at*
 generalize y.idxOf b=j at*
 generalize y.idxOf c=k at*
 refine decide_eq_decide.mpr ?_
 unfold jL
 split<;>split<;>omega
theorem D7 {i j k:Nat}:jL j k i↔jL i j k:=by unfold jL;omega
theorem Hw {i j k:Nat} (h1:i≠j) (h2:i≠k) (h3:j≠k):jL i k j↔ ¬jL i j k:=by unfold jL;omega
theorem Hx {y:List Nat} {a b c:Nat} (hn:y.Nodup) (ha:a∈y) (hb:b∈y) (hc:c∈y) (uZ:a≠b) (Jv:a≠c) (Jw:b≠c):gr y b c a=gr y a b c:=by
 rw[gC hn ha hb hc uZ Jv Jw,gC hn hb hc ha Jw (Ne.symm uZ) (Ne.symm Jv)]
 exact decide_eq_decide.mpr D7
theorem b5 {y:List Nat} {u v:Nat} (hu:u∈y) (hv:v∈y) (h:u≠v):y.idxOf u≠y.idxOf v:=fun z=>h (by
 have e1:=Qav (WE hu)
 have e2:=Qav (WE hv)
 rw[<-e1, <-e2]
 congr 1)
theorem K_ {y:List Nat} {a b c:Nat} (hn:y.Nodup) (ha:a∈y) (hb:b∈y) (hc:c∈y) (uZ:a≠b) (Jv:a≠c) (Jw:b≠c):gr y a c b=!gr y a b c:=by
 rw[gC hn ha hb hc uZ Jv Jw,gC hn ha hc hb Jv uZ (Ne.symm Jw)]
 rw[<-decide_not]
 exact decide_eq_decide.mpr (Hw (b5 ha hb uZ) (b5 ha hc Jv) (b5 hb hc Jw))
theorem La (d:Nat) (t:List Nat) (a:Nat):(d::t).idxOf a=if d=a then 0 else t.idxOf a+1:=by
 by_cases h:d=a
 ·subst h;rw[if_pos rfl,List.idxOf_cons_self]
 ·rw[if_neg h,List.idxOf_cons,show (d==a)=false by simp[h]];rfl
theorem BY {a b:List Nat} (h:a.Perm b) (ha:a.Pairwise (· <= ·)) (hb:b.Pairwise (· <= ·)):a=b:=
 List.Perm.eq_of_pairwise (le:=fun x y=>x<=y) (fun _ _ _ _ h1 h2=>Qef h1 h2) ha hb h
def vY (_:PySem.W.Frag):Sp:=fun vs H Q _=> ∃l:List Nat,vs=[.str (S l)]/\(∀c∈l,c<128)/\l.length<64/\ ∀l' H',l'.Perm (l.filter aC)->l'.Pairwise (· <= ·)->ao H H'->Q (.str (S l')) H'
theorem BZ {K:PySem.W.Frag} {vs:List V} {H:Hp} {Q:VK} {E:XK} (h:vY K vs H Q E):vs.length=1:=by obtain ⟨c,rfl,_⟩:=h;rfl
def i3 (_:PySem.W.Frag):Sp:=fun vs H Q _=> ∃(y:List Nat) (a b:Nat),vs=[.str (S y), .str (S [a]), .str (S [b])]/\a∈y/\b∈y/\y.length<=1000/\Q (.int ((((y.idxOf b:Nat):Int) - ((y.idxOf a:Nat):Int))%(y.length:Int))) H
theorem nA {K:PySem.W.Frag} {vs:List V} {H:Hp} {Q:VK} {E:XK} (h:i3 K vs H Q E):vs.length=3:=by obtain ⟨c,_,_,rfl,_⟩:=h;rfl
theorem m9 {p:Nat->Bool} {l:List Nat} {i c:Nat} (h:l[i]? =some c):(l.take (i+1)).filter p=(l.take i).filter p++if p c=true then [c] else []:=by
 rw[<-take_snoc h,Qaw]
 congr 1
 by_cases z:p c=true
 ·rw[if_pos z,Z4 z];rfl
 ·rw[if_neg z,ZR z];rfl
theorem D8 {y:List Nat} (h:Yd y):2*(y.filter aC).length=y.length:=by
 have key: ∀p q:Nat->Bool,(∀c∈y,p c=true->q (aF c)=true)->(y.filter p).length<=(y.filter q).length:=fun p q Qc=>by
  have hn:((y.filter p).map aF).Nodup:=by
   show ((y.filter p).map aF).Pairwise (· ≠ ·)
   rw[Qao]
   refine (h.nd.filter p).imp_of_mem fun {a b} ha hb z e=>z ?_
   exact eV (h.lt a (ZX.mp ha).1) (h.lt b (ZX.mp hb).1) e
  have:=hn.length_le_of_subset (l₂:=y.filter q) fun c hc=>by
   obtain ⟨d,hd,rfl⟩:=ZN.mp hc
   obtain ⟨d1,d2⟩:=ZX.mp hd
   exact ZX.mpr ⟨h.cl d d1,Qc d d1 d2⟩
  rwa [UX]at this
 have k1:=key aC (fun c=>!aC c) fun c hc z=>by
  rw[jv (h.lt c hc)]at z
  have hs:=of_decide_eq_true z
  rw[(bP _ (bg c hs).2.2).1];rfl
 have k2:=key (fun c=>!aC c) aC fun c hc z=>by
  rcases h.lt c hc with q | q
  ·rw[(bg c q).1]at z;cases z
  ·exact (bg _ (bP c q).2.2.2).1
 have k3:(y.filter aC).length+(y.filter fun c=>!aC c).length=y.length:=by
  clear k1 k2 key h
  induction y with
  | nil=>rfl
  | cons a r ih=>
   cases hq:aC a
   ·rw[ZR (by simp[hq]),Z4 (by simp[hq]),ZQ,ZQ];omega
   ·rw[Z4 hq,ZR (by simp[hq]),ZQ,ZQ];omega
 omega
noncomputable def rd (w:List Nat) (k:Int):Nat:=w.getD (k%(w.length:Int)).toNat 0
theorem Qd {w:List Nat} (h:w≠[]) (k:Int):(k%(w.length:Int)).toNat<w.length:=by
 have:0<w.length:=U0.mpr h
 have h1:=Qar k (b:=(w.length:Int)) (by omega)
 have h2:=Qak k (b:=(w.length:Int)) (by omega)
 omega
theorem eM {w:List Nat} (h:w≠[]) (k:Int):w[(k%(w.length:Int)).toNat]? =some (rd w k):=by
 unfold rd
 rw[Y3,Kw (Qd h k)]
 rfl
theorem hW {w:List Nat} (h:w≠[]) (k:Int):rd w k∈w:=Zx (eM h k)
theorem hX (w:List Nat) (k:Int):rd w (k+w.length)=rd w k:=by unfold rd;rw[Qbq]
theorem fA (w:List Nat) (k:Int):rd w (k%w.length)=rd w k:=by unfold rd;rw[Qbw _ (Qd9 _)]
theorem mh {w:List Nat} {k:Nat} (h:k<w.length):w[k]? =some (rd w k):=by
 have dv:w≠[]:=fun z=>by rw[z]at h;exact absurd h (Qb9 _)
 have:=eM dv (k:Int)
 rwa [ZP (by omega) (by omega),WB]at this
theorem vZ {w:List Nat} {k:Int} {n:Nat} {c:Nat} (hn:n<w.length) (e:k%(w.length:Int)=n) (h:w[n]? =some c):rd w k=c:=by
 have:=mh hn
 rw[h]at this
 rw[<-fA,e]
 exact (ZG this).symm
theorem jR {w:List Nat} {k:Int} (h1: -(w.length:Int)<=k) (h2:k<w.length):oB w k=some (rd w k):=by
 have dv:w≠[]:=fun z=>by rw[z]at h1 h2;simp at h1 h2;omega
 unfold oB Gj
 by_cases h0:0<=k
 ·rw[if_pos h0,if_pos h2]
  have:=eM dv k
  rw[ZP h0 h2]at this
  exact this
 ·rw[if_neg h0,if_pos h1]
  have:=eM dv (k+w.length)
  rw[hX,ZP (by omega) (by omega)]at this
  exact this
theorem Lb {w:List Nat} (h:w≠[]) (k:Int):oB w (k%(w.length:Int))=some (rd w k):=by
 have:0<w.length:=U0.mpr h
 have h1:=Qar k (b:=(w.length:Int)) (by omega)
 have h2:=Qak k (b:=(w.length:Int)) (by omega)
 rw[jR (by omega) h2,fA]
theorem hZ {f:Int->Nat} {p:Nat} (P: ∀k,f (k+p)=f k) (k:Int): ∀t:Nat,f (k+t*p)=f k
 | 0=>by simp
 | t+1=>by
  have:k+((t+1:Nat):Int)*p=k+t*p+p:=by rw[Z7,Int.add_mul];simp;omega
  rw[this,P,hZ P k t]
theorem fw {f g:Int->Nat} {p q:Nat} (hp:0<p) (hq:0<q) (Pf: ∀k,f (k+p)=f k) (Pg: ∀k,g (k+q)=g k) (h: ∀n:Nat,n<p+q->f n=g n) (k:Int):f k=g k:=by
 have up: ∀N n:Nat,n<N->f n=g n:=by
  intro N
  induction N with
  | zero=>intro n hn;omega
  | succ N ih=>
   intro n hn
   by_cases z:n<p+q
   ·exact h n z
   ·have e1:f n=f ((n - p:Nat):Int):=by have:=Pf ((n - p:Nat):Int);rwa [show ((n - p:Nat):Int)+p=n by omega]at this
    have e2:g ((n - p:Nat):Int)=g ((n - p - q:Nat):Int):=by have:=Pg ((n - p - q:Nat):Int);rwa [show ((n - p - q:Nat):Int)+q=((n - p:Nat):Int) by omega]at this
    have e3:f ((n - q:Nat):Int)=f ((n - p - q:Nat):Int):=by have:=Pf ((n - p - q:Nat):Int);rwa [show ((n - p - q:Nat):Int)+p=((n - q:Nat):Int) by omega]at this
    have e4:g n=g ((n - q:Nat):Int):=by have:=Pg ((n - q:Nat):Int);rwa [show ((n - q:Nat):Int)+q=n by omega]at this
    rw[e1,ih (n - p) (by omega),e2, <-ih (n - p - q) (by omega), <-e3,ih (n - q) (by omega), <-e4]
 have qA: ∃m:Nat,k+((k.natAbs*q:Nat):Int)*p=m/\k+((k.natAbs*p:Nat):Int)*q=m:=by
  have e1:((k.natAbs*q:Nat):Int)*p=((k.natAbs*(q*p):Nat):Int):=by rw[Nat.mul_assoc k.natAbs q p |>.symm];simp
  have e2:((k.natAbs*p:Nat):Int)*q=((k.natAbs*(q*p):Nat):Int):=by rw[Qbb q p,Nat.mul_assoc k.natAbs p q |>.symm];simp
  have hle:k.natAbs<=k.natAbs*(q*p):=Nat.le_mul_of_pos_right _ (Nat.mul_pos hq hp)
  generalize k.natAbs*(q*p)=M at e1 e2 hle
  exact ⟨(k+M).toNat,by omega,by omega⟩
 obtain ⟨m,h1,h2⟩:=qA
 rw[<-hZ Pf k (k.natAbs*q),h1, <-hZ Pg k (k.natAbs*p),h2]
 exact up (m+1) m (Qam m)
noncomputable def ff (f g:Int->Nat):Nat->Nat->Nat
 | 0,i=>i
 | n+1,i=>if f i=g i then ff f g n (i+1) else i
theorem cQ (f g:Int->Nat): ∀n i:Nat,i<=ff f g n i/\ff f g n i<=i+n/\(∀j:Nat,i<=j->j<ff f g n i->f j=g j)/\(ff f g n i<i+n->f (ff f g n i)≠g (ff f g n i))
 | 0,i=>⟨Q3 _,Q3 _,fun j h1 h2=>absurd (ZZ h1 h2) (kb _),fun h=>absurd h (kb _)⟩
 | n+1,i=>by
  unfold ff
  by_cases z:f i=g i
  ·rw[if_pos z]
   obtain ⟨h1,h2,h3,h4⟩:=cQ f g n (i+1)
   refine ⟨by omega,by omega,fun j g1 g2=>?_,fun g1=>h4 (by omega)⟩
   by_cases e:j=i
   ·rw[e];exact z
   ·exact h3 j (by omega) g2
  ·rw[if_neg z]
   exact ⟨Q3 _,by omega,fun j g1 g2=>absurd (ZZ g1 g2) (kb _),fun _=>z⟩
theorem yB {f g:Int->Nat} {n m:Nat} (h1: ∀j:Nat,j<m->f j=g j) (h2:f m≠g m) (hm:m<n):ff f g n 0=m:=by
 obtain ⟨_,b,c,d⟩:=cQ f g n 0
 by_cases z:ff f g n 0<m
 ·exact absurd (h1 _ z) (d (by omega))
 ·by_cases y:m<ff f g n 0
  ·exact absurd (c m (Y6 _) y) h2
  ·omega
theorem D9 {f g:Int->Nat} {n:Nat} (h: ∀j:Nat,j<n->f j=g j):ff f g n 0=n:=by
 obtain ⟨_,b,c,d⟩:=cQ f g n 0
 by_cases z:ff f g n 0<0+n
 ·exact absurd (h _ (by omega)) (d z)
 ·omega
noncomputable def al (y:List Nat) (f g:Int->Nat) (n:Nat):Nat:=
 if f 0≠g 0\/f (-1)=g (-1) then 0 else
 if gr y (aF (f (-1))) (aF (g (-1))) (f 0)=gr y (f (ff f g n 0)) (g (ff f g n 0)) (aF (f ((ff f g n 0:Nat) - 1))) then ff f g n 0 else 0
theorem kT {y:List Nat} {f g:Int->Nat} {n:Nat} (h:0<al y f g n): ∀j:Nat,j<al y f g n->f j=g j:=by
 unfold al at h ⊢
 by_cases z:f 0≠g 0\/f (-1)=g (-1)
 ·rw[if_pos z]at h;omega
 ·rw[if_neg z]at h ⊢
  by_cases u:gr y (aF (f (-1))) (aF (g (-1))) (f 0)=gr y (f (ff f g n 0)) (g (ff f g n 0)) (aF (f ((ff f g n 0:Nat) - 1)))
  ·rw[if_pos u]at h ⊢
   exact fun j hj=>(cQ f g n 0).2.2.1 j (Y6 _) hj
  ·rw[if_neg u]at h;omega
noncomputable def ac (y:List Nat) (a b p q:Nat):Bool:=if p=a\/p=b\/q=a\/q=b then false else (gr y a p b != gr y a q b)
noncomputable def sq (w:List Nat) (i:Int):Int->Nat:=fun n=>rd w (i+n)
noncomputable def bq (v:List Nat) (j:Int):Int->Nat:=fun n=>aF (rd v (j - n))
theorem cF (w:List Nat) (i k:Int):sq w i (k+w.length)=sq w i k:=by unfold sq;rw[<-Int.add_assoc,hX]
theorem yC (w:List Nat) (k:Int):rd w (k - w.length)=rd w k:=by rw[<-hX w (k - w.length)];congr 1;omega
theorem mi (w:List Nat) (i k:Int):bq w i (k+w.length)=bq w i k:=by unfold bq;rw[show i - (k+(w.length:Int))=i - k - w.length by omega,yC]
theorem mj {v:List Nat} (h:v≠[]) (k:Int):rd (gK v) k=aF (rd v (-1 - k)):=by
 have qA:0<v.length:=U0.mpr h
 have h1:=Qar k (b:=(v.length:Int)) (by omega)
 have h2:=Qak k (b:=(v.length:Int)) (by omega)
 have e:(-1 - k)%(v.length:Int)=v.length - 1 - k%v.length:=by
  have e1:=Qdt k v.length
  have: -1 - k=(v.length - 1 - k%v.length)+v.length*(-(k / v.length) - 1):=by rw[Int.mul_sub,Int.mul_neg];omega
  rw[this,Qbx,ZP (by omega) (by omega)]
 generalize hr:k%(v.length:Int)=r at h1 h2 e
 obtain ⟨n,rfl⟩: ∃n:Nat,r=n:=⟨r.toNat,by omega⟩
 have hn:n<v.length:=by omega
 have e2:rd v (-1 - k)=v[v.length - 1 - n]'(by omega):=vZ (n:=v.length - 1 - n) (by omega) (by rw[e];omega) (Kw (by omega))
 rw[e2]
 refine vZ (n:=n) (by rw[ck];exact hn) (by rw[ck];exact hr) ?_
 unfold gK
 rw[Qco (by rw[UX];exact hn),UX,ZA,Kw (by omega)]
 rfl
theorem Lc {v:List Nat} (h:v≠[]) (j:Nat):sq (gK v) ((v.length:Int) - 1 - j)=bq v j:=by
 funext n
 unfold sq bq
 rw[mj h,show -1 - ((v.length:Int) - 1 - j+n)=j - n - v.length by omega,yC]
structure SW (y w:List Nat):Prop where
 ne:w≠[]
 bR: ∀c∈w,c∈y
 red: ∀k:Int,rd w k≠aF (rd w (k - 1))
theorem SW.rd {y w:List Nat} (h:SW y w) (k:Int):rd w k∈y:=h.bR _ (hW h.ne k)
theorem gR {w v:List Nat} {f g:Int->Nat} (hw:w≠[]) (hv:v≠[]) (pf: ∀k,f (k+w.length)=f k) (pg: ∀k,g (k+v.length)=g k) (h:f (-1)≠g (-1)):ff f g (w.length+v.length) 0<w.length+v.length/\f (ff f g (w.length+v.length) 0)≠g (ff f g (w.length+v.length) 0):=by
 obtain ⟨_,b,c,d⟩:=cQ f g (w.length+v.length) 0
 by_cases z:ff f g (w.length+v.length) 0<w.length+v.length
 ·exact ⟨z,d (by omega)⟩
 ·exact absurd (fw (U0.mpr hw) (U0.mpr hv) pf pg (fun n hn=>c n (Y6 _) (by omega)) (-1)) h
theorem Ac {y w:List Nat} {i j:Nat} (hy:Yd y) (h:SW y w) (m0:0<al y (sq w i) (bq w j) (w.length+w.length)) (e:((j:Int) - al y (sq w i) (bq w j) (w.length+w.length)+1)%w.length=i):False:=by
 have ha:=kT m0
 generalize al y (sq w i) (bq w j) (w.length+w.length)=m at*
 have key: ∀k:Nat,k<m->rd w (i+k)=aF (rd w (i+(m - 1 - k))):=fun k hk=>by
  have:=ha k hk
  unfold sq bq at this
  rw[this]
  congr 1
  rw[<-fA w (j - k), <-fA w (i+((m:Int) - 1 - k)), <-e,Qcl]
  congr 2
  omega
 rcases Nat.mod_two_eq_zero_or_one m with z | z
 ·have k1:=key (m / 2) (by omega)
  rw[show (i:Int)+((m:Int) - 1 - ((m / 2:Nat):Int))=i+((m / 2:Nat):Int) - 1 by omega]at k1
  exact h.red _ k1
 ·have k1:=key (m / 2) (by omega)
  rw[show (i:Int)+((m:Int) - 1 - ((m / 2:Nat):Int))=i+((m / 2:Nat):Int) by omega]at k1
  exact hJ (hy.lt _ (h.rd _)) k1.symm
structure Fm where
 c:Nat
 i:Nat
 d:Nat
 j:Nat
 m:Nat
 t:List Nat
noncomputable def jw:List Nat:=[97,99,114,111,115,115]
noncomputable def o8:List Nat:=[97,108,111,110,103]
noncomputable def fg:List Nat:=[97,103,97,105,110,115,116]
noncomputable def Hy (y w v:List Nat) (i j:Nat):Bool:=ac y (aF (rd w ((i:Int) - 1))) (rd w i) (aF (rd v ((j:Int) - 1))) (rd v j)
noncomputable def u5 (y w v:List Nat) (i j:Nat):Nat:=al y (sq w i) (sq v j) (w.length+v.length)
noncomputable def cX (y w v:List Nat) (i j:Nat):Nat:=al y (sq w i) (bq v j) (w.length+v.length)
noncomputable def t6 (y w v:List Nat) (c i d j:Nat):List Fm:=(if Hy y w v i j=true then [⟨c,i,d,j,0,jw⟩] else [])++(if 0<u5 y w v i j then [⟨c,i,d,j,u5 y w v i j,o8⟩] else [])
noncomputable def eG (w:List Nat) (i j m:Nat):Bool:=iZ (((j:Int) - m+1)%w.length) (((i:Int)+m - 1)%w.length) i j
noncomputable def Jx (y w v:List Nat) (c i d j:Nat):List Fm:=if cX y w v i j=0\/(c=d/\eG w i j (cX y w v i j)=true) then [] else [⟨c,i,d,j,cX y w v i j,fg⟩]
noncomputable def gn (y:List Nat) (ws:List (List Nat)) (o p:Nat×Nat):List Fm:=
 (if iZ o.1 o.2 p.1 p.2=true then t6 y (ws.getD o.1 []) (ws.getD p.1 []) o.1 o.2 p.1 p.2 else [])++(if o.1<=p.1 then Jx y (ws.getD o.1 []) (ws.getD p.1 []) o.1 o.2 p.1 p.2 else [])
noncomputable def o9 (ws:List (List Nat)):Nat->List (Nat×Nat)
 | 0=>[]
 | n+1=>o9 ws n++(List.range (ws.getD n []).length).map fun i=>(n,i)
noncomputable def places (ws:List (List Nat)):List (Nat×Nat):=o9 ws ws.length
noncomputable def jM (y:List Nat) (ws:List (List Nat)):List Fm:=(places ws).flatMap fun o=>(places ws).flatMap fun p=>gn y ws o p
noncomputable def i4 (x:Fm):List Int:=[x.c,x.i,x.d,x.j,x.m]
theorem D_ {y w v:List Nat} {c i d j:Nat} {x:Fm} (h:x∈t6 y w v c i d j):x.c=c/\x.i=i/\x.d=d/\x.j=j:=by
 unfold t6 at h
 rcases Zz.mp h with h | h<;>split at h
 ·rw[UZ.mp h];exact ⟨rfl,rfl,rfl,rfl⟩
 ·exact absurd h Zw
 ·rw[UZ.mp h];exact ⟨rfl,rfl,rfl,rfl⟩
 ·exact absurd h Zw
theorem Ad {y w v:List Nat} {c i d j:Nat} {x:Fm} (h:x∈Jx y w v c i d j):x=⟨c,i,d,j,cX y w v i j,fg⟩/\0<cX y w v i j:=by
 unfold Jx at h
 split at h
 ·exact absurd h Zw
 ·rename_i z
  exact ⟨UZ.mp h,Qcc fun q=>z (.inl q)⟩
theorem jx {y:List Nat} {ws:List (List Nat)} {o p:Nat×Nat} {x:Fm} (h:x∈gn y ws o p):x.c=o.1/\x.i=o.2/\x.d=p.1/\x.j=p.2:=by
 unfold gn at h
 rcases Zz.mp h with h | h<;>split at h
 ·exact D_ h
 ·exact absurd h Zw
 ·rw[(Ad h).1];exact ⟨rfl,rfl,rfl,rfl⟩
 ·exact absurd h Zw
theorem Hz (y:List Nat) (ws:List (List Nat)) (o p:Nat×Nat):(gn y ws o p).length<=3:=by
 unfold gn t6 Jx
 rw[UY]
 split<;>split<;>(try rw[UY])<;>(repeat' split)<;>simp
theorem HB {a b c d m a' b' c' d' m':Int} (h:iZ a b a' b'=true):a_ [a,b,c,d,m] [a',b',c',d',m']=true:=by
 unfold iZ at h
 simp only[a_]
 split at h
 ·rename_i z
  rw[if_pos z,if_neg (by intro q;rw[q]at h;simp at h)]
  exact h
 ·rename_i z
  rw[if_neg z];exact h
theorem HC {a b c d m c' d' m':Int} (h:iZ c d c' d'=true):a_ [a,b,c,d,m] [a,b,c',d',m']=true:=by
 unfold iZ at h
 simp only[a_,if_true]
 split at h
 ·rename_i z
  rw[if_pos z,if_neg (by intro q;rw[q]at h;simp at h)]
  exact h
 ·rename_i z
  rw[if_neg z];exact h
theorem rL {a b c d m m':Int} (h:m<m'):a_ [a,b,c,d,m] [a,b,c,d,m']=true:=by
 simp only[a_,if_true]
 rw[if_neg (by omega)]
 exact decide_eq_true h
theorem Ea {y w v:List Nat} {i j:Nat} (hy:Yd y) (hv:SW y v) (h1:0<u5 y w v i j) (h2:0<cX y w v i j):False:=by
 have e1:=kT h1 0 h1
 have e2:=kT h2 0 h2
 unfold sq at e1 e2
 unfold bq at e2
 simp only[Int.natCast_zero,Qbp,Qc0]at e1 e2
 rw[e1]at e2
 exact hJ (hy.lt _ (hv.rd _)) e2.symm
theorem HD {y:List Nat} {ws:List (List Nat)} {o p:Nat×Nat} (hy:Yd y) (hv:SW y (ws.getD p.1 [])):(gn y ws o p).Pairwise fun a b=>a_ (i4 a) (i4 b)=true:=by
 unfold gn
 rw[Qaz]
 refine ⟨?_,?_,fun a ha b hb=>?_⟩
 ·split
  ·unfold t6
   rw[Qaz]
   refine ⟨?_,?_,fun a ha b hb=>?_⟩
   ·split
    ·exact Qcf _ _
    ·exact List.Pairwise.nil
   ·split
    ·exact Qcf _ _
    ·exact List.Pairwise.nil
   ·split at ha
    ·split at hb
     ·rename_i z
      rw[UZ.mp ha,UZ.mp hb]
      exact rL (Qbo.mpr z)
     ·exact absurd hb Zw
    ·exact absurd ha Zw
  ·exact List.Pairwise.nil
 ·split
  ·unfold Jx
   split
   ·exact List.Pairwise.nil
   ·exact Qcf _ _
  ·exact List.Pairwise.nil
 ·split at ha
  ·split at hb
   ·obtain ⟨eb,pb⟩:=Ad hb
    unfold t6 at ha
    rcases Zz.mp ha with ha | ha<;>split at ha
    ·rw[UZ.mp ha,eb]
     exact rL (by show ((0:Nat):Int)<((cX _ _ _ _ _:Nat):Int);omega)
    ·exact absurd ha Zw
    ·rename_i z
     exact (Ea hy hv z pb).elim
    ·exact absurd ha Zw
   ·exact absurd hb Zw
  ·exact absurd ha Zw
theorem h7 {ws:List (List Nat)}: ∀{n:Nat} {o:Nat×Nat},o∈o9 ws n↔o.1<n/\o.2<(ws.getD o.1 []).length
 | 0,o=>by simp[o9]
 | n+1,o=>by
  unfold o9
  rw[Zz,h7 (n:=n),ZN]
  constructor
  ·rintro (⟨h1,h2⟩ | ⟨i,hi,rfl⟩)
   ·exact ⟨by omega,h2⟩
   ·exact ⟨by simp,Qac.mp hi⟩
  ·rintro ⟨h1,h2⟩
   by_cases z:o.1<n
   ·exact .inl ⟨z,h2⟩
   ·have e:o.1=n:=by omega
    exact .inr ⟨o.2,Qac.mpr (by rw[<-e];exact h2),by rw[<-e]⟩
theorem nW {ws:List (List Nat)}: ∀n:Nat,(o9 ws n).Pairwise fun a b=>iZ a.1 a.2 b.1 b.2=true
 | 0=>List.Pairwise.nil
 | n+1=>by
  unfold o9
  rw[Qaz]
  refine ⟨nW n,?_,fun a ha b hb=>?_⟩
  ·rw[Qao]
   refine List.pairwise_lt_range.imp fun {a b} h=>?_
   unfold iZ
   rw[if_pos rfl]
   exact decide_eq_true (by show (a:Int)<b;omega)
  ·obtain ⟨i,hi,rfl⟩:=ZN.mp hb
   have:=(h7.mp ha).1
   unfold iZ
   rw[if_neg (by show ¬((a.1:Nat):Int)=(n:Nat);omega)]
   exact decide_eq_true (by show ((a.1:Nat):Int)<(n:Nat);omega)
theorem Eb {y:List Nat} {ws:List (List Nat)} (hy:Yd y) (hw: ∀w∈ws,SW y w):(jM y ws).Pairwise fun a b=>a_ (i4 a) (i4 b)=true:=by
 have sw: ∀p∈places ws,SW y (ws.getD p.1 []):=fun p hp=>by
  have h1:=(h7.mp hp).1
  rw[Y3,Kw h1]
  exact hw _ (ZV h1)
 unfold jM
 rw[List.pairwise_flatMap]
 refine ⟨fun o ho=>?_,(nW ws.length).imp fun {a b} h x hx z hz=>?_⟩
 ·rw[List.pairwise_flatMap]
  refine ⟨fun p hp=>HD hy (sw p hp),(nW ws.length).imp fun {a b} h x hx z hz=>?_⟩
  obtain ⟨a1,a2,a3,a4⟩:=jx hx
  obtain ⟨b1,b2,b3,b4⟩:=jx hz
  unfold i4
  rw[a1,a2,a3,a4,b1,b2,b3,b4]
  exact HC h
 ·obtain ⟨p,hp,hx⟩:=ZU.mp hx
  obtain ⟨q,hq,hz⟩:=ZU.mp hz
  obtain ⟨a1,a2,a3,a4⟩:=jx hx
  obtain ⟨b1,b2,b3,b4⟩:=jx hz
  unfold i4
  rw[a1,a2,a3,a4,b1,b2,b3,b4]
  exact HB h
theorem jy: ∀{a b:List Int},a_ a b=true->a_ b a=false/\a≠b
 | [],[],h=>by simp[a_]at h
 | [],_::_,h=>⟨rfl,by simp⟩
 | _::_,[],h=>by simp[a_]at h
 | x::r,z::t,h=>by
  simp only[a_]at h ⊢
  split at h
  ·rename_i e
   obtain ⟨h1,h2⟩:=jy h
   rw[if_pos e.symm]
   exact ⟨h1,fun q=>h2 (List.cons.inj q).2⟩
  ·rename_i e
   have h':=of_decide_eq_true h
   rw[if_neg (fun q=>e q.symm)]
   exact ⟨decide_eq_false (by omega),fun q=>e (List.cons.inj q).1⟩
theorem Ec {L:List Fm} (h:L.Pairwise fun a b=>a_ (i4 a) (i4 b)=true) (k:Nat) (a b:Fm) (ha:L[k]? =some a) (hb:L[k+1]? =some b):a_ (i4 b) (i4 a)=false/\i4 b≠i4 a:=by
 obtain ⟨h1,e1⟩:=Kx.mp ha
 obtain ⟨h2,e2⟩:=Kx.mp hb
 have:=Qbj.mp h k (k+1) h1 h2 (Qam _)
 rw[e1,e2]at this
 obtain ⟨g1,g2⟩:=jy this
 exact ⟨g1,Ne.symm g2⟩
noncomputable def Ld (y w v:List Nat) (c i d j:Nat):List Fm:=
 (if iZ c i d j=true/\Hy y w v i j=true then [⟨c,i,d,j,0,jw⟩] else [])++(if iZ c i d j=true/\0<u5 y w v i j then [⟨c,i,d,j,u5 y w v i j,o8⟩] else [])++
 (if 0<cX y w v i j/\(c<d\/(c=d/\iZ i j (((j:Int) - cX y w v i j+1)%v.length) (((i:Int)+cX y w v i j - 1)%w.length)=true)) then [⟨c,i,d,j,cX y w v i j,fg⟩] else [])
theorem v_ {a b c d:Int} (h: ¬(c=a/\d=b)):iZ a b c d=!iZ c d a b:=by
 unfold iZ
 by_cases z:a=c
 ·rw[if_pos z,if_pos z.symm]
  have:d≠b:=fun q=>h ⟨z.symm,q⟩
  by_cases u:b<d
  ·rw[decide_eq_true u,decide_eq_false (by omega)];rfl
  ·rw[decide_eq_false u,decide_eq_true (by omega)];rfl
 ·rw[if_neg z,if_neg (fun q=>z q.symm)]
  by_cases u:a<c
  ·rw[decide_eq_true u,decide_eq_false (by omega)];rfl
  ·rw[decide_eq_false u,decide_eq_true (by omega)];rfl
theorem HE {y:List Nat} {ws:List (List Nat)} {o p:Nat×Nat} (hy:Yd y) (hw:SW y (ws.getD o.1 [])):Ld y (ws.getD o.1 []) (ws.getD p.1 []) o.1 o.2 p.1 p.2=gn y ws o p:=by
 unfold Ld gn t6
 congr 1
 ·by_cases z:iZ o.1 o.2 p.1 p.2=true
  ·rw[if_pos z]
   simp only[z,true_and]
  ·rw[if_neg z,if_neg (fun q=>z q.1),if_neg (fun q=>z q.1)]
   rfl
 ·unfold Jx
  by_cases z:o.1<p.1
  ·rw[if_pos (Z5 z)]
   by_cases m0:cX y (ws.getD o.1 []) (ws.getD p.1 []) o.2 p.2=0
   ·rw[if_neg (fun q=>by omega),if_pos (.inl m0)]
   ·rw[if_pos ⟨Qcc m0, .inl z⟩,if_neg (fun q=>q.elim m0 fun q=>by omega)]
  ·by_cases e:o.1=p.1
   ·rw[if_pos (Nat.le_of_eq e), <-e]
    by_cases m0:cX y (ws.getD o.1 []) (ws.getD o.1 []) o.2 p.2=0
    ·rw[if_neg (fun q=>by omega),if_pos (.inl m0)]
    ·have hm:=Qcc m0
     have fl:iZ (o.2:Int) p.2 (((p.2:Int) - cX y (ws.getD o.1 []) (ws.getD o.1 []) o.2 p.2+1)%(ws.getD o.1 []).length) (((o.2:Int)+cX y (ws.getD o.1 []) (ws.getD o.1 []) o.2 p.2 - 1)%(ws.getD o.1 []).length)=!eG (ws.getD o.1 []) o.2 p.2 (cX y (ws.getD o.1 []) (ws.getD o.1 []) o.2 p.2):=
      v_ fun q=>Ac hy hw hm q.1
     by_cases b:eG (ws.getD o.1 []) o.2 p.2 (cX y (ws.getD o.1 []) (ws.getD o.1 []) o.2 p.2)=true
     ·rw[if_neg (fun q=>q.2.elim (fun q=>by omega) fun q=>by rw[fl,b]at q;simp at q),if_pos (.inr ⟨rfl,b⟩)]
     ·rw[if_pos ⟨hm, .inr ⟨rfl,by rw[fl];simpa using b⟩⟩,if_neg (fun q=>q.elim m0 fun q=>b q.2)]
   ·rw[if_neg (fun q=>q.2.elim z fun q=>e q.1),if_neg (by omega)]
theorem Qe (y:List Nat) (f g:Int->Nat) (n:Nat):al y f g n<=n:=by
 unfold al
 have:=(cQ f g n 0).2.1
 split
 ·exact Y6 _
 ·split
  ·omega
  ·exact Y6 _
noncomputable def i5 (n:Nat) (l:List Nat):List Nat:=(List.replicate n l).flatten
def B2 (w:List Nat):Prop:= ∀(k a b:Nat),w[k]? =some a->w[k+1]? =some b->b≠aF a
theorem B2.nil:B2 []:=fun k a b h=>by simp at h
theorem B2.take {w:List Nat} (h:B2 w) (n:Nat):B2 (w.take n):=fun k a b h1 h2=>by
 rw[Qce]at h1 h2
 split at h1
 ·split at h2
  ·exact h k a b h1 h2
  ·cases h2
 ·cases h1
theorem B2.snoc {w:List Nat} {c:Nat} (h:B2 w) (hc: ∀a,w.getLast? =some a->c≠aF a):B2 (w++[c]):=fun k a b h1 h2=>by
 by_cases z:k+1<w.length
 ·rw[Qab (by omega)]at h1
  rw[Qab z]at h2
  exact h k a b h1 h2
 ·have ym:k+1<(w++[c]).length:=(Kx.mp h2).1
  rw[UY]at ym
  have e:k+1=w.length:=by simp at ym;omega
  rw[Qab (by omega)]at h1
  rw[e,Qaq (Q3 _),Nat.sub_self]at h2
  have e2:c=b:=by simpa using h2
  rw[<-e2]
  refine hc a ?_
  rw[Qb2, show w.length - 1=k by omega]
  exact h1
theorem SW.of {y w:List Nat} (ne:w≠[]) (bR: ∀c∈w,c∈y) (Gm:B2 w) (hd: ∀a b,w.head? =some a->w.getLast? =some b->a≠aF b):SW y w:=by
 refine ⟨ne,bR,fun k=>?_⟩
 have qA:0<w.length:=U0.mpr ne
 have h1:=Qar k (b:=(w.length:Int)) (by omega)
 have h2:=Qak k (b:=(w.length:Int)) (by omega)
 have hk:=eM ne k
 have MH:=eM ne (k - 1)
 by_cases z:k%(w.length:Int)=0
 ·have e:(k - 1)%(w.length:Int)=w.length - 1:=by
   rw[<-Int.emod_sub_emod,z]
   have:(0:Int) - 1=(w.length - 1)+w.length*(-1):=by omega
   rw[this,Qbx,ZP (by omega) (by omega)]
  rw[z]at hk
  rw[e]at MH
  refine hd _ _ ?_ ?_
  ·rw[Qdl];exact hk
  ·rw[Qb2, show w.length - 1=((w.length:Int) - 1).toNat by omega];exact MH
 ·have e:(k - 1)%(w.length:Int)=k%w.length - 1:=by
   rw[<-Int.emod_sub_emod,ZP (by omega) (by omega)]
  rw[e]at MH
  refine Gm _ _ _ MH ?_
  rw[show (k%(w.length:Int) - 1).toNat+1=(k%(w.length:Int)).toNat by omega]
  exact hk
theorem SW.Gm {y w:List Nat} (h:SW y w):B2 w:=fun k a b h1 h2=>by
 have hk:=(Kx.mp h2).1
 have e1:=mh (w:=w) (k:=k) (by omega)
 have e2:=mh (w:=w) (k:=k+1) hk
 rw[h1]at e1
 rw[h2]at e2
 rw[ZG e1,ZG e2]
 have:=h.red ((k+1:Nat):Int)
 rwa [show (((k+1:Nat):Int) - 1)=(k:Int) by omega]at this
theorem Ed {w:List Nat} {n:Nat} (h:w≠[]) (hn:n<=w.length) (k:Int):rd (w.drop n++w.take n) k=rd w (k+n):=by
 have qA:0<w.length:=U0.mpr h
 have hl:(w.drop n++w.take n).length=w.length:=by rw[UY,ZL,ZD];omega
 have h1:=Qar k (b:=(w.length:Int)) (by omega)
 have h2:=Qak k (b:=(w.length:Int)) (by omega)
 have e:(k+n)%(w.length:Int)=(k%w.length+n)%w.length:=by rw[Qcl]
 generalize hr:k%(w.length:Int)=r at h1 h2 e
 obtain ⟨m,rfl⟩: ∃m:Nat,r=m:=⟨r.toNat,by omega⟩
 have hm:m<w.length:=by omega
 by_cases z:m+n<w.length
 ·have hg:w[m+n]? =some (rd w (k+n)):=by
   have:=eM h (k+n)
   rwa [e,ZP (by omega) (by omega),show ((m:Int)+n).toNat=m+n by omega]at this
  refine vZ (n:=m) (by rw[hl];exact hm) (by rw[hl];exact hr) ?_
  rw[Qab (by rw[ZL];omega),Qa6,Qd5]
  exact hg
 ·have hg:w[m+n - w.length]? =some (rd w (k+n)):=by
   have:=eM h (k+n)
   have e2:((m:Int)+n)%w.length=((m+n - w.length:Nat):Int):=by
    have:(m:Int)+n=((m+n - w.length:Nat):Int)+w.length:=by omega
    rw[this,Qbq,ZP (by omega) (by omega)]
   rwa [e,e2,WB]at this
  refine vZ (n:=m) (by rw[hl];exact hm) (by rw[hl];exact hr) ?_
  rw[Qaq (by rw[ZL];omega),ZL,Qce,if_pos (by omega),show m - (w.length - n)=m+n - w.length by omega]
  exact hg
theorem SW.gZ {y w:List Nat} {n:Nat} (h:SW y w) (hn:n<=w.length):SW y (w.drop n++w.take n):=by
 refine ⟨fun z=>h.ne ?_,fun c hc=>?_,fun k=>?_⟩
 ·have l0:(w.drop n++w.take n).length=0:=by rw[z];rfl
  rw[UY,ZL,ZD]at l0
  exact Qa0.mp (by omega)
 ·exact h.bR c ((Zz.mp hc).elim Qbv Qa8)
 ·rw[Ed h.ne hn,Ed h.ne hn,show k - 1+n=k+n - 1 by omega]
  exact h.red _
theorem SW.gK {y w:List Nat} (hy:Yd y) (h:SW y w):SW y (gK w):=by
 refine ⟨fun z=>h.ne ?_,fun c hc=>?_,fun k=>?_⟩
 ·have:=ck w
  rw[z]at this
  exact Qa0.mp this.symm
 ·obtain ⟨d,hd,rfl⟩:=ZN.mp (Qde.mp hc)
  exact hy.cl d (h.bR d hd)
 ·rw[mj h.ne,mj h.ne,show -1 - (k - 1)= -1 - k+1 by omega]
  intro q
  have l1:=hy.lt _ (h.rd (-1 - k))
  have l2:=hy.lt _ (h.rd (-1 - k+1))
  rw[aR l2]at q
  have:=h.red (-1 - k+1)
  rw[show -1 - k+1 - 1= -1 - k by omega]at this
  exact this q.symm
theorem kU (n:Nat) (l:List Nat):i5 (n+1) l=l++i5 n l:=by unfold i5;rw[Qdx,Qbu]
theorem Ae (n:Nat) (l:List Nat):(i5 n l).length=n*l.length:=by
 induction n with
 | zero=>simp[i5]
 | succ n ih=>rw[kU,UY,ih,Qch,Qd5]
theorem Af {l:List Nat}: ∀{n k:Nat},k<n*l.length->(i5 n l)[k]? =l[k%l.length]?
 | 0,k,h=>by simp at h
 | n+1,k,h=>by
  rw[kU]
  by_cases z:k<l.length
  ·rw[Qab z,Qbf z]
  ·rw[Qaq (by omega),Af (by rw[Qch]at h;omega),Qd2 (by omega:l.length<=k)]
theorem Ag {w:List Nat} {n:Nat} (h:w≠[]) (hn:0<n) (k:Int):rd (i5 n w) k=rd w k:=by
 have qA:0<w.length:=U0.mpr h
 have hl:=Ae n w
 have Vm:0<n*w.length:=Nat.mul_pos hn qA
 have h1:=Qar k (b:=((n*w.length:Nat):Int)) (by omega)
 have h2:=Qak k (b:=((n*w.length:Nat):Int)) (by omega)
 have e:k%(w.length:Int)=(k%((n*w.length:Nat):Int))%w.length:=(Qbw k (by rw[Qej];exact Int.dvd_mul_left _ _)).symm
 generalize hr:k%((n*w.length:Nat):Int)=r at h1 h2 e
 obtain ⟨m,rfl⟩: ∃m:Nat,r=m:=⟨r.toNat,by omega⟩
 have hm:m<n*w.length:=by omega
 refine vZ (n:=m) (by rw[hl];exact hm) (by rw[hl];exact hr) ?_
 rw[Af hm]
 have:=eM h k
 rwa [e,show (((m:Int)%w.length).toNat)=m%w.length by rw[<-Qcq,WB]]at this
theorem HF {w:List Nat} {n c:Nat} (h:c∈i5 n w):c∈w:=by
 obtain ⟨l,hl,hc⟩:=List.mem_flatten.mp h
 rwa [List.eq_of_mem_replicate hl]at hc
theorem SW.dB {y w:List Nat} {n:Nat} (h:SW y w) (hn:0<n):SW y (i5 n w):=by
 refine ⟨fun z=>?_,fun c hc=>h.bR c (HF hc),fun k=>by rw[Ag h.ne hn,Ag h.ne hn];exact h.red k⟩
 have:=Ae n w
 rw[z]at this
 have h2:0<n*w.length:=Nat.mul_pos hn (U0.mpr h.ne)
 simp at this
 omega
theorem SW.twice {y w:List Nat} (h:SW y w):SW y (w++w):=by
 have:=h.dB (n:=2) (by decide)
 rwa [show i5 2 w=w++w by rw[kU,kU];simp[i5]]at this
theorem SW.snoc {y w:List Nat} {c:Nat} (hy:Yd y) (Gm:B2 w) (bR: ∀a∈w,a∈y) (hc:c∈y) (h1: ∀a,w.getLast? =some a->c≠aF a) (h2: ∀a,w.head? =some a->c≠aF a):SW y (w++[c]):=by
 refine SW.of (by simp) (fun a ha=>?_) (Gm.snoc h1) fun a b ha hb=>?_
 ·rcases Zz.mp ha with q | q
  ·exact bR a q
  ·rw[UZ.mp q];exact hc
 ·have eb:b=c:=by simpa using hb.symm
  subst eb
  cases w with
  | nil=>
   have:b=a:=by simpa using ha
   rw[<-this]
   exact fun q=>hJ (hy.lt b hc) q.symm
  | cons x r=>
   have:x=a:=by simpa using ha
   subst this
   have hx:x∈y:=bR x Zy
   intro q
   exact h2 x rfl (by rw[q,aR (hy.lt b hc)])
theorem t9 {w:List Nat} (h:w≠[]):w.getLast? =some (rd w (-1)):=by
 have qA:0<w.length:=U0.mpr h
 have:=eM h (-1)
 have e:(-1:Int)%(w.length:Int)=w.length - 1:=by
  have e2:(-1:Int)=((w.length:Int) - 1)+w.length*(-1):=by omega
  rw[e2,Qbx,ZP (by omega) (by omega)]
 rw[e]at this
 rw[Qb2, show w.length - 1=((w.length:Int) - 1).toNat by omega]
 exact this
theorem nX {w:List Nat} (h:w≠[]):w.head? =some (rd w 0):=by
 have:=eM h 0
 rw[Qdl]
 simpa using this
theorem B3 (w:List Nat): ∃k,kh w k:=by
 by_cases h:w=[]
 ·exact ⟨0, .inl ⟨h,rfl⟩⟩
 ·obtain ⟨k,_,_,t⟩:=o7 h
  exact ⟨k,t⟩
theorem bO.turn {w:List Nat} {s:Nat} (h:bO w s):kh w s:=by
 obtain ⟨k,t⟩:=B3 w
 rw[ju h t];exact t
theorem HG {w:List Nat} {s:Nat} (h2:s<=w.length) (h:eh w s):w.length / s*s=w.length:=by
 have:=congrArg List.length h
 rw[oR,ZD,Qal h2]at this
 exact this
theorem bO.least {w:List Nat} {s j:Nat} (h:bO w s) (j1:1<=j) (j2:j<s) (hp:xr w j):False:=by
 rcases h.turn with ⟨_,e⟩ | ⟨h1,h2,h3,h4⟩
 ·omega
 ·have hn:w≠[]:=fun z=>by rw[z]at h2;simp at h2;omega
  exact h4 j j1 j2 ((gm hn (by omega)).mpr hp)
theorem SW.Xf {y w:List Nat} (hy:Yd y) (h:SW y w):yy w:=DZ fun k a b ha hb e=>by
 have Jy:b∈y:=h.bR b (Zx hb)
 have:=h.Gm k a b ha hb
 rw[e,aR (hy.lt b Jy)]at this
 exact this rfl
theorem SW.core {y w:List Nat} (hy:Yd y) (h:SW y w):My.core (My.red w)=w:=by
 rw[DX (h.Xf hy)]
 by_cases z:w.length<2
 ·exact hU z
 ·obtain ⟨a,m,e,hw⟩:=D0 (l:=w) (by omega)
  have h0:=nX h.ne
  have h1:=t9 h.ne
  have hr:=h.red 0
  rw[show (0:Int) - 1= -1 by omega]at hr
  rw[hw]at h0 h1 hr ⊢
  have e0:a=My.rd (a::(m++[e])) 0:=ZG h0
  have e1:e=My.rd (a::(m++[e])) (-1):=by
   have:(a::(m++[e])).getLast? =some e:=by rw[<-List.cons_append,List.getLast?_append];rfl
   exact ZG (this.symm.trans h1)
  exact mf (by rw[<-e0, <-e1]at hr;exact hr)
theorem t_ {w:List Nat} {k:Nat} (hk:k<=w.length) (i:Nat):Fw (gZ w k) i=Fw w (i+k):=by
 by_cases z:w=[]
 ·subst z
  unfold Fw gZ
  simp
 ·have hp:0<w.length:=U0.mpr z
  have e:Fw (gZ w k) i=(gZ w k)[i%w.length]?:= by unfold Fw;rw[cE]
  rw[e,nV hk (Qcd _ hp),D5]
theorem Ah {w:List Nat} {k s:Nat} (hk:k<=w.length) (hn:w≠[]):xr (gZ w k) s↔xr w s:=by
 constructor
 ·intro h i
  have h1:=h (i+(w.length - k))
  rw[t_ hk,t_ hk]at h1
  have e1:i+(w.length - k)+s+k=i+s+w.length:=by omega
  have e2:i+(w.length - k)+k=i+w.length:=by omega
  rw[e1,e2,xr.whole w,xr.whole w]at h1
  exact h1
 ·intro h i
  rw[t_ hk,t_ hk,show i+s+k=i+k+s by omega]
  exact h _
theorem rM {w:List Nat} (hn:w≠[]) {s:Nat} (h:bO w s):kh w s:=by
 obtain ⟨k,r,_,g⟩:=o7 hn
 rw[ju h g]
 exact g
theorem Ee {w:List Nat} {k s:Nat} (hk:k<=w.length) (hn:w≠[]) (h:kh (gZ w k) s):kh w s:=by
 have xN:gZ w k≠[]:=fun z=>hn (Qa0.mp (by have:=cE w k;rw[z]at this;exact this.symm))
 rcases h with ⟨z,_⟩ | ⟨h1,h2,h3,h4⟩
 ·exact absurd z xN
 ·rw[cE]at h2
  refine .inr ⟨h1,h2,(gm hn h2).mpr ((Ah hk hn).mp ((gm xN (by rw[cE];exact h2)).mp h3)),fun j j1 j2 j3=>h4 j j1 j2 ?_⟩
  exact (gm xN (by rw[cE];omega)).mpr ((Ah hk hn).mpr ((gm hn (by omega)).mp j3))
theorem B4 {y w:List Nat} {s t:Nat} (hy:Yd y) (h:SW y w) (hr:bO (dP w) s) (hw:bO w t):s=t/\(dP w).length=w.length:=by
 have e:dP w=fF w:=by unfold dP;rw[h.core hy]
 obtain ⟨k,ek⟩:=rG w
 have ym: ∃k,k<=w.length/\fF w=gZ w k:=by
  by_cases z:k<=w.length
  ·exact ⟨k,z,ek⟩
  ·refine ⟨w.length,Q3 _,?_⟩
   rw[ek]
   unfold gZ
   rw[Qa3 (by omega),ZO (by omega),List.drop_length,Qad]
 obtain ⟨k,hk,ek⟩:=ym
 rw[e,ek]at hr ⊢
 have xN:gZ w k≠[]:=fun z=>h.ne (Qa0.mp (by have:=cE w k;rw[z]at this;exact this.symm))
 refine ⟨?_,cE w k⟩
 exact (ju hw (Ee hk h.ne (rM xN hr))).symm
theorem Ai {w:List Nat} (hn:w≠[]): ∃s,bO w s:=by
 obtain ⟨k,r,_,g⟩:=o7 hn
 rcases g with ⟨z,_⟩ | ⟨h1,h2,h3,h4⟩
 ·exact absurd z hn
 ·exact ⟨k, .inr ⟨h1,h2,rH hn h1 h2 h3 h4,fun j j1 j2 j3=>h4 j j1 j2 (tZ j1 (by omega) j3)⟩⟩
theorem wd {w:List Nat} {s t:Nat} (hn:w≠[]) (h:bO w s) (g:bO w t):s=t:=ju h (rM hn g)
theorem HH {a b:List Nat} {e:Nat} (hn:(a++b).Nodup) (he:e∈a++b):(b++a).idxOf e=if (a++b).idxOf e<a.length then (a++b).idxOf e+b.length else (a++b).idxOf e - a.length:=by
 rw[Qap]at hn
 obtain ⟨na,nb,Xg⟩:=hn
 by_cases z:e∈a
 ·have zb:e∉b:=fun q=>Xg e z e q rfl
  rw[Qc7,Qc7,if_pos z,if_neg zb,if_pos (WE z)]
 ·have zb:e∈b:=(Zz.mp he).resolve_left z
  rw[Qc7,Qc7,if_pos zb,if_neg z,if_neg (by omega)]
  omega
theorem rN {y:List Nat} {k e:Nat} (hn:y.Nodup) (hk:k<=y.length) (he:e∈y):(((y.drop k++y.take k).idxOf e:Nat):Int)=((y.idxOf e:Int) - k)%y.length:=by
 have h1:=HH (a:=y.take k) (b:=y.drop k) (e:=e) (by rw[Qaa];exact hn) (by rw[Qaa];exact he)
 rw[Qaa,ZD,ZL,Qal hk]at h1
 have hi:=WE he
 rw[h1]
 by_cases z:y.idxOf e<k
 ·rw[if_pos z]
  have:(y.idxOf e:Int) - k=((y.idxOf e+(y.length - k):Nat):Int)+y.length*(-1):=by omega
  rw[this,Qbx,ZP (by omega) (by omega)]
 ·rw[if_neg z,ZP (by omega) (by omega)]
  omega
theorem we {y:List Nat} {a b c:Nat} (hn:y.Nodup) (ha:a∈y) (hb:b∈y) (hc:c∈y):decide ((((y.drop (y.idxOf a)++y.take (y.idxOf a)).idxOf b:Nat):Int)<(((y.drop (y.idxOf a)++y.take (y.idxOf a)).idxOf c:Nat):Int))=gr y a b c:=by
 have hk:=Z5 (WE ha)
 rw[rN hn hk hb,rN hn hk hc]
 rfl
noncomputable def xt (x:Fm):List V:=[.int x.c, .int x.i, .int x.d, .int x.j, .int x.m, .str (S x.t)]
structure Fa where
 a:Addr
 x:Fm
noncomputable def h_ (L:List Fa):List V:=L.map fun k=>V.ref k.a
theorem fO (L:List Fa):(h_ L).length=L.length:=by unfold h_;rw[UX]
theorem wg (a:List Fa) (k:Fa):h_ a++[V.ref k.a]=h_ (a++[k]):=by unfold h_;rw[WC];rfl
def cZ (H:Hp) (L:List Fa):Prop:= ∀k∈L,H k.a=some (.tup (xt k.x))
theorem cZ.nil (H:Hp):cZ H []:=fun _ h=>absurd h Zw
theorem cZ.ts {H H':Hp} {L:List Fa} (h:cZ H L) (s:ba H H'):cZ H' L:=fun k hk=>s _ _ (h k hk)
theorem cZ.app {H:Hp} {a b:List Fa} (x:cZ H a) (y:cZ H b):cZ H (a++b):=fun k hk=>(Zz.mp hk).elim (x k) (y k)
theorem cZ.snoc {H:Hp} {a:List Fa} {k:Fa} (x:cZ H a) (y:H k.a=some (.tup (xt k.x))):cZ H (a++[k]):=x.app fun z hz=>by rw[UZ.mp hz];exact y
structure Sd where
 t:Addr
 c:Nat
 i:Nat
noncomputable def Sd.pair (p:Sd):Nat×Nat:=(p.c,p.i)
noncomputable def o_ (ps:List Sd):List V:=ps.map fun p=>V.ref p.t
theorem kW (ps:List Sd):(o_ ps).length=ps.length:=by unfold o_;rw[UX]
theorem Ef (a:List Sd) (p:Sd):o_ a++[V.ref p.t]=o_ (a++[p]):=by unfold o_;rw[WC];rfl
theorem HI (a b:List Sd):o_ a++o_ b=o_ (a++b):=by unfold o_;rw[WC]
theorem Eg {ps:List Sd} {i:Nat} {x:V} (h:(o_ ps)[i]? =some x): ∃p,ps[i]? =some p/\x=V.ref p.t:=by
 unfold o_ at h
 rw[ZA]at h
 cases e:ps[i]? with
 | none=>rw[e]at h;cases h
 | some p=>rw[e]at h;cases h;exact ⟨p,rfl,rfl⟩
def Jz (H:Hp) (ps:List Sd):Prop:= ∀p∈ps,H p.t=some (.tup [.int p.c, .int p.i])
structure CK (y:List Nat) (ws:List (List Nat)):Prop where
 sw: ∀w∈ws,SW y w/\w.length<=12
 uY:ws.length<=4
 all:(places ws).length<=24
theorem getD_at {ws:List (List Nat)} {c:Nat} (h:c<ws.length):(gL ws)[c]? =some (V.str (S (ws.getD c []))):=by
 rw[ke h,Y3,Kw h];rfl
theorem getD_in {ws:List (List Nat)} {c:Nat} (h:c<ws.length):ws.getD c []∈ws:=by
 rw[Y3,Kw h];exact ZV h
def i6 (_:PySem.W.Frag):Sp:=fun vs H Q _=> ∃(w:List Nat) (i:Nat),vs=[.str (S w), .int i]/\(∀c∈w,Lt c)/\w.length<=1000/\i<w.length/\ ∀q H',H q=none->H' q=some (.tup [.str (S [aF (rd w ((i:Int) - 1))]), .str (S [rd w i])])->ao H H'->Q (.ref q) H'
theorem nB {K:PySem.W.Frag} {vs:List V} {H:Hp} {Q:VK} {E:XK} (h:i6 K vs H Q E):vs.length=2:=by obtain ⟨_,_,rfl,_⟩:=h;rfl
def Le (H:Hp) (Q:VK) (vs:List V):Prop:= ∃(y:List Nat) (wt:Addr) (ws:List (List Nat)),vs=[.str (S y), .ref wt]/\Yd y/\y.length<=8/\CK y ws/\H wt=some (.tup (gL ws))/\
 ∀(q:Addr) (L:List Fa) (H':Hp),H q=none->H' q=some (.lst (h_ L))->cZ H' L->L.map Fa.x=jM y ws->ao H H'->Q (.ref q) H'
def ph (_:PySem.W.Frag):Sp:=fun vs H Q _=>Le H Q vs
theorem wj {K:PySem.W.Frag} {vs:List V} {H:Hp} {Q:VK} {E:XK} (h:ph K vs H Q E):vs.length=2:=by obtain ⟨_,_,_,rfl,_⟩:=h;rfl
def rO (_:PySem.W.Frag):Sp:=fun vs H Q _=> ∃(b:Addr) (y:List Nat) (top:Nat),vs=[.ref b, .str (S y), .int top]/\cP H b/\Yd y/\2<=y.length/\y.length<=8/\1<=top/\top<=100/\ ∀(w:List Nat) H',SW y w->w.length<=top->cP H' b->aN b H H'->Q (.str (S w)) H'
theorem yD {K:PySem.W.Frag} {vs:List V} {H:Hp} {Q:VK} {E:XK} (h:rO K vs H Q E):vs.length=3:=by obtain ⟨_,_,_,rfl,_⟩:=h;rfl
def wm (_:PySem.W.Frag):Sp:=fun vs H Q _=> ∃(b:Addr) (y w:List Nat) (top:Nat),vs=[.ref b, .str (S y), .str (S w), .int top]/\cP H b/\Yd y/\2<=y.length/\y.length<=8/\1<=top/\top<=100/\SW y w/\w.length<=top/\ ∀(u:List Nat) H',SW y u->u.length<=top->cP H' b->aN b H H'->Q (.str (S u)) H'
theorem B6 {K:PySem.W.Frag} {vs:List V} {H:Hp} {Q:VK} {E:XK} (h:wm K vs H Q E):vs.length=4:=by obtain ⟨_,_,_,_,rfl,_⟩:=h;rfl
def rP (_:PySem.W.Frag):Sp:=fun vs H Q _=> ∃(y:List Nat) (a b c:Nat),vs=[.str (S y), .str (S [a]), .str (S [b]), .str (S [c])]/\y.Nodup/\a∈y/\b∈y/\c∈y/\y.length<=1000/\Q (.bl (gr y a b c)) H
theorem yE {K:PySem.W.Frag} {vs:List V} {H:Hp} {Q:VK} {E:XK} (h:rP K vs H Q E):vs.length=4:=by obtain ⟨c,_,_,_,rfl,_⟩:=h;rfl
def Eh (_:PySem.W.Frag):Sp:=fun vs H Q _=> ∃(w:List Nat) (k:Int),vs=[.str (S w), .int k]/\w≠[]/\w.length<=1000/\Q (.str (S [rd w k])) H
theorem HJ {K:PySem.W.Frag} {vs:List V} {H:Hp} {Q:VK} {E:XK} (h:Eh K vs H Q E):vs.length=2:=by obtain ⟨_,_,rfl,_⟩:=h;rfl
def pj (_:PySem.W.Frag):Sp:=fun vs H Q _=> ∃(y w:List Nat) (i:Nat) (v:List Nat) (j:Nat),vs=[.str (S y), .str (S w), .int i, .str (S v), .int j]/\Yd y/\y.length<=8/\SW y w/\SW y v/\w.length<=12/\v.length<=12/\i<w.length/\j<v.length/\ ∀H',ao H H'->Q (.bl (Hy y w v i j)) H'
theorem wo {K:PySem.W.Frag} {vs:List V} {H:Hp} {Q:VK} {E:XK} (h:pj K vs H Q E):vs.length=5:=by obtain ⟨_,_,_,_,_,rfl,_⟩:=h;rfl
noncomputable def wq (v:List Nat) (j:Int) (b:Bool):Int->Nat:=if b=true then bq v j else sq v j
theorem Lf (v:List Nat) (j:Int) (b:Bool) (k:Int):wq v j b (k+v.length)=wq v j b k:=by
 unfold wq
 cases b
 ·rw[if_neg (by decide)];exact cF v j k
 ·rw[if_pos rfl];exact mi v j k
noncomputable def xu (f g:Int->Nat) (n:Nat):Int:=if ff f g n 0=n then -1 else ff f g n 0
def pq (_:PySem.W.Frag):Sp:=fun vs H Q _=> ∃(w:List Nat) (i:Nat) (v:List Nat) (j:Nat) (b:Bool),vs=[.str (S w), .int i, .str (S v), .int j, .bl b]/\w≠[]/\v≠[]/\(∀c∈v,Lt c)/\w.length<=12/\v.length<=12/\Q (.int (xu (sq w i) (wq v j b) (w.length+v.length))) H
theorem wx {K:PySem.W.Frag} {vs:List V} {H:Hp} {Q:VK} {E:XK} (h:pq K vs H Q E):vs.length=5:=by obtain ⟨_,_,_,_,_,rfl,_⟩:=h;rfl
def pA (_:PySem.W.Frag):Sp:=fun vs H Q _=> ∃(y w:List Nat) (i:Nat) (v:List Nat) (j:Nat) (b:Bool),vs=[.str (S y), .str (S w), .int i, .str (S v), .int j, .bl b]/\Yd y/\y.length<=8/\SW y w/\SW y v/\w.length<=12/\v.length<=12/\ ∀H',ao H H'->Q (.int (al y (sq w i) (wq v j b) (w.length+v.length))) H'
theorem wA {K:PySem.W.Frag} {vs:List V} {H:Hp} {Q:VK} {E:XK} (h:pA K vs H Q E):vs.length=6:=by obtain ⟨_,_,_,_,_,_,rfl,_⟩:=h;rfl
def Told (b:Addr) (H:Hp) (Q:VK) (y:List Nat):Prop:= ∀(t:Addr) (ws:List (List Nat)) (H':Hp),H t=none->t≠b->H' t=some (.tup (gL ws))->CK y ws->cP H' b->aN b H H'->Q (.ref t) H'
def rQ (_:PySem.W.Frag):Sp:=fun vs H Q _=> ∃(b:Addr) (y:List Nat) (many top:Nat),vs=[.ref b, .str (S y), .int many, .int top]/\cP H b/\Yd y/\2<=y.length/\y.length<=8/\1<=many/\many<=4/\1<=top/\top<=12/\many*top<=24/\Told b H Q y
theorem yF {K:PySem.W.Frag} {vs:List V} {H:Hp} {Q:VK} {E:XK} (h:rQ K vs H Q E):vs.length=4:=by obtain ⟨_,_,_,_,rfl,_⟩:=h;rfl
theorem kX {ws:List (List Nat)} {m:Nat} (h: ∀w∈ws,w.length<=m): ∀n:Nat,n<=ws.length->(o9 ws n).length<=n*m
 | 0,_=>Y6 _
 | n+1,hn=>by
  unfold o9
  have:=kX h n (by omega)
  have h2:=h _ (getD_in (ws:=ws) (c:=n) (by omega))
  rw[UY,UX,Qcj,Qch]
  omega
theorem Aj {y:List Nat} {f g:Int->Nat} {n:Nat} (hf:0<xu f g n):xu f g n=ff f g n 0/\0<ff f g n 0/\f 0=g 0:=by
 unfold xu at hf ⊢
 by_cases z:ff f g n 0=n
 ·rw[if_pos z]at hf;omega
 ·rw[if_neg z]at hf ⊢
  have hp:0<ff f g n 0:=by omega
  exact ⟨rfl,hp,(cQ f g n 0).2.2.1 0 (Q3 _) hp⟩
theorem Lg {H2:Hp} {t a3:Addr} {L:List Fa} {x:Fm} {H3:Hp} (ht:H2 t=some (.lst (h_ L))) (hL:cZ H2 L) (s:ao H2 H3) (n3:H3 a3=none):
  cZ (upd (upd H3 a3 (.tup (xt x))) t (.lst (h_ (L++[⟨a3,x⟩])))) (L++[⟨a3,x⟩])/\ba H2 (upd (upd H3 a3 (.tup (xt x))) t (.lst (h_ (L++[⟨a3,x⟩]))))/\
  (∀H,H t=none->ao H H2->ao H (upd (upd H3 a3 (.tup (xt x))) t (.lst (h_ (L++[⟨a3,x⟩])))))/\upd (upd H3 a3 (.tup (xt x))) t (.lst (h_ (L++[⟨a3,x⟩]))) t=some (.lst (h_ (L++[⟨a3,x⟩]))):=by
 have s3:=s.trans (ao.upd (o:= .tup (xt x)) n3)
 have JA:=s3 _ _ ht
 have TH:a3≠t:=fun z=>by rw[z,s _ _ ht]at n3;cases n3
 have ts:ba H2 (upd (upd H3 a3 (.tup (xt x))) t (.lst (h_ (L++[⟨a3,x⟩])))):=(ba.of s3).trans (ba.yr JA)
 refine ⟨(hL.ts ts).snoc ?_,ts,fun H n s0 a o e=>?_,ah⟩
 ·show upd _ t _ a3=_
  rw[ay TH,ah]
 ·rw[ay (ar e n)]
  exact s3 _ _ (s0 a o e)
theorem JB {K:PySem.W.Frag} {H:Hp}: ∀{L:List Fa},cZ H L->BG K H 4 (h_ L) (L.map fun a=>i4 a.x)
 | [],_=>trivial
 | a::L,h=>⟨⟨a.a,S a.x.t,rfl,bV.of (h a Zy),rfl⟩,JB fun k hk=>h k (Y4 _ hk)⟩
theorem B7 {y:List Nat} {ws:List (List Nat)} {L:List Fa} (hy:Yd y) (hw: ∀w∈ws,SW y w) (e:L.map Fa.x=jM y ws) (k:Nat) (a b:List Int) (ha:(L.map fun a=>i4 a.x)[k]? =some a) (hb:(L.map fun a=>i4 a.x)[k+1]? =some b):a_ b a=false/\b≠a:=by
 have e2:(L.map fun a=>i4 a.x)=(jM y ws).map i4:=by rw[<-e,Qaf];rfl
 rw[e2,ZA]at ha hb
 obtain ⟨x,hx,rfl⟩:=Qdj.mp ha
 obtain ⟨z,hz,rfl⟩:=Qdj.mp hb
 exact Ec (Eb hy hw) k x z hx hz
theorem rR {α β:Type} {l:List α} {k:Nat} {x:α} (f:α->List β) (h:l[k]? =some x):(l.take (k+1)).flatMap f=(l.take k).flatMap f++f x:=by
 rw[<-take_snoc h,Z1]
 simp
theorem aN.ts {t:Addr} {H H':Hp} {ys:List V} (ht:H t=some (.lst ys)) (s:aN t H H'):ba H H':=fun c xs h=>s _ _ h fun z=>by rw[z,ht]at h;cases h
theorem wB {ws:List (List Nat)} {c i:Nat} (h:(c,i)∈places ws):c<ws.length/\i<(ws.getD c []).length:=h7.mp h
theorem Ak {y:List Nat} {f g:Int->Nat} {n:Nat} (h: ¬0<xu f g n) (Lh:f (-1)≠g (-1)->ff f g n 0<n/\f (ff f g n 0)≠g (ff f g n 0)):al y f g n=0:=by
 unfold al
 by_cases z:f 0≠g 0\/f (-1)=g (-1)
 ·rw[if_pos z]
 ·have z1:f 0=g 0:=Classical.byContradiction fun q=>z (.inl q)
  have z2:f (-1)≠g (-1):=fun q=>z (.inr q)
  obtain ⟨h1,h2⟩:=Lh z2
  unfold xu at h
  rw[if_neg (by omega)]at h
  have e:ff f g n 0=0:=by omega
  rw[e]at h2
  exact absurd z1 h2
theorem Al {y:List Nat} {f g:Int->Nat} {n:Nat} (h:f (-1)=g (-1)):al y f g n=0:=by unfold al;rw[if_pos (.inr h)]
theorem Am {y:List Nat} {f g:Int->Nat} {n:Nat} (h0:f 0=g 0) (h:f (-1)≠g (-1)):al y f g n=if gr y (aF (f (-1))) (aF (g (-1))) (f 0)=gr y (f (ff f g n 0)) (g (ff f g n 0)) (aF (f ((ff f g n 0:Nat) - 1))) then ff f g n 0 else 0:=by
 unfold al
 rw[if_neg (fun z=>z.elim (fun z=>z h0) h)]
theorem Li {a b:Nat} (h:S [a]=S [b]):a=b:=by
 have:=congrArg (fun x:Str=>x.cps.toList) h
 simpa [S]using this
theorem Ei {a b c d:Nat}:(dd ([]:List Str) (([[a],[b],[c],[d]]:List (List Nat)).map S)).length<=4:=tN _ _
theorem wC {a b c d:Nat}:(dd ([]:List Str) (([[a],[b],[c],[d]]:List (List Nat)).map S)).length=4↔a≠b/\a≠c/\a≠d/\b≠c/\b≠d/\c≠d:=by
 have h:=DN (([[a],[b],[c],[d]]:List (List Nat)).map S) ([]:List Str)
 have e:([]:List Str).length+(([[a],[b],[c],[d]]:List (List Nat)).map S).length=4:=rfl
 rw[e]at h
 rw[h]
 have key: ∀x z:Nat,(S [x]=S [z])↔x=z:=fun x z=>⟨Li,fun q=>by rw[q]⟩
 simp[key]
 constructor
 ·rintro ⟨⟨h1,h2,h3⟩,⟨h4,h5⟩,h6⟩
  exact ⟨h1,h2,h3,h4,h5,h6⟩
 ·rintro ⟨h1,h2,h3,h4,h5,h6⟩
  exact ⟨⟨h1,h2,h3⟩,⟨h4,h5⟩,h6⟩
theorem Lj (p q:Bool) (c d:Nat) (f:Nat->Bool) (hp:f c=p) (hq:f d=q):decide ((([c,d].filter f).length:Int)=1)=(p != q):=by
 subst hp hq
 cases h1:f c<;>cases h2:f d<;>simp[List.filter,h1,h2]
theorem ua {H2:Hp} {t a3:Addr} {L:List Fa} {x:Fm} {H3:Hp} (ht:H2 t=some (.lst (h_ L))) (hL:cZ H2 L) (s:ao H2 H3) (n3:H3 a3=none):
  cZ (upd (upd H3 a3 (.tup (xt x))) t (.lst (h_ L++[V.ref a3]))) (L++[⟨a3,x⟩])/\ba H2 (upd (upd H3 a3 (.tup (xt x))) t (.lst (h_ L++[V.ref a3])))/\
  (∀H,H t=none->ao H H2->ao H (upd (upd H3 a3 (.tup (xt x))) t (.lst (h_ L++[V.ref a3]))))/\upd (upd H3 a3 (.tup (xt x))) t (.lst (h_ L++[V.ref a3])) t=some (.lst (h_ (L++[⟨a3,x⟩]))):=by
 rw[show h_ L++[V.ref a3]=h_ (L++[⟨a3,x⟩]) from wg L ⟨a3,x⟩]
 exact Lg ht hL s n3
theorem Ej {α:Type} (w:List α):cut w none (some (-1))=w.take (w.length - 1):=by
 unfold cut
 rw[HT.kB,K8]
 simp
structure Wd (y w:List Nat):Prop where
 Gm:B2 w
 bR: ∀c∈w,c∈y
theorem Wd.more {y w:List Nat} {c:Nat} (h:Wd y w) (hc:c∈y) (hn:w≠[]->c≠aF (rd w (-1))):Wd y (w++[c]):=
 ⟨h.Gm.snoc fun a ha=>by
  have dv:w≠[]:=fun z=>by rw[z]at ha;simp at ha
  rw[t9 dv]at ha
  rw[<-ZG ha]
  exact hn dv,fun a ha=>by
  rcases Zz.mp ha with g | g
  ·exact h.bR a g
  ·rw[UZ.mp g];exact hc⟩
theorem Wd.sw {y w:List Nat} (h:Wd y w) (dv:w≠[]) (he:rd w 0≠aF (rd w (-1))):SW y w:=
 SW.of dv h.bR h.Gm fun a b ha hb=>by
  rw[nX dv]at ha
  rw[t9 dv]at hb
  rw[<-ZG ha, <-ZG hb]
  exact he
theorem Wd.one {y w:List Nat} (hy:Yd y) (h:Wd y w) (h1:w.length=1):SW y w:=by
 have dv:w≠[]:=fun z=>by rw[z]at h1;simp at h1
 refine h.sw dv ?_
 have e:rd w 0=rd w (-1):=by
  have:=hX w (-1)
  rw[h1]at this
  exact this
 rw[<-e]
 exact fun q=>hJ (hy.lt _ (h.bR _ (hW dv 0))) q.symm
theorem An {y w u:List Nat} (hw:SW y w) (hu:SW y u) (lw:w.length<=12) (lu:u.length<=12):CK y [w,u]:=by
 refine ⟨fun x hx=>?_,by show 2<=4;decide,?_⟩
 ·rcases Y5.mp hx with g | g
  ·rw[g];exact ⟨hw,lw⟩
  ·rw[UZ.mp g];exact ⟨hu,lu⟩
 ·have:=kX (ws:=[w,u]) (m:=12) (fun x hx=>by
   rcases Y5.mp hx with g | g
   ·rw[g];exact lw
   ·rw[UZ.mp g];exact lu) 2 (Q3 _)
  exact this
theorem uc {α β:Type} {f:α->List β} {m:Nat}: ∀{l:List α},(∀x∈l,(f x).length<=m)->(l.flatMap f).length<=l.length*m
 | [],_=>Y6 _
 | a::l,h=>by
  rw[ZT,UY,ZQ,Qch]
  have h1:=h a Zy
  have h2:=uc fun x hx=>h x (Y4 _ hx)
  omega
theorem Ek {y:List Nat} {ws:List (List Nat)} (h:(places ws).length<=24):(jM y ws).length<=1728:=by
 unfold jM
 have h1: ∀o∈places ws,((places ws).flatMap fun p=>gn y ws o p).length<=72:=fun o _=>by
  have:=uc (f:=fun p=>gn y ws o p) (l:=places ws) (m:=3) fun p _=>Hz y ws o p
  omega
 have:=uc (f:=fun o=>(places ws).flatMap fun p=>gn y ws o p) (l:=places ws) (m:=72) h1
 omega
noncomputable def wD (y:List Nat) (a b:Nat):Int:=((y.idxOf b:Int) - (y.idxOf a:Int))%(y.length:Int)
noncomputable def fG (y:List Nat) (f:Int->Nat) (k:Int):Int:=wD y (aF (f (k - 1))) (f k)
structure iK (y:List Nat) (f:Int->Nat):Prop where
 bR: ∀k,f k∈y
 red: ∀k,f k≠aF (f (k - 1))
structure Run (f g:Int->Nat) (a b:Nat):Prop where
 kY: ∀k:Int, -(b:Int)<=k->k<=a->f k=g k
 hi:f (a+1)≠g (a+1)
 lo:f (-(b:Int) - 1)≠g (-(b:Int) - 1)
noncomputable def jz (f:Int->Nat):Int->Nat:=fun k=>aF (f (-k))
noncomputable def eN (f:Int->Nat):Int->Nat:=fun k=>f (k - 1)
noncomputable def jN (y:List Nat) (f g:Int->Nat) (a:Nat):Bool:=decide (fG y f (a+1)<fG y g (a+1))
noncomputable def jS (y:List Nat) (f g:Int->Nat) (b:Nat):Bool:=decide (fG y f (-(b:Int))<fG y g (-(b:Int)))
noncomputable def u6 (x a b:Nat):Bool:=decide (b<a\/(a=b/\aC x=false))
noncomputable def yG (y:List Nat) (f g:Int->Nat) (a b:Nat):Bool:=if u6 (f 0) a b=true then jS y f g b else jN y f g a
theorem Run.one {f g:Int->Nat} {a b a' b':Nat} (h:Run f g a b) (h':Run f g a' b'):a=a'/\b=b':=by
 constructor
 ·by_cases z:a<a'
  ·exact absurd (h'.kY (a+1) (by omega) (by omega)) h.hi
  ·by_cases z2:a'<a
   ·exact absurd (h.kY (a'+1) (by omega) (by omega)) h'.hi
   ·omega
 ·by_cases z:b<b'
  ·exact absurd (h'.kY (-(b:Int) - 1) (by omega) (by omega)) h.lo
  ·by_cases z2:b'<b
   ·exact absurd (h.kY (-(b':Int) - 1) (by omega) (by omega)) h'.lo
   ·omega
theorem Run.bk {f g:Int->Nat} {a b:Nat} (h:Run f g a (b+1)):Run (eN f) (eN g) (a+1) b:=
 ⟨fun k h1 h2=>h.kY (k - 1) (by omega) (by omega),fun z=>h.hi (by
  unfold eN at z
  rwa [show ((a+1:Nat):Int)+1 - 1=a+1 by omega]at z),fun z=>h.lo (by
  unfold eN at z
  rwa [show -(b:Int) - 1 - 1= -((b+1:Nat):Int) - 1 by omega]at z)⟩
theorem Run.fd {f g:Int->Nat} {a b:Nat} (h:Run (eN f) (eN g) (a+1) b):Run f g a (b+1):=
 ⟨fun k h1 h2=>by
  have:=h.kY (k+1) (by omega) (by omega)
  unfold eN at this
  rwa [show k+1 - 1=k by omega]at this,fun z=>h.hi (by
  unfold eN
  rwa [show ((a+1:Nat):Int)+1 - 1=a+1 by omega]),fun z=>h.lo (by
  unfold eN
  rwa [show -(b:Int) - 1 - 1= -((b+1:Nat):Int) - 1 by omega])⟩
theorem nY (y:List Nat) (f:Int->Nat) (k:Int):fG y (eN f) k=fG y f (k - 1):=rfl
theorem ud (y:List Nat) (f g:Int->Nat) (a:Nat):jN y (eN f) (eN g) (a+1)=jN y f g a:=by
 unfold jN
 rw[nY,nY,show ((a+1:Nat):Int)+1 - 1=a+1 by omega]
theorem ue (y:List Nat) (f g:Int->Nat) (b:Nat):jS y (eN f) (eN g) b=jS y f g (b+1):=by
 unfold jS
 rw[nY,nY,show -(b:Int) - 1= -((b+1:Nat):Int) by omega]
theorem El {x z a b:Nat} (h:u6 x a (b+1)=true):u6 z (a+1) b=true:=by
 unfold u6 at h ⊢
 have:=of_decide_eq_true h
 exact decide_eq_true (by omega)
theorem eO {y:List Nat} {a b:Nat} (ha:a∈y) (hb:b∈y) (h:a≠b):0<wD y a b/\wD y a b<y.length/\wD y b a=y.length - wD y a b:=by
 have ia:=WE ha
 have ib:=WE hb
 have n:=b5 ha hb h
 unfold wD
 rw[i0 ia ib,i0 ib ia]
 generalize y.idxOf a=i at*
 generalize y.idxOf b=j at*
 split<;>split<;>omega
theorem kZ {y:List Nat} {a b c:Nat} (ha:a∈y) (hb:b∈y) (hc:c∈y) (h:wD y a b=wD y a c):b=c:=by
 have ia:=WE ha
 have ib:=WE hb
 have ic:=WE hc
 refine Classical.byContradiction fun z=>b5 hb hc z ?_
 unfold wD at h
 rw[i0 ia ib,i0 ia ic]at h
 split at h<;>split at h<;>omega
theorem iK.rv {y:List Nat} {f:Int->Nat} (hy:Yd y) (h:iK y f):iK y (jz f):=⟨fun k=>hy.cl _ (h.bR _),fun k z=>by
 unfold jz at z
 have e:=aR (hy.lt _ (h.bR (-(k - 1))))
 rw[e]at z
 have:=h.red (-(k - 1))
 rw[show -(k - 1) - 1= -k by omega]at this
 exact this z.symm⟩
theorem rS {y:List Nat} {f:Int->Nat} (hy:Yd y) (h:iK y f):jz (jz f)=f:=by
 funext k
 unfold jz
 rw[aR (hy.lt _ (h.bR _)),Int.neg_neg]
theorem i7 {y:List Nat} {f:Int->Nat} (hy:Yd y) (h:iK y f) (k:Int):fG y (jz f) (k+1)=y.length - fG y f (-k):=by
 unfold fG jz
 rw[show k+1 - 1=k by omega,aR (hy.lt _ (h.bR _)),show -(k+1)= -k - 1 by omega]
 exact (eO (hy.cl _ (h.bR _)) (h.bR _) (Ne.symm (h.red _))).2.2
theorem Run.rv {y:List Nat} {f g:Int->Nat} {a b:Nat} (hy:Yd y) (hf:iK y f) (hg:iK y g) (h:Run f g a b):Run (jz f) (jz g) b a:=
 ⟨fun k h1 h2=>by unfold jz;rw[h.kY _ (by omega) (by omega)],fun z=>h.lo (by
  unfold jz at z
  have:=eV (hy.lt _ (hf.bR _)) (hy.lt _ (hg.bR _)) z
  rwa [show -((b:Int)+1)= -(b:Int) - 1 by omega]at this),fun z=>h.hi (by
  unfold jz at z
  have:=eV (hy.lt _ (hf.bR _)) (hy.lt _ (hg.bR _)) z
  rwa [show -(-(a:Int) - 1)=a+1 by omega]at this)⟩
theorem fP: ∀c∈bf++ka,aC (aF c)=!aC c:=by decide+kernel
theorem Lk {y:List Nat} {f g:Int->Nat} {a b:Nat} (hy:Yd y) (hf:iK y f) (hg:iK y g) (h0:f 0=g 0):yG y (jz g) (jz f) b a=yG y f g a b:=by
 have e1:jS y (jz g) (jz f) a=jN y f g a:=by
  unfold jS jN
  have h1:=i7 hy hf (-(a:Int) - 1)
  have h2:=i7 hy hg (-(a:Int) - 1)
  rw[show -(a:Int) - 1+1= -a by omega,show -(-(a:Int) - 1)=a+1 by omega]at h1 h2
  rw[h1,h2]
  exact decide_eq_decide.mpr (by omega)
 have e2:jN y (jz g) (jz f) b=jS y f g b:=by
  unfold jS jN
  rw[i7 hy hf,i7 hy hg]
  exact decide_eq_decide.mpr (by omega)
 unfold yG
 rw[e1,e2]
 have e3:u6 (jz g 0) b a=!u6 (f 0) a b:=by
  unfold u6 jz
  rw[show (-0:Int)=0 from rfl, <-h0,fP _ (hy.lt _ (hf.bR 0)).mem]
  rw[<-decide_not]
  refine decide_eq_decide.mpr ?_
  cases aC (f 0)
  ·simp;omega
  ·simp;omega
 rw[e3]
 cases u6 (f 0) a b<;>rfl
def uB (y:List Nat) (f g:Int->Nat):Prop:= ∃a b,Run f g a b/\u6 (f 0) a b=true/\jN y f g a≠jS y f g b
def xv (y:List Nat) (f g:Int->Nat):Prop:= ∃a,Run f g a 0/\jN y f g a≠jS y f g 0
open Classical in
noncomputable def one (p:Prop):Int:=if p then 1 else 0
theorem gp {p:Prop} (h:p):one p=1:=by unfold one;rw[if_pos h]
theorem bo {p:Prop} (h: ¬p):one p=0:=by unfold one;rw[if_neg h]
theorem bH {p q:Prop} (h:p↔q):one p=one q:=by rw[propext h]
theorem Run.zero {f g:Int->Nat} {a b:Nat} (h:Run f g a b):f 0=g 0:=h.kY 0 (by omega) (by omega)
theorem Em {y:List Nat} {f g:Int->Nat} {e0 e1:Bool} {m:Prop}
  (r0:f 0=g 0-> ∃a b,Run f g a b) (r1:f (-1)=g (-1)-> ∃a b,Run (eN f) (eN g) a b)
  (h0: ∀a b,Run f g a b->e0=yG y f g a b) (h1: ∀a b,Run (eN f) (eN g) a b->e1=yG y (eN f) (eN g) a b)
  (ma:f 0=g 0->f (-1)≠g (-1)->(m↔e0≠jS y f g 0)) (mb:f (-1)=g (-1)->f 0≠g 0->(m↔e1≠jN y (eN f) (eN g) 0)) (mc:f (-1)=g (-1)->f 0=g 0->(m↔e1≠e0))
  (t:f 0=g 0\/f (-1)=g (-1)):one m=one (xv y f g)+one (uB y (eN f) (eN g)) - one (uB y f g):=by
 have hb: ∀{a b},Run (eN f) (eN g) a b->f (-1)=g (-1):=fun h=>h.zero
 by_cases z0:f 0=g 0
 ·obtain ⟨a,b,r⟩:=r0 z0
  have e:=h0 a b r
  unfold yG at e
  have hu:uB y f g↔(u6 (f 0) a b=true/\jN y f g a≠jS y f g b):=⟨fun ⟨a',b',r',x⟩=>by obtain ⟨rfl,rfl⟩:=r.one r';exact x,fun x=>⟨a,b,r,x⟩⟩
  by_cases z1:f (-1)=g (-1)
  ·cases b with
   | zero=>exact absurd z1 r.lo
   | succ b=>
    have r2:=r.bk
    have e2:=h1 _ _ r2
    unfold yG at e2
    have HK:uB y (eN f) (eN g)↔(u6 (eN f 0) (a+1) b=true/\jN y f g a≠jS y f g (b+1)):=⟨fun ⟨a',b',r',x⟩=>by
     obtain ⟨rfl,rfl⟩:=r2.one r'
     rw[ud,ue]at x;exact x,fun x=>⟨_,_,r2,by rw[ud,ue];exact x⟩⟩
    rw[ud,ue]at e2
    have Qf: ¬xv y f g:=fun ⟨a',r',_⟩=>absurd (r.one r').2 (Nat.succ_ne_zero b)
    rw[bo Qf,bH hu,bH HK,bH (mc z1 z0),e,e2]
    have mono:= @El (f 0) (eN f 0) a b
    generalize u6 (f 0) a (b+1)=B0 at*
    generalize u6 (eN f 0) (a+1) b=B1 at*
    generalize jN y f g a=A at*
    generalize jS y f g (b+1)=C at*
    revert mono
    cases B0<;>cases B1<;>cases A<;>cases C<;>simp[one]
  ·have b0:b=0:=by
    cases b with
    | zero=>rfl
    | succ b=>exact absurd (r.kY (-1) (by omega) (by omega)) z1
   subst b0
   have HK: ¬uB y (eN f) (eN g):=fun ⟨_,_,r',_⟩=>z1 (hb r')
   have Qf:xv y f g↔jN y f g a≠jS y f g 0:=⟨fun ⟨a',r',x⟩=>by obtain ⟨rfl,_⟩:=r.one r';exact x,fun x=>⟨a,r,x⟩⟩
   rw[bo HK,bH Qf,bH hu,bH (ma z0 z1),e]
   generalize u6 (f 0) a 0=B0 at*
   generalize jN y f g a=A at*
   generalize jS y f g 0=C at*
   cases B0<;>cases A<;>cases C<;>simp[one]
 ·have z1:=t.resolve_left z0
  obtain ⟨a,b,r⟩:=r1 z1
  have a0:a=0:=by
   cases a with
   | zero=>rfl
   | succ a=>exact absurd (r.fd.zero) z0
  subst a0
  have e:=h1 _ _ r
  unfold yG at e
  have MK: ¬uB y f g:=fun ⟨_,_,r',_⟩=>z0 r'.zero
  have Qf: ¬xv y f g:=fun ⟨_,r',_⟩=>z0 r'.zero
  have HK:uB y (eN f) (eN g)↔(u6 (eN f 0) 0 b=true/\jN y (eN f) (eN g) 0≠jS y (eN f) (eN g) b):=⟨fun ⟨a',b',r',x⟩=>by
   obtain ⟨rfl,rfl⟩:=r.one r';exact x,fun x=>⟨_,_,r,x⟩⟩
  rw[bo MK,bo Qf,bH HK,bH (mb z1 z0),e]
  generalize u6 (eN f 0) 0 b=B0 at*
  generalize jN y (eN f) (eN g) 0=A at*
  generalize jS y (eN f) (eN g) b=C at*
  cases B0<;>cases A<;>cases C<;>simp[one]
theorem dF {f g:Int->Nat} {p q:Nat} (hp:0<p) (hq:0<q) (Pf: ∀k,f (k+p)=f k) (Pg: ∀k,g (k+q)=g k) (h0:f 0=g 0) (hn: ∃k,f k≠g k): ∃a b,Run f g a b/\a<p+q/\b<p+q:=by
 obtain ⟨k0,Vn⟩:=hn
 have up: ∃a:Nat,a<p+q/\(∀j:Nat,j<a->f (j+1)=g (j+1))/\f (a+1)≠g (a+1):=by
  obtain ⟨_,b,c,d⟩:=cQ (fun k=>f (k+1)) (fun k=>g (k+1)) (p+q) 0
  by_cases z:ff (fun k=>f (k+1)) (fun k=>g (k+1)) (p+q) 0<p+q
  ·exact ⟨_,z,fun j hj=>c j (Y6 _) hj,d (by omega)⟩
  ·refine absurd ?_ Vn
   have:=fw (f:=fun k=>f (k+1)) (g:=fun k=>g (k+1)) hp hq (fun k=>by rw[show k+(p:Int)+1=k+1+p by omega];exact Pf _) (fun k=>by rw[show k+(q:Int)+1=k+1+q by omega];exact Pg _) (fun n hn=>c n (Y6 _) (by omega)) (k0 - 1)
   rwa [show k0 - 1+1=k0 by omega]at this
 have Xh: ∀k,f (-(k+p))=f (-k):=fun k=>by have:=Pf (-(k+p));rw[<-this];congr 1;omega
 have Xi: ∀k,g (-(k+q))=g (-k):=fun k=>by have:=Pg (-(k+q));rw[<-this];congr 1;omega
 have dn: ∃a:Nat,a<p+q/\(∀j:Nat,j<a->f (-(j:Int) - 1)=g (-(j:Int) - 1))/\f (-(a:Int) - 1)≠g (-(a:Int) - 1):=by
  obtain ⟨_,b,c,d⟩:=cQ (fun k=>f (-k - 1)) (fun k=>g (-k - 1)) (p+q) 0
  by_cases z:ff (fun k=>f (-k - 1)) (fun k=>g (-k - 1)) (p+q) 0<p+q
  ·exact ⟨_,z,fun j hj=>c j (Y6 _) hj,d (by omega)⟩
  ·refine absurd ?_ Vn
   have:=fw (f:=fun k=>f (-k - 1)) (g:=fun k=>g (-k - 1)) hp hq (fun k=>by have:=Xh (k+1);rw[show -(k+(p:Int)) - 1= -(k+1+p) by omega,this];congr 1;omega) (fun k=>by have:=Xi (k+1);rw[show -(k+(q:Int)) - 1= -(k+1+q) by omega,this];congr 1;omega) (fun n hn=>c n (Y6 _) (by omega)) (-k0 - 1)
   rwa [show -(-k0 - 1) - 1=k0 by omega]at this
 obtain ⟨a,ha,a1,a2⟩:=up
 obtain ⟨b,hb,b1,b2⟩:=dn
 refine ⟨a,b,⟨fun k h1 h2=>?_,a2,b2⟩,ha,hb⟩
 by_cases z:k=0
 ·rw[z];exact h0
 ·by_cases z2:0<k
  ·obtain ⟨j,rfl⟩: ∃j:Nat,k=j+1:=⟨(k - 1).toNat,by omega⟩
   exact a1 j (by omega)
  ·obtain ⟨j,rfl⟩: ∃j:Nat,k= -(j:Int) - 1:=⟨(-k - 1).toNat,by omega⟩
   exact b1 j (by omega)
theorem En {y:List Nat} {p p' x:Nat} (hy:Yd y) (hp:p∈y) (yH:p'∈y) (hx:x∈y) (h1:p≠p') (h2:p≠x) (h3:p'≠x):decide (wD y p x<wD y p' x)=!gr y p p' x:=by
 have ip:=WE hp
 have Xj:=WE yH
 have ix:=WE hx
 have n1:=b5 hp yH h1
 have n2:=b5 hp hx h2
 have n3:=b5 yH hx h3
 rw[gC hy.nd hp yH hx h1 h2 h3]
 unfold wD
 rw[i0 ip ix,i0 Xj ix, <-decide_not]
 refine decide_eq_decide.mpr ?_
 unfold jL
 split<;>split<;>omega
theorem Eo {y:List Nat} {f g:Int->Nat} (hy:Yd y) (hf:iK y f) (hg:iK y g) (h0:f 0=g 0) (h1:f (-1)≠g (-1)):jS y f g 0=!gr y (aF (f (-1))) (aF (g (-1))) (f 0):=by
 have e:jS y f g 0=decide (wD y (aF (f (-1))) (f 0)<wD y (aF (g (-1))) (g 0)):=rfl
 rw[e, <-h0]
 have r1:=hf.red 0
 have r2:=hg.red 0
 rw[show (0:Int) - 1= -1 by omega]at r1 r2
 exact En hy (hy.cl _ (hf.bR _)) (hy.cl _ (hg.bR _)) (hf.bR 0) (fun z=>h1 (eV (hy.lt _ (hf.bR _)) (hy.lt _ (hg.bR _)) z)) (Ne.symm r1) (by rw[h0];exact Ne.symm r2)
theorem Ep {y:List Nat} {f g:Int->Nat} {a:Nat} (h:f a=g a):jN y f g a=gr y (aF (f a)) (f (a+1)) (g (a+1)):=by
 unfold jN fG
 rw[show (a:Int)+1 - 1=a by omega, <-h]
 rfl
theorem wF {y:List Nat} {f g:Int->Nat} {n:Nat} (hy:Yd y) (hf:iK y f) (hg:iK y g) (hd:f (-1)≠g (-1)->ff f g n 0<n/\f (ff f g n 0)≠g (ff f g n 0)):xv y f g↔0<al y f g n:=by
 unfold al
 by_cases z:f 0≠g 0\/f (-1)=g (-1)
 ·rw[if_pos z]
  refine ⟨fun ⟨a,r,_⟩=>?_,fun h=>absurd h (kb _)⟩
  rcases z with z | z
  ·exact absurd r.zero z
  ·exact absurd z r.lo
 ·rw[if_neg z]
  have z0:f 0=g 0:=Classical.byContradiction fun q=>z (.inl q)
  have z1:f (-1)≠g (-1):=fun q=>z (.inr q)
  obtain ⟨d1,d2⟩:=hd z1
  obtain ⟨_,_,d3,_⟩:=cQ f g n 0
  generalize ff f g n 0=D at*
  cases D with
  | zero=>exact absurd z0 d2
  | succ a=>
   have r:Run f g a 0:=⟨fun k h1 h2=>by
    obtain ⟨j,rfl⟩: ∃j:Nat,k=j:=⟨k.toNat,by omega⟩
    exact d3 j (Y6 _) (by omega),d2,z1⟩
   have e1:((a+1:Nat):Int)=(a:Int)+1:=by omega
   rw[e1,show (a:Int)+1 - 1=a by omega]
   have Rc:=d3 a (Y6 _) (Qam a)
   have rf:=hf.red (a+1)
   have rg:=hg.red (a+1)
   rw[show (a:Int)+1 - 1=a by omega]at rf rg
   have Xk:f (a+1)≠g (a+1):=d2
   have eg:=Hx hy.nd (hy.cl _ (hf.bR a)) (hf.bR (a+1)) (hg.bR (a+1)) (Ne.symm rf) (by rw[Rc];exact Ne.symm rg) Xk
   rw[eg, <-Ep Rc]
   have eb:=Eo hy hf hg z0 z1
   have key:xv y f g↔jN y f g a≠jS y f g 0:=⟨fun ⟨a',r',x⟩=>by obtain ⟨rfl,_⟩:=r.one r';exact x,fun x=>⟨a,r,x⟩⟩
   rw[key,eb]
   generalize gr y (aF (f (-1))) (aF (g (-1))) (f 0)=G
   generalize jN y f g a=A
   cases G<;>cases A<;>simp
noncomputable def nC (a b a' b':Nat):Bool:=decide (jL a a' b) != decide (jL a b' b)
theorem i8 (a b a' b':Nat):nC a b a' b'=nC a b b' a':=by unfold nC;generalize decide (jL a a' b)=p;generalize decide (jL a b' b)=q;cases p<;>cases q<;>rfl
theorem wG (a b:Nat):nC a b a b=false:=by
 unfold nC
 have h1: ¬jL a a b:=by unfold jL;omega
 have h2: ¬jL a b b:=by unfold jL;omega
 rw[decide_eq_false h1,decide_eq_false h2]
 rfl
theorem jA {a b:Nat} (h:a≠b):decide (b<a)=!decide (a<b):=by
 rcases Qbn h with q | q
 ·rw[decide_eq_true q,decide_eq_false (Qcz q)];rfl
 ·rw[decide_eq_true q,decide_eq_false (Qcz q)];rfl
theorem JC {a b c:Nat} (h1:a≠b) (h2:b≠c) (h3:a≠c):decide (jL a b c)=!(decide (a<b) ^^ (decide (b<c) ^^ decide (c<a))):=by
 have e:decide (jL a b c)=((decide (a<b)&&decide (b<c))||((decide (b<c)&&decide (c<a))||(decide (c<a)&&decide (a<b)))):=by
  rw[<-Qek, <-Qek, <-Qek, <-Bool.decide_or, <-Bool.decide_or]
  exact decide_eq_decide.mpr Iff.rfl
 rw[e]
 have k1:decide (a<b)=true->decide (b<c)=true->decide (c<a)=true->False:=fun p q r=>Qcz (Qcy (of_decide_eq_true p) (of_decide_eq_true q)) (of_decide_eq_true r)
 have k2:decide (b<a)=true->decide (c<b)=true->decide (a<c)=true->False:=fun p q r=>Qcz (Qcy (of_decide_eq_true q) (of_decide_eq_true p)) (of_decide_eq_true r)
 rw[jA h1,jA h2,jA (Ne.symm h3)]at k2
 revert k1 k2
 generalize decide (a<b)=p
 generalize decide (b<c)=q
 generalize decide (c<a)=r
 revert p q r
 decide
theorem Er {a b a' b':Nat} (h1:a≠b) (h3:a≠a') (h4:a≠b') (h5:b≠a') (h6:b≠b'):nC a b a' b'=((decide (a<a') ^^ decide (a'<b)) ^^ (decide (a<b') ^^ decide (b'<b))):=by
 unfold nC
 rw[JC h3 (Ne.symm h5) h1,JC h4 (Ne.symm h6) h1]
 generalize decide (a<a')=p
 generalize decide (a'<b)=q
 generalize decide (a<b')=r
 generalize decide (b'<b)=s
 generalize decide (b<a)=t
 revert p q r s t
 decide
theorem k_ {a b a' b':Nat} (h1:a≠b) (h2:a'≠b') (h3:a≠a') (h4:a≠b') (h5:b≠a') (h6:b≠b'):nC a b a' b'=nC a' b' a b:=by
 rw[Er h1 h3 h4 h5 h6,Er h2 (Ne.symm h3) (Ne.symm h5) (Ne.symm h4) (Ne.symm h6),jA h3,jA (Ne.symm h6)]
 generalize decide (a<a')=p
 generalize decide (a'<b)=q
 generalize decide (a<b')=r
 generalize decide (b'<b)=s
 revert p q r s
 decide
theorem wH {a b a' b':Nat} (h1:a≠b) (h2:a'≠b') (h3:a≠a') (h4:a≠b') (h5:b≠a') (h6:b≠b'):nC b a a' b'=nC a b a' b':=by
 rw[k_ (Ne.symm h1) h2 h5 h6 h3 h4,i8,k_ h2 h1 (Ne.symm h3) (Ne.symm h5) (Ne.symm h4) (Ne.symm h6)]
theorem HL {a b c i j k:Nat} (n1:i≠j) (n2:i≠k) (n3:j≠k) (h1:i<j->a<b) (h2:j<i->b<a) (h3:i<k->a<c) (h4:k<i->c<a) (h5:j<k->b<c) (h6:k<j->c<b):jL a b c↔jL i j k:=by
 have e: ∀{i j a b:Nat},i≠j->(i<j->a<b)->(j<i->b<a)->(i<j↔a<b):=fun {i j a b} n f g=>⟨f,fun q=>(Qbn n).elim id fun r=>absurd (g r) (Qcz q)⟩
 unfold jL
 rw[e n1 h1 h2,e n3 h5 h6,e (Ne.symm n2) h4 h3]
def Sep (y:List Nat) (ps:List (Nat×Nat)):Prop:= ∀p∈ps, ∀q∈ps,y.idxOf p.1<y.idxOf q.1->p.2<q.2
theorem Sep.jL {y:List Nat} {ps:List (Nat×Nat)} (h:Sep y ps) {a b c:Nat×Nat} (ha:a∈ps) (hb:b∈ps) (hc:c∈ps) (n1:y.idxOf a.1≠y.idxOf b.1) (n2:y.idxOf a.1≠y.idxOf c.1) (n3:y.idxOf b.1≠y.idxOf c.1):My.jL a.2 b.2 c.2↔My.jL (y.idxOf a.1) (y.idxOf b.1) (y.idxOf c.1):=HL n1 n2 n3 (h a ha b hb) (h b hb a ha) (h a ha c hc) (h c hc a ha) (h b hb c hc) (h c hc b hb)
theorem Sep.gr {y:List Nat} {ps:List (Nat×Nat)} (h:Sep y ps) (hn:y.Nodup) {a b c:Nat×Nat} (ha:a∈ps) (hb:b∈ps) (hc:c∈ps) (ya:a.1∈y) (yb:b.1∈y) (yc:c.1∈y) (n1:a.1≠b.1) (n2:a.1≠c.1) (n3:b.1≠c.1):decide (My.jL a.2 b.2 c.2)=My.gr y a.1 b.1 c.1:=by
 rw[gC hn ya yb yc n1 n2 n3]
 exact decide_eq_decide.mpr (h.jL ha hb hc (b5 ya yb n1) (b5 ya yc n2) (b5 yb yc n3))
theorem Sep.same {y:List Nat} {ps:List (Nat×Nat)} (h:Sep y ps) {a b c:Nat×Nat} (ha:a∈ps) (hb:b∈ps) (hc:c∈ps) (e:b.1=c.1) (n:y.idxOf a.1≠y.idxOf c.1):My.jL a.2 b.2 c.2↔b.2<c.2:=by
 have h1:=h a ha b hb
 have h2:=h b hb a ha
 have h3:=h a ha c hc
 have h4:=h c hc a ha
 rw[e]at h1 h2
 unfold My.jL
 omega
theorem Sep.JD {y:List Nat} {ps:List (Nat×Nat)} (h:Sep y ps) {a b c:Nat×Nat} (ha:a∈ps) (hb:b∈ps) (hc:c∈ps) (e:a.1=b.1) (n:y.idxOf a.1≠y.idxOf c.1):My.jL a.2 b.2 c.2↔a.2<b.2:=by
 have h1:=h b hb c hc
 have h2:=h c hc b hb
 have h3:=h a ha c hc
 have h4:=h c hc a ha
 rw[<-e]at h1 h2
 unfold My.jL
 omega
section
variable {y:List Nat} {f g:Int->Nat} {a b a' b':Nat}
theorem Ll (hy:Yd y) (hf:iK y f) (hg:iK y g) (h:Sep y [(aF (f (-1)),a),(f 0,b),(aF (g (-1)),a'),(g 0,b')]) (hb:b≠b') (z0:f 0=g 0) (z1:f (-1)≠g (-1)):nC a b a' b'=true↔decide (b<b')≠jS y f g 0:=by
 have r1:=hf.red 0
 have r2:=hg.red 0
 rw[show (0:Int) - 1= -1 by omega]at r1 r2
 have ya:=hy.cl _ (hf.bR (-1))
 have Rf:=hy.cl _ (hg.bR (-1))
 have n1:aF (f (-1))≠aF (g (-1)):=fun z=>z1 (eV (hy.lt _ (hf.bR _)) (hy.lt _ (hg.bR _)) z)
 have e1:=h.gr hy.nd (a:=(aF (f (-1)),a)) (b:=(aF (g (-1)),a')) (c:=(f 0,b)) (by simp) (by simp) (by simp) ya Rf (hf.bR 0) n1 (Ne.symm r1) (by rw[z0];exact Ne.symm r2)
 have e2:=h.same (a:=(aF (f (-1)),a)) (b:=(g 0,b')) (c:=(f 0,b)) (by simp) (by simp) (by simp) z0.symm (b5 ya (hf.bR 0) (Ne.symm r1))
 unfold nC
 rw[Eo hy hf hg z0 z1]
 simp only at e1 e2
 rw[e1]
 generalize gr y (aF (f (-1))) (aF (g (-1))) (f 0)=G
 by_cases q:b<b'
 ·rw[decide_eq_true q,decide_eq_false (by rw[e2];omega)]
  cases G<;>simp
 ·rw[decide_eq_false q,decide_eq_true (by rw[e2];omega)]
  cases G<;>simp
theorem Lm (hy:Yd y) (hf:iK y f) (hg:iK y g) (h:Sep y [(aF (f (-1)),a),(f 0,b),(aF (g (-1)),a'),(g 0,b')]) (ha:a≠a') (z1:f (-1)=g (-1)) (z0:f 0≠g 0):nC a b a' b'=true↔decide (a'<a)≠jN y (eN f) (eN g) 0:=by
 have r1:=hf.red 0
 have r2:=hg.red 0
 rw[show (0:Int) - 1= -1 by omega]at r1 r2
 have ya:=hy.cl _ (hf.bR (-1))
 have Rf:=hy.cl _ (hg.bR (-1))
 have e1:=h.JD (a:=(aF (f (-1)),a)) (b:=(aF (g (-1)),a')) (c:=(f 0,b)) (by simp) (by simp) (by simp) (by show aF _=aF _;rw[z1]) (b5 ya (hf.bR 0) (Ne.symm r1))
 have e2:=h.gr hy.nd (a:=(aF (f (-1)),a)) (b:=(g 0,b')) (c:=(f 0,b)) (by simp) (by simp) (by simp) ya (hg.bR 0) (hf.bR 0) (by show aF _≠_;rw[z1];exact Ne.symm r2) (Ne.symm r1) (Ne.symm z0)
 have e3:jN y (eN f) (eN g) 0=gr y (aF (f (-1))) (f 0) (g 0):=Ep (f:=eN f) (g:=eN g) (a:=0) z1
 have e4:=K_ hy.nd ya (hf.bR 0) (hg.bR 0) (Ne.symm r1) (by rw[z1];exact Ne.symm r2) z0
 unfold nC
 simp only at e1 e2
 rw[e3,e2,e4]
 generalize gr y (aF (f (-1))) (f 0) (g 0)=G
 by_cases q:a'<a
 ·rw[decide_eq_true q,decide_eq_false (by rw[e1];omega)]
  cases G<;>simp
 ·rw[decide_eq_false q,decide_eq_true (by rw[e1];omega)]
  cases G<;>simp
theorem uf (hy:Yd y) (hf:iK y f) (hg:iK y g) (h:Sep y [(aF (f (-1)),a),(f 0,b),(aF (g (-1)),a'),(g 0,b')]) (ha:a≠a') (hb:b≠b') (z1:f (-1)=g (-1)) (z0:f 0=g 0):nC a b a' b'=true↔decide (a'<a)≠decide (b<b'):=by
 have r1:=hf.red 0
 rw[show (0:Int) - 1= -1 by omega]at r1
 have ya:=hy.cl _ (hf.bR (-1))
 have e1:=h.JD (a:=(aF (f (-1)),a)) (b:=(aF (g (-1)),a')) (c:=(f 0,b)) (by simp) (by simp) (by simp) (by show aF _=aF _;rw[z1]) (b5 ya (hf.bR 0) (Ne.symm r1))
 have e2:=h.same (a:=(aF (f (-1)),a)) (b:=(g 0,b')) (c:=(f 0,b)) (by simp) (by simp) (by simp) z0.symm (b5 ya (hf.bR 0) (Ne.symm r1))
 unfold nC
 simp only at e1 e2
 rw[decide_eq_decide.mpr e1,decide_eq_decide.mpr e2]
 by_cases q:a'<a<;>by_cases q2:b<b'
 ·rw[decide_eq_true q,decide_eq_true q2,decide_eq_false (show ¬a<a' by omega),decide_eq_false (show ¬b'<b by omega)];simp
 ·rw[decide_eq_true q,decide_eq_false q2,decide_eq_false (show ¬a<a' by omega),decide_eq_true (show b'<b by omega)];simp
 ·rw[decide_eq_false q,decide_eq_true q2,decide_eq_true (show a<a' by omega),decide_eq_false (show ¬b'<b by omega)];simp
 ·rw[decide_eq_false q,decide_eq_false q2,decide_eq_true (show a<a' by omega),decide_eq_true (show b'<b by omega)];simp
theorem Ln (hy:Yd y) (hf:iK y f) (hg:iK y g) (h:Sep y [(aF (f (-1)),a),(f 0,b),(aF (g (-1)),a'),(g 0,b')]) (z0:f 0≠g 0) (z1:f (-1)≠g (-1)) (z2:aF (f (-1))≠g 0) (z3:aF (g (-1))≠f 0):nC a b a' b'=ac y (aF (f (-1))) (f 0) (aF (g (-1))) (g 0):=by
 have r1:=hf.red 0
 have r2:=hg.red 0
 rw[show (0:Int) - 1= -1 by omega]at r1 r2
 have ya:=hy.cl _ (hf.bR (-1))
 have Rf:=hy.cl _ (hg.bR (-1))
 have n1:aF (f (-1))≠aF (g (-1)):=fun z=>z1 (eV (hy.lt _ (hf.bR _)) (hy.lt _ (hg.bR _)) z)
 have e1:=h.gr hy.nd (a:=(aF (f (-1)),a)) (b:=(aF (g (-1)),a')) (c:=(f 0,b)) (by simp) (by simp) (by simp) ya Rf (hf.bR 0) n1 (Ne.symm r1) z3
 have e2:=h.gr hy.nd (a:=(aF (f (-1)),a)) (b:=(g 0,b')) (c:=(f 0,b)) (by simp) (by simp) (by simp) ya (hg.bR 0) (hf.bR 0) z2 (Ne.symm r1) (Ne.symm z0)
 unfold nC ac
 simp only at e1 e2
 rw[e1,e2,if_neg (fun q=>q.elim (fun q=>n1 q.symm) fun q=>q.elim z3 fun q=>q.elim (fun q=>z2 q.symm) fun q=>z0 q.symm)]
end
noncomputable def sm:Nat->(Int->Int)->Int
 | 0,_=>0
 | n+1,h=>sm n h+h n
theorem aM {h g:Int->Int}: ∀{n:Nat},(∀i:Nat,i<n->h i=g i)->sm n h=sm n g
 | 0,_=>rfl
 | n+1,e=>by
  show sm n h+h n=sm n g+g n
  rw[aM fun i hi=>e i (by omega),e n (by omega)]
theorem ml (h g:Int->Int): ∀n:Nat,sm n (fun i=>h i+g i)=sm n h+sm n g
 | 0=>rfl
 | n+1=>by
  show sm n _+(h n+g n)=(sm n h+h n)+(sm n g+g n)
  rw[ml h g n];omega
theorem yI (h g:Int->Int): ∀n:Nat,sm n (fun i=>h i - g i)=sm n h - sm n g
 | 0=>rfl
 | n+1=>by
  show sm n _+(h n - g n)=(sm n h+h n) - (sm n g+g n)
  rw[yI h g n];omega
theorem cW: ∀n:Nat,sm n (fun _=>0)=0
 | 0=>rfl
 | n+1=>by show sm n _+0=0;rw[cW n];rfl
theorem Ao (h:Int->Int): ∀n:Nat,sm n (fun i=>h (i - 1))+h ((n:Int) - 1)=sm n h+h (-1)
 | 0=>rfl
 | n+1=>by
  have:=Ao h n
  show sm n _+h ((n:Int) - 1)+h (((n+1:Nat):Int) - 1)=(sm n h+h n)+h (-1)
  rw[show ((n+1:Nat):Int) - 1=n by omega]
  omega
theorem pB {h:Int->Int} {n:Nat} (P: ∀k,h (k+n)=h k):sm n (fun i=>h (i - 1))=sm n h:=by
 have h1:=Ao h n
 have h2:=P (-1)
 rw[show (-1:Int)+n=(n:Int) - 1 by omega]at h2
 omega
theorem Ap (h:Int->Int): ∀n:Nat,sm n (fun i=>h ((n:Int) - 1 - i))=sm n h
 | 0=>rfl
 | n+1=>by
  have e: ∀(m:Nat) (g:Int->Int),sm (m+1) g=g 0+sm m (fun i=>g (i+1)):=fun m=>by
   induction m with
   | zero=>intro g;show (0:Int)+g 0=g 0+0;omega
   | succ m ih=>intro g;show sm (m+1) g+g ((m+1:Nat):Int)=g 0+(sm m (fun i=>g (i+1))+g ((m:Int)+1));rw[ih];rw[show ((m+1:Nat):Int)=(m:Int)+1 by omega];omega
  rw[e]
  have:=Ap h n
  show h (((n+1:Nat):Int) - 1 - 0)+sm n (fun i=>h (((n+1:Nat):Int) - 1 - (i+1)))=sm n h+h n
  rw[show ((n+1:Nat):Int) - 1 - 0=n by omega, <-this,Int.add_comm]
  congr 1
  exact aM fun i _=>by congr 1;omega
theorem Aq {h:Int->Int} {n:Nat} (P: ∀k,h (k+n)=h k):sm n (fun i=>h (i+1))=sm n h:=by
 have:=pB (h:=fun i=>h (i+1)) (n:=n) (fun k=>by show h (k+n+1)=h (k+1);rw[<-P (k+1)];congr 1;omega)
 rw[<-this]
 exact aM fun i _=>by show h ((i:Int) - 1+1)=h i;congr 1;omega
theorem Es {h:Int->Int} {n:Nat} (P: ∀k,h (k+n)=h k):sm n (fun i=>h (-i))=sm n h:=by
 rw[<-Ap (fun i=>h (-i)) n, <-Aq P]
 exact aM fun i _=>by
  show h (-((n:Int) - 1 - i))=h (i+1)
  rw[<-P (-((n:Int) - 1 - i))];congr 1;omega
theorem Lo {h:Int->Int} {n:Nat} (P: ∀k,h (k+n)=h k):sm n (fun i=>h (1 - i))=sm n h:=by
 rw[<-Aq P, <-Es (h:=fun i=>h (i+1)) (fun k=>by show h (k+n+1)=h (k+1);rw[<-P (k+1)];congr 1;omega)]
 exact aM fun i _=>by show h (1 - (i:Int))=h (-(i:Int)+1);congr 1;omega
noncomputable def bS (n m:Nat) (h:Int->Int->Int):Int:=sm n fun i=>sm m fun j=>h i j
theorem bX {n m:Nat} {h g:Int->Int->Int} (e: ∀i j:Nat,i<n->j<m->h i j=g i j):bS n m h=bS n m g:=aM fun i hi=>aM fun j hj=>e i j hi hj
theorem dh (n m:Nat) (h g:Int->Int->Int):bS n m (fun i j=>h i j+g i j)=bS n m h+bS n m g:=by
 unfold bS
 rw[<-ml]
 exact aM fun i _=>ml _ _ _
theorem HM (n m:Nat) (h g:Int->Int->Int):bS n m (fun i j=>h i j - g i j)=bS n m h - bS n m g:=by
 unfold bS
 rw[<-yI]
 exact aM fun i _=>yI _ _ _
theorem B8 {n m:Nat} {h:Int->Int->Int} (P: ∀i j,h (i+n) j=h i j) (Q: ∀i j,h i (j+m)=h i j):bS n m (fun i j=>h (i - 1) (j - 1))=bS n m h:=by
 unfold bS
 have e: ∀i:Int,sm m (fun j=>h i (j - 1))=sm m (h i):=fun i=>pB (Q i)
 rw[<-pB (h:=fun i=>sm m fun j=>h i j) (n:=n) (fun k=>aM fun j _=>P k j)]
 exact aM fun i _=>e _
structure ML (y:List Nat) (n:Nat) (F:Int->Int->Nat) (o i:Int->Nat):Prop where
 pos:0<n
 yJ: ∀k,iK y (F k)
 bk: ∀k,eN (F k)=F (k - 1)
 Lh: ∀k,F (k+n)=F k
 own: ∀k x,F k (x+n)=F k x
 op: ∀k,o (k+n)=o k
 ip: ∀k,i (k+n)=i k
structure JE (y:List Nat) (F:Int->Int->Nat) (o i:Int->Nat) (G:Int->Int->Nat) (o' i':Int->Nat):Prop where
 sep: ∀s t,Sep y [(aF (F s (-1)),i (s - 1)),(F s 0,o s),(aF (G t (-1)),i' (t - 1)),(G t 0,o' t)]
 on: ∀s t a b,Run (F s) (G t) a b->o s≠o' t/\i s≠i' t/\decide (o s<o' t)=yG y (F s) (G t) a b/\decide (i' t<i s)=yG y (F s) (G t) a b
def Et (F G:Int->Int->Nat) (s t:Int):Prop:=F s 0=G t 0\/F s (-1)=G t (-1)
def par (F G:Int->Int->Nat) (s t:Int):Prop:= ∀k,F s k=G t k
noncomputable def HN (o i o' i':Int->Nat) (s t:Int):Bool:=nC (i (s - 1)) (o s) (i' (t - 1)) (o' t)
theorem Eu {y:List Nat} {n m:Nat} {F G:Int->Int->Nat} {o i o' i':Int->Nat} (hF:ML y n F o i) (hG:ML y m G o' i') {s t:Int}:par F G (s - 1) (t - 1)↔par F G s t:=by
 unfold par
 rw[<-hF.bk, <-hG.bk]
 unfold eN
 exact ⟨fun h k=>by have:=h (k+1);rwa [show k+1 - 1=k by omega]at this,fun h k=>h _⟩
theorem Ar {y:List Nat} {n m:Nat} {F G:Int->Int->Nat} {o i o' i':Int->Nat} (hy:Yd y) (hF:ML y n F o i) (hG:ML y m G o' i') (h:JE y F o i G o' i'):
  bS n m (fun s t=>one (Et F G s t/\HN o i o' i' s t=true/\ ¬par F G s t))=bS n m fun s t=>one (xv y (F s) (G t)):=by
 have pt: ∀s t:Int,one (Et F G s t/\HN o i o' i' s t=true/\ ¬par F G s t)=one (xv y (F s) (G t))+one (uB y (F (s - 1)) (G (t - 1))) - one (uB y (F s) (G t)):=fun s t=>by
  by_cases hp:par F G s t
  ·have nr: ∀{a b}, ¬Run (F s) (G t) a b:=fun r=>r.hi (hp _)
   have yH:=(Eu hF hG).mpr hp
   have Xl: ∀{a b}, ¬Run (F (s - 1)) (G (t - 1)) a b:=fun r=>r.hi (yH _)
   rw[bo (fun z=>z.2.2 hp),bo (fun ⟨_,r,_⟩=>nr r),bo (fun ⟨_,_,r,_⟩=>Xl r),bo (fun ⟨_,_,r,_⟩=>nr r)]
   rfl
  ·by_cases ht:Et F G s t
   ·have dv: ∃k,F s k≠G t k:=Classical.byContradiction fun z=>hp fun k=>Classical.byContradiction fun q=>z ⟨k,q⟩
    have Lp: ∃k,F (s - 1) k≠G (t - 1) k:=Classical.byContradiction fun z=>hp ((Eu hF hG).mp fun k=>Classical.byContradiction fun q=>z ⟨k,q⟩)
    have e1: ∀s,F (s - 1) 0=F s (-1):=fun s=>by rw[<-hF.bk];rfl
    have e2: ∀t,G (t - 1) 0=G t (-1):=fun s=>by rw[<-hG.bk];rfl
    have ei:one (Et F G s t/\HN o i o' i' s t=true/\ ¬par F G s t)=one (HN o i o' i' s t=true):=bH ⟨fun z=>z.2.1,fun z=>⟨ht,z,hp⟩⟩
    rw[ei, <-hF.bk, <-hG.bk]
    refine Em (e0:=decide (o s<o' t)) (e1:=decide (i' (t - 1)<i (s - 1))) (fun z=>?_) (fun z=>?_) (fun a b r=>(h.on s t a b r).2.2.1) (fun a b r=>?_) (fun z0 z1=>?_) (fun z1 z0=>?_) (fun z1 z0=>?_) ht
    ·obtain ⟨a,b,r,_⟩:=dF hF.pos hG.pos (hF.own s) (hG.own t) z dv
     exact ⟨a,b,r⟩
    ·obtain ⟨a,b,r,_⟩:=dF hF.pos hG.pos (hF.own (s - 1)) (hG.own (t - 1)) (by rw[e1,e2];exact z) Lp
     rw[hF.bk,hG.bk]
     exact ⟨a,b,r⟩
    ·rw[hF.bk,hG.bk]at r ⊢
     exact (h.on _ _ a b r).2.2.2
    ·obtain ⟨a,b,r,_⟩:=dF hF.pos hG.pos (hF.own s) (hG.own t) z0 dv
     exact Ll hy (hF.yJ s) (hG.yJ t) (h.sep s t) (h.on s t a b r).1 z0 z1
    ·obtain ⟨a,b,r,_⟩:=dF hF.pos hG.pos (hF.own (s - 1)) (hG.own (t - 1)) (by rw[e1,e2];exact z1) Lp
     exact Lm hy (hF.yJ s) (hG.yJ t) (h.sep s t) (h.on _ _ a b r).2.1 z1 z0
    ·obtain ⟨a,b,r,_⟩:=dF hF.pos hG.pos (hF.own s) (hG.own t) z0 dv
     obtain ⟨a2,b2,r2,_⟩:=dF hF.pos hG.pos (hF.own (s - 1)) (hG.own (t - 1)) (by rw[e1,e2];exact z1) Lp
     exact uf hy (hF.yJ s) (hG.yJ t) (h.sep s t) (h.on _ _ a2 b2 r2).2.1 (h.on s t a b r).1 z1 z0
   ·have t0:F s 0≠G t 0:=fun z=>ht (.inl z)
    have t1:F (s - 1) 0≠G (t - 1) 0:=by
     rw[<-hF.bk, <-hG.bk]
     exact fun z=>ht (.inr z)
    rw[bo (fun z=>ht z.1),bo (fun ⟨_,r,_⟩=>t0 r.zero),bo (fun ⟨_,_,r,_⟩=>t1 r.zero),bo (fun ⟨_,_,r,_⟩=>t0 r.zero)]
    rfl
 have e:bS n m (fun s t=>one (Et F G s t/\HN o i o' i' s t=true/\ ¬par F G s t))=bS n m (fun s t=>(one (xv y (F s) (G t))+one (uB y (F (s - 1)) (G (t - 1)))) - one (uB y (F s) (G t))):=bX fun s t _ _=>pt s t
 rw[e,HM,dh,B8 (h:=fun s t=>one (uB y (F s) (G t))) (fun s t=>by rw[hF.Lh]) (fun s t=>by rw[hG.Lh])]
 omega
theorem bB {y w:List Nat} (h:SW y w) (i:Int):iK y (sq w i):=⟨fun k=>h.rd _,fun k=>by
 unfold sq
 have:=h.red (i+k)
 rwa [show i+k - 1=i+(k - 1) by omega]at this⟩
theorem fh (w:List Nat) (i:Int):jz (sq w i)=bq w i:=by
 funext k
 unfold jz sq bq
 rw[show i+ -k=i - k by omega]
theorem mm {y w:List Nat} (hy:Yd y) (h:SW y w) (i:Int):iK y (bq w i):=by rw[<-fh];exact (bB h i).rv hy
theorem yK (w:List Nat) (i:Int):sq w (i+w.length)=sq w i:=by
 funext k
 unfold sq
 rw[show i+(w.length:Int)+k=i+k+w.length by omega,hX]
theorem yL (w:List Nat) (i:Int):bq w (i+w.length)=bq w i:=by rw[<-fh, <-fh,yK]
theorem Ew {y w:List Nat} {po pi:Int->Nat} (h:SW y w) (P: ∀k,po (k+w.length)=po k) (Q: ∀k,pi (k+w.length)=pi k):ML y w.length (sq w) po pi:=
 ⟨U0.mpr h.ne,bB h,fun k=>by funext x;unfold eN sq;congr 1;omega,yK w,fun k x=>cF w k x,P,Q⟩
theorem As {n:Nat} {h:Int->Nat} (P: ∀k,h (k+n)=h k) (k:Int):h (-(k+n))=h (-k):=by rw[<-P (-(k+n))];congr 1;omega
theorem Lq {y w:List Nat} {po pi:Int->Nat} (hy:Yd y) (h:SW y w) (P: ∀k,po (k+w.length)=po k) (Q: ∀k,pi (k+w.length)=pi k):ML y w.length (fun k=>bq w (-k)) (fun k=>pi (-k)) (fun k=>po (-k)):=
 ⟨U0.mpr h.ne,fun k=>mm hy h _,fun k=>by funext x;unfold eN bq;congr 2;omega,fun k=>by
  show bq w (-(k+w.length))=bq w (-k)
  rw[<-yL w (-(k+w.length))];congr 1;omega,fun k x=>mi w _ x,As Q,As P⟩
section
variable {y w v:List Nat} {po pi qo qi:Int->Nat}
noncomputable def ie (po pi qo qi:Int->Nat) (i j:Int):Bool:=nC (pi (i - 1)) (po i) (qi (j - 1)) (qo j)
def cx (w v:List Nat) (i j:Int):Prop:= ∀k,sq w i k=sq v j k
def ki (w v:List Nat) (i j:Int):Prop:= ∀k,sq w i k=bq v (j - 1) k
def MM (w v:List Nat) (i j:Int):Prop:=rd w i=rd v j\/rd w (i - 1)=rd v (j - 1)
def Au (w v:List Nat) (i j:Int):Prop:=rd w i=aF (rd v (j - 1))\/rd w (i - 1)=aF (rd v j)
theorem HP (w v:List Nat) (i j:Int):Et (sq w) (sq v) i j↔MM w v i j:=by
 unfold Et MM sq
 rw[show i+0=i by omega,show j+0=j by omega]
 rfl
theorem HQ (w v:List Nat) (i k:Int):Et (sq w) (fun k=>bq v (-k)) i k↔Au w v i (1 - k):=by
 unfold Et Au sq bq
 show rd w (i+0)=aF (rd v (-k - 0))\/rd w (i+ -1)=aF (rd v (-k - -1))↔_
 rw[show i+0=i by omega,show -k - 0=1 - k - 1 by omega,show -k - -1=1 - k by omega]
 rfl
theorem TJ (hy:Yd y) (hw:SW y w) (hv:SW y v) {i j:Int} (h:MM w v i j) (g:Au w v i j):False:=by
 have sR:=hw.red i
 have Vo:=hv.red j
 have l1:=hy.lt _ (hw.rd (i - 1))
 have l2:=hy.lt _ (hv.rd (j - 1))
 have l3:=hy.lt _ (hv.rd j)
 rcases h with h | h<;>rcases g with g | g
 ·exact Vo (h.symm.trans g)
 ·rw[<-h]at g;exact sR (by rw[g,aR (hy.lt _ (hw.rd i))])
 ·rw[<-h]at g;exact sR g
 ·rw[h]at g;exact Vo (by rw[g,aR l3])
theorem wI (hy:Yd y) (hw:SW y w) (hv:SW y v) (P1: ∀k,po (k+w.length)=po k) (P2: ∀k,pi (k+w.length)=pi k) (Q1: ∀k,qo (k+v.length)=qo k) (Q2: ∀k,qi (k+v.length)=qi k)
  (hS:JE y (sq w) po pi (sq v) qo qi) (hO:JE y (sq w) po pi (fun k=>bq v (-k)) (fun k=>qi (-k)) (fun k=>qo (-k))):
  bS w.length v.length (fun i j=>one (ie po pi qo qi i j=true))=
   bS w.length v.length (fun i j=>one (ac y (aF (rd w (i - 1))) (rd w i) (aF (rd v (j - 1))) (rd v j)=true))+bS w.length v.length (fun i j=>one (0<al y (sq w i) (sq v j) (w.length+v.length)))+bS w.length v.length (fun i j=>one (0<al y (sq w i) (bq v j) (w.length+v.length)))
   +bS w.length v.length (fun i j=>one (cx w v i j/\ie po pi qo qi i j=true))+bS w.length v.length (fun i j=>one (ki w v i j/\ie po pi qo qi i j=true)):=by
 have fw:=Ew hw P1 P2
 have fv:=Ew hv Q1 Q2
 have fo:=Lq hy hv Q1 Q2
 have s1:=Ar hy fw fv hS
 have s2:=Ar hy fw fo hO
 have e1:bS w.length v.length (fun s t=>one (xv y (sq w s) (sq v t)))=bS w.length v.length (fun i j=>one (0<al y (sq w i) (sq v j) (w.length+v.length))):=bX fun i j _ _=>bH (wF hy (bB hw _) (bB hv _) fun z=>gR hw.ne hv.ne (fun k=>cF w i k) (fun k=>cF v j k) z)
 have e2:bS w.length v.length (fun s t=>one (xv y (sq w s) (bq v (-t))))=bS w.length v.length (fun i j=>one (0<al y (sq w i) (bq v j) (w.length+v.length))):=by
  have:bS w.length v.length (fun s t=>one (xv y (sq w s) (bq v (-t))))=bS w.length v.length (fun s t=>one (xv y (sq w s) (bq v t))):=aM fun i _=>Es (h:=fun t=>one (xv y (sq w i) (bq v t))) fun k=>by rw[yL]
  rw[this]
  exact bX fun i j _ _=>bH (wF hy (bB hw _) (mm hy hv _) fun z=>gR hw.ne hv.ne (fun k=>cF w i k) (fun k=>mi v j k) z)
 have e3:bS w.length v.length (fun s t=>one (Et (sq w) (fun k=>bq v (-k)) s t/\HN po pi (fun k=>qi (-k)) (fun k=>qo (-k)) s t=true/\ ¬par (sq w) (fun k=>bq v (-k)) s t))=bS w.length v.length (fun i j=>one (Au w v i j/\ie po pi qo qi i j=true/\ ¬ki w v i j)):=by
  have P: ∀i:Int, ∀k:Int,(fun j=>one (Au w v i j/\ie po pi qo qi i j=true/\ ¬ki w v i j)) (k+v.length)=(fun j=>one (Au w v i j/\ie po pi qo qi i j=true/\ ¬ki w v i j)) k:=fun i k=>by
   show one (Au w v i (k+v.length)/\ie po pi qo qi i (k+v.length)=true/\ ¬ki w v i (k+v.length))=_
   unfold Au ie ki
   rw[show k+(v.length:Int) - 1=k - 1+v.length by omega,hX,hX,Q1,Q2,yL]
  refine aM fun i _=>(aM fun k _=>?_).trans (Lo (P i))
  refine bH ?_
  rw[HQ]
  have ec:HN po pi (fun k=>qi (-k)) (fun k=>qo (-k)) i k=ie po pi qo qi i (1 - k):=by
   unfold HN ie
   rw[i8]
   show nC (pi ((i:Int) - 1)) (po i) (qi (-(k:Int))) (qo (-((k:Int) - 1)))=_
   rw[show -((k:Int) - 1)=1 - k by omega,show (1:Int) - k - 1= -k by omega]
  have ep:par (sq w) (fun k=>bq v (-k)) i k↔ki w v i (1 - k):=by
   unfold par ki
   rw[show (1:Int) - k - 1= -k by omega]
  rw[ec,ep]
 rw[e1]at s1
 rw[e2,e3]at s2
 rw[<-s1, <-s2, <-dh, <-dh, <-dh, <-dh]
 refine bX fun i j _ _=>?_
 have hc:HN po pi qo qi i j=ie po pi qo qi i j:=rfl
 have et:=HP w v i j
 have pS:cx w v i j->MM w v i j:=fun z=> .inl (by have:=z 0;unfold sq at this;rwa [show (i:Int)+0=i by omega,show (j:Int)+0=j by omega]at this)
 have pO:ki w v i j->Au w v i j:=fun z=> .inl (by have:=z 0;unfold sq bq at this;rwa [show (i:Int)+0=i by omega,show (j:Int) - 1 - 0=j - 1 by omega]at this)
 have Xm:MM w v i j-> ¬ac y (aF (rd w (i - 1))) (rd w i) (aF (rd v (j - 1))) (rd v j)=true:=fun z=>by
  unfold ac
  rw[if_pos (z.elim (fun z=> .inr (.inr (.inr z.symm))) fun z=> .inl (by rw[z]))]
  decide
 have Xn:Au w v i j-> ¬ac y (aF (rd w (i - 1))) (rd w i) (aF (rd v (j - 1))) (rd v j)=true:=fun z=>by
  unfold ac
  rw[if_pos (z.elim (fun z=> .inr (.inl z.symm)) fun z=> .inr (.inr (.inl (by rw[z,aR (hy.lt _ (hv.rd _))]))))]
  decide
 have ep:par (sq w) (sq v) i j↔cx w v i j:=Iff.rfl
 by_cases tS:MM w v i j
 ·have nO: ¬Au w v i j:=fun z=>TJ hy hw hv tS z
  rw[bo (Xm tS),bo (p:=Au w v i j/\_) (fun z=>nO z.1),bo (p:=ki w v i j/\_) (fun z=>nO (pO z.1))]
  by_cases c:ie po pi qo qi i j=true
  ·by_cases q:cx w v i j
   ·rw[gp c,bo (fun z=>z.2.2 q),gp ⟨q,c⟩];rfl
   ·rw[gp c,gp ⟨et.mpr tS,c,q⟩,bo (fun z=>q z.1)];rfl
  ·rw[bo c,bo (fun z=>c z.2.1),bo (fun z=>c z.2)];rfl
 ·rw[bo (p:=Et _ _ _ _/\_) (fun z=>tS (et.mp z.1)),bo (p:=cx w v i j/\_) (fun z=>tS (pS z.1))]
  by_cases tO:Au w v i j
  ·rw[bo (Xn tO)]
   by_cases c:ie po pi qo qi i j=true
   ·by_cases q:ki w v i j
    ·rw[gp c,bo (fun z=>z.2.2 q),gp ⟨q,c⟩];rfl
    ·rw[gp c,gp ⟨tO,c,q⟩,bo (fun z=>q z.1)];rfl
   ·rw[bo c,bo (fun z=>c z.2.1),bo (fun z=>c z.2)];rfl
  ·rw[bo (p:=Au w v i j/\_) (fun z=>tO z.1),bo (p:=ki w v i j/\_) (fun z=>tO (pO z.1))]
   have l2:=hy.lt _ (hv.rd (j - 1))
   have l3:=hy.lt _ (hv.rd j)
   have l1:=hy.lt _ (hw.rd (i - 1))
   have f0: ∀(u:List Nat) (i:Int),sq u i 0=rd u i:=fun u i=>by unfold sq;rw[show i+0=i by omega]
   have f1: ∀(u:List Nat) (i:Int),sq u i (-1)=rd u (i - 1):=fun u i=>rfl
   have e:=Ln hy (bB hw i) (bB hv j) (hS.sep i j) (fun z=>tS (.inl (by rw[f0,f0]at z;exact z))) (fun z=>tS (.inr z)) (fun z=>tO (.inr (by rw[f0,f1]at z;rw[<-z,aR l1]))) (fun z=>tO (.inl (by rw[f0,f1]at z;exact z.symm)))
   rw[f0,f0,f1,f1]at e
   have e':ie po pi qo qi i j=ac y (aF (rd w (i - 1))) (rd w i) (aF (rd v (j - 1))) (rd v j):=e
   rw[e']
   omega
end
section
variable {y w v:List Nat} {po pi qo qi:Int->Nat}
theorem HR (hy:Yd y) (hw:SW y w) (hv:SW y v) (hS:JE y (sq w) po pi (sq v) qo qi) (D:Bool)
  (h: ∀i j,cx w v i j->po i≠qo j/\pi i≠qi j/\decide (po i<qo j)=D/\decide (qi j<pi i)=D):bS w.length v.length (fun i j=>one (cx w v i j/\ie po pi qo qi i j=true))=0:=by
 have: ∀i j:Int, ¬(cx w v i j/\ie po pi qo qi i j=true):=fun i j ⟨p,c⟩=>by
  have p1:cx w v (i - 1) (j - 1):=fun k=>by
   have:=p (k - 1)
   unfold sq at this ⊢
   rw[show i - 1+k=i+(k - 1) by omega,show j - 1+k=j+(k - 1) by omega]
   exact this
  have h0:=h i j p
  have h1:=h _ _ p1
  have:=(uf hy (bB hw i) (bB hv j) (hS.sep i j) h1.2.1 h0.1 (p (-1)) (p 0)).mp c
  exact this (h1.2.2.2.trans h0.2.2.1.symm)
 rw[show (0:Int)=bS w.length v.length (fun _ _=>0) by unfold bS;rw[show (fun _:Int=>sm v.length fun _=>0)=fun _=>0 from funext fun _=>cW _,cW]]
 exact bX fun i j _ _=>bo (this i j)
theorem HS (hy:Yd y) (hw:SW y w) (hv:SW y v) (hO:JE y (sq w) po pi (fun k=>bq v (-k)) (fun k=>qi (-k)) (fun k=>qo (-k))) (D:Bool)
  (h: ∀i j,(∀k,sq w i k=bq v j k)->po i≠qi j/\pi i≠qo j/\decide (po i<qi j)=D/\decide (qo j<pi i)=D):bS w.length v.length (fun i j=>one (ki w v i j/\ie po pi qo qi i j=true))=0:=by
 have: ∀i j:Int, ¬(ki w v i j/\ie po pi qo qi i j=true):=fun i j ⟨p,c⟩=>by
  have p1: ∀k,sq w (i - 1) k=bq v j k:=fun k=>by
   have:=p (k - 1)
   unfold sq bq at this ⊢
   rw[show i - 1+k=i+(k - 1) by omega,this]
   congr 2;omega
  have h0:=h i (j - 1) p
  have h1:=h _ _ p1
  have s:=hO.sep i (1 - j)
  simp only[show -(1 - j)=j - 1 by omega,show -(1 - j - 1)=j by omega]at s
  unfold ie at c
  rw[i8]at c
  have:=(uf hy (bB hw i) (mm hy hv (j - 1)) s h1.2.1 h0.1 (p (-1)) (p 0)).mp c
  exact this (h1.2.2.2.trans h0.2.2.1.symm)
 rw[show (0:Int)=bS w.length v.length (fun _ _=>0) by unfold bS;rw[show (fun _:Int=>sm v.length fun _=>0)=fun _=>0 from funext fun _=>cW _,cW]]
 exact bX fun i j _ _=>bo (this i j)
theorem ug (hy:Yd y) (hw:SW y w) (i j:Int): ¬ ∀k,sq w i k=bq w j k:=fun h=>by
 unfold sq bq at h
 rcases (show (j - i)%2=0\/(j - i)%2=1 by omega) with z | z
 ·have:=h ((j - i) / 2)
  rw[show i+(j - i) / 2=j - (j - i) / 2 by omega]at this
  exact hJ (hy.lt _ (hw.rd _)) this.symm
 ·have:=h ((j - i) / 2+1)
  rw[show j - ((j - i) / 2+1)=i+((j - i) / 2+1) - 1 by omega]at this
  exact hw.red _ this
theorem wJ (h:Int->Int) (n:Nat): ∀m:Nat,sm (n+m) h=sm n h+sm m (fun i=>h (n+i))
 | 0=>by show sm n h=sm n h+0;omega
 | m+1=>by
  show sm (n+m) h+h ((n+m:Nat):Int)=sm n h+(sm m (fun i=>h (n+i))+h (n+m))
  rw[wJ h n m,show ((n+m:Nat):Int)=(n:Int)+m by omega]
  omega
theorem i9 {h:Int->Int}: ∀{s:Nat},0<s->(∀i:Nat,0<i->i<s->h i=0)->sm s h=h 0
 | 0,h0,_=>absurd h0 (kb _)
 | 1,_,_=>by show (0:Int)+h 0=h 0;omega
 | s+2,_,g=>by
  show sm (s+1) h+h ((s+1:Nat):Int)=h 0
  rw[i9 (s:=s+1) (by omega) (fun i h1 h2=>g i h1 (by omega)),g (s+1) (by omega) (by omega)]
  omega
theorem Av {h:Int->Int} {s:Nat} (hs:0<s) (g: ∀i:Nat,h i=if i%s=0 then 1 else 0): ∀k:Nat,sm (k*s) h=k
 | 0=>by rw[Nat.zero_mul];rfl
 | k+1=>by
  rw[Qch,wJ,Av hs g k,i9 hs]
  ·have:=g (k*s)
   rw[if_pos (Nat.mul_mod_left k s)]at this
   show (k:Int)+h (((k*s:Nat):Int)+0)=((k+1:Nat):Int)
   rw[Qbp,this]
   omega
  ·intro i h1 h2
   have:=g (k*s+i)
   rw[if_neg (by rw[Qbb,Nat.mul_add_mod,Qbf h2];omega)]at this
   rw[<-this]
   congr 1
theorem Ex (hy:Yd y) (hw:SW y w) (hS:JE y (sq w) po pi (sq w) po pi) {s k:Nat} (hs:0<s) (hn:w.length=k*s) (hk:0<k) (hr: ∀j:Nat,j<w.length->(cx w w 0 j↔j%s=0))
  (h: ∀i j:Int,cx w w i j->i%w.length≠j%w.length->po i≠po j/\pi i≠pi j/\decide (po i<po j)=decide (i%w.length<j%w.length)/\decide (pi j<pi i)=decide (i%w.length<j%w.length)):
  bS w.length w.length (fun i j=>one (cx w w i j/\ie po pi po pi i j=true))=2*((k:Int) - 1):=by
 have pt: ∀i j:Nat,i<w.length->j<w.length->one (cx w w i j/\ie po pi po pi i j=true)=(if i=0 then one (j≠0/\cx w w 0 j) else 0)+(if j=0 then one (i≠0/\cx w w 0 i) else 0):=fun i j hi hj=>by
  have sym:cx w w 0 i↔cx w w i 0:=⟨fun q k=>(q k).symm,fun q k=>(q k).symm⟩
  by_cases e:i=j
  ·subst e
   rw[bo (fun q=>by have:=q.2;unfold ie at this;rw[wG]at this;cases this)]
   by_cases z:i=0
   ·rw[if_pos z,bo (fun q=>q.1 z)];rfl
   ·rw[if_neg z];rfl
  ·have key:cx w w i j->(ie po pi po pi i j=true↔(i=0\/j=0)):=fun p=>by
    have p1:cx w w ((i:Int) - 1) ((j:Int) - 1):=fun k=>by
     have:=p (k - 1)
     unfold sq at this ⊢
     rw[show (i:Int) - 1+k=i+(k - 1) by omega,show (j:Int) - 1+k=j+(k - 1) by omega]
     exact this
    have m0: ∀i:Nat,i<w.length->(i:Int)%w.length=i:=fun i hi=>ZP (by omega) (by omega)
    have m1: ∀i:Nat,i<w.length->((i:Int) - 1)%w.length=if i=0 then (w.length:Int) - 1 else i - 1:=fun i hi=>by
     split
     ·rename_i z
      rw[<-Qbq,ZP (by omega) (by omega)];omega
     ·exact ZP (by omega) (by omega)
    have h0:=h i j p (by rw[m0 i hi,m0 j hj];omega)
    have h1:=h _ _ p1 (by rw[m1 i hi,m1 j hj];split<;>split<;>omega)
    have c:=uf hy (bB hw i) (bB hw j) (hS.sep i j) h1.2.1 h0.1 (p (-1)) (p 0)
    rw[h0.2.2.1,h1.2.2.2,m0 i hi,m0 j hj,m1 i hi,m1 j hj]at c
    have c':ie po pi po pi i j=true↔_:=c
    rw[c',Ne,decide_eq_decide]
    split<;>split<;>omega
   by_cases z:i=0
   ·have j0:j≠0:=fun q=>e (z.trans q.symm)
    rw[if_pos z,if_neg j0]
    rw[z]at key ⊢
    have:one (cx w w ((0:Nat):Int) j/\ie po pi po pi ((0:Nat):Int) j=true)=one (j≠0/\cx w w 0 j):=bH ⟨fun q=>⟨j0,q.1⟩,fun q=>⟨q.2,(key q.2).mpr (.inl rfl)⟩⟩
    rw[this];omega
   ·rw[if_neg z]
    by_cases j0:j=0
    ·rw[if_pos j0]
     rw[j0]at key ⊢
     have:one (cx w w i ((0:Nat):Int)/\ie po pi po pi i ((0:Nat):Int)=true)=one (i≠0/\cx w w 0 i):=bH ⟨fun q=>⟨z,sym.mpr q.1⟩,fun q=>⟨sym.mp q.2,(key (sym.mp q.2)).mpr (.inr rfl)⟩⟩
     rw[this];omega
    ·rw[if_neg j0,bo (fun q=>by rcases (key q.1).mp q.2 with q | q<;>contradiction)];rfl
 have cnt:sm w.length (fun j=>one (j≠0/\cx w w 0 j))=(k:Int) - 1:=by
  have e1:sm w.length (fun j=>one (cx w w 0 j))=k:=by
   have:sm w.length (fun j=>one (cx w w 0 j))=sm w.length (fun j=>if j.toNat%s=0 then 1 else 0):=aM fun j hj=>by
    rw[bH (hr j hj),WB]
    by_cases z:j%s=0
    ·rw[gp z,if_pos z]
    ·rw[bo z,if_neg z]
   rw[this,hn]
   exact Av hs (fun i=>by rw[WB]) k
  have e2:sm w.length (fun j=>one (cx w w 0 j))=sm w.length (fun j=>one (j≠0/\cx w w 0 j))+sm w.length (fun j=>if j=0 then 1 else 0):=by
   rw[<-ml]
   refine aM fun j hj=>?_
   by_cases z:j=0
   ·subst z
    rw[gp (show cx w w 0 ((0:Nat):Int) from fun k=>rfl),bo (fun q=>q.1 rfl)];rfl
   ·rw[if_neg (by omega),Qbp]
    exact bH ⟨fun q=>⟨by omega,q⟩,fun q=>q.2⟩
  have e3:sm w.length (fun j=>if j=0 then (1:Int) else 0)=1:=by
   rw[i9 (U0.mpr hw.ne) (fun i h1 _=>by rw[if_neg (by omega)]),if_pos rfl]
  omega
 have lp:0<w.length:=U0.mpr hw.ne
 have e:bS w.length w.length (fun i j=>one (cx w w i j/\ie po pi po pi i j=true))=bS w.length w.length (fun i j=>(if i=0 then one (j≠0/\cx w w 0 j) else 0)+(if j=0 then one (i≠0/\cx w w 0 i) else 0)):=bX fun i j hi hj=>by
  rw[pt i j hi hj]
  congr 1
  ·by_cases z:i=0
   ·rw[if_pos z,if_pos (by omega)]
    exact bH ⟨fun q=>⟨by omega,q.2⟩,fun q=>⟨by omega,q.2⟩⟩
   ·rw[if_neg z,if_neg (by omega)]
  ·by_cases z:j=0
   ·rw[if_pos z,if_pos (by omega)]
    exact bH ⟨fun q=>⟨by omega,q.2⟩,fun q=>⟨by omega,q.2⟩⟩
   ·rw[if_neg z,if_neg (by omega)]
 rw[e,dh]
 have a1:bS w.length w.length (fun i j=>if i=0 then one (j≠0/\cx w w 0 j) else 0)=(k:Int) - 1:=by
  unfold bS
  rw[i9 lp]
  ·rw[<-cnt]
   exact aM fun j _=>if_pos rfl
  ·intro i h1 _
   refine Eq.trans (aM (g:=fun _=>0) fun j _=>?_) (cW _)
   have: ¬((i:Int)=0):=by omega
   exact if_neg this
 have a2:bS w.length w.length (fun i j=>if j=0 then one (i≠0/\cx w w 0 i) else 0)=(k:Int) - 1:=by
  unfold bS
  rw[<-cnt]
  refine aM fun i _=>?_
  have: ∀j:Nat,0<j-> ¬((j:Int)=0):=fun j h=>by omega
  rw[i9 lp (fun j h1 _=>if_neg (this j h1))]
  exact if_pos rfl
 omega
end
noncomputable def kk (y:List Nat) (f:Int->Nat):Nat->Nat->List Int
 | _,0=>[]
 | k,n+1=>fG y f (k+1)::fG y f (-(k:Int))::kk y f (k+1) n
theorem fi: ∀(l r t:List Int),a_ (l++r) (l++t)=a_ r t
 | [],_,_=>rfl
 | a::l,r,t=>by
  show (if a=a then a_ (l++r) (l++t) else _)=_
  rw[if_pos rfl,fi l r t]
theorem mq {y:List Nat} {f g:Int->Nat} {a b:Nat} (hy:Yd y) (hf:iK y f) (hg:iK y g) (h:Run f g a b) (r t:List Int): ∀(n k:Nat),k<=a->k<=b->a<k+n->b<k+n->a_ (kk y f k n++r) (kk y g k n++t)=if a<=b then jN y f g a else jS y f g b
 | 0,k,h1,_,h3,_=>by omega
 | n+1,k,h1,h2,h3,h4=>by
  show (if fG y f (k+1)=fG y g (k+1) then (if fG y f (-(k:Int))=fG y g (-(k:Int)) then a_ (kk y f (k+1) n++r) (kk y g (k+1) n++t) else decide (fG y f (-(k:Int))<fG y g (-(k:Int)))) else decide (fG y f (k+1)<fG y g (k+1)))=_
  have e0:=h.kY k (by omega) (by omega)
  have e1:=h.kY (-(k:Int)) (by omega) (by omega)
  by_cases z:k=a
  ·subst z
   rw[if_neg (fun q=>h.hi (by
    unfold fG at q
    rw[show (k:Int)+1 - 1=k by omega, <-e0]at q
    exact kZ (hy.cl _ (hf.bR _)) (hf.bR _) (hg.bR _) q)),if_pos h2]
   rfl
  ·have e2:=h.kY (k+1) (by omega) (by omega)
   rw[if_pos (by unfold fG;rw[show (k:Int)+1 - 1=k by omega,e0,e2])]
   by_cases z2:k=b
   ·subst z2
    rw[if_neg (fun q=>h.lo (by
     unfold fG at q
     rw[<-e1]at q
     have r1:=hf.red (-(k:Int))
     have r2:=hg.red (-(k:Int))
     have c1:=(eO (hy.cl _ (hf.bR (-(k:Int) - 1))) (hf.bR (-(k:Int))) (Ne.symm r1)).2.2
     have c2:=(eO (hy.cl _ (hg.bR (-(k:Int) - 1))) (hf.bR (-(k:Int))) (by rw[e1];exact Ne.symm r2)).2.2
     have:=kZ (hf.bR (-(k:Int))) (hy.cl _ (hf.bR (-(k:Int) - 1))) (hy.cl _ (hg.bR (-(k:Int) - 1))) (by rw[c1,c2,q])
     exact eV (hy.lt _ (hf.bR _)) (hy.lt _ (hg.bR _)) this)),if_neg (by omega)]
    rfl
   ·have e3:=h.kY (-(k:Int) - 1) (by omega) (by omega)
    rw[if_pos (by unfold fG;rw[e1,e3])]
    exact mq hy hf hg h r t n (k+1) (by omega) (by omega) (by omega) (by omega)
noncomputable def lO (w:List Nat) (i:Int):Int->Nat:=if aC (rd w i)=true then sq w i else bq w i
noncomputable def Gn (n r:Nat) (l low:Bool) (c i:Nat):List Int:=if low=l then [(c:Int),(((if low=true then i else n - 1 - i) / r:Nat):Int)] else [-(c:Int), -(((if low=true then n - 1 - i else i) / r:Nat):Int)]
noncomputable def cG (y:List Nat) (ws:List (List Nat)) (L:Nat->Bool) (r:Nat->Nat) (M c i:Nat):List Int:=kk y (lO (ws.getD c []) i) 0 M++Gn (ws.getD c []).length (r c) (L c) (aC (rd (ws.getD c []) i)) c i
def Dl (w:List Nat) (i:Int) (f:Int->Nat):Prop:=f=sq w i\/f=bq w i
theorem uh {y w:List Nat} {i:Int} {f:Int->Nat} (hy:Yd y) (hw:SW y w) (h:Dl w i f):lO w i=if aC (f 0)=true then f else jz f:=by
 have s0:sq w i 0=rd w i:=by unfold sq;rw[show i+0=i by omega]
 have b0:bq w i 0=aF (rd w i):=by unfold bq;rw[show i - 0=i by omega]
 have lc:=fP _ (hy.lt _ (hw.rd i)).mem
 unfold lO
 rcases h with rfl | rfl
 ·rw[s0,fh]
 ·rw[b0,lc, <-fh,rS hy (bB hw i)]
  cases aC (rd w i)<;>rfl
theorem Dl.yJ {y w:List Nat} {i:Int} {f:Int->Nat} (hy:Yd y) (hw:SW y w) (h:Dl w i f):iK y f:=by
 rcases h with rfl | rfl
 ·exact bB hw i
 ·exact mm hy hw i
theorem Run.sy {f g:Int->Nat} {a b:Nat} (h:Run f g a b):Run g f a b:=⟨fun k h1 h2=>(h.kY k h1 h2).symm,Ne.symm h.hi,Ne.symm h.lo⟩
section
variable {y:List Nat} {ws:List (List Nat)} {L:Nat->Bool} {r:Nat->Nat} {M:Nat} {N:Nat->Nat->Nat->Nat}
structure Lies (y:List Nat) (ws:List (List Nat)) (L:Nat->Bool) (r:Nat->Nat) (M:Nat) (N:Nat->Nat->Nat->Nat):Prop where
 sep: ∀c i d j e e',c<ws.length->d<ws.length->i<(ws.getD c []).length->j<(ws.getD d []).length->(e=rd (ws.getD c []) i\/e=aF (rd (ws.getD c []) i))->(e'=rd (ws.getD d []) j\/e'=aF (rd (ws.getD d []) j))->y.idxOf e<y.idxOf e'->N c i e<N d j e'
 low: ∀c i d j x,c<ws.length->d<ws.length->i<(ws.getD c []).length->j<(ws.getD d []).length->(c,i)≠(d,j)->aC x=true->(rd (ws.getD c []) i=x\/rd (ws.getD c []) i=aF x)->(rd (ws.getD d []) j=x\/rd (ws.getD d []) j=aF x)->
  N c i x≠N d j x/\N c i (aF x)≠N d j (aF x)/\decide (N c i x<N d j x)=a_ (cG y ws L r M c i) (cG y ws L r M d j)/\decide (N d j (aF x)<N c i (aF x))=a_ (cG y ws L r M c i) (cG y ws L r M d j)
theorem Lies.at (hy:Yd y) (hN:Lies y ws L r M N) {c i d j:Nat} {f g:Int->Nat} (hc:c<ws.length) (hd:d<ws.length) (hi:i<(ws.getD c []).length) (hj:j<(ws.getD d []).length) (hw:SW y (ws.getD c [])) (hv:SW y (ws.getD d []))
  (hf:Dl (ws.getD c []) i f) (hg:Dl (ws.getD d []) j g) (h0:f 0=g 0) (dv:(c,i)≠(d,j)):
  N c i (f 0)≠N d j (f 0)/\N c i (aF (f 0))≠N d j (aF (f 0))/\decide (N c i (f 0)<N d j (f 0))=(if aC (f 0)=true then a_ (cG y ws L r M c i) (cG y ws L r M d j) else a_ (cG y ws L r M d j) (cG y ws L r M c i))/\decide (N d j (aF (f 0))<N c i (aF (f 0)))=(if aC (f 0)=true then a_ (cG y ws L r M c i) (cG y ws L r M d j) else a_ (cG y ws L r M d j) (cG y ws L r M c i)):=by
 have s0: ∀(w:List Nat) (i:Int),sq w i 0=rd w i:=fun w i=>by unfold sq;rw[show i+0=i by omega]
 have b0: ∀(w:List Nat) (i:Int),bq w i 0=aF (rd w i):=fun w i=>by unfold bq;rw[show i - 0=i by omega]
 have ly:Lt (f 0):=hy.lt _ ((hf.yJ hy hw).bR 0)
 have Mw:=aR ly
 have ef:rd (ws.getD c []) i=f 0\/rd (ws.getD c []) i=aF (f 0):=by
  rcases hf with rfl | rfl
  ·exact .inl (s0 _ _).symm
  ·exact .inr (by rw[b0,aR (hy.lt _ (hw.rd _))])
 have eg:rd (ws.getD d []) j=f 0\/rd (ws.getD d []) j=aF (f 0):=by
  rw[h0]
  rcases hg with rfl | rfl
  ·exact .inl (s0 _ _).symm
  ·exact .inr (by rw[b0,aR (hy.lt _ (hv.rd _))])
 by_cases z:aC (f 0)=true
 ·rw[if_pos z]
  exact hN.low c i d j (f 0) hc hd hi hj dv z ef eg
 ·rw[if_neg z]
  have z':aC (aF (f 0))=true:=by rw[fP _ ly.mem];simpa using z
  have:=hN.low d j c i (aF (f 0)) hd hc hj hi (Ne.symm dv) z' (by rw[Mw];exact eg.symm) (by rw[Mw];exact ef.symm)
  rw[Mw]at this
  exact ⟨Ne.symm this.2.1,Ne.symm this.1,this.2.2.2,this.2.2.1⟩
theorem Lies.run (hy:Yd y) (hN:Lies y ws L r M N) {c i d j:Nat} {f g:Int->Nat} {a b:Nat} (hc:c<ws.length) (hd:d<ws.length) (hi:i<(ws.getD c []).length) (hj:j<(ws.getD d []).length) (hw:SW y (ws.getD c [])) (hv:SW y (ws.getD d []))
  (hf:Dl (ws.getD c []) i f) (hg:Dl (ws.getD d []) j g) (hr:Run f g a b) (ha:a<M) (hb:b<M) (dv:(c,i)≠(d,j)):
  N c i (f 0)≠N d j (g 0)/\N c i (aF (f 0))≠N d j (aF (g 0))/\decide (N c i (f 0)<N d j (g 0))=yG y f g a b/\decide (N d j (aF (g 0))<N c i (aF (f 0)))=yG y f g a b:=by
 have h0:=hr.zero
 have lf:=hf.yJ hy hw
 have lg:=hg.yJ hy hv
 have e:(if aC (f 0)=true then a_ (cG y ws L r M c i) (cG y ws L r M d j) else a_ (cG y ws L r M d j) (cG y ws L r M c i))=yG y f g a b:=by
  unfold cG
  rw[uh hy hw hf,uh hy hv hg, <-h0]
  by_cases z:aC (f 0)=true
  ·rw[if_pos z,if_pos z,if_pos z,mq hy lf lg hr _ _ M 0 (Y6 _) (Y6 _) (by omega) (by omega)]
   unfold yG u6
   by_cases q:a<=b
   ·rw[if_pos q,if_neg (by simp[z];omega)]
   ·rw[if_neg q,if_pos (by simp;omega)]
  ·rw[if_neg z,if_neg z,if_neg z,mq hy (lg.rv hy) (lf.rv hy) (hr.rv hy lf lg).sy _ _ M 0 (Y6 _) (Y6 _) (by omega) (by omega), <-Lk hy lf lg h0]
   unfold yG u6
   have z':aC (jz g 0)=true:=by
    show aC (aF (g 0))=true
    rw[<-h0,fP _ (hy.lt _ (lf.bR 0)).mem];simpa using z
   by_cases q:b<=a
   ·rw[if_pos q,if_neg (by simp[z'];omega)]
   ·rw[if_neg q,if_pos (by simp;omega)]
 have:=hN.at hy hc hd hi hj hw hv hf hg h0 dv
 rw[e]at this
 rw[<-h0]
 exact this
end
noncomputable def fB (n:Nat) (k:Int):Nat:=(k%(n:Int)).toNat
theorem bE {n:Nat} (h:0<n) (k:Int):fB n k<n:=by
 unfold fB
 have h1:=Qar k (b:=(n:Int)) (by omega)
 have h2:=Qak k (b:=(n:Int)) (by omega)
 omega
theorem cb {n:Nat} (h:0<n) (k:Int):((fB n k:Nat):Int)=k%n:=by
 unfold fB
 have h1:=Qar k (b:=(n:Int)) (by omega)
 omega
theorem Aw {n:Nat} (k:Int):fB n (k+n)=fB n k:=by unfold fB;rw[Qbq]
theorem bU {w:List Nat} (h:w≠[]) (k:Int):rd w (fB w.length k:Nat)=rd w k:=by rw[cb (U0.mpr h),fA]
theorem cy {w:List Nat} (h:w≠[]) (k:Int):sq w (fB w.length k:Nat)=sq w k:=by
 funext x
 unfold sq
 rw[cb (U0.mpr h), <-fA w (k%w.length+x),Qcl,fA]
theorem pC {w:List Nat} (h:w≠[]) (k:Int):bq w (fB w.length k:Nat)=bq w k:=by rw[<-fh, <-fh,cy h]
noncomputable def pO (ws:List (List Nat)) (N:Nat->Nat->Nat->Nat) (c:Nat) (k:Int):Nat:=N c (fB (ws.getD c []).length k) (rd (ws.getD c []) k)
noncomputable def pI (ws:List (List Nat)) (N:Nat->Nat->Nat->Nat) (c:Nat) (k:Int):Nat:=N c (fB (ws.getD c []).length k) (aF (rd (ws.getD c []) k))
theorem Lr {x x' p p':Int} (h:x≠x'):a_ [x,p] [x',p']=decide (x<x'):=by
 show (if x=x' then _ else decide (x<x'))=_
 rw[if_neg h]
theorem ui {x p p':Int} (h:p≠p'):a_ [x,p] [x,p']=decide (p<p'):=by
 show (if x=x then (if p=p' then a_ [] [] else decide (p<p')) else _)=_
 rw[if_pos rfl,if_neg h]
section
variable {y:List Nat} {ws:List (List Nat)} {L:Nat->Bool} {r:Nat->Nat} {M:Nat} {N:Nat->Nat->Nat->Nat}
structure eA (y:List Nat) (ws:List (List Nat)) (L:Nat->Bool) (r:Nat->Nat) (M:Nat):Prop where
 yd:Yd y
 sw: ∀c,c<ws.length->SW y (ws.getD c [])
 big: ∀c d,c<ws.length->d<ws.length->(ws.getD c []).length+(ws.getD d []).length<=M
 l1: ∀c d i j,c<ws.length->d<ws.length->cx (ws.getD c []) (ws.getD d []) i j->L c=L d
 l2: ∀c d i j,c<ws.length->d<ws.length->(∀k,sq (ws.getD c []) i k=bq (ws.getD d []) j k)->L d=!L c
 rp: ∀c,c<ws.length->0<r c
 rr: ∀c,c<ws.length-> ∀i j:Int,(cx (ws.getD c []) (ws.getD c []) i j↔(i - j)%(r c:Int)=0)
theorem Lies.two (h:eA y ws L r M) (hN:Lies y ws L r M N) {c d:Nat} (hc:c<ws.length) (hd:d<ws.length):JE y (sq (ws.getD c [])) (pO ws N c) (pI ws N c) (sq (ws.getD d [])) (pO ws N d) (pI ws N d):=by
 have hw:=h.sw c hc
 have hv:=h.sw d hd
 have lw:=U0.mpr hw.ne
 have lv:=U0.mpr hv.ne
 have s0: ∀(w:List Nat) (i:Int),sq w i 0=rd w i:=fun w i=>by unfold sq;rw[show i+0=i by omega]
 refine ⟨fun s t=>?_,fun s t a b rn=>?_⟩
 ·have key: ∀p∈[(aF (sq (ws.getD c []) s (-1)),pI ws N c (s - 1)),(sq (ws.getD c []) s 0,pO ws N c s),(aF (sq (ws.getD d []) t (-1)),pI ws N d (t - 1)),(sq (ws.getD d []) t 0,pO ws N d t)], ∃e i:Nat,e<ws.length/\i<(ws.getD e []).length/\(p.1=rd (ws.getD e []) i\/p.1=aF (rd (ws.getD e []) i))/\p.2=N e i p.1:=by
   intro p hp
   simp only[Y5,Zw,or_false]at hp
   rcases hp with rfl | rfl | rfl | rfl
   ·exact ⟨c,_,hc,bE lw (s - 1), .inr (by rw[bU hw.ne];rfl),rfl⟩
   ·exact ⟨c,_,hc,bE lw s, .inl (by rw[bU hw.ne,s0]),by rw[s0];rfl⟩
   ·exact ⟨d,_,hd,bE lv (t - 1), .inr (by rw[bU hv.ne];rfl),rfl⟩
   ·exact ⟨d,_,hd,bE lv t, .inl (by rw[bU hv.ne,s0]),by rw[s0];rfl⟩
  intro p hp q hq cV
  obtain ⟨e,i,he,hi,h1,h2⟩:=key p hp
  obtain ⟨e',j,CL,hj,h3,h4⟩:=key q hq
  rw[h2,h4]
  exact hN.sep e i e' j _ _ he CL hi hj h1 h3 cV
 ·obtain ⟨a',b',TK,ha,hb⟩:=dF lw lv (fun k=>cF _ s k) (fun k=>cF _ t k) rn.zero ⟨_,rn.hi⟩
  obtain ⟨rfl,rfl⟩:=rn.one TK
  have:=h.big c d hc hd
  have key:=hN.run h.yd hc hd (bE lw s) (bE lv t) hw hv (.inl (cy hw.ne s).symm) (.inl (cy hv.ne t).symm) rn (by omega) (by omega) (fun z=>rn.hi (by
   obtain ⟨z1,z2⟩:=Prod.mk.inj z
   subst z1
   rw[<-cy hw.ne s, <-cy hw.ne t,z2]))
  rw[s0,s0]at key
  exact key
theorem Lies.Vp (h:eA y ws L r M) (hN:Lies y ws L r M N) {c d:Nat} (hc:c<ws.length) (hd:d<ws.length):JE y (sq (ws.getD c [])) (pO ws N c) (pI ws N c) (fun k=>bq (ws.getD d []) (-k)) (fun k=>pI ws N d (-k)) (fun k=>pO ws N d (-k)):=by
 have hw:=h.sw c hc
 have hv:=h.sw d hd
 have lw:=U0.mpr hw.ne
 have lv:=U0.mpr hv.ne
 have s0: ∀(w:List Nat) (i:Int),sq w i 0=rd w i:=fun w i=>by unfold sq;rw[show i+0=i by omega]
 have b0: ∀(w:List Nat) (i:Int),bq w i 0=aF (rd w i):=fun w i=>by unfold bq;rw[show i - 0=i by omega]
 have bb: ∀t:Int,aF (bq (ws.getD d []) (-t) (-1))=rd (ws.getD d []) (-(t - 1)):=fun t=>by
  unfold bq
  rw[aR (h.yd.lt _ (hv.rd _))]
  congr 1;omega
 refine ⟨fun s t=>?_,fun s t a b rn=>?_⟩
 ·have key: ∀p∈[(aF (sq (ws.getD c []) s (-1)),pI ws N c (s - 1)),(sq (ws.getD c []) s 0,pO ws N c s),(aF (bq (ws.getD d []) (-t) (-1)),pO ws N d (-(t - 1))),(bq (ws.getD d []) (-t) 0,pI ws N d (-t))], ∃e i:Nat,e<ws.length/\i<(ws.getD e []).length/\(p.1=rd (ws.getD e []) i\/p.1=aF (rd (ws.getD e []) i))/\p.2=N e i p.1:=by
   intro p hp
   simp only[Y5,Zw,or_false]at hp
   rcases hp with rfl | rfl | rfl | rfl
   ·exact ⟨c,_,hc,bE lw (s - 1), .inr (by rw[bU hw.ne];rfl),rfl⟩
   ·exact ⟨c,_,hc,bE lw s, .inl (by rw[bU hw.ne,s0]),by rw[s0];rfl⟩
   ·exact ⟨d,_,hd,bE lv (-(t - 1)), .inl (by rw[bU hv.ne];exact bb t),by rw[bb t];rfl⟩
   ·exact ⟨d,_,hd,bE lv (-t), .inr (by rw[bU hv.ne,b0]),by rw[b0];rfl⟩
  intro p hp q hq cV
  obtain ⟨e,i,he,hi,h1,h2⟩:=key p hp
  obtain ⟨e',j,CL,hj,h3,h4⟩:=key q hq
  rw[h2,h4]
  exact hN.sep e i e' j _ _ he CL hi hj h1 h3 cV
 ·obtain ⟨a',b',TK,ha,hb⟩:=dF lw lv (fun k=>cF _ s k) (fun k=>mi _ (-t) k) rn.zero ⟨_,rn.hi⟩
  obtain ⟨rfl,rfl⟩:=rn.one TK
  have:=h.big c d hc hd
  have key:=hN.run h.yd hc hd (bE lw s) (bE lv (-t)) hw hv (.inl (cy hw.ne s).symm) (.inr (pC hv.ne (-t)).symm) rn (by omega) (by omega) (fun z=>by
   obtain ⟨z1,z2⟩:=Prod.mk.inj z
   subst z1
   have z0:=rn.zero
   rw[s0,b0, <-bU hw.ne s, <-bU hw.ne (-t),z2]at z0
   exact hJ (h.yd.lt _ (hw.rd _)) z0.symm)
  rw[s0,b0,aR (h.yd.lt _ (hv.rd _))]at key
  exact key
theorem uj {n n' r r' c d i j:Nat} {l low Ls:Bool} (h:c≠d):a_ (Gn n r l low c i) (Gn n' r' (if Ls=low then l else !l) Ls d j)=if low=l then decide (c<d) else decide (d<c):=by
 unfold Gn
 cases low<;>cases Ls<;>cases l<;>simp only[Qd0,Bool.not_false,if_true,if_false,Bool.true_eq_false,Qbh]<;>rw[Lr (by omega)]<;>exact decide_eq_decide.mpr (by omega)
theorem Lies.Ey (h:eA y ws L r M) (hN:Lies y ws L r M N) {c d:Nat} (hc:c<ws.length) (hd:d<ws.length) (lL:c≠d) {i j:Nat} {f g:Int->Nat} (hi:i<(ws.getD c []).length) (hj:j<(ws.getD d []).length) (hf:Dl (ws.getD c []) i f) (hg:Dl (ws.getD d []) j g) (hp: ∀k,f k=g k)
  (hl:L d=if aC (rd (ws.getD d []) j)=aC (rd (ws.getD c []) i) then L c else !L c) (hs:f=sq (ws.getD c []) i):
  N c i (f 0)≠N d j (g 0)/\N c i (aF (f 0))≠N d j (aF (g 0))/\decide (N c i (f 0)<N d j (g 0))=(if L c=true then decide (c<d) else decide (d<c))/\decide (N d j (aF (g 0))<N c i (aF (f 0)))=(if L c=true then decide (c<d) else decide (d<c)):=by
 have hw:=h.sw c hc
 have hv:=h.sw d hd
 have e:(if aC (f 0)=true then a_ (cG y ws L r M c i) (cG y ws L r M d j) else a_ (cG y ws L r M d j) (cG y ws L r M c i))=if L c=true then decide (c<d) else decide (d<c):=by
  have es:lO (ws.getD c []) i=lO (ws.getD d []) j:=by
   rw[uh h.yd hw hf,uh h.yd hv hg,show f=g from funext hp]
  have f0:f 0=rd (ws.getD c []) i:=by rw[hs];unfold sq;rw[show (i:Int)+0=i by omega]
  unfold cG
  rw[es,fi,fi,f0]
  have zG:L c=if aC (rd (ws.getD c []) i)=aC (rd (ws.getD d []) j) then L d else !L d:=by
   rw[hl]
   cases aC (rd (ws.getD d []) j)<;>cases aC (rd (ws.getD c []) i)<;>cases L c<;>rfl
  have e1:= @uj (ws.getD c []).length (ws.getD d []).length (r c) (r d) c d i j (L c) (aC (rd (ws.getD c []) i)) (aC (rd (ws.getD d []) j)) lL
  have e2:= @uj (ws.getD d []).length (ws.getD c []).length (r d) (r c) d c j i (L d) (aC (rd (ws.getD d []) j)) (aC (rd (ws.getD c []) i)) (Ne.symm lL)
  rw[<-hl]at e1
  rw[<-zG]at e2
  rw[e1,e2,hl]
  cases aC (rd (ws.getD d []) j)<;>cases aC (rd (ws.getD c []) i)<;>cases L c<;>rfl
 have:=hN.at h.yd hc hd hi hj hw hv hf hg (hp 0) (fun z=>lL (Prod.mk.inj z).1)
 rw[e]at this
 rw[<-hp 0]
 exact this
end
theorem wK {n k r i:Nat} (hr:0<r) (hn:n=k*r) (hi:i<n):(n - 1 - i) / r=k - 1 - i / r:=by
 have h1:=Qca i r
 have h2:=Qcd i hr
 have h3:i / r<k:=by
  rw[Qdq hr];omega
 rw[Nat.div_eq_iff hr]
 obtain ⟨t,rfl⟩: ∃t,k=i / r+1+t:=⟨k - 1 - i / r,by omega⟩
 generalize hq:i / r=q at*
 rw[Nat.add_mul,Nat.add_mul,Nat.one_mul,Qbb q r]at hn
 have e:q+1+t - 1 - q=t:=by omega
 rw[e]
 generalize r*q=A at*
 generalize t*r=B at*
 omega
theorem B9 {r i j:Nat} (hr:0<r) (h:i%r=j%r) (dv:i≠j):(i / r<j / r↔i<j)/\i / r≠j / r:=by
 have h1:=Qca i r
 have h2:=Qca j r
 have uk:i / r≠j / r:=fun z=>dv (by rw[<-h1, <-h2,z,h])
 refine ⟨⟨fun q=>?_,fun q=>?_⟩,uk⟩
 ·have:r*(i / r+1)<=r*(j / r):=Nat.mul_le_mul_left r q
  rw[Nat.mul_add,Nat.mul_one]at this
  omega
 ·refine Classical.byContradiction fun z=>?_
  have h3:j / r+1<=i / r:=by omega
  have:r*(j / r+1)<=r*(i / r):=Nat.mul_le_mul_left r h3
  rw[Nat.mul_add,Nat.mul_one]at this
  omega
theorem yM {n k r c i j:Nat} {l low:Bool} (hr:0<r) (hn:n=k*r) (hi:i<n) (hj:j<n) (h:i%r=j%r) (dv:i≠j):(if low=true then a_ (Gn n r l low c i) (Gn n r l low c j) else a_ (Gn n r l low c j) (Gn n r l low c i))=decide (i<j):=by
 obtain ⟨d1,d2⟩:=B9 hr h dv
 have e1:=wK hr hn hi
 have e2:=wK hr hn hj
 have b1:i / r<k:=by rw[Qdq hr];omega
 have b2:j / r<k:=by rw[Qdq hr];omega
 unfold Gn
 cases low<;>cases l<;>simp only[if_true,if_false,Bool.true_eq_false,Qbh]
 ·rw[e1,e2,ui (by omega)];exact decide_eq_decide.mpr (by omega)
 ·rw[ui (by omega)];exact decide_eq_decide.mpr (by omega)
 ·rw[e1,e2,ui (by omega)];exact decide_eq_decide.mpr (by omega)
 ·rw[ui (by omega)];exact decide_eq_decide.mpr (by omega)
noncomputable def fc (y w v:List Nat) (i j:Int):Int:=one (ac y (aF (rd w (i - 1))) (rd w i) (aF (rd v (j - 1))) (rd v j)=true)+one (0<al y (sq w i) (sq v j) (w.length+v.length))+one (0<al y (sq w i) (bq v j) (w.length+v.length))
section
variable {y:List Nat} {ws:List (List Nat)} {L:Nat->Bool} {r:Nat->Nat} {M:Nat} {N:Nat->Nat->Nat->Nat}
theorem um (ws:List (List Nat)) (N:Nat->Nat->Nat->Nat) (c:Nat) (k:Int):pO ws N c (k+(ws.getD c []).length)=pO ws N c k:=by unfold pO;rw[Aw,hX]
theorem uo (ws:List (List Nat)) (N:Nat->Nat->Nat->Nat) (c:Nat) (k:Int):pI ws N c (k+(ws.getD c []).length)=pI ws N c k:=by unfold pI;rw[Aw,hX]
theorem eA.root (h:eA y ws L r M) {c:Nat} (hc:c<ws.length):(ws.getD c []).length=(ws.getD c []).length / r c*r c/\0<(ws.getD c []).length / r c:=by
 have hp:=h.rp c hc
 have hl:=U0.mpr (h.sw c hc).ne
 have h1:=(h.rr c hc (ws.getD c []).length 0).mp (fun k=>by
  have:=congrFun (yK (ws.getD c []) 0) k
  rwa [Qa7]at this)
 rw[Qc0]at h1
 have h2:(ws.getD c []).length%r c=0:=by
  have:((((ws.getD c []).length%r c:Nat)):Int)=0:=by rw[<-h1];rfl
  omega
 have h3:=Qca (ws.getD c []).length (r c)
 rw[h2,Nat.add_zero,Qbb]at h3
 refine ⟨h3.symm,Qcc fun z=>?_⟩
 rw[z,Nat.zero_mul]at h3
 omega
theorem jB (h:eA y ws L r M) (hN:Lies y ws L r M N) {c d:Nat} (hc:c<ws.length) (hd:d<ws.length) (lL:c≠d):
  bS (ws.getD c []).length (ws.getD d []).length (fun i j=>one (ie (pO ws N c) (pI ws N c) (pO ws N d) (pI ws N d) i j=true))=bS (ws.getD c []).length (ws.getD d []).length (fc y (ws.getD c []) (ws.getD d [])):=by
 have hw:=h.sw c hc
 have hv:=h.sw d hd
 have lw:=U0.mpr hw.ne
 have lv:=U0.mpr hv.ne
 have s0: ∀(w:List Nat) (i:Int),sq w i 0=rd w i:=fun w i=>by unfold sq;rw[show i+0=i by omega]
 have b0: ∀(w:List Nat) (i:Int),bq w i 0=aF (rd w i):=fun w i=>by unfold bq;rw[show i - 0=i by omega]
 have hS:=hN.two h hc hd
 have hO:=hN.Vp h hc hd
 rw[wI h.yd hw hv (um ws N c) (uo ws N c) (um ws N d) (uo ws N d) hS hO,HR h.yd hw hv hS (if L c=true then decide (c<d) else decide (d<c)),HS h.yd hw hv hO (if L c=true then decide (c<d) else decide (d<c)), <-dh, <-dh]
 ·unfold fc
  omega
 ·intro i j p
  have p0:=p 0
  rw[s0,b0]at p0
  have lo:=fP _ (h.yd.lt _ (hv.rd j)).mem
  have:=hN.Ey h hc hd lL (bE lw i) (bE lv j) (f:=sq (ws.getD c []) i) (g:=bq (ws.getD d []) j) (.inl (cy hw.ne i).symm) (.inr (pC hv.ne j).symm) p (by
   rw[bU hw.ne,bU hv.ne,p0,lo,h.l2 c d i j hc hd p]
   cases aC (rd (ws.getD d []) j)<;>rfl) (cy hw.ne i).symm
  rw[s0,b0,aR (h.yd.lt _ (hv.rd _))]at this
  exact this
 ·intro i j p
  have p0:=p 0
  rw[s0,s0]at p0
  have:=hN.Ey h hc hd lL (bE lw i) (bE lv j) (f:=sq (ws.getD c []) i) (g:=sq (ws.getD d []) j) (.inl (cy hw.ne i).symm) (.inl (cy hv.ne j).symm) p (by
   rw[bU hw.ne,bU hv.ne,p0,if_pos rfl]
   exact (h.l1 c d i j hc hd p).symm) (cy hw.ne i).symm
  rw[s0,s0]at this
  exact this
theorem yN (h:eA y ws L r M) (hN:Lies y ws L r M N) {c:Nat} (hc:c<ws.length):
  bS (ws.getD c []).length (ws.getD c []).length (fun i j=>one (ie (pO ws N c) (pI ws N c) (pO ws N c) (pI ws N c) i j=true))=bS (ws.getD c []).length (ws.getD c []).length (fc y (ws.getD c []) (ws.getD c []))+2*(((ws.getD c []).length / r c:Nat) - 1):=by
 have hw:=h.sw c hc
 have lw:=U0.mpr hw.ne
 have s0: ∀(w:List Nat) (i:Int),sq w i 0=rd w i:=fun w i=>by unfold sq;rw[show i+0=i by omega]
 have hS:=hN.two h hc hc
 have hO:=hN.Vp h hc hc
 obtain ⟨Jr,P7⟩:=h.root hc
 have Vq:=h.rp c hc
 have e0:bS (ws.getD c []).length (ws.getD c []).length (fun i j=>one (ki (ws.getD c []) (ws.getD c []) i j/\ie (pO ws N c) (pI ws N c) (pO ws N c) (pI ws N c) i j=true))=0:=by
  rw[show (0:Int)=bS (ws.getD c []).length (ws.getD c []).length (fun _ _=>0) by unfold bS;rw[show (fun _:Int=>sm (ws.getD c []).length fun _=>0)=fun _=>0 from funext fun _=>cW _,cW]]
  exact bX fun i j _ _=>bo fun z=>ug h.yd hw _ _ z.1
 rw[wI h.yd hw hw (um ws N c) (uo ws N c) (um ws N c) (uo ws N c) hS hO,e0,Ex h.yd hw hS Vq Jr P7, <-dh, <-dh]
 ·unfold fc
  omega
 ·intro j hj
  rw[h.rr c hc]
  constructor
  ·intro q
   have:(j:Int)%(r c:Int)=0:=by
    rw[Int.zero_sub]at q
    exact Int.emod_eq_zero_of_dvd (Int.dvd_neg.mp (Int.dvd_of_emod_eq_zero q))
   have h2:((j%r c:Nat):Int)=0:=by rw[<-this];rfl
   omega
  ·intro q
   have:(j:Int)%(r c:Int)=0:=by
    have h2:((j%r c:Nat):Int)=(j:Int)%(r c:Int):=rfl
    rw[<-h2,q];rfl
   rw[Int.zero_sub]
   exact Int.emod_eq_zero_of_dvd (Int.dvd_neg.mpr (Int.dvd_of_emod_eq_zero this))
 ·intro i j p dv
  have p0:=p 0
  rw[s0,s0]at p0
  have uk:fB (ws.getD c []).length i≠fB (ws.getD c []).length j:=fun z=>dv (by rw[<-cb lw, <-cb lw,z])
  have:=hN.at h.yd hc hc (bE lw i) (bE lw j) hw hw (f:=sq (ws.getD c []) i) (g:=sq (ws.getD c []) j) (.inl (cy hw.ne i).symm) (.inl (cy hw.ne j).symm) (p 0) (fun z=>uk (Prod.mk.inj z).2)
  have HU:fB (ws.getD c []).length i%r c=fB (ws.getD c []).length j%r c:=by
   have p':cx (ws.getD c []) (ws.getD c []) (fB (ws.getD c []).length i:Nat) (fB (ws.getD c []).length j:Nat):=fun k=>by rw[cy hw.ne,cy hw.ne];exact p k
   have q:=(h.rr c hc _ _).mp p'
   have q2:=Int.emod_eq_emod_iff_emod_sub_eq_zero.mpr q
   have q3:((fB (ws.getD c []).length i%r c:Nat):Int)=((fB (ws.getD c []).length j%r c:Nat):Int):=q2
   omega
  have es:lO (ws.getD c []) (fB (ws.getD c []).length i:Nat)=lO (ws.getD c []) (fB (ws.getD c []).length j:Nat):=by
   unfold lO
   rw[bU hw.ne,bU hw.ne,p0,cy hw.ne,cy hw.ne,pC hw.ne,pC hw.ne,show sq (ws.getD c []) i=sq (ws.getD c []) j from funext p, <-fh, <-fh,show sq (ws.getD c []) i=sq (ws.getD c []) j from funext p]
  have e:= @yM (ws.getD c []).length _ (r c) c _ _ (L c) (aC (rd (ws.getD c []) j)) Vq Jr (bE lw i) (bE lw j) HU uk
  unfold cG at this
  rw[es,fi,fi,s0,bU hw.ne,bU hw.ne,p0,e,decide_eq_decide.mpr (show fB (ws.getD c []).length i<fB (ws.getD c []).length j↔i%((ws.getD c []).length:Int)<j%((ws.getD c []).length:Int) by rw[<-cb lw, <-cb lw];omega)]at this
  unfold pO pI
  rw[p0]
  exact this
end
noncomputable def jT:Nat->(Int->Int->Int)->Int
 | 0,_=>0
 | n+1,h=>jT n h+sm n (fun j=>h j n)
theorem jC (n m:Nat) (h:Int->Int->Int):bS (n+1) m h=bS n m h+sm m (fun j=>h n j):=rfl
theorem lh (m:Nat) (h:Int->Int->Int): ∀n:Nat,bS n (m+1) h=bS n m h+sm n (fun i=>h i m)
 | 0=>rfl
 | n+1=>by
  rw[jC,jC,lh m h n]
  show bS n m h+sm n (fun i=>h i m)+(sm m (fun j=>h n j)+h n m)=bS n m h+sm m (fun j=>h n j)+(sm n (fun i=>h i m)+h n m)
  omega
theorem nZ {h:Int->Int->Int}: ∀{n:Nat},(∀i j:Nat,i<n->j<n->h i j=h j i)->(∀i:Nat,i<n->h i i=0)->bS n n h=2*jT n h
 | 0,_,_=>rfl
 | n+1,sy,dg=>by
  rw[lh,jC,nZ (n:=n) (fun i j hi hj=>sy i j (by omega) (by omega)) (fun i hi=>dg i (by omega))]
  show 2*jT n h+sm n (fun j=>h n j)+(sm n (fun i=>h i n)+h n n)=2*(jT n h+sm n (fun j=>h j n))
  rw[dg n (by omega),aM (h:=fun j=>h n j) (g:=fun j=>h j n) (fun j hj=>sy n j (by omega) (by omega))]
  omega
theorem mw {h g:Int->Int->Int}: ∀{n:Nat},(∀i j:Nat,i<j->j<n->h i j=g i j)->jT n h=jT n g
 | 0,_=>rfl
 | n+1,e=>by
  show jT n h+_=jT n g+_
  rw[mw (n:=n) fun i j h1 h2=>e i j h1 (by omega),aM (g:=fun j=>g j n) fun j hj=>e j n hj (by omega)]
theorem Ax (h g:Int->Int->Int): ∀n:Nat,jT n (fun i j=>h i j+g i j)=jT n h+jT n g
 | 0=>rfl
 | n+1=>by
  show jT n _+sm n _=(jT n h+sm n _)+(jT n g+sm n _)
  rw[Ax h g n,ml];omega
section
variable {y:List Nat} {ws:List (List Nat)} {L:Nat->Bool} {r:Nat->Nat} {M:Nat} {N:Nat->Nat->Nat->Nat}
theorem Lies.inj (h:eA y ws L r M) (hN:Lies y ws L r M N) {c i d j e e':Nat} (hc:c<ws.length) (hd:d<ws.length) (hi:i<(ws.getD c []).length) (hj:j<(ws.getD d []).length) (he:e=rd (ws.getD c []) i\/e=aF (rd (ws.getD c []) i)) (CL:e'=rd (ws.getD d []) j\/e'=aF (rd (ws.getD d []) j))
  (dv:(c,i,e)≠(d,j,e')):N c i e≠N d j e':=by
 have ly: ∀{c i e:Nat},c<ws.length->(e=rd (ws.getD c []) i\/e=aF (rd (ws.getD c []) i))->e∈y:=fun hc he=>he.elim (fun z=>z▸(h.sw _ hc).rd _) fun z=>z▸h.yd.cl _ ((h.sw _ hc).rd _)
 have ye:=ly hc he
 have Xo:=ly hd CL
 by_cases z:e=e'
 ·subst z
  have uk:(c,i)≠(d,j):=fun q=>dv (by rw[(Prod.mk.inj q).1,(Prod.mk.inj q).2])
  have le:=h.yd.lt _ ye
  have lc:=h.yd.lt _ ((h.sw c hc).rd i)
  have ld:=h.yd.lt _ ((h.sw d hd).rd j)
  by_cases l:aC e=true
  ·exact (hN.low c i d j e hc hd hi hj uk l (he.elim (fun z=> .inl z.symm) fun z=> .inr (by rw[z,aR lc])) (CL.elim (fun z=> .inl z.symm) fun z=> .inr (by rw[z,aR ld]))).1
  ·have:=(hN.low c i d j (aF e) hc hd hi hj uk (by rw[fP _ le.mem];simpa using l) (by rw[aR le];exact he.elim (fun z=> .inr z.symm) fun z=> .inl (by rw[z,aR lc])) (by rw[aR le];exact CL.elim (fun z=> .inr z.symm) fun z=> .inl (by rw[z,aR ld]))).2.1
   rwa [aR le]at this
 ·have n:=b5 ye Xo z
  rcases Qbn n with q | q
  ·exact ZH (hN.sep c i d j e e' hc hd hi hj he CL q)
  ·exact Qdk (hN.sep d j c i e' e hd hc hj hi CL he q)
theorem Ay {n i j:Nat} {k:Int} (hi:i<n) (hj:j<n) (q:fB n ((i:Int) - k)=fB n ((j:Int) - k)):i=j:=by
 have lw:0<n:=ZZ (Y6 _) hi
 have q2:((i:Int) - k)%n=((j:Int) - k)%n:=by rw[<-cb lw, <-cb lw,q]
 have q3:=(Int.emod_sub_cancel_right k).mp q2
 rw[ZP (Qc3 _) (Qbo.mpr hi),ZP (Qc3 _) (Qbo.mpr hj)]at q3
 exact Int.ofNat.inj q3
theorem eB (h:eA y ws L r M) (hN:Lies y ws L r M N) {c d i j:Nat} (hc:c<ws.length) (hd:d<ws.length) (hi:i<(ws.getD c []).length) (hj:j<(ws.getD d []).length):
  pI ws N c ((i:Int) - 1)≠pO ws N d j/\((c,i)≠(d,j)->pI ws N c ((i:Int) - 1)≠pI ws N d ((j:Int) - 1)/\pO ws N c i≠pO ws N d j):=by
 have hw:=h.sw c hc
 have hv:=h.sw d hd
 have lw:=U0.mpr hw.ne
 have lv:=U0.mpr hv.ne
 have vo: ∀{c:Nat} (hw:SW y (ws.getD c [])) (k:Int),rd (ws.getD c []) k=rd (ws.getD c []) (fB (ws.getD c []).length k:Nat)\/rd (ws.getD c []) k=aF (rd (ws.getD c []) (fB (ws.getD c []).length k:Nat)):=fun hw k=> .inl (bU hw.ne k).symm
 have vi: ∀{c:Nat} (hw:SW y (ws.getD c [])) (k:Int),aF (rd (ws.getD c []) k)=rd (ws.getD c []) (fB (ws.getD c []).length k:Nat)\/aF (rd (ws.getD c []) k)=aF (rd (ws.getD c []) (fB (ws.getD c []).length k:Nat)):=fun hw k=> .inr (by rw[bU hw.ne k])
 refine ⟨hN.inj h hc hd (bE lw _) (bE lv _) (vi hw _) (vo hv _) fun q=>?_,fun dv=>⟨hN.inj h hc hd (bE lw _) (bE lv _) (vi hw _) (vi hv _) fun q=>?_,hN.inj h hc hd (bE lw _) (bE lv _) (vo hw _) (vo hv _) fun q=>?_⟩⟩
 ·obtain ⟨q1,q⟩:=Prod.mk.inj q
  obtain ⟨q2,q3⟩:=Prod.mk.inj q
  subst q1
  rw[<-bU hw.ne ((i:Int) - 1), <-bU hw.ne (j:Int),q2]at q3
  exact hJ (h.yd.lt _ (hw.rd _)) q3
 ·obtain ⟨q1,q⟩:=Prod.mk.inj q
  subst q1
  exact dv (by rw[Ay hi hj (Prod.mk.inj q).1])
 ·obtain ⟨q1,q⟩:=Prod.mk.inj q
  subst q1
  exact dv (by rw[Ay (k:=0) hi hj (by rw[Qc0,Qc0];exact (Prod.mk.inj q).1)])
theorem Az (h:eA y ws L r M) (hN:Lies y ws L r M N) {c d:Nat} (hc:c<ws.length) (hd:d<ws.length) {i j:Nat} (hi:i<(ws.getD c []).length) (hj:j<(ws.getD d []).length):ie (pO ws N c) (pI ws N c) (pO ws N d) (pI ws N d) i j=ie (pO ws N d) (pI ws N d) (pO ws N c) (pI ws N c) j i:=by
 by_cases z:(c,i)=(d,j)
 ·obtain ⟨rfl,rfl⟩:=Prod.mk.inj z
  rfl
 have n:=eB h hN hc hd hi hj
 exact k_ (eB h hN hc hc hi hi).1 (eB h hN hd hd hj hj).1 (n.2 z).1 n.1 (Ne.symm (eB h hN hd hc hj hi).1) (n.2 z).2
theorem Ez (h:eA y ws L r M) (hN:Lies y ws L r M N) {c:Nat} (hc:c<ws.length):
  2*jT (ws.getD c []).length (fun i j=>one (ie (pO ws N c) (pI ws N c) (pO ws N c) (pI ws N c) i j=true))=bS (ws.getD c []).length (ws.getD c []).length (fc y (ws.getD c []) (ws.getD c []))+2*(((ws.getD c []).length / r c:Nat) - 1):=by
 rw[<-yN h hN hc]
 exact (nZ (fun i j hi hj=>by rw[Az h hN hc hc hi hj]) (fun i hi=>bo (by unfold ie;rw[wG];decide))).symm
end
theorem EA {y:List Nat} {f g:Int->Nat} {a:Nat} (hy:Yd y) (hf:iK y f) (hg:iK y g) (h:f a=g a) (hn:f (a+1)≠g (a+1)):jN y g f a=!jN y f g a:=by
 have:fG y f (a+1)≠fG y g (a+1):=fun q=>hn (by
  unfold fG at q
  rw[show (a:Int)+1 - 1=a by omega, <-h]at q
  exact kZ (hy.cl _ (hf.bR _)) (hf.bR _) (hg.bR _) q)
 unfold jN
 rw[<-decide_not]
 exact decide_eq_decide.mpr (by omega)
theorem yO {y:List Nat} {f g:Int->Nat} {b:Nat} (hy:Yd y) (hf:iK y f) (hg:iK y g) (h:f (-(b:Int))=g (-(b:Int))) (hn:f (-(b:Int) - 1)≠g (-(b:Int) - 1)):jS y g f b=!jS y f g b:=by
 have:fG y f (-(b:Int))≠fG y g (-(b:Int)):=fun q=>hn (by
  unfold fG at q
  rw[<-h]at q
  have r1:=hf.red (-(b:Int))
  have r2:=hg.red (-(b:Int))
  have c1:=(eO (hy.cl _ (hf.bR (-(b:Int) - 1))) (hf.bR (-(b:Int))) (Ne.symm r1)).2.2
  have c2:=(eO (hy.cl _ (hg.bR (-(b:Int) - 1))) (hf.bR (-(b:Int))) (by rw[h];exact Ne.symm r2)).2.2
  have:=kZ (hf.bR (-(b:Int))) (hy.cl _ (hf.bR (-(b:Int) - 1))) (hy.cl _ (hg.bR (-(b:Int) - 1))) (by rw[c1,c2,q])
  exact eV (hy.lt _ (hf.bR _)) (hy.lt _ (hg.bR _)) this)
 unfold jS
 rw[<-decide_not]
 exact decide_eq_decide.mpr (by omega)
theorem JF {y:List Nat} {f g:Int->Nat} (hy:Yd y) (hf:iK y f) (hg:iK y g):xv y f g->xv y g f:=fun ⟨a,r,x⟩=>⟨a,r.sy,by
 rw[EA hy hf hg (r.kY a (by omega) (by omega)) r.hi,yO hy hf hg (r.kY _ (by omega) (by omega)) r.lo]
 exact fun q=>x (by simpa using q)⟩
theorem Lu {y:List Nat} {a b p q:Nat} (hy:Yd y) (ha:a∈y) (hb:b∈y) (hp:p∈y) (hq:q∈y) (uZ:a≠b) (Qc:p≠q):ac y a b p q=ac y p q a b:=by
 unfold ac
 by_cases z:p=a\/p=b\/q=a\/q=b
 ·rw[if_pos z,if_pos (z.elim (fun z=> .inl z.symm) fun z=>z.elim (fun z=> .inr (.inr (.inl z.symm))) fun z=>z.elim (fun z=> .inr (.inl z.symm)) fun z=> .inr (.inr (.inr z.symm)))]
 ·have n1:a≠p:=fun q=>z (.inl q.symm)
  have n2:b≠p:=fun q=>z (.inr (.inl q.symm))
  have n3:a≠q:=fun q=>z (.inr (.inr (.inl q.symm)))
  have n4:b≠q:=fun q=>z (.inr (.inr (.inr q.symm)))
  rw[if_neg z,if_neg (fun z=>z.elim n1 fun z=>z.elim n3 fun z=>z.elim n2 n4)]
  rw[gC hy.nd ha hp hb n1 uZ (Ne.symm n2),gC hy.nd ha hq hb n3 uZ (Ne.symm n4),gC hy.nd hp ha hq (Ne.symm n1) Qc n3,gC hy.nd hp hb hq (Ne.symm n2) Qc n4]
  exact k_ (b5 ha hb uZ) (b5 hp hq Qc) (b5 ha hp n1) (b5 ha hq n3) (b5 hb hp n2) (b5 hb hq n4)
noncomputable def Gp (n m:Nat):List (Nat×Nat):=(List.range n).flatMap fun i=>(List.range m).map fun j=>(i,j)
theorem AA {n m:Nat} {x:Nat×Nat}:x∈Gp n m↔x.1<n/\x.2<m:=by
 unfold Gp
 rw[ZU]
 constructor
 ·rintro ⟨i,hi,h⟩
  obtain ⟨j,hj,rfl⟩:=ZN.mp h
  exact ⟨Qac.mp hi,Qac.mp hj⟩
 ·rintro ⟨h1,h2⟩
  exact ⟨x.1,Qac.mpr h1,ZN.mpr ⟨x.2,Qac.mpr h2,rfl⟩⟩
theorem Lv (n m:Nat):(Gp n m).Nodup:=by
 unfold Gp
 induction n with
 | zero=>exact List.Pairwise.nil
 | succ n ih=>
  rw[Qag,Z1,Qap]
  refine ⟨ih,?_,?_⟩
  ·rw[Qa2]
   exact List.Pairwise.map _ (fun a b h q=>h (Prod.mk.inj q).2) Qeb
  ·intro a ha b hb e
   obtain ⟨i,hi,h⟩:=ZU.mp ha
   obtain ⟨j,_,rfl⟩:=ZN.mp h
   rw[Qa2]at hb
   obtain ⟨k,_,rfl⟩:=ZN.mp hb
   have:=(Prod.mk.inj e).1
   have:=Qac.mp hi
   omega
theorem yP {Q:Int->Prop} {P:Nat->Bool}: ∀{m:Nat},(∀j:Nat,j<m->(Q j↔P j=true))->sm m (fun j=>one (Q j))=((List.range m).filter P).length
 | 0,_=>rfl
 | m+1,h=>by
  show sm m _+one (Q m)=_
  rw[yP (m:=m) fun j hj=>h j (by omega),Qag,Qaw,UY,bH (h m (by omega))]
  cases e:P m
  ·rw[ZR (by rw[e];decide),bo (by decide)];simp
  ·rw[Z4 e,gp rfl];simp
theorem uq {Q:Int->Int->Prop} {P:Nat×Nat->Bool} {m:Nat}: ∀{n:Nat},(∀i j:Nat,i<n->j<m->(Q i j↔P (i,j)=true))->bS n m (fun i j=>one (Q i j))=((Gp n m).filter P).length
 | 0,_=>rfl
 | n+1,h=>by
  rw[jC,uq (n:=n) fun i j hi hj=>h i j (by omega) hj]
  unfold Gp
  rw[Qag,Z1,Qaw,UY,Qa2,Qdp,UX,yP (P:=fun j=>P (n,j)) fun j hj=>h n j (by omega) hj]
  show _=(((_+_:Nat)):Int)
  rw[Z7]
  rfl
theorem EB {l:List (Nat×Nat)} (hl:l.Nodup) (t:Nat×Nat->Nat×Nat) (p q:Nat×Nat->Bool) (h1: ∀x∈l,p x=true->t x∈l/\p (t x)=true/\t (t x)=x/\q (t x)=!q x):(l.filter fun x=>p x&&q x).length=(l.filter fun x=>p x&&!q x).length:=by
 have le: ∀q:Nat×Nat->Bool,(∀x∈l,p x=true->t x∈l/\p (t x)=true/\t (t x)=x/\q (t x)=!q x)->(l.filter fun x=>p x&&q x).length<=(l.filter fun x=>p x&&!q x).length:=fun q h1=>by
  rw[<-UX t]
  refine List.Nodup.length_le_of_subset ?_ fun x hx=>?_
  ·have:(l.filter fun x=>p x&&q x).Nodup:=hl.filter _
   refine Qao.mpr (Qb7 (fun {a b} ha hb uZ z=>uZ ?_) this)
   obtain ⟨a1,a2⟩:=ZX.mp ha
   obtain ⟨b1,b2⟩:=ZX.mp hb
   rw[Z2]at a2 b2
   rw[<-(h1 a a1 a2.1).2.2.1, <-(h1 b b1 b2.1).2.2.1,z]
  ·obtain ⟨a,ha,rfl⟩:=ZN.mp hx
   obtain ⟨a1,a2⟩:=ZX.mp ha
   rw[Z2]at a2
   obtain ⟨g1,g2,_,g4⟩:=h1 a a1 a2.1
   exact ZX.mpr ⟨g1,by rw[g2,g4,a2.2];rfl⟩
 have l1:=le q h1
 have l2:=le (fun x=>!q x) fun x hx hp=>by
  obtain ⟨g1,g2,g3,g4⟩:=h1 x hx hp
  exact ⟨g1,g2,g3,by show (!q (t x))=!!q x;rw[g4]⟩
 have e:(l.filter fun x=>p x&&!!q x)=l.filter fun x=>p x&&q x:=Qc8 fun x _=>by rw[Bool.not_not]
 rw[e]at l2
 omega
section
variable {y w:List Nat}
theorem Lw {f g:Int->Nat} {a:Nat} (hy:Yd y) (hf:iK y f) (hg:iK y g) (h:Run f g a 0) (x:jN y f g a≠jS y f g 0):Run (fun k=>jz g (k - a)) (fun k=>jz f (k - a)) a 0/\jN y (fun k=>jz g (k - a)) (fun k=>jz f (k - a)) a≠jS y (fun k=>jz g (k - a)) (fun k=>jz f (k - a)) 0:=by
 have r:=(h.rv hy hf hg).sy
 refine ⟨⟨fun k h1 h2=>r.kY (k - a) (by omega) (by omega),fun q=>r.hi ?_,fun q=>r.lo ?_⟩,?_⟩
 ·simp only[show (a:Int)+1 - a=(0:Nat)+1 by omega]at q;exact q
 ·simp only[show -((0:Nat):Int) - 1 - a= -(a:Int) - 1 by omega]at q;exact q
 ·have sh: ∀(f:Int->Nat) (k:Int),fG y (fun k=>f (k - a)) k=fG y f (k - a):=fun f k=>by
   unfold fG
   simp only[show k - 1 - (a:Int)=k - a - 1 by omega]
  unfold jN jS at x ⊢
  rw[sh,sh,sh,sh,show (a:Int)+1 - a=0+1 by omega,show -((0:Nat):Int) - a=(-(a:Int) - 1)+1 by omega,i7 hy hf,i7 hy hg,i7 hy hf,i7 hy hg,show -(-(a:Int) - 1)=a+1 by omega]
  intro q
  refine x ?_
  rw[decide_eq_decide]at q ⊢
  rw[show -((0:Nat):Int)= -(0:Int) by omega]
  omega
theorem AB (hy:Yd y) (hw:SW y w) {i j:Int} {a:Nat}:al y (sq w i) (bq w j) (w.length+w.length)=a+1↔Run (sq w i) (bq w j) a 0/\jN y (sq w i) (bq w j) a≠jS y (sq w i) (bq w j) 0:=by
 have hd:=fun z=>gR (f:=sq w i) (g:=bq w j) hw.ne hw.ne (fun k=>cF w i k) (fun k=>mi w j k) z
 have key:=wF (n:=w.length+w.length) hy (bB hw i) (mm hy hw j) hd
 constructor
 ·intro e
  obtain ⟨a',r,x⟩:=key.mpr (by omega)
  have:=kT (y:=y) (f:=sq w i) (g:=bq w j) (n:=w.length+w.length) (by omega)
  have e2:a'=a:=by
   have z1:sq w i (-1)≠bq w j (-1):=r.lo
   obtain ⟨d1,d2⟩:=hd z1
   have d3:al y (sq w i) (bq w j) (w.length+w.length)=ff (sq w i) (bq w j) (w.length+w.length) 0:=by
    unfold al at e ⊢
    split at e
    ·omega
    ·rename_i z
     rw[if_neg z]
     split at e
     ·rename_i z2;rw[if_pos z2]
     ·omega
   have d4:ff (sq w i) (bq w j) (w.length+w.length) 0=a'+1:=by
    by_cases q:a'+1<w.length+w.length
    ·exact yB (fun k hk=>r.kY k (by omega) (by omega)) r.hi q
    ·exact absurd (r.kY (ff (sq w i) (bq w j) (w.length+w.length) 0:Nat) (by omega) (by omega)) d2
   omega
  subst e2
  exact ⟨r,x⟩
 ·rintro ⟨r,x⟩
  have h0:=key.mp ⟨a,r,x⟩
  obtain ⟨b,e⟩: ∃b,al y (sq w i) (bq w j) (w.length+w.length)=b+1:=⟨_,(Nat.succ_pred_eq_of_pos h0).symm⟩
  obtain ⟨d1,d2⟩:=hd r.lo
  have d3:al y (sq w i) (bq w j) (w.length+w.length)=ff (sq w i) (bq w j) (w.length+w.length) 0:=by
   unfold al at e ⊢
   split at e
   ·omega
   ·rename_i z
    rw[if_neg z]
    split at e
    ·rename_i z2;rw[if_pos z2]
    ·omega
  rw[d3]
  by_cases q:a+1<w.length+w.length
  ·exact yB (fun k hk=>r.kY k (by omega) (by omega)) r.hi q
  ·exact absurd (r.kY (ff (sq w i) (bq w j) (w.length+w.length) 0:Nat) (by omega) (by omega)) d2
theorem HV (hy:Yd y) (hw:SW y w) {i j:Int} {a:Nat} (h:al y (sq w i) (bq w j) (w.length+w.length)=a+1):al y (sq w (j - a)) (bq w (i+a)) (w.length+w.length)=a+1:=by
 obtain ⟨r,x⟩:=(AB hy hw).mp h
 obtain ⟨r2,x2⟩:=Lw hy (bB hw i) (mm hy hw j) r x
 have e1:(fun k=>jz (bq w j) (k - a))=sq w (j - a):=by
  rw[<-fh,rS hy (bB hw j)]
  funext k
  unfold sq
  congr 1;omega
 have e2:(fun k=>jz (sq w i) (k - a))=bq w (i+a):=by
  rw[fh]
  funext k
  unfold bq
  congr 2;omega
 rw[e1,e2]at r2 x2
 exact (AB hy hw).mpr ⟨r2,x2⟩
end
theorem EC {y:List Nat} {f g:Int->Nat} {n:Nat} (h:f (-1)=g (-1)):al y f g n=0:=by unfold al;rw[if_pos (.inr h)]
theorem m_ {α:Type} (p q:α->Bool): ∀l:List α,(l.filter p).length=(l.filter fun x=>p x&&q x).length+(l.filter fun x=>p x&&!q x).length
 | []=>rfl
 | a::l=>by
  have ih:=m_ p q l
  simp only[List.filter_cons]
  cases p a<;>cases q a<;>simp<;>omega
theorem ED (h:Int->Int->Int): ∀n:Nat,bS n n (fun i j=>if i<j then h i j else 0)=jT n h
 | 0=>rfl
 | n+1=>by
  rw[lh,jC,ED h n]
  show jT n h+sm n (fun j=>if (n:Int)<j then h n j else 0)+(sm n (fun i=>if i<(n:Int) then h i n else 0)+(if (n:Int)<n then h n n else 0))=jT n h+sm n (fun j=>h j n)
  rw[if_neg (by omega),aM (g:=fun _=>0) (fun j hj=>if_neg (by omega)),cW,aM (h:=fun i=>if i<(n:Int) then h i n else 0) (g:=fun j=>h j n) (fun j hj=>if_pos (by omega))]
  omega
section
variable {y w:List Nat}
noncomputable def du (y w:List Nat) (x:Nat×Nat):Nat×Nat:=(fB w.length ((x.2:Int) - cX y w w x.1 x.2+1),fB w.length ((x.1:Int)+cX y w w x.1 x.2 - 1))
theorem HW (hy:Yd y) (hw:SW y w):bS w.length w.length (fun i j=>one (0<al y (sq w i) (bq w j) (w.length+w.length)))=2*(((Gp w.length w.length).filter fun x=>decide (0<cX y w w x.1 x.2)&&!eG w x.1 x.2 (cX y w w x.1 x.2)).length:Int):=by
 have lw:=U0.mpr hw.ne
 have e1:bS w.length w.length (fun i j=>one (0<al y (sq w i) (bq w j) (w.length+w.length)))=((Gp w.length w.length).filter fun x=>decide (0<cX y w w x.1 x.2)).length:=
  uq (P:=fun x=>decide (0<cX y w w x.1 x.2)) fun i j _ _=>by rw[decide_eq_true_iff];rfl
 have e2:=m_ (fun x=>decide (0<cX y w w x.1 x.2)) (fun x=>eG w x.1 x.2 (cX y w w x.1 x.2)) (Gp w.length w.length)
 have e3:=EB (Lv w.length w.length) (du y w) (fun x=>decide (0<cX y w w x.1 x.2)) (fun x=>eG w x.1 x.2 (cX y w w x.1 x.2)) (fun x hx hp=>by
  obtain ⟨hi,hj⟩:=AA.mp hx
  have hm:=of_decide_eq_true hp
  obtain ⟨a,ha⟩: ∃a,cX y w w x.1 x.2=a+1:=⟨_,(Nat.succ_pred_eq_of_pos hm).symm⟩
  have et:du y w x=(fB w.length ((x.2:Int) - a),fB w.length ((x.1:Int)+a)):=by
   unfold du
   rw[ha,show (x.2:Int) - ((a+1:Nat):Int)+1=x.2 - a by omega,show (x.1:Int)+((a+1:Nat):Int) - 1=x.1+a by omega]
  have em:cX y w w (du y w x).1 (du y w x).2=a+1:=by
   rw[et]
   show al y (sq w (fB w.length ((x.2:Int) - a):Nat)) (bq w (fB w.length ((x.1:Int)+a):Nat)) (w.length+w.length)=a+1
   rw[cy hw.ne,pC hw.ne]
   exact HV hy hw ha
  have m0: ∀{i:Nat},i<w.length->(i:Int)%w.length=i:=fun {i} hi=>ZP (by omega) (by omega)
  have c1:(((fB w.length ((x.1:Int)+a):Nat):Int) - a)%w.length=x.1:=by
   rw[cb lw,Qc1,Qbw _ (Qd9 _), <-Qc1,show (x.1:Int)+a - a=x.1 by omega,m0 hi]
  have c2:(((fB w.length ((x.2:Int) - a):Nat):Int)+a)%w.length=x.2:=by
   rw[cb lw,Qcl,show (x.2:Int) - a+a=x.2 by omega,m0 hj]
  have Xp:du y w (du y w x)=x:=by
   have:du y w (du y w x)=(fB w.length (((du y w x).2:Int) - a),fB w.length (((du y w x).1:Int)+a)):=by
    unfold du at em ⊢
    simp only at em ⊢
    rw[em,show ∀z:Int,z - ((a+1:Nat):Int)+1=z - a from fun z=>by omega,show ∀z:Int,z+((a+1:Nat):Int) - 1=z+a from fun z=>by omega]
   rw[this,et]
   refine Prod.ext ?_ ?_
   ·show fB w.length (((fB w.length ((x.1:Int)+a):Nat):Int) - a)=x.1
    have:=cb lw (((fB w.length ((x.1:Int)+a):Nat):Int) - a)
    rw[c1]at this;omega
   ·show fB w.length (((fB w.length ((x.2:Int) - a):Nat):Int)+a)=x.2
    have:=cb lw (((fB w.length ((x.2:Int) - a):Nat):Int)+a)
    rw[c2]at this;omega
  refine ⟨?_,decide_eq_true (by rw[em];omega),Xp,?_⟩
  ·rw[et];exact AA.mpr ⟨bE lw ((x.2:Int) - a),bE lw ((x.1:Int)+a)⟩
  ·show eG w (du y w x).1 (du y w x).2 (cX y w w (du y w x).1 (du y w x).2)=!eG w x.1 x.2 (cX y w w x.1 x.2)
   rw[em,ha,et]
   unfold eG
   simp only
   rw[show ∀z:Int,z - ((a+1:Nat):Int)+1=z - a from fun z=>by omega,show ∀z:Int,z - ((a+1:Nat):Int)+1=z - a from fun z=>by omega,show ∀z:Int,z+((a+1:Nat):Int) - 1=z+a from fun z=>by omega,show ∀z:Int,z+((a+1:Nat):Int) - 1=z+a from fun z=>by omega,c1,c2,cb lw,cb lw]
   refine v_ fun q=>Ac (i:=x.1) (j:=x.2) hy hw hm ?_
   have q1:=q.1
   show ((x.2:Int) - (cX y w w x.1 x.2:Nat)+1)%w.length=x.1
   rw[ha,show (x.2:Int) - ((a+1:Nat):Int)+1=x.2 - a by omega]
   exact q1)
 rw[e1]
 omega
end
section
variable {y:List Nat} {ws:List (List Nat)}
theorem wL (y w v:List Nat) (c i d j:Nat):((t6 y w v c i d j).length:Int)=one (Hy y w v i j=true)+one (0<u5 y w v i j):=by
 unfold t6
 rw[UY]
 by_cases p:Hy y w v i j=true<;>by_cases q:0<u5 y w v i j<;>simp only[p,q,if_true,if_false,gp,bo,ZQ,Qei,not_false_eq_true]<;>simp[one]
theorem AD (y w v:List Nat) (c i d j:Nat):((Jx y w v c i d j).length:Int)=one (0<cX y w v i j/\ ¬(c=d/\eG w i j (cX y w v i j)=true)):=by
 unfold Jx
 by_cases z:cX y w v i j=0\/(c=d/\eG w i j (cX y w v i j)=true)
 ·rw[if_pos z,bo (fun q=>z.elim (fun z=>by omega) q.2)];rfl
 ·rw[if_neg z,gp ⟨Qcc fun q=>z (.inl q),fun q=>z (.inr q)⟩];rfl
theorem AE {c d i j:Nat} (h:c<d):((gn y ws (c,i) (d,j)).length:Int)=fc y (ws.getD c []) (ws.getD d []) i j:=by
 unfold gn
 have l:iZ (c:Int) i d j=true:=by unfold iZ;rw[if_neg (by omega)];exact decide_eq_true (by omega)
 rw[if_pos l,if_pos (Z5 h),UY,Z7,wL,AD]
 have e:one (0<cX y (ws.getD c []) (ws.getD d []) i j/\ ¬(c=d/\eG (ws.getD c []) i j (cX y (ws.getD c []) (ws.getD d []) i j)=true))=one (0<al y (sq (ws.getD c []) i) (bq (ws.getD d []) j) ((ws.getD c []).length+(ws.getD d []).length)):=bH ⟨fun q=>q.1,fun q=>⟨q,fun z=>by omega⟩⟩
 unfold fc
 rw[<-e]
 rfl
theorem EE {c d i j:Nat} (h:d<c):((gn y ws (c,i) (d,j)).length:Int)=0:=by
 unfold gn
 have l: ¬iZ (c:Int) i d j=true:=by unfold iZ;rw[if_neg (by omega),decide_eq_true_iff];omega
 rw[if_neg l,if_neg (by simp;omega)]
 rfl
theorem EF {c i j:Nat}:((gn y ws (c,i) (c,j)).length:Int)=(if (i:Int)<j then one (Hy y (ws.getD c []) (ws.getD c []) i j=true)+one (0<u5 y (ws.getD c []) (ws.getD c []) i j) else 0)+one (0<cX y (ws.getD c []) (ws.getD c []) i j/\ ¬eG (ws.getD c []) i j (cX y (ws.getD c []) (ws.getD c []) i j)=true):=by
 unfold gn
 have l:iZ (c:Int) i c j=decide ((i:Int)<j):=by unfold iZ;rw[if_pos rfl]
 simp only
 rw[if_pos (Q3 c),UY,Z7,AD,l]
 congr 1
 ·by_cases z:(i:Int)<j
  ·rw[if_pos (decide_eq_true z),if_pos z,wL]
  ·rw[if_neg (by simpa using z),if_neg z];rfl
 ·exact bH ⟨fun q=>⟨q.1,fun z=>q.2 ⟨rfl,z⟩⟩,fun q=>⟨q.1,fun z=>q.2 z.2⟩⟩
theorem B_ {c:Nat} (hy:Yd y) (hw:SW y (ws.getD c [])):2*bS (ws.getD c []).length (ws.getD c []).length (fun i j=>((gn y ws (c,i.toNat) (c,j.toNat)).length:Int))=bS (ws.getD c []).length (ws.getD c []).length (fc y (ws.getD c []) (ws.getD c [])):=by
 generalize hg:ws.getD c []=w at*
 have e1:bS w.length w.length (fun i j=>((gn y ws (c,i.toNat) (c,j.toNat)).length:Int))=bS w.length w.length (fun i j=>(if i<j then one (ac y (aF (rd w (i - 1))) (rd w i) (aF (rd w (j - 1))) (rd w j)=true)+one (0<al y (sq w i) (sq w j) (w.length+w.length)) else 0)+one (0<cX y w w i.toNat j.toNat/\ ¬eG w i.toNat j.toNat (cX y w w i.toNat j.toNat)=true)):=bX fun i j _ _=>by
  rw[WB,WB,EF,hg]
  rfl
 have e2:bS w.length w.length (fun i j=>one (0<cX y w w i.toNat j.toNat/\ ¬eG w i.toNat j.toNat (cX y w w i.toNat j.toNat)=true))=((Gp w.length w.length).filter fun x=>decide (0<cX y w w x.1 x.2)&&!eG w x.1 x.2 (cX y w w x.1 x.2)).length:=
  uq (Q:=fun i j=>0<cX y w w i.toNat j.toNat/\ ¬eG w i.toNat j.toNat (cX y w w i.toNat j.toNat)=true) (P:=fun x=>decide (0<cX y w w x.1 x.2)&&!eG w x.1 x.2 (cX y w w x.1 x.2)) fun i j _ _=>by
   rw[WB,WB,Z2,decide_eq_true_iff]
   simp
 have e3:=HW hy hw
 have ty: ∀k,aF (rd w (k - 1))≠rd w k:=fun k=>Ne.symm (hw.red k)
 have t1:=nZ (n:=w.length) (h:=fun i j=>one (ac y (aF (rd w (i - 1))) (rd w i) (aF (rd w (j - 1))) (rd w j)=true)) (fun i j _ _=>by
  rw[Lu hy (hy.cl _ (hw.rd _)) (hw.rd _) (hy.cl _ (hw.rd _)) (hw.rd _) (ty _) (ty _)]) (fun i _=>bo (by unfold ac;rw[if_pos (.inl rfl)];decide))
 have t2:=nZ (n:=w.length) (h:=fun i j=>one (0<al y (sq w i) (sq w j) (w.length+w.length))) (fun i j _ _=>by
  have hd:=fun (i j:Int) z=>gR (f:=sq w i) (g:=sq w j) hw.ne hw.ne (fun k=>cF w i k) (fun k=>cF w j k) z
  have k1:=wF hy (bB hw i) (bB hw j) (hd i j)
  have k2:=wF hy (bB hw j) (bB hw i) (hd j i)
  exact bH ⟨fun q=>k2.mp (JF hy (bB hw i) (bB hw j) (k1.mpr q)),fun q=>k1.mp (JF hy (bB hw j) (bB hw i) (k2.mpr q))⟩) (fun i _=>bo (by rw[EC rfl];exact kb _))
 rw[e1,dh,ED (fun i j=>one (ac y (aF (rd w (i - 1))) (rd w i) (aF (rd w (j - 1))) (rd w j)=true)+one (0<al y (sq w i) (sq w j) (w.length+w.length))),Ax,e2]
 have e4:bS w.length w.length (fc y w w)=bS w.length w.length (fun i j=>one (ac y (aF (rd w (i - 1))) (rd w i) (aF (rd w (j - 1))) (rd w j)=true))+bS w.length w.length (fun i j=>one (0<al y (sq w i) (sq w j) (w.length+w.length)))+bS w.length w.length (fun i j=>one (0<al y (sq w i) (bq w j) (w.length+w.length))):=by
  rw[<-dh, <-dh];rfl
 omega
end
theorem ur (n:Nat) (h:Int->Int->Int): ∀m:Nat,sm n (fun i=>sm m fun j=>h i j)=sm m fun j=>sm n fun i=>h i j
 | 0=>cW n
 | m+1=>by
  show bS n (m+1) h=sm m (fun j=>sm n fun i=>h i j)+sm n (fun i=>h i m)
  rw[lh, <-ur n h m]
  rfl
theorem i_ {α β:Type} (F:α->List β): ∀l:List α,((l.flatMap F).length:Int)=(l.map fun x=>((F x).length:Int)).sum
 | []=>rfl
 | a::l=>by
  rw[ZT,UY,Z7,i_ F l,ZJ,Qbd]
theorem eQ (h:Nat->Int): ∀n:Nat,((List.range n).map h).sum=sm n (fun i=>h i.toNat)
 | 0=>rfl
 | n+1=>by
  rw[Qag,WC,Qdo,eQ h n]
  show _=sm n _+h (((n:Nat):Int).toNat)
  rw[WB]
  simp
theorem n5 (ws:List (List Nat)) (h:Nat×Nat->Int): ∀n:Nat,((o9 ws n).map h).sum=sm n fun c=>sm (ws.getD c.toNat []).length fun i=>h (c.toNat,i.toNat)
 | 0=>rfl
 | n+1=>by
  unfold o9
  rw[WC,Qdo,n5 ws h n,Qaf]
  show _+((List.range _).map fun i=>h (n,i)).sum=_
  rw[eQ]
  rfl
noncomputable def cl {α:Type} (p:α->α->Bool):List α->Nat
 | []=>0
 | x::r=>(r.filter (p x)).length+cl p r
theorem uu {α:Type} (p:α->α->Bool) (m:List α): ∀l:List α,(cl p (l++m):Int)=cl p l+cl p m+(l.map fun x=>((m.filter (p x)).length:Int)).sum
 | []=>by show (cl p m:Int)=((0:Nat):Int)+cl p m+0;omega
 | a::l=>by
  show ((((l++m).filter (p a)).length+cl p (l++m):Nat):Int)=(((l.filter (p a)).length+cl p l:Nat):Int)+cl p m+(((a::l).map fun x=>((m.filter (p x)).length:Int)).sum)
  rw[Qaw,UY,ZJ,Qbd,Z7,Z7,uu p m l,Z7]
  omega
theorem EG (p:Nat×Nat->Nat×Nat->Bool) (c:Nat): ∀n:Nat,(cl p ((List.range n).map fun i=>(c,i)):Int)=jT n (fun i j=>one (p (c,i.toNat) (c,j.toNat)=true))
 | 0=>rfl
 | n+1=>by
  rw[Qag,WC,uu,EG p c n,Qaf]
  show _+((0:Nat):Int)+((List.range n).map fun i=>((([(c,n)]:List (Nat×Nat)).filter (p (c,i))).length:Int)).sum=jT n _+sm n _
  rw[eQ,Int.add_assoc]
  congr 1
  rw[show ((0:Nat):Int)=0 from rfl,Qa7]
  refine aM fun i _=>?_
  show (((([(c,n)]:List (Nat×Nat)).filter (p (c,i))).length:Int))=one (p (c,((i:Nat):Int).toNat) (c,((n:Nat):Int).toNat)=true)
  rw[WB,WB]
  cases e:p (c,i) (c,n)
  ·rw[ZR (by rw[e];decide),bo (by decide)];rfl
  ·rw[Z4 e,gp rfl];rfl
theorem AF (P:Nat×Nat->Bool) (c n:Nat):((((List.range n).map fun i=>(c,i)).filter P).length:Int)=sm n (fun j=>one (P (c,j.toNat)=true)):=by
 rw[Qdp,UX,yP (P:=fun j=>P (c,j)) fun j _=>by rw[WB]]
 rfl
theorem EH (ws:List (List Nat)) (p:Nat×Nat->Nat×Nat->Bool): ∀n:Nat,(cl p (o9 ws n):Int)=sm n (fun c=>jT (ws.getD c.toNat []).length (fun i j=>one (p (c.toNat,i.toNat) (c.toNat,j.toNat)=true)))+jT n (fun c d=>bS (ws.getD c.toNat []).length (ws.getD d.toNat []).length fun i j=>one (p (c.toNat,i.toNat) (d.toNat,j.toNat)=true))
 | 0=>rfl
 | n+1=>by
  unfold o9
  rw[uu,EH ws p n,EG,n5]
  have u:((n:Nat):Int).toNat=n:=WB n
  show _+_+sm n _=(sm n _+jT (ws.getD ((n:Nat):Int).toNat []).length (fun i j=>one (p (((n:Nat):Int).toNat,i.toNat) (((n:Nat):Int).toNat,j.toNat)=true)))+(jT n _+sm n (fun c=>bS (ws.getD c.toNat []).length (ws.getD ((n:Nat):Int).toNat []).length fun i j=>one (p (c.toNat,i.toNat) (((n:Nat):Int).toNat,j.toNat)=true)))
  rw[u]
  have:sm n (fun c=>sm (ws.getD c.toNat []).length fun i=>(((((List.range (ws.getD n []).length).map fun i=>(n,i)).filter (p (c.toNat,i.toNat))).length:Nat):Int))=sm n (fun c=>bS (ws.getD c.toNat []).length (ws.getD n []).length fun i j=>one (p (c.toNat,i.toNat) (n,j.toNat)=true)):=aM fun c _=>aM fun i _=>AF _ _ _
  rw[this]
  omega
theorem EI {h:Int->Int->Int}: ∀{n:Nat},(∀i j:Nat,j<i->i<n->h i j=0)->bS n n h=sm n (fun i=>h i i)+jT n h
 | 0,_=>rfl
 | n+1,z=>by
  rw[lh,jC,EI (n:=n) fun i j h1 h2=>z i j h1 (by omega),aM (h:=fun j=>h n j) (g:=fun _=>0) (fun j hj=>z n j hj (by omega)),cW]
  show _+0+(sm n (fun i=>h i n)+h n n)=(sm n (fun i=>h i i)+h n n)+(jT n h+sm n (fun j=>h j n))
  omega
theorem EJ (y:List Nat) (ws:List (List Nat)):((jM y ws).length:Int)=sm ws.length (fun c=>bS (ws.getD c.toNat []).length (ws.getD c.toNat []).length fun i j=>((gn y ws (c.toNat,i.toNat) (c.toNat,j.toNat)).length:Int))+jT ws.length (fun c d=>bS (ws.getD c.toNat []).length (ws.getD d.toNat []).length fun i j=>((gn y ws (c.toNat,i.toNat) (d.toNat,j.toNat)).length:Int)):=by
 unfold jM places
 rw[i_]
 have e:((o9 ws ws.length).map fun o=>(((o9 ws ws.length).flatMap fun p=>gn y ws o p).length:Int))=(o9 ws ws.length).map fun o=>sm ws.length fun d=>sm (ws.getD d.toNat []).length fun j=>((gn y ws o (d.toNat,j.toNat)).length:Int):=Qb5 fun o _=>by rw[i_,n5]
 rw[e,n5]
 have e2:sm ws.length (fun c=>sm (ws.getD c.toNat []).length fun i=>sm ws.length fun d=>sm (ws.getD d.toNat []).length fun j=>((gn y ws (c.toNat,i.toNat) (d.toNat,j.toNat)).length:Int))=bS ws.length ws.length (fun c d=>bS (ws.getD c.toNat []).length (ws.getD d.toNat []).length fun i j=>((gn y ws (c.toNat,i.toNat) (d.toNat,j.toNat)).length:Int)):=aM fun c _=>ur _ _ _
 rw[e2,EI]
 intro c d Xq _
 rw[WB,WB]
 have: ∀n m:Nat,bS n m (fun _ _=>0)=0:=fun n m=>by unfold bS;rw[show (fun _:Int=>sm m fun _=>0)=fun _=>0 from funext fun _=>cW _,cW]
 rw[<-this (ws.getD c []).length (ws.getD d []).length]
 exact bX fun i j _ _=>EE Xq
section
variable {y:List Nat} {ws:List (List Nat)} {L:Nat->Bool} {r:Nat->Nat} {M:Nat} {N:Nat->Nat->Nat->Nat}
noncomputable def EK (ws:List (List Nat)) (N:Nat->Nat->Nat->Nat) (o p:Nat×Nat):Bool:=ie (pO ws N o.1) (pI ws N o.1) (pO ws N p.1) (pI ws N p.1) o.2 p.2
theorem yQ (h:eA y ws L r M) (hN:Lies y ws L r M N):(cl (EK ws N) (places ws):Int)=(jM y ws).length+sm ws.length (fun c=>(((ws.getD c.toNat []).length / r c.toNat:Nat):Int) - 1):=by
 unfold places
 rw[EH,EJ]
 have e1:sm ws.length (fun c=>jT (ws.getD c.toNat []).length (fun i j=>one (EK ws N (c.toNat,i.toNat) (c.toNat,j.toNat)=true)))=sm ws.length (fun c=>bS (ws.getD c.toNat []).length (ws.getD c.toNat []).length fun i j=>((gn y ws (c.toNat,i.toNat) (c.toNat,j.toNat)).length:Int))+sm ws.length (fun c=>(((ws.getD c.toNat []).length / r c.toNat:Nat):Int) - 1):=by
  rw[<-ml]
  refine aM fun c hc=>?_
  rw[WB]
  have a:=Ez h hN hc
  have b:=B_ (c:=c) h.yd (h.sw c hc)
  have e:jT (ws.getD c []).length (fun i j=>one (EK ws N (c,i.toNat) (c,j.toNat)=true))=jT (ws.getD c []).length (fun i j=>one (ie (pO ws N c) (pI ws N c) (pO ws N c) (pI ws N c) i j=true)):=mw fun i j _ _=>by
   unfold EK
   rw[WB,WB]
  rw[e]
  omega
 have e2:jT ws.length (fun c d=>bS (ws.getD c.toNat []).length (ws.getD d.toNat []).length fun i j=>one (EK ws N (c.toNat,i.toNat) (d.toNat,j.toNat)=true))=jT ws.length (fun c d=>bS (ws.getD c.toNat []).length (ws.getD d.toNat []).length fun i j=>((gn y ws (c.toNat,i.toNat) (d.toNat,j.toNat)).length:Int)):=mw fun c d lL hd=>by
  rw[WB,WB]
  have b:=jB h hN (c:=c) (d:=d) (by omega) hd (by omega)
  have e3:bS (ws.getD c []).length (ws.getD d []).length (fun i j=>one (EK ws N (c,i.toNat) (d,j.toNat)=true))=bS (ws.getD c []).length (ws.getD d []).length (fun i j=>one (ie (pO ws N c) (pI ws N c) (pO ws N d) (pI ws N d) i j=true)):=bX fun i j _ _=>by
   unfold EK
   rw[WB,WB]
  rw[e3,b]
  exact (bX fun i j _ _=>by rw[WB,WB];exact AE lL).symm
 rw[e1,e2]
 omega
end
def Lx (f g:Int->Nat):Prop:= ∃m:Nat,f m<g m/\ ∀l:Nat,l<m->f l=g l
theorem uv {w:List Nat} (hw:w≠[]) {i k:Nat} (hi:i<=w.length) (hk:k<w.length):(gZ w i)[k]? =some (rd w ((i:Int)+k)):=by
 rw[nV hi hk]
 unfold Fw
 have:=eM hw ((i:Int)+k)
 rw[<-this]
 congr 1
 have e:(((k+i)%w.length:Nat):Int)=((i:Int)+k)%w.length:=by rw[Qcq,Z7,Int.add_comm]
 omega
theorem EL {w u:List Nat} (hw:w≠[]) (hl:u.length=w.length) {i j:Nat} (hi:i<=w.length) (hj:j<=w.length):gZ w i<gZ u j↔Lx (sq w i) (sq u j):=by
 have hu:u≠[]:=fun z=>hw (by rw[z]at hl;exact Qa0.mp hl.symm)
 have g1: ∀{k:Nat} (hk:k<(gZ w i).length),(gZ w i)[k]=sq w i k:=fun {k} hk=>by
  have:=uv hw hi (k:=k) (by rw[cE]at hk;exact hk)
  rw[Kw hk]at this
  exact ZG this
 have g2: ∀{k:Nat} (hk:k<(gZ u j).length),(gZ u j)[k]=sq u j k:=fun {k} hk=>by
  have:=uv hu (i:=j) (k:=k) (by omega) (by rw[cE]at hk;exact hk)
  rw[Kw hk]at this
  exact ZG this
 rw[List.lt_iff_exists]
 constructor
 ·rintro (⟨_,h⟩ | ⟨m,h1,h2,h3,h4⟩)
  ·rw[cE,cE,hl]at h;omega
  ·refine ⟨m,by rw[<-g1 h1, <-g2 h2];exact h4,fun l zG=>?_⟩
   rw[<-g1 (by omega), <-g2 (by omega)]
   exact h3 l zG
 ·rintro ⟨m,h1,h2⟩
  have hp:=U0.mpr hw
  have hm:m<w.length:=by
   refine Classical.byContradiction fun z=>?_
   have d:=Qdn m w.length
   have c1:=hZ (f:=sq w i) (p:=w.length) (fun k=>cF w i k) (m%w.length:Nat) (m / w.length)
   have c2:=hZ (f:=sq u j) (p:=w.length) (fun k=>by rw[<-hl];exact cF u j k) (m%w.length:Nat) (m / w.length)
   have e:((m%w.length:Nat):Int)+((m / w.length:Nat):Int)*(w.length:Nat)=m:=by
    rw[Int.mul_comm];exact_mod_cast d
   rw[e]at c1 c2
   rw[c1,c2,h2 (m%w.length) (by have:=Qcd m hp;omega)]at h1
   omega
  refine .inr ⟨m,by rw[cE];exact hm,by rw[cE,hl];exact hm,fun l zG=>?_,?_⟩
  ·rw[g1,g2];exact h2 l zG
  ·rw[g1,g2];exact h1
theorem lj {w:List Nat} (hw:w≠[]): ∃i:Nat,i<w.length/\fF w=gZ w i:=by
 have hp:=U0.mpr hw
 rcases kf (kR w (w.length - 1)) w with h | h
 ·exact ⟨0,hp,by unfold fF;rw[h,vX]⟩
 ·unfold kR at h
  obtain ⟨k,hk,e⟩:=ZN.mp h
  have:=Qac.mp hk
  exact ⟨k+1,by omega,by unfold fF;exact e.symm⟩
theorem nc {w:List Nat} {i:Nat} (hi:i<w.length): ¬gZ w i<fF w:=by
 unfold fF
 refine kg _ _ _ ?_
 cases i with
 | zero=>rw[vX];exact Zy
 | succ i=>exact Y4 _ (ZN.mpr ⟨i,Qac.mpr (by omega),rfl⟩)
noncomputable def leads (w:List Nat):Bool:=decide (fF w<fF (gK w))
theorem jD {v:List Nat} (h:v≠[]) (k:Int):sq (gK v) k=bq v (-1 - k):=by
 funext x
 unfold sq bq
 rw[mj h]
 congr 2;omega
theorem pE {v:List Nat} (h:v≠[]):gK v≠[]:=fun z=>h (Qa0.mp (by rw[<-ck v,z];rfl))
theorem rT {w:List Nat} (hw:w≠[]):leads w=true↔ ∃i:Int, ∀j:Int,Lx (sq w i) (bq w j):=by
 have hp:=U0.mpr hw
 have hl:=ck w
 have ht:=pE hw
 unfold leads
 rw[decide_eq_true_iff]
 constructor
 ·intro h
  obtain ⟨i,hi,ei⟩:=lj hw
  refine ⟨i,fun j=>?_⟩
  have hj:=bE (n:=(gK w).length) (by rw[hl];exact hp) (-1 - j)
  have h2:fF w<gZ (gK w) (fB (gK w).length (-1 - j)):=List.not_le.mp fun z=>by
   have:=List.lt_of_le_of_lt z h
   exact nc hj this
  rw[ei]at h2
  have h3:=(EL hw hl (by omega) (by omega)).mp h2
  rw[cy ht,jD hw,show -1 - (-1 - j)=j by omega]at h3
  exact h3
 ·rintro ⟨i,h⟩
  obtain ⟨j,hj,ej⟩:=lj ht
  have h2:=h (-1 - j)
  rw[show (-1:Int) - (j:Int)= -1 - j by omega, <-jD hw, <-cy hw]at h2
  have hi:=bE hp i
  have h3:=(EL hw hl (by omega) (by omega)).mpr h2
  rw[<-ej]at h3
  exact List.lt_of_le_of_lt (List.not_lt.mp (nc hi)) h3
theorem rV {w v:List Nat} (hw:w≠[]) (hv:v≠[]) {i j:Int} (h:cx w v i j):leads w=leads v:=by
 have e1: ∀k,sq w k=sq v (k - i+j):=fun k=>by
  funext x
  have:=h (k - i+x)
  unfold sq at this ⊢
  rw[show k+x=i+(k - i+x) by omega,this]
  congr 1;omega
 have e2: ∀k,bq w k=bq v (k - i+j):=fun k=>by rw[<-fh, <-fh,e1]
 rw[Qcb,rT hw,rT hv]
 constructor
 ·rintro ⟨a,h⟩
  refine ⟨a - i+j,fun b=>?_⟩
  have:=h (b - j+i)
  rwa [e1,e2,show b - j+i - i+j=b by omega]at this
 ·rintro ⟨a,h⟩
  refine ⟨a - j+i,fun b=>?_⟩
  rw[e1,e2,show a - j+i - i+j=a by omega]
  exact h _
theorem rW {y w:List Nat} (hy:Yd y) (hw:SW y w):leads (gK w)=!leads w:=by
 have hl:AllLt w:=fun c hc=>hy.lt c (hw.bR c hc)
 have ne:fF w≠fF (gK w):=fun z=>by
  obtain ⟨i,hi,ei⟩:=lj hw.ne
  obtain ⟨j,hj,ej⟩:=lj (pE hw.ne)
  rw[ck]at hj
  have: ∀k:Nat,k<w.length->sq w i k=sq (gK w) j k:=fun k hk=>by
   have h1:=uv hw.ne (i:=i) (k:=k) (by omega) hk
   have h2:=uv (pE hw.ne) (i:=j) (k:=k) (by rw[ck];omega) (by rw[ck];exact hk)
   rw[<-ei,z,ej,h2]at h1
   exact (ZG h1).symm
  refine ug hy hw i (-1 - j) ?_
  rw[<-jD hw.ne]
  have hp:=U0.mpr hw.ne
  refine fw (p:=w.length) (q:=w.length) hp hp (fun k=>cF w i k) (fun k=>by rw[<-ck w];exact cF (gK w) j k) fun n hn=>?_
  by_cases q:n<w.length
  ·exact this n q
  ·have c1:=cF w i ((n - w.length:Nat):Int)
   have c2:=cF (gK w) j ((n - w.length:Nat):Int)
   rw[show ((n - w.length:Nat):Int)+w.length=n by omega]at c1
   rw[ck,show ((n - w.length:Nat):Int)+w.length=n by omega]at c2
   rw[c1,c2]
   exact this _ (by omega)
 unfold leads
 rw[Hq hl, <-decide_not]
 refine decide_eq_decide.mpr ⟨fun h z=>?_,fun h=>?_⟩
 ·exact Qci _ (List.lt_trans h z)
 ·exact List.not_le.mp fun z=>ne (List.le_antisymm z (List.not_lt.mp h))
theorem Ca {y w v:List Nat} (hy:Yd y) (hw:SW y w) (hv:SW y v) {i j:Int} (h: ∀k,sq w i k=bq v j k):leads v=!leads w:=by
 have:cx w (gK v) i (-1 - j):=fun k=>by rw[jD hv.ne,show -1 - (-1 - j)=j by omega];exact h k
 rw[rV hw.ne (pE hv.ne) this,rW hy hv,Bool.not_not]
theorem EM {w:List Nat} (hw:w≠[]) {d:Nat}:xr w d↔ ∀k:Int,rd w (k+d)=rd w k:=by
 have hp:=U0.mpr hw
 have fr: ∀i:Nat,Fw w i=some (rd w i):=fun i=>by
  unfold Fw
  rw[<-eM hw (i:Int)]
  congr 1
 constructor
 ·intro h k
  have:=h (fB w.length k)
  rw[fr,fr]at this
  have:=ZG this
  rw[bU hw]at this
  rw[<-this, <-fA w (k+d), <-fA w (((fB w.length k+d:Nat)):Int),Z7,cb hp,Qcl]
 ·intro h i
  rw[fr,fr,Z7,h]
theorem ja {w:List Nat} (hw:w≠[]) {s:Nat} (h:bO w s):0<s/\ ∀i j:Int,cx w w i j↔(i - j)%(s:Int)=0:=by
 rcases h with ⟨z,_⟩ | h'
 ·exact absurd z hw
 have h:bO w s:= .inr h'
 obtain ⟨h1,h2,h3,_⟩:=h'
 have ps: ∀k:Int,rd w (k+s)=rd w k:=(EM hw).mp ((gm hw h2).mp (tZ h1 h2 h3))
 have pm: ∀(k t:Int),rd w (k+t*s)=rd w k:=fun k t=>by
  rcases Int.le_total 0 t with q | q
  ·obtain ⟨n,rfl⟩: ∃n:Nat,t=n:=⟨t.toNat,by omega⟩
   exact hZ ps k n
  ·obtain ⟨n,rfl⟩: ∃n:Nat,t= -(n:Int):=⟨(-t).toNat,by omega⟩
   have:=hZ ps (k+ -(n:Int)*s) n
   rw[<-this]
   congr 1
   rw[Int.neg_mul];omega
 refine ⟨h1,fun i j=>⟨fun p=>?_,fun p k=>?_⟩⟩
 ·have pd: ∀k:Int,rd w (k+(i - j))=rd w k:=fun k=>by
   have:=p (k - j)
   unfold sq at this
   rw[show i+(k - j)=k+(i - j) by omega,show j+(k - j)=k by omega]at this
   exact this
  have e:=Qdt (i - j) s
  have hn:=Qar (i - j) (b:=(s:Int)) (by omega)
  have cV:=Qak (i - j) (b:=(s:Int)) (by omega)
  refine Classical.byContradiction fun z=>?_
  obtain ⟨d,hd⟩: ∃d:Nat,(i - j)%(s:Int)=d:=⟨((i - j)%(s:Int)).toNat,by omega⟩
  refine bO.least h (j:=d) (by omega) (by omega) ((EM hw).mpr fun k=>?_)
  have q:=pd k
  rw[<-e,hd,Int.mul_comm, <-Int.add_assoc,pm]at q
  exact q
 ·unfold sq
  have e:=Qdt (i - j) s
  rw[p,Qa7,Int.mul_comm]at e
  rw[show i+k=j+k+(i - j) by omega, <-e,pm]
theorem EN {y:List Nat} {ws:List (List Nat)} {r:Nat->Nat} {M:Nat} (hy:Yd y) (hw: ∀c,c<ws.length->SW y (ws.getD c [])) (hr: ∀c,c<ws.length->bO (ws.getD c []) (r c)) (hM: ∀c d,c<ws.length->d<ws.length->(ws.getD c []).length+(ws.getD d []).length<=M):eA y ws (fun c=>leads (ws.getD c [])) r M:=
 ⟨hy,hw,hM,fun c d i j hc hd h=>rV (hw c hc).ne (hw d hd).ne h,fun c d i j hc hd h=>Ca hy (hw c hc) (hw d hd) h,fun c hc=>(ja (hw c hc).ne (hr c hc)).1,fun c hc=>(ja (hw c hc).ne (hr c hc)).2⟩
noncomputable def fQ (y:List Nat):List Nat:=(y.filter aC).mergeSort fun a b=>decide (a<=b)
theorem jE (y:List Nat):(fQ y).Perm (y.filter aC):=List.mergeSort_perm _ _
theorem wM (y:List Nat):(fQ y).Pairwise (· <= ·):=
 (List.pairwise_mergeSort (le:=fun a b=>decide (a<=b)) (fun a b c h1 h2=>decide_eq_true (ZW (of_decide_eq_true h1) (of_decide_eq_true h2))) (fun a b=>by
  rcases Nat.le_total a b with z | z
  ·rw[decide_eq_true z];rfl
  ·rw[decide_eq_true z,Bool.or_true]) (y.filter aC)).imp fun z=>of_decide_eq_true z
theorem AG {y l:List Nat} (h:l.Perm (y.filter aC)) (p:l.Pairwise (· <= ·)):l=fQ y:=BY (h.trans (jE y).symm) p (wM y)
theorem EO {y:List Nat} (h:Yd y) {e:Nat} (he:e∈y):PyProof.Rows.lo1 e∈fQ y:=by
 refine (jE y).mem_iff.mpr (ZX.mpr ?_)
 rcases h.lt e he with z | z
 ·rw[(bg e z).2.1];exact ⟨he,(bg e z).1⟩
 ·rw[(bP e z).2.1];exact ⟨h.cl e he,(bg _ (bP e z).2.2.2).1⟩
theorem jb {y:List Nat} (h:Yd y):2*(fQ y).length=y.length:=by rw[(jE y).length_eq];exact D8 h
structure Pr where
 t:Addr
 c:Nat
 i:Nat
noncomputable def rX (ps:List Pr):List V:=ps.map fun p=>V.ref p.t
theorem uw (ps:List Pr):(rX ps).length=ps.length:=by unfold rX;rw[UX]
theorem ER (a:List Pr) (p:Pr):rX a++[V.ref p.t]=rX (a++[p]):=by unfold rX;rw[WC];rfl
theorem HX (a:List Pr):(rX a).reverse=rX a.reverse:=by unfold rX;rw[Qbz]
theorem ES {ps:List Pr} {i:Nat} {x:V} (h:(rX ps)[i]? =some x): ∃p,ps[i]? =some p/\x=V.ref p.t:=by
 unfold rX at h
 rw[ZA]at h
 cases e:ps[i]? with
 | none=>rw[e]at h;cases h
 | some p=>rw[e]at h;cases h;exact ⟨p,rfl,rfl⟩
structure nE (H:Hp) (p:Pr):Prop where
 tp:H p.t=some (.tup [.int p.c, .int p.i])
 cz:p.c<1000
 iz:p.i<1000
theorem nE.same {H H':Hp} {p:Pr} (h:nE H p) (s:ao H H'):nE H' p:=⟨s _ _ h.tp,h.cz,h.iz⟩
structure Od where
 o:Addr
 ps:List Pr
structure Cb (H:Hp) (o:Od):Prop where
 tp:H o.o=some (.tup (rX o.ps))
 pr: ∀p∈o.ps,nE H p
 fw:o.ps.length<=100
theorem Cb.same {H H':Hp} {o:Od} (h:Cb H o) (s:ao H H'):Cb H' o:=⟨s _ _ h.tp,fun p hp=>(h.pr p hp).same s,h.fw⟩
noncomputable def HY (os:List Od):List V:=os.map fun o=>V.ref o.o
theorem ET (a:List Od) (p:Od):HY a++[V.ref p.o]=HY (a++[p]):=by unfold HY;rw[WC];rfl
theorem Ly {os:List Od} {i:Nat} {o:Od} (h:os[i]? =some o):(HY os)[i]? =some (V.ref o.o):=by unfold HY;rw[ZA,h];rfl
structure yR (H:Hp) (dr:Addr) (ws:List (List Nat)) (os:List Od):Prop where
 ex: ∃wt ot,H dr=some (.tup [.ref wt, .ref ot])/\H wt=some (.tup (gL ws))/\H ot=some (.tup (HY os))
 od: ∀o∈os,Cb H o
theorem yR.same {H H':Hp} {dr:Addr} {ws:List (List Nat)} {os:List Od} (h:yR H dr ws os) (s:ao H H'):yR H' dr ws os:=by
 obtain ⟨⟨wt,ot,h1,h2,h3⟩,g⟩:=h
 exact ⟨⟨wt,ot,s _ _ h1,s _ _ h2,s _ _ h3⟩,fun o ho=>(g o ho).same s⟩
noncomputable def yS (y:List Nat) (os:List Od) (e:Nat):List Pr:=((os[(fQ y).idxOf (PyProof.Rows.lo1 e)]?).map Od.ps).getD []
noncomputable def n6 (y:List Nat) (os:List Od) (e:Nat):List Pr:=if isUp e=true then (yS y os e).reverse else yS y os e
theorem jc {y:List Nat} {os:List Od} {e:Nat} (h:Yd y) (he:e∈y) (ho:2*os.length=y.length): ∃o∈os,os[(fQ y).idxOf (PyProof.Rows.lo1 e)]? =some o/\yS y os e=o.ps:=by
 have hi:=WE (EO h he)
 have hl:=jb h
 have Qg:(fQ y).idxOf (PyProof.Rows.lo1 e)<os.length:=by omega
 exact ⟨os[(fQ y).idxOf (PyProof.Rows.lo1 e)],ZV Qg,Kw Qg,by unfold yS;rw[Kw Qg];rfl⟩
structure Pt where
 t:Addr
 c:Nat
 i:Nat
 e:Nat
noncomputable def Gq (ps:List Pt):List V:=ps.map fun p=>V.ref p.t
theorem AH (ps:List Pt):(Gq ps).length=ps.length:=by unfold Gq;rw[UX]
theorem EU (a:List Pt) (p:Pt):Gq a++[V.ref p.t]=Gq (a++[p]):=by unfold Gq;rw[WC];rfl
noncomputable def Pt.is (p:Pt):Nat×Nat×Nat:=(p.c,p.i,p.e)
structure qD (H:Hp) (p:Pt):Prop where
 tp:H p.t=some (.tup [.int p.c, .int p.i, .str (S [p.e])])
 cz:p.c<1000
 iz:p.i<1000
 ez:p.e<128
theorem qD.same {H H':Hp} {p:Pt} (h:qD H p) (s:ao H H'):qD H' p:=⟨s _ _ h.tp,h.cz,h.iz,h.ez⟩
theorem qD.upd {H:Hp} {p:Pt} {q:Addr} {o:HO} (h:qD H p) (n:p.t≠q):qD (L2.upd H q o) p:=⟨by rw[ay n];exact h.tp,h.cz,h.iz,h.ez⟩
noncomputable def fH (y:List Nat) (os:List Od) (e:Nat):List (Nat×Nat×Nat):=(n6 y os e).map fun p=>(p.c,p.i,e)
noncomputable def iB (y:List Nat) (os:List Od):List (Nat×Nat×Nat):=y.flatMap (fH y os)
noncomputable def Pr.pair (p:Pr):Nat×Nat:=(p.c,p.i)
noncomputable def yT (band l:Nat):Bool:=decide (l=band)||decide (l=aF band)
noncomputable def iC (band c:Nat) (w:List Nat) (n:Nat):List (Nat×Nat):=((List.range n).filter fun i=>yT band (w.getD i 0)).map fun i=>(c,i)
noncomputable def c_ (band:Nat) (ws:List (List Nat)) (n:Nat):List (Nat×Nat):=(List.range n).flatMap fun c=>iC band c (ws.getD c []) (ws.getD c []).length
theorem yU {band c i l:Nat} {w:List Nat} (h:w[i]? =some l):iC band c w (i+1)=iC band c w i++if yT band l=true then [(c,i)] else []:=by
 have e:w.getD i 0=l:=by rw[Y3,h];rfl
 unfold iC
 rw[Qag,Qaw,WC]
 congr 1
 by_cases z:yT band l=true
 ·rw[if_pos z,Z4 (by rw[e];exact z)];rfl
 ·rw[if_neg z,ZR (by rw[e];exact z)];rfl
theorem wN {band i:Nat} {ws:List (List Nat)} {w:List Nat} (h:ws[i]? =some w):c_ band ws (i+1)=c_ band ws i++iC band i w w.length:=by
 have e:ws.getD i []=w:=by rw[Y3,h];rfl
 unfold c_
 rw[Qag,Z1]
 congr 1
 rw[ZT,Qec,Z3,e]
structure Qh (y:List Nat) (ws:List (List Nat)):Prop where
 uY:ws.length<=4
 all: ∀w∈ws,(∀c∈w,c∈y)/\w.length<=12
def wO (y:List Nat) (ws:List (List Nat)) (os:List Od):Prop:=os.length=(fQ y).length/\ ∀(j:Nat) (o:Od) (b:Nat),os[j]? =some o->(fQ y)[j]? =some b->(o.ps.map Pr.pair).Perm (c_ b ws ws.length)
def jU (_:PySem.W.Frag):Sp:=fun vs H Q _=> ∃(y:List Nat) (dr:Addr) (ws:List (List Nat)) (os:List Od) (e:Nat),vs=[.str (S y), .ref dr, .str (S [e])]/\Yd y/\y.length<=8/\e∈y/\2*os.length=y.length/\yR H dr ws os/\ ∀(q:Addr) (H':Hp),H q=none->H' q=some (.lst (rX (n6 y os e)))->ao H H'->Q (.ref q) H'
theorem pF {K:PySem.W.Frag} {vs:List V} {H:Hp} {Q:VK} {E:XK} (h:jU K vs H Q E):vs.length=3:=by obtain ⟨c,_,_,_,_,rfl,_⟩:=h;rfl
def rY (_:PySem.W.Frag):Sp:=fun vs H Q _=> ∃(y:List Nat) (dr:Addr) (ws:List (List Nat)) (os:List Od),vs=[.str (S y), .ref dr]/\Yd y/\y.length<=8/\2*os.length=y.length/\yR H dr ws os/\ ∀(q:Addr) (ps:List Pt) (H':Hp),H q=none->H' q=some (.lst (Gq ps))->(∀p∈ps,qD H' p/\p.t≠q)->ps.map Pt.is=iB y os->ps.length<=800->ao H H'->Q (.ref q) H'
theorem yV {K:PySem.W.Frag} {vs:List V} {H:Hp} {Q:VK} {E:XK} (h:rY K vs H Q E):vs.length=2:=by obtain ⟨c,_,_,_,rfl,_⟩:=h;rfl
theorem HZ {y:List Nat} {os:List Od} {e:Nat} {p:Pr} (h:Yd y) (he:e∈y) (ho:2*os.length=y.length) (hp:p∈n6 y os e): ∃o∈os,p∈o.ps:=by
 obtain ⟨o,h1,h2,h3⟩:=jc h he ho
 refine ⟨o,h1,?_⟩
 unfold n6 at hp
 rw[h3]at hp
 split at hp
 ·exact Qde.mp hp
 ·exact hp
theorem H_ {H:Hp} {y:List Nat} {os:List Od} {e:Nat} (h:Yd y) (he:e∈y) (ho:2*os.length=y.length) (hd: ∀o∈os,Cb H o):(n6 y os e).length<=100:=by
 obtain ⟨o,h1,h2,h3⟩:=jc h he ho
 have:=(hd o h1).fw
 unfold n6
 rw[h3]
 split
 ·rw[Z0];exact this
 ·exact this
theorem nE.ts {H H':Hp} {p:Pr} (h:nE H p) (s:ba H H'):nE H' p:=⟨s _ _ h.tp,h.cz,h.iz⟩
theorem EV {band l:Nat} (hb:band∈bf) (hl:Lt l):decide (PyProof.Rows.lo1 l=band)=yT band l:=by
 unfold yT
 rcases hl with h | h
 ·have e:=(bg l h).2.1
  have n:l≠aF band:=fun z=>rK _ (bg band hb).2.2 (z▸h)
  rw[e,decide_eq_false n,Qct]
 ·have e:=(bP l h).2.1
  have n:l≠band:=fun z=>rK l h (z▸hb)
  rw[e,decide_eq_false n,Qd1]
  refine decide_eq_decide.mpr ⟨fun z=>by rw[<-z,aR (.inr h)],fun z=>by rw[z,aR (.inl hb)]⟩
theorem Xr {α:Type} {l:List α} (h:l.Nodup) {i j:Nat} (hi:i<l.length) (hj:j<l.length) (e:l[i]=l[j]):i=j:=by
 have hp:=Qbj.mp h
 rcases Nat.lt_trichotomy i j with z | z | z
 ·exact absurd e (hp i j hi hj z)
 ·exact z
 ·exact absurd e.symm (hp j i hj hi z)
theorem rZ {l:List (Nat×Nat×Nat)} (h:l.Nodup) {n:Nat} {p:Nat×Nat×Nat} (e:l[n]? =some p):l.idxOf p=n:=by
 obtain ⟨hn,e2⟩:=Kx.mp e
 have hm:p∈l:=Zx e
 have hi:=WE hm
 exact Xr h hi hn ((Qav hi).trans e2.symm)
theorem pG {α:Type} {f:Nat->List α} (g:α->Nat): ∀{l:List Nat},l.Nodup->(∀e∈l,(f e).Nodup)->(∀e∈l, ∀p∈f e,g p=e)->(l.flatMap f).Nodup
 | [],_,_,_=>Qdv
 | a::l,hn,h1,h2=>by
  obtain ⟨n1,n2⟩:=Z6.mp hn
  rw[ZT,Qap]
  refine ⟨h1 a Zy,pG g n2 (fun e he=>h1 e (Y4 _ he)) (fun e he=>h2 e (Y4 _ he)),fun x hx y hy z=>?_⟩
  subst z
  obtain ⟨e,he,Xs⟩:=ZU.mp hy
  have g1:=h2 a Zy x hx
  have g2:=h2 e (Y4 _ he) x Xs
  exact n1 (by rw[<-g1,g2];exact he)
theorem EW (band c:Nat) (w:List Nat) (n:Nat):(iC band c w n).Nodup:=by
 unfold iC
 show (List.map _ _).Pairwise (· ≠ ·)
 rw[Qao]
 exact (Qeb.filter _).imp fun {i j} h z=>h (by cases z;rfl)
theorem r9 (band:Nat) (ws:List (List Nat)) (n:Nat):(c_ band ws n).Nodup:=
 pG Prod.fst Qeb (fun c _=>EW _ _ _ _) fun c _ p hp=>by
  unfold iC at hp
  obtain ⟨i,_,rfl⟩:=ZN.mp hp
  rfl
theorem yW {band c i n:Nat} {ws:List (List Nat)} (hc:c<n) (hi:i<(ws.getD c []).length) (hb:yT band ((ws.getD c []).getD i 0)=true):(c,i)∈c_ band ws n:=
 ZU.mpr ⟨c,Qac.mpr hc,ZN.mpr ⟨i,ZX.mpr ⟨Qac.mpr hi,hb⟩,rfl⟩⟩
theorem wO.at {y:List Nat} {ws:List (List Nat)} {os:List Od} {e:Nat} (h:Yd y) (ho:wO y ws os) (he:e∈y):(((n6 y os e).map Pr.pair)).Perm (c_ (PyProof.Rows.lo1 e) ws ws.length):=by
 have hl:=jb h
 have BC:=ho.1
 obtain ⟨o,o1,o2,o3⟩:=jc (os:=os) h he (by omega)
 have hm:=EO h he
 have hb:(fQ y)[(fQ y).idxOf (PyProof.Rows.lo1 e)]? =some (PyProof.Rows.lo1 e):=by
  have hi:=WE hm
  rw[Kw hi,Qav hi]
 have p:=ho.2 _ o _ o2 hb
 unfold n6
 rw[o3]
 split
 ·rw[Qbz]
  exact (List.reverse_perm _).trans p
 ·exact p
theorem EX {y:List Nat} {ws:List (List Nat)} {os:List Od} (h:Yd y) (ho:wO y ws os):(iB y os).Nodup:=by
 refine pG (fun p=>p.2.2) h.nd (fun e he=>?_) fun e _ p hp=>?_
 ·have hn:=(ho.at h he).nodup_iff.mpr (r9 _ _ _)
  have e1:fH y os e=((n6 y os e).map Pr.pair).map fun x=>(x.1,x.2,e):=by unfold fH;rw[Qaf];rfl
  rw[e1]
  show (List.map _ _).Pairwise (· ≠ ·)
  rw[Qao]
  exact hn.imp fun {a b} g z=>g (by cases a;cases b;cases z;rfl)
 ·unfold fH at hp
  obtain ⟨x,_,rfl⟩:=ZN.mp hp
  rfl
theorem EY {y:List Nat} {ws:List (List Nat)} {os:List Od} {c i l e:Nat} {w:List Nat} (h:Yd y) (ho:wO y ws os) (hw:ws[c]? =some w) (hl:w[i]? =some l) (Ia:l∈y) (he:e=l\/e=aF l):(c,i,e)∈iB y os:=by
 have cV:=h.lt l Ia
 have Cc:e∈y:=by rcases he with rfl | rfl;exact Ia;exact h.cl l Ia
 have e1:PyProof.Rows.lo1 e=PyProof.Rows.lo1 l:=by
  rcases he with rfl | rfl
  ·rfl
  ·rcases cV with g | g
   ·rw[(bP _ (bg l g).2.2).2.1,(bg l g).2.1,aR (.inl g)]
   ·rw[(bg _ (bP l g).2.2.2).2.1,(bP l g).2.1]
 have hb:PyProof.Rows.lo1 l∈bf:=by
  rcases cV with g | g
  ·rw[(bg l g).2.1];exact g
  ·rw[(bP l g).2.1];exact (bP l g).2.2.2
 have Xt:yT (PyProof.Rows.lo1 l) l=true:=by rw[<-EV hb cV];exact decide_eq_true rfl
 have d1:ws.getD c []=w:=by rw[Y3,hw];rfl
 have d2:w.getD i 0=l:=by rw[Y3,hl];rfl
 have hm:(c,i)∈(n6 y os e).map Pr.pair:=by
  rw[(ho.at h Cc).mem_iff,e1]
  exact yW (Kx.mp hw).1 (by rw[d1];exact (Kx.mp hl).1) (by rw[d1,d2];exact Xt)
 obtain ⟨p,hp,ep⟩:=ZN.mp hm
 refine ZU.mpr ⟨e,Cc,ZN.mpr ⟨p,hp,?_⟩⟩
 have e2:p.c=c:=congrArg Prod.fst ep
 have e3:p.i=i:=congrArg Prod.snd ep
 rw[e2,e3]
noncomputable def ux (p:Nat×Nat×Nat):List Key:=[Sum.inl (p.1:Int),Sum.inl (p.2.1:Int),Sum.inr (S [p.2.2])]
theorem EZ {p q:Nat×Nat×Nat} (h:ux p=ux q):p=q:=by
 unfold ux at h
 injection h with h1 h2
 injection h2 with h2 h3
 injection h3 with h3 _
 have a1:(p.1:Int)=q.1:=Sum.inl.inj h1
 have a2:(p.2.1:Int)=q.2.1:=Sum.inl.inj h2
 have a3:[p.2.2]=[q.2.2]:=by
  have:=Sum.inr.inj h3
  rw[<-fU [p.2.2],this,fU]
 have a4:p.2.2=q.2.2:=by simpa using a3
 exact Prod.ext (by omega) (Prod.ext (by omega) a4)
def Nums (ps:List (Nat×Nat×Nat)) (aP:List (List Key×V)) (n:Nat):Prop:= ∀p∈ps.take n,dD aP (ux p)=some (.int (ps.idxOf p:Nat))
theorem Nums.put {ps:List (Nat×Nat×Nat)} {aP:List (List Key×V)} {n:Nat} {p:Nat×Nat×Nat} (h:Nums ps aP n) (hn:ps.Nodup) (e:ps[n]? =some p):Nums ps (putK aP (ux p) (.int (n:Nat))) (n+1):=fun r hr=>by
 rw[DF]
 by_cases z:r=p
 ·rw[if_pos (by rw[z]),z,rZ hn e]
 ·rw[if_neg fun g=>z (EZ g)]
  rw[<-take_snoc e]at hr
  exact h r ((Zz.mp hr).resolve_right fun g=>z (UZ.mp g))
noncomputable def xw (n i:Nat):Nat:=if i=0 then n - 1 else i - 1
theorem yX {n i:Nat} (h:i<n):xw n i<n:=by unfold xw;split<;>omega
theorem AI {n i:Nat} (h:i<n):((i:Int) - 1)%(n:Int)=((xw n i:Nat):Int):=by
 unfold xw
 split
 ·rename_i z
  subst z
  have:((0:Nat):Int) - 1+(n:Int)=((n - 1:Nat):Int):=by omega
  rw[<-Qbq,this]
  exact ZP (by omega) (by omega)
 ·have:(i:Int) - 1=((i - 1:Nat):Int):=by omega
  rw[this]
  exact ZP (by omega) (by omega)
noncomputable abbrev C4:=Nat×Nat×Nat×Nat
noncomputable def gS (ps:List (Nat×Nat×Nat)) (c:Nat) (w:List Nat) (i:Nat):C4:=(c,i,ps.idxOf (c,xw w.length i,aF (w.getD (xw w.length i) 0)),ps.idxOf (c,i,w.getD i 0))
noncomputable def mB (ps:List (Nat×Nat×Nat)) (c:Nat) (w:List Nat) (n:Nat):List C4:=(List.range n).map (gS ps c w)
noncomputable def gq (ps:List (Nat×Nat×Nat)) (ws:List (List Nat)) (n:Nat):List C4:=(List.range n).flatMap fun c=>mB ps c (ws.getD c []) (ws.getD c []).length
theorem wQ (ps:List (Nat×Nat×Nat)) (c:Nat) (w:List Nat) (n:Nat):mB ps c w (n+1)=mB ps c w n++[gS ps c w n]:=by unfold mB;rw[Qag,WC];rfl
theorem uy {ps:List (Nat×Nat×Nat)} {ws:List (List Nat)} {i:Nat} {w:List Nat} (h:ws[i]? =some w):gq ps ws (i+1)=gq ps ws i++mB ps i w w.length:=by
 have e:ws.getD i []=w:=by rw[Y3,h];rfl
 unfold gq
 rw[Qag,Z1]
 congr 1
 rw[ZT,Qec,Z3,e]
structure Q4 where
 t:Addr
 v:C4
noncomputable def nF (qs:List Q4):List V:=qs.map fun q=>V.ref q.t
theorem AJ (qs:List Q4):(nF qs).length=qs.length:=by unfold nF;rw[UX]
theorem E1 (a:List Q4) (q:Q4):nF a++[V.ref q.t]=nF (a++[q]):=by unfold nF;rw[WC];rfl
theorem Lz {qs:List Q4} {i:Nat} {x:V} (h:(nF qs)[i]? =some x): ∃q,qs[i]? =some q/\x=V.ref q.t:=by
 unfold nF at h
 rw[ZA]at h
 cases e:qs[i]? with
 | none=>rw[e]at h;cases h
 | some p=>rw[e]at h;cases h;exact ⟨p,rfl,rfl⟩
def qE (H:Hp) (q:Q4):Prop:=H q.t=some (.tup [.int q.v.1, .int q.v.2.1, .int q.v.2.2.1, .int q.v.2.2.2])
theorem qE.ts {H H':Hp} {q:Q4} (h:qE H q) (s:ba H H'):qE H' q:=s _ _ h
noncomputable def fI (y:List Nat) (ws:List (List Nat)) (os:List Od):List C4:=gq (iB y os) ws ws.length
theorem Qi {y:List Nat} {os:List Od} {p:Pt} {ps:List Pt} (h:ps.map Pt.is=iB y os) {i:Nat} (hi:ps[i]? =some p):(iB y os)[i]? =some p.is:=by rw[<-h,ZA,hi];rfl
def gT (_:PySem.W.Frag):Sp:=fun vs H Q _=> ∃(w:List Nat) (c i:Nat),vs=[.str (S w), .int c, .int i]/\(∀l∈w,l<128)/\i<w.length/\w.length<=1000/\ ∀(t t1 t2:Addr) (H':Hp),H' t=some (.tup [.ref t1, .ref t2])->H' t1=some (.tup ((ux (c,xw w.length i,aF (w.getD (xw w.length i) 0))).map kV))->H' t2=some (.tup ((ux (c,i,w.getD i 0)).map kV))->ao H H'->Q (.ref t) H'
theorem lq {K:PySem.W.Frag} {vs:List V} {H:Hp} {Q:VK} {E:XK} (h:gT K vs H Q E):vs.length=3:=by obtain ⟨c,_,_,rfl,_⟩:=h;rfl
def pH (_:PySem.W.Frag):Sp:=fun vs H Q _=> ∃(y:List Nat) (dr:Addr) (ws:List (List Nat)) (os:List Od),vs=[.str (S y), .ref dr]/\Yd y/\y.length<=8/\Qh y ws/\wO y ws os/\yR H dr ws os/\ ∀(q:Addr) (qs:List Q4) (H':Hp),H q=none->H' q=some (.lst (nF qs))->(∀x∈qs,qE H' x)->qs.map Q4.v=fI y ws os->ao H H'->Q (.ref q) H'
theorem wR {K:PySem.W.Frag} {vs:List V} {H:Hp} {Q:VK} {E:XK} (h:pH K vs H Q E):vs.length=2:=by obtain ⟨c,_,_,_,rfl,_⟩:=h;rfl
theorem Ib {y:List Nat} {os:List Od} {i m e:Nat} {p:Pr} (he:y[i]? =some e) (hp:(n6 y os e)[m]? =some p):(iB y os)[((y.take i).flatMap (fH y os)).length+m]? =some (p.c,p.i,e):=by
 obtain ⟨hi,e1⟩:=Kx.mp he
 have hy:y=y.take i++e::y.drop (i+1):=by
  rw[<-e1, <-Qah hi,Qaa]
 have h1:iB y os=(y.take i).flatMap (fH y os)++(fH y os e++(y.drop (i+1)).flatMap (fH y os)):=by
  unfold iB
  conv=>lhs;arg 2;rw[hy]
  rw[Z1,ZT]
 have h2:(fH y os e)[m]? =some (p.c,p.i,e):=by unfold fH;rw[ZA,hp];rfl
 rw[h1,Qaq (Nat.le_add_right _ _),Nat.add_sub_cancel_left,Qab (Kx.mp h2).1]
 exact h2
structure E2 (y:List Nat) (ws:List (List Nat)) (L:Nat->Bool) (r:Nat->Nat) (M:Nat) (os:List Od):Prop where
 ok:wO y ws os
 asc: ∀o∈os,(o.ps.map Pr.pair).Pairwise fun s t=>a_ (cG y ws L r M s.1 s.2) (cG y ws L r M t.1 t.2)=true
theorem yY: ∀c∈bf++ka,PyProof.Rows.lo1 (aF c)=PyProof.Rows.lo1 c/\isUp c=!aC c:=by decide+kernel
theorem Cd {α:Type} {y:List Nat} (F:Nat->List α) {k k' e:Nat} (he:y[k]? =some e) (h:k<k'):((y.take k).flatMap F).length+(F e).length<=((y.take k').flatMap F).length:=by
 have e1:(y.take k').take (k+1)=y.take (k+1):=by rw[List.take_take,Qal (by omega)]
 have e2:y.take k'=y.take (k+1)++(y.take k').drop (k+1):=by rw[<-e1,Qaa]
 rw[e2,Z1,UY, <-take_snoc he,Z1,UY]
 simp
theorem mC {y:List Nat} {ws:List (List Nat)} {os:List Od} (hy:Yd y) (ho:wO y ws os) (hs: ∀c,c<ws.length->SW y (ws.getD c [])) {c i e:Nat} (hc:c<ws.length) (hi:i<(ws.getD c []).length) (he:e=rd (ws.getD c []) i\/e=aF (rd (ws.getD c []) i)):
  e∈y/\ ∃(m:Nat) (p:Pr),(n6 y os e)[m]? =some p/\p.pair=(c,i)/\(iB y os).idxOf (c,i,e)=((y.take (y.idxOf e)).flatMap (fH y os)).length+m:=by
 have hw:=hs c hc
 have ey:e∈y:=he.elim (fun z=>z▸hw.rd _) fun z=>z▸hy.cl _ (hw.rd _)
 have qF:=EY hy ho (c:=c) (i:=i) (l:=rd (ws.getD c []) i) (e:=e) (w:=ws.getD c []) (by rw[Y3,Kw hc];rfl) (mh hi) (hw.rd _) he
 unfold iB at qF
 obtain ⟨e',CL,hp⟩:=ZU.mp qF
 unfold fH at hp
 obtain ⟨p,tQ,oW⟩:=ZN.mp hp
 obtain ⟨q1,Vr⟩:=Prod.mk.inj oW
 obtain ⟨q2,q3⟩:=Prod.mk.inj Vr
 clear Vr
 subst q3
 obtain ⟨m,hm,em⟩:=Qb6 tQ
 have MN:(n6 y os e')[m]? =some p:=by rw[Kw hm,em]
 refine ⟨ey,m,p,MN,by unfold Pr.pair;rw[q1,q2],?_⟩
 have hk:y[y.idxOf e']? =some e':=by rw[Kw (WE ey),Qav]
 have:=Ib (os:=os) hk MN
 rw[q1,q2]at this
 exact rZ (EX hy ho) this
theorem E3 (y:List Nat) (os:List Od) (e:Nat):(fH y os e).length=(n6 y os e).length:=by unfold fH;rw[UX]
theorem E4 {l:List Pr} {y:List Nat} {ws:List (List Nat)} {L:Nat->Bool} {r:Nat->Nat} {M:Nat} (h:(l.map Pr.pair).Pairwise fun s t=>a_ (cG y ws L r M s.1 s.2) (cG y ws L r M t.1 t.2)=true) {m n c i d j:Nat} {p q:Pr} (hp:l[m]? =some p) (hq:l[n]? =some q) (ep:p.pair=(c,i)) (eq:q.pair=(d,j)) (dv:(c,i)≠(d,j)):
  m≠n/\decide (m<n)=a_ (cG y ws L r M c i) (cG y ws L r M d j):=by
 have Rg:m≠n:=fun z=>dv (by rw[z,hq]at hp;rw[<-ep, <-eq,ZG hp])
 obtain ⟨hm,em⟩:=Kx.mp hp
 obtain ⟨hn,en⟩:=Kx.mp hq
 refine ⟨Rg,?_⟩
 have key:=Qbj.mp h
 by_cases z:m<n
 ·have:=key m n (by rw[UX];exact hm) (by rw[UX];exact hn) z
  rw[Qdf,Qdf,em,en,ep,eq]at this
  rw[decide_eq_true z]
  exact this.symm
 ·have:=key n m (by rw[UX];exact hn) (by rw[UX];exact hm) (by omega)
  rw[Qdf,Qdf,em,en,ep,eq]at this
  rw[decide_eq_false z]
  exact (jy this).1.symm
theorem AK {α:Type} {l:List α} {m:Nat} {p:α} (h:l.reverse[m]? =some p):m<l.length/\l[l.length - 1 - m]? =some p:=by
 obtain ⟨hm,_⟩:=Kx.mp h
 rw[Z0]at hm
 rw[Qco hm]at h
 exact ⟨hm,h⟩
theorem lies_of {y:List Nat} {ws:List (List Nat)} {L:Nat->Bool} {r:Nat->Nat} {M:Nat} {os:List Od} (hy:Yd y) (hs: ∀c,c<ws.length->SW y (ws.getD c [])) (h:E2 y ws L r M os):Lies y ws L r M fun c i e=>(iB y os).idxOf (c,i,e):=by
 have ol:2*os.length=y.length:=by rw[h.ok.1];exact jb hy
 refine ⟨fun c i d j e e' hc hd hi hj he CL cV=>?_,fun c i d j x hc hd hi hj dv hx Xu Xv=>?_⟩
 ·obtain ⟨ey,m,p,hm,_,e1⟩:=mC hy h.ok hs hc hi he
  obtain ⟨Y7,m',p',MN,_,e2⟩:=mC hy h.ok hs hd hj CL
  rw[e1,e2]
  have hk:y[y.idxOf e]? =some e:=by rw[Kw (WE ey),Qav]
  have:=Cd (fH y os) hk cV
  rw[E3]at this
  have DE:=(Kx.mp hm).1
  omega
 ·have lc:Lt (rd (ws.getD c []) i):=hy.lt _ ((hs c hc).rd _)
  have ld:Lt (rd (ws.getD d []) j):=hy.lt _ ((hs d hd).rd _)
  have vi:(x=rd (ws.getD c []) i\/x=aF (rd (ws.getD c []) i))/\(aF x=rd (ws.getD c []) i\/aF x=aF (rd (ws.getD c []) i))/\Lt x:=by
   rcases Xu with z | z
   ·exact ⟨.inl z.symm, .inr (by rw[z]),z▸lc⟩
   ·have Xw:x<128/\x∈bf:=by
     have h9:97<=x/\x<=122:=by unfold aC at hx;simpa using hx
     refine ⟨by omega,?_⟩
     have: ∀k,k<26->k+97∈bf:=by decide
     have h8:=this (x - 97) (by omega)
     rwa [show x - 97+97=x by omega]at h8
    have lx:Lt x:= .inl Xw.2
    exact ⟨.inr (by rw[z,aR lx]), .inl z.symm,lx⟩
  have lx:=vi.2.2
  have vj:(x=rd (ws.getD d []) j\/x=aF (rd (ws.getD d []) j))/\(aF x=rd (ws.getD d []) j\/aF x=aF (rd (ws.getD d []) j)):=by
   rcases Xv with z | z
   ·exact ⟨.inl z.symm, .inr (by rw[z])⟩
   ·exact ⟨.inr (by rw[z,aR lx]), .inl z.symm⟩
  obtain ⟨xy,m,p,hm,ep,e1⟩:=mC hy h.ok hs hc hi vi.1
  obtain ⟨_,n,q,hn,eq,e2⟩:=mC hy h.ok hs hd hj vj.1
  obtain ⟨_,m',p',MN,Oq,Dt⟩:=mC hy h.ok hs hc hi vi.2.1
  obtain ⟨_,n',q',QT,Xx,LA⟩:=mC hy h.ok hs hd hj vj.2
  obtain ⟨o,Vs,_,eo⟩:=jc hy xy ol
  have Xy:isUp x=false:=by rw[(yY x lx.mem).2,hx];rfl
  have up1:isUp (aF x)=true:=by rw[(yY _ lx.aF.mem).2,fP x lx.mem,hx];rfl
  have s0:n6 y os x=o.ps:=by unfold n6;rw[Xy,if_neg (by decide),eo]
  have s1:n6 y os (aF x)=o.ps.reverse:=by
   unfold n6
   rw[up1,if_pos rfl]
   have:yS y os (aF x)=yS y os x:=by unfold yS;rw[(yY x lx.mem).1]
   rw[this,eo]
  rw[s0]at hm hn
  rw[s1]at MN QT
  obtain ⟨b1,DE⟩:=AK MN
  obtain ⟨b2,xN⟩:=AK QT
  have k1:=E4 (h.asc o Vs) hm hn ep eq dv
  have k2:=E4 (h.asc o Vs) DE xN Oq Xx dv
  rw[e1,e2,Dt,LA]
  refine ⟨by omega,by omega,?_,?_⟩
  ·rw[<-k1.2];exact decide_eq_decide.mpr (by omega)
  ·rw[<-k2.2];exact decide_eq_decide.mpr (by omega)
noncomputable def n_ (st:Nat->Nat) (T R:List Nat):List Nat:=T.filter fun x=>R.any fun e=>decide (st e=x)
noncomputable def Ce (st:Nat->Nat) (T R:List Nat) (p:Nat):Nat:=if st p=p then 0 else ((n_ st T (p::R)).filter fun x=>decide (st p<x)).length
noncomputable def Gr (st:Nat->Nat):List Nat->List Nat->Nat
 | _,[]=>0
 | T,p::R=>Ce st T R p+Gr st (T++[p]) R
structure E5 (ch:List (Nat×Nat)) (st:Nat->Nat) (P:List Nat):Prop where
 lt: ∀x∈ch,x.1<x.2
 nd:(ch.flatMap fun x=>[x.1,x.2]).Nodup
 pm:P.Perm (ch.flatMap fun x=>[x.1,x.2])
 up:P.Pairwise (· < ·)
 st: ∀x∈ch,st x.1=x.1/\st x.2=x.1
section
variable {ch:List (Nat×Nat)} {st:Nat->Nat} {P:List Nat}
theorem E5.pt (h:E5 ch st P) {p:Nat} (hp:p∈P): ∃x∈ch,p=x.1\/p=x.2:=by
 obtain ⟨x,hx,e⟩:=ZU.mp (h.pm.mem_iff.mp hp)
 exact ⟨x,hx,by simpa using e⟩
theorem E5.in1 (h:E5 ch st P) {x:Nat×Nat} (hx:x∈ch):x.1∈P/\x.2∈P:=⟨h.pm.mem_iff.mpr (ZU.mpr ⟨x,hx,by simp⟩),h.pm.mem_iff.mpr (ZU.mpr ⟨x,hx,by simp⟩)⟩
theorem wU: ∀{ch:List (Nat×Nat)},(ch.flatMap fun x=>[x.1,x.2]).Nodup-> ∀x∈ch, ∀z∈ch,(x.1=z.1\/x.2=z.2\/x.1=z.2)->x=z
 | [],_,x,hx,_,_,_=>absurd hx Zw
 | a::r,nd,x,hx,z,hz,e=>by
  rw[ZT,Qap]at nd
  obtain ⟨n1,n2,n3⟩:=nd
  have inr: ∀z∈r,z.1∈r.flatMap (fun x=>[x.1,x.2])/\z.2∈r.flatMap (fun x=>[x.1,x.2]):=fun z hz=>⟨ZU.mpr ⟨z,hz,by simp⟩,ZU.mpr ⟨z,hz,by simp⟩⟩
  have a12:a.1≠a.2:=by
   rw[Z6]at n1
   simpa using n1.1
  rcases Y5.mp hx with rfl | Jb<;>rcases Y5.mp hz with rfl | MO
  ·rfl
  ·exfalso
   rcases e with e | e | e
   ·exact n3 x.1 (by simp) z.1 (inr z MO).1 e
   ·exact n3 x.2 (by simp) z.2 (inr z MO).2 e
   ·exact n3 x.1 (by simp) z.2 (inr z MO).2 e
  ·exfalso
   rcases e with e | e | e
   ·exact n3 z.1 (by simp) x.1 (inr x Jb).1 e.symm
   ·exact n3 z.2 (by simp) x.2 (inr x Jb).2 e.symm
   ·exact n3 z.2 (by simp) x.1 (inr x Jb).1 e.symm
  ·exact wU n2 x Jb z MO e
theorem E6 (h:E5 ch st P) {T R:List Nat} {p:Nat} (e:P=T++p::R) (hs:st p=p):n_ st (T++[p]) R=n_ st T (p::R)++[p]:=by
 obtain ⟨x,hx,hp⟩:=h.pt (p:=p) (by rw[e];simp)
 have LB:p=x.1:=hp.elim id fun z=>by rw[z,(h.st x hx).2]at hs;rw[z, <-hs]
 have up:=h.up
 rw[e,Qaz,Qbg]at up
 obtain ⟨u1,⟨u2,u3⟩,u4⟩:=up
 have hR:x.2∈R:=by
  have:=(h.in1 hx).2
  rw[e]at this
  rcases Zz.mp this with q | q
  ·have:=u4 _ q p Zy
   have:=h.lt x hx
   omega
  ·rcases Y5.mp q with q | q
   ·have:=h.lt x hx
    omega
   ·exact q
 unfold n_
 rw[Qaw]
 congr 1
 ·refine Qc8 fun z hz=>?_
  rw[Qbe,decide_eq_false (fun q=>by have:=u4 z hz p Zy;omega),Qd1]
 ·have:(R.any fun e=>decide (st e=p))=true:=List.any_eq_true.mpr ⟨x.2,hR,decide_eq_true (by rw[(h.st x hx).2,LB])⟩
  rw[Z4 (p:=fun x=>R.any fun e=>decide (st e=x)) this]
  rfl
theorem erase_filter {s:Nat} {p q:Nat->Bool}: ∀{T:List Nat},T.Nodup->q s=true->p s=false->(∀x,x≠s->q x=p x)->(T.filter q).erase s=T.filter p
 | [],_,_,_,_=>rfl
 | a::T,nd,hq,hp,h=>by
  rw[Z6]at nd
  by_cases z:a=s
  ·subst z
   rw[Z4 hq,List.erase_cons_head,ZR (by rw[hp];decide)]
   exact Qc8 fun x hx=>h x fun q=>nd.1 (q▸hx)
  ·have ih:=erase_filter nd.2 hq hp h
   cases e:p a
   ·rw[ZR (by rw[h a z,e];decide),ZR (by rw[e];decide)]
    exact ih
   ·rw[Z4 (by rw[h a z,e]),Z4 e,List.erase_cons_tail (by simpa using z),ih]
theorem LC (h:E5 ch st P) {T R:List Nat} {p:Nat} (e:P=T++p::R) (hs:st p≠p):n_ st (T++[p]) R=(n_ st T (p::R)).erase (st p)/\st p∈n_ st T (p::R):=by
 obtain ⟨x,hx,hp⟩:=h.pt (p:=p) (by rw[e];simp)
 have LB:p=x.2:=hp.elim (fun z=>absurd (by rw[z,(h.st x hx).1]) hs) id
 have kx:st p=x.1:=by rw[LB,(h.st x hx).2]
 have up:=h.up
 rw[e,Qaz,Qbg]at up
 obtain ⟨u1,⟨u2,u3⟩,u4⟩:=up
 have only: ∀z∈R,st z≠x.1:=fun z hz q=>by
  obtain ⟨v,hv,Pz⟩:=h.pt (p:=z) (by rw[e];simp[hz])
  have Y8:=u2 z hz
  rcases Pz with r | r
  ·rw[r,(h.st v hv).1]at q
   have:=wU h.nd v hv x hx (.inl q)
   subst this
   have:=h.lt v hv
   omega
  ·rw[r,(h.st v hv).2]at q
   have:=wU h.nd v hv x hx (.inl q)
   subst this
   omega
 have none: ∀z∈R,st z≠p:=fun z hz q=>by
  obtain ⟨v,hv,Pz⟩:=h.pt (p:=z) (by rw[e];simp[hz])
  have:st z=v.1:=Pz.elim (fun r=>by rw[r,(h.st v hv).1]) fun r=>by rw[r,(h.st v hv).2]
  rw[this,LB]at q
  have:=wU h.nd v hv x hx (.inr (.inr q))
  subst this
  have:=h.lt v hv
  omega
 have hT:x.1∈T:=by
  have:=(h.in1 hx).1
  rw[e]at this
  have l:=h.lt x hx
  rcases Zz.mp this with q | q
  ·exact q
  ·rcases Y5.mp q with q | q
   ·omega
   ·have:=u2 _ q
    omega
 have nd:T.Nodup:=Qd8 (fun h=>ZH h) u1
 have hq:((p::R).any fun e=>decide (st e=x.1))=true:=by rw[Qbe,decide_eq_true kx];rfl
 refine ⟨?_,?_⟩
 ·rw[kx]
  unfold n_
  rw[Qaw,ZR (by
   rw[Bool.not_eq_true,Qd7]
   exact fun z hz=>by simpa using none z hz),List.filter_nil,Z3]
  refine (erase_filter nd hq ?_ fun z hz=>?_).symm
  ·rw[Qd7]
   exact fun z hz=>by simpa using only z hz
  ·rw[Qbe,decide_eq_false (by rw[kx];exact Ne.symm hz),Qd1]
 ·rw[kx]
  exact ZX.mpr ⟨hT,hq⟩
noncomputable def iL (x z:Nat×Nat):Bool:=decide (x.1<z.1)&&(decide (z.1<x.2)&&decide (x.2<z.2))
theorem E7 (h:E5 ch st P) {T R:List Nat} {x:Nat×Nat} (hx:x∈ch) (e:P=T++x.2::R):Ce st T R x.2=(ch.filter (iL x)).length:=by
 have l:=h.lt x hx
 have kx:=(h.st x hx).2
 have up:=h.up
 rw[e,Qaz,Qbg]at up
 obtain ⟨u1,⟨u2,u3⟩,u4⟩:=up
 unfold Ce
 rw[if_neg (by omega),kx, <-UX (as:=ch.filter (iL x)) (f:=Prod.fst)]
 refine List.Perm.length_eq ((List.perm_ext_iff_of_nodup ?_ ?_).mpr fun a=>?_)
 ·exact (Qd8 (fun h=>ZH h) ((u1.filter _).filter _))
 ·have nd:(ch.map Prod.fst).Nodup:=by
   have: ∀{ch:List (Nat×Nat)},(ch.flatMap fun x=>[x.1,x.2]).Nodup->(ch.map Prod.fst).Nodup:=fun {ch}=>by
    induction ch with
    | nil=>exact fun _=>List.Pairwise.nil
    | cons a r ih=>
     intro nd
     rw[ZT,Qap]at nd
     rw[ZJ,Z6]
     refine ⟨fun q=>?_,ih nd.2.1⟩
     obtain ⟨z,hz,ez⟩:=ZN.mp q
     exact nd.2.2 a.1 (by simp) z.1 (ZU.mpr ⟨z,hz,by simp⟩) ez.symm
   exact this h.nd
  exact List.Nodup.sublist (List.Sublist.map _ List.filter_sublist) nd
 ·rw[ZX,ZN]
  unfold n_
  rw[ZX,decide_eq_true_iff,List.any_eq_true]
  constructor
  ·rintro ⟨⟨a1,p,hp,ep⟩,a2⟩
   have ep:=of_decide_eq_true ep
   obtain ⟨z,hz,TL⟩:=h.pt (p:=p) (by rw[e];exact ZS _ hp)
   have:st p=z.1:=TL.elim (fun r=>by rw[r,(h.st z hz).1]) fun r=>by rw[r,(h.st z hz).2]
   rw[this]at ep
   have ax:=u4 a a1 x.2 Zy
   have pz:p=z.2:=TL.elim (fun r=>by
    have:=u4 a a1 p hp
    omega) id
   have px:x.2<p:=by
    rcases Y5.mp hp with q | q
    ·rw[q]at pz
     have:=wU h.nd x hx z hz (.inr (.inl pz))
     subst this
     omega
    ·exact u2 p q
   refine ⟨z,ZX.mpr ⟨hz,?_⟩,ep⟩
   unfold iL
   rw[Z2,Z2,decide_eq_true_iff,decide_eq_true_iff,decide_eq_true_iff]
   omega
  ·rintro ⟨z,hz,rfl⟩
   obtain ⟨hz,q⟩:=ZX.mp hz
   unfold iL at q
   rw[Z2,Z2,decide_eq_true_iff,decide_eq_true_iff,decide_eq_true_iff]at q
   have i1:=(h.in1 hz).1
   have i2:=(h.in1 hz).2
   rw[e]at i1 i2
   refine ⟨⟨?_,z.2,?_,decide_eq_true (h.st z hz).2⟩,q.1⟩
   ·rcases Zz.mp i1 with r | r
    ·exact r
    ·rcases Y5.mp r with r | r
     ·omega
     ·have:=u2 _ r;omega
   ·rcases Zz.mp i2 with r | r
    ·have:=u4 _ r x.2 Zy;omega
    ·exact r
theorem E8 (h:E5 ch st P): ∀(R T:List Nat),P=T++R->Gr st T R=(R.map fun p=>if st p=p then 0 else (ch.filter (iL (st p,p))).length).sum
 | [],_,_=>rfl
 | p::R,T,e=>by
  rw[ZJ,Qbd, <-E8 h R (T++[p]) (by rw[e];simp)]
  show Ce st T R p+_=_
  congr 1
  by_cases z:st p=p
  ·rw[if_pos z];unfold Ce;rw[if_pos z]
  ·rw[if_neg z]
   obtain ⟨x,hx,hp⟩:=h.pt (p:=p) (by rw[e];simp)
   have LB:p=x.2:=hp.elim (fun q=>absurd (by rw[q,(h.st x hx).1]) z) id
   have kx:st p=x.1:=by rw[LB,(h.st x hx).2]
   rw[kx]
   subst LB
   exact E7 h hx e
theorem LD (h:E5 ch st P):Gr st [] P=(ch.map fun x=>(ch.filter (iL x)).length).sum:=by
 rw[E8 h P [] rfl,(h.pm.map _).sum_nat]
 have: ∀l:List (Nat×Nat),(∀x∈l,x∈ch)->(((l.flatMap fun x=>[x.1,x.2]).map fun p=>if st p=p then 0 else (ch.filter (iL (st p,p))).length).sum)=(l.map fun x=>(ch.filter (iL x)).length).sum:=fun l hl=>by
  induction l with
  | nil=>rfl
  | cons a r ih=>
   have ha:=h.st a (hl a Zy)
   have la:=h.lt a (hl a Zy)
   rw[ZT,WC,List.sum_append_nat,ih fun x hx=>hl x (Y4 _ hx),ZJ,Qbd]
   congr 1
   show (if st a.1=a.1 then 0 else _)+((if st a.2=a.2 then 0 else (ch.filter (iL (st a.2,a.2))).length)+0)=_
   rw[if_pos ha.1,if_neg (by omega),ha.2,Qcx,Nat.add_zero]
 exact this ch fun x hx=>hx
theorem Cf {α:Type} (X:α->α->Bool) (hd: ∀x,X x x=false) (ha: ∀x z,X x z=true->X z x=false): ∀l:List α,(l.map fun x=>(l.filter (X x)).length).sum=cl (fun x z=>X x z||X z x) l:=fun l=>by
 have key: ∀(a:α) (l:List α),((l.filter fun z=>X a z||X z a)).length=(l.filter (X a)).length+(l.map fun z=>if X z a=true then 1 else 0).sum:=fun a l=>by
  induction l with
  | nil=>rfl
  | cons b r ih=>
   have:=ha a b
   simp only[List.filter_cons,ZJ,Qbd]
   cases e1:X a b<;>cases e2:X b a
   ·simp[ih]
   ·simp[ih];omega
   ·simp[ih];omega
   ·rw[this e1]at e2;cases e2
 induction l with
 | nil=>rfl
 | cons a r ih=>
  show (((a::r).map fun x=>((a::r).filter (X x)).length).sum)=(r.filter fun z=>X a z||X z a).length+cl _ r
  rw[ZJ,Qbd,ZR (by rw[hd a];decide),key a r, <-ih]
  have e: ∀l:List α,(l.map fun x=>((a::r).filter (X x)).length).sum=(l.map fun z=>if X z a=true then 1 else 0).sum+(l.map fun x=>(r.filter (X x)).length).sum:=fun l=>by
   induction l with
   | nil=>rfl
   | cons b l Xz=>
    rw[ZJ,Qbd,Xz,ZJ,Qbd,ZJ,Qbd]
    cases e1:X b a
    ·rw[ZR (by rw[e1];decide)]
     simp;omega
    ·rw[Z4 e1]
     simp;omega
  rw[e r]
  omega
theorem Qj (h:E5 ch st P):Gr st [] P=cl (fun x z=>iL x z||iL z x) ch:=by
 rw[LD h,Cf]
 ·intro x;unfold iL;rw[decide_eq_false (kb _)];rfl
 ·intro x z q
  unfold iL at q ⊢
  rw[Z2,Z2,decide_eq_true_iff,decide_eq_true_iff,decide_eq_true_iff]at q
  rw[decide_eq_false (by omega)]
  rfl
end
noncomputable def JG (p q:Nat):Int:=if (q:Int)<p then q else p
noncomputable def dG (cs:List C4):List Nat:=cs.flatMap fun x=>[x.2.2.1,x.2.2.2]
noncomputable def gh (cs:List C4):List (Key×V):=cs.flatMap fun x=>[(Sum.inl (x.2.2.1:Int),V.int (JG x.2.2.1 x.2.2.2)),(Sum.inl (x.2.2.2:Int),V.int (JG x.2.2.1 x.2.2.2))]
noncomputable def jd (cs:List C4):List (Nat×Nat):=cs.map fun x=>(min x.2.2.1 x.2.2.2,max x.2.2.1 x.2.2.2)
theorem gU: ∀cs:List C4,(gh cs).map (·.1)=(dG cs).map fun n:Nat=>(Sum.inl (n:Int):Key)
 | []=>rfl
 | x::r=>by
  unfold gh dG
  rw[ZT,ZT,WC,WC]
  exact congrArg _ (gU r)
theorem wV {aP:List (Key×V)} {k:Key} (h:k∉aP.map (·.1)):dD aP k=none:=by
 induction aP with
 | nil=>rfl
 | cons a r ih=>
  rw[ZJ,Y5,not_or]at h
  rw[cw (fun e=>h.1 e.symm),ih h.2]
theorem E9 {aP:List (Key×V)} (nd:(aP.map (·.1)).Nodup) {k:Key} {v:V} (h:(k,v)∈aP):dD aP k=some v:=by
 induction aP with
 | nil=>exact absurd h Zw
 | cons a r ih=>
  rw[ZJ,Z6]at nd
  rcases Y5.mp h with e | e
  ·subst e;exact cO rfl
  ·rw[cw (fun z=>nd.1 (ZN.mpr ⟨_,e,z.symm⟩))]
   exact ih nd.2 e
theorem LF: ∀{l:List Nat},l.Nodup->(l.map fun n:Nat=>(Sum.inl (n:Int):Key)).Nodup:=fun {l} h=>Qao.mpr (h.imp fun uZ z=>uZ (by have:=Sum.inl.inj z;omega))
noncomputable def ins (l:List Nat):List V:=l.map fun n=>V.int (n:Nat)
theorem lr (l:List Nat):(ins l).length=l.length:=by unfold ins;rw[UX]
theorem E_ (l:List Nat) (n:Nat):ins l++[V.int (n:Nat)]=ins (l++[n]):=by unfold ins;rw[WC];rfl
theorem Fb {l:List Nat} {i n:Nat} (h:l[i]? =some n):(ins l)[i]? =some (V.int (n:Nat)):=by unfold ins;rw[ZA,h];rfl
def iD (_:PySem.W.Frag):Sp:=fun vs H Q _=> ∃(a:Addr) (qs:List Q4),vs=[.ref a]/\H a=some (.lst (nF qs))/\(∀x∈qs,qE H x)/\qs.length<=1000/\(dG (qs.map Q4.v)).Nodup/\ ∀d H',H d=none->H' d=some (.dK (gh (qs.map Q4.v)))->ao H H'->Q (.ref d) H'
theorem mD {K:PySem.W.Frag} {vs:List V} {H:Hp} {Q:VK} {E:XK} (h:iD K vs H Q E):vs.length=1:=by obtain ⟨_,_,rfl,_⟩:=h;rfl
def lA (_:PySem.W.Frag):Sp:=fun vs H Q _=> ∃(a:Addr) (l:List Nat) (p:Nat),vs=[.ref a, .int p]/\H a=some (.lst (ins l))/\l.Pairwise (· < ·)/\p∈l/\l.length<=100000/\Q (.int (l.idxOf p:Nat)) H
theorem qG {K:PySem.W.Frag} {vs:List V} {H:Hp} {Q:VK} {E:XK} (h:lA K vs H Q E):vs.length=2:=by obtain ⟨_,_,_,rfl,_⟩:=h;rfl
def gs (_:PySem.W.Frag):Sp:=fun vs H Q _=> ∃(a:Addr) (qs:List Q4),vs=[.ref a]/\H a=some (.lst (nF qs))/\(∀x∈qs,qE H x)/\qs.length<=24/\(dG (qs.map Q4.v)).Nodup/\ ∀H',ao H H'->Q (.int (cl (fun x z=>iL x z||iL z x) (jd (qs.map Q4.v)):Nat)) H'
theorem kj {K:PySem.W.Frag} {vs:List V} {H:Hp} {Q:VK} {E:XK} (h:gs K vs H Q E):vs.length=1:=by obtain ⟨_,_,rfl,_⟩:=h;rfl
theorem Cg (cs:List C4) (x:C4):dG (cs++[x])=dG cs++[x.2.2.1,x.2.2.2]:=by unfold dG;rw[Z1,Qa2]
theorem Ci (cs:List C4) (x:C4):gh (cs++[x])=gh cs++[(Sum.inl (x.2.2.1:Int),V.int (JG x.2.2.1 x.2.2.2)),(Sum.inl (x.2.2.2:Int),V.int (JG x.2.2.1 x.2.2.2))]:=by unfold gh;rw[Z1,Qa2]
theorem wW (cs:List C4):(gh cs).length=2*cs.length:=by
 induction cs with
 | nil=>rfl
 | cons x r ih=>
  unfold gh at ih ⊢
  rw[ZT,UY,ih,ZQ]
  show 2+2*r.length=2*(r.length+1)
  omega
theorem Ic {cs:List C4} {x:C4} (nd:(dG (cs++[x])).Nodup):putK (putK (gh cs) (Sum.inl (x.2.2.1:Int)) (V.int (JG x.2.2.1 x.2.2.2))) (Sum.inl (x.2.2.2:Int)) (V.int (JG x.2.2.1 x.2.2.2))=gh (cs++[x]):=by
 rw[Cg,Qap]at nd
 obtain ⟨n1,n2,n3⟩:=nd
 have k: ∀n:Nat,n∉dG cs->(Sum.inl (n:Int):Key)∉(gh cs).map (·.1):=fun n hn z=>by
  rw[gU]at z
  obtain ⟨m,hm,e⟩:=ZN.mp z
  have:m=n:=by have:=Sum.inl.inj e;omega
  exact hn (this▸hm)
 have h1:x.2.2.1∉dG cs:=fun z=>n3 _ z _ (by simp) rfl
 have h2:x.2.2.2∉dG cs:=fun z=>n3 _ z _ (by simp) rfl
 have h3:x.2.2.1≠x.2.2.2:=by
  rw[Z6]at n2
  simpa using n2.1
 rw[vI _ (wV (k _ h1)),vI,Ci,Qat]
 ·rfl
 ·refine wV fun z=>?_
  rw[WC,Zz]at z
  rcases z with z | z
  ·exact k _ h2 z
  ·have:=Sum.inl.inj (UZ.mp z)
   omega
noncomputable def cH (cs:List C4) (p:Nat):Nat:=(((dD (gh cs) (Sum.inl (p:Int))).map fun v=>match v with | .int i=>i.toNat | _=>0).getD 0)
theorem Fc (p q:Nat):JG p q=(min p q:Nat):=by unfold JG;split<;>omega
theorem JH {cs:List C4} (nd:(dG cs).Nodup) {x:C4} (hx:x∈cs):(dD (gh cs) (Sum.inl (x.2.2.1:Int))=some (.int (min x.2.2.1 x.2.2.2:Nat))/\dD (gh cs) (Sum.inl (x.2.2.2:Int))=some (.int (min x.2.2.1 x.2.2.2:Nat)))/\cH cs x.2.2.1=min x.2.2.1 x.2.2.2/\cH cs x.2.2.2=min x.2.2.1 x.2.2.2:=by
 have kn:((gh cs).map (·.1)).Nodup:=by rw[gU];exact LF nd
 have e1:dD (gh cs) (Sum.inl (x.2.2.1:Int))=some (.int (min x.2.2.1 x.2.2.2:Nat)):=by
  rw[<-Fc]
  exact E9 kn (ZU.mpr ⟨x,hx,by simp⟩)
 have e2:dD (gh cs) (Sum.inl (x.2.2.2:Int))=some (.int (min x.2.2.1 x.2.2.2:Nat)):=by
  rw[<-Fc]
  exact E9 kn (ZU.mpr ⟨x,hx,by simp⟩)
 refine ⟨⟨e1,e2⟩,?_,?_⟩
 ·unfold cH;rw[e1];exact WB _
 ·unfold cH;rw[e2];exact WB _
theorem AL (cs:List C4):((jd cs).flatMap fun x=>[x.1,x.2]).Perm (dG cs):=by
 induction cs with
 | nil=>exact .nil
 | cons x r ih=>
  unfold jd dG at ih ⊢
  rw[ZJ,ZT,ZT]
  refine List.Perm.append ?_ ih
  show [min x.2.2.1 x.2.2.2,max x.2.2.1 x.2.2.2].Perm [x.2.2.1,x.2.2.2]
  by_cases z:x.2.2.1<=x.2.2.2
  ·rw[Qal z,Qby z]
  ·rw[Qas (by omega),Qbr (by omega)]
   exact List.Perm.swap _ _ _
theorem LG {cs:List C4} {P:List Nat} (nd:(dG cs).Nodup) (hp:P.Perm (dG cs)) (up:P.Pairwise (· < ·)):E5 (jd cs) (cH cs) P:=by
 refine ⟨fun x hx=>?_,((AL cs).nodup_iff).mpr nd,hp.trans (AL cs).symm,up,fun x hx=>?_⟩
 ·obtain ⟨c,hc,rfl⟩:=ZN.mp hx
  have dv:c.2.2.1≠c.2.2.2:=fun z=>by
   have: ∀{cs:List C4},(dG cs).Nodup-> ∀c∈cs,c.2.2.1≠c.2.2.2:=fun {cs}=>by
    induction cs with
    | nil=>exact fun _ _ h=>absurd h Zw
    | cons a r ih=>
     intro nd c hc
     unfold dG at nd
     rw[ZT,Qap]at nd
     rcases Y5.mp hc with e | e
     ·subst e
      have:=nd.1
      rw[Z6]at this
      simpa using this.1
     ·exact ih nd.2.1 c e
   exact this nd c hc z
  show min c.2.2.1 c.2.2.2<max c.2.2.1 c.2.2.2
  omega
 ·obtain ⟨c,hc,rfl⟩:=ZN.mp hx
  obtain ⟨_,e1,e2⟩:=JH nd hc
  show cH cs (min c.2.2.1 c.2.2.2)=min c.2.2.1 c.2.2.2/\cH cs (max c.2.2.1 c.2.2.2)=min c.2.2.1 c.2.2.2
  by_cases z:c.2.2.1<=c.2.2.2
  ·rw[Qal z,Qby z]at*
   exact ⟨e1,e2⟩
  ·rw[Qas (by omega),Qbr (by omega)]at*
   exact ⟨e2,e1⟩
theorem Fd {l:List Nat} {p:Nat} (h:p∈l):l.eraseIdx (l.idxOf p)=l.erase p:=(List.erase_eq_eraseIdx_of_idxOf rfl).symm
theorem behind {l:List Nat} (up:l.Pairwise (· < ·)) {p:Nat} (h:p∈l):(l.erase p).length - l.idxOf p=(l.filter fun x=>decide (p<x)).length:=by
 induction l with
 | nil=>exact absurd h Zw
 | cons a r ih=>
  rw[Qbg]at up
  by_cases z:a=p
  ·subst z
   rw[List.erase_cons_head,List.idxOf_cons_self,ZR (by simp),List.filter_eq_self.mpr (fun x hx=>decide_eq_true (up.1 x hx))]
   rfl
  ·have hr:=(Y5.mp h).resolve_left (Ne.symm z)
   rw[List.erase_cons_tail (by simpa using z),La,if_neg z,ZR (by
    have:=up.1 p hr
    simp;omega), <-ih up.2 hr,ZQ]
   omega
theorem LH {st:Nat->Nat} {P T R:List Nat} (h:P.Pairwise (· < ·)) (e:P=T++R) (R':List Nat):(n_ st T R').Pairwise (· < ·):=by
 rw[e,Qaz]at h
 exact h.1.filter _
theorem Ie {st:Nat->Nat} {T R:List Nat}:(n_ st T R).length<=T.length:=Qdr _ _
theorem LI {cs:List C4} (nd:(dG cs).Nodup) {p:Nat} (hp:p∈dG cs):dD (gh cs) (Sum.inl (p:Int))=some (.int (cH cs p:Nat)):=by
 unfold dG at hp
 obtain ⟨x,hx,e⟩:=ZU.mp hp
 obtain ⟨⟨e1,e2⟩,e3,e4⟩:=JH nd hx
 have e':p=x.2.2.1\/p=x.2.2.2:=by simpa using e
 rcases e' with rfl | rfl
 ·rw[e1,e3]
 ·rw[e2,e4]
theorem yZ {ms:List Int} {l:List Nat} (nd:l.Nodup) (hp:ms.Perm (l.map fun n:Nat=>(n:Int))) (hw:ms.Pairwise fun a b=> ¬b<a): ∃P:List Nat,ms.map V.int=ins P/\P.Perm l/\P.Pairwise (· < ·):=by
 have qF: ∀m∈ms, ∃n:Nat,m=n:=fun m hm=>by
  obtain ⟨n,_,rfl⟩:=ZN.mp (hp.mem_iff.mp hm)
  exact ⟨n,rfl⟩
 have e1:ms=(ms.map Int.toNat).map fun n:Nat=>(n:Int):=by
  rw[Qaf]
  refine (Qee ms).symm.trans (Qb5 fun m hm=>?_)
  obtain ⟨n,rfl⟩:=qF m hm
  exact (congrArg _ (WB n)).symm
 have p1:(ms.map Int.toNat).Perm l:=by
  have:=hp.map Int.toNat
  rw[Qaf]at this
  have e2:l.map (Int.toNat ∘ fun n:Nat=>(n:Int))=l:=(Qb5 fun n _=>WB n).trans (Qee l)
  rwa [e2]at this
 refine ⟨ms.map Int.toNat,?_,p1,?_⟩
 ·unfold ins
  conv=>lhs;rw[e1]
  rw[Qaf]
  rfl
 ·have Rb:(ms.map Int.toNat).Nodup:=p1.nodup_iff.mpr nd
  have XA:(ms.map Int.toNat).Pairwise fun a b=> ¬b<a:=by
   rw[e1,Qao]at hw
   exact hw.imp fun h z=>h (by omega)
  refine Qd8 (fun {a b} h=>?_) (List.Pairwise.and XA Rb)
  have:=h.1
  have:=h.2
  omega
theorem Fe {st:Nat->Nat} {P:List Nat} {k p:Nat} (h:P[k]? =some p):Gr st (P.take k) (P.drop k)=Ce st (P.take k) (P.drop (k+1)) p+Gr st (P.take (k+1)) (P.drop (k+1)):=by
 obtain ⟨hk,e⟩:=Kx.mp h
 rw[Qah hk,e]
 show Ce st _ _ p+Gr st (P.take k++[p]) _=_
 rw[take_snoc h]
theorem Qk {n k:Nat} (h:k<n):seqIndex? (k:Int) n=some k:=by
 unfold seqIndex?
 simp
 omega
theorem r_: ∀(l:List Nat) (k:Nat),(ins l).eraseIdx k=ins (l.eraseIdx k)
 | [],_=>rfl
 | _::_,0=>rfl
 | a::l,k+1=>congrArg (V.int (a:Nat):: ·) (r_ l k)
noncomputable def cst (y w:List Nat) (i:Int):Int:=wD y (aF (rd w (i - 1))) (rd w i)
theorem Ff (y w:List Nat) (p k:Int):fG y (sq w p) k=cst y w (p+k):=by
 unfold fG cst sq
 rw[show p+(k - 1)=p+k - 1 by omega]
noncomputable def xx (n:Int):Nat:=(48+n).toNat
noncomputable def stx (y w:List Nat):List Nat:=(List.range w.length).map fun i:Nat=>xx (cst y w i)
theorem di (y w:List Nat):(stx y w).length=w.length:=by unfold stx;rw[UX,Qcj]
theorem LJ: ∀n:Nat,n<10->dg n=[48+n]:=by decide+kernel
noncomputable def je (lg n:Nat):Nat:=3+lg / max n 1
noncomputable def mE (y u:List Nat) (lg r:Nat):List (Str×V):=dS "backward" (.str (S (dB (je lg u.length) (stx y u).reverse))) (dS "onward" (.str (S (dB (je lg u.length) (stx y u)))) (dS "leads" (.bl (leads u)) (dS "root_size" (.int r) (dS "size" (.int u.length) []))))
noncomputable def JI (t w:Addr) (p:Nat):List (Str×V):=dS "place" (.int p) (dS "way" (.ref w) (dS "strand" (.ref t) []))
section
variable {y u:List Nat} {lg r:Nat} {t w:Addr} {p:Nat}
theorem AM:(mE y u lg r).lookup ("size":Str)=some (.int u.length):=by
 unfold mE
 rw[aO,if_neg (by decide+kernel),aO,if_neg (by decide+kernel),aO,if_neg (by decide+kernel),aO,if_neg (by decide+kernel),aO,if_pos rfl]
theorem oa:(mE y u lg r).lookup ("root_size":Str)=some (.int r):=by
 unfold mE
 rw[aO,if_neg (by decide+kernel),aO,if_neg (by decide+kernel),aO,if_neg (by decide+kernel),aO,if_pos rfl]
theorem Fg:(mE y u lg r).lookup ("leads":Str)=some (.bl (leads u)):=by
 unfold mE
 rw[aO,if_neg (by decide+kernel),aO,if_neg (by decide+kernel),aO,if_pos rfl]
theorem Ql:(mE y u lg r).lookup ("onward":Str)=some (.str (S (dB (je lg u.length) (stx y u)))):=by
 unfold mE
 rw[aO,if_neg (by decide+kernel),aO,if_pos rfl]
theorem Ig:(mE y u lg r).lookup ("backward":Str)=some (.str (S (dB (je lg u.length) (stx y u).reverse))):=by
 unfold mE
 rw[aO,if_pos rfl]
theorem lB:(JI t w p).lookup ("place":Str)=some (.int p):=by unfold JI;rw[aO,if_pos rfl]
theorem mF:(JI t w p).lookup ("way":Str)=some (.ref w):=by unfold JI;rw[aO,if_neg (by decide+kernel),aO,if_pos rfl]
theorem sd:(JI t w p).lookup ("strand":Str)=some (.ref t):=by unfold JI;rw[aO,if_neg (by decide+kernel),aO,if_neg (by decide+kernel),aO,if_pos rfl]
end
theorem da (f:Str) (v:V): ∀fs:List (Str×V),(dS f v fs).length<=fs.length+1
 | []=>Q3 _
 |(g,x)::r=>by
  unfold dS
  split
  ·exact Qbc _
  ·exact Qay (da f v r)
structure Sn where
 a:Addr
 t:Addr
 wy:Addr
 c:Nat
 i:Nat
 u:List Nat
 p:Nat
 r:Nat
structure Cj (H:Hp) (C a:Addr) (y u:List Nat) (lg r:Nat):Prop where
 ob: ∃dx,H a=some (.ins C dx (mE y u lg r))
 sw:SW y u
 uz:u.length<=lg
 lz:lg<=1000
 rt:bO u r
theorem Cj.same {H H':Hp} {C a:Addr} {y u:List Nat} {lg r:Nat} (h:Cj H C a y u lg r) (s:ao H H'):Cj H' C a y u lg r:=by
 obtain ⟨dx,e⟩:=h.ob
 exact ⟨⟨dx,s _ _ e⟩,h.sw,h.uz,h.lz,h.rt⟩
structure jf (H:Hp) (CW CS:Addr) (y:List Nat) (lg:Nat) (s:Sn):Prop where
 ob: ∃dx,H s.a=some (.ins CS dx (JI s.t s.wy s.p))
 st:H s.t=some (.tup [.int s.c, .int s.i])
 wy:Cj H CW s.wy y s.u lg s.r
 pz:s.p<s.u.length
theorem jf.same {H H':Hp} {CW CS:Addr} {y:List Nat} {lg:Nat} {s:Sn} (h:jf H CW CS y lg s) (sm:ao H H'):jf H' CW CS y lg s:=by
 obtain ⟨dx,e⟩:=h.ob
 exact ⟨⟨dx,sm _ _ e⟩,sm _ _ h.st,h.wy.same sm,h.pz⟩
noncomputable def CM (y:List Nat) (lg:Nat) (s:Sn):List Nat:=(dB (je lg s.u.length) (stx y s.u)).drop (s.p+1)
noncomputable def CN (y:List Nat) (lg:Nat) (s:Sn):List Nat:=(dB (je lg s.u.length) (stx y s.u).reverse).drop (s.u.length - 1 - s.p)
noncomputable def seg (l:List Nat) (x z:Nat):List Nat:=(l.drop x).take (z - x)
def iE (_:PySem.W.Frag):Sp:=fun vs H Q _=> ∃(y w:List Nat) (i:Nat),vs=[.str (S y), .str (S w), .int i]/\Yd y/\y.length<=8/\SW y w/\w.length<=1000/\i<w.length/\ ∀(n:Nat) H',cst y w i=n->n<8->ao H H'->Q (.int n) H'
theorem mG {K:PySem.W.Frag} {vs:List V} {H:Hp} {Q:VK} {E:XK} (h:iE K vs H Q E):vs.length=3:=by obtain ⟨_,_,_,rfl,_⟩:=h;rfl
def wX (_:PySem.W.Frag) (C:Addr):Sp:=fun vs H Q _=> ∃(x dx:Addr) (y w:List Nat) (lg:Nat),vs=[.ref x, .str (S y), .str (S w), .int lg]/\H x=some (.ins C dx [])/\Yd y/\y.length<=8/\SW y w/\w.length<=lg/\lg<=1000/\ ∀(r:Nat) H',bO w r->H' x=some (.ins C dx (mE y w lg r))->aN x H H'->Q .ft H'
theorem Ck {K:PySem.W.Frag} {C:Addr} {vs:List V} {H:Hp} {Q:VK} {E:XK} (h:wX K C vs H Q E):vs.length=4:=by obtain ⟨_,_,_,_,_,rfl,_⟩:=h;rfl
def se (_:PySem.W.Frag) (C:Addr):Sp:=fun vs H Q _=> ∃(x dx t w:Addr) (p:Nat),vs=[.ref x, .ref t, .ref w, .int p]/\H x=some (.ins C dx [])/\ ∀H',H' x=some (.ins C dx (JI t w p))->aN x H H'->Q .ft H'
theorem y0 {K:PySem.W.Frag} {C:Addr} {vs:List V} {H:Hp} {Q:VK} {E:XK} (h:se K C vs H Q E):vs.length=4:=by obtain ⟨_,_,_,_,_,rfl,_⟩:=h;rfl
def fW (_:PySem.W.Frag) (CW CS:Addr):Sp:=fun vs H Q _=> ∃(y:List Nat) (lg:Nat) (s:Sn) (x z:Nat),vs=[.ref s.a, .int x, .int z]/\y.length<=8/\jf H CW CS y lg s/\x<=z/\Q (.str (S (seg (CM y lg s) x z))) H
theorem nG {K:PySem.W.Frag} {CW CS:Addr} {vs:List V} {H:Hp} {Q:VK} {E:XK} (h:fW K CW CS vs H Q E):vs.length=3:=by obtain ⟨_,_,_,_,_,rfl,_⟩:=h;rfl
def gD (_:PySem.W.Frag) (CW CS:Addr):Sp:=fun vs H Q _=> ∃(y:List Nat) (lg:Nat) (s:Sn) (x z:Nat),vs=[.ref s.a, .int x, .int z]/\y.length<=8/\jf H CW CS y lg s/\x<=z/\Q (.str (S (seg (CN y lg s) x z))) H
theorem pJ {K:PySem.W.Frag} {CW CS:Addr} {vs:List V} {H:Hp} {Q:VK} {E:XK} (h:gD K CW CS vs H Q E):vs.length=3:=by obtain ⟨_,_,_,_,_,rfl,_⟩:=h;rfl
theorem Ih {l:List Nat} {a b:Nat} (h:a<=b):cut l (some (a:Int)) (some (b:Int))=(l.drop a).take (b - a):=by
 unfold cut
 rw[HT.gi,HT.gi]
 by_cases z:a<=l.length
 ·rw[Qal z]
  by_cases z2:b<=l.length
  ·rw[Qal z2]
  ·rw[Qas (by omega),ZO (by rw[ZL];omega),ZO (by rw[ZL];omega)]
 ·rw[Qas (by omega),Qas (by omega),Qa3 (Q3 _),Qa3 (by omega)]
  simp
theorem AN {l:List Nat} {f x z:Nat} (h:x<=z):cut l (some ((f:Int)+x)) (some ((f:Int)+z))=seg (l.drop f) x z:=by
 rw[show (f:Int)+x=((f+x:Nat):Int) by omega,show (f:Int)+z=((f+z:Nat):Int) by omega,Ih (by omega)]
 unfold seg
 rw[List.drop_drop,show f+z - (f+x)=z - x by omega]
theorem lC {lg n:Nat} (h:1<=n):n*je lg n<=3*n+lg/\2*n+lg<n*je lg n:=by
 unfold je
 rw[Qbr h,Nat.mul_add]
 have h1:=Qca lg n
 have h2:=Qcd lg (show 0<n by omega)
 omega
theorem sg (m:Nat) (l:List Nat):(dB m l).length=l.length*m:=by
 unfold dB
 rw[List.length_flatten,List.map_replicate,List.sum_replicate_nat,Qbb]
theorem SW.dP {y w:List Nat} (hy:Yd y) (h:SW y w):My.dP w=fF w:=by unfold My.dP;rw[h.core hy]
theorem uA (l:List Nat) (x z j:Nat):(seg l x z)[j]? =if j<z - x then l[x+j]? else none:=by
 unfold seg
 rw[Qce]
 split
 ·rw[Qa6]
 ·rfl
theorem y6 {l m:List Nat} {x z:Nat}:seg l x (x+z)=seg m x (x+z)↔ ∀k,x<=k->k<x+z->l[k]? =m[k]?:= by
 constructor
 ·intro h k h1 h2
  have:=congrArg (·[k - x]?) h
  simp only[uA]at this
  rwa [if_pos (by omega),if_pos (by omega),show x+(k - x)=k by omega]at this
 ·intro h
  refine Qd6 fun j=>?_
  rw[uA,uA]
  by_cases z':j<x+z - x
  ·rw[if_pos z',if_pos z',h (x+j) (by omega) (by omega)]
  ·rw[if_neg z',if_neg z']
noncomputable def LK (b:Bool) (y:List Nat) (lg:Nat) (s:Sn):List Nat:=if b=true then CM y lg s else CN y lg s
def jg (l m:List Nat) (n:Nat):Prop:= ∀k,k<n->l[k]? =m[k]?
def pK (_:PySem.W.Frag) (CW CS fa fb:Addr):Sp:=fun vs H Q _=> ∃(y:List Nat) (lg:Nat) (s t:Sn) (b:Bool) (en:Nat),vs=[.ref (if b=true then fa else fb), .ref s.a, .ref t.a, .int en]/\y.length<=8/\jf H CW CS y lg s/\jf H CW CS y lg t/\en<=100000/\ ∀m:Nat,jg (LK b y lg s) (LK b y lg t) m->(en<=m\/(LK b y lg s)[m]?≠ (LK b y lg t)[m]?)->Q (.int m) H
theorem wY {K:PySem.W.Frag} {CW CS fa fb:Addr} {vs:List V} {H:Hp} {Q:VK} {E:XK} (h:pK K CW CS fa fb vs H Q E):vs.length=4:=by obtain ⟨_,_,_,_,_,_,rfl,_⟩:=h;rfl
theorem jg.more {l m:List Nat} {x z:Nat} (h:jg l m x) (e:seg l x (x+z)=seg m x (x+z)):jg l m (x+z):=fun k hk=>by
 by_cases q:k<x
 ·exact h k q
 ·exact y6.mp e k (by omega) hk
theorem Fh {l m:List Nat} {x z:Nat} (h:seg l x (x+z)≠seg m x (x+z)): ∃k,x<=k/\k<x+z/\l[k]?≠ m[k]?:= Classical.byContradiction fun q=>h (y6.mpr fun k h1 h2=>Classical.byContradiction fun r=>q ⟨k,h1,h2,r⟩)
noncomputable def y7 (s:Sn):Int×Int:=if leads s.u=true then ((s.c:Int),((s.p / s.r:Nat):Int)) else (-(s.c:Int), -(((s.u.length - 1 - s.p) / s.r:Nat):Int))
def pL (_:PySem.W.Frag) (CW CS:Addr):Sp:=fun vs H Q _=> ∃(y:List Nat) (lg:Nat) (s:Sn),vs=[.ref s.a]/\jf H CW CS y lg s/\ ∀p H',H p=none->H' p=some (.tup [.int (y7 s).1, .int (y7 s).2])->ao H H'->Q (.ref p) H'
theorem wZ {K:PySem.W.Frag} {CW CS:Addr} {vs:List V} {H:Hp} {Q:VK} {E:XK} (h:pL K CW CS vs H Q E):vs.length=1:=by obtain ⟨_,_,_,rfl,_⟩:=h;rfl
noncomputable def jO (y:List Nat) (M:Nat) (s:Sn):List Int:=kk y (sq s.u s.p) 0 M++[(y7 s).1,(y7 s).2]
def jh (_:PySem.W.Frag) (CW CS:Addr):Sp:=fun vs H Q _=> ∃(y:List Nat) (lg:Nat) (s t:Sn),vs=[.ref s.a, .ref t.a]/\Yd y/\y.length<=8/\jf H CW CS y lg s/\jf H CW CS y lg t/\rd s.u s.p=rd t.u t.p/\ ∀H',ao H H'->Q (.bl (a_ (jO y (2*lg) s) (jO y (2*lg) t))) H'
theorem nH {K:PySem.W.Frag} {CW CS:Addr} {vs:List V} {H:Hp} {Q:VK} {E:XK} (h:jh K CW CS vs H Q E):vs.length=2:=by obtain ⟨_,_,_,_,rfl,_⟩:=h;rfl
theorem ji {u:List Nat} {r:Nat} (hn:u≠[]) (h:bO u r):1<=r/\r<=u.length:=by
 rcases h with ⟨z,_⟩ | ⟨h1,h2,_⟩
 ·exact absurd z hn
 ·exact ⟨h1,h2⟩
theorem AO {y u:List Nat} {i:Nat} (h:i<u.length):(stx y u)[i]? =some (xx (cst y u i)):=by
 unfold stx
 rw[ZA,List.getElem?_range h]
 rfl
theorem uC (y u:List Nat) (i:Int):cst y u (i%u.length)=cst y u i:=by
 unfold cst
 rw[fA, <-fA u (i%u.length - 1),Qc1,Qbw _ (Qd9 _), <-Qc1,fA]
theorem Fi {y:List Nat} {lg:Nat} {s:Sn} (hn:s.u≠[]) {k:Nat} (h:s.p+1+k<s.u.length*je lg s.u.length):(CM y lg s)[k]? =some (xx (fG y (sq s.u s.p) (k+1))):=by
 have hp:=U0.mpr hn
 unfold CM
 rw[Qa6,kS _ _ _ (by rw[di,Qbb];exact h),di,AO (Qcd _ hp),Ff,Qcq,uC]
 congr 3
 omega
theorem Fj {y:List Nat} {lg:Nat} {s:Sn} (hn:s.u≠[]) (hp:s.p<s.u.length) {k:Nat} (h:s.u.length - 1 - s.p+k<s.u.length*je lg s.u.length):(CN y lg s)[k]? =some (xx (fG y (sq s.u s.p) (-(k:Int)))):=by
 have hl:=U0.mpr hn
 unfold CN
 rw[Qa6,kS _ _ _ (by rw[Z0,di,Qbb];exact h),Z0,di]
 have hm:=Qcd (s.u.length - 1 - s.p+k) hl
 rw[Qco (by rw[di];exact hm),di,AO (by omega),Ff]
 congr 2
 rw[<-uC y s.u (s.p+ -(k:Int)), <-uC y s.u ((s.u.length - 1 - (s.u.length - 1 - s.p+k)%s.u.length:Nat):Int)]
 congr 1
 have e:((s.u.length - 1 - (s.u.length - 1 - s.p+k)%s.u.length:Nat):Int)=(s.u.length:Int) - 1 - ((s.u.length:Int) - 1 - s.p+k)%s.u.length:=by
  have:(((s.u.length - 1 - s.p+k)%s.u.length:Nat):Int)=((s.u.length:Int) - 1 - s.p+k)%s.u.length:=by
   rw[Qcq];congr 1;omega
  omega
 rw[e,Qc1,Qbw _ (Qd9 _), <-Qc1]
 congr 1
 omega
theorem si {lg:Nat} {s:Sn} {en:Nat} (hp:s.p<s.u.length) (he:en<=s.u.length+lg):s.p+1+en<s.u.length*je lg s.u.length+1/\s.u.length - 1 - s.p+en<s.u.length*je lg s.u.length:=by
 have:=(lC (lg:=lg) (n:=s.u.length) (by omega)).2
 omega
theorem AQ {u:List Nat} {r:Nat} (hn:u≠[]) (h:bO u r) (p k:Int):sq u p (k+r)=sq u p k:=by
 have:=((ja hn h).2 (p+r) p).mpr (by rw[show p+(r:Int) - p=r by omega,Int.emod_self])
 have e:=this k
 unfold sq at e ⊢
 rw[show p+(k+r)=p+r+k by omega]
 exact e
theorem AR {a b:Int} (ha:0<=a) (hb:0<=b) (h:xx a=xx b):a=b:=by unfold xx at h;omega
theorem Fl {a b:Int} (ha:0<=a) (hb:0<=b):xx a<xx b↔a<b:=by unfold xx;omega
theorem AS {y:List Nat} {f:Int->Nat} (hy:Yd y) (h:iK y f) (k:Int):0<=fG y f k:=by
 have:=(eO (hy.cl _ (h.bR (k - 1))) (h.bR k) (Ne.symm (h.red k))).1
 unfold fG
 omega
theorem AU {l m:List Nat} {en a n:Nat} (ha:a<en) (h1: ∀k,k<a->l[k]? =m[k]?) (h2:l[a]?≠ m[a]?) (g1:jg l m n) (g2:en<=n\/l[n]?≠ m[n]?):n=a:=by
 by_cases z:a<n
 ·exact absurd (g1 a z) h2
 ·by_cases z2:n<a
  ·rcases g2 with g2 | g2
   ·omega
   ·exact absurd (h1 n z2) g2
  ·omega
theorem AV {l m:List Nat} {en n:Nat} (h1: ∀k,k<en->l[k]? =m[k]?) (g2:en<=n\/l[n]?≠ m[n]?):en<=n:=by
 rcases g2 with g2 | g2
 ·exact g2
 ·exact Classical.byContradiction fun z=>g2 (h1 n (by omega))
theorem oe {l:List Nat} {a x:Nat} (h:l[a]? =some x):seg l a (a+1)=[x]:=by
 obtain ⟨ha,e⟩:=Kx.mp h
 unfold seg
 rw[Qah ha,e,show a+1 - a=1 by omega]
 rfl
theorem Fn (x z:Nat):decide ([x]<[z])=decide (x<z):=decide_eq_decide.mpr ⟨fun h=>(Qds.mp h).elim id fun q=>absurd q.2 (Qci _),fun h=>Qds.mpr (.inl h)⟩
theorem Ii (a b c d:Int):iZ a b c d=a_ [a,b] [c,d]:=by
 unfold iZ
 show _=if a=c then (if b=d then a_ [] [] else decide (b<d)) else decide (a<c)
 by_cases z:a=c
 ·rw[if_pos z,if_pos z]
  by_cases q:b=d
  ·rw[if_pos q,q];simp[a_]
  ·rw[if_neg q]
 ·rw[if_neg z,if_neg z]
noncomputable def AW (ss:List Sn):List V:=ss.map fun s=>V.ref s.a
theorem lD (ss:List Sn):(AW ss).length=ss.length:=by unfold AW;rw[UX]
theorem LL {ss:List Sn} {i:Nat} {s:Sn} (h:ss[i]? =some s):(AW ss)[i]? =some (V.ref s.a):=by unfold AW;rw[ZA,h];rfl
theorem Ij {ss:List Sn} {i:Nat} {x:V} (h:(AW ss)[i]? =some x): ∃s,ss[i]? =some s/\x=V.ref s.a:=by
 unfold AW at h
 rw[ZA]at h
 cases e:ss[i]? with
 | none=>rw[e]at h;cases h
 | some p=>rw[e]at h;cases h;exact ⟨p,rfl,rfl⟩
def Cm (y:List Nat) (M:Nat) (ss:List Sn):Prop:=ss.Pairwise fun s t=>a_ (jO y M t) (jO y M s)=false
def iF (_:PySem.W.Frag) (CW CS:Addr):Sp:=fun vs H Q _=> ∃(y:List Nat) (lg:Nat) (a:Addr) (ss:List Sn) (t:Sn),vs=[.ref a, .ref t.a]/\Yd y/\y.length<=8/\H a=some (.lst (AW ss))/\(∀s∈ss,jf H CW CS y lg s/\rd s.u s.p=rd t.u t.p)/\jf H CW CS y lg t/\Cm y (2*lg) ss/\ss.length<=100000/\
 ∀(n:Nat) H',n<=ss.length->(∀k s,ss[k]? =some s->k<n->a_ (jO y (2*lg) s) (jO y (2*lg) t)=true)->(∀k s,ss[k]? =some s->n<=k->a_ (jO y (2*lg) s) (jO y (2*lg) t)=false)->ao H H'->Q (.int n) H'
theorem mH {K:PySem.W.Frag} {CW CS:Addr} {vs:List V} {H:Hp} {Q:VK} {E:XK} (h:iF K CW CS vs H Q E):vs.length=2:=by obtain ⟨_,_,_,_,_,rfl,_⟩:=h;rfl
structure Wp where
 t:Addr
 a:Addr
 b:Addr
 r:Nat
 q:Nat
noncomputable def Gs (l:List Wp):List V:=l.map fun p=>V.ref p.t
theorem Fo {l:List Wp} {i:Nat} {p:Wp} (h:l[i]? =some p):(Gs l)[i]? =some (V.ref p.t):=by unfold Gs;rw[ZA,h];rfl
theorem Fp (l:List Wp) (p:Wp):Gs l++[V.ref p.t]=Gs (l++[p]):=by unfold Gs;rw[WC];rfl
structure uD (H:Hp) (C:Addr) (y:List Nat) (lg:Nat) (w:List Nat) (p:Wp):Prop where
 tp:H p.t=some (.tup [.ref p.a, .ref p.b])
 on:Cj H C p.a y w lg p.r
 bk:Cj H C p.b y (gK w) lg p.q
theorem uD.same {H H':Hp} {C:Addr} {y:List Nat} {lg:Nat} {w:List Nat} {p:Wp} (h:uD H C y lg w p) (s:ao H H'):uD H' C y lg w p:=⟨s _ _ h.tp,h.on.same s,h.bk.same s⟩
structure y8 (w:List Nat) (c i:Nat) (s:Sn):Prop where
 ec:s.c=c
 ei:s.i=i
 eu:s.u=if aC (rd w i)=true then w else gK w
 ep:s.p=if aC (rd w i)=true then i else w.length - 1 - i
def jj (_:PySem.W.Frag) (CW CS:Addr):Sp:=fun vs H Q _=> ∃(y:List Nat) (lg:Nat) (wt vt st:Addr) (w:List Nat) (ws:List (List Nat)) (lQ:List Wp) (p:Wp) (c i:Nat),vs=[.ref wt, .ref vt, .ref st]/\Yd y/\H wt=some (.tup (gL ws))/\H vt=some (.lst (Gs lQ))/\H st=some (.tup [.int c, .int i])/\ws[c]? =some w/\lQ[c]? =some p/\uD H CW y lg w p/\i<w.length/\
 ∀(s:Sn) H',y8 w c i s->s.t=st->jf H' CW CS y lg s->H s.a=none->ao H H'->Q (.ref s.a) H'
theorem nI {K:PySem.W.Frag} {CW CS:Addr} {vs:List V} {H:Hp} {Q:VK} {E:XK} (h:jj K CW CS vs H Q E):vs.length=3:=by obtain ⟨_,_,_,_,_,_,_,_,_,_,_,rfl,_⟩:=h;rfl
def jV (_:PySem.W.Frag):Sp:=fun vs H Q _=> ∃(wt:Addr) (ws:List (List Nat)) (band:Nat),vs=[.ref wt, .str (S [band])]/\H wt=some (.tup (gL ws))/\ws.length<=4/\(∀w∈ws,(∀c∈w,Lt c)/\w.length<=12)/\band∈bf/\ ∀(q:Addr) (ps:List Pr) (H':Hp),H q=none->H' q=some (.lst (rX ps))->(∀p∈ps,nE H' p)->ps.map Pr.pair=c_ band ws ws.length->ao H H'->Q (.ref q) H'
theorem pM {K:PySem.W.Frag} {vs:List V} {H:Hp} {Q:VK} {E:XK} (h:jV K vs H Q E):vs.length=2:=by obtain ⟨c,_,_,rfl,_⟩:=h;rfl
open Classical in
noncomputable def Qm (w:List Nat):Nat:=if h: ∃s,bO w s then choose h else 0
theorem y9 {w:List Nat} (hn:w≠[]):bO w (Qm w):=by
 have h:=Ai hn
 unfold Qm
 rw[dif_pos h]
 exact Classical.choose_spec h
theorem Fq {y w:List Nat} {r q:Nat} (hy:Yd y) (hw:SW y w) (h:bO w r) (g:bO (gK w) q):q=r:=by
 have hn:=hw.ne
 have ht:=pE hn
 have p1:=ji hn h
 have p2:=ji ht g
 have key: ∀d:Nat,(d:Int)%(r:Int)=0↔(d:Int)%(q:Int)=0:=fun d=>by
  have a:=(ja hn h).2 d 0
  have b:=(ja ht g).2 d 0
  rw[Qc0]at a b
  rw[<-a, <-b]
  constructor
  ·intro p k
   rw[jD hn,jD hn]
   unfold bq
   have:=p (-1 - (d:Int) - k)
   unfold sq at this
   have e1:rd w (-1 - (0:Int) - k)=rd w ((d:Int)+(-1 - (d:Int) - k)):=by congr 1;omega
   have e2:rd w (-1 - (d:Int) - k)=rd w (0+(-1 - (d:Int) - k)):=by congr 1;omega
   rw[e1,e2,this]
  ·intro p k
   have e: ∀x:Int,rd w x=aF (rd (gK w) (-1 - x)):=fun x=>by
    rw[mj hn,show -1 - (-1 - x)=x by omega,aR (hy.lt _ (hw.rd _))]
   unfold sq
   rw[e,e]
   have:=p (-1 - (d:Int) - k)
   unfold sq at this
   rw[show -1 - ((d:Int)+k)=0+(-1 - (d:Int) - k) by omega, <-this]
   congr 2
   omega
 have a:=(key r).mp (Int.emod_self)
 have b:=(key q).mpr (Int.emod_self)
 have a':r%q=0:=by
  have:((r%q:Nat):Int)=0:=by rw[<-a];rfl
  omega
 have b':q%r=0:=by
  have:((q%r:Nat):Int)=0:=by rw[<-b];rfl
  omega
 exact Qef (Nat.le_of_dvd (by omega) (Nat.dvd_of_mod_eq_zero a')) (Nat.le_of_dvd (by omega) (Nat.dvd_of_mod_eq_zero b'))
noncomputable def Ik (ws:List (List Nat)) (c:Nat):Bool:=leads (ws.getD c [])
noncomputable def Il (ws:List (List Nat)) (c:Nat):Nat:=Qm (ws.getD c [])
noncomputable def Rh (y:List Nat) (ws:List (List Nat)) (M:Nat) (x:Nat×Nat):List Int:=cG y ws (Ik ws) (Il ws) M x.1 x.2
theorem y8.line {y w:List Nat} {c i:Nat} {s:Sn} (hy:Yd y) (hw:SW y w) (hi:i<w.length) (h:y8 w c i s):sq s.u s.p=lO w i:=by
 rw[h.eu,h.ep]
 unfold lO
 by_cases z:aC (rd w i)=true
 ·rw[if_pos z,if_pos z,if_pos z]
 ·rw[if_neg z,if_neg z,if_neg z, <-Lc hw.ne,show ((w.length - 1 - i:Nat):Int)=(w.length:Int) - 1 - i by omega]
theorem AX {y w:List Nat} {ws:List (List Nat)} {c i M:Nat} {s:Sn} (hy:Yd y) (hw:SW y w) (hi:i<w.length) (e:ws.getD c []=w) (h:y8 w c i s) (rt:bO s.u s.r):jO y M s=Rh y ws M (c,i):=by
 unfold jO Rh cG
 rw[h.line hy hw hi]
 simp only[e]
 congr 1
 unfold y7 Gn Ik Il
 rw[e,h.ec]
 have sR:=y9 hw.ne
 by_cases z:aC (rd w i)=true
 ·have eu:s.u=w:=by rw[h.eu,if_pos z]
  have ep:s.p=i:=by rw[h.ep,if_pos z]
  rw[eu]at rt ⊢
  have er:=wd hw.ne rt sR
  rw[er,ep,z]
  by_cases l:leads w=true
  ·rw[if_pos l,l];rfl
  ·rw[if_neg l,if_neg (fun q=>l q.symm)];rfl
 ·have eu:s.u=gK w:=by rw[h.eu,if_neg z]
  have ep:s.p=w.length - 1 - i:=by rw[h.ep,if_neg z]
  rw[eu]at rt ⊢
  have er:=Fq hy hw sR rt
  have z':aC (rd w i)=false:=by simpa using z
  rw[er,ep,z',rW hy hw,ck]
  have ei:w.length - 1 - (w.length - 1 - i)=i:=by omega
  rw[ei]
  cases leads w<;>rfl
theorem y8.band {y w:List Nat} {c i band:Nat} {s:Sn} (hy:Yd y) (hw:SW y w) (hi:i<w.length) (hb:band∈bf) (ho:yT band (rd w i)=true) (h:y8 w c i s):rd s.u s.p=band:=by
 have lb:Lt band:= .inl hb
 have lo:aC band=true:=by rw[jv lb];exact decide_eq_true hb
 have GD:rd w i=band\/rd w i=aF band:=by
  unfold yT at ho
  simpa using ho
 rw[h.eu,h.ep]
 rcases GD with e | e
 ·rw[if_pos (by rw[e];exact lo),if_pos (by rw[e];exact lo)]
  exact e
 ·have z: ¬aC (rd w i)=true:=by rw[e,fP _ lb.mem,lo];decide
  rw[if_neg z,if_neg z,mj hw.ne,show -1 - ((w.length - 1 - i:Nat):Int)=i - w.length by omega,yC,e,aR lb]
def Fs (y:List Nat) (ws:List (List Nat)) (M:Nat) (l:List (Nat×Nat)):Prop:=l.Pairwise fun s t=>a_ (Rh y ws M t) (Rh y ws M s)=false
def jW (_:PySem.W.Frag) (CW CS:Addr):Sp:=fun vs H Q _=> ∃(y:List Nat) (lg:Nat) (wt vt:Addr) (ws:List (List Nat)) (lQ:List Wp) (band:Nat),vs=[.ref wt, .ref vt, .str (S [band])]/\Yd y/\y.length<=8/\H wt=some (.tup (gL ws))/\ws.length<=4/\(∀w∈ws,SW y w/\w.length<=12)/\band∈bf/\H vt=some (.lst (Gs lQ))/\lQ.length=ws.length/\(∀(c:Nat) (w:List Nat) (p:Wp),ws[c]? =some w->lQ[c]? =some p->uD H CW y lg w p)/\
 ∀(q:Addr) (ps:List Pr) (H':Hp),H q=none->H' q=some (.tup (rX ps))->(∀p∈ps,nE H' p)->(ps.map Pr.pair).Perm (c_ band ws ws.length)->Fs y ws (2*lg) (ps.map Pr.pair)->ao H H'->Q (.ref q) H'
theorem pN {K:PySem.W.Frag} {CW CS:Addr} {vs:List V} {H:Hp} {Q:VK} {E:XK} (h:jW K CW CS vs H Q E):vs.length=3:=by obtain ⟨_,_,_,_,_,_,_,rfl,_⟩:=h;rfl
theorem LM {y:List Nat} {M:Nat} {ss:List Sn} {t:Sn} {n:Nat} (up:Cm y M ss) (h1: ∀k s,ss[k]? =some s->k<n->a_ (jO y M s) (jO y M t)=true) (h2: ∀k s,ss[k]? =some s->n<=k->a_ (jO y M s) (jO y M t)=false):Cm y M (ss.take n++t::ss.drop n):=by
 have tk: ∀s∈ss.take n,a_ (jO y M s) (jO y M t)=true:=fun s hs=>by
  obtain ⟨k,hk,e⟩:=Qb6 hs
  rw[ZD]at hk
  rw[List.getElem_take]at e
  exact h1 k s (by rw[<-e];exact Kw (by omega)) (by omega)
 have dr: ∀s∈ss.drop n,a_ (jO y M s) (jO y M t)=false:=fun s hs=>by
  obtain ⟨k,hk,e⟩:=Qb6 hs
  rw[ZL]at hk
  rw[List.getElem_drop]at e
  exact h2 (n+k) s (by rw[<-e];exact Kw (by omega)) (by omega)
 have TM:Cm y M (ss.take n++ss.drop n):=by rw[Qaa];exact up
 unfold Cm at TM ⊢
 rw[Qaz]at TM ⊢
 rw[Qbg]
 obtain ⟨u1,u2,u3⟩:=TM
 refine ⟨u1,⟨fun s hs=>dr s hs,u2⟩,fun a ha b hb=>?_⟩
 rcases Y5.mp hb with e | e
 ·rw[e];exact (jy (tk a ha)).1
 ·exact u3 a ha b e
theorem jk (band:Nat) {ws:List (List Nat)} (hw: ∀w∈ws,w.length<=12): ∀n,n<=ws.length->(c_ band ws n).length<=12*n
 | 0,_=>Y6 _
 | n+1,h=>by
  have ih:=jk band hw n (by omega)
  unfold c_ at ih ⊢
  rw[Qag,Z1,UY,Qa2]
  have h1:(iC band n (ws.getD n []) (ws.getD n []).length).length<=12:=by
   unfold iC
   rw[UX]
   refine ZW (Qdr _ _) ?_
   rw[Qcj]
   exact hw _ (getD_in (by omega))
  omega
theorem y_ {band:Nat} {ws:List (List Nat)} {x:Nat×Nat} (h:x∈c_ band ws ws.length): ∃w,ws[x.1]? =some w/\x.2<w.length/\yT band (rd w x.2)=true:=by
 unfold c_ at h
 obtain ⟨c,hc,h⟩:=ZU.mp h
 have qr:=Qac.mp hc
 unfold iC at h
 obtain ⟨i,hi,e⟩:=ZN.mp h
 obtain ⟨i1,i2⟩:=ZX.mp hi
 have Vt:=Qac.mp i1
 subst e
 refine ⟨ws.getD c [],by rw[Y3,Kw qr];rfl,Vt,?_⟩
 have:(ws.getD c []).getD i 0=rd (ws.getD c []) i:=by
  have:=mh Vt
  rw[Y3,this];rfl
 show yT band (rd (ws.getD c []) i)=true
 rw[<-this]
 exact i2
theorem sj {H H':Hp} {x dx C:Addr} (nx:H x=none) (LN:H dx=none) (sm:aN x (L2.upd (L2.upd H dx (.own x)) x (.ins C dx [])) H'):ao H H':=fun a o e=>by
 refine sm a o ?_ (ar e nx)
 rw[ay (ar e nx),ay (ar e LN)]
 exact e
noncomputable def Im (ws:List (List Nat)):List Int:=ws.map fun w=>(w.length:Int)
theorem Io (l:List Int): ∀a:Int,a<=l.foldl (fun x y=>if y>x then y else x) a/\(∀x∈l,x<=l.foldl (fun x y=>if y>x then y else x) a)/\(l.foldl (fun x y=>if y>x then y else x) a=a\/l.foldl (fun x y=>if y>x then y else x) a∈l):=by
 induction l with
 | nil=>exact fun a=>⟨Int.le_refl _,fun _ h=>absurd h Zw, .inl rfl⟩
 | cons b r ih=>
  intro a
  rw[Qcw]
  obtain ⟨h1,h2,h3⟩:=ih (if b>a then b else a)
  have h4:a<=(if b>a then b else a)/\b<=(if b>a then b else a):=by split<;>omega
  refine ⟨by omega,fun x hx=>?_,?_⟩
  ·rcases Y5.mp hx with e | e
   ·rw[e];omega
   ·exact h2 x e
  ·rcases h3 with e | e
   ·rw[e]
    split
    ·exact .inr Zy
    ·exact .inl rfl
   ·exact .inr (Y4 _ e)
theorem za {ws:List (List Nat)} (h: ∀w∈ws,w.length<=12): ∃lg:Nat,K3 0 (Im ws)=lg/\lg<=12/\ ∀w∈ws,w.length<=lg:=by
 cases ws with
 | nil=>exact ⟨0,rfl,by decide,fun _ h=>absurd h Zw⟩
 | cons v r=>
  obtain ⟨h1,h2,h3⟩:=Io (Im r) (v.length:Int)
  have e:K3 0 (Im (v::r))=(Im r).foldl (fun x y=>if y>x then y else x) (v.length:Int):=rfl
  rw[e]
  generalize (Im r).foldl (fun x y=>if y>x then y else x) (v.length:Int)=m at*
  have hm: ∃w∈v::r,m=(w.length:Int):=by
   rcases h3 with q | q
   ·exact ⟨v,Zy,q⟩
   ·obtain ⟨w,hw,e'⟩:=ZN.mp q
    exact ⟨w,Y4 _ hw,e'.symm⟩
  obtain ⟨w,hw,rfl⟩:=hm
  refine ⟨w.length,rfl,h w hw,fun u hu=>?_⟩
  rcases Y5.mp hu with q | q
  ·rw[q];omega
  ·have:=h2 _ (ZN.mpr ⟨u,q,rfl⟩)
   omega
def og (y:List Nat) (ws:List (List Nat)) (os:List Od):Prop:= ∃M,(∀w∈ws, ∀v∈ws,w.length+v.length<=M)/\wO y ws os/\ ∀o∈os,Fs y ws M (o.ps.map Pr.pair)
def AY (_:PySem.W.Frag):Sp:=fun vs H Q _=> ∃(y:List Nat) (wt:Addr) (ws:List (List Nat)),vs=[.str (S y), .ref wt]/\Yd y/\y.length<=8/\H wt=some (.tup (gL ws))/\ws.length<=4/\(∀w∈ws,SW y w/\w.length<=12)/\ ∀(dr:Addr) (os:List Od) (H':Hp),yR H' dr ws os->og y ws os->ao H H'->Q (.ref dr) H'
theorem Ft {K:PySem.W.Frag} {vs:List V} {H:Hp} {Q:VK} {E:XK} (h:AY K vs H Q E):vs.length=2:=by obtain ⟨_,_,_,rfl,_⟩:=h;rfl
theorem Ip {H:Hp} {C:Addr} {y:List Nat} {lg i:Nat} {ws:List (List Nat)} {lQ:List Wp} {w:List Nat} {p:Wp} (hl:lQ.length=i) (h: ∀(c:Nat) (w:List Nat) (p:Wp),ws[c]? =some w->lQ[c]? =some p->uD H C y lg w p) (hw:ws[i]? =some w) (hp:uD H C y lg w p): ∀(c:Nat) (w:List Nat) (q:Wp),ws[c]? =some w->(lQ++[p])[c]? =some q->uD H C y lg w q:=fun c v q hv hq=>by
 by_cases z:c<lQ.length
 ·rw[Qab z]at hq
  exact h c v q hv hq
 ·rw[Qaq (by omega)]at hq
  have:c=i:=by
   have:=(Kx.mp hq).1
   simp at this
   omega
  subst this
  rw[hl,Nat.sub_self]at hq
  rw[hw]at hv
  cases hv
  cases hq
  exact hp
theorem w4 {y:List Nat} (h:Yd y) {b:Nat} (hb:b∈fQ y):b∈bf:=by
 obtain ⟨h1,h2⟩:=ZX.mp ((jE y).mem_iff.mp hb)
 rw[jv (h.lt b h1)]at h2
 exact of_decide_eq_true h2
theorem Fu {y:List Nat} {ws:List (List Nat)} {L:Nat->Bool} {r:Nat->Nat} {M:Nat} (h:eA y ws L r M) {c i d j x:Nat} (hc:c<ws.length) (hd:d<ws.length) (hi:i<(ws.getD c []).length) (hj:j<(ws.getD d []).length) (dv:(c,i)≠(d,j)) (hx:aC x=true) (e1:rd (ws.getD c []) i=x\/rd (ws.getD c []) i=aF x) (e2:rd (ws.getD d []) j=x\/rd (ws.getD d []) j=aF x):
  a_ (cG y ws L r M c i) (cG y ws L r M d j)=true\/a_ (cG y ws L r M d j) (cG y ws L r M c i)=true:=by
 have hw:=h.sw c hc
 have hv:=h.sw d hd
 have hy:=h.yd
 have lw:=U0.mpr hw.ne
 have lv:=U0.mpr hv.ne
 have xs: ∀{w:List Nat} {k:Nat},SW y w->(rd w k=x\/rd w k=aF x)->Lt x:=fun {w k} hw e=>by
  have h9:97<=x/\x<=122:=by unfold aC at hx;simpa using hx
  refine .inl ?_
  have: ∀k,k<26->k+97∈bf:=by decide
  have h8:=this (x - 97) (by omega)
  rwa [show x - 97+97=x by omega]at h8
 have lx:=xs hw e1
 have yJ: ∀{w:List Nat} {k:Nat},SW y w->Dl w k (lO w k)/\((rd w k=x\/rd w k=aF x)->lO w k 0=x)/\(lO w k=if aC (rd w k)=true then sq w k else bq w k):=fun {w k} hw=>by
  refine ⟨?_,fun e=>?_,rfl⟩
  ·unfold lO
   by_cases z:aC (rd w k)=true
   ·rw[if_pos z];exact .inl rfl
   ·rw[if_neg z];exact .inr rfl
  ·unfold lO
   rcases e with e | e
   ·rw[if_pos (by rw[e];exact hx)]
    unfold sq
    rw[Qbp];exact e
   ·have z: ¬aC (rd w k)=true:=by rw[e,fP _ lx.mem,hx];decide
    rw[if_neg z]
    unfold bq
    rw[Qc0,e,aR lx]
 obtain ⟨df,f0,fe⟩:=yJ (k:=i) hw
 obtain ⟨XB,g0,ge⟩:=yJ (k:=j) hv
 have lf:=df.yJ hy hw
 have lg:=XB.yJ hy hv
 by_cases par: ∀k,lO (ws.getD c []) i k=lO (ws.getD d []) j k
 ·unfold cG
  rw[show lO (ws.getD c []) i=lO (ws.getD d []) j from funext par,fi,fi]
  by_cases cd:c=d
  ·subst cd
   have ij:i≠j:=fun z=>dv (by rw[z])
   obtain ⟨h1,h2⟩:=h.root hc
   have hr:=h.rp c hc
   -- one and Gg same way
   have low:aC (rd (ws.getD c []) i)=aC (rd (ws.getD c []) j):=by
    by_cases z1:aC (rd (ws.getD c []) i)=true<;>by_cases z2:aC (rd (ws.getD c []) j)=true
    ·rw[z1,z2]
    ·exfalso
     rw[fe,ge,if_pos z1,if_neg z2]at par
     exact ug hy hw _ _ par
    ·exfalso
     rw[fe,ge,if_neg z1,if_pos z2]at par
     exact ug hy hw _ _ fun k=>(par k).symm
    ·rw[show aC (rd (ws.getD c []) i)=false by simpa using z1,show aC (rd (ws.getD c []) j)=false by simpa using z2]
   have ps:cx (ws.getD c []) (ws.getD c []) i j:=by
    by_cases z1:aC (rd (ws.getD c []) i)=true
    ·have z2:aC (rd (ws.getD c []) j)=true:=by rw[<-low];exact z1
     rw[fe,ge,if_pos z1,if_pos z2]at par
     exact par
    ·have z2: ¬aC (rd (ws.getD c []) j)=true:=by rw[<-low];exact z1
     rw[fe,ge,if_neg z1,if_neg z2]at par
     have e:=congrArg jz (funext par)
     rw[<-fh, <-fh,rS hy (bB hw _),rS hy (bB hw _)]at e
     exact fun k=>congrFun e k
   have q:=(h.rr c hc _ _).mp ps
   have HU:i%r c=j%r c:=by
    have q2:=Int.emod_eq_emod_iff_emod_sub_eq_zero.mpr q
    have q3:((i%r c:Nat):Int)=((j%r c:Nat):Int):=q2
    omega
   have k1:= @yM (ws.getD c []).length _ (r c) c i j (L c) (aC (rd (ws.getD c []) j)) hr h1 hi hj HU ij
   have k2:= @yM (ws.getD c []).length _ (r c) c j i (L c) (aC (rd (ws.getD c []) j)) hr h1 hj hi HU.symm (Ne.symm ij)
   rw[low]
   by_cases z:aC (rd (ws.getD c []) j)=true
   ·rw[if_pos z]at k1 k2
    rw[k1,k2,decide_eq_true_iff,decide_eq_true_iff]
    omega
   ·rw[if_neg z]at k1 k2
    rw[k1,k2,decide_eq_true_iff,decide_eq_true_iff]
    omega
  ·have hl:L d=if aC (rd (ws.getD d []) j)=aC (rd (ws.getD c []) i) then L c else !L c:=by
    by_cases z1:aC (rd (ws.getD c []) i)=true<;>by_cases z2:aC (rd (ws.getD d []) j)=true
    ·rw[z1,z2,if_pos rfl]
     rw[fe,ge,if_pos z1,if_pos z2]at par
     exact (h.l1 c d i j hc hd par).symm
    ·rw[if_neg (fun q=>z2 (q.trans z1))]
     rw[fe,ge,if_pos z1,if_neg z2]at par
     exact h.l2 c d i j hc hd par
    ·rw[if_neg (fun q=>z1 (q.symm.trans z2))]
     rw[fe,ge,if_neg z1,if_pos z2]at par
     have:=h.l2 d c j i hd hc fun k=>(par k).symm
     rw[this,Bool.not_not]
    ·rw[show aC (rd (ws.getD c []) i)=false by simpa using z1,show aC (rd (ws.getD d []) j)=false by simpa using z2,if_pos rfl]
     rw[fe,ge,if_neg z1,if_neg z2]at par
     have e:=congrArg jz (funext par)
     rw[<-fh, <-fh,rS hy (bB hw _),rS hy (bB hv _)]at e
     exact (h.l1 c d i j hc hd fun k=>congrFun e k).symm
   have Dt:= @uj (ws.getD c []).length (ws.getD d []).length (r c) (r d) c d i j (L c) (aC (rd (ws.getD c []) i)) (aC (rd (ws.getD d []) j)) cd
   have zG:L c=if aC (rd (ws.getD c []) i)=aC (rd (ws.getD d []) j) then L d else !L d:=by
    rw[hl]
    cases aC (rd (ws.getD d []) j)<;>cases aC (rd (ws.getD c []) i)<;>cases L c<;>rfl
   have LA:= @uj (ws.getD d []).length (ws.getD c []).length (r d) (r c) d c j i (L d) (aC (rd (ws.getD d []) j)) (aC (rd (ws.getD c []) i)) (Ne.symm cd)
   rw[<-hl]at Dt
   rw[<-zG]at LA
   rw[Dt,LA,hl]
   cases aC (rd (ws.getD d []) j)<;>cases aC (rd (ws.getD c []) i)<;>cases L c<;>simp<;>omega
 ·have uk: ∃k,lO (ws.getD c []) i k≠lO (ws.getD d []) j k:=Classical.byContradiction fun z=>par fun k=>Classical.byContradiction fun w=>z ⟨k,w⟩
  have Lh: ∀{w:List Nat} {k:Nat} (z:Int),lO w k (z+w.length)=lO w k z:=fun {w k} z=>by
   unfold lO
   split
   ·exact cF w k z
   ·exact mi w k z
  obtain ⟨a,b,rn,ha,hb⟩:=dF lw lv Lh Lh ((f0 e1).trans (g0 e2).symm) uk
  have big:=h.big c d hc hd
  unfold cG
  rw[mq hy lf lg rn _ _ M 0 (Y6 _) (Y6 _) (by omega) (by omega),mq hy lg lf rn.sy _ _ M 0 (Y6 _) (Y6 _) (by omega) (by omega),EA hy lf lg (rn.kY a (by omega) (by omega)) rn.hi,yO hy lf lg (rn.kY _ (by omega) (by omega)) rn.lo]
  by_cases z:a<=b
  ·rw[if_pos z,if_pos z]
   cases jN y (lO (ws.getD c []) i) (lO (ws.getD d []) j) a
   ·exact .inr rfl
   ·exact .inl rfl
  ·rw[if_neg z,if_neg z]
   cases jS y (lO (ws.getD c []) i) (lO (ws.getD d []) j) b
   ·exact .inr rfl
   ·exact .inl rfl
theorem Fv {y:List Nat} {ws:List (List Nat)} {os:List Od} (hy:Yd y) (hw: ∀w∈ws,SW y w) (h:og y ws os): ∃M,eA y ws (Ik ws) (Il ws) M/\E2 y ws (Ik ws) (Il ws) M os:=by
 obtain ⟨M,hM,ok,up⟩:=h
 have hs: ∀c,c<ws.length->SW y (ws.getD c []):=fun c hc=>hw _ (getD_in hc)
 have hC:eA y ws (Ik ws) (Il ws) M:=EN hy hs (fun c hc=>y9 (hs c hc).ne) fun c d hc hd=>hM _ (getD_in hc) _ (getD_in hd)
 refine ⟨M,hC,ok,fun o ho=>?_⟩
 obtain ⟨j,hj,ej⟩:=Qb6 ho
 have Vu:j<(fQ y).length:=by rw[<-ok.1];exact hj
 have pm:=ok.2 j o (fQ y)[j] (by rw[Kw hj,ej]) (Kw Vu)
 have bs:=w4 hy (ZV Vu)
 have lb:Lt (fQ y)[j]:= .inl bs
 have lo:aC (fQ y)[j]=true:=by rw[jv lb];exact decide_eq_true bs
 have nd:(o.ps.map Pr.pair).Nodup:=pm.nodup_iff.mpr (r9 _ _ _)
 have u:=up o ho
 unfold Fs at u
 refine Qb7 (fun {s t} h1 h2 h=>?_) (List.Pairwise.and u nd)
 obtain ⟨w1,e1,i1,o1⟩:=y_ (pm.mem_iff.mp h1)
 obtain ⟨w2,e2,i2,o2⟩:=y_ (pm.mem_iff.mp h2)
 have c1:=(Kx.mp e1).1
 have c2:=(Kx.mp e2).1
 have g1:ws.getD s.1 []=w1:=by rw[Y3,e1];rfl
 have g2:ws.getD t.1 []=w2:=by rw[Y3,e2];rfl
 have on: ∀{l:Nat},yT (fQ y)[j] l=true->l=(fQ y)[j]\/l=aF (fQ y)[j]:=fun {l} q=>by unfold yT at q;simpa using q
 have tr:=Fu hC (c:=s.1) (i:=s.2) (d:=t.1) (j:=t.2) c1 c2 (by rw[g1];exact i1) (by rw[g2];exact i2) h.2 lo (by rw[g1];exact on o1) (by rw[g2];exact on o2)
 rcases tr with q | q
 ·exact q
 ·have hf:a_ (cG y ws (Ik ws) (Il ws) M t.1 t.2) (cG y ws (Ik ws) (Il ws) M s.1 s.2)=false:=h.1
  rw[hf]at q
  cases q
theorem Fx {α β:Type} (p:β->β->Bool) (f:α->β): ∀l:List α,cl p (l.map f)=cl (fun a b=>p (f a) (f b)) l
 | []=>rfl
 | a::l=>by
  show ((l.map f).filter (p (f a))).length+cl p (l.map f)=(l.filter fun b=>p (f a) (f b)).length+cl _ l
  rw[Fx p f l,Qdp,UX]
  rfl
theorem w5 {α:Type} {p q:α->α->Bool}: ∀{l:List α},l.Pairwise (fun a b=>p a b=q a b)->cl p l=cl q l
 | [],_=>rfl
 | a::l,h=>by
  rw[Qbg]at h
  show (l.filter (p a)).length+cl p l=(l.filter (q a)).length+cl q l
  rw[w5 h.2,Qc8 fun b hb=>h.1 b hb]
theorem Fy {a b a' b':Nat} (h1:a<b) (h2:a'<b') (h4:a<a') (h5:b≠a') (h6:b≠b'):(iL (a,b) (a',b')||iL (a',b') (a,b))=nC a b a' b':=by
 have g4:=Qcy h4 h2
 rw[Er (ZH h1) (ZH h4) (ZH g4) h5 h6]
 unfold iL
 rw[decide_eq_true h4,decide_eq_true g4,decide_eq_false (Qcz h4),jA (Ne.symm h6)]
 have k:decide (b'<b)=true->decide (a'<b)=true:=fun q=>decide_eq_true (Qcy h2 (of_decide_eq_true q))
 revert k
 generalize decide (a'<b)=p
 generalize decide (b'<b)=q
 revert p q
 decide
theorem uE {a b a' b':Nat} (h1:a<b) (h2:a'<b') (h3:a≠a') (h4:a≠b') (h5:b≠a') (h6:b≠b'):(iL (a,b) (a',b')||iL (a',b') (a,b))=nC a b a' b':=by
 rcases Qbn h3 with q | q
 ·exact Fy h1 h2 q h5 h6
 ·rw[Bool.or_comm,Fy h2 h1 q (Ne.symm h4) (Ne.symm h6),k_ (ZH h2) (ZH h1) (Ne.symm h3) (Ne.symm h5) (Ne.symm h4) (Ne.symm h6)]
theorem Iq {a b a' b':Nat} (h1:a≠b) (h2:a'≠b') (h3:a≠a') (h4:a≠b') (h5:b≠a') (h6:b≠b'):(iL (min a b,max a b) (min a' b',max a' b')||iL (min a' b',max a' b') (min a b,max a b))=nC a b a' b':=by
 rcases Qbn h1 with q | q<;>rcases Qbn h2 with r | r
 ·rw[Qal (Z5 q),Qby (Z5 q),Qal (Z5 r),Qby (Z5 r)]
  exact uE q r h3 h4 h5 h6
 ·rw[Qal (Z5 q),Qby (Z5 q),Qas (Z5 r),Qbr (Z5 r),i8]
  exact uE q r h4 h3 h6 h5
 ·rw[Qas (Z5 q),Qbr (Z5 q),Qal (Z5 r),Qby (Z5 r), <-wH h1 h2 h3 h4 h5 h6]
  exact uE q r h5 h6 h3 h4
 ·rw[Qas (Z5 q),Qbr (Z5 q),Qas (Z5 r),Qbr (Z5 r), <-wH h1 h2 h3 h4 h5 h6,i8]
  exact uE q r h6 h5 h4 h3
section
variable {y:List Nat} {ws:List (List Nat)} {L:Nat->Bool} {r:Nat->Nat} {M:Nat}
noncomputable def fX (ps:List (Nat×Nat×Nat)) (c i e:Nat):Nat:=ps.idxOf (c,i,e)
theorem Ir {n i:Nat} (h:i<n):fB n ((i:Int) - 1)=xw n i/\fB n (i:Int)=i:=by
 have h1:=cb (n:=n) (by omega) ((i:Int) - 1)
 have h2:=cb (n:=n) (by omega) (i:Int)
 rw[AI h]at h1
 rw[ZP (by omega) (by omega)]at h2
 omega
theorem lE {ps:List (Nat×Nat×Nat)} {c i:Nat} (hi:i<(ws.getD c []).length):(gS ps c (ws.getD c []) i).2.2.1=pI ws (fX ps) c ((i:Int) - 1)/\(gS ps c (ws.getD c []) i).2.2.2=pO ws (fX ps) c i:=by
 obtain ⟨e1,e2⟩:=Ir hi
 have g: ∀k,k<(ws.getD c []).length->(ws.getD c []).getD k 0=rd (ws.getD c []) k:=fun k hk=>by
  rw[Y3,mh hk];rfl
 have dv:ws.getD c []≠[]:=fun z=>by rw[z]at hi;exact absurd hi (Qb9 _)
 unfold gS pI pO fX
 rw[e1,e2,g _ (yX hi),g _ hi]
 refine ⟨?_,rfl⟩
 have:rd (ws.getD c []) (xw (ws.getD c []).length i:Nat)=rd (ws.getD c []) ((i:Int) - 1):=by rw[<-e1,bU dv]
 rw[this]
theorem jF (ps:List (Nat×Nat×Nat)) (ws:List (List Nat)): ∀n,gq ps ws n=(o9 ws n).map fun x=>gS ps x.1 (ws.getD x.1 []) x.2
 | 0=>rfl
 | n+1=>by
  have ih:=jF ps ws n
  unfold gq at ih ⊢
  unfold o9
  rw[Qag,Z1,ih,WC,Qa2,Qaf]
  rfl
theorem zc (ws:List (List Nat)) (n:Nat):(o9 ws n).Nodup:=(nW n).imp fun {a b} h z=>by
 rw[z]at h
 unfold iZ at h
 simp at h
theorem lF (h:eA y ws L r M) {ps:List (Nat×Nat×Nat)} (hN:Lies y ws L r M (fX ps)) (l:List (Nat×Nat)) (hl:l.Nodup) (qF: ∀x∈l,x.1<ws.length/\x.2<(ws.getD x.1 []).length):(dG (l.map fun x=>gS ps x.1 (ws.getD x.1 []) x.2)).Nodup:=by
 unfold dG
 induction l with
 | nil=>exact List.Pairwise.nil
 | cons x t ih=>
  rw[Z6]at hl
  rw[ZJ,ZT,Qap]
  obtain ⟨x1,x2⟩:=qF x Zy
  have ex:=lE (ps:=ps) (ws:=ws) (c:=x.1) x2
  refine ⟨?_,ih hl.2 fun z hz=>qF z (Y4 _ hz),fun a ha b hb e=>?_⟩
  ·rw[ex.1,ex.2,Z6]
   exact ⟨by simpa using (eB h hN x1 x1 x2 x2).1,by simp⟩
  ·obtain ⟨c4,TN,Jy⟩:=ZU.mp hb
   obtain ⟨z,hz,rfl⟩:=ZN.mp TN
   obtain ⟨z1,z2⟩:=qF z (Y4 _ hz)
   have ez:=lE (ps:=ps) (ws:=ws) (c:=z.1) z2
   have dv:(x.1,x.2)≠(z.1,z.2):=fun q=>hl.1 (by
    have:x=z:=Prod.ext (Prod.mk.inj q).1 (Prod.mk.inj q).2
    rw[this];exact hz)
   have n1:=eB h hN x1 z1 x2 z2
   have n2:=eB h hN z1 x1 z2 x2
   rw[ex.1,ex.2]at ha
   rw[ez.1,ez.2]at Jy
   have Vv:a=pI ws (fX ps) x.1 ((x.2:Int) - 1)\/a=pO ws (fX ps) x.1 x.2:=by simpa using ha
   have m4:b=pI ws (fX ps) z.1 ((z.2:Int) - 1)\/b=pO ws (fX ps) z.1 z.2:=by simpa using Jy
   rw[e]at Vv
   rcases Vv with p | p<;>rcases m4 with q | q<;>rw[p]at q
   ·exact (n1.2 dv).1 q
   ·exact n1.1 q
   ·exact n2.1 q.symm
   ·exact (n1.2 dv).2 q
theorem lG (h:eA y ws L r M) {ps:List (Nat×Nat×Nat)} (hN:Lies y ws L r M (fX ps)) (l:List (Nat×Nat)) (hl:l.Nodup) (qF: ∀x∈l,x.1<ws.length/\x.2<(ws.getD x.1 []).length):cl (fun x z=>iL x z||iL z x) (jd (l.map fun x=>gS ps x.1 (ws.getD x.1 []) x.2))=cl (EK ws (fX ps)) l:=by
 unfold jd
 rw[Qaf,Fx]
 refine w5 (Qb7 (fun {a b} ha hb uZ=>?_) hl)
 obtain ⟨a1,a2⟩:=qF a ha
 obtain ⟨b1,b2⟩:=qF b hb
 have ea:=lE (ps:=ps) (ws:=ws) (c:=a.1) a2
 have eb:=lE (ps:=ps) (ws:=ws) (c:=b.1) b2
 have dv:(a.1,a.2)≠(b.1,b.2):=uZ
 have n1:=eB h hN a1 b1 a2 b2
 have n2:=eB h hN b1 a1 b2 a2
 have n3:=eB h hN a1 a1 a2 a2
 have n4:=eB h hN b1 b1 b2 b2
 show (iL (min _ _,max _ _) (min _ _,max _ _)||iL (min _ _,max _ _) (min _ _,max _ _))=EK ws (fX ps) a b
 rw[ea.1,ea.2,eb.1,eb.2,Iq n3.1 n4.1 (n1.2 dv).1 n1.1 (Ne.symm n2.1) (n1.2 dv).2]
 rfl
end
noncomputable def JJ (ws:List (List Nat)):Int:=sm ws.length fun c=>(((ws.getD c.toNat []).length / Qm (ws.getD c.toNat []):Nat):Int) - 1
theorem Fz {y:List Nat} {ws:List (List Nat)} {os:List Od} (hy:Yd y) (hw: ∀w∈ws,SW y w) (h:og y ws os):(dG (fI y ws os)).Nodup/\(cl (fun x z=>iL x z||iL z x) (jd (fI y ws os)):Int)=(jM y ws).length+JJ ws:=by
 obtain ⟨M,hC,hT⟩:=Fv hy hw h
 have hN:Lies y ws (Ik ws) (Il ws) M (fX (iB y os)):=lies_of hy hC.sw hT
 have qF: ∀x∈places ws,x.1<ws.length/\x.2<(ws.getD x.1 []).length:=fun x hx=>h7.mp hx
 unfold fI
 rw[jF]
 refine ⟨lF hC hN _ (zc ws _) qF,?_⟩
 rw[lG hC hN _ (zc ws _) qF]
 exact yQ hC hN
theorem CK.ok {y:List Nat} {ws:List (List Nat)} (h:CK y ws):Qh y ws:=⟨h.uY,fun w hw=>⟨(h.sw w hw).1.bR,(h.sw w hw).2⟩⟩
theorem sk {y:List Nat} {ws:List (List Nat)} {os:List Od} (h:CK y ws):(fI y ws os).length<=24:=by
 unfold fI
 rw[jF,UX]
 exact h.all
noncomputable def FA (y:List Nat) (ws:List (List Nat)):Int:=(jM y ws).length+JJ ws
def w6 (_:PySem.W.Frag):Sp:=fun vs H Q _=> ∃(y:List Nat) (wt:Addr) (ws:List (List Nat)),vs=[.str (S y), .ref wt]/\Yd y/\y.length<=8/\CK y ws/\H wt=some (.tup (gL ws))/\ ∀H',ao H H'->Q (.int (FA y ws)) H'
theorem Cn {K:PySem.W.Frag} {vs:List V} {H:Hp} {Q:VK} {E:XK} (h:w6 K vs H Q E):vs.length=2:=by obtain ⟨_,_,_,rfl,_⟩:=h;rfl
theorem AZ {y w:List Nat} (h:SW y w) (hz:w.length<=12):CK y [w]:=⟨fun v hv=>by rw[UZ.mp hv];exact ⟨h,hz⟩,by show 1<=4;decide,by
 have:=kX (ws:=[w]) (m:=12) (fun v hv=>by rw[UZ.mp hv];exact hz) 1 (Q3 _)
 unfold places
 show (o9 [w] 1).length<=24
 omega⟩
def FC (_:PySem.W.Frag):Sp:=fun vs H Q _=> ∃(y w:List Nat),vs=[.str (S y), .str (S w)]/\Yd y/\y.length<=8/\SW y w/\w.length<=12/\ ∀H',ao H H'->Q (.int (FA y [w])) H'
theorem len_own {K:PySem.W.Frag} {vs:List V} {H:Hp} {Q:VK} {E:XK} (h:FC K vs H Q E):vs.length=2:=by obtain ⟨_,_,rfl,_⟩:=h;rfl
noncomputable def mI (y w v:List Nat):Int:=(((jM y [w,v]).filter fun x=>decide ((x.c:Int)<x.d)).length:Nat)
def pQ (_:PySem.W.Frag):Sp:=fun vs H Q _=> ∃(y w v:List Nat),vs=[.str (S y), .str (S w), .str (S v)]/\Yd y/\y.length<=8/\SW y w/\w.length<=12/\SW y v/\v.length<=12/\ ∀H',ao H H'->mI y w v=mI y v w->Q (.int (mI y w v)) H'
theorem w_ {K:PySem.W.Frag} {vs:List V} {H:Hp} {Q:VK} {E:XK} (h:pQ K vs H Q E):vs.length=3:=by obtain ⟨_,_,_,rfl,_⟩:=h;rfl
theorem Qn {y:List Nat} {ws:List (List Nat)} {o p:Nat×Nat}:((gn y ws o p).filter fun x=>decide ((x.c:Int)<x.d))=if o.1<p.1 then gn y ws o p else []:=by
 by_cases z:o.1<p.1
 ·rw[if_pos z]
  refine List.filter_eq_self.mpr fun x hx=>decide_eq_true ?_
  obtain ⟨h1,_,h2,_⟩:=jx hx
  rw[h1,h2];omega
 ·rw[if_neg z]
  refine List.filter_eq_nil_iff.mpr fun x hx=>?_
  obtain ⟨h1,_,h2,_⟩:=jx hx
  rw[decide_eq_true_iff,h1,h2];omega
theorem pR {α β:Type} {f g:α->List β}: ∀{l:List α},(∀x∈l,f x=g x)->l.flatMap f=l.flatMap g
 | [],_=>rfl
 | a::l,h=>by rw[ZT,ZT,h a Zy,pR fun x hx=>h x (Y4 _ hx)]
theorem uF {y w v:List Nat}:mI y w v=bS w.length v.length (fc y w v):=by
 have qF: ∀x∈places [w,v],x.1<[w,v].length/\x.2<([w,v].getD x.1 []).length:=fun x hx=>h7.mp hx
 have ep:places [w,v]=(List.range w.length).map (fun i=>(0,i))++(List.range v.length).map (fun i=>(1,i)):=rfl
 have e3:bS w.length v.length (fun i j=>((gn y [w,v] (0,i.toNat) (1,j.toNat)).length:Int))=bS w.length v.length (fc y w v):=bX fun i j _ _=>by
  rw[WB,WB]
  exact AE (y:=y) (ws:=[w,v]) (c:=0) (d:=1) (by decide)
 rw[<-e3]
 unfold mI jM
 rw[ep]
 have f0: ∀(o:Nat×Nat),(((List.range w.length).map (fun i=>((0:Nat),i))++(List.range v.length).map (fun i=>(1,i))).flatMap fun p=>gn y [w,v] o p).filter (fun x:Fm=>decide ((x.c:Int)<x.d))=((List.range w.length).map (fun i=>((0:Nat),i))++(List.range v.length).map (fun i=>(1,i))).flatMap fun p:Nat×Nat=>if o.1<p.1 then gn y [w,v] o p else []:=fun o=>by
  rw[List.filter_flatMap]
  exact pR fun p _=>Qn
 rw[List.filter_flatMap,pR fun o _=>f0 o,i_]
 rw[WC,Qdo,Qaf,Qaf]
 have z1:((List.range v.length).map ((fun o:Nat×Nat=>((((List.range w.length).map (fun i=>((0:Nat),i))++(List.range v.length).map (fun i=>(1,i))).flatMap fun p:Nat×Nat=>if o.1<p.1 then gn y [w,v] o p else []).length:Int)) ∘ fun i=>((1:Nat),i))).sum=0:=by
  refine (eQ _ v.length).trans ((aM (g:=fun _=>0) fun i _=>?_).trans (cW _))
  show ((_:Nat):Int)=0
  rw[List.flatMap_eq_nil_iff.mpr]
  ·rfl
  ·intro p hp
   refine if_neg ?_
   have:=(qF p (by rw[ep];exact hp)).1
   show ¬1<p.1
   have h2:p.1<2:=this
   omega
 rw[z1,Qbp]
 refine (eQ _ w.length).trans (aM fun i _=>?_)
 show ((((List.range w.length).map (fun i=>((0:Nat),i))++(List.range v.length).map (fun i=>(1,i))).flatMap fun p:Nat×Nat=>if 0<p.1 then gn y [w,v] (0,((i:Nat):Int).toNat) p else []).length:Int)=_
 rw[Z1,List.flatMap_eq_nil_iff.mpr (fun p hp=>by
  obtain ⟨k,_,rfl⟩:=ZN.mp hp
  rfl),List.nil_append,i_,Qaf]
 refine (eQ _ v.length).trans (aM fun j _=>?_)
 rfl
theorem Iu {y w v:List Nat} {L:Nat->Bool} {r:Nat->Nat} {M:Nat} {N:Nat->Nat->Nat->Nat} (hC:eA y [w,v] L r M) (hN:Lies y [w,v] L r M N):mI y w v=mI y v w:=by
 have a:bS w.length v.length _=bS w.length v.length (fc y w v):=jB hC hN (c:=0) (d:=1) (Qdc _) (Qam 1) (by decide)
 have b:bS v.length w.length _=bS v.length w.length (fc y v w):=jB hC hN (c:=1) (d:=0) (Qam 1) (Qdc _) (by decide)
 rw[uF,uF, <-a, <-b]
 unfold bS
 rw[ur]
 exact aM fun j hj=>aM fun i hi=>by rw[Az hC hN (c:=0) (d:=1) (Qdc _) (Qam 1) hi hj]
theorem LO {y w v:List Nat} {os:List Od} (hy:Yd y) (hw:SW y w) (hv:SW y v) (h:og y [w,v] os):
  (cl (fun x z=>iL x z||iL z x) (jd (fI y [w,v] os)):Int) - cl (fun x z=>iL x z||iL z x) (jd ((fI y [w,v] os).take w.length)) - cl (fun x z=>iL x z||iL z x) (jd ((fI y [w,v] os).drop w.length))=mI y w v/\mI y w v=mI y v w/\(dG (fI y [w,v] os)).Nodup/\(dG ((fI y [w,v] os).take w.length)).Nodup/\(dG ((fI y [w,v] os).drop w.length)).Nodup:=by
 have TQ: ∀u∈[w,v],SW y u:=fun u hu=>by
  rcases Y5.mp hu with e | e
  ·rw[e];exact hw
  ·rw[UZ.mp e];exact hv
 obtain ⟨M,hC,hT⟩:=Fv hy TQ h
 have hN:Lies y [w,v] (Ik [w,v]) (Il [w,v]) M (fX (iB y os)):=lies_of hy hC.sw hT
 have qF: ∀x∈places [w,v],x.1<[w,v].length/\x.2<([w,v].getD x.1 []).length:=fun x hx=>h7.mp hx
 have nd:=zc [w,v] 2
 have ep:places [w,v]=(List.range w.length).map (fun i=>(0,i))++(List.range v.length).map (fun i=>(1,i)):=rfl
 have ec:fI y [w,v] os=(places [w,v]).map fun x=>gS (iB y os) x.1 ([w,v].getD x.1 []) x.2:=jF _ _ _
 have TR:(places [w,v]).Nodup:=nd
 have t1:(fI y [w,v] os).take w.length=((List.range w.length).map (fun i=>(0,i))).map fun x=>gS (iB y os) x.1 ([w,v].getD x.1 []) x.2:=by
  rw[ec,ep,WC,List.take_append_of_le_length (by simp),ZO (by simp)]
 have t2:(fI y [w,v] os).drop w.length=((List.range v.length).map (fun i=>(1,i))).map fun x=>gS (iB y os) x.1 ([w,v].getD x.1 []) x.2:=by
  rw[ec,ep,WC,List.drop_append_of_le_length (by simp),Qa3 (by simp),List.nil_append]
 have i1: ∀x∈(List.range w.length).map (fun i=>((0:Nat),i)),x.1<[w,v].length/\x.2<([w,v].getD x.1 []).length:=fun x hx=>qF x (by rw[ep];exact Qa9 _ hx)
 have i2: ∀x∈(List.range v.length).map (fun i=>((1:Nat),i)),x.1<[w,v].length/\x.2<([w,v].getD x.1 []).length:=fun x hx=>qF x (by rw[ep];exact ZS _ hx)
 have Qo:=TR
 rw[ep,Qap]at Qo
 rw[t1,t2]
 refine ⟨?_,Iu hC hN,by rw[ec];exact lF hC hN _ TR qF,lF hC hN _ Qo.1 i1,lF hC hN _ Qo.2.1 i2⟩
 rw[ec,lG hC hN _ TR qF,lG hC hN _ Qo.1 i1,lG hC hN _ Qo.2.1 i2,ep,uu]
 have e1:(((List.range w.length).map fun i=>((0:Nat),i)).map fun x=>((((List.range v.length).map fun i=>((1:Nat),i)).filter (EK [w,v] (fX (iB y os)) x)).length:Int)).sum=bS w.length v.length (fun i j=>one (ie (pO [w,v] (fX (iB y os)) 0) (pI [w,v] (fX (iB y os)) 0) (pO [w,v] (fX (iB y os)) 1) (pI [w,v] (fX (iB y os)) 1) i j=true)):=by
  rw[Qaf]
  refine (eQ (fun i=>((((List.range v.length).map fun i=>((1:Nat),i)).filter (EK [w,v] (fX (iB y os)) (0,i))).length:Int)) w.length).trans (aM fun i _=>?_)
  rw[WB]
  refine (AF _ 1 v.length).trans (aM fun j _=>?_)
  rw[WB]
  rfl
 have b:=jB hC hN (c:=0) (d:=1) (Qdc _) (Qam 1) (by decide)
 have b':bS w.length v.length (fun i j=>one (ie (pO [w,v] (fX (iB y os)) 0) (pI [w,v] (fX (iB y os)) 0) (pO [w,v] (fX (iB y os)) 1) (pI [w,v] (fX (iB y os)) 1) i j=true))=bS w.length v.length (fc y w v):=b
 rw[e1,b',uF]
 omega
def sx (_:PySem.W.Frag):Sp:=fun vs H Q _=> ∃(w:List Nat),vs=[.str (S w)]/\w≠[]/\w.length<=100/\ ∀r,bO w r->Q (.int (w.length / r:Nat)) H
theorem zd {K:PySem.W.Frag} {vs:List V} {H:Hp} {Q:VK} {E:XK} (h:sx K vs H Q E):vs.length=1:=by obtain ⟨_,rfl,_⟩:=h;rfl
def sC (_:PySem.W.Frag):Sp:=fun vs H Q _=> ∃(y:List Nat) (wt:Addr) (ws:List (List Nat)),vs=[.str (S y), .ref wt]/\Yd y/\y.length<=8/\CK y ws/\H wt=some (.tup (gL ws))/\ ∀H',ao H H'->Q (.int (FA y ws)) H'
theorem ze {K:PySem.W.Frag} {vs:List V} {H:Hp} {Q:VK} {E:XK} (h:sC K vs H Q E):vs.length=2:=by obtain ⟨_,_,_,rfl,_⟩:=h;rfl
def ng (_:PySem.W.Frag):Sp:=fun vs H Q _=> ∃(y w v:List Nat),vs=[.str (S y), .str (S w), .str (S v)]/\Yd y/\y.length<=8/\SW y w/\w.length<=12/\SW y v/\v.length<=12/\ ∀H',ao H H'->Q (.int (mI y w v)) H'
theorem uG {K:PySem.W.Frag} {vs:List V} {H:Hp} {Q:VK} {E:XK} (h:ng K vs H Q E):vs.length=3:=by obtain ⟨_,_,_,rfl,_⟩:=h;rfl
def FD (_:PySem.W.Frag):Sp:=fun vs H Q _=> ∃(i:Int),vs=[.int i, .int i]/\Q (.bl true) H
theorem Iv {K:PySem.W.Frag} {vs:List V} {H:Hp} {Q:VK} {E:XK} (h:FD K vs H Q E):vs.length=2:=by obtain ⟨_,rfl,_⟩:=h;rfl
def sE (_:PySem.W.Frag):Sp:=fun vs H Q _=> ∃(y:List Nat) (wt:Addr) (ws:List (List Nat)),vs=[.str (S y), .ref wt]/\Yd y/\y.length<=8/\CK y ws/\H wt=some (.tup (gL ws))/\ ∀H',ao H H'->Q (.bl true) H'
theorem zf {K:PySem.W.Frag} {vs:List V} {H:Hp} {Q:VK} {E:XK} (h:sE K vs H Q E):vs.length=2:=by obtain ⟨_,_,_,rfl,_⟩:=h;rfl
structure Ask where
 t:Addr
 y:List Nat
 wt:Addr
 ws:List (List Nat)
structure pT (H:Hp) (k:Ask):Prop where
 tp:H k.t=some (.tup [.str (S k.y), .ref k.wt])
 wp:H k.wt=some (.tup (gL k.ws))
 yd:Yd k.y
 yz:k.y.length<=8
 ok:CK k.y k.ws
theorem pT.ts {H H':Hp} {k:Ask} (h:pT H k) (s:ba H H'):pT H' k:=⟨s _ _ h.tp,s _ _ h.wp,h.yd,h.yz,h.ok⟩
noncomputable def jl (ks:List Ask):List V:=ks.map fun k=>V.ref k.t
theorem lH (ks:List Ask):(jl ks).length=ks.length:=by unfold jl;rw[UX]
theorem FE (ks:List Ask) (k:Ask):jl ks++[V.ref k.t]=jl (ks++[k]):=by unfold jl;rw[WC];rfl
theorem Iw (a b:List Ask):jl a++jl b=jl (a++b):=by unfold jl;rw[WC]
theorem LP {ks:List Ask} {i:Nat} {x:V} (h:(jl ks)[i]? =some x): ∃k,ks[i]? =some k/\x=V.ref k.t:=by
 unfold jl at h
 rw[ZA]at h
 cases e:ks[i]? with
 | none=>rw[e]at h;cases h
 | some p=>rw[e]at h;cases h;exact ⟨p,rfl,rfl⟩
theorem Iy {H2:Hp} {t a3:Addr} {ks:List Ask} {x:Ask} {H3:Hp} (ht:H2 t=some (.lst (jl ks))) (hk: ∀k∈ks,pT H2 k) (s:ba H2 H3) (JA:H3 t=some (.lst (jl ks))) (n3:H3 a3=none) (hx:x.t=a3) (hw:H3 x.wt=some (.tup (gL x.ws))) (hy:Yd x.y) (hz:x.y.length<=8) (ok:CK x.y x.ws):
  ∀k∈ks++[x],pT (upd (upd H3 a3 (.tup [.str (S x.y), .ref x.wt])) t (.lst (jl ks++[V.ref a3]))) k:=by
 have TH:a3≠t:=fun z=>by rw[z,JA]at n3;cases n3
 have s3:ao H3 (upd H3 a3 (.tup [.str (S x.y), .ref x.wt])):=ao.upd n3
 have tl:ba (upd H3 a3 (.tup [.str (S x.y), .ref x.wt])) (upd (upd H3 a3 (.tup [.str (S x.y), .ref x.wt])) t (.lst (jl ks++[V.ref a3]))):=ba.yr (s3 _ _ JA)
 intro k Bq
 rcases Zz.mp Bq with g | g
 ·exact ((hk k g).ts s).ts ((ba.of s3).trans tl)
 ·rw[UZ.mp g]
  exact ⟨tl _ _ (by rw[hx,ah]),tl _ _ (s3 _ _ hw),hy,hz,ok⟩
theorem Iz (ks:List Ask) (lo hi:Option Int):iS (jl ks) lo hi=jl (cut ks lo hi):=by
 unfold iS cut
 rw[lH]
 unfold jl
 rw[Qcs,Qdb]
local macro_rules | `(tactic| walk_at "rd") => `(tactic| repeat (first
 | refine ⟨_,rfl,?_⟩
 | refine ⟨_,_,rfl,rfl,?_⟩
 | refine ⟨rfl,?_⟩
 | refine And.intro (by first | decide | omega | assumption | exact Nat.le_of_ble_eq_true rfl | exact .inl ⟨by decide,by decide⟩ | exact .inr ⟨by decide,by decide⟩ | exact ⟨by decide,by decide⟩ | exact ⟨by omega,by omega⟩) ?_))
local macro_rules | `(tactic| walk_at "wk") => `(tactic| repeat (first
 | refine ⟨_,rfl,?_⟩
 | refine ⟨_,_,rfl,rfl,?_⟩
 | refine ⟨_,_,_,rfl,rfl,by first | assumption | omega,by assumption,?_⟩
 | refine ⟨rfl,?_⟩
 | refine And.intro (by first | decide | omega | assumption | exact Nat.le_of_ble_eq_true rfl | exact .inl ⟨by decide,by decide⟩ | exact .inr ⟨by decide,by decide⟩ | exact ⟨by decide,by decide⟩ | exact ⟨by omega,by omega⟩) ?_))
local macro_rules | `(tactic| walk_at "bd") => `(tactic| first | assumption | exact XC _ | exact Y9 (by walk_at "bd") (by walk_at "bd"))
noncomputable def top (i:Nat):Stmt:=PySem.Challenge.pw_mustmeet_k28_least_numbers.main.body.getD i (.Pass ⟨0,0,0,0⟩)
noncomputable abbrev km:Stmt:=top 1
noncomputable abbrev pU:Stmt:=top 2
noncomputable abbrev uH:Stmt:=top 4
noncomputable abbrev gE:Stmt:=top 5
noncomputable abbrev ig:Stmt:=top 7
noncomputable abbrev pV:Stmt:=top 8
noncomputable abbrev fD:Stmt:=top 9
noncomputable abbrev mJ:Stmt:=top 10
noncomputable abbrev fZ:Stmt:=top 11
noncomputable abbrev jm:Stmt:=top 12
noncomputable abbrev eR:Stmt:=top 13
noncomputable abbrev ik:Stmt:=top 15
noncomputable abbrev gF:Stmt:=top 17
noncomputable abbrev jn:Stmt:=top 19
noncomputable abbrev ko:Stmt:=top 20
noncomputable abbrev zg:Stmt:=top 21
noncomputable abbrev zh:Stmt:=top 22
noncomputable abbrev f_:Stmt:=top 24
noncomputable abbrev gG:Stmt:=top 27
noncomputable abbrev il:Stmt:=top 28
noncomputable abbrev mK:Stmt:=top 29
noncomputable abbrev mL:Stmt:=top 30
noncomputable abbrev gH:Stmt:=top 31
noncomputable abbrev gc:Stmt:=top 32
noncomputable abbrev gI:Stmt:=top 33
noncomputable abbrev iq:Stmt:=top 34
noncomputable abbrev zi:Stmt:=top 35
noncomputable abbrev uI:Stmt:=top 37
noncomputable abbrev FF:Stmt:=top 38
noncomputable abbrev mM:Stmt:=top 39
noncomputable abbrev zj:Stmt:=top 41
noncomputable abbrev uJ:Stmt:=top 42
noncomputable abbrev pW:Stmt:=top 43
noncomputable abbrev uK:Stmt:=top 44
noncomputable abbrev pX:Stmt:=top 45
noncomputable abbrev uL:Stmt:=top 46
noncomputable abbrev pY:Stmt:=top 47
noncomputable abbrev FG:Stmt:=top 48
noncomputable abbrev mN:Stmt:=top 49
noncomputable abbrev mO:Stmt:=top 50
noncomputable abbrev mP:Stmt:=top 51
noncomputable abbrev mQ:Stmt:=top 52
noncomputable abbrev pZ:Stmt:=top 53
noncomputable abbrev p5:Stmt:=top 54
noncomputable abbrev p6:Stmt:=top 55
noncomputable abbrev kr:Stmt:=top 56
noncomputable abbrev FH:Stmt:=top 57
noncomputable abbrev p7:Stmt:=top 58
noncomputable abbrev FI:Stmt:=top 59
structure aZ (K:PySem.W.Frag) (mg:Str->Option Value) (x:Str) (st:Stmt) (ps:List Str) (f:Addr) (fd:FuncData):Prop where
 fn:GZ K x x st f fd
 mg:mg x=some (.ref f)
 bd:Binds K fd ps []
noncomputable abbrev jG:Stmt:=Vf (top 25) 0
noncomputable abbrev gW:Stmt:=Vf (top 26) 0
structure Txt (K:PySem.W.Frag) (mg:Str->Option Value) (f0 f1 f2 f3 f4 f5 f6 f7 f8 f9 MP MQ MR MS MT MU MV MW FJ FK MX MY MZ M0 M1 M3 M4 M5 M6 M7 M8 M9 M_ Na Nb Nd Nf Ng Nh Ni Nj Nk Nl Nm Nn Np Nq Nr Nt aQ aX jX gJ:Addr) (d0 d1 d2 d3 d4 d5 d6 d7 d8 d9 Nu Nv Nw Ny Nz NA NB NC ND NF NG NH NI NJ NK NL NM NN NO NP NQ NR NS NT NU NV NW NX NY NZ N0 N1 N2 N3 N4 N5 N6 N7 N8 xa p8:FuncData):Prop where
 F0:aZ K mg "contrary" km ["letter"] f0 d0
 F1:aZ K mg "turned" pU ["word"] f1 d1
 F2:aZ K mg "bands" uH ["yard"] f2 d2
 F3:aZ K mg "steps_round" gE ["yard","start","end"] f3 d3
 F4:aZ K mg "strands_at" ig ["yard","drawing","end"] f4 d4
 F5:aZ K mg "points" pV ["yard","drawing"] f5 d5
 F6:aZ K mg "corner_points" fD ["word","cord","place"] f6 d6
 F7:aZ K mg "corners" mJ ["yard","drawing"] f7 d7
 F8:aZ K mg "chord_starts" fZ ["some"] f8 d8
 F9:aZ K mg "number_in" jm ["rising","point"] f9 d9
 Co:aZ K mg "count_meetings" eR ["some"] MP Nu
 Ri:aZ K mg "strands_in" ik ["words","band"] MQ Nv
 Rj:aZ K mg "corner_ends" gF ["word","place"] MR Nw
 Rk:aZ K mg "shortened" jn ["word"] MS Ny
 Rl:aZ K mg "shortest" ko ["word"] MT Nz
 Gu:aZ K mg "ring" zg ["word"] MU NA
 Rm:aZ K mg "root" zh ["word"] MV NB
 Rn:aZ K mg "corner_steps" f_ ["yard","word","place"] MW NC
 xA:aZ K mg "steps_ahead" gG ["seen","start","end"] FJ ND
 xB:aZ K mg "steps_back" il ["seen","start","end"] FK NF
 LQ:aZ K mg "parting" mK ["steps","one","other","enough"] MX NG
 LR:aZ K mg "side_of" mL ["seen"] MY NH
 Ro:aZ K mg "comes_ahead" gH ["one","other"] MZ NI
 Rp:aZ K mg "number_among" gc ["order","seen"] M0 NJ
 Rq:aZ K mg "seen_strand" gI ["words","ways","strand"] M1 NK
 Rr:aZ K mg "taut_order" iq ["words","ways","band"] M3 NL
 LS:aZ K mg "taut" zi ["yard","words"] M4 NM
 LU:aZ K mg "least" uI ["yard","words"] M5 NN
 Rt:aZ K mg "own" FF ["yard","word"] M6 NO
 LV:aZ K mg "between" mM ["yard","one","other"] M7 NP
 Ru:aZ K mg "_law_box" zj ["_law_script","_law_k"] M8 NQ
 iJ:aZ K mg "_law_take" uJ ["_law_box_here","_law_many"] M9 NR
 g6:aZ K mg "_law_other" pW ["_law_letter"] M_ NS
 Rv:aZ K mg "_law_yard" uK ["_law_box_here","_law_few","_law_top"] Na NT
 Gv:aZ K mg "_law_short" pX ["_law_box_here","_law_yard_here","_law_top"] Nb NU
 Rw:aZ K mg "_law_near" uL ["_law_box_here","_law_yard_here","_law_word","_law_top"] Nd NV
 LW:aZ K mg "_law_round" pY ["_law_yard_here","_law_x","_law_y","_law_z"] Nf NW
 gg:aZ K mg "_law_on" FG ["_law_word","_law_k"] Ng NX
 Rx:aZ K mg "_law_across" mN ["_law_yard_here","_law_w","_law_i","_law_v","_law_j"] Nh NY
 Ry:aZ K mg "_law_shared" mO ["_law_w","_law_i","_law_v","_law_j","_law_counter"] Ni NZ
 LX:aZ K mg "_law_begins" mP ["_law_yard_here","_law_w","_law_i","_law_v","_law_j","_law_counter"] Nj N0
 LY:aZ K mg "_law_forced" mQ ["_law_yard_here","_law_words_here"] Nk N1
 Rz:aZ K mg "_law_times" pZ ["_law_word"] Nl N2
 RA:aZ K mg "_law_words" p5 ["_law_box_here","_law_yard_here","_law_many","_law_top"] Nm N3
 LZ:aZ K mg "_law_least" p6 ["_law_yard_here","_law_words_here"] Nn N4
 RB:aZ K mg "_law_between" kr ["_law_yard_here","_law_one","_law_other_here"] Np N5
 Gw:aZ K mg "_law_is" FH ["_law_found","_law_due"] Nq N6
 RC:aZ K mg "_law_right" p7 ["_law_yard_here","_law_words_here"] Nr N7
 XD:aZ K mg "law" FI ["_law_script"] Nt N8
 FL:mg "Seen"=some (.ref aQ)
 dI:GK K aQ
 n_Seen_strand:dU K aQ "strand"
 n_Seen_way:dU K aQ "way"
 n_Seen_place:dU K aQ "place"
 JK:mg "Way"=some (.ref aX)
 gu:GK K aX
 n_Way_size:dU K aX "size"
 n_Way_root_size:dU K aX "root_size"
 n_Way_leads:dU K aX "leads"
 n_Way_onward:dU K aX "onward"
 n_Way_backward:dU K aX "backward"
 JL:Mk K aX jX
 Qp:GZ K "__init__" "Way.__init__" jG jX xa
 JM:Binds K xa ["self","yard","word","longest"] []
 FN:Mk K aQ gJ
 L0:GZ K "__init__" "Seen.__init__" gW gJ p8
 FO:Binds K p8 ["self","strand","way","place"] []
 z_all:mg "all"=none
 z_bool:mg "bool"=none
 z_enumerate:mg "enumerate"=none
 z_int:mg "int"=none
 z_isinstance:mg "isinstance"=none
 z_len:mg "len"=none
 z_list:mg "list"=none
 z_max:mg "max"=none
 z_min:mg "min"=none
 z_range:mg "range"=none
 z_reversed:mg "reversed"=none
 z_set:mg "set"=none
 z_sorted:mg "sorted"=none
 z_str:mg "str"=none
 z_sum:mg "sum"=none
 z_tuple:mg "tuple"=none
theorem xb:aD ["letter"] ["letter"] (au km):=⟨rfl,rfl,rfl,by decide+kernel,rfl,by decide+kernel,by decide+kernel⟩
theorem Cp:aD ["word"] ["word"] (au pU):=⟨rfl,rfl,rfl,by decide+kernel,rfl,by decide+kernel,by decide+kernel⟩
theorem FP:aD ["yard"] ["yard"] (au uH):=⟨rfl,rfl,rfl,by decide+kernel,rfl,by decide+kernel,by decide+kernel⟩
theorem p9:aD ["yard","start","end"] ["yard","start","end"] (au gE):=⟨rfl,rfl,rfl,by decide+kernel,rfl,by decide+kernel,by decide+kernel⟩
theorem jY:aD ["yard","drawing","end","order"] ["yard","drawing","end"] (au ig):=⟨rfl,rfl,rfl,by decide+kernel,rfl,by decide+kernel,by decide+kernel⟩
theorem jH:aD ["yard","drawing","told","end","strand"] ["yard","drawing"] (au pV):=⟨rfl,rfl,rfl,by decide+kernel,rfl,by decide+kernel,by decide+kernel⟩
theorem gX:aD ["word","cord","place","ahead"] ["word","cord","place"] (au fD):=⟨rfl,rfl,rfl,by decide+kernel,rfl,by decide+kernel,by decide+kernel⟩
theorem cI:aD ["yard","drawing","numbers","number","point","told","cord","word","place","pair"] ["yard","drawing"] (au mJ):=⟨rfl,rfl,rfl,by decide+kernel,rfl,by decide+kernel,by decide+kernel⟩
theorem dH:aD ["some","starts","corner","first"] ["some"] (au fZ):=⟨rfl,rfl,rfl,by decide+kernel,rfl,by decide+kernel,by decide+kernel⟩
theorem dj:aD ["rising","point","low","high","middle"] ["rising","point"] (au jm):=⟨rfl,rfl,rfl,by decide+kernel,rfl,by decide+kernel,by decide+kernel⟩
theorem bG:aD ["some","starts","begun","many","point","number"] ["some"] (au eR):=⟨rfl,rfl,rfl,by decide+kernel,rfl,by decide+kernel,by decide+kernel⟩
theorem cS:aD ["words","band","found","cord","word","place","letter"] ["words","band"] (au ik):=⟨rfl,rfl,rfl,by decide+kernel,rfl,by decide+kernel,by decide+kernel⟩
theorem p_:aD ["word","place"] ["word","place"] (au gF):=⟨rfl,rfl,rfl,by decide+kernel,rfl,by decide+kernel,by decide+kernel⟩
theorem ir:aD ["word","kept","letter"] ["word"] (au jn):=⟨rfl,rfl,rfl,by decide+kernel,rfl,by decide+kernel,by decide+kernel⟩
theorem dQ:aD ["word","left","start","end"] ["word"] (au ko):=⟨rfl,rfl,rfl,by decide+kernel,rfl,by decide+kernel,by decide+kernel⟩
theorem jI:aD ["word","whole","least","start","begun"] ["word"] (au zg):=⟨rfl,rfl,rfl,by decide+kernel,rfl,by decide+kernel,by decide+kernel⟩
theorem oh:aD ["word","whole","size","times"] ["word"] (au zh):=⟨rfl,rfl,rfl,by decide+kernel,rfl,by decide+kernel,by decide+kernel⟩
theorem iG:aD ["yard","word","place","ends"] ["yard","word","place"] (au f_):=⟨rfl,rfl,rfl,by decide+kernel,rfl,by decide+kernel,by decide+kernel⟩
theorem jo:aD ["seen","start","end","first"] ["seen","start","end"] (au gG):=⟨rfl,rfl,rfl,by decide+kernel,rfl,by decide+kernel,by decide+kernel⟩
theorem jZ:aD ["seen","start","end","first"] ["seen","start","end"] (au il):=⟨rfl,rfl,rfl,by decide+kernel,rfl,by decide+kernel,by decide+kernel⟩
theorem dJ:aD ["steps","one","other","enough","many","size"] ["steps","one","other","enough"] (au mK):=⟨rfl,rfl,rfl,by decide+kernel,rfl,by decide+kernel,by decide+kernel⟩
theorem ku:aD ["seen","way","cord"] ["seen"] (au mL):=⟨rfl,rfl,rfl,by decide+kernel,rfl,by decide+kernel,by decide+kernel⟩
theorem eE:aD ["one","other","enough","ahead","back"] ["one","other"] (au gH):=⟨rfl,rfl,rfl,by decide+kernel,rfl,by decide+kernel,by decide+kernel⟩
theorem b6:aD ["order","seen","low","high","middle"] ["order","seen"] (au gc):=⟨rfl,rfl,rfl,by decide+kernel,rfl,by decide+kernel,by decide+kernel⟩
theorem gf:aD ["words","ways","strand","word","place"] ["words","ways","strand"] (au gI):=⟨rfl,rfl,rfl,by decide+kernel,rfl,by decide+kernel,by decide+kernel⟩
theorem eX:aD ["words","ways","band","order","strand","seen"] ["words","ways","band"] (au iq):=⟨rfl,rfl,rfl,by decide+kernel,rfl,by decide+kernel,by decide+kernel⟩
theorem uM:aD ["yard","words","longest","ways"] ["yard","words"] (au zi):=⟨rfl,rfl,rfl,by decide+kernel,rfl,by decide+kernel,by decide+kernel⟩
theorem FQ:aD ["yard","words"] ["yard","words"] (au uI):=⟨rfl,rfl,rfl,by decide+kernel,rfl,by decide+kernel,by decide+kernel⟩
theorem L3:aD ["yard","word"] ["yard","word"] (au FF):=⟨rfl,rfl,rfl,by decide+kernel,rfl,by decide+kernel,by decide+kernel⟩
theorem iu:aD ["yard","one","other","every","ones","others"] ["yard","one","other"] (au mM):=⟨rfl,rfl,rfl,by decide+kernel,rfl,by decide+kernel,by decide+kernel⟩
theorem lI:aD ["_law_script","_law_k","_law_cell","_law_seed"] ["_law_script","_law_k"] (au zj):=⟨rfl,rfl,rfl,by decide+kernel,rfl,by decide+kernel,by decide+kernel⟩
theorem qa:aD ["_law_box_here","_law_many","_law_digit","_law_one"] ["_law_box_here","_law_many"] (au uJ):=⟨rfl,rfl,rfl,by decide+kernel,rfl,by decide+kernel,by decide+kernel⟩
theorem mR:aD ["_law_letter","_law_small","_law_capital"] ["_law_letter"] (au pW):=⟨rfl,rfl,rfl,by decide+kernel,rfl,by decide+kernel,by decide+kernel⟩
theorem fj:aD ["_law_box_here","_law_few","_law_top","_law_left","_law_ends","_law_k","_law_letter","_law_found"] ["_law_box_here","_law_few","_law_top"] (au uK):=⟨rfl,rfl,rfl,by decide+kernel,rfl,by decide+kernel,by decide+kernel⟩
theorem cT:aD ["_law_box_here","_law_yard_here","_law_top","_law_many","_law_form","_law_word","_law_letter"] ["_law_box_here","_law_yard_here","_law_top"] (au pX):=⟨rfl,rfl,rfl,by decide+kernel,rfl,by decide+kernel,by decide+kernel⟩
theorem jq:aD ["_law_box_here","_law_yard_here","_law_word","_law_top","_law_form","_law_at","_law_letter","_law_some"] ["_law_box_here","_law_yard_here","_law_word","_law_top"] (au uL):=⟨rfl,rfl,rfl,by decide+kernel,rfl,by decide+kernel,by decide+kernel⟩
theorem mS:aD ["_law_yard_here","_law_x","_law_y","_law_z","_law_at","_law_rest"] ["_law_yard_here","_law_x","_law_y","_law_z"] (au pY):=⟨rfl,rfl,rfl,by decide+kernel,rfl,by decide+kernel,by decide+kernel⟩
theorem L4:aD ["_law_word","_law_k"] ["_law_word","_law_k"] (au FG):=⟨rfl,rfl,rfl,by decide+kernel,rfl,by decide+kernel,by decide+kernel⟩
theorem eS:aD ["_law_yard_here","_law_w","_law_i","_law_v","_law_j","_law_a","_law_b","_law_p","_law_q","_law_at","_law_rest"] ["_law_yard_here","_law_w","_law_i","_law_v","_law_j"] (au mN):=⟨rfl,rfl,rfl,by decide+kernel,rfl,by decide+kernel,by decide+kernel⟩
theorem iw:aD ["_law_w","_law_i","_law_v","_law_j","_law_counter","_law_many","_law_other_here"] ["_law_w","_law_i","_law_v","_law_j","_law_counter"] (au mO):=⟨rfl,rfl,rfl,by decide+kernel,rfl,by decide+kernel,by decide+kernel⟩
theorem dc:aD ["_law_yard_here","_law_w","_law_i","_law_v","_law_j","_law_counter","_law_many","_law_p","_law_q","_law_behind","_law_last","_law_one"] ["_law_yard_here","_law_w","_law_i","_law_v","_law_j","_law_counter"] (au mP):=⟨rfl,rfl,rfl,by decide+kernel,rfl,by decide+kernel,by decide+kernel⟩
theorem bK:aD ["_law_yard_here","_law_words_here","_law_found","_law_places","_law_c","_law_word","_law_i","_law_d","_law_j","_law_w","_law_v","_law_many","_law_there"] ["_law_yard_here","_law_words_here"] (au mQ):=⟨rfl,rfl,rfl,by decide+kernel,rfl,by decide+kernel,by decide+kernel⟩
theorem sF:aD ["_law_word","_law_many"] ["_law_word"] (au pZ):=⟨rfl,rfl,rfl,by decide+kernel,rfl,by decide+kernel,by decide+kernel⟩
theorem jJ:aD ["_law_box_here","_law_yard_here","_law_many","_law_top","_law_found","_law_k","_law_one"] ["_law_box_here","_law_yard_here","_law_many","_law_top"] (au p5):=⟨rfl,rfl,rfl,by decide+kernel,rfl,by decide+kernel,by decide+kernel⟩
theorem Cq:aD ["_law_yard_here","_law_words_here"] ["_law_yard_here","_law_words_here"] (au p6):=⟨rfl,rfl,rfl,by decide+kernel,rfl,by decide+kernel,by decide+kernel⟩
theorem xc:aD ["_law_yard_here","_law_one","_law_other_here"] ["_law_yard_here","_law_one","_law_other_here"] (au kr):=⟨rfl,rfl,rfl,by decide+kernel,rfl,by decide+kernel,by decide+kernel⟩
theorem L7:aD ["_law_found","_law_due"] ["_law_found","_law_due"] (au FH):=⟨rfl,rfl,rfl,by decide+kernel,rfl,by decide+kernel,by decide+kernel⟩
theorem gY:aD ["_law_yard_here","_law_words_here","_law_word","_law_one","_law_other_here","_law_due"] ["_law_yard_here","_law_words_here"] (au p7):=⟨rfl,rfl,rfl,by decide+kernel,rfl,by decide+kernel,by decide+kernel⟩
theorem qb:aD ["_law_script","_law_asked","_law_k","_law_box_here","_law_yard_here"] ["_law_script"] (au FI):=⟨rfl,rfl,rfl,by decide+kernel,rfl,by decide+kernel,by decide+kernel⟩
theorem qc:aD ["self","yard","word","longest","steps","rounds"] ["self","yard","word","longest"] (au jG):=⟨rfl,rfl,rfl,by decide+kernel,rfl,by decide+kernel,by decide+kernel⟩
theorem Cr:aD ["self","strand","way","place"] ["self","strand","way","place"] (au gW):=⟨rfl,rfl,rfl,by decide+kernel,rfl,by decide+kernel,by decide+kernel⟩
section
variable {P:Program} {w:World} {K:PySem.W.Frag} {mg:Str->Option Value} {base:Heap} {f0 f1 f2 f3 f4 f5 f6 f7 f8 f9 MP MQ MR MS MT MU MV MW FJ FK MX MY MZ M0 M1 M3 M4 M5 M6 M7 M8 M9 M_ Na Nb Nd Nf Ng Nh Ni Nj Nk Nl Nm Nn Np Nq Nr Nt aQ aX jX gJ:Addr} {d0 d1 d2 d3 d4 d5 d6 d7 d8 d9 Nu Nv Nw Ny Nz NA NB NC ND NF NG NH NI NJ NK NL NM NN NO NP NQ NR NS NT NU NV NW NX NY NZ N0 N1 N2 N3 N4 N5 N6 N7 N8 xa p8:FuncData}
variable (T:Txt K mg f0 f1 f2 f3 f4 f5 f6 f7 f8 f9 MP MQ MR MS MT MU MV MW FJ FK MX MY MZ M0 M1 M3 M4 M5 M6 M7 M8 M9 M_ Na Nb Nd Nf Ng Nh Ni Nj Nk Nl Nm Nn Np Nq Nr Nt aQ aX jX gJ d0 d1 d2 d3 d4 d5 d6 d7 d8 d9 Nu Nv Nw Ny Nz NA NB NC ND NF NG NH NI NJ NK NL NM NN NO NP NQ NR NS NT NU NV NW NX NY NZ N0 N1 N2 N3 N4 N5 N6 N7 N8 xa p8)
include T
theorem fk:bA P w K mg base eF 1 f0 d0 ["letter"] (m7 K):=by
 refine T.F0.fn.ok xb (fun vs H Q E h=>tX h) (fun cn A outer s H vs Q E hr h=>?_)
 refine ⟨_,(ag (bF (eI (eU K rfl ZE Qda Qc9 j9 (pv 0))) (ai (aE (eU K rfl ZE PySem.F.slot_str_upper PySem.F.type_str_upper Dm (pv 0)))) aV)
   (ai (aE (eU K rfl ZE Qdh Qdg oK (pv 0))))),?_⟩
 obtain ⟨c,rfl,hc,q⟩:=h
 refine ⟨_,rfl,rfl,c,rfl,rfl,hc,_,rfl,bC (fun e=>?_) (fun e=>?_)⟩
 ·refine ⟨_,rfl,rfl,c,rfl,rfl,hc,?_⟩
  have z:aF c=PyProof.Rows.up1 c:=if_pos e
  rw[<-z]
  exact q
 ·refine ⟨_,rfl,rfl,c,rfl,rfl,hc,?_⟩
  have z:aF c=PyProof.Rows.lo1 c:=if_neg e
  rw[<-z]
  exact q
theorem qd:bA P w K mg base eF 2 MR Nw ["word","place"] (i6 K):=by
 have cJ:=fk (P:=P) (w:=w) (base:=base) T
 refine T.Rj.fn.ok p_ (fun vs H Q E h=>nB h) (fun cn A outer s H vs Q E hr h=>?_)
 refine ⟨_,(ai (aE (bD (aa (ak cJ (hr.mono (by decide)) rfl T.F0.mg T.F0.fn.kp T.F0.bd .nil az (aa (aT g8 (pv 0) (aA bN (pv 1) aj) (fun _ _=>rfl)) ae)) (aa (aT g8 (pv 0) (pv 1) (fun _ _=>rfl)) ae))))),?_⟩
 obtain ⟨w,i,rfl,hl,hz,hi,q⟩:=h
 have hs:(100000:Nat)<sizeLine:=by decide
 have dv:w≠[]:=fun z=>by rw[z]at hi;simp at hi
 refine ⟨_,rfl,_,rfl,_,_,rfl,rfl,w,_,_,rfl,rfl,by omega,jR (by omega) (by omega),_,rfl,(hl _ (hW dv _)).lt,?_⟩
 refine ⟨_,rfl,_,rfl,w,_,_,rfl,rfl,by omega,jR (by omega) (by omega),by show 2<=sizeLine;decide,fun t nt=>?_⟩
 exact q t _ nt ah (ao.upd nt)
theorem uN:bA P w K mg base eF 2 MS Ny ["word"] (kQ K):=by
 have cJ:=fk (P:=P) (w:=w) (base:=base) T
 refine T.Rk.fn.ok ir (fun vs H Q E h=>qC h) (fun cn A outer s H vs Q E hr h=>?_)
 refine ⟨_,(ag (aq (i:=1) ir.nd rfl (Or.inl rfl) (dq ae))
   (ag (bT PassesOwn.never rfl (tF (pv 0)) (aK (i:=2) ir.nd rfl (Or.inl rfl)) (ai (bF (PW.pt (fu (G9 K rfl (pv 1)) (dR (aG gB (aT (b9 K rfl) (pv 1) (jP gz aj) (fun _ _=>rfl)) (ak cJ (hr.mono (by decide)) rfl T.F0.mg T.F0.fn.kp T.F0.bd .nil az (aa (pv 2) ae)) (aL _))))) (ai (cj (eU K rfl ZK Qcn Qcm Ks (pv 1)))) (ai (cj (bz K rfl ZK Z9 Z8 cq (pv 1) (aa (pv 2) ae)))))))
   (ai (aE (bz K rfl ZE Qbt Qbs (iX K rfl) (j8 [] (by decide+kernel)) (aa (pv 1) ae)))))),?_⟩
 obtain ⟨l,rfl,hl,hz,q⟩:=h
 have hs:(100000:Nat)<sizeLine:=by decide
 walk_at "rd"
 intro p1 n1
 refine ⟨_,rfl,l,rfl,?_⟩
 refine zT (xs:=dz l) (fun i σ H'=> ∃lv,σ=[some (.str (S l)),some (.ref p1),lv]/\H' p1=some (.lst (dz (red (l.take i))))/\aN p1 H H') ⟨none,rfl,ah,aN.of (ao.upd n1)⟩ ?_ ?_
 ·rintro i x σ H1 hx ⟨lv,rfl,hp,s1⟩
  obtain ⟨c,hc,rfl⟩:=g9 hx
  have hi:i<l.length:=(Kx.mp hc).1
  have h8:c<128:=(hl c (Zx hc)).lt
  have Vw:(red (l.take i)).length<=1000:=ZW (kO _) (by rw[ZD];omega)
  have fin: ∀st,st=fE (red (l.take i)) c-> ∃lv,[some (V.str (S l)),some (V.ref p1),some (V.str (S [c]))]=[some (V.str (S l)),some (.ref p1),lv]/\(upd H1 p1 (.lst (dz st))) p1=some (.lst (dz (red (l.take (i+1)))))/\aN p1 H (upd H1 p1 (.lst (dz st))):=fun st e=>
   ⟨_,rfl,by rw[ah,DY hc,e],fun b o e z=>by rw[ay z];exact s1 b o e z⟩
  refine ⟨_,rfl,p1,_,rfl,br.of hp,?_⟩
  rcases snoc_cases (red (l.take i)) with e | ⟨m,a,e⟩
  ·rw[e]at hp ⊢
   refine DV rfl ?_
   refine lX ?_
   refine ⟨_,rfl, .inl ⟨rfl,_,br.of hp⟩,_,rfl,p1,_,_,rfl,rfl,hp,by rw[aY];exact (by decide:(0:Nat)<sizeLine),?_⟩
   rw[dZ]
   refine fin _ ?_
   rw[e]
   unfold fE
   rw[if_neg (by simp)]
  ·rw[e]at hp Vw ⊢
   have Y_:m.length<=1000:=by simp at Vw;omega
   rw[<-dZ]at hp ⊢
   refine TC (by simp) ?_
   refine ⟨_,rfl,_,rfl,p1,_,_,_,rfl,rfl,br.of hp,C_ _ _,_,rfl,c,rfl,h8,[a],[aF c],rfl,rfl,_,rfl,bC (fun z=>?_) (fun z=>?_)⟩
   ·have ea:a=aF c:=by simpa using of_decide_eq_true z
    refine ⟨_,rfl, .inl ⟨rfl,_,br.of hp⟩,p1,_,V.str (S [a]),rfl,rfl,hp,by simp,?_⟩
    rw[Qdw]
    refine fin _ ?_
    rw[e]
    unfold fE
    rw[if_pos (by simp[ea]),Qdw]
   ·have ea:a≠aF c:=fun w=>z (decide_eq_true (by rw[w]))
    refine ⟨_,rfl, .inl ⟨rfl,_,br.of hp⟩,_,rfl,p1,_,_,rfl,rfl,hp,by rw[UY,aY];show m.length+1<sizeLine;omega,?_⟩
    rw[dZ,dZ]
    refine fin _ ?_
    rw[e]
    unfold fE
    rw[if_neg (by simpa using ea)]
 ·rintro σ H1 ⟨lv,rfl,hp,s1⟩
  rw[vS]at hp
  refine ⟨rfl,_,rfl,p1,(red l).map fun c=>[c],rfl,rfl,br.of (by rw[<-gP];exact hp),?_,?_⟩
  ·rw[BQ]
   have:=kO l
   omega
  ·rw[rD]
   exact q _ (fun b o e=>s1 b o e (ar e n1))
theorem xf:bA P w K mg base eF 3 MT Nz ["word"] (m8 K):=by
 have xg:=uN (P:=P) (w:=w) (base:=base) T
 have cJ:=fk (P:=P) (w:=w) (base:=base) T
 refine T.Rl.fn.ok dQ (fun vs H Q E h=>tY h) (fun cn A outer s H vs Q E hr h=>?_)
 refine ⟨_,(ag (aq (i:=1) dQ.nd rfl (Or.inl rfl) (ak xg (hr.mono (by decide)) rfl T.Rk.mg T.Rk.fn.kp T.Rk.bd .nil az (aa (pv 0) ae)))
   (ag (aq (i:=2) dQ.nd rfl (Or.inl rfl) aj)
   (ag (aq (i:=3) dQ.nd rfl (Or.inl rfl) (aB aI rfl T.z_len WG (aa (pv 1) ae)))
   (ag (dN PassesOwn.never (PW.pt (fu (aG C2 (aA bN (pv 3) (pv 2)) aj (aL _)) (dR (aG gB (aT g8 (pv 1) (pv 2) (fun _ _=>rfl)) (ak cJ (hr.mono (by decide)) rfl T.F0.mg T.F0.fn.kp T.F0.bd .nil az (aa (aT g8 (pv 1) (aA bN (pv 3) aj) (fun _ _=>rfl)) ae)) (aL _))))) (ag (j7 (i:=2) dQ.nd rfl (Or.inl rfl) aj sS)
   (ai (j7 (i:=3) dQ.nd rfl (Or.inl rfl) aj Kb))))
   (ai (aE (bj iU (pv 1) (bc (pv 2)) (bc (pv 3))))))))),?_⟩
 obtain ⟨l,rfl,hl,hz,q⟩:=h
 have hs:(100000:Nat)<sizeLine:=by decide
 refine ⟨_,rfl,l,rfl,hl,hz,fun H1 s1=>?_⟩
 have Jr:=kO l
 have cV:=K6 hl
 generalize red l=r at Jr cV q ⊢
 have Vx:r.length<=sizeLine:=by omega
 walk_at "rd"
 refine ⟨fun m σ H'=> ∃(a e:Nat),σ=[some (.str (S l)),some (.str (S r)),some (.int a),some (.int e)]/\m=e - a/\a<=e/\e<=r.length/\core (CJ r a e)=core r/\H'=H1,⟨_,0,r.length,rfl,rfl,Y6 _,Q3 _,by rw[Hu],rfl⟩,?_⟩
 rintro m σ H2 ⟨a,e,rfl,rfl,h1,h2,hc,rfl⟩
 have fin:core (CJ r a e)=CJ r a e->Q (.str (S (cut r (some (a:Int)) (some (e:Int))))) H2:=fun z=>by
  have e1:cut r (some (a:Int)) (some (e:Int))=CJ r a e:=by
   unfold cut CJ
   rw[HT.gi,HT.gi]
   have e1:min a r.length=a:=by omega
   have e2:min e r.length=e:=by omega
   rw[e1,e2]
  rw[e1, <-z,hc]
  exact q H2 s1
 walk_at "rd"
 refine bC (fun z=>?_) (fun z=>?_)
 ·have z1:(2:Int)<=(e:Int) - (a:Int):=of_decide_eq_true z
  have ha:a<r.length:=by omega
  have he:e - 1<r.length:=by omega
  have g0:oB r (a:Int)=some r[a]:=b8 (Kw ha)
  have g1:oB r ((e:Int) - 1)=some r[e - 1]:=by
   have:(e:Int) - 1=((e - 1:Nat):Int):=by omega
   rw[this];exact b8 (Kw he)
  have h8:r[e - 1]<128:=(cV _ (ZV he)).lt
  have hw:=K7 (l:=r) (s:=a) (e:=e) (by omega) h2
  refine ⟨_,rfl,_,rfl,r,_,_,rfl,rfl,Vx,g0,?_⟩
  walk_at "rd"
  refine ⟨r,_,_,rfl,rfl,Vx,g1,?_⟩
  walk_at "rd"
  refine bC (fun y=>?_) (fun y=>?_)
  ·have ey:r[a]=aF r[e - 1]:=by simpa using of_decide_eq_true y
   walk_at "rd"
   refine ⟨(e - 1) - (a+1),by omega,a+1,e - 1,?_,rfl,by omega,by omega,?_,rfl⟩
   ·have e1:(a:Int)+1=((a+1:Nat):Int):=by omega
    have e2:(e:Int) - 1=((e - 1:Nat):Int):=by omega
    rw[<-e1, <-e2]
    rfl
   ·rw[<-hc,hw,z_ ey]
  ·have ey:r[a]≠aF r[e - 1]:=fun w=>y (decide_eq_true (by rw[w]))
   walk_at "rd"
   exact fin (by rw[hw,mf ey])
 ·have z1: ¬(2:Int)<=(e:Int) - (a:Int):=fun w=>z (decide_eq_true w)
  walk_at "rd"
  exact fin (hU (by rw[Ht h2];omega))
theorem A0:bA P w K mg base eF 4 MU NA ["word"] (Aa K):=by
 have zk:=xf (P:=P) (w:=w) (base:=base) T
 refine T.Gu.fn.ok jI (fun vs H Q E h=>D1 h) (fun cn A outer s H vs Q E hr h=>?_)
 refine ⟨_,(ag (aq (i:=1) jI.nd rfl (Or.inl rfl) (ak zk (hr.mono (by decide)) rfl T.Rl.mg T.Rl.fn.kp T.Rl.bd .nil az (aa (pv 0) ae)))
   (ag (aq (i:=2) jI.nd rfl (Or.inl rfl) (pv 1))
   (ag (bT PassesOwn.never rfl (lU rfl T.z_range (aa aj (aa (aB aI rfl T.z_len WG (aa (pv 1) ae)) ae))) (aK (i:=3) jI.nd rfl (Or.inl rfl)) (ag (aq (i:=4) jI.nd rfl (Or.inl rfl) (aA fM (bj iU (pv 1) (bc (pv 3)) bY) (bj iU (pv 1) bY (bc (pv 3)))))
   (ai (bF (aG tH (pv 4) (pv 2) (aL _)) (ai (aq (i:=2) jI.nd rfl (Or.inl rfl) (pv 4))) aV))))
   (ai (aE (pv 2)))))),?_⟩
 obtain ⟨l,rfl,hl,hz,q⟩:=h
 have hs:(100000:Nat)<sizeLine:=by decide
 refine ⟨_,rfl,l,rfl,hl,hz,fun H1 s1=>?_⟩
 have XE:(core (red l)).length<=1000:=ZW (vW _) (ZW (kO l) hz)
 unfold dP fF at q
 generalize core (red l)=c at XE q ⊢
 have XF:c.length<=sizeLine:=by omega
 walk_at "rd"
 refine ⟨_,_,rfl,⟨by decide,by decide,by omega,by omega⟩,?_⟩
 refine dM (fun i σ H'=>H'=H1/\ ∃sv bv,σ=[some (.str (S l)),some (.str (S c)),some (.str (S (b_ c (kR c i)))),sv,bv]) ⟨rfl,none,none,rfl⟩ ?_ ?_
 ·rintro i σ H2 hi ⟨rfl,sv,bv,rfl⟩
  have e1:(1:Int)+(i:Int)=((i+1:Nat):Int):=by omega
  rw[e1]
  have hlen:(cut c (some ((i+1:Nat):Int)) none).length+(cut c none (some ((i+1:Nat):Int))).length<=sizeLine:=by rw[cD,d_,ZL,ZD];omega
  have zl:cut c (some ((i+1:Nat):Int)) none++cut c none (some ((i+1:Nat):Int))=gZ c (i+1):=by rw[cD,d_];rfl
  walk_at "rd"
  rw[zl]
  refine bC (fun z=>?_) (fun z=>?_)
  ·have z':gZ c (i+1)<b_ c (kR c i):=of_decide_eq_true z
   have hle:b_ c (kR c (i+1))=gZ c (i+1):=by rw[rF,hV];unfold cU;rw[if_pos z']
   refine ⟨_,rfl,?_⟩
   rw[hle]
   exact ⟨rfl,_,_,rfl⟩
  ·have z': ¬gZ c (i+1)<b_ c (kR c i):=fun y=>z (decide_eq_true y)
   have hle:b_ c (kR c (i+1))=b_ c (kR c i):=by rw[rF,hV];unfold cU;rw[if_neg z']
   rw[hle]
   exact ⟨rfl,_,_,rfl⟩
 ·rintro σ H2 ⟨rfl,sv,bv,rfl⟩
  have e:((c.length:Int) - 1).toNat=c.length - 1:=by omega
  rw[e]
  exact ⟨_,rfl,q _ s1⟩
theorem lJ:bA P w K mg base eF 1 M9 NR ["_law_box_here","_law_many"] (vQ K):=by
 refine T.iJ.fn.ok qa (fun vs H Q E h=>BO h) (fun cn A outer s H vs Q E hr h=>?_)
 refine ⟨_,(ag (bF (aG mW (aT (b9 K rfl) (pv 0) aj (fun _ _=>rfl)) aj (aL _)) (ag (aq (i:=2) qa.nd rfl (Or.inl rfl) (aA dm (aT (b9 K rfl) (pv 0) aj (fun _ _=>rfl)) (pv 1)))
   (ag (xG (aA dE (aT (b9 K rfl) (pv 0) aj (fun _ _=>rfl)) (pv 1)) (CY (pv 0) aj set_list))
   (ai (aE (pv 2))))) aV)
   (ag (aq (i:=3) qa.nd rfl (Or.inl rfl) (aA dm (aA iQ (aT (b9 K rfl) (pv 0) aj (fun _ _=>rfl)) aj) aj))
   (ag (xG (aA aU (aA dm (aA aU (aA iQ (pv 3) aj) aj) aj) aj) (CY (pv 0) aj set_list))
   (ai (aE (aA dm (aA dE (aA aU (aA iQ (pv 3) aj) (aT (b9 K rfl) (pv 0) aj (fun _ _=>rfl))) aj) (pv 1))))))),?_⟩
 obtain ⟨b,m,rfl,⟨x,y,hb⟩,h1,h2,q⟩:=h
 have fin: ∀(r x' y':Int),0<=r->r<m->Q (.int r) (upd H b (.lst [.int x', .int y'])):=fun r x' y' h3 h4=>by
  have e:r=((r.toNat:Nat):Int):=by omega
  rw[e]
  exact q r.toNat _ (by omega) ⟨x',y',ah⟩ (aN.upd b H _)
 refine ⟨_,rfl,b,_,0,_,rfl,rfl,br.of hb,rfl,_,_,rfl,rfl,_,rfl,bC (fun e=>?_) (fun e=>?_)⟩
 ·refine ⟨_,rfl,b,_,0,_,rfl,rfl,br.of hb,rfl,_,rfl,_,_,rfl,rfl,(by omega:0<m),?_⟩
  refine ⟨_,rfl,b,_,0,_,rfl,rfl,br.of hb,rfl,_,rfl,_,_,rfl,rfl,⟨by omega,by omega⟩,_,rfl,b,_,0,0,rfl,rfl,hb,rfl,_,rfl,?_⟩
  exact fin (x%m) (x / m) y (Qar _ (by omega)) (Qak _ (by omega))
 ·refine ⟨_,rfl,b,_,1,_,rfl,rfl,br.of hb,rfl,_,_,rfl,rfl, .inr ⟨by decide,by decide⟩,_,_,rfl,rfl,(by decide:(0:Int)<2147483647),?_⟩
  refine ⟨_,rfl,_,_,rfl,rfl, .inr ⟨by decide,by decide⟩,_,_,rfl,rfl,_,_,rfl,rfl,(by decide:(0:Int)<2147483629),_,_,rfl,rfl,_,rfl,b,_,1,1,rfl,rfl,hb,rfl,?_⟩
  refine ⟨_,rfl,_,_,rfl,rfl, .inr ⟨by decide,by decide⟩,_,rfl,b,_,1,_,rfl,rfl,br.of ah,rfl,_,_,rfl,rfl,_,_,rfl,rfl,⟨by decide,by decide⟩,_,rfl,_,_,rfl,rfl,(by omega:0<m),?_⟩
  exact fin _ _ _ (Qar _ (by omega)) (Qak _ (by omega))
theorem fS:bA P w K mg base eF 1 M_ NS ["_law_letter"] (rB K):=by
 refine T.g6.fn.ok mR (fun vs H Q E h=>yu h) (fun cn A outer s H vs Q E hr h=>?_)
 refine ⟨_,(ag (aq (i:=1) mR.nd rfl (Or.inl rfl) (j8 [97,98,99,100,101,102,103,104,105,106,107,108,109,110,111,112,113,114,115,116,117,118,119,120,121,122] (by decide+kernel)))
   (ag (aq (i:=2) mR.nd rfl (Or.inl rfl) (j8 [65,66,67,68,69,70,71,72,73,74,75,76,77,78,79,80,81,82,83,84,85,86,87,88,89,90] (by decide+kernel)))
   (ag (bF (aG KD (pv 0) (pv 1) (by with_unfolding_all rfl)) (ai (aE (aT g8 (pv 2) (bz K rfl ZE Qaj Qai de (pv 1) (aa (pv 0) ae)) (fun _ _=>rfl)))) aV)
   (ai (aE (aT g8 (pv 1) (bz K rfl ZE Qaj Qai de (pv 2) (aa (pv 0) ae)) (fun _ _=>rfl))))))),?_⟩
 obtain ⟨c,rfl,hc,q⟩:=h
 refine ⟨_,rfl,_,rfl,c,bf,rfl,rfl,_,rfl,bC (fun e=>?_) (fun e=>?_)⟩
 ·have hm:c∈bf:=of_decide_eq_true e
  exact ⟨_,rfl,_,rfl,rfl,_,rfl,bf,c,rfl,rfl,hm,ka,_,aF c,rfl,rfl,by decide,vP c hm,q⟩
 ·have hm:c∈ka:=hc.resolve_left fun z=>e (decide_eq_true z)
  exact ⟨_,rfl,_,rfl,rfl,_,rfl,ka,c,rfl,rfl,hm,bf,_,aF c,rfl,rfl,by decide,BN c hm,q⟩
theorem sG:bA P w K mg base eF 2 Nb NU ["_law_box_here","_law_yard_here","_law_top"] (rO K):=by
 have cK:=lJ (P:=P) (w:=w) (base:=base) T
 have bJ:=fS (P:=P) (w:=w) (base:=base) T
 refine T.Gv.fn.ok cT (fun vs H Q E h=>yD h) (fun cn A outer s H vs Q E hr h=>?_)
 refine ⟨_,(ag (aq (i:=3) cT.nd rfl (Or.inl rfl) (aA aU aj (ak cK (hr.mono (by decide)) rfl T.iJ.mg T.iJ.fn.kp T.iJ.bd .nil az (aa (pv 0) (aa (pv 2) ae)))))
   (ag (aq (i:=4) cT.nd rfl (Or.inl rfl) (ak cK (hr.mono (by decide)) rfl T.iJ.mg T.iJ.fn.kp T.iJ.bd .nil az (aa (pv 0) (aa aj ae))))
   (ag (aq (i:=5) cT.nd rfl (Or.inl rfl) (j8 [] (by decide+kernel)))
   (gk (dN PassesOwn.never (aG gN (aB aI rfl T.z_len WG (aa (pv 5) ae)) (pv 3) (aL _)) (ag (aq (i:=6) cT.nd rfl (Or.inl rfl) (aT g8 (pv 1) (ak cK (hr.mono (by decide)) rfl T.iJ.mg T.iJ.fn.kp T.iJ.bd .nil az (aa (pv 0) (aa (aB aI rfl T.z_len WG (aa (pv 1) ae)) ae))) (fun _ _=>rfl)))
   (gk (bF (PW.pt (fu (aG fV (pv 4) aj (aL _)) (fu (aG mW (aB aI rfl T.z_len WG (aa (pv 5) ae)) aj (aL _)) (dR (aG gN (aB aI rfl T.z_len WG (aa (pv 5) ae)) aj (aL _)))))) (ai (aq (i:=6) cT.nd rfl (Or.inl rfl) (aT g8 (pv 5) (aA dm (aB aI rfl T.z_len WG (aa (pv 5) ae)) aj) (fun _ _=>rfl)))) aV)
   (ai (bF (PW.pt (zK (aG gB (pv 5) (j8 [] (by decide+kernel)) (aL _)) (sQ (aG Dw (pv 6) (ak bJ (hr.mono (by decide)) rfl T.g6.mg T.g6.fn.kp T.g6.bd .nil az (aa (aT g8 (pv 5) (jP gz aj) (fun _ _=>rfl)) ae)) (aL _))))) (ai (aq (i:=5) cT.nd rfl (Or.inl rfl) (aA fM (pv 5) (pv 6)))) (ai (aq (i:=5) cT.nd rfl (Or.inl rfl) (aA fM (pv 5) (aT g8 (pv 5) (jP gz aj) (fun _ _=>rfl))))))))))
   (gk (dN PassesOwn.never (PW.pt (fu (aG mW (aB aI rfl T.z_len WG (aa (pv 5) ae)) aj (aL _)) (dR (aG gB (aT g8 (pv 5) aj (fun _ _=>rfl)) (ak bJ (hr.mono (by decide)) rfl T.g6.mg T.g6.fn.kp T.g6.bd .nil az (aa (aT g8 (pv 5) (jP gz aj) (fun _ _=>rfl)) ae)) (aL _))))) (ai (aq (i:=5) cT.nd rfl (Or.inl rfl) (bj iU (pv 5) bY (bc (jP gz aj))))))
   (gk (bF (PW.pt (fu (aG fV (pv 4) aj (aL _)) (dR (aG Jf (aA iQ (aB aI rfl T.z_len WG (aa (pv 5) ae)) aj) (pv 2) (aL _))))) (ai (aq (i:=5) cT.nd rfl (Or.inl rfl) (aA fM (pv 5) (pv 5)))) aV)
   (ai (aE (pv 5))))))))),?_⟩
 obtain ⟨b,y,top,rfl,hb,hy,JN,JO,zo,xC,q⟩:=h
 have hs:(100000:Nat)<sizeLine:=by decide
 have Qq:y.length<=sizeLine:=by omega
 refine ⟨_,rfl,_,rfl,b,_,rfl,hb,by omega,by omega,fun n H1 hn BM s1=>?_⟩
 refine ⟨_,_,rfl,rfl,_,rfl,b,5,rfl,BM,by decide,by decide,fun fm H2 XG m4 s2=>?_⟩
 have Za:n+1<=top:=by omega
 have qH:=s1.trans s2
 walk_at "wk"
 refine ⟨fun σ' H'=> ∃(w:List Nat) (lv:Option V),σ'=[some (.ref b),some (.str (S y)),some (.int top),some (.int (1+(n:Int))),some (.int fm),some (.str (S w)),lv]/\Wd y w/\1<=w.length/\w.length<=n+1/\cP H' b/\aN b H H',?_,?_⟩
 ·refine ⟨fun k σ H'=> ∃(w:List Nat) (lv:Option V),σ=[some (.ref b),some (.str (S y)),some (.int top),some (.int (1+(n:Int))),some (.int fm),some (.str (S w)),lv]/\k=n+1 - w.length/\Wd y w/\w.length<=n+1/\cP H' b/\aN b H H',⟨_,[],none,rfl,rfl,⟨B2.nil,fun _ h=>absurd h Zw⟩,Y6 _,m4,qH⟩,?_⟩
  rintro k σ H3 ⟨w,lv,rfl,rfl,hw,lR,u7,s3⟩
  have nJ:w.length<=sizeLine:=by omega
  refine ⟨_,rfl,w,rfl,nJ,_,rfl,_,_,rfl,rfl,_,rfl,bC (fun z=>?_) (fun z=>?_)⟩
  ·have z1:(w.length:Int)<1+(n:Int):=of_decide_eq_true z
   refine ⟨_,rfl,_,rfl,_,rfl,y,rfl,Qq,b,_,rfl,u7,by omega,by omega,fun r H4 N9 CO s4=>?_⟩
   have hr:r<y.length:=by omega
   refine ⟨y,_,_,rfl,rfl,Qq,b8 (Kw hr),?_⟩
   have zY:y[r]∈y:=ZV hr
   generalize y[r]=c at zY ⊢
   refine ⟨fun σ' H'=>H'=H4/\ ∃e,e∈y/\σ'=[some (.ref b),some (.str (S y)),some (.int top),some (.int (1+(n:Int))),some (.int fm),some (.str (S w)),some (.str (S [e]))],?_,?_⟩
   ·refine ⟨_,rfl,_,_,rfl,rfl,_,rfl,bC (fun f1=>?_) (fun f1=>?_)⟩
    ·refine ⟨_,rfl,w,rfl,nJ,_,_,rfl,rfl,_,rfl,bC (fun f2=>?_) (fun f2=>?_)⟩
     ·have g2:(1:Int)<w.length:=of_decide_eq_true f2
      have dv:w≠[]:=fun g=>by rw[g]at g2;simp at g2
      refine ⟨_,rfl,w,rfl,nJ,_,_,rfl,rfl,_,rfl,bC (fun f3=>?_) (fun f3=>?_)⟩
      ·refine ⟨_,rfl,_,rfl,w,rfl,nJ,_,_,rfl,rfl,by show (0:Int)<2;decide,w,_,_,rfl,rfl,nJ,jR (by show -(w.length:Int)<=(w.length:Int)%2;omega) (by show (w.length:Int)%2<_;omega),?_⟩
       exact ⟨rfl,_,hw.bR _ (hW dv _),rfl⟩
      ·exact ⟨rfl,c,zY,rfl⟩
     ·refine lX ?_
      exact ⟨rfl,c,zY,rfl⟩
    ·refine lX ?_
     exact ⟨rfl,c,zY,rfl⟩
   rintro σ5 H5 ⟨rfl,e,Cc,rfl⟩
   have s5:=s3.trans s4
   refine ⟨_,rfl,w,[],rfl,rfl,_,rfl,bC (fun f=>?_) (fun f=>?_)⟩
   ·have IA:w=[]:=of_decide_eq_true f
    refine vv ?_
    refine ⟨_,rfl,_,rfl,w,[e],rfl,rfl,by show w.length+1<=_;omega,?_⟩
    exact ⟨n+1 - (w++[e]).length,by rw[UY];show n+1 - (w.length+1)<_;omega,w++[e],_,rfl,rfl,hw.more Cc fun g=>absurd IA g,by rw[UY];show w.length+1<=_;omega,CO,s5⟩
   ·have dv:w≠[]:=fun g=>f (decide_eq_true g)
    have qA:0<w.length:=U0.mpr dv
    have Ia:rd w (-1)∈y:=hw.bR _ (hW dv _)
    have JP:oB w (-1)=some (rd w (-1)):=jR (by omega) (by omega)
    refine ⟨_,rfl,_,rfl,_,rfl,w,_,_,rfl,rfl,nJ,JP,_,rfl,hy.lt _ Ia,[e],_,rfl,rfl,_,rfl,bC (fun f2=>?_) (fun f2=>?_)⟩
    ·have TU:e≠aF (rd w (-1)):=fun g=>by rw[g]at f2;simp at f2
     refine ⟨_,rfl,_,rfl,w,[e],rfl,rfl,by show w.length+1<=_;omega,?_⟩
     exact ⟨n+1 - (w++[e]).length,by rw[UY];show n+1 - (w.length+1)<_;omega,w++[e],_,rfl,rfl,hw.more Cc fun _=>TU,by rw[UY];show w.length+1<=_;omega,CO,s5⟩
    ·refine ⟨_,rfl,_,rfl,_,rfl,w,_,_,rfl,rfl,nJ,JP,w,[rd w (-1)],rfl,rfl,by show w.length+1<=_;omega,?_⟩
     exact ⟨n+1 - (w++[rd w (-1)]).length,by rw[UY];show n+1 - (w.length+1)<_;omega,w++[rd w (-1)],_,rfl,rfl,hw.more Ia fun _ g=>hJ (hy.lt _ Ia) g.symm,by rw[UY];show w.length+1<=_;omega,CO,s5⟩
  ·have z1: ¬(w.length:Int)<1+(n:Int):=fun g=>z (decide_eq_true g)
   exact ⟨w,lv,rfl,hw,by omega,lR,u7,s3⟩
 rintro σ6 H3 ⟨w,lv,rfl,hw,N_,lR,u7,s3⟩
 refine ⟨fun σ' H'=>H'=H3/\ ∃w:List Nat,σ'=[some (.ref b),some (.str (S y)),some (.int top),some (.int (1+(n:Int))),some (.int fm),some (.str (S w)),lv]/\SW y w/\w.length<=n+1,?_,?_⟩
 ·refine ⟨fun k σ H'=>H'=H3/\ ∃w:List Nat,σ=[some (.ref b),some (.str (S y)),some (.int top),some (.int (1+(n:Int))),some (.int fm),some (.str (S w)),lv]/\k=w.length/\Wd y w/\1<=w.length/\w.length<=n+1,⟨_,rfl,w,rfl,rfl,hw,N_,lR⟩,?_⟩
  clear hw lR N_ w
  rintro k σ H4 ⟨rfl,w,rfl,rfl,hw,N_,lR⟩
  have nJ:w.length<=sizeLine:=by omega
  have dv:w≠[]:=fun g=>by rw[g]at N_;simp at N_
  have Ia: ∀k,rd w k∈y:=fun k=>hw.bR _ (hW dv k)
  refine ⟨_,rfl,w,rfl,nJ,_,_,rfl,rfl,_,rfl,bC (fun f=>?_) (fun f=>?_)⟩
  ·have g1:(1:Int)<w.length:=of_decide_eq_true f
   have JP:oB w (-1)=some (rd w (-1)):=jR (by omega) (by omega)
   refine ⟨_,rfl,w,_,_,rfl,rfl,nJ,jR (k:=0) (by omega) (by omega),_,rfl,_,rfl,w,_,_,rfl,rfl,nJ,JP,_,rfl,hy.lt _ (Ia _),[rd w 0],_,rfl,rfl,_,rfl,bC (fun f2=>?_) (fun f2=>?_)⟩
   ·refine ⟨_,rfl,_,rfl,_,rfl,w,rfl,nJ,?_⟩
    rw[Ej]
    exact ⟨(w.take (w.length - 1)).length,by rw[ZD];omega,rfl,w.take (w.length - 1),rfl,rfl,⟨hw.Gm.take _,fun c hc=>hw.bR c (Qa8 hc)⟩,by rw[ZD];omega,by rw[ZD];omega⟩
   ·have TU:rd w 0≠aF (rd w (-1)):=fun g=>f2 (by simp[g])
    exact ⟨rfl,w,rfl,hw.sw dv TU,lR⟩
  ·have g1: ¬(1:Int)<w.length:=fun g=>f (decide_eq_true g)
   refine lX ?_
   exact ⟨rfl,w,rfl,hw.one hy (by omega),lR⟩
 rintro σ7 H7 ⟨rfl,w7,rfl,sw,XH⟩
 clear hw N_ lR w
 refine ⟨fun σ' H'=>H'=H7/\ ∃w:List Nat,σ'=[some (.ref b),some (.str (S y)),some (.int top),some (.int (1+(n:Int))),some (.int fm),some (.str (S w)),lv]/\SW y w/\w.length<=top,?_,?_⟩
 ·refine ⟨_,rfl,_,_,rfl,rfl,_,rfl,bC (fun f=>?_) (fun f=>?_)⟩
  ·refine ⟨_,rfl,w7,rfl,by omega,_,_,rfl,rfl, .inl ⟨by omega,by omega⟩,_,rfl,_,_,rfl,rfl,_,rfl,bC (fun f2=>?_) (fun f2=>?_)⟩
   ·have g2:(w7.length:Int)*2<=top:=of_decide_eq_true f2
    refine ⟨_,rfl,_,rfl,w7,w7,rfl,rfl,by omega,?_⟩
    exact ⟨rfl,_,rfl,sw.twice,by rw[UY];omega⟩
   ·exact ⟨rfl,_,rfl,sw,by omega⟩
  ·refine lX ?_
   exact ⟨rfl,_,rfl,sw,by omega⟩
 rintro σ8 H8 ⟨rfl,w8,rfl,XI,TV⟩
 exact ⟨_,rfl,q w8 _ XI TV u7 s3⟩
theorem FR:bA P w K mg base eF 3 Nd NV ["_law_box_here","_law_yard_here","_law_word","_law_top"] (wm K):=by
 have cK:=lJ (P:=P) (w:=w) (base:=base) T
 have bJ:=fS (P:=P) (w:=w) (base:=base) T
 have lK:=sG (P:=P) (w:=w) (base:=base) T
 refine T.Rw.fn.ok jq (fun vs H Q E h=>B6 h) (fun cn A outer s H vs Q E hr h=>?_)
 refine ⟨_,(ag (aq (i:=4) jq.nd rfl (Or.inl rfl) (ak cK (hr.mono (by decide)) rfl T.iJ.mg T.iJ.fn.kp T.iJ.bd .nil az (aa (pv 0) (aa aj ae))))
   (ag (aq (i:=5) jq.nd rfl (Or.inl rfl) (ak cK (hr.mono (by decide)) rfl T.iJ.mg T.iJ.fn.kp T.iJ.bd .nil az (aa (pv 0) (aa (aB aI rfl T.z_len WG (aa (pv 2) ae)) ae))))
   (ag (bF (aG fV (pv 4) aj (aL _)) (ai (aE (aA fM (bj iU (pv 2) (bc (pv 5)) bY) (bj iU (pv 2) bY (bc (pv 5)))))) aV)
   (ag (bF (aG fV (pv 4) aj (aL _)) (ai (aE (bz K rfl ZE Qbt Qbs (iX K rfl) (j8 [] (by decide+kernel)) (aa (cu ["_law_letter"] [none] (Dv rfl T.z_reversed (aa (pv 2) ae)) trivial (fun _ _ _ _=>(aK (i:=0) (by decide+kernel:List.Nodup (["_law_letter"]:List Str)) rfl (Or.inl rfl))) (fun _ _ _ _=>gA) (fun _ _ _ _=>(ak bJ (hr.mono (by decide)) rfl T.g6.mg T.g6.fn.kp T.g6.bd .nil az (aa (pv 0) ae)))) ae)))) aV)
   (ag (bF (aG fV (pv 4) aj (aL _)) (ag (aq (i:=6) jq.nd rfl (Or.inl rfl) (aT g8 (pv 1) (ak cK (hr.mono (by decide)) rfl T.iJ.mg T.iJ.fn.kp T.iJ.bd .nil az (aa (pv 0) (aa (aB aI rfl T.z_len WG (aa (pv 1) ae)) ae))) (fun _ _=>rfl)))
   (ag (aq (i:=7) jq.nd rfl (Or.inl rfl) (aA fM (bj iU (pv 2) bY (bc (pv 5))) (pv 6)))
   (ai (bF (aG (G_ K rfl) (pv 6) (dq (aa (ak bJ (hr.mono (by decide)) rfl T.g6.mg T.g6.fn.kp T.g6.bd .nil az (aa (aT g8 (pv 7) aj (fun _ _=>rfl)) ae)) (aa (ak bJ (hr.mono (by decide)) rfl T.g6.mg T.g6.fn.kp T.g6.bd .nil az (aa (aT g8 (bj iU (pv 7) (bc (jP gz aj)) bY) aj (fun _ _=>rfl)) ae)) ae))) (by with_unfolding_all rfl)) (ai (aE (pv 7))) aV)))) aV)
   (ai (aE (ak lK (hr.mono (by decide)) rfl T.Gv.mg T.Gv.fn.kp T.Gv.bd .nil az (aa (pv 0) (aa (pv 1) (aa (pv 3) ae))))))))))),?_⟩
 obtain ⟨b,y,w,top,rfl,hb,hy,JN,JO,zo,xC,sw,jK,q⟩:=h
 have hs:(100000:Nat)<sizeLine:=by decide
 have Qq:y.length<=sizeLine:=by omega
 have lR:w.length<=sizeLine:=by omega
 have qA:0<w.length:=U0.mpr sw.ne
 have lw: ∀c∈w,Lt c:=fun c hc=>hy.lt c (sw.bR c hc)
 refine ⟨_,rfl,b,5,rfl,hb,by decide,by decide,fun fm H1 XG BM s1=>?_⟩
 refine ⟨_,rfl,_,rfl,w,rfl,lR,b,_,rfl,BM,by omega,by omega,fun at' H2 TH m4 s2=>?_⟩
 have qH:=s1.trans s2
 have XJ:at'<w.length:=by omega
 refine ⟨_,rfl,_,_,rfl,rfl,_,rfl,bC (fun f0=>?_) (fun f0=>?_)⟩
 ·have hlen:(cut w (some (at':Int)) none).length+(cut w none (some (at':Int))).length<=sizeLine:=by rw[cD,d_,ZL,ZD];omega
  have zl:cut w (some (at':Int)) none++cut w none (some (at':Int))=w.drop at'++w.take at':=by rw[cD,d_]
  refine ⟨_,rfl,_,rfl,_,rfl,w,rfl,lR,_,rfl,_,rfl,_,rfl,w,rfl,lR,_,_,rfl,rfl,hlen,?_⟩
  rw[zl]
  exact q _ _ (sw.gZ (by omega)) (by rw[UY,ZL,ZD];omega) m4 qH
 ·refine ⟨_,rfl,_,_,rfl,rfl,_,rfl,bC (fun f1=>?_) (fun f1=>?_)⟩
  ·refine ⟨rfl,_,rfl,w,rfl,by omega,?_⟩
   rw[z8]
   refine kI (xs:=dz w.reverse) (fun i acc H'=>ao H2 H'/\acc=dz ((w.reverse.take i).map aF)) (by rw[aY,Z0];omega) ⟨ao.refl H2,rfl⟩ ?_ ?_
   ·rintro i x acc H3 Nx hi hx hl ⟨s3,rfl⟩ nx
    obtain ⟨c,qr,rfl⟩:=g9 hx
    refine ⟨trivial,eW ⟨_,rfl,c,rfl,lw c (Qde.mp (Zx qr)),nx _ _ (by simpa using hl) ⟨s3,?_⟩⟩⟩
    rw[dZ, <-take_snoc qr,WC]
    rfl
   ·rintro acc H3 D hl ⟨s3,rfl⟩ hD
    refine ⟨D,(gK w).map fun c=>[c],rfl,rfl,br.of ?_,?_,?_⟩
    ·rw[ah, <-gP,aY,ZO (Q3 _),Qbz]
     rfl
    ·rw[BQ]
     unfold gK
     rw[Z0,UX]
     omega
    ·rw[rD]
     exact q _ _ (sw.gK hy) (by rw[ck];omega) ((m4.same s3).same (ao.upd hD)) (qH.after (s3.trans (ao.upd hD)))
  ·refine ⟨_,rfl,_,_,rfl,rfl,_,rfl,bC (fun f2=>?_) (fun f2=>?_)⟩
   ·refine ⟨_,rfl,_,rfl,_,rfl,y,rfl,Qq,b,_,rfl,m4,by omega,by omega,fun r H3 Vy u7 s3=>?_⟩
    have Gx:=qH.trans s3
    have hr:r<y.length:=by omega
    refine ⟨y,_,_,rfl,rfl,Qq,b8 (Kw hr),?_⟩
    have zY:y[r]∈y:=ZV hr
    generalize y[r]=c at zY ⊢
    have Zb:=hy.lt c zY
    have hlen:(cut w none (some (at':Int))).length+[c].length<=sizeLine:=by rw[cD,ZD];show _+1<=_;omega
    refine ⟨_,rfl,_,rfl,_,rfl,w,rfl,lR,_,rfl,_,_,rfl,rfl,hlen,?_⟩
    rw[cD]
    have Cs:(w.take at').length=at':=by rw[ZD];omega
    have Qr:=sw.Gm.take at'
    have L9: ∀a∈w.take at',a∈y:=fun a ha=>sw.bR a (Qa8 ha)
    generalize w.take at'=u at Cs Qr L9 ⊢
    have Qs:(u++[c]).length=at'+1:=by rw[UY,Cs];rfl
    have Qt:u++[c]≠[]:=by simp
    have Vz: ∀a∈u++[c],a∈y:=fun a ha=>(Zz.mp ha).elim (L9 a) fun g=>by rw[UZ.mp g];exact zY
    have g0:oB (u++[c]) (0:Int)=some (rd (u++[c]) 0):=jR (by omega) (by omega)
    have XM:cut (u++[c]) (some (-2)) none=(u++[c]).drop (at'+1 - 2):=by rw[K9,Qs]
    have MF:((u++[c]).drop (at'+1 - 2)).length=at'+1 - (at'+1 - 2):=by rw[ZL,Qs]
    have Qu:(u++[c]).drop (at'+1 - 2)≠[]:=fun z=>by rw[z]at MF;simp at MF;omega
    have g2:oB ((u++[c]).drop (at'+1 - 2)) (0:Int)=some (rd ((u++[c]).drop (at'+1 - 2)) 0):=jR (by omega) (by omega)
    have VA:=Vz _ (hW Qt 0)
    have VB:=Vz _ (Qbv (hW Qu 0))
    have e0: ∀a,u.head? =some a->rd (u++[c]) 0=a:=fun a ha=>by
     have h1:=nX Qt
     cases u with
     | nil=>cases ha
     | cons x r=>exact (ZG (h1.symm.trans (show (x::r++[c]).head? =some a from ha)))
    have e2: ∀a,u.getLast? =some a->rd ((u++[c]).drop (at'+1 - 2)) 0=a:=fun a ha=>by
     have h1:=nX Qu
     have HK:u≠[]:=fun z=>by rw[z]at ha;cases ha
     have tQ:=U0.mpr HK
     rw[Qdl, Qa6,Qab (by omega)]at h1
     rw[Qb2, Cs]at ha
     rw[show at'+1 - 2+0=at' - 1 by omega]at h1
     exact ZG (h1.symm.trans ha)
    generalize rd (u++[c]) 0=x0 at g0 VA e0
    generalize rd ((u++[c]).drop (at'+1 - 2)) 0=x2 at g2 VB e2
    refine ⟨_,rfl,_,rfl,_,_,_,rfl,rfl,by omega,g0,_,rfl,hy.lt _ VA,?_⟩
    refine ⟨_,rfl,_,rfl,_,rfl,u++[c],rfl,by omega,?_⟩
    rw[XM]
    refine ⟨_,_,_,rfl,rfl,by rw[MF];omega,g2,_,rfl,hy.lt _ VB,by show 2<=sizeLine;decide,fun p np=>?_⟩
    have TX:=u7.ne np
    have VC:=Gx.none np TX
    refine ⟨p,_,rfl, .inl (br.of ah),rfl,rfl,?_⟩
    have iv:=Hd c (aF x0) (aF x2)
    rw[show (if true=true then !MB (.str (S [c])) [.str (S [aF x0]), .str (S [aF x2])] else MB (.str (S [c])) [.str (S [aF x0]), .str (S [aF x2])])=!(decide (c=aF x0)||decide (c=aF x2)) by rw[if_pos rfl,iv]]
    refine ⟨_,rfl,bC (fun f3=>?_) (fun f3=>?_)⟩
    ·have hn:c≠aF x0/\c≠aF x2:=by simpa using f3
     refine ⟨_,rfl,q (u++[c]) _ (SW.snoc hy Qr L9 zY (fun a ha=>by rw[<-e2 a ha];exact hn.2) fun a ha=>by rw[<-e0 a ha];exact hn.1) (by omega) (u7.dY TX) (Gx.dY VC)⟩
    ·exact ⟨_,rfl,_,rfl,_,rfl,b,y,top,rfl,u7.dY TX,hy,JN,JO,zo,xC,fun l H4 hl JP CO s4=>q l H4 hl JP CO ((Gx.dY VC).trans s4)⟩
   ·exact ⟨_,rfl,_,rfl,_,rfl,b,y,top,rfl,m4,hy,JN,JO,zo,xC,fun l H3 hl JP u7 s3=>q l H3 hl JP u7 (qH.trans s3)⟩
theorem Ct:bA P w K mg base eF 4 Nm N3 ["_law_box_here","_law_yard_here","_law_many","_law_top"] (rQ K):=by
 have lK:=sG (P:=P) (w:=w) (base:=base) T
 have cK:=lJ (P:=P) (w:=w) (base:=base) T
 have IB:=FR (P:=P) (w:=w) (base:=base) T
 refine T.RA.fn.ok jJ (fun vs H Q E h=>yF h) (fun cn A outer s H vs Q E hr h=>?_)
 refine ⟨_,(ag (aq (i:=4) jJ.nd rfl (Or.inl rfl) (dq (aa (ak lK (hr.mono (by decide)) rfl T.Gv.mg T.Gv.fn.kp T.Gv.bd .nil az (aa (pv 0) (aa (pv 1) (aa (pv 3) ae)))) ae)))
   (ag (bT PassesOwn.never rfl (eJ rfl T.z_range (aa (ak cK (hr.mono (by decide)) rfl T.iJ.mg T.iJ.fn.kp T.iJ.bd .nil az (aa (pv 0) (aa (pv 2) ae))) ae)) (aK (i:=5) jJ.nd rfl (Or.inl rfl)) (ag (aq (i:=6) jJ.nd rfl (Or.inl rfl) (aT (b9 K rfl) (pv 4) (ak cK (hr.mono (by decide)) rfl T.iJ.mg T.iJ.fn.kp T.iJ.bd .nil az (aa (pv 0) (aa (aB (aW K rfl) rfl T.z_len WG (aa (pv 4) ae)) ae))) (fun _ _=>rfl)))
   (ai (bF (aG fV (ak cK (hr.mono (by decide)) rfl T.iJ.mg T.iJ.fn.kp T.iJ.bd .nil az (aa (pv 0) (aa aj ae))) aj (aL _)) (ai (cj (bz K rfl ZK Z9 Z8 cq (pv 4) (aa (ak lK (hr.mono (by decide)) rfl T.Gv.mg T.Gv.fn.kp T.Gv.bd .nil az (aa (pv 0) (aa (pv 1) (aa (pv 3) ae)))) ae)))) (ai (cj (bz K rfl ZK Z9 Z8 cq (pv 4) (aa (ak IB (hr.mono (by decide)) rfl T.Rw.mg T.Rw.fn.kp T.Rw.bd .nil az (aa (pv 0) (aa (pv 1) (aa (pv 6) (aa (pv 3) ae))))) ae))))))))
   (ai (aE (cR (dX K rfl) rfl T.z_tuple boot_tuple (aa (pv 4) ae)))))),?_⟩
 obtain ⟨b,y,many,top,rfl,hb,hy,JN,JO,KU,DE,zo,xC,Zc,q⟩:=h
 have hs:(100000:Nat)<sizeLine:=by decide
 refine ⟨_,rfl,_,rfl,_,rfl,b,y,top,rfl,hb,hy,JN,JO,zo,by omega,fun w1 H1 XN XO BM s1=>?_⟩
 refine ⟨by show 1<=sizeLine;decide,fun t nt=>?_⟩
 have tb:t≠b:=BM.ne nt
 have TY:=s1.none nt tb
 have Qv:upd H1 t (.lst [.str (S w1)]) t=some (.lst (gL [w1])):=ah
 have m4:=BM.dY (o:= .lst [.str (S w1)]) tb
 have s2:=s1.dY (o:= .lst [.str (S w1)]) TY
 generalize upd H1 t (.lst [.str (S w1)])=H2 at Qv m4 s2 ⊢
 refine ⟨_,rfl,_,rfl,b,many,rfl,m4,by omega,by omega,fun r H3 hr u7 s3=>?_⟩
 refine ⟨_,rfl,by omega,by omega,?_⟩
 rw[WB]
 have Zd:r<many:=by omega
 refine dM (fun i σ H'=> ∃(ws:List (List Nat)) (kv ov:Option V),σ=[some (.ref b),some (.str (S y)),some (.int many),some (.int top),some (.ref t),kv,ov]/\H' t=some (.lst (gL ws))/\ws.length=i+1/\(∀w∈ws,SW y w/\w.length<=top)/\cP H' b/\aN b H H')
  ⟨[w1],none,none,rfl,s3 _ _ Qv tb,rfl,fun w hw=>by rw[UZ.mp hw];exact ⟨XN,XO⟩,u7,s2.trans s3⟩ ?_ ?_
 ·rintro i σ H4 hi ⟨ws,kv,ov,rfl,Cu,Qw,L_,CO,s4⟩
  refine ⟨_,rfl,_,rfl,_,rfl,t,_,rfl, .inl (br.of Cu),b,_,rfl,CO,by rw[bM];omega,by rw[bM];omega,fun r5 H5 RD XQ s5=>?_⟩
  rw[bM]at RD
  have Qx:r5<ws.length:=by omega
  refine ⟨t,_,_,_,rfl,rfl,br.of (s5 _ _ Cu tb),b8 (ke Qx),?_⟩
  obtain ⟨so,lo⟩:=L_ _ (ZV Qx)
  generalize ws[r5]=one at so lo ⊢
  refine ⟨_,rfl,b,3,rfl,XQ,by decide,by decide,fun r6 H6 Ze VD s6=>?_⟩
  have FT:=s6 _ _ (s5 _ _ Cu tb) tb
  have VE:=s4.trans (s5.trans s6)
  refine ⟨_,_,rfl,rfl,_,rfl,bC (fun f=>?_) (fun f=>?_)⟩
  ·refine ⟨_,rfl, .inl ⟨rfl,_,br.of FT⟩,_,rfl,_,rfl,_,rfl,b,y,top,rfl,VD,hy,JN,JO,zo,by omega,fun w7 H7 TZ T1 T3 s7=>?_⟩
   refine ⟨t,gL ws,_,rfl,rfl,s7 _ _ FT tb,by rw[bM];omega,?_⟩
   refine ⟨ws++[w7],_,_,rfl,by rw[ah,vT],by rw[UY,Qw];rfl,fun w hw=>?_,T3.dY tb,(VE.trans s7).dY TY⟩
   rcases Zz.mp hw with g | g
   ·exact L_ w g
   ·rw[UZ.mp g];exact ⟨TZ,T1⟩
  ·refine ⟨_,rfl, .inl ⟨rfl,_,br.of FT⟩,_,rfl,_,rfl,_,rfl,_,rfl,b,y,one,top,rfl,VD,hy,JN,JO,zo,by omega,so,lo,fun w7 H7 TZ T1 T3 s7=>?_⟩
   refine ⟨t,gL ws,_,rfl,rfl,s7 _ _ FT tb,by rw[bM];omega,?_⟩
   refine ⟨ws++[w7],_,_,rfl,by rw[ah,vT],by rw[UY,Qw];rfl,fun w hw=>?_,T3.dY tb,(VE.trans s7).dY TY⟩
   rcases Zz.mp hw with g | g
   ·exact L_ w g
   ·rw[UZ.mp g];exact ⟨TZ,T1⟩
 ·rintro σ H4 ⟨ws,kv,ov,rfl,Cu,Qw,L_,CO,s4⟩
  refine ⟨_,rfl,t,_,rfl, .inl ⟨br.of Cu,fun u nu=>?_⟩⟩
  have ub:u≠b:=CO.ne nu
  have RE:=s4.none nu ub
  have jt:(places ws).length<=ws.length*top:=kX (fun w hw=>(L_ w hw).2) ws.length (Q3 _)
  have hmul:ws.length*top<=many*top:=Qdu _ (by omega)
  exact q u ws _ RE ub ah ⟨fun w hw=>⟨(L_ w hw).1,by have:=(L_ w hw).2;omega⟩,by omega,by omega⟩ (CO.dY ub) (s4.dY RE)
theorem qe:bA P w K mg base eF 1 f3 d3 ["yard","start","end"] (i3 K):=by
 refine T.F3.fn.ok p9 (fun vs H Q E h=>nA h) (fun cn A outer s H vs Q E hr h=>?_)
 refine ⟨_,(ai (aE (aA dm (aA bN (bz K rfl ZE PySem.F.slot_str_find PySem.F.type_str_find vy (pv 0) (aa (pv 2) ae)) (bz K rfl ZE PySem.F.slot_str_find PySem.F.type_str_find vy (pv 0) (aa (pv 1) ae))) (aB aI rfl T.z_len WG (aa (pv 0) ae))))),?_⟩
 obtain ⟨y,a,b,rfl,ha,hb,hz,q⟩:=h
 have hs:(1000:Nat)<sizeLine:=by decide
 have hp:(0:Int)<(y.length:Int):=by have:=List.length_pos_of_mem ha;omega
 refine ⟨_,rfl,rfl,_,rfl,y,b,rfl,rfl,?_⟩
 rw[if_pos hb]
 refine ⟨_,rfl,rfl,_,rfl,y,a,rfl,rfl,?_⟩
 rw[if_pos ha]
 exact ⟨_,_,rfl,rfl,_,rfl,y,rfl,by omega,_,_,rfl,rfl,hp,q⟩
theorem nK:bA P w K mg base eF 3 MW NC ["yard","word","place"] (iE K):=by
 have qI:=qd (P:=P) (w:=w) (base:=base) T
 have qJ:=qe (P:=P) (w:=w) (base:=base) T
 refine T.Rn.fn.ok iG (fun vs H Q E h=>mG h) (fun cn A outer s H vs Q E hr h=>?_)
 refine ⟨_,(ag (aq (i:=3) iG.nd rfl (Or.inl rfl) (ak qI (hr.mono (by decide)) rfl T.Rj.mg T.Rj.fn.kp T.Rj.bd .nil az (aa (pv 1) (aa (pv 2) ae))))
   (ai (aE (ak qJ (hr.mono (by decide)) rfl T.F3.mg T.F3.fn.kp T.F3.bd .nil az (aa (pv 0) (aa (aT (bp K rfl) (pv 3) aj (fun _ _=>rfl)) (aa (aT (bp K rfl) (pv 3) aj (fun _ _=>rfl)) ae))))))),?_⟩
 obtain ⟨y,w,i,rfl,hy,hz,hw,lR,hi,q⟩:=h
 refine ⟨_,rfl,_,rfl,w,i,rfl,fun c hc=>hy.lt c (hw.bR c hc),lR,hi,fun p H1 np hp s1=>?_⟩
 refine ⟨_,rfl,_,rfl,p,_,0,_,rfl,rfl,bV.of hp,rfl,_,rfl,p,_,1,_,rfl,rfl,bV.of hp,rfl,y,_,_,rfl,hy.cl _ (hw.rd _),hw.rd _,by omega,?_⟩
 have rg:=eO (hy.cl _ (hw.rd ((i:Int) - 1))) (hw.rd i) (Ne.symm (hw.red i))
 obtain ⟨n,hn⟩: ∃n:Nat,cst y w i=n:=⟨(cst y w i).toNat,by have:=rg.1;unfold cst;omega⟩
 have:=rg.2.1
 have e:wD y (aF (rd w ((i:Int) - 1))) (rd w i)=n:=hn
 have key:=q n H1 hn (by omega) s1
 rw[<-e]at key
 exact key
theorem xh:bA P w K mg base eF 1 f2 d2 ["yard"] (vY K):=by
 refine T.F2.fn.ok FP (fun vs H Q E h=>BZ h) (fun cn A outer s H vs Q E hr h=>?_)
 refine ⟨_,(ai (aE (bz K rfl ZE Qbt Qbs (iX K rfl) (j8 [] (by decide+kernel)) (aa (aB (tJ K rfl) rfl T.z_sorted boot_sorted (aa (cu ["letter"] [none] (tF (pv 0)) trivial (fun _ _ _ _=>(aK (i:=0) (by decide+kernel:List.Nodup (["letter"]:List Str)) rfl (Or.inl rfl))) (fun _ _ _ _=>(x8 (eI (eU K rfl ZE Qda Qc9 j9 (pv 0))))) (fun _ _ _ _=>(pv 0))) ae)) ae)))),?_⟩
 obtain ⟨l,rfl,hl,hz,q⟩:=h
 have hs:(1000:Nat)<sizeLine:=by decide
 refine ⟨rfl,_,rfl,l,rfl,?_⟩
 refine kI (xs:=dz l) (fun i acc H'=>ao H H'/\acc=dz ((l.take i).filter aC)) (by rw[aY];omega) ⟨ao.refl H,rfl⟩ ?_ ?_
 ·rintro i x acc H1 Nx hi hx qf ⟨s1,rfl⟩ nx
  obtain ⟨c,hc,rfl⟩:=g9 hx
  have e:=m9 (p:=aC) hc
  refine ⟨trivial,?_⟩
  refine ⟨_,rfl,rfl,c,rfl,rfl,hl c (Zx hc),_,rfl,?_⟩
  refine bC (fun z=>?_) (fun z=>?_)
  ·rw[if_pos z]at e
   exact ⟨_,rfl,nx _ _ (by simpa using qf) ⟨s1,by rw[e, <-dZ]⟩⟩
  ·rw[if_neg z,Z3]at e
   exact nx _ _ (Qc5 qf) ⟨s1,by rw[e]⟩
 ·rintro acc H1 D qf ⟨s1,rfl⟩ hD
  rw[vS,gP]
  have Zf:(l.filter aC).length<=l.length:=Qdr _ _
  refine ⟨D,(l.filter aC).map fun c=>[c],rfl,br.of ah,by rw[UX];omega,fun p ls hp uO Qy=>?_⟩
  obtain ⟨l',rfl,pl⟩:=Hb uO
  have zG:=pl.length_eq
  refine ⟨p,l'.map fun c=>[c],rfl,rfl,br.of ah,by rw[BQ];omega,?_⟩
  rw[rD]
  exact q l' _ pl (Hc Qy) ((s1.trans (ao.upd hD)).trans (ao.upd hp))
theorem qK:bA P w K mg base eF 2 f4 d4 ["yard","drawing","end"] (jU K):=by
 have uQ:=xh (P:=P) (w:=w) (base:=base) T
 refine T.F4.fn.ok jY (fun vs H Q E h=>pF h) (fun cn A outer s H vs Q E hr h=>?_)
 refine ⟨_,(ag (aq (i:=3) jY.nd rfl (Or.inl rfl) (cR (qy K rfl) rfl T.z_list boot_list (aa (aT (bp K rfl) (aT (bp K rfl) (pv 1) aj (fun _ _=>rfl)) (bz K rfl ZE Qaj Qai de (ak uQ (hr.mono (by decide)) rfl T.F2.mg T.F2.fn.kp T.F2.bd .nil az (aa (pv 0) ae)) (aa (eU K rfl ZE Qdh Qdg oK (pv 2)) ae)) (fun _ _=>rfl)) ae)))
   (ag (bF (eI (eU K rfl ZE PySem.F.slot_str_isupper PySem.F.type_str_isupper yg (pv 2))) (ai (cj (eU K rfl ZK PySem.F.slot_list_reverse PySem.F.type_list_reverse x3 (pv 3)))) aV)
   (ai (aE (pv 3))))),?_⟩
 obtain ⟨y,dr,ws,os,e,rfl,hy,hz,he,ho,hd,q⟩:=h
 have hs:(100000:Nat)<sizeLine:=by decide
 have RF: ∀c∈y,c<128:=Js hy.lt
 have VF:=RF e he
 obtain ⟨⟨wt,ot,d1,d2,d3⟩,dO⟩:=hd
 obtain ⟨o,o1,o2,o3⟩:=jc hy he ho
 refine ⟨_,rfl,dr,_,1,_,rfl,rfl,bV.of d1,rfl,?_⟩
 refine ⟨_,rfl,y,rfl,RF,by omega,fun l' H1 zG T4 s1=>?_⟩
 have el:=AG zG T4
 subst el
 refine ⟨rfl,_,rfl,rfl,e,rfl,rfl,VF,?_⟩
 refine ⟨fQ y,_,rfl,rfl,EO hy he,?_⟩
 refine ⟨ot,_,_,_,rfl,rfl,bV.of (s1 _ _ d3),b8 (Ly o2),?_⟩
 refine ⟨o.o,_,rfl, .inr (bV.of (s1 _ _ (dO o o1).tp)),fun p1 n1=>?_⟩
 refine ⟨_,rfl,rfl,e,rfl,rfl,VF,_,rfl,bC (fun z=>?_) (fun z=>?_)⟩
 ·refine ⟨_,rfl, .inl ⟨rfl,_,br.of ah⟩,p1,_,rfl,rfl,ah,?_⟩
  refine ⟨_,rfl,q p1 _ (ao.free s1 n1) ?_ ?_⟩
  ·rw[ah,HX]
   unfold n6
   rw[if_pos z,o3]
  ·exact fun a u ea=>by rw[ay (ar ea (ao.free s1 n1)),ay (ar ea (ao.free s1 n1))];exact s1 a u ea
 ·refine ⟨_,rfl,q p1 _ (ao.free s1 n1) ?_ (s1.trans (ao.upd n1))⟩
  rw[ah]
  unfold n6
  rw[if_neg z,o3]
theorem Cv:bA P w K mg base eF 3 f5 d5 ["yard","drawing"] (rY K):=by
 have uR:=qK (P:=P) (w:=w) (base:=base) T
 refine T.F5.fn.ok jH (fun vs H Q E h=>yV h) (fun cn A outer s H vs Q E hr h=>?_)
 refine ⟨_,(ag (aq (i:=2) jH.nd rfl (Or.inl rfl) (dq ae))
   (ag (bT PassesOwn.never rfl (tF (pv 0)) (aK (i:=3) jH.nd rfl (Or.inl rfl)) (ai (bT PassesOwn.never rfl (dW K rfl (ak uR (hr.mono (by decide)) rfl T.F4.mg T.F4.fn.kp T.F4.bd .nil az (aa (pv 0) (aa (pv 1) (aa (pv 3) ae))))) (aK (i:=4) jH.nd rfl (Or.inl rfl)) (ai (cj (bz K rfl ZK Z9 Z8 cq (pv 2) (aa (bD (aa (aT (bp K rfl) (pv 4) aj (fun _ _=>rfl)) (aa (aT (bp K rfl) (pv 4) aj (fun _ _=>rfl)) (aa (pv 3) ae)))) ae)))))))
   (ai (aE (pv 2))))),?_⟩
 obtain ⟨y,dr,ws,os,rfl,hy,hz,ho,hd,q⟩:=h
 have hs:(100000:Nat)<sizeLine:=by decide
 walk_at "wk"
 intro p1 n1
 refine ⟨_,rfl,y,rfl,?_⟩
 refine zT (xs:=dz y) (fun i σ H'=> ∃(ps:List Pt) (ev sv:Option V),σ=[some (.str (S y)),some (.ref dr),some (.ref p1),ev,sv]/\H' p1=some (.lst (Gq ps))/\(∀p∈ps,qD H' p/\p.t≠p1)/\ps.map Pt.is=(y.take i).flatMap (fH y os)/\ps.length<=100*i/\aN p1 H H') ⟨[],none,none,rfl,ah,fun _ h=>absurd h Zw,rfl,Y6 _,aN.of (ao.upd n1)⟩ ?_ ?_
 ·rintro i x σ H1 hx ⟨ps,ev,sv,rfl,hp,uS,j4,jt,s1⟩
  obtain ⟨e,he,rfl⟩:=g9 hx
  have Cc:=Zx he
  have hi:i<y.length:=(Kx.mp he).1
  have Gy:ao H H1:=fun a u ea=>s1 a u ea (ar ea n1)
  refine ⟨_,rfl,_,rfl,_,rfl,y,dr,ws,os,e,rfl,hy,hz,Cc,ho,hd.same Gy,fun p2 H2 n2 oW s2=>?_⟩
  have Qs:=H_ (H:=H) hy Cc ho hd.od
  refine ⟨p2,rfl,⟨_,br.of oW⟩,?_⟩
  have XR:p2≠p1:=fun z=>by rw[z,hp]at n2;cases n2
  refine gM (K:=K) (a:=p2) (xs:=rX (n6 y os e)) (fun j σ H'=> ∃(us:List Pt) (sv:Option V),σ=[some (.str (S y)),some (.ref dr),some (.ref p1),some (.str (S [e])),sv]/\H' p1=some (.lst (Gq us))/\H' p2=some (.lst (rX (n6 y os e)))/\(∀p∈us,qD H' p/\p.t≠p1)/\us.map Pt.is=ps.map Pt.is++((n6 y os e).take j).map (fun p=>(p.c,p.i,e))/\us.length<=100*i+j/\aN p1 H1 H')
   ⟨ps,sv,rfl,s2 _ _ hp,oW,fun p yH=>⟨(uS p yH).1.same s2,(uS p yH).2⟩,by simp,by omega,aN.of s2⟩ (fun j σ H' _ ⟨_,_,_,_,h,_⟩=>br.of h) ?_ ?_
  ·rintro j x σ H3 T5 ⟨us,XS,rfl,u9,Qz,Gz,u_,Cs,s3⟩
   obtain ⟨p,T6,rfl⟩:=ES T5
   obtain ⟨o,oo,po⟩:=HZ hy Cc ho (Zx T6)
   have hj:j<(n6 y os e).length:=(Kx.mp T6).1
   have Gx:ao H H3:=fun a u ea=>s3 a u (Gy a u ea) (ar ea n1)
   have pk:=(hd.od o oo).pr p po
   have tp:=Gx _ _ pk.tp
   refine ⟨_,rfl, .inl ⟨rfl,_,br.of u9⟩,?_⟩
   refine ⟨_,rfl,p.t,_,0,_,rfl,rfl,bV.of tp,rfl,_,rfl,p.t,_,1,_,rfl,rfl,bV.of tp,rfl,?_⟩
   walk_at "wk"
   intro t nt
   have zo:t≠p1:=fun z=>by rw[z,u9]at nt;cases nt
   refine ⟨p1,_,_,rfl,rfl,(ao.upd nt) _ _ u9,by rw[AH];omega,?_⟩
   refine ⟨us++[⟨t,p.c,p.i,e⟩],_,rfl,by rw[ah];exact congrArg (fun x=>some (HO.lst x)) (EU us ⟨t,p.c,p.i,e⟩),by rw[ay XR];exact (ao.upd nt) _ _ Qz,fun r hr=>?_,?_,by rw[UY];show us.length+1<=_;omega,fun a u ea z=>by rw[ay z];exact (ao.upd nt) _ _ (s3 a u ea z)⟩
   ·rcases Zz.mp hr with z | z
    ·exact ⟨((Gz r z).1.same (ao.upd nt)).upd (Gz r z).2,(Gz r z).2⟩
    ·have e2:=UZ.mp z
     subst e2
     exact ⟨qD.upd ⟨ah,pk.cz,pk.iz,(hy.lt e Cc).lt⟩ zo,zo⟩
   ·rw[WC,u_, <-take_snoc T6,WC,Qat]
    rfl
  ·rintro σ H3 ⟨us,XS,rfl,u9,Qz,Gz,u_,Cs,s3⟩
   rw[uw]at Cs u_
   refine ⟨us,_,_,rfl,u9,Gz,?_,by omega,fun a u ea z=>s3 a u (s1 a u ea z) z⟩
   rw[u_,j4, <-take_snoc he,Z1,Qad,ZT,Qec,Z3]
   rfl
 ·rintro σ H1 ⟨ps,ev,sv,rfl,hp,uS,j4,jt,s1⟩
  rw[aY]at jt j4
  rw[Qad]at j4
  exact ⟨_,rfl,q p1 ps H1 n1 hp uS j4 (by omega) (fun a u ea=>s1 a u ea (ar ea n1))⟩
theorem mT:bA P w K mg base eF 2 f6 d6 ["word","cord","place"] (gT K):=by
 have cJ:=fk (P:=P) (w:=w) (base:=base) T
 refine T.F6.fn.ok gX (fun vs H Q E h=>lq h) (fun cn A outer s H vs Q E hr h=>?_)
 refine ⟨_,(ag (aq (i:=3) gX.nd rfl (Or.inl rfl) (aA dm (aA bN (pv 2) aj) (aB aI rfl T.z_len WG (aa (pv 0) ae))))
   (ai (aE (bD (aa (bD (aa (pv 1) (aa (pv 3) (aa (ak cJ (hr.mono (by decide)) rfl T.F0.mg T.F0.fn.kp T.F0.bd .nil az (aa (aT g8 (pv 0) (pv 3) (fun _ _=>rfl)) ae)) ae)))) (aa (bD (aa (pv 1) (aa (pv 2) (aa (aT g8 (pv 0) (pv 2) (fun _ _=>rfl)) ae)))) ae)))))),?_⟩
 obtain ⟨w,c,i,rfl,T7,hi,hz,q⟩:=h
 have hs:(100000:Nat)<sizeLine:=by decide
 have hp:(0:Int)<(w.length:Int):=by omega
 have XT:=AI hi
 have jt:=yX hi
 have e1:w.getD (xw w.length i) 0=w[xw w.length i]:=by rw[Y3,Kw jt];rfl
 have e2:w.getD i 0=w[i]:=by rw[Y3,Kw hi];rfl
 rw[e1,e2]at q
 refine ⟨_,rfl,_,_,rfl,rfl,_,rfl,w,rfl,by omega,_,_,rfl,rfl,hp,?_⟩
 show CV 3 (V.int (((i:Int) - 1)%(w.length:Int))) _ _ _
 rw[XT]
 refine ⟨_,rfl,_,rfl,_,rfl,_,rfl,w,_,_,rfl,rfl,by omega,b8 (Kw jt),_,rfl,T7 _ (ZV jt),by show 3<=sizeLine;decide,fun t1 n1=>?_⟩
 refine ⟨_,rfl,_,rfl,_,rfl,_,rfl,w,_,_,rfl,rfl,by omega,b8 (Kw hi),by show 3<=sizeLine;decide,fun t2 n2=>?_⟩
 refine ⟨by show 2<=sizeLine;decide,fun t nt=>?_⟩
 have T8:=(ao.upd (o:= .tup [.ref t1, .ref t2]) nt)
 refine q t t1 t2 _ ah (T8 _ _ ((ao.upd n2) _ _ ah)) (T8 _ _ ah) ((ao.upd n1).trans ((ao.upd n2).trans T8))
theorem qg:bA P w K mg base eF 4 f7 d7 ["yard","drawing"] (pH K):=by
 have FU:=Cv (P:=P) (w:=w) (base:=base) T
 have nL:=mT (P:=P) (w:=w) (base:=base) T
 refine T.F7.fn.ok cI (fun vs H Q E h=>wR h) (fun cn A outer s H vs Q E hr h=>?_)
 refine ⟨_,(ag (aq (i:=2) cI.nd rfl (Or.inl rfl) DM)
   (ag (bT PassesOwn.never rfl (DC K rfl rfl T.z_enumerate (aa (ak FU (hr.mono (by decide)) rfl T.F5.mg T.F5.fn.kp T.F5.bd .nil az (aa (pv 0) (aa (pv 1) ae))) ae)) (fN (n:=2) K rfl rfl (bI (aK (i:=3) cI.nd rfl (Or.inl rfl)) (bI (aK (i:=4) cI.nd rfl (Or.inl rfl)) fJ))) (ai (tL (oH hr) (pv 2) (pv 4) (pv 3) rfl)))
   (ag (aq (i:=5) cI.nd rfl (Or.inl rfl) (dq ae))
   (ag (bT PassesOwn.never rfl (oT K rfl rfl T.z_enumerate (aa (aT (bp K rfl) (pv 1) aj (fun _ _=>rfl)) ae)) (fN (n:=2) K rfl rfl (bI (aK (i:=6) cI.nd rfl (Or.inl rfl)) (bI (aK (i:=7) cI.nd rfl (Or.inl rfl)) fJ))) (ai (bT PassesOwn.never rfl (eJ rfl T.z_range (aa (aB aI rfl T.z_len WG (aa (pv 7) ae)) ae)) (aK (i:=8) cI.nd rfl (Or.inl rfl)) (ag (aq (i:=9) cI.nd rfl (Or.inl rfl) (ak nL (hr.mono (by decide)) rfl T.F6.mg T.F6.fn.kp T.F6.bd .nil az (aa (pv 7) (aa (pv 6) (aa (pv 8) ae)))))
   (ai (cj (bz K rfl ZK Z9 Z8 cq (pv 5) (aa (bD (aa (pv 6) (aa (pv 8) (aa (nU (oH hr) (pv 2) (aT (bp K rfl) (pv 9) aj (fun _ _=>rfl)) (fun _ _=>rfl)) (aa (nU (oH hr) (pv 2) (aT (bp K rfl) (pv 9) aj (fun _ _=>rfl)) (fun _ _=>rfl)) ae))))) ae))))))))
   (ai (aE (pv 5))))))),?_⟩
 obtain ⟨y,dr,ws,os,rfl,hy,hz,xD,CH,hd,q⟩:=h
 have hs:(100000:Nat)<sizeLine:=by decide
 have XU:=EX hy CH
 have XW:=jb hy
 have BC:=CH.1
 have Zg:=xD.uY
 obtain ⟨⟨wt,ot,d1,d2,d3⟩,dO⟩:=id hd
 walk_at "wk"
 intro d nd
 refine ⟨_,rfl,_,rfl,y,dr,ws,os,rfl,hy,hz,by omega,hd.same (ao.upd nd),fun p1 ps H1 n1 tQ uS j4 TL s1=>?_⟩
 have VG:=s1 _ _ (ah (H:=H) (a:=d) (o:=HO.dT []))
 have Gy:ao H H1:=(ao.upd nd).trans s1
 have jt:ps.length=(iB y os).length:=by rw[<-j4,UX]
 refine ⟨p1,rfl,⟨_,br.of tQ⟩,?_⟩
 have XX:p1≠d:=fun z=>by rw[z,ah]at n1;cases n1
 refine By (K:=K) (a:=p1) (xs:=Gq ps) (fun i σ H'=> ∃(aP:List (List Key×V)) (nv pv:Option V),σ=[some (.str (S y)),some (.ref dr),some (.ref d),nv,pv,none,none,none,none,none]/\H' d=some (.dT aP)/\Nums (iB y os) aP i/\aP.length<=i/\aN d H1 H')
  ⟨[],none,none,rfl,VG,fun p hp=>absurd hp (by simp),Y6 _,aN.refl _ _⟩ (fun i σ H' _ ⟨_,_,_,_,_,_,_,h⟩=>br.of (h _ _ tQ XX)) ?_ ?_
 ·rintro i x σ H2 T hx ⟨aP,nv,pv,rfl,hd2,IC,T9,s2⟩ nT
  obtain ⟨p,hp,rfl⟩: ∃p,ps[i]? =some p/\x=V.ref p.t:=by
   unfold Gq at hx
   rw[ZA]at hx
   cases e:ps[i]? with
   | none=>rw[e]at hx;cases hx
   | some p=>rw[e]at hx;cases hx;exact ⟨p,rfl,rfl⟩
  have hi:i<ps.length:=(Kx.mp hp).1
  have pk:=(uS p (Zx hp)).1.tp
  have XY:p.t≠d:=fun z=>by rw[z,VG]at pk;cases pk
  have XZ:d≠T:=ar hd2 nT
  refine ⟨T,_,rfl,bV.of ah,rfl,_,_,rfl,_,_,rfl,rfl,?_⟩
  refine ⟨_,rfl,_,rfl,_,rfl,d,_,rfl,tK.t (k:=ux p.is) (by rw[ay XZ];exact hd2) ((ao.upd nT) _ _ (s2 _ _ pk XY)) (by omega),?_⟩
  exact ⟨_,_,_,rfl,ah,IC.put XU (Qi j4 hp),ZW (gj _ _ _) (by omega),fun a o ea z=>by rw[ay z];exact (ao.upd nT) _ _ (s2 a o ea z)⟩
 ·rintro σ H2 ⟨aP,nv,pv,rfl,hd2,IC,T9,s2⟩
  rw[AH,jt]at IC
  have JQ: ∀p∈iB y os,dD aP (ux p)=some (.int ((iB y os).idxOf p:Nat)):=fun p hp=>IC p (by rw[Qad];exact hp)
  have qH:ao H H2:=fun a o ea=>s2 a o (Gy a o ea) (ar ea nd)
  walk_at "wk"
  intro p2 n2
  have T_:=ao.upd (o:= .lst []) n2
  have X0:H p2=none:=ao.free qH n2
  refine ⟨_,rfl,dr,_,0,_,rfl,rfl,bV.of (T_ _ _ (qH _ _ d1)),rfl,?_⟩
  refine ⟨wt,rfl,⟨_,bV.of (T_ _ _ (qH _ _ d2))⟩,?_⟩
  refine me (K:=K) (a:=wt) (xs:=gL ws) (fun j σ H'=> ∃(qs:List Q4) (cv wv iv av:Option V),σ=[some (.str (S y)),some (.ref dr),some (.ref d),nv,pv,some (.ref p2),cv,wv,iv,av]/\H' p2=some (.lst (nF qs))/\(∀x∈qs,qE H' x)/\qs.map Q4.v=gq (iB y os) ws j/\qs.length<=12*j/\ao H2 H')
   ⟨[],none,none,none,none,rfl,ah,fun _ h=>absurd h Zw,rfl,Y6 _,T_⟩ (fun j σ H' _ ⟨_,_,_,_,_,_,_,_,_,_,h⟩=>bV.of (h _ _ (qH _ _ d2))) ?_ ?_
  ·rintro j x σ H3 T hx ⟨qs,cv,wv,iv,av,rfl,u9,ID,A1,RG,s3⟩ nT
   have hj:j<ws.length:=by
    have:=(Kx.mp hx).1
    rwa [bM]at this
   rw[ke hj]at hx
   cases hx
   have Ma:ws[j]? =some ws[j]:=Kw hj
   obtain ⟨RH,lR⟩:=xD.all _ (ZV hj)
   generalize ws[j]=w at Ma RH lR ⊢
   have T7: ∀l∈w,l<128:=fun l hl=>(hy.lt l (RH l hl)).lt
   have sT:=ao.upd (o:= .tup [.int j, .str (S w)]) nT
   refine ⟨T,_,rfl,bV.of ah,rfl,_,_,rfl,_,_,rfl,rfl,?_⟩
   refine ⟨_,rfl,w,rfl,by omega,_,rfl,by omega,by omega,?_⟩
   rw[WB]
   refine dM (fun i σ H'=> ∃(us:List Q4) (iv av:Option V),σ=[some (.str (S y)),some (.ref dr),some (.ref d),nv,pv,some (.ref p2),some (.int j),some (.str (S w)),iv,av]/\H' p2=some (.lst (nF us))/\(∀x∈us,qE H' x)/\us.map Q4.v=gq (iB y os) ws j++mB (iB y os) j w i/\us.length<=12*j+i/\ao H2 H')
    ⟨qs,iv,av,rfl,sT _ _ u9,fun x hx=>(ID x hx).ts (ba.of sT),by rw[A1];show _=_++[];rw[Z3],by omega,s3.trans sT⟩ ?_ ?_
   ·rintro i σ H4 hi ⟨us,X1,X2,rfl,RI,xp,u_,Cs,s4⟩
    have e1:w[xw w.length i]? =some (w.getD (xw w.length i) 0):=by rw[Y3,Kw (yX hi)];rfl
    have e2:w[i]? =some (w.getD i 0):=by rw[Y3,Kw hi];rfl
    have m1:=JQ _ (EY hy CH Ma e1 (RH _ (Zx e1)) (.inr rfl))
    have m2:=JQ _ (EY hy CH Ma e2 (RH _ (Zx e2)) (.inl rfl))
    refine ⟨_,rfl,_,rfl,_,rfl,w,j,i,by rw[Qa7];rfl,T7,hi,by omega,fun t t1 t2 H5 ht zo xC s5=>?_⟩
    have X3:=s5 _ _ RI
    have VH:=s5 _ _ (s4 _ _ hd2)
    refine ⟨_,rfl, .inl ⟨rfl,_,br.of X3⟩,_,rfl,_,rfl,?_⟩
    refine ⟨_,rfl,_,rfl,t,_,0,_,rfl,rfl,bV.of ht,rfl,d,_,rfl,by rw[<-m1];exact oV.t VH zo,?_⟩
    refine ⟨_,rfl,_,rfl,t,_,1,_,rfl,rfl,bV.of ht,rfl,d,_,rfl,by rw[<-m2];exact oV.t VH xC,?_⟩
    rw[Qa7]
    refine ⟨by show 4<=sizeLine;decide,fun tq X4=>?_⟩
    have s6:=s5.trans (ao.upd (o:= .tup [.int j, .int i, .int ((iB y os).idxOf (j,xw w.length i,aF (w.getD (xw w.length i) 0)):Nat), .int ((iB y os).idxOf (j,i,w.getD i 0):Nat)]) X4)
    have Ua:=s6 _ _ RI
    refine ⟨p2,_,_,rfl,rfl,Ua,by rw[AJ];omega,?_⟩
    refine ⟨us++[⟨tq,gS (iB y os) j w i⟩],_,_,rfl,by rw[ah];exact congrArg (fun x=>some (HO.lst x)) (E1 us ⟨tq,gS (iB y os) j w i⟩),fun x hx=>?_,by rw[WC,u_,wQ,Qat];rfl,by rw[UY];show us.length+1<=_;omega,fun a o ea=>by rw[ay (ar ea n2)];exact s6 _ _ (s4 a o ea)⟩
    rcases Zz.mp hx with g | g
    ·exact (xp x g).ts ((ba.of s6).trans (ba.yr Ua))
    ·have e3:=UZ.mp g
     subst e3
     exact (ba.yr Ua) _ _ ah
   ·rintro σ H4 ⟨us,X1,X2,rfl,RI,xp,u_,Cs,s4⟩
    exact ⟨us,_,_,_,_,rfl,RI,xp,by rw[u_,uy Ma],by omega,s4⟩
  ·rintro σ H3 ⟨qs,cv,wv,iv,av,rfl,u9,ID,A1,RG,s3⟩
   rw[bM]at A1
   exact ⟨_,rfl,q p2 qs H3 X0 u9 ID A1 (qH.trans s3)⟩
theorem uT:bA P w K mg base eF 1 f9 d9 ["rising","point"] (lA K):=by
 refine T.F9.fn.ok dj (fun vs H Q E h=>qG h) (fun cn A outer s H vs Q E hr h=>?_)
 refine ⟨_,(ag (aq (i:=2) dj.nd rfl (Or.inl rfl) aj)
   (ag (aq (i:=3) dj.nd rfl (Or.inl rfl) (aA bN (aB (aW K rfl) rfl T.z_len WG (aa (pv 0) ae)) aj))
   (ag (dN PassesOwn.never (aG gN (pv 2) (pv 3) (aL _)) (ag (aq (i:=4) dj.nd rfl (Or.inl rfl) (aA dE (aA aU (pv 2) (pv 3)) aj))
   (ai (bF (aG gN (aT (b9 K rfl) (pv 0) (pv 4) (fun _ _=>rfl)) (pv 1) (aL _)) (ai (aq (i:=2) dj.nd rfl (Or.inl rfl) (aA aU (pv 4) aj))) (ai (aq (i:=3) dj.nd rfl (Or.inl rfl) (pv 4)))))))
   (ai (aE (pv 2)))))),?_⟩
 obtain ⟨a,l,p,rfl,ha,up,hp,hn,q⟩:=h
 have hs:(100000:Nat)<sizeLine:=by decide
 have hi:=WE hp
 have Ub:l[l.idxOf p]=p:=Qav hi
 have key:=Qbj.mp up
 refine ⟨_,rfl,a,_,rfl, .inl (br.of ha),?_⟩
 rw[lr]
 walk_at "wk"
 refine ⟨fun m σ H'=> ∃(lo hi:Nat) (mv:Option V),σ=[some (.ref a),some (.int p),some (.int lo),some (.int hi),mv]/\m=hi - lo/\lo<=l.idxOf p/\l.idxOf p<=hi/\hi<l.length/\H'=H,⟨_,0,l.length - 1,none,?_,rfl,Y6 _,by omega,by omega,rfl⟩,?_⟩
 ·have:((l.length:Int) - 1)=((l.length - 1:Nat):Int):=by omega
  rw[<-this];rfl
 rintro m σ H2 ⟨lo,lN,mv,rfl,rfl,h1,h2,h3,rfl⟩
 walk_at "wk"
 refine bC (fun z=>?_) (fun z=>?_)
 ·have z1:(lo:Int)<lN:=of_decide_eq_true z
  have em:(((lo:Int)+lN) / 2)=(((lo+lN) / 2:Nat):Int):=by omega
  have hm:(lo+lN) / 2<l.length:=by omega
  walk_at "rd"
  refine ⟨a,_,((lo:Int)+lN) / 2,_,rfl,rfl,br.of ha,by rw[em];exact b8 (Fb (Kw hm)),?_⟩
  walk_at "rd"
  refine bC (fun y=>?_) (fun y=>?_)
  ·have y1:((l[(lo+lN) / 2]:Nat):Int)<p:=of_decide_eq_true y
   have lt:(lo+lN) / 2<l.idxOf p:=by
    refine Classical.byContradiction fun w=>?_
    by_cases e:(lo+lN) / 2=l.idxOf p
    ·have:l[(lo+lN) / 2]=p:=by simp only[e];exact Ub
     omega
    ·have:=key (l.idxOf p) ((lo+lN) / 2) hi hm (by omega)
     rw[Ub]at this
     omega
   walk_at "rd"
   have e1:((lo:Int)+lN) / 2+1=(((lo+lN) / 2+1:Nat):Int):=by omega
   refine ⟨lN - ((lo+lN) / 2+1),by omega,(lo+lN) / 2+1,lN,_,by rw[<-e1];rfl,rfl,by omega,h2,h3,rfl⟩
  ·have y1: ¬((l[(lo+lN) / 2]:Nat):Int)<p:=fun w=>y (decide_eq_true w)
   have le:l.idxOf p<=(lo+lN) / 2:=by
    refine Classical.byContradiction fun w=>?_
    have:=key ((lo+lN) / 2) (l.idxOf p) hm hi (by omega)
    rw[Ub]at this
    omega
   walk_at "rd"
   refine ⟨(lo+lN) / 2 - lo,by omega,lo,(lo+lN) / 2,_,by rw[<-em];rfl,rfl,h1,le,by omega,rfl⟩
 ·have z1: ¬(lo:Int)<lN:=fun w=>z (decide_eq_true w)
  have e:lo=l.idxOf p:=by omega
  walk_at "rd"
  rw[e]
  exact q
theorem zp:bA P w K mg base eF 1 Ng NX ["_law_word","_law_k"] (Eh K):=by
 refine T.gg.fn.ok L4 (fun vs H Q E h=>HJ h) (fun cn A outer s H vs Q E hr h=>?_)
 refine ⟨_,(ai (aE (aT g8 (pv 0) (aA dm (pv 1) (aB aI rfl T.z_len WG (aa (pv 0) ae))) (fun _ _=>rfl)))),?_⟩
 obtain ⟨w,k,rfl,hw,hz,q⟩:=h
 have hs:(100000:Nat)<sizeLine:=by decide
 have pw:(0:Int)<(w.length:Int):=by have:=U0.mpr hw;omega
 exact ⟨_,rfl,_,rfl,_,rfl,w,rfl,by omega,_,_,rfl,rfl,pw,w,_,_,rfl,rfl,by omega,Lb hw _,q⟩
theorem zq:bA P w K mg base eF 2 Ni NZ ["_law_w","_law_i","_law_v","_law_j","_law_counter"] (pq K):=by
 have fq:=zp (P:=P) (w:=w) (base:=base) T
 have bJ:=fS (P:=P) (w:=w) (base:=base) T
 refine T.Ry.fn.ok iw (fun vs H Q E h=>wx h) (fun cn A outer s H vs Q E hr h=>?_)
 refine ⟨_,(ag (bT PassesOwn.never rfl (eJ rfl T.z_range (aa (aA aU (aB aI rfl T.z_len WG (aa (pv 0) ae)) (aB aI rfl T.z_len WG (aa (pv 2) ae))) ae)) (aK (i:=5) iw.nd rfl (Or.inl rfl)) (ag (aq (i:=6) iw.nd rfl (Or.inl rfl) (ak fq (hr.mono (by decide)) rfl T.gg.mg T.gg.fn.kp T.gg.bd .nil az (aa (pv 2) (aa (aA aU (pv 3) (pv 5)) ae))))
   (ag (bF (eI (pv 4)) (ai (aq (i:=6) iw.nd rfl (Or.inl rfl) (ak bJ (hr.mono (by decide)) rfl T.g6.mg T.g6.fn.kp T.g6.bd .nil az (aa (ak fq (hr.mono (by decide)) rfl T.gg.mg T.gg.fn.kp T.gg.bd .nil az (aa (pv 2) (aa (aA bN (pv 3) (pv 5)) ae))) ae)))) aV)
   (ai (bF (aG Dw (ak fq (hr.mono (by decide)) rfl T.gg.mg T.gg.fn.kp T.gg.bd .nil az (aa (pv 0) (aa (aA aU (pv 1) (pv 5)) ae))) (pv 6) (aL _)) (ai (aE (pv 5))) aV)))))
   (ai (aE (jP gz aj)))),?_⟩
 obtain ⟨w,i,v,j,b,rfl,hw,hv,lv,wz,vz,q⟩:=h
 have hs:(100000:Nat)<sizeLine:=by decide
 refine ⟨_,rfl,w,rfl,by omega,_,rfl,v,rfl,by omega,_,_,rfl,rfl,_,rfl,by omega,by omega,?_⟩
 rw[show ((w.length:Int)+(v.length:Int)).toNat=w.length+v.length by omega]
 refine dM (fun k σ H'=>H'=H/\ ∃mv ov:Option V,σ=[some (.str (S w)),some (.int i),some (.str (S v)),some (.int j),some (.bl b),mv,ov]/\ ∀t:Nat,t<k->sq w i t=wq v j b t) ⟨rfl,none,none,rfl,fun t ht=>absurd ht (Qb9 _)⟩ ?_ ?_
 ·rintro k σ H1 hk ⟨rfl,mv,ov,rfl,al⟩
  have stop:sq w i k≠wq v j b k->xu (sq w i) (wq v j b) (w.length+v.length)=((0:Int)+(k:Int)):=fun e=>by
   unfold xu
   rw[yB al e hk,if_neg (by omega)]
   omega
  have go:sq w i k=wq v j b k-> ∀t:Nat,t<k+1->sq w i t=wq v j b t:=fun e t ht=>by
   by_cases z:t=k
   ·rw[z];exact e
   ·exact al t (by omega)
  refine ⟨_,rfl,_,rfl,_,rfl,_,_,rfl,rfl,v,_,rfl,hv,by omega,?_⟩
  cases b with
  | false=>
   refine ⟨_,rfl,_,rfl,?_⟩
   refine lX ?_
   refine ⟨_,rfl,_,rfl,_,rfl,_,_,rfl,rfl,w,_,rfl,hw,by omega,_,rfl,_,_,rfl,rfl,_,rfl,bC (fun z=>?_) (fun z=>?_)⟩
   ·have e:sq w i k≠wq v j false k:=fun g=>by
     have g':rd w (i+(0+(k:Int)))=rd v (j+(0+(k:Int))):=by rw[Qa7];exact g
     rw[g']at z;simp at z
    rw[stop e]at q
    exact ⟨_,rfl,q⟩
   ·have e:sq w i k=wq v j false k:=by
     have g':rd w (i+(0+(k:Int)))=rd v (j+(0+(k:Int))):=by simpa using z
     rw[Qa7]at g';exact g'
    exact ⟨rfl,_,_,rfl,go e⟩
  | true=>
   refine ⟨_,rfl,_,rfl,?_⟩
   refine vv ?_
   refine ⟨_,rfl,_,rfl,_,rfl,_,_,rfl,rfl,v,_,rfl,hv,by omega,_,rfl,lv _ (hW hv _),?_⟩
   refine ⟨_,rfl,_,rfl,_,rfl,_,_,rfl,rfl,w,_,rfl,hw,by omega,_,rfl,_,_,rfl,rfl,_,rfl,bC (fun z=>?_) (fun z=>?_)⟩
   ·have e:sq w i k≠wq v j true k:=fun g=>by
     have g':rd w (i+(0+(k:Int)))=aF (rd v (j - (0+(k:Int)))):=by rw[Qa7];exact g
     rw[g']at z;simp at z
    rw[stop e]at q
    exact ⟨_,rfl,q⟩
   ·have e:sq w i k=wq v j true k:=by
     have g':rd w (i+(0+(k:Int)))=aF (rd v (j - (0+(k:Int)))):=by simpa using z
     rw[Qa7]at g';exact g'
    exact ⟨rfl,_,_,rfl,go e⟩
 ·rintro σ H1 ⟨rfl,mv,ov,rfl,al⟩
  have e:xu (sq w i) (wq v j b) (w.length+v.length)= -1:=by unfold xu;rw[D9 al,if_pos rfl]
  rw[e]at q
  exact ⟨_,rfl,q⟩
theorem sH:bA P w K mg base eF 2 f1 d1 ["word"] (rC K):=by
 have cJ:=fk (P:=P) (w:=w) (base:=base) T
 refine T.F1.fn.ok Cp (fun vs H Q E h=>yv h) (fun cn A outer s H vs Q E hr h=>?_)
 refine ⟨_,(ai (aE (bz K rfl ZE Qbt Qbs (iX K rfl) (j8 [] (by decide+kernel)) (aa (cu ["letter"] [none] (Dv rfl T.z_reversed (aa (pv 0) ae)) trivial (fun _ _ _ _=>(aK (i:=0) (by decide+kernel:List.Nodup (["letter"]:List Str)) rfl (Or.inl rfl))) (fun _ _ _ _=>gA) (fun _ _ _ _=>(ak cJ (hr.mono (by decide)) rfl T.F0.mg T.F0.fn.kp T.F0.bd .nil az (aa (pv 0) ae)))) ae)))),?_⟩
 obtain ⟨l,rfl,hc,hz,q⟩:=h
 have hs:(1000:Nat)<sizeLine:=by decide
 refine ⟨rfl,_,rfl,l,rfl,by omega,?_⟩
 rw[z8]
 refine kI (xs:=dz l.reverse) (fun i acc H'=>ao H H'/\acc=dz ((l.reverse.take i).map aF)) (by rw[aY,Z0];omega) ⟨ao.refl H,rfl⟩ ?_ ?_
 ·rintro i x acc H1 Nx hi hx hl ⟨s1,rfl⟩ nx
  obtain ⟨c,qr,rfl⟩:=g9 hx
  refine ⟨trivial,eW ⟨_,rfl,c,rfl,hc c (Qde.mp (Zx qr)),nx _ _ (by simpa using hl) ⟨s1,?_⟩⟩⟩
  rw[dZ, <-take_snoc qr,WC]
  rfl
 ·rintro acc H1 D hl ⟨s1,rfl⟩ hD
  refine ⟨D,(gK l).map fun c=>[c],rfl,rfl,br.of ?_,?_,?_⟩
  ·rw[ah, <-gP,aY,ZO (Q3 _),Qbz]
   rfl
  ·rw[BQ]
   unfold gK
   rw[Z0,UX]
   omega
  ·rw[rD]
   exact q _ (s1.trans (ao.upd hD))
theorem Cw:bA P w K mg base eF 1 gJ p8 ["self","strand","way","place"] (se K aQ):=by
 refine T.L0.ok Cr (fun vs H Q E h=>y0 h) (fun cn A outer s H vs Q E hr h=>?_)
 refine ⟨_,(ag (iR (pv 0) (pv 1) rfl)
   (ag (iR (pv 0) (pv 2) rfl)
   (ai (iR (pv 0) (pv 3) rfl)))),?_⟩
 obtain ⟨x,dx,t,w',p,rfl,hx,q⟩:=h
 refine ⟨_,rfl,_,rfl,x,aQ,dx,_,rfl,hx,T.dI,T.n_Seen_strand,by show 0<1000;decide,?_⟩
 refine ⟨_,rfl,_,rfl,x,aQ,dx,_,rfl,ah,T.dI,T.n_Seen_way,ZZ (da _ _ _) (by show 0+1<1000;decide),?_⟩
 refine ⟨_,rfl,_,rfl,x,aQ,dx,_,rfl,ah,T.dI,T.n_Seen_place,ZZ (da _ _ _) (ZZ (Qay (da _ _ _)) (by show 0+1+1<1000;decide)),?_⟩
 exact q _ ah fun b o e z=>by rw[ay z,ay z,ay z];exact e
theorem nM:bA P w K mg base eF 1 f8 d8 ["some"] (iD K):=by
 refine T.F8.fn.ok dH (fun vs H Q E h=>mD h) (fun cn A outer s H vs Q E hr h=>?_)
 refine ⟨_,(ag (aq (i:=1) dH.nd rfl (Or.inl rfl) DL)
   (ag (bT PassesOwn.never rfl (dW K rfl (pv 0)) (aK (i:=2) dH.nd rfl (Or.inl rfl)) (ag (aq (i:=3) dH.nd rfl (Or.inl rfl) (aB (qR rfl) rfl T.z_min boot_min (aa (aT (bp K rfl) (pv 2) aj (fun _ _=>rfl)) (aa (aT (bp K rfl) (pv 2) aj (fun _ _=>rfl)) ae))))
   (ag (tL (oH hr) (pv 1) (aT (bp K rfl) (pv 2) aj (fun _ _=>rfl)) (pv 3) rfl)
   (ai (tL (oH hr) (pv 1) (aT (bp K rfl) (pv 2) aj (fun _ _=>rfl)) (pv 3) rfl)))))
   (ai (aE (pv 1))))),?_⟩
 obtain ⟨a,qs,rfl,ha,hq,hn,nd,q⟩:=h
 have hs:(100000:Nat)<sizeLine:=by decide
 walk_at "wk"
 intro d RJ
 have VI:a≠d:=ar ha RJ
 refine ⟨_,rfl,a,rfl,⟨_,br.of (by rw[ay VI];exact ha)⟩,?_⟩
 refine gM (K:=K) (a:=a) (xs:=nF qs) (fun k σ H'=> ∃(cv fv:Option V),σ=[some (.ref a),some (.ref d),cv,fv]/\H' d=some (.dK (gh ((qs.take k).map Q4.v)))/\aN d H H')
  ⟨none,none,rfl,ah,fun b o e z=>by rw[ay z];exact e⟩ (fun k σ H' _ ⟨_,_,_,_,h⟩=>br.of (h _ _ ha VI)) ?_ ?_
 ·rintro k x σ H1 hx ⟨cv,fv,rfl,hd,s1⟩
  obtain ⟨c,hc,rfl⟩:=Lz hx
  have hk:k<qs.length:=(Kx.mp hc).1
  have tc:=hq c (Zx hc)
  have lL:c.t≠d:=fun z=>by have h9:H c.t=_:=tc;rw[z,RJ]at h9;cases h9
  have RK:qE H1 c:=s1 _ _ tc lL
  have lc:(gh ((qs.take k).map Q4.v)).length<=2000:=by rw[wW,UX,ZD];omega
  have e:(qs.take (k+1)).map Q4.v=(qs.take k).map Q4.v++[c.v]:=by rw[<-take_snoc hc,WC];rfl
  have VJ:(dG ((qs.take k).map Q4.v++[c.v])).Nodup:=by
   rw[<-e]
   have:qs.map Q4.v=(qs.take (k+1)).map Q4.v++(qs.drop (k+1)).map Q4.v:=by rw[<-WC,Qaa]
   rw[this]at nd
   unfold dG at nd ⊢
   rw[Z1,Qap]at nd
   exact nd.1
  refine ⟨_,rfl,c.t,_,2,_,rfl,rfl,bV.of RK,rfl,_,rfl,c.t,_,3,_,rfl,rfl,bV.of RK,rfl,_,_,rfl,?_⟩
  refine ⟨_,rfl,_,rfl,_,rfl,c.t,_,2,_,rfl,rfl,bV.of RK,rfl,d,_,rfl,tK.k (k:=Sum.inl (c.v.2.2.1:Int)) hd (by omega),?_⟩
  have X5: ∀o,qE (L2.upd H1 d o) c:=fun o=>by show L2.upd H1 d o c.t=_;rw[ay lL];exact RK
  refine ⟨_,rfl,_,rfl,_,rfl,c.t,_,3,_,rfl,rfl,bV.of (X5 _),rfl,d,_,rfl,tK.k (k:=Sum.inl (c.v.2.2.2:Int)) ah (ZZ (gj _ _ _) (by omega)),?_⟩
  refine ⟨_,_,rfl,?_,fun b o eb z=>by rw[ay z,ay z];exact s1 b o eb z⟩
  rw[ah,e, <-Ic VJ]
  rfl
 ·rintro σ H1 ⟨cv,fv,rfl,hd,s1⟩
  rw[AJ,Qad]at hd
  exact ⟨_,rfl,q d H1 RJ hd fun b o eb=>s1 b o eb (ar eb RJ)⟩
theorem gv:bA P w K mg base eF 2 MP Nu ["some"] (gs K):=by
 have qh:=nM (P:=P) (w:=w) (base:=base) T
 have xi:=uT (P:=P) (w:=w) (base:=base) T
 refine T.Co.fn.ok bG (fun vs H Q E h=>kj h) (fun cn A outer s H vs Q E hr h=>?_)
 refine ⟨_,(ag (aq (i:=1) bG.nd rfl (Or.inl rfl) (ak qh (hr.mono (by decide)) rfl T.F8.mg T.F8.fn.kp T.F8.bd .nil az (aa (pv 0) ae)))
   (ag (aq (i:=2) bG.nd rfl (Or.inl rfl) (dq ae))
   (ag (aq (i:=3) bG.nd rfl (Or.inl rfl) aj)
   (ag (bT PassesOwn.never rfl (dW K rfl (aB (qB rfl) rfl T.z_sorted boot_sorted (aa (pv 1) ae))) (aK (i:=4) bG.nd rfl (Or.inl rfl)) (ai (bF (aG fV (nU (oH hr) (pv 1) (pv 4) (fun _ _=>rfl)) (pv 4) (aL _)) (ai (cj (bz K rfl ZK Z9 Z8 cq (pv 2) (aa (pv 4) ae)))) (ag (aq (i:=5) bG.nd rfl (Or.inl rfl) (ak xi (hr.mono (by decide)) rfl T.F9.mg T.F9.fn.kp T.F9.bd .nil az (aa (pv 2) (aa (nU (oH hr) (pv 1) (pv 4) (fun _ _=>rfl)) ae))))
   (ag (cj (bz K rfl ZK Qcn Qcm oG (pv 2) (aa (pv 5) ae)))
   (ai (j7 (i:=3) bG.nd rfl (Or.inl rfl) (aA bN (aB (aW K rfl) rfl T.z_len WG (aa (pv 2) ae)) (pv 5)) sS)))))))
   (ai (aE (pv 3))))))),?_⟩
 obtain ⟨a,qs,rfl,ha,hq,hn,nd,q⟩:=h
 have hs:(100000:Nat)<sizeLine:=by decide
 refine ⟨_,rfl,a,qs,rfl,ha,hq,by omega,nd,fun d H1 VJ hd s1=>?_⟩
 have MA:(qs.map Q4.v).length<=24:=by rw[UX];exact hn
 generalize qs.map Q4.v=cs at nd hd q MA
 have kl:=wW cs
 have Zh:(dG cs).length=2*cs.length:=by
  have:=congrArg List.length (gU cs)
  rw[UX,UX]at this
  omega
 walk_at "wk"
 intro b nb
 have VL:d≠b:=ar hd nb
 have hd2:L2.upd H1 b (.lst []) d=some (.dK (gh cs)):=by rw[ay VL];exact hd
 have sb:=ao.upd (o:= .lst []) nb
 refine ⟨_,rfl,d,_,(dG cs).map fun n:Nat=>(n:Int),rfl,hd2,by rw[gU,Qaf];rfl,by rw[UX];omega,fun p2 ms n2 uO Qy=>?_⟩
 obtain ⟨P,eP,pP,uP⟩:=yZ nd uO Qy
 rw[eP]
 have ch:=LG nd pP uP
 have lP:P.length<=2000:=by rw[pP.length_eq];omega
 have VM:p2≠b:=fun z=>by rw[z,ah]at n2;cases n2
 have s2:=sb.trans (ao.upd (o:= .lst (ins P)) n2)
 refine ⟨p2,rfl,⟨_,br.of ah⟩,?_⟩
 refine gM (K:=K) (a:=p2) (xs:=ins P) (fun k σ H'=> ∃(m:Nat) (pv nv:Option V),σ=[some (.ref a),some (.ref d),some (.ref b),some (.int m),pv,nv]/\H' b=some (.lst (ins (n_ (cH cs) (P.take k) (P.drop k))))/\m+Gr (cH cs) (P.take k) (P.drop k)=Gr (cH cs) [] P/\aN b (L2.upd (L2.upd H1 b (.lst [])) p2 (.lst (ins P))) H')
  ⟨0,none,none,rfl,by rw[ay (Ne.symm VM),ah];rfl,by rw[Qcx];rfl,aN.refl _ _⟩ (fun k σ H' _ ⟨_,_,_,_,_,_,h⟩=>br.of (h _ _ ah VM)) ?_ ?_
 ·rintro k x σ H3 hx ⟨m,pv,nv,rfl,hb,hm,s3⟩
  obtain ⟨p,hp,rfl⟩: ∃p,P[k]? =some p/\x=V.int (p:Nat):=by
   unfold ins at hx
   rw[ZA]at hx
   cases e:P[k]? with
   | none=>rw[e]at hx;cases hx
   | some p=>rw[e]at hx;cases hx;exact ⟨p,rfl,rfl⟩
  have hk:k<P.length:=(Kx.mp hp).1
  have Uc:p∈dG cs:=pP.mem_iff.mp (Zx hp)
  have VN:=LI nd Uc
  have VO:H3 d=some (.dK (gh cs)):=s3 _ _ (s2 _ _ hd) VL
  have VP:P=P.take k++p::P.drop (k+1):=by
   have:=Qaa k P
   rw[Qah hk,(Kx.mp hp).2]at this
   exact this.symm
  have Ud:P.drop k=p::P.drop (k+1):=by rw[Qah hk,(Kx.mp hp).2]
  have QA:P.take (k+1)=P.take k++[p]:=(take_snoc hp).symm
  have bl:(n_ (cH cs) (P.take k) (P.drop k)).length<=2000:=ZW Ie (by rw[ZD];omega)
  have wD:=Fe (st:=cH cs) hp
  refine ⟨_,rfl,_,rfl,d,_,rfl,by rw[<-VN];exact oV.k (k:=Sum.inl (p:Int)) VO,?_⟩
  walk_at "rd"
  refine bC (fun z=>?_) (fun z=>?_)
  ·have z1:cH cs p=p:=by have:=of_decide_eq_true z;omega
   refine ⟨_,rfl, .inl ⟨rfl,_,br.of hb⟩,_,rfl,b,_,_,rfl,rfl,hb,by rw[lr];omega,?_⟩
   refine ⟨m,_,_,rfl,?_,?_,s3.trans (aN.upd _ _ _)⟩
   ·rw[ah,E_,QA,E6 ch VP z1, <-Ud]
   ·have e0:Ce (cH cs) (P.take k) (P.drop (k+1)) p=0:=by unfold Ce;rw[if_pos z1]
    omega
  ·have z1:cH cs p≠p:=fun w=>z (decide_eq_true (by rw[w]))
   obtain ⟨en,em⟩:=LC ch VP z1
   rw[<-Ud]at en em
   have up:=LH (st:=cH cs) uP (Qaa k P).symm (P.drop k)
   have Dj:=WE em
   refine ⟨_,rfl,_,rfl,_,rfl,d,_,rfl,by rw[<-VN];exact oV.k (k:=Sum.inl (p:Int)) VO,b,_,cH cs p,rfl,hb,up,em,by omega,?_⟩
   refine ⟨_,rfl, .inl ⟨rfl,_,br.of hb⟩,_,rfl,b,_,_,_,_,rfl,rfl,hb,by omega,by omega,?_,Fb (Kw Dj),?_⟩
   ·rw[lr]
    exact Qk Dj
   have ee:(ins (n_ (cH cs) (P.take k) (P.drop k))).eraseIdx ((n_ (cH cs) (P.take k) (P.drop k)).idxOf (cH cs p))=ins (n_ (cH cs) (P.take (k+1)) (P.drop (k+1))):=by
    rw[QA,en, <-Fd em]
    exact r_ _ _
   rw[ee]
   refine ⟨_,rfl,_,rfl,b,_,rfl, .inl (br.of ah),?_⟩
   walk_at "rd"
   have bh:=behind up em
   have lb:(n_ (cH cs) (P.take (k+1)) (P.drop (k+1))).length=((n_ (cH cs) (P.take k) (P.drop k)).erase (cH cs p)).length:=by rw[QA,en]
   have le:((n_ (cH cs) (P.take k) (P.drop k)).erase (cH cs p)).length+1=(n_ (cH cs) (P.take k) (P.drop k)).length:=by rw[List.length_erase_of_mem em];omega
   have ec:Ce (cH cs) (P.take k) (P.drop (k+1)) p=((n_ (cH cs) (P.take k) (P.drop k)).filter fun x=>decide (cH cs p<x)).length:=by unfold Ce;rw[if_neg z1,Ud]
   have ei:(m:Int)+(((ins (n_ (cH cs) (P.take (k+1)) (P.drop (k+1)))).length:Nat) - ((n_ (cH cs) (P.take k) (P.drop k)).idxOf (cH cs p):Nat))=((m+Ce (cH cs) (P.take k) (P.drop (k+1)) p:Nat):Int):=by rw[lr];omega
   exact ⟨m+Ce (cH cs) (P.take k) (P.drop (k+1)) p,some (.int p),some (.int ((n_ (cH cs) (P.take k) (P.drop k)).idxOf (cH cs p):Nat)),by rw[<-ei];rfl,ah,by omega,s3.trans (aN.upd _ _ _)⟩
 ·rintro σ H3 ⟨m,pv,nv,rfl,hb,hm,s3⟩
  rw[lr,List.drop_length,Qad]at hm
  have DE:m=Gr (cH cs) [] P:=hm
  refine ⟨_,rfl,?_⟩
  rw[DE,Qj ch]
  exact q H3 fun c o e=>s3 c o (s2 c o (s1 c o e)) (ar e (ao.free s1 nb))
theorem zr:bA P w K mg base eF 2 Nh NY ["_law_yard_here","_law_w","_law_i","_law_v","_law_j"] (pj K):=by
 have bJ:=fS (P:=P) (w:=w) (base:=base) T
 have fq:=zp (P:=P) (w:=w) (base:=base) T
 refine T.Rx.fn.ok eS (fun vs H Q E h=>wo h) (fun cn A outer s H vs Q E hr h=>?_)
 refine ⟨_,(ag (xG (bD (aa (ak bJ (hr.mono (by decide)) rfl T.g6.mg T.g6.fn.kp T.g6.bd .nil az (aa (ak fq (hr.mono (by decide)) rfl T.gg.mg T.gg.fn.kp T.gg.bd .nil az (aa (pv 1) (aa (aA bN (pv 2) aj) ae))) ae)) (aa (ak fq (hr.mono (by decide)) rfl T.gg.mg T.gg.fn.kp T.gg.bd .nil az (aa (pv 1) (aa (pv 2) ae))) ae))) (fN (n:=2) K rfl rfl (bI (aK (i:=5) eS.nd rfl (Or.inl rfl)) (bI (aK (i:=6) eS.nd rfl (Or.inr rfl)) fJ))))
   (ag (xH (i:=7) (j:=8) rfl eS.nd rfl rfl (by decide) rfl rfl (aa (ak bJ (hr.mono (by decide)) rfl T.g6.mg T.g6.fn.kp T.g6.bd .nil az (aa (ak fq (hr.mono (by decide)) rfl T.gg.mg T.gg.fn.kp T.gg.bd .nil az (aa (pv 3) (aa (aA bN (pv 4) aj) ae))) ae)) (aa (ak fq (hr.mono (by decide)) rfl T.gg.mg T.gg.fn.kp T.gg.bd .nil az (aa (pv 3) (aa (pv 4) ae))) ae)) rfl)
   (ag (bF (aG gN (aB vL rfl T.z_len WG (aa (cR (BF K rfl rfl) rfl T.z_set boot_set (aa (dq (aa (pv 5) (aa (pv 6) (aa (pv 7) (aa (pv 8) ae))))) ae)) ae)) aj (aL _)) (ai (aE oq)) aV)
   (ag (aq (i:=9) eS.nd rfl (Or.inl rfl) (bz K rfl ZE Qaj Qai de (pv 0) (aa (pv 5) ae)))
   (ag (aq (i:=10) eS.nd rfl (Or.inr rfl) (aA fM (bj iU (pv 0) (bc (pv 9)) bY) (bj iU (pv 0) bY (bc (pv 9)))))
   (ai (aE (fK fV (aB (aW K rfl) rfl T.z_len WG (aa (cu ["_law_end","_law_rest","_law_b"] [none,some 10,some 6] (g_ K rfl (bD (aa (pv 7) (aa (pv 8) ae)))) ⟨⟨rfl,rfl,by first | exact .inl rfl | exact .inr rfl⟩,⟨⟨rfl,rfl,by first | exact .inl rfl | exact .inr rfl⟩,trivial⟩⟩ (fun _ _ _ _=>(aK (i:=0) (by decide+kernel:List.Nodup (["_law_end","_law_rest","_law_b"]:List Str)) rfl (Or.inl rfl))) (fun _ _ _ _=>(x8 (aG gN (bz K rfl ZE Qaj Qai de (pv 1) (aa (pv 0) ae)) (bz K rfl ZE Qaj Qai de (pv 1) (aa (pv 2) ae)) (aL _)))) (fun _ _ _ _=>(pv 0))) ae)) aj (aL _))))))))),?_⟩
 obtain ⟨y,w,i,v,j,rfl,hy,hz,hw,hv,wz,vz,hi,hj,q⟩:=h
 have hs:(100000:Nat)<sizeLine:=by decide
 have lw: ∀k,Lt (rd w k):=fun k=>hy.lt _ (hw.rd k)
 have lv: ∀k,Lt (rd v k):=fun k=>hy.lt _ (hv.rd k)
 refine ⟨_,rfl,_,rfl,_,_,rfl,rfl,w,_,rfl,hw.ne,by omega,_,rfl,lw _,?_⟩
 refine ⟨_,rfl,_,rfl,w,_,rfl,hw.ne,by omega,by show 2<=sizeLine;decide,fun t nt=>?_⟩
 refine ⟨t,_,rfl,bV.of ah,rfl,_,_,rfl,_,_,rfl,rfl,?_⟩
 refine ⟨_,rfl,_,rfl,_,_,rfl,rfl,v,_,rfl,hv.ne,by omega,_,rfl,lv _,?_⟩
 refine ⟨_,rfl,_,rfl,v,_,rfl,hv.ne,by omega,_,_,rfl,?_⟩
 have ma:=hy.cl _ (hw.rd ((i:Int) - 1))
 have mb:=hw.rd i
 have mc:=hy.cl _ (hv.rd ((j:Int) - 1))
 have md:=hv.rd j
 have ab:rd w i≠aF (rd w ((i:Int) - 1)):=hw.red i
 have cd:rd v j≠aF (rd v ((j:Int) - 1)):=hv.red j
 unfold Hy at q
 have s1:=ao.upd (o:= .tup [.str (S [aF (rd w ((i:Int) - 1))]), .str (S [rd w i])]) nt
 generalize upd H t (.tup [.str (S [aF (rd w ((i:Int) - 1))]), .str (S [rd w i])])=H1 at s1 ⊢
 generalize aF (rd w ((i:Int) - 1))=a at q ma ab ⊢
 generalize rd w i=b at q mb ab ⊢
 generalize aF (rd v ((j:Int) - 1))=c at q mc cd ⊢
 generalize rd v j=d at q md cd ⊢
 unfold ac at q
 refine ⟨_,rfl,_,rfl,_,rfl,_,rfl,by show 4<=sizeLine;decide,fun l nl=>?_⟩
 refine ⟨l,[[a],[b],[c],[d]],rfl,br.of ah,by show 4<=20;decide,fun st ns=>?_⟩
 have s3:=s1.trans ((ao.upd (o:= .lst [.str (S [a]), .str (S [b]), .str (S [c]), .str (S [d])]) nl).trans (ao.upd (o:=BE st (dd [] (([[a],[b],[c],[d]]:List (List Nat)).map S)).length) ns))
 have uY:=Ei (a:=a) (b:=b) (c:=c) (d:=d)
 refine ⟨st,_,rfl,ah,by omega,_,_,rfl,rfl,_,rfl,bC (fun z=>?_) (fun z=>?_)⟩
 ·have hn: ¬(a≠b/\a≠c/\a≠d/\b≠c/\b≠d/\c≠d):=fun g=>by
   rw[wC.mpr g]at z
   exact absurd (of_decide_eq_true z) (by decide)
  have e:c=a\/c=b\/d=a\/d=b:=Classical.byContradiction fun g=>hn ⟨Ne.symm ab,fun g2=>g (.inl g2.symm),fun g2=>g (.inr (.inr (.inl g2.symm))),fun g2=>g (.inr (.inl g2.symm)),fun g2=>g (.inr (.inr (.inr g2.symm))),Ne.symm cd⟩
  rw[if_pos e]at q
  exact q _ s3
 ·have hn:a≠b/\a≠c/\a≠d/\b≠c/\b≠d/\c≠d:=wC.mp (by
   have: ¬((dd ([]:List Str) (([[a],[b],[c],[d]]:List (List Nat)).map S)).length:Int)<4:=fun g=>z (decide_eq_true g)
   omega)
  obtain ⟨h1,h2,h3,h4,h5,h6⟩:=hn
  rw[if_neg (fun g=>g.elim (fun g=>h2 g.symm) fun g=>g.elim (fun g=>h4 g.symm) fun g=>g.elim (fun g=>h3 g.symm) fun g=>h5 g.symm)]at q
  generalize upd (upd H1 l (.lst [.str (S [a]), .str (S [b]), .str (S [c]), .str (S [d])])) st (BE st (dd [] (([[a],[b],[c],[d]]:List (List Nat)).map S)).length)=H3 at s3 ⊢
  have hlen:(cut y (some ((y.idxOf a:Nat):Int)) none).length+(cut y none (some ((y.idxOf a:Nat):Int))).length<=sizeLine:=by rw[cD,d_,ZL,ZD];omega
  have zl:cut y (some ((y.idxOf a:Nat):Int)) none++cut y none (some ((y.idxOf a:Nat):Int))=y.drop (y.idxOf a)++y.take (y.idxOf a):=by rw[cD,d_]
  have hm: ∀e∈y,e∈y.drop (y.idxOf a)++y.take (y.idxOf a):=fun e he=>List.perm_append_comm.mem_iff.mp (by rw[Qaa];exact he)
  refine ⟨_,rfl,rfl,_,rfl,y,a,rfl,rfl,ma,?_⟩
  refine ⟨_,rfl,_,rfl,_,rfl,y,rfl,by omega,_,rfl,_,rfl,_,rfl,y,rfl,by omega,_,_,rfl,rfl,hlen,?_⟩
  rw[zl]
  refine ⟨_,rfl,_,rfl,by show 2<=sizeLine;decide,fun t2 X6=>?_⟩
  have Cu:upd H3 t2 (.tup [.str (S [c]), .str (S [d])]) t2=some (.tup (dz [c,d])):=ah
  have s4:=s3.trans (ao.upd (o:= .tup [.str (S [c]), .str (S [d])]) X6)
  generalize upd H3 t2 (.tup [.str (S [c]), .str (S [d])])=H4 at Cu s4 ⊢
  refine ⟨t2,rfl,⟨_,bV.of Cu⟩,?_⟩
  refine kK (K:=K) (a:=t2) (xs:=dz [c,d]) (fun n acc H'=>H'=H4/\acc=dz (([c,d].take n).filter fun e=>gr y a e b)) (by rw[aY];show 2<sizeLine;decide) (fun n acc H' h=>by rw[h.1];exact bV.of Cu) ⟨rfl,rfl⟩ ?_ ?_
  ·rintro n x acc H5 Nx hn hx qf ⟨rfl,rfl⟩ nx
   obtain ⟨e,he,rfl⟩:=g9 hx
   have Cc:e∈y:=by
    rcases Y5.mp (Zx he) with g | g
    ·rw[g];exact mc
    ·rw[UZ.mp g];exact md
   have ef:=m9 (p:=fun e=>gr y a e b) he
   refine ⟨⟨rfl,rfl,trivial⟩,?_⟩
   refine ⟨_,rfl,rfl,_,rfl,_,e,rfl,rfl,hm e Cc,_,rfl,rfl,_,rfl,_,b,rfl,rfl,hm b mb,_,_,rfl,rfl,_,rfl,?_⟩
   have eg:=we (y:=y) hy.nd ma Cc mb
   refine bC (fun z2=>?_) (fun z2=>?_)
   ·rw[if_pos (eg.symm.trans z2)]at ef
    exact ⟨_,rfl,nx _ _ (by simpa using qf) ⟨rfl,by rw[ef, <-dZ]⟩⟩
   ·rw[if_neg (fun g=>z2 (eg.trans g)),Z3]at ef
    exact nx _ _ (Qc5 qf) ⟨rfl,by rw[ef]⟩
  ·rintro acc H5 D qf ⟨rfl,rfl⟩ hD
   rw[aY,Qad]
   refine ⟨D,_,rfl, .inl (br.of ah),_,_,rfl,rfl,?_⟩
   have e1:=Lj (gr y a c b) (gr y a d b) c d (fun e=>gr y a e b) rfl rfl
   rw[<-e1]at q
   have:=q _ (s4.trans (ao.upd (o:= .lst (dz ([c,d].filter fun e=>gr y a e b))) hD))
   rw[aY]
   exact this
theorem Cy:bA P w K mg base eF 1 Nf NW ["_law_yard_here","_law_x","_law_y","_law_z"] (rP K):=by
 refine T.LW.fn.ok mS (fun vs H Q E h=>yE h) (fun cn A outer s H vs Q E hr h=>?_)
 refine ⟨_,(ag (aq (i:=4) mS.nd rfl (Or.inl rfl) (bz K rfl ZE Qaj Qai de (pv 0) (aa (pv 1) ae)))
   (ag (aq (i:=5) mS.nd rfl (Or.inl rfl) (aA fM (bj iU (pv 0) (bc (pv 4)) bY) (bj iU (pv 0) bY (bc (pv 4)))))
   (ai (aE (fK gN (bz K rfl ZE Qaj Qai de (pv 5) (aa (pv 2) ae)) (bz K rfl ZE Qaj Qai de (pv 5) (aa (pv 3) ae)) (aL _)))))),?_⟩
 obtain ⟨y,a,b,c,rfl,hn,ha,hb,hc,hz,q⟩:=h
 have hs:(100000:Nat)<sizeLine:=by decide
 have hlen:(cut y (some ((y.idxOf a:Nat):Int)) none).length+(cut y none (some ((y.idxOf a:Nat):Int))).length<=sizeLine:=by rw[cD,d_,ZL,ZD];omega
 have zl:cut y (some ((y.idxOf a:Nat):Int)) none++cut y none (some ((y.idxOf a:Nat):Int))=y.drop (y.idxOf a)++y.take (y.idxOf a):=by rw[cD,d_]
 have hm: ∀e∈y,e∈y.drop (y.idxOf a)++y.take (y.idxOf a):=fun e he=>List.perm_append_comm.mem_iff.mp (by rw[Qaa];exact he)
 refine ⟨_,rfl,rfl,_,rfl,y,a,rfl,rfl,ha,?_⟩
 refine ⟨_,rfl,_,rfl,_,rfl,y,rfl,by omega,_,rfl,_,rfl,_,rfl,y,rfl,by omega,_,_,rfl,rfl,hlen,?_⟩
 rw[zl]
 refine ⟨_,rfl,rfl,_,rfl,_,b,rfl,rfl,hm b hb,_,rfl,rfl,_,rfl,_,c,rfl,rfl,hm c hc,_,_,rfl,rfl,?_⟩
 rw[<-we hn ha hb hc]at q
 exact q
theorem zu:bA P w K mg base eF 3 Nj N0 ["_law_yard_here","_law_w","_law_i","_law_v","_law_j","_law_counter"] (pA K):=by
 have Cz:=zq (P:=P) (w:=w) (base:=base) T
 have bJ:=fS (P:=P) (w:=w) (base:=base) T
 have fq:=zp (P:=P) (w:=w) (base:=base) T
 have xj:=Cy (P:=P) (w:=w) (base:=base) T
 refine T.LX.fn.ok dc (fun vs H Q E h=>wA h) (fun cn A outer s H vs Q E hr h=>?_)
 refine ⟨_,(ag (aq (i:=6) dc.nd rfl (Or.inl rfl) (ak Cz (hr.mono (by decide)) rfl T.Ry.mg T.Ry.fn.kp T.Ry.bd .nil az (aa (pv 1) (aa (pv 2) (aa (pv 3) (aa (pv 4) (aa (pv 5) ae)))))))
   (ag (xH (i:=7) (j:=8) rfl dc.nd rfl rfl (by decide) rfl rfl (aa (ak bJ (hr.mono (by decide)) rfl T.g6.mg T.g6.fn.kp T.g6.bd .nil az (aa (ak fq (hr.mono (by decide)) rfl T.gg.mg T.gg.fn.kp T.gg.bd .nil az (aa (pv 1) (aa (aA bN (pv 2) aj) ae))) ae)) (aa (ak bJ (hr.mono (by decide)) rfl T.g6.mg T.g6.fn.kp T.g6.bd .nil az (aa (ak fq (hr.mono (by decide)) rfl T.gg.mg T.gg.fn.kp T.gg.bd .nil az (aa (pv 3) (aa (aA bN (pv 4) aj) ae))) ae)) ae)) rfl)
   (ag (bF (eI (pv 5)) (ai (aq (i:=8) dc.nd rfl (Or.inl rfl) (ak fq (hr.mono (by decide)) rfl T.gg.mg T.gg.fn.kp T.gg.bd .nil az (aa (pv 3) (aa (aA aU (pv 4) aj) ae))))) aV)
   (ag (bF (PW.pt (zK (aG gN (pv 6) aj (aL _)) (sQ (aG gB (pv 7) (pv 8) (aL _))))) (ai (aE aj)) aV)
   (ag (aq (i:=9) dc.nd rfl (Or.inl rfl) (ak fq (hr.mono (by decide)) rfl T.gg.mg T.gg.fn.kp T.gg.bd .nil az (aa (pv 3) (aa (aA aU (pv 4) (pv 6)) ae))))
   (ag (bF (eI (pv 5)) (ai (aq (i:=9) dc.nd rfl (Or.inl rfl) (ak bJ (hr.mono (by decide)) rfl T.g6.mg T.g6.fn.kp T.g6.bd .nil az (aa (ak fq (hr.mono (by decide)) rfl T.gg.mg T.gg.fn.kp T.gg.bd .nil az (aa (pv 3) (aa (aA bN (pv 4) (pv 6)) ae))) ae)))) aV)
   (ag (aq (i:=10) dc.nd rfl (Or.inl rfl) (ak bJ (hr.mono (by decide)) rfl T.g6.mg T.g6.fn.kp T.g6.bd .nil az (aa (ak fq (hr.mono (by decide)) rfl T.gg.mg T.gg.fn.kp T.gg.bd .nil az (aa (pv 1) (aa (aA bN (aA aU (pv 2) (pv 6)) aj) ae))) ae)))
   (ag (aq (i:=11) dc.nd rfl (Or.inl rfl) (ak xj (hr.mono (by decide)) rfl T.LW.mg T.LW.fn.kp T.LW.bd .nil az (aa (pv 0) (aa (pv 7) (aa (pv 8) (aa (ak fq (hr.mono (by decide)) rfl T.gg.mg T.gg.fn.kp T.gg.bd .nil az (aa (pv 1) (aa (pv 2) ae))) ae))))))
   (ai (aE (aA iQ (pv 6) (cR qS rfl T.z_int boot_int (aa (fK KN (pv 11) (ak xj (hr.mono (by decide)) rfl T.LW.mg T.LW.fn.kp T.LW.bd .nil az (aa (pv 0) (aa (ak fq (hr.mono (by decide)) rfl T.gg.mg T.gg.fn.kp T.gg.bd .nil az (aa (pv 1) (aa (aA aU (pv 2) (pv 6)) ae))) (aa (pv 9) (aa (pv 10) ae))))) (aL _)) ae))))))))))))),?_⟩
 obtain ⟨y,w,i,v,j,b,rfl,hy,hz,hw,hv,wz,vz,q⟩:=h
 have hs:(100000:Nat)<sizeLine:=by decide
 have lw: ∀k,Lt (rd w k):=fun k=>hy.lt _ (hw.rd k)
 have lv: ∀k,Lt (rd v k):=fun k=>hy.lt _ (hv.rd k)
 have gy: ∀k,wq v j b k∈y:=fun k=>by
  unfold wq
  cases b
  ·rw[if_neg (by decide)];exact hv.rd _
  ·rw[if_pos rfl];exact hy.cl _ (hv.rd _)
 have QB:=gR (f:=sq w i) (g:=wq v j b) hw.ne hv.ne (cF w i) (Lf v j b)
 refine ⟨_,rfl,_,rfl,_,rfl,_,rfl,_,rfl,w,i,v,j,b,rfl,hw.ne,hv.ne,fun c hc=>hy.lt c (hv.bR c hc),wz,vz,?_⟩
 refine ⟨_,rfl,_,rfl,_,_,rfl,rfl,w,_,rfl,hw.ne,by omega,_,rfl,lw _,?_⟩
 refine ⟨_,rfl,_,rfl,_,_,rfl,rfl,v,_,rfl,hv.ne,by omega,_,rfl,lv _,_,_,rfl,?_⟩
 have q1:=q _ (ao.refl H)
 clear q
 refine ⟨_,rfl,?_⟩
 cases b with
 | false=>
  refine ⟨_,rfl,?_⟩
  refine lX ?_
  have IE:aF (wq v j false (-1))=aF (rd v ((j:Int) - 1)):=rfl
  refine ⟨_,rfl,_,_,rfl,rfl,_,rfl,bC (fun z=>?_) (fun z=>?_)⟩
  ·have GY: ¬0<xu (sq w i) (wq v j false) (w.length+v.length):=by have:=of_decide_eq_true z;omega
   refine vv ?_
   rw[Ak GY QB]at q1
   exact q1
  ·have GY:0<xu (sq w i) (wq v j false) (w.length+v.length):=by
    by_cases g:0<xu (sq w i) (wq v j false) (w.length+v.length)
    ·exact g
    ·exact absurd (decide_eq_true (by omega)) z
   obtain ⟨e1,e2,e3⟩:=Aj (y:=y) GY
   refine ⟨_,rfl,_,rfl,_,_,rfl,rfl,_,rfl,bC (fun z2=>?_) (fun z2=>?_)⟩
   ·have e4:aF (rd w ((i:Int) - 1))=aF (rd v ((j:Int) - 1)):=by simpa using z2
    rw[<-IE]at e4
    have e5:=eV (lw ((i:Int) - 1)) (hy.lt _ (gy _)) e4
    rw[Al (f:=sq w i) e5]at q1
    exact q1
   ·have e4:sq w i (-1)≠wq v j false (-1):=fun g=>z2 (by
     have g2:aF (rd w ((i:Int) - 1))=aF (rd v ((j:Int) - 1)):=by rw[<-IE, <-g];rfl
     simp[g2])
    rw[Am e3 e4]at q1
    have dl:ff (sq w i) (wq v j false) (w.length+v.length) 0<=w.length+v.length:=by have:=(cQ (sq w i) (wq v j false) (w.length+v.length) 0).2.1;omega
    rw[e1]
    generalize ff (sq w i) (wq v j false) (w.length+v.length) 0=m at q1 dl e2 ⊢
    refine ⟨_,rfl,_,rfl,_,rfl,_,_,rfl,rfl,v,_,rfl,hv.ne,by omega,?_⟩
    refine ⟨_,rfl,_,rfl,?_⟩
    refine lX ?_
    refine ⟨_,rfl,_,rfl,_,rfl,_,_,rfl,rfl,_,_,rfl,rfl,w,_,rfl,hw.ne,by omega,_,rfl,lw _,?_⟩
    refine ⟨_,rfl,_,rfl,_,rfl,_,rfl,_,rfl,w,_,rfl,hw.ne,by omega,y,_,_,_,rfl,hy.nd,hy.cl _ (hw.rd _),by rw[<-IE];exact hy.cl _ (gy _),hw.rd _,by omega,?_⟩
    refine ⟨_,rfl,_,rfl,_,rfl,_,rfl,_,rfl,_,rfl,_,_,rfl,rfl,w,_,rfl,hw.ne,by omega,_,rfl,_,rfl,y,_,_,_,rfl,hy.nd,hw.rd _,gy m,hy.cl _ (hw.rd _),by omega,?_⟩
    have f0:sq w i 0=rd w i:=by unfold sq;rw[Qbp]
    have f1:sq w i ((m:Int) - 1)=rd w ((i:Int)+m - 1):=by unfold sq;congr 1;omega
    rw[f0,f1,IE]at q1
    refine ⟨_,_,rfl,rfl,?_⟩
    refine .inr ⟨_,rfl,_,_,rfl,rfl, .inl ⟨by omega,by omega⟩,?_⟩
    have e6: ∀(a b:Bool),((m:Int)*(if decide (a=b) then 1 else 0))=(((if a=b then m else 0:Nat)):Int):=fun a b=>by
     by_cases g:a=b
     ·rw[if_pos (decide_eq_true g),if_pos g];omega
     ·rw[if_neg (fun z=>g (of_decide_eq_true z)),if_neg g];omega
    rw[<-e6]at q1
    exact q1
 | true=>
  refine ⟨_,rfl,?_⟩
  refine vv ?_
  refine ⟨_,rfl,_,rfl,_,_,rfl,rfl,v,_,rfl,hv.ne,by omega,?_⟩
  have IE:aF (wq v j true (-1))=rd v ((j:Int)+1):=by show aF (aF (rd v ((j:Int) - -1)))=_;rw[aR (lv _)];congr 1
  refine ⟨_,rfl,_,_,rfl,rfl,_,rfl,bC (fun z=>?_) (fun z=>?_)⟩
  ·have GY: ¬0<xu (sq w i) (wq v j true) (w.length+v.length):=by have:=of_decide_eq_true z;omega
   refine vv ?_
   rw[Ak GY QB]at q1
   exact q1
  ·have GY:0<xu (sq w i) (wq v j true) (w.length+v.length):=by
    by_cases g:0<xu (sq w i) (wq v j true) (w.length+v.length)
    ·exact g
    ·exact absurd (decide_eq_true (by omega)) z
   obtain ⟨e1,e2,e3⟩:=Aj (y:=y) GY
   refine ⟨_,rfl,_,rfl,_,_,rfl,rfl,_,rfl,bC (fun z2=>?_) (fun z2=>?_)⟩
   ·have e4:aF (rd w ((i:Int) - 1))=rd v ((j:Int)+1):=by simpa using z2
    rw[<-IE]at e4
    have e5:=eV (lw ((i:Int) - 1)) (hy.lt _ (gy _)) e4
    rw[Al (f:=sq w i) e5]at q1
    exact q1
   ·have e4:sq w i (-1)≠wq v j true (-1):=fun g=>z2 (by
     have g2:aF (rd w ((i:Int) - 1))=rd v ((j:Int)+1):=by rw[<-IE, <-g];rfl
     simp[g2])
    rw[Am e3 e4]at q1
    have dl:ff (sq w i) (wq v j true) (w.length+v.length) 0<=w.length+v.length:=by have:=(cQ (sq w i) (wq v j true) (w.length+v.length) 0).2.1;omega
    rw[e1]
    generalize ff (sq w i) (wq v j true) (w.length+v.length) 0=m at q1 dl e2 ⊢
    refine ⟨_,rfl,_,rfl,_,rfl,_,_,rfl,rfl,v,_,rfl,hv.ne,by omega,?_⟩
    refine ⟨_,rfl,_,rfl,?_⟩
    refine vv ?_
    refine ⟨_,rfl,_,rfl,_,rfl,_,_,rfl,rfl,v,_,rfl,hv.ne,by omega,_,rfl,lv _,?_⟩
    refine ⟨_,rfl,_,rfl,_,rfl,_,_,rfl,rfl,_,_,rfl,rfl,w,_,rfl,hw.ne,by omega,_,rfl,lw _,?_⟩
    refine ⟨_,rfl,_,rfl,_,rfl,_,rfl,_,rfl,w,_,rfl,hw.ne,by omega,y,_,_,_,rfl,hy.nd,hy.cl _ (hw.rd _),by rw[<-IE];exact hy.cl _ (gy _),hw.rd _,by omega,?_⟩
    refine ⟨_,rfl,_,rfl,_,rfl,_,rfl,_,rfl,_,rfl,_,_,rfl,rfl,w,_,rfl,hw.ne,by omega,_,rfl,_,rfl,y,_,_,_,rfl,hy.nd,hw.rd _,gy m,hy.cl _ (hw.rd _),by omega,?_⟩
    have f0:sq w i 0=rd w i:=by unfold sq;rw[Qbp]
    have f1:sq w i ((m:Int) - 1)=rd w ((i:Int)+m - 1):=by unfold sq;congr 1;omega
    rw[f0,f1,IE]at q1
    refine ⟨_,_,rfl,rfl,?_⟩
    refine .inr ⟨_,rfl,_,_,rfl,rfl, .inl ⟨by omega,by omega⟩,?_⟩
    have e6: ∀(a b:Bool),((m:Int)*(if decide (a=b) then 1 else 0))=(((if a=b then m else 0:Nat)):Int):=fun a b=>by
     by_cases g:a=b
     ·rw[if_pos (decide_eq_true g),if_pos g];omega
     ·rw[if_neg (fun z=>g (of_decide_eq_true z)),if_neg g];omega
    rw[<-e6]at q1
    exact q1
theorem qj:bA P w K mg base eF 4 Nk N1 ["_law_yard_here","_law_words_here"] (ph K):=by
 have CA:=zr (P:=P) (w:=w) (base:=base) T
 have sI:=zu (P:=P) (w:=w) (base:=base) T
 refine T.LY.fn.ok bK (fun vs H Q E h=>wj h) (fun cn A outer s H vs Q E hr h=>?_)
 refine ⟨_,(ag (aq (i:=2) bK.nd rfl (Or.inl rfl) (dq ae))
   (ag (aq (i:=3) bK.nd rfl (Or.inl rfl) (dq ae))
   (ag (bT PassesOwn.never rfl (oT K rfl rfl T.z_enumerate (aa (pv 1) ae)) (fN (n:=2) K rfl rfl (bI (aK (i:=4) bK.nd rfl (Or.inr rfl)) (bI (aK (i:=5) bK.nd rfl (Or.inl rfl)) fJ))) (ai (cj (bz K rfl ZK PySem.F.slot_list_extend PySem.F.type_list_extend Bn (pv 3) (aa (cu ["_law_i","_law_c"] [none,some 4] (eJ rfl T.z_range (aa (aB aI rfl T.z_len WG (aa (pv 5) ae)) ae)) ⟨⟨rfl,rfl,by first | exact .inl rfl | exact .inr rfl⟩,trivial⟩ (fun _ _ _ _=>(aK (i:=0) (by decide+kernel:List.Nodup (["_law_i","_law_c"]:List Str)) rfl (Or.inl rfl))) (fun _ _ _ _=>gA) (fun _ _ _ _=>(bD (aa (pv 1) (aa (pv 0) ae))))) ae)))))
   (ag (bT PassesOwn.never rfl (dW K rfl (pv 3)) (fN (n:=2) K rfl rfl (bI (aK (i:=4) bK.nd rfl (Or.inr rfl)) (bI (aK (i:=6) bK.nd rfl (Or.inl rfl)) fJ))) (ai (bT PassesOwn.never rfl (dW K rfl (pv 3)) (fN (n:=2) K rfl rfl (bI (aK (i:=7) bK.nd rfl (Or.inl rfl)) (bI (aK (i:=8) bK.nd rfl (Or.inl rfl)) fJ))) (ag (xH (i:=9) (j:=10) rfl bK.nd rfl rfl (by decide) rfl rfl (aa (aT (bp K rfl) (pv 1) (pv 4) (fun _ _=>rfl)) (aa (aT (bp K rfl) (pv 1) (pv 7) (fun _ _=>rfl)) ae)) rfl)
   (gk (bF (PW.pt (fu (aG (tM K rfl hr) (bD (aa (pv 4) (aa (pv 6) ae))) (bD (aa (pv 7) (aa (pv 8) ae))) (aL _)) (dR (eI (ak CA (hr.mono (by decide)) rfl T.Rx.mg T.Rx.fn.kp T.Rx.bd .nil az (aa (pv 0) (aa (pv 9) (aa (pv 6) (aa (pv 10) (aa (pv 8) ae)))))))))) (ai (cj (bz K rfl ZK Z9 Z8 cq (pv 2) (aa (bD (aa (pv 4) (aa (pv 6) (aa (pv 7) (aa (pv 8) (aa aj (aa (j8 [97,99,114,111,115,115] (by decide+kernel)) ae))))))) ae)))) aV)
   (ag (aq (i:=11) bK.nd rfl (Or.inl rfl) (ak sI (hr.mono (by decide)) rfl T.LX.mg T.LX.fn.kp T.LX.bd .nil az (aa (pv 0) (aa (pv 9) (aa (pv 6) (aa (pv 10) (aa (pv 8) (aa oq ae))))))))
   (gk (bF (PW.pt (fu (aG (tM K rfl hr) (bD (aa (pv 4) (aa (pv 6) ae))) (bD (aa (pv 7) (aa (pv 8) ae))) (aL _)) (dR (aG mW (pv 11) aj (aL _))))) (ai (cj (bz K rfl ZK Z9 Z8 cq (pv 2) (aa (bD (aa (pv 4) (aa (pv 6) (aa (pv 7) (aa (pv 8) (aa (pv 11) (aa (j8 [97,108,111,110,103] (by decide+kernel)) ae))))))) ae)))) aV)
   (ag (aq (i:=11) bK.nd rfl (Or.inl rfl) (ak sI (hr.mono (by decide)) rfl T.LX.mg T.LX.fn.kp T.LX.bd .nil az (aa (pv 0) (aa (pv 9) (aa (pv 6) (aa (pv 10) (aa (pv 8) (aa oq ae))))))))
   (ag (aq (i:=12) bK.nd rfl (Or.inl rfl) (bD (aa (aA dm (aA aU (aA bN (pv 8) (pv 11)) aj) (aB aI rfl T.z_len WG (aa (pv 10) ae))) (aa (aA dm (aA bN (aA aU (pv 6) (pv 11)) aj) (aB aI rfl T.z_len WG (aa (pv 9) ae))) ae))))
   (ai (bF (PW.pt (fu (aG mW (pv 11) aj (aL _)) (dR (PW.pt (zK (aG gN (pv 4) (pv 7) (aL _)) (sQ (PW.pt (fu (aG fV (pv 4) (pv 7) (aL _)) (dR (aG (tM K rfl hr) (bD (aa (pv 6) (aa (pv 8) ae))) (pv 12) (aL _))))))))))) (ai (cj (bz K rfl ZK Z9 Z8 cq (pv 2) (aa (bD (aa (pv 4) (aa (pv 6) (aa (pv 7) (aa (pv 8) (aa (pv 11) (aa (j8 [97,103,97,105,110,115,116] (by decide+kernel)) ae))))))) ae)))) aV)))))))))))
   (ai (aE (aB (tR K rfl) rfl T.z_sorted boot_sorted (aa (pv 2) ae)))))))),?_⟩
 obtain ⟨y,wt,ws,rfl,hy,hz,ok,hw,q⟩:=h
 have hs:(100000:Nat)<sizeLine:=by decide
 have Ue: ∀w∈ws,SW y w:=fun w h=>(ok.sw w h).1
 have Bl:=ok.uY
 have O8:=ok.all
 have Uc: ∀n,n<=ws.length->(o9 ws n).length<=n*12:=kX fun w h=>(ok.sw w h).2
 walk_at "wk"
 intro t nt
 walk_at "wk"
 intro u nu
 have tu:t≠u:=fun z=>by rw[<-z,ah]at nu;cases nu
 have RE:H u=none:=ao.free (ao.upd nt) nu
 have s0:=(ao.upd (o:= .lst []) nt).trans (ao.upd (o:= .lst []) nu)
 have Oa:upd (upd H t (.lst [])) u (.lst []) t=some (.lst (h_ [])):=by rw[ay tu,ah];rfl
 have MK:upd (upd H t (.lst [])) u (.lst []) u=some (.lst (o_ [])):=ah
 have IA:=s0 _ _ hw
 generalize upd (upd H t (.lst [])) u (.lst [])=H0 at s0 Oa MK IA ⊢
 have wu:wt≠u:=fun z=>by rw[z,MK]at IA;cases IA
 refine ⟨_,rfl,wt,rfl,⟨_,bV.of IA⟩,?_⟩
 refine me (K:=K) (a:=wt) (xs:=gL ws) (fun n σ H'=> ∃(ps:List Sd) (cv wv:Option V),σ=[some (.str (S y)),some (.ref wt),some (.ref t),some (.ref u),cv,wv,none,none,none,none,none,none,none]/\H' u=some (.lst (o_ ps))/\Jz H' ps/\ps.map Sd.pair=o9 ws n/\aN u H0 H')
  ⟨[],none,none,rfl,MK,fun _ h=>absurd h Zw,rfl,aN.refl _ _⟩ (fun n σ H' _ ⟨_,_,_,_,_,_,_,s⟩=>bV.of (s _ _ IA wu)) ?_ ?_
 ·rintro n x σ H1 T hx ⟨ps,cv,wv,rfl,HK,uS,j4,s1⟩ nT
  have hn:n<ws.length:=by
   have:=(Kx.mp hx).1
   rwa [bM]at this
  rw[getD_at hn]at hx
  cases hx
  have lR:=(ok.sw _ (getD_in hn)).2
  have sT:=ao.upd (o:= .tup [.int n, .str (S (ws.getD n []))]) nT
  refine ⟨T,_,rfl,bV.of ah,rfl,_,_,rfl,_,_,rfl,rfl,?_⟩
  generalize upd H1 T (.tup [.int n, .str (S (ws.getD n []))])=H2 at sT ⊢
  have Ug:=sT _ _ HK
  refine ⟨_,rfl, .inl ⟨rfl,_,br.of Ug⟩,_,rfl,ws.getD n [],rfl,by omega,_,rfl,by omega,by omega,?_⟩
  rw[WB]
  refine vA (fun k acc H'=>ao H2 H'/\ ∃us:List Sd,acc=o_ us/\Jz H' us/\us.map Sd.pair=(List.range k).map fun i=>(n,i)) (by omega) ⟨ao.refl _,[],rfl,fun _ h=>absurd h Zw,rfl⟩ ?_ ?_
  ·rintro k acc H3 Nx hk qf ⟨s3,us,rfl,xp,u_⟩ nx
   refine ⟨⟨rfl,trivial⟩,eW ?_⟩
   refine ⟨_,rfl,_,rfl,by show 2<=sizeLine;decide,fun r nr=>?_⟩
   rw[Qa7]
   refine nx _ _ (by simpa using qf) ⟨s3.trans (ao.upd nr),us++[⟨r,n,k⟩],Ef us ⟨r,n,k⟩,fun p hp=>?_,by rw[WC,u_,Qag,WC];rfl⟩
   rcases Zz.mp hp with g | g
   ·exact (ao.upd nr) _ _ (xp p g)
   ·rw[UZ.mp g];exact ah
  ·rintro acc H3 D qf ⟨s3,us,rfl,xp,u_⟩ hD
   have sD:=s3.trans (ao.upd (o:= .lst (o_ us)) hD)
   have Cs:us.length=(ws.getD n []).length:=by
    have:=congrArg List.length u_
    rwa [UX,UX,Qcj]at this
   have X7:ps.length=(o9 ws n).length:=by rw[<-j4,UX]
   have:=Uc n (by omega)
   refine ⟨u,D,o_ ps,o_ us,rfl,rfl,sD _ _ Ug,ah,by rw[kW,kW];omega,?_⟩
   have VQ:ba (upd H3 D (.lst (o_ us))) (upd (upd H3 D (.lst (o_ us))) u (.lst (o_ ps++o_ us))):=ba.yr (sD _ _ Ug)
   refine ⟨ps++us,_,_,rfl,by rw[ah,HI],fun p hp=>?_,?_,fun a o e z=>by rw[ay z];exact sD _ _ (sT _ _ (s1 a o e z))⟩
   ·rcases Zz.mp hp with g | g
    ·exact VQ _ _ (sD _ _ (sT _ _ (uS p g)))
    ·exact VQ _ _ ((ao.upd hD) _ _ (xp p g))
   ·rw[WC,j4,u_]
    rfl
 rintro σ H3 ⟨ps,cv,wv,rfl,Gz,uS,j4,s3⟩
 rw[bM]at j4
 have j4:ps.map Sd.pair=places ws:=j4
 have JA:=s3 _ _ Oa tu
 have VR:=s3 _ _ IA wu
 have jt:ps.length=(places ws).length:=by rw[<-j4,UX]
 have Gx:ao H H3:=fun a o e=>s3 _ _ (s0 a o e) (ar e RE)
 clear s3 MK Oa IA s0
 refine ⟨_,rfl,u,rfl,⟨_,br.of Gz⟩,?_⟩
 refine gM (K:=K) (a:=u) (xs:=o_ ps) (fun n σ H'=> ∃(L:List Fa) (v4 v5 v6 v7 v8 v9 va vb vc:Option V),σ=[some (.str (S y)),some (.ref wt),some (.ref t),some (.ref u),v4,v5,v6,v7,v8,v9,va,vb,vc]/\H' t=some (.lst (h_ L))/\cZ H' L/\L.map Fa.x=((places ws).take n).flatMap (fun o=>(places ws).flatMap fun p=>gn y ws o p)/\L.length<=72*n/\aN t H3 H')
  ⟨[],_,_,_,_,_,_,_,_,_,rfl,JA,cZ.nil _,rfl,Y6 _,aN.refl _ _⟩ (fun n σ H' _ ⟨_,_,_,_,_,_,_,_,_,_,_,_,_,_,_,s⟩=>br.of (s _ _ Gz (Ne.symm tu))) ?_ ?_
 ·rintro n x σ H4 hx ⟨L,v4,v5,v6,v7,v8,v9,va,vb,vc,rfl,Cu,RL,Ob,Qw,s4⟩
  obtain ⟨o,ho,rfl⟩:=Eg hx
  have hn:n<ps.length:=(Kx.mp ho).1
  have VS:(places ws)[n]? =some (o.c,o.i):=by rw[<-j4,ZA,ho];rfl
  obtain ⟨o1,o2⟩:=wB (Zx VS)
  have X8:=uS o (Zx ho)
  have X9:=aN.ts JA s4
  refine ⟨o.t,_,rfl,bV.of (X9 _ _ X8),rfl,_,_,rfl,_,_,rfl,rfl,?_⟩
  refine ⟨_,rfl,u,rfl,⟨_,br.of (s4 _ _ Gz (Ne.symm tu))⟩,?_⟩
  refine gM (K:=K) (a:=u) (xs:=o_ ps) (fun k σ H'=> ∃(L:List Fa) (v7 v8 v9 va vb vc:Option V),σ=[some (.str (S y)),some (.ref wt),some (.ref t),some (.ref u),some (.int o.c),v5,some (.int o.i),v7,v8,v9,va,vb,vc]/\H' t=some (.lst (h_ L))/\cZ H' L/\L.map Fa.x=((places ws).take n).flatMap (fun o=>(places ws).flatMap fun p=>gn y ws o p)++((places ws).take k).flatMap (fun p=>gn y ws (o.c,o.i) p)/\L.length<=72*n+3*k/\aN t H3 H')
   ⟨L,_,_,_,_,_,_,rfl,Cu,RL,by rw[Ob];simp,by omega,s4⟩ (fun n σ H' _ ⟨_,_,_,_,_,_,_,_,_,_,_,_,s⟩=>br.of (s _ _ Gz (Ne.symm tu))) ?_ ?_
  ·rintro k x σ H5 hx ⟨L5,w7,w8,w9,wa,wb,wc,rfl,CB,Oc,CP,VT,s5⟩
   obtain ⟨p,hp,rfl⟩:=Eg hx
   have hk:k<ps.length:=(Kx.mp hp).1
   have oW:(places ws)[k]? =some (p.c,p.i):=by rw[<-j4,ZA,hp];rfl
   obtain ⟨p1,p2⟩:=wB (Zx oW)
   have X_:=uS p (Zx hp)
   have RM:=aN.ts JA s5
   obtain ⟨sw,wz⟩:=ok.sw _ (getD_in o1)
   obtain ⟨sv,vz⟩:=ok.sw _ (getD_in p1)
   refine ⟨p.t,_,rfl,bV.of (RM _ _ X_),rfl,_,_,rfl,_,_,rfl,rfl,?_⟩
   refine ⟨_,rfl,_,rfl,wt,_,_,_,rfl,rfl,bV.of (RM _ _ VR),b8 (getD_at o1),_,rfl,_,rfl,wt,_,_,_,rfl,rfl,bV.of (RM _ _ VR),b8 (getD_at p1),_,_,rfl,?_⟩
   have Ya:=HE (ws:=ws) (o:=(o.c,o.i)) (p:=(p.c,p.i)) hy sw
   have goal: ∀(Z:List Fm),Z=Ld y (ws.getD o.c []) (ws.getD p.c []) o.c o.i p.c p.i->((places ws).take n).flatMap (fun o=>(places ws).flatMap fun p=>gn y ws o p)++((places ws).take k).flatMap (fun p=>gn y ws (o.c,o.i) p)++Z=((places ws).take n).flatMap (fun o=>(places ws).flatMap fun p=>gn y ws o p)++((places ws).take (k+1)).flatMap (fun p=>gn y ws (o.c,o.i) p):=fun Z e=>by
    rw[rR _ oW,Qat,e,Ya]
   generalize ((places ws).take n).flatMap (fun o=>(places ws).flatMap fun p=>gn y ws o p)++((places ws).take k).flatMap (fun p=>gn y ws (o.c,o.i) p)=B5 at CP goal
   refine ⟨fun σ' H'=>σ'=[some (.str (S y)),some (.ref wt),some (.ref t),some (.ref u),some (.int o.c),v5,some (.int o.i),some (.int p.c),some (.int p.i),some (.str (S (ws.getD o.c []))),some (.str (S (ws.getD p.c []))),wb,wc]/\ ∃L1:List Fa,H' t=some (.lst (h_ L1))/\cZ H' L1/\L1.map Fa.x=B5++(if iZ o.c o.i p.c p.i=true/\Hy y (ws.getD o.c []) (ws.getD p.c []) o.i p.i=true then [⟨o.c,o.i,p.c,p.i,0,jw⟩] else [])/\L1.length<=L5.length+1/\aN t H3 H',?_,?_⟩
   ·refine ⟨_,rfl,_,rfl,by show 2<=sizeLine;decide,fun a1 n1=>?_⟩
    refine ⟨_,rfl,_,rfl,by show 2<=sizeLine;decide,fun a2 n2=>?_⟩
    have sa:=(ao.upd (o:= .tup [.int o.c, .int o.i]) n1).trans (ao.upd (o:= .tup [.int p.c, .int p.i]) n2)
    refine ⟨a1,a2,_,_,_,_,rfl,rfl,bV.of ((ao.upd n2) _ _ ah),bV.of ah,_,rfl,bC (fun z=>?_) (fun z=>?_)⟩
    ·refine ⟨_,rfl,_,rfl,_,rfl,_,rfl,_,rfl,y,_,o.i,_,p.i,rfl,hy,hz,sw,sv,wz,vz,o2,p2,fun H6 s6=>?_⟩
     have sb:=sa.trans s6
     refine ⟨_,rfl,bC (fun z2=>?_) (fun z2=>?_)⟩
     ·refine ⟨_,rfl, .inl ⟨rfl,_,br.of (sb _ _ CB)⟩,_,rfl,_,rfl,_,rfl,_,rfl,by show 6<=sizeLine;decide,fun a3 n3=>?_⟩
      refine ⟨t,h_ L5,_,rfl,rfl,(ao.upd n3) _ _ (sb _ _ CB),by rw[fO];omega,?_⟩
      obtain ⟨k1,k2,k3,k4⟩:=ua (x:=⟨o.c,o.i,p.c,p.i,0,jw⟩) CB Oc sb n3
      refine ⟨rfl,_,k4,k1,by rw[WC,CP,if_pos ⟨z,z2⟩];rfl,by simp,fun a ob e zt=>?_⟩
      have:=(ao.upd (o:= .tup (xt ⟨o.c,o.i,p.c,p.i,0,jw⟩)) n3) _ _ (sb _ _ (s5 a ob e zt))
      rw[<-this]
      exact ay zt
     ·exact ⟨rfl,L5,sb _ _ CB,Oc.ts (ba.of sb),by rw[CP,if_neg (fun g=>z2 g.2),Z3],by omega,fun a ob e zt=>sb _ _ (s5 a ob e zt)⟩
    ·refine lX ?_
     exact ⟨rfl,L5,sa _ _ CB,Oc.ts (ba.of sa),by rw[CP,if_neg (fun g=>z g.1),Z3],by omega,fun a ob e zt=>sa _ _ (s5 a ob e zt)⟩
   rintro σ6 H6 ⟨rfl,L6,FT,VU,Uh,Zi,s6⟩
   refine ⟨_,rfl,_,rfl,_,rfl,_,rfl,_,rfl,y,_,o.i,_,p.i,false,rfl,hy,hz,sw,sv,wz,vz,fun H7 s7=>?_⟩
   have Oe:=s7 _ _ FT
   have RN:=VU.ts (ba.of s7)
   have RO:aN t H3 H7:=s6.after s7
   clear CP Oc CB s5 RM FT VU s6 s7
   refine ⟨fun σ' H'=>σ'=[some (.str (S y)),some (.ref wt),some (.ref t),some (.ref u),some (.int o.c),v5,some (.int o.i),some (.int p.c),some (.int p.i),some (.str (S (ws.getD o.c []))),some (.str (S (ws.getD p.c []))),some (.int (u5 y (ws.getD o.c []) (ws.getD p.c []) o.i p.i)),wc]/\ ∃L1:List Fa,H' t=some (.lst (h_ L1))/\cZ H' L1/\L1.map Fa.x=B5++(if iZ o.c o.i p.c p.i=true/\Hy y (ws.getD o.c []) (ws.getD p.c []) o.i p.i=true then [⟨o.c,o.i,p.c,p.i,0,jw⟩] else [])++(if iZ o.c o.i p.c p.i=true/\0<u5 y (ws.getD o.c []) (ws.getD p.c []) o.i p.i then [⟨o.c,o.i,p.c,p.i,u5 y (ws.getD o.c []) (ws.getD p.c []) o.i p.i,o8⟩] else [])/\L1.length<=L5.length+2/\aN t H3 H',?_,?_⟩
   ·refine ⟨_,rfl,_,rfl,by show 2<=sizeLine;decide,fun a1 n1=>?_⟩
    refine ⟨_,rfl,_,rfl,by show 2<=sizeLine;decide,fun a2 n2=>?_⟩
    have sa:=(ao.upd (o:= .tup [.int o.c, .int o.i]) n1).trans (ao.upd (o:= .tup [.int p.c, .int p.i]) n2)
    refine ⟨a1,a2,_,_,_,_,rfl,rfl,bV.of ((ao.upd n2) _ _ ah),bV.of ah,_,rfl,bC (fun z=>?_) (fun z=>?_)⟩
    ·refine ⟨_,rfl,_,_,rfl,rfl,_,rfl,bC (fun z2=>?_) (fun z2=>?_)⟩
     ·have hm:0<u5 y (ws.getD o.c []) (ws.getD p.c []) o.i p.i:=Qbo.mp (of_decide_eq_true z2)
      refine ⟨_,rfl, .inl ⟨rfl,_,br.of (sa _ _ Oe)⟩,_,rfl,_,rfl,_,rfl,_,rfl,_,rfl,by show 6<=sizeLine;decide,fun a3 n3=>?_⟩
      refine ⟨t,h_ L6,_,rfl,rfl,(ao.upd n3) _ _ (sa _ _ Oe),by rw[fO];omega,?_⟩
      obtain ⟨k1,k2,k3,k4⟩:=ua (x:=⟨o.c,o.i,p.c,p.i,u5 y (ws.getD o.c []) (ws.getD p.c []) o.i p.i,o8⟩) Oe RN sa n3
      refine ⟨rfl,_,k4,k1,by rw[WC,Uh,if_pos (⟨z,hm⟩:_/\0<u5 y (ws.getD o.c []) (ws.getD p.c []) o.i p.i)];rfl,by simp;omega,fun a ob e zt=>?_⟩
      have:=(ao.upd (o:= .tup (xt ⟨o.c,o.i,p.c,p.i,u5 y (ws.getD o.c []) (ws.getD p.c []) o.i p.i,o8⟩)) n3) _ _ (sa _ _ (RO a ob e zt))
      rw[<-this]
      exact ay zt
     ·have hm: ¬0<u5 y (ws.getD o.c []) (ws.getD p.c []) o.i p.i:=fun g=>z2 (decide_eq_true (Qbo.mpr g))
      exact ⟨rfl,L6,sa _ _ Oe,RN.ts (ba.of sa),by rw[Uh,if_neg (fun g:_/\0<u5 y (ws.getD o.c []) (ws.getD p.c []) o.i p.i=>hm g.2),Z3],by omega,fun a ob e zt=>sa _ _ (RO a ob e zt)⟩
    ·refine lX ?_
     exact ⟨rfl,L6,sa _ _ Oe,RN.ts (ba.of sa),by rw[Uh,if_neg (fun g:_/\0<u5 y (ws.getD o.c []) (ws.getD p.c []) o.i p.i=>z g.1),Z3],by omega,fun a ob e zt=>sa _ _ (RO a ob e zt)⟩
   rintro σ8 H8 ⟨rfl,L8,Yb,Yc,VV,Zj,s8⟩
   clear Oe RN RO
   refine ⟨_,rfl,_,rfl,_,rfl,_,rfl,_,rfl,y,_,o.i,_,p.i,true,rfl,hy,hz,sw,sv,wz,vz,fun H9 s9=>?_⟩
   have pw:(0:Int)<((ws.getD o.c []).length:Int):=by omega
   have pv:(0:Int)<((ws.getD p.c []).length:Int):=by omega
   have Ye:al y (sq (ws.getD o.c []) o.i) (wq (ws.getD p.c []) p.i true) ((ws.getD o.c []).length+(ws.getD p.c []).length)=cX y (ws.getD o.c []) (ws.getD p.c []) o.i p.i:=rfl
   rw[Ye]
   have mz:cX y (ws.getD o.c []) (ws.getD p.c []) o.i p.i<=(ws.getD o.c []).length+(ws.getD p.c []).length:=Qe _ _ _ _
   refine ⟨_,rfl,_,rfl,_,_,rfl,rfl,_,_,rfl,rfl,_,rfl,(ws.getD p.c []),rfl,by omega,_,_,rfl,rfl,pv,?_⟩
   refine ⟨_,rfl,_,rfl,_,_,rfl,rfl,_,_,rfl,rfl,_,rfl,(ws.getD o.c []),rfl,by omega,_,_,rfl,rfl,pw,by show 2<=sizeLine;decide,fun th Yf=>?_⟩
   have RP:=s9.trans (ao.upd (o:= .tup [.int (((p.i:Int) - (cX y (ws.getD o.c []) (ws.getD p.c []) o.i p.i:Nat)+1)%(ws.getD p.c []).length), .int (((o.i:Int)+(cX y (ws.getD o.c []) (ws.getD p.c []) o.i p.i:Nat) - 1)%(ws.getD o.c []).length)]) Yf)
   have VW:upd H9 th (.tup [.int (((p.i:Int) - (cX y (ws.getD o.c []) (ws.getD p.c []) o.i p.i:Nat)+1)%(ws.getD p.c []).length), .int (((o.i:Int)+(cX y (ws.getD o.c []) (ws.getD p.c []) o.i p.i:Nat) - 1)%(ws.getD o.c []).length)]) th=some (.tup [.int (((p.i:Int) - (cX y (ws.getD o.c []) (ws.getD p.c []) o.i p.i:Nat)+1)%(ws.getD p.c []).length), .int (((o.i:Int)+(cX y (ws.getD o.c []) (ws.getD p.c []) o.i p.i:Nat) - 1)%(ws.getD o.c []).length)]):=ah
   generalize upd H9 th (.tup [.int (((p.i:Int) - (cX y (ws.getD o.c []) (ws.getD p.c []) o.i p.i:Nat)+1)%(ws.getD p.c []).length), .int (((o.i:Int)+(cX y (ws.getD o.c []) (ws.getD p.c []) o.i p.i:Nat) - 1)%(ws.getD o.c []).length)])=HA at RP VW ⊢
   have IF:=RP _ _ Yb
   have QC:=Yc.ts (ba.of RP)
   have QD:aN t H3 HA:=s8.after RP
   have Ui: ¬(0<cX y (ws.getD o.c []) (ws.getD p.c []) o.i p.i/\(o.c<p.c\/(o.c=p.c/\iZ o.i p.i (((p.i:Int) - cX y (ws.getD o.c []) (ws.getD p.c []) o.i p.i+1)%(ws.getD p.c []).length) (((o.i:Int)+cX y (ws.getD o.c []) (ws.getD p.c []) o.i p.i - 1)%(ws.getD o.c []).length)=true)))->L8.map Fa.x=B5++Ld y (ws.getD o.c []) (ws.getD p.c []) o.c o.i p.c p.i:=fun hn=>by
    rw[VV];unfold Ld;rw[if_neg hn,Z3,Qat]
   have QE:(0<cX y (ws.getD o.c []) (ws.getD p.c []) o.i p.i/\(o.c<p.c\/(o.c=p.c/\iZ o.i p.i (((p.i:Int) - cX y (ws.getD o.c []) (ws.getD p.c []) o.i p.i+1)%(ws.getD p.c []).length) (((o.i:Int)+cX y (ws.getD o.c []) (ws.getD p.c []) o.i p.i - 1)%(ws.getD o.c []).length)=true)))-> ∀a3,(L8++[(⟨a3,⟨o.c,o.i,p.c,p.i,cX y (ws.getD o.c []) (ws.getD p.c []) o.i p.i,fg⟩⟩:Fa)]).map Fa.x=B5++Ld y (ws.getD o.c []) (ws.getD p.c []) o.c o.i p.c p.i:=fun hn a3=>by
    rw[WC,VV];unfold Ld;rw[if_pos hn];simp only[Qat];rfl
   refine ⟨_,rfl,_,_,rfl,rfl,_,rfl,bC (fun z=>?_) (fun z=>?_)⟩
   ·have hm:0<cX y (ws.getD o.c []) (ws.getD p.c []) o.i p.i:=Qbo.mp (of_decide_eq_true z)
    refine ⟨_,rfl,_,rfl,_,_,rfl,rfl,_,rfl,bC (fun z1=>?_) (fun z1=>?_)⟩
    ·have lL:o.c<p.c:=Qbo.mp (of_decide_eq_true z1)
     refine vv ?_
     refine ⟨_,rfl, .inl ⟨rfl,_,br.of IF⟩,_,rfl,_,rfl,_,rfl,_,rfl,_,rfl,by show 6<=sizeLine;decide,fun a3 n3=>?_⟩
     refine ⟨t,h_ L8,_,rfl,rfl,(ao.upd n3) _ _ IF,by rw[fO];omega,?_⟩
     obtain ⟨k1,k2,k3,k4⟩:=ua (x:=⟨o.c,o.i,p.c,p.i,cX y (ws.getD o.c []) (ws.getD p.c []) o.i p.i,fg⟩) IF QC (ao.refl _) n3
     refine ⟨_,_,_,_,_,_,_,rfl,k4,k1,(QE ⟨hm, .inl lL⟩ a3).trans (goal _ rfl),by simp;omega,fun a ob e zt=>?_⟩
     have:=(ao.upd (o:= .tup (xt ⟨o.c,o.i,p.c,p.i,cX y (ws.getD o.c []) (ws.getD p.c []) o.i p.i,fg⟩)) n3) _ _ (QD a ob e zt)
     rw[<-this]
     exact ay zt
    ·have lL: ¬o.c<p.c:=fun g=>z1 (decide_eq_true (Qbo.mpr g))
     refine ⟨_,rfl,_,rfl,_,_,rfl,rfl,_,rfl,bC (fun z2=>?_) (fun z2=>?_)⟩
     ·have Uj:o.c=p.c:=by have:=of_decide_eq_true z2;omega
      refine ⟨_,rfl,_,rfl,by show 2<=sizeLine;decide,fun r nr=>?_⟩
      have sr:=ao.upd (o:= .tup [.int o.i, .int p.i]) nr
      refine ⟨_,rfl,r,th,_,_,_,_,rfl,rfl,bV.of ah,bV.of (sr _ _ VW),_,rfl,bC (fun z3=>?_) (fun z3=>?_)⟩
      ·refine ⟨_,rfl, .inl ⟨rfl,_,br.of (sr _ _ IF)⟩,_,rfl,_,rfl,_,rfl,_,rfl,_,rfl,by show 6<=sizeLine;decide,fun a3 n3=>?_⟩
       refine ⟨t,h_ L8,_,rfl,rfl,(ao.upd n3) _ _ (sr _ _ IF),by rw[fO];omega,?_⟩
       obtain ⟨k1,k2,k3,k4⟩:=ua (x:=⟨o.c,o.i,p.c,p.i,cX y (ws.getD o.c []) (ws.getD p.c []) o.i p.i,fg⟩) IF QC sr n3
       refine ⟨_,_,_,_,_,_,_,rfl,k4,k1,(QE ⟨hm, .inr ⟨Uj,z3⟩⟩ a3).trans (goal _ rfl),by simp;omega,fun a ob e zt=>?_⟩
       have:=(ao.upd (o:= .tup (xt ⟨o.c,o.i,p.c,p.i,cX y (ws.getD o.c []) (ws.getD p.c []) o.i p.i,fg⟩)) n3) _ _ (sr _ _ (QD a ob e zt))
       rw[<-this]
       exact ay zt
      ·exact ⟨L8,_,_,_,_,_,_,rfl,sr _ _ IF,QC.ts (ba.of sr),(Ui fun g=>g.2.elim lL fun g=>z3 g.2).trans (goal _ rfl),by omega,fun a ob e zt=>sr _ _ (QD a ob e zt)⟩
     ·have Uj: ¬o.c=p.c:=fun g=>z2 (decide_eq_true (by rw[g]))
      refine lX ?_
      exact ⟨L8,_,_,_,_,_,_,rfl,IF,QC,(Ui fun g=>g.2.elim lL fun g=>Uj g.1).trans (goal _ rfl),by omega,QD⟩
   ·have hm: ¬0<cX y (ws.getD o.c []) (ws.getD p.c []) o.i p.i:=fun g=>z (decide_eq_true (Qbo.mpr g))
    refine lX ?_
    exact ⟨L8,_,_,_,_,_,_,rfl,IF,QC,(Ui fun g=>hm g.1).trans (goal _ rfl),by omega,QD⟩
  ·rintro σ H5 ⟨L5,w7,w8,w9,wa,wb,wc,rfl,CB,Oc,CP,VT,s5⟩
   rw[kW,jt,Qad]at CP
   rw[kW]at VT
   refine ⟨L5,_,_,_,_,_,_,_,_,_,rfl,CB,Oc,?_,by omega,s5⟩
   rw[CP,rR _ VS]
 ·rintro σ H4 ⟨L,v4,v5,v6,v7,v8,v9,va,vb,vc,rfl,Cu,RL,Ob,Qw,s4⟩
  rw[kW,jt,Qad]at Ob
  have hx:L.map Fa.x=jM y ws:=Ob
  have IG:ao H H4:=fun a ob e=>s4 _ _ (Gx a ob e) (ar e nt)
  refine ⟨_,rfl,t,h_ L,_,4,rfl, .inl (br.of Cu),JB RL,B7 hy Ue hx,fun r nr=>?_⟩
  exact q r L _ (ao.free IG nr) ah (RL.ts (ba.dY nr)) hx (IG.trans (ao.upd nr))
theorem xk:bA P w K mg base eF 5 Np N5 ["_law_yard_here","_law_one","_law_other_here"] (ng K):=by
 have mU:=qj (P:=P) (w:=w) (base:=base) T
 refine T.RB.fn.ok xc (fun vs H Q E h=>uG h) (fun cn A outer s H vs Q E hr h=>?_)
 refine ⟨_,(ai (aE (aB (aW K rfl) rfl T.z_len WG (aa (cu ["_law_thing"] [none] (dW K rfl (ak mU (hr.mono (by decide)) rfl T.LY.mg T.LY.fn.kp T.LY.bd .nil az (aa (pv 0) (aa (bD (aa (pv 1) (aa (pv 2) ae))) ae)))) trivial (fun _ _ _ _=>(aK (i:=0) (by decide+kernel:List.Nodup (["_law_thing"]:List Str)) rfl (Or.inl rfl))) (fun _ _ _ _=>(x8 (aG gN (aT (bp K rfl) (pv 0) aj (fun _ _=>rfl)) (aT (bp K rfl) (pv 0) aj (fun _ _=>rfl)) (aL _)))) (fun _ _ _ _=>(pv 0))) ae)))),?_⟩
 obtain ⟨y,w',v,rfl,hy,hz,hw,lR,hv,Uk,q⟩:=h
 have hs:(100000:Nat)<sizeLine:=by decide
 have hk:=An hw hv lR Uk
 refine ⟨_,rfl,_,rfl,_,rfl,by show 2<=sizeLine;decide,fun t nt=>?_⟩
 have st:=ao.upd (o:= .tup [.str (S w'), .str (S v)]) nt
 refine ⟨y,t,[w',v],rfl,hy,hz,hk,ah,fun p L H1 np hp hL RQ s1=>?_⟩
 have VX:L.length<=1728:=by rw[<-UX (f:=Fa.x),RQ];exact Ek hk.all
 refine ⟨p,rfl,⟨_,br.of hp⟩,?_⟩
 refine l_ (K:=K) (a:=p) (xs:=h_ L) (fun i acc H'=>ao H1 H'/\acc=h_ ((L.take i).filter fun k=>decide ((k.x.c:Int)<k.x.d))) (by rw[fO];omega) (fun i acc H' h=>br.of (h.1 _ _ hp)) ⟨ao.refl _,rfl⟩ ?_ ?_
 ·rintro i x acc H4 Nx hi hx qf ⟨s4,rfl⟩ nx
  rw[fO]at hi
  have ex:x=V.ref L[i].a:=by
   unfold h_ at hx
   rw[ZA,Kw hi]at hx
   exact (ZG hx).symm
  subst ex
  have ht:=s4 _ _ (hL L[i] (ZV hi))
  have tk:L.take (i+1)=L.take i++[L[i]]:=by rw[List.take_succ_eq_append_getElem hi]
  refine ⟨trivial,_,rfl,_,_,_,_,rfl,rfl,bV.of ht,rfl,_,rfl,_,_,_,_,rfl,rfl,bV.of ht,rfl,_,_,rfl,rfl,_,rfl,bC (fun z=>?_) (fun z=>?_)⟩
  ·refine ⟨_,rfl,nx _ _ (by rw[UY];exact Qay qf) ⟨s4,?_⟩⟩
   rw[wg,tk,Qaw,Z4 (p:=fun k:Fa=>decide ((k.x.c:Int)<k.x.d)) z]
   rfl
  ·refine nx _ _ (Qc5 qf) ⟨s4,?_⟩
   rw[tk,Qaw,ZR (p:=fun k:Fa=>decide ((k.x.c:Int)<k.x.d)) z]
   simp
 ·rintro acc H4 D4 qf ⟨s4,rfl⟩ RS
  have e0:L.take (h_ L).length=L:=by rw[fO,Qad]
  rw[e0]
  refine ⟨D4,_,rfl, .inl (br.of ah),?_⟩
  have k:=q _ (st.trans (s1.trans (s4.trans (ao.upd (o:= .lst (h_ (L.filter fun k=>decide ((k.x.c:Int)<k.x.d)))) RS))))
  have e:mI y w' v=((h_ (L.filter fun k=>decide ((k.x.c:Int)<k.x.d))).length:Nat):=by
   unfold mI
   rw[<-RQ,Qdp,UX,fO]
   rfl
  rw[e]at k
  exact k
theorem qL:bA P w K mg base eF 1 MQ Nv ["words","band"] (jV K):=by
 refine T.Ri.fn.ok cS (fun vs H Q E h=>pM h) (fun cn A outer s H vs Q E hr h=>?_)
 refine ⟨_,(ag (aq (i:=2) cS.nd rfl (Or.inl rfl) (dq ae))
   (ag (bT PassesOwn.never rfl (oT K rfl rfl T.z_enumerate (aa (pv 0) ae)) (fN (n:=2) K rfl rfl (bI (aK (i:=3) cS.nd rfl (Or.inl rfl)) (bI (aK (i:=4) cS.nd rfl (Or.inl rfl)) fJ))) (ai (bT PassesOwn.never rfl (Dy rfl T.z_enumerate (aa (pv 4) ae)) (fN (n:=2) K rfl rfl (bI (aK (i:=5) cS.nd rfl (Or.inl rfl)) (bI (aK (i:=6) cS.nd rfl (Or.inl rfl)) fJ))) (ai (bF (aG gB (eU K rfl ZE Qdh Qdg oK (pv 6)) (pv 1) (aL _)) (ai (cj (bz K rfl ZK Z9 Z8 cq (pv 2) (aa (bD (aa (pv 3) (aa (pv 5) ae))) ae)))) aV)))))
   (ai (aE (pv 2))))),?_⟩
 obtain ⟨wt,ws,band,rfl,jK,hf,hw,hb,q⟩:=h
 have hs:(100000:Nat)<sizeLine:=by decide
 walk_at "wk"
 intro p1 n1
 refine ⟨_,rfl,wt,rfl,⟨_,bV.of ((ao.upd n1) _ _ jK)⟩,?_⟩
 refine me (K:=K) (a:=wt) (xs:=gL ws) (fun j σ H'=> ∃(ps:List Pr) (cv wv pv lv:Option V),σ=[some (.ref wt),some (.str (S [band])),some (.ref p1),cv,wv,pv,lv]/\H' p1=some (.lst (rX ps))/\(∀p∈ps,nE H' p)/\ps.map Pr.pair=c_ band ws j/\ps.length<=12*j/\ao H H')
  ⟨[],none,none,none,none,rfl,ah,fun _ h=>absurd h Zw,rfl,Y6 _,ao.upd n1⟩ (fun j σ H' _ ⟨_,_,_,_,_,_,_,_,_,_,h⟩=>bV.of (h _ _ jK)) ?_ ?_
 ·rintro j x σ H1 T hx ⟨ps,cv,wv,pv,lv,rfl,hp,uS,j4,jt,s1⟩ nT
  have hj:j<ws.length:=by
   have:=(Kx.mp hx).1
   rwa [bM]at this
  rw[ke hj]at hx
  cases hx
  have Ma:ws[j]? =some ws[j]:=Kw hj
  obtain ⟨x4,lR⟩:=hw _ (ZV hj)
  generalize ws[j]=w at Ma x4 lR ⊢
  refine ⟨T,_,rfl,bV.of ah,rfl,_,_,rfl,_,_,rfl,rfl,?_⟩
  have sT:=ao.upd (o:= .tup [.int j, .str (S w)]) nT
  refine ⟨_,rfl,w,rfl,?_⟩
  refine Dz (l:=w) (fun m σ H'=> ∃(us:List Pr) (pv lv:Option V),σ=[some (.ref wt),some (.str (S [band])),some (.ref p1),some (.int j),some (.str (S w)),pv,lv]/\H' p1=some (.lst (rX us))/\(∀p∈us,nE H' p)/\us.map Pr.pair=c_ band ws j++iC band j w m/\us.length<=12*j+m/\ao H H')
   ⟨ps,pv,lv,rfl,sT _ _ hp,fun p yH=>(uS p yH).same sT,by rw[j4];show _=_++[];rw[Z3],by omega,s1.trans sT⟩ ?_ ?_
  ·rintro m l σ H2 T2 hm ⟨us,Yg,Yh,rfl,oW,xp,u_,Cs,s2⟩ Yi
   have Zk:m<w.length:=(Kx.mp hm).1
   have Ul:=x4 l (Zx hm)
   have es:=yU (band:=band) (c:=j) hm
   have RT:=ao.upd (o:= .tup [.int m, .str (S [l])]) Yi
   refine ⟨T2,_,rfl,bV.of ah,rfl,_,_,rfl,_,_,rfl,rfl,?_⟩
   refine ⟨_,rfl,rfl,l,rfl,rfl,Ul.lt,_,rfl,[PyProof.Rows.lo1 l],[band],rfl,rfl,_,rfl,?_⟩
   have ev:decide ([PyProof.Rows.lo1 l]=[band])=yT band l:=by rw[<-EV hb Ul];simp
   rw[ev]
   have Mb:=RT _ _ oW
   refine bC (fun z=>?_) (fun z=>?_)
   ·rw[if_pos z]at es
    refine ⟨_,rfl, .inl ⟨rfl,_,br.of Mb⟩,_,rfl,_,rfl,by show 2<=sizeLine;decide,fun t nt=>?_⟩
    have u9:=(ao.upd (o:= .tup [.int j, .int m]) nt) _ _ Mb
    have s3:=RT.trans (ao.upd (o:= .tup [.int j, .int m]) nt)
    refine ⟨p1,_,_,rfl,rfl,u9,by rw[uw];omega,?_⟩
    refine ⟨us++[⟨t,j,m⟩],_,_,rfl,by rw[ah];exact congrArg (fun x=>some (HO.lst x)) (ER us ⟨t,j,m⟩),fun p yH=>?_,by rw[WC,u_,es,Qat];rfl,by rw[UY];show us.length+1<=_;omega,fun a o ea=>by rw[ay (ar ea n1)];exact s3 _ _ (s2 a o ea)⟩
    rcases Zz.mp yH with g | g
    ·exact ((xp p g).same s3).ts (ba.yr u9)
    ·have e2:=UZ.mp g
     subst e2
     exact nE.ts (H:=upd (upd H2 T2 (.tup [.int m, .str (S [l])])) t (.tup [.int j, .int m])) ⟨ah,by show j<1000;omega,by show m<1000;omega⟩ (ba.yr u9)
   ·rw[if_neg z,Z3]at es
    exact ⟨us,_,_,rfl,Mb,fun p yH=>(xp p yH).same RT,by rw[u_,es],by omega,s2.trans RT⟩
  ·rintro σ H2 ⟨us,Yg,Yh,rfl,oW,xp,u_,Cs,s2⟩
   exact ⟨us,_,_,_,_,rfl,oW,xp,by rw[u_,wN Ma],by omega,s2⟩
 ·rintro σ H1 ⟨ps,cv,wv,pv,lv,rfl,hp,uS,j4,jt,s1⟩
  rw[bM]at j4
  exact ⟨_,rfl,q p1 ps H1 n1 hp uS j4 s1⟩
theorem qk:bA P w K mg base eF 3 M1 NK ["words","ways","strand"] (jj K aX aQ):=by
 have xl:=Cw (P:=P) (w:=w) (base:=base) T
 refine T.Rq.fn.ok gf (fun vs H Q E h=>nI h) (fun cn A outer s H vs Q E hr h=>?_)
 refine ⟨_,(ag (aq (i:=3) gf.nd rfl (Or.inl rfl) (aT (bp K rfl) (pv 0) (aT (bp K rfl) (pv 2) aj (fun _ _=>rfl)) (fun _ _=>rfl)))
   (ag (aq (i:=4) gf.nd rfl (Or.inl rfl) (aT (bp K rfl) (pv 2) aj (fun _ _=>rfl)))
   (ag (bF (eI (eU K rfl ZE Qda Qc9 j9 (aT g8 (pv 3) (pv 4) (fun _ _=>rfl)))) (ai (aE (nQ T.FN xl (hr.mono (by decide)) rfl T.FL T.FO .nil az (aa (pv 2) (aa (aT (bp K rfl) (aT (b9 K rfl) (pv 1) (aT (bp K rfl) (pv 2) aj (fun _ _=>rfl)) (fun _ _=>rfl)) aj (fun _ _=>rfl)) (aa (pv 4) ae)))))) aV)
   (ai (aE (nQ T.FN xl (hr.mono (by decide)) rfl T.FL T.FO .nil az (aa (pv 2) (aa (aT (bp K rfl) (aT (b9 K rfl) (pv 1) (aT (bp K rfl) (pv 2) aj (fun _ _=>rfl)) (fun _ _=>rfl)) aj (fun _ _=>rfl)) (aa (aA bN (aA bN (aB aI rfl T.z_len WG (aa (pv 3) ae)) aj) (pv 4)) ae))))))))),?_⟩
 obtain ⟨y,lg,wt,vt,st,w',ws,lQ,p,c,i,rfl,hy,jK,RU,kx,hw,hp,ok,hi,q⟩:=h
 have hs:(100000:Nat)<sizeLine:=by decide
 have lR:=ok.on.uz
 have VY:=ok.on.lz
 have Ue:=ok.on.sw
 have h8:(rd w' i)<128:=(hy.lt _ (Ue.rd _)).lt
 have hc:(gL ws)[c]? =some (V.str (S w')):=by
  have hl:=(Kx.mp hw).1
  rw[ke hl,(Kx.mp hw).2]
 refine ⟨_,rfl,_,rfl,st,_,0,_,rfl,rfl,bV.of kx,rfl,wt,_,_,_,rfl,rfl,bV.of jK,b8 hc,?_⟩
 refine ⟨_,rfl,st,_,1,_,rfl,rfl,bV.of kx,rfl,?_⟩
 refine ⟨_,rfl,_,rfl,w',_,_,rfl,rfl,by omega,by rw[jR (by omega) (by omega)],?_⟩
 have made: ∀(x dx:Addr) (H':Hp) (t w2:Addr) (pl:Nat),H x=none->H dx=none->dx≠x->aN x (L2.upd (L2.upd H dx (.own x)) x (.ins aQ dx [])) H'->ao H H':=fun x dx H' t w2 pl nx LN ne sm a o e=>by
  refine sm a o ?_ (ar e nx)
  rw[ay (ar e nx),ay (ar e LN)]
  exact e
 refine ⟨rfl,_,rfl,rfl,h8,?_⟩
 walk_at "rd"
 refine bC (fun z=>?_) (fun z=>?_)
 ·refine ⟨_,rfl,_,rfl,_,rfl,st,_,0,_,rfl,rfl,bV.of kx,rfl,vt,_,_,_,rfl,rfl,br.of RU,b8 (Fo hp),p.t,_,0,_,rfl,rfl,bV.of ok.tp,rfl,_,rfl,fun x dx nx LN ne=>⟨x,dx,st,p.a,i,rfl,ah,fun H' hx sm=>⟨rfl,?_⟩⟩⟩
  have Mc:=made x dx H' st p.a i nx LN ne sm
  exact q ⟨x,st,p.a,c,i,w',i,p.r⟩ H' ⟨rfl,rfl,by rw[if_pos z],by rw[if_pos z]⟩ rfl ⟨⟨dx,hx⟩,Mc _ _ kx,ok.on.same Mc,hi⟩ nx Mc
 ·have ei:(w'.length:Int) - 1 - i=((w'.length - 1 - i:Nat):Int):=by omega
  refine ⟨_,rfl,_,rfl,_,rfl,st,_,0,_,rfl,rfl,bV.of kx,rfl,vt,_,_,_,rfl,rfl,br.of RU,b8 (Fo hp),p.t,_,1,_,rfl,rfl,bV.of ok.tp,rfl,_,rfl,w',rfl,by omega,_,_,rfl,rfl,_,rfl,_,_,rfl,rfl,fun x dx nx LN ne=>⟨x,dx,st,p.b,w'.length - 1 - i,by rw[<-ei];rfl,ah,fun H' hx sm=>⟨rfl,?_⟩⟩⟩
  have Mc:=made x dx H' st p.b 0 nx LN ne sm
  exact q ⟨x,st,p.b,c,i,gK w',w'.length - 1 - i,p.q⟩ H' ⟨rfl,rfl,by rw[if_neg z],by rw[if_neg z]⟩ rfl ⟨⟨dx,hx⟩,Mc _ _ kx,ok.bk.same Mc,by show w'.length - 1 - i<(gK w').length;rw[ck];omega⟩ nx Mc
theorem jr:bA P w K mg base eF 1 FJ ND ["seen","start","end"] (fW K aX aQ):=by
 refine T.xA.fn.ok jo (fun vs H Q E h=>nG h) (fun cn A outer s H vs Q E hr h=>?_)
 refine ⟨_,(ag (aq (i:=3) jo.nd rfl (Or.inl rfl) (aA aU (bL K rfl (pv 0) rfl) aj))
   (ai (aE (bj iU (bL K rfl (bL K rfl (pv 0) rfl) rfl) (bc (aA aU (pv 3) (pv 1))) (bc (aA aU (pv 3) (pv 2))))))),?_⟩
 obtain ⟨y,lg,s,x,z,rfl,hz,hs,Um,q⟩:=h
 obtain ⟨d1,e1⟩:=hs.ob
 obtain ⟨d2,e2⟩:=hs.wy.ob
 have:=hs.wy.uz
 have:=hs.wy.lz
 have h1:1<=s.u.length:=ZZ (Y6 _) hs.pz
 have rl:=lC (lg:=lg) h1
 have Qs:(100000:Nat)<sizeLine:=by decide
 refine ⟨_,rfl,s.a,aQ,d1,_,_,rfl,e1,T.dI,T.n_Seen_place,lB,?_⟩
 walk_at "rd"
 refine ⟨s.a,aQ,d1,_,_,rfl,e1,T.dI,T.n_Seen_way,mF,s.wy,aX,d2,_,_,rfl,e2,T.gu,T.n_Way_onward,Ql,?_⟩
 walk_at "rd"
 refine ⟨by rw[sg,di];omega,?_⟩
 rw[show (s.p:Int)+1=((s.p+1:Nat):Int) by omega,AN Um]
 exact q
theorem j5:bA P w K mg base eF 1 FK NF ["seen","start","end"] (gD K aX aQ):=by
 refine T.xB.fn.ok jZ (fun vs H Q E h=>pJ h) (fun cn A outer s H vs Q E hr h=>?_)
 refine ⟨_,(ag (aq (i:=3) jZ.nd rfl (Or.inl rfl) (aA bN (aA bN (bL K rfl (bL K rfl (pv 0) rfl) rfl) aj) (bL K rfl (pv 0) rfl)))
   (ai (aE (bj iU (bL K rfl (bL K rfl (pv 0) rfl) rfl) (bc (aA aU (pv 3) (pv 1))) (bc (aA aU (pv 3) (pv 2))))))),?_⟩
 obtain ⟨y,lg,s,x,z,rfl,hz,hs,Um,q⟩:=h
 obtain ⟨d1,e1⟩:=hs.ob
 obtain ⟨d2,e2⟩:=hs.wy.ob
 have:=hs.wy.uz
 have:=hs.wy.lz
 have hp:=hs.pz
 have h1:1<=s.u.length:=ZZ (Y6 _) hs.pz
 have rl:=lC (lg:=lg) h1
 have Qs:(100000:Nat)<sizeLine:=by decide
 refine ⟨_,rfl,s.a,aQ,d1,_,_,rfl,e1,T.dI,T.n_Seen_way,mF,s.wy,aX,d2,_,_,rfl,e2,T.gu,T.n_Way_size,AM,?_⟩
 walk_at "rd"
 refine ⟨s.a,aQ,d1,_,_,rfl,e1,T.dI,T.n_Seen_place,lB,?_⟩
 walk_at "rd"
 refine ⟨s.a,aQ,d1,_,_,rfl,e1,T.dI,T.n_Seen_way,mF,s.wy,aX,d2,_,_,rfl,e2,T.gu,T.n_Way_backward,Ig,?_⟩
 walk_at "rd"
 refine ⟨by rw[sg,Z0,di];omega,?_⟩
 rw[show (s.u.length:Int) - 1 - s.p=((s.u.length - 1 - s.p:Nat):Int) by omega,AN Um]
 exact q
theorem zw:bA P w K mg base eF 2 MX NG ["steps","one","other","enough"] (pK K aX aQ FJ FK):=by
 have cf:=jr (P:=P) (w:=w) (base:=base) T
 have cL:=j5 (P:=P) (w:=w) (base:=base) T
 refine T.LQ.fn.ok dJ (fun vs H Q E h=>wY h) (fun cn A outer s H vs Q E hr h=>?_)
 refine ⟨_,(ag (aq (i:=4) dJ.nd rfl (Or.inl rfl) aj)
   (ag (aq (i:=5) dJ.nd rfl (Or.inl rfl) aj)
   (gk (dN PassesOwn.never (PW.pt (fu (aG gN (pv 4) (pv 3) (aL _)) (dR (aG gB (kM (pv 0) cf (hr.mono (by decide)) T.xA.fn.kp T.xA.bd cL (hr.mono (by decide)) T.xB.fn.kp T.xB.bd az (aa (pv 1) (aa (pv 4) (aa (aA aU (pv 4) (pv 5)) ae)))) (kM (pv 0) cf (hr.mono (by decide)) T.xA.fn.kp T.xA.bd cL (hr.mono (by decide)) T.xB.fn.kp T.xB.bd az (aa (pv 2) (aa (pv 4) (aa (aA aU (pv 4) (pv 5)) ae)))) (aL _))))) (ag (j7 (i:=4) dJ.nd rfl (Or.inl rfl) (pv 5) sS)
   (ai (j7 (i:=5) dJ.nd rfl (Or.inl rfl) aj K4))))
   (gk (dN PassesOwn.never (aG mW (pv 5) aj (aL _)) (ag (j7 (i:=5) dJ.nd rfl (Or.inl rfl) aj Hl)
   (ai (bF (aG gB (kM (pv 0) cf (hr.mono (by decide)) T.xA.fn.kp T.xA.bd cL (hr.mono (by decide)) T.xB.fn.kp T.xB.bd az (aa (pv 1) (aa (pv 4) (aa (aA aU (pv 4) (pv 5)) ae)))) (kM (pv 0) cf (hr.mono (by decide)) T.xA.fn.kp T.xA.bd cL (hr.mono (by decide)) T.xB.fn.kp T.xB.bd az (aa (pv 2) (aa (pv 4) (aa (aA aU (pv 4) (pv 5)) ae)))) (aL _)) (ai (j7 (i:=4) dJ.nd rfl (Or.inl rfl) (pv 5) sS)) aV))))
   (ai (aE (pv 4))))))),?_⟩
 obtain ⟨y,lg,s1,t1,b,en,rfl,hz,hs,ht,Zl,q⟩:=h
 have call: ∀(u:Sn) (x d:Nat) (t:TA) (σ:L2.St) (Q':VK),σ[0]? =some (some (V.ref (if b=true then FJ else FK)))->jf H aX aQ y lg u->(∀R:List V->Hp->Prop,R [V.ref u.a,V.int x,V.int ((x:Int)+d)] H->t σ H R)->Q' (V.str (S (seg (LK b y lg u) x (x+d)))) H->DR FJ FK (fW K aX aQ) (gD K aX aQ) E0 (J3 0) t σ H Q':=by
  intro u x d t σ Q' h0 hu VZ hq
  refine ⟨_,h0,?_⟩
  cases b
  ·exact .inr ⟨rfl,VZ _ ⟨y,lg,u,x,x+d,by rw[Z7],hz,hu,by omega,hq⟩⟩
  ·exact .inl ⟨rfl,VZ _ ⟨y,lg,u,x,x+d,by rw[Z7],hz,hu,by omega,hq⟩⟩
 generalize (if b=true then FJ else FK)=fx at call ⊢
 generalize el:LK b y lg s1=l at q
 generalize em:LK b y lg t1=m at q
 walk_at "rd"
 refine ⟨fun σ H'=> ∃(mn sz e:Nat),σ=[some (.ref fx),some (.ref s1.a),some (.ref t1.a),some (.int en),some (.int mn),some (.int sz)]/\H'=H/\sz=2 ^ e/\sz<=1000000/\mn<=1000000/\jg l m mn/\(en<=mn\/ ∃k,mn<=k/\k<mn+sz/\l[k]?≠ m[k]?),?_,?_⟩
 ·refine ⟨fun w σ H'=> ∃(mn sz e:Nat),σ=[some (.ref fx),some (.ref s1.a),some (.ref t1.a),some (.int en),some (.int mn),some (.int sz)]/\H'=H/\w=en - mn/\sz=2 ^ e/\mn+1=sz/\mn<=2*en/\jg l m mn,⟨_,0,1,0,rfl,rfl,rfl,rfl,rfl,Y6 _,fun k hk=>absurd hk (Qb9 _)⟩,?_⟩
  rintro w' σ H2 ⟨mn,sz,e,rfl,rfl,rfl,he,Zm,Rg,ha⟩
  walk_at "rd"
  refine bC (fun z=>?_) (fun z=>?_)
  ·have z1:(mn:Int)<en:=of_decide_eq_true z
   refine call s1 mn sz _ _ _ rfl hs (fun R hR=>⟨_,rfl,_,rfl,_,rfl,_,rfl,_,_,rfl,rfl,hR⟩) ?_
   refine call t1 mn sz _ _ _ rfl ht (fun R hR=>⟨_,rfl,_,rfl,_,rfl,_,rfl,_,_,rfl,rfl,hR⟩) ?_
   rw[el,em]
   walk_at "rd"
   refine bC (fun y1=>?_) (fun y1=>?_)
   ·have y2:seg l mn (mn+sz)=seg m mn (mn+sz):=by simpa using of_decide_eq_true y1
    refine ⟨_,rfl,_,rfl,_,_,rfl,rfl,_,rfl,_,_,rfl,rfl, .inl ⟨by omega,by omega⟩,?_⟩
    refine ⟨en - (mn+sz),by omega,mn+sz,sz*2,e+1,by rw[Z7,Qej];rfl,rfl,rfl,by rw[he,Nat.pow_succ],by omega,by omega,ha.more y2⟩
   ·have y2:seg l mn (mn+sz)≠seg m mn (mn+sz):=fun w=>y1 (decide_eq_true (by rw[w]))
    exact ⟨mn,sz,e,rfl,rfl,he,by omega,by omega,ha, .inr (Fh y2)⟩
  ·have z1: ¬(mn:Int)<en:=fun w=>z (decide_eq_true w)
   exact ⟨mn,sz,e,rfl,rfl,he,by omega,by omega,ha, .inl (by omega)⟩
 ·rintro σ H2 ⟨mn,sz,e,rfl,rfl,he,hsz,Rg,ha,hb⟩
  refine ⟨fun σ H'=> ∃mn:Nat,σ=[some (.ref fx),some (.ref s1.a),some (.ref t1.a),some (.int en),some (.int mn),some (.int 1)]/\H'=H2/\jg l m mn/\(en<=mn\/l[mn]?≠ m[mn]?),?_,?_⟩
  ·refine ⟨fun w σ H'=> ∃(mn sz e:Nat),σ=[some (.ref fx),some (.ref s1.a),some (.ref t1.a),some (.int en),some (.int mn),some (.int sz)]/\H'=H2/\sz=w/\sz=2 ^ e/\sz<=1000000/\mn<=3000000 - 2*sz/\jg l m mn/\(en<=mn\/ ∃k,mn<=k/\k<mn+sz/\l[k]?≠ m[k]?),⟨_,mn,sz,e,rfl,rfl,rfl,he,hsz,by omega,ha,hb⟩,?_⟩
   rintro w' σ H3 ⟨mn,sz,e,rfl,rfl,rfl,he,hsz,Rg,ha,hb⟩
   walk_at "rd"
   refine bC (fun z=>?_) (fun z=>?_)
   ·have z1:(1:Int)<sz:=of_decide_eq_true z
    obtain ⟨e',rfl⟩: ∃e',e=e'+1:=⟨e - 1,by
     cases e with
     | zero=>rw[he]at z1;simp at z1
     | succ e=>rfl⟩
    have hh:sz=2*2 ^ e':=by rw[he,Nat.pow_succ,Qbb]
    have hp:0<2 ^ e':=Nat.pow_pos (by decide)
    generalize QF:2 ^ e'=h2 at hh hp
    have Uo:=QF.symm
    have ed:(sz:Int) / 2=(h2:Nat):=by omega
    refine ⟨_,rfl,_,_,rfl,rfl,⟨by decide,by decide⟩,?_⟩
    refine call s1 mn h2 _ _ _ rfl hs (fun R hR=>⟨_,rfl,_,rfl,_,rfl,_,rfl,_,_,rfl,rfl,by rw[ed];exact hR⟩) ?_
    refine call t1 mn h2 _ _ _ rfl ht (fun R hR=>⟨_,rfl,_,rfl,_,rfl,_,rfl,_,_,rfl,rfl,by rw[ed];exact hR⟩) ?_
    rw[el,em]
    walk_at "rd"
    have Qy: ∃e2,h2=2 ^ e2:=⟨e',Uo⟩
    obtain ⟨e2,V0⟩:=Qy
    refine bC (fun y1=>?_) (fun y1=>?_)
    ·have y2:seg l mn (mn+h2)=seg m mn (mn+h2):=by simpa using of_decide_eq_true y1
     refine ⟨_,rfl,_,rfl,_,_,rfl,rfl,?_⟩
     refine ⟨h2,by omega,mn+h2,h2,e2,by rw[Z7, <-ed];rfl,rfl,rfl,V0,by omega,by omega,ha.more y2,?_⟩
     rcases hb with hb | ⟨k,k1,k2,k3⟩
     ·exact .inl (by omega)
     ·refine .inr ⟨k,Classical.byContradiction fun w=>k3 (y6.mp y2 k k1 (by omega)),by omega,k3⟩
    ·have y2:seg l mn (mn+h2)≠seg m mn (mn+h2):=fun w=>y1 (decide_eq_true (by rw[w]))
     exact ⟨h2,by omega,mn,h2,e2,by rw[<-ed];rfl,rfl,rfl,V0,by omega,by omega,ha, .inr (Fh y2)⟩
   ·have z1: ¬(1:Int)<sz:=fun w=>z (decide_eq_true w)
    have hp:0<2 ^ e:=Nat.pow_pos (by decide)
    have e1:sz=1:=by omega
    subst e1
    exact ⟨mn,rfl,rfl,ha,hb.imp id fun ⟨k,k1,k2,k3⟩=>by rwa [show k=mn by omega]at k3⟩
  ·rintro σ H3 ⟨mn,rfl,rfl,ha,hb⟩
   exact ⟨_,rfl,q mn ha hb⟩
theorem zx:bA P w K mg base eF 1 MY NH ["seen"] (pL K aX aQ):=by
 refine T.LR.fn.ok ku (fun vs H Q E h=>wZ h) (fun cn A outer s H vs Q E hr h=>?_)
 refine ⟨_,(ag (aq (i:=1) ku.nd rfl (Or.inl rfl) (bL K rfl (pv 0) rfl))
   (ag (aq (i:=2) ku.nd rfl (Or.inl rfl) (aT (bp K rfl) (bL K rfl (pv 0) rfl) aj (fun _ _=>rfl)))
   (ag (bF (eI (bL K rfl (pv 1) rfl)) (ai (aE (bD (aa (pv 2) (aa (aA dE (bL K rfl (pv 0) rfl) (bL K rfl (pv 1) rfl)) ae))))) aV)
   (ai (aE (bD (aa (jP gz (pv 2)) (aa (jP gz (aA dE (aA bN (aA bN (bL K rfl (pv 1) rfl) aj) (bL K rfl (pv 0) rfl)) (bL K rfl (pv 1) rfl))) ae)))))))),?_⟩
 obtain ⟨y,lg,s1,rfl,hs,q⟩:=h
 obtain ⟨d1,e1⟩:=hs.ob
 obtain ⟨d2,e2⟩:=hs.wy.ob
 have hp:=hs.pz
 have rp:=ji hs.wy.sw.ne hs.wy.rt
 have u1:=hs.wy.uz
 have u2:=hs.wy.lz
 refine ⟨_,rfl,s1.a,aQ,d1,_,_,rfl,e1,T.dI,T.n_Seen_way,mF,?_⟩
 refine ⟨_,rfl,s1.a,aQ,d1,_,_,rfl,e1,T.dI,T.n_Seen_strand,sd,s1.t,_,0,_,rfl,rfl,bV.of hs.st,rfl,?_⟩
 refine ⟨_,rfl,s1.wy,aX,d2,_,_,rfl,e2,T.gu,T.n_Way_leads,Fg,?_⟩
 walk_at "rd"
 have Yj:(s1.p:Int) / (s1.r:Int)=((s1.p / s1.r:Nat):Int):=(Qcr _ _).symm
 have Yk:((s1.u.length:Int) - 1 - s1.p) / (s1.r:Int)=(((s1.u.length - 1 - s1.p) / s1.r:Nat):Int):=by
  rw[Qcr];congr 1;omega
 refine bC (fun z=>?_) (fun z=>?_)
 ·refine ⟨_,rfl,_,rfl,s1.a,aQ,d1,_,_,rfl,e1,T.dI,T.n_Seen_place,lB,_,rfl,s1.wy,aX,d2,_,_,rfl,e2,T.gu,T.n_Way_root_size,oa,_,_,rfl,rfl,⟨by omega,by omega⟩,by show 2<=sizeLine;decide,fun p np=>?_⟩
  refine q p _ np ?_ (ao.upd np)
  rw[ah]
  unfold y7
  rw[if_pos z, <-Yj]
 ·refine ⟨_,rfl,_,rfl,_,rfl,s1.wy,aX,d2,_,_,rfl,e2,T.gu,T.n_Way_size,AM,_,_,rfl,rfl,_,rfl,s1.a,aQ,d1,_,_,rfl,e1,T.dI,T.n_Seen_place,lB,_,_,rfl,rfl,_,rfl,s1.wy,aX,d2,_,_,rfl,e2,T.gu,T.n_Way_root_size,oa,_,_,rfl,rfl,⟨by omega,by omega⟩,_,rfl,by show 2<=sizeLine;decide,fun p np=>?_⟩
  refine q p _ np ?_ (ao.upd np)
  rw[ah]
  unfold y7
  rw[if_neg z, <-Yk]
theorem ql:bA P w K mg base eF 3 MZ NI ["one","other"] (jh K aX aQ):=by
 have sJ:=zw (P:=P) (w:=w) (base:=base) T
 have sL:=zx (P:=P) (w:=w) (base:=base) T
 have cf:=jr (P:=P) (w:=w) (base:=base) T
 have cL:=j5 (P:=P) (w:=w) (base:=base) T
 refine T.Ro.fn.ok eE (fun vs H Q E h=>nH h) (fun cn A outer s H vs Q E hr h=>?_)
 refine ⟨_,(ag (aq (i:=2) eE.nd rfl (Or.inl rfl) (aA aU (bL K rfl (bL K rfl (pv 0) rfl) rfl) (bL K rfl (bL K rfl (pv 1) rfl) rfl)))
   (ag (aq (i:=3) eE.nd rfl (Or.inl rfl) (ak sJ (hr.mono (by decide)) rfl T.LQ.mg T.LQ.fn.kp T.LQ.bd .nil az (aa (zI (v:= .ref FJ) rfl T.xA.mg rfl) (aa (pv 0) (aa (pv 1) (aa (pv 2) ae))))))
   (ag (aq (i:=4) eE.nd rfl (Or.inl rfl) (ak sJ (hr.mono (by decide)) rfl T.LQ.mg T.LQ.fn.kp T.LQ.bd .nil az (aa (zI (v:= .ref FK) rfl T.xB.mg rfl) (aa (pv 0) (aa (pv 1) (aa (pv 2) ae))))))
   (ag (bF (aG C2 (aB (qR rfl) rfl T.z_min boot_min (aa (pv 3) (aa (pv 4) ae))) (pv 2) (aL _)) (ai (aE (fK (tM K rfl hr) (ak sL (hr.mono (by decide)) rfl T.LR.mg T.LR.fn.kp T.LR.bd .nil az (aa (pv 0) ae)) (ak sL (hr.mono (by decide)) rfl T.LR.mg T.LR.fn.kp T.LR.bd .nil az (aa (pv 1) ae)) (aL _)))) aV)
   (ag (bF (aG Jf (pv 3) (pv 4) (aL _)) (ai (aE (fK tH (ak cf (hr.mono (by decide)) rfl T.xA.mg T.xA.fn.kp T.xA.bd .nil az (aa (pv 0) (aa (pv 3) (aa (aA aU (pv 3) aj) ae)))) (ak cf (hr.mono (by decide)) rfl T.xA.mg T.xA.fn.kp T.xA.bd .nil az (aa (pv 1) (aa (pv 3) (aa (aA aU (pv 3) aj) ae)))) (aL _)))) aV)
   (ai (aE (fK tH (ak cL (hr.mono (by decide)) rfl T.xB.mg T.xB.fn.kp T.xB.bd .nil az (aa (pv 0) (aa (pv 4) (aa (aA aU (pv 4) aj) ae)))) (ak cL (hr.mono (by decide)) rfl T.xB.mg T.xB.fn.kp T.xB.bd .nil az (aa (pv 1) (aa (pv 4) (aa (aA aU (pv 4) aj) ae)))) (aL _))))))))),?_⟩
 obtain ⟨y,lg,s1,t1,rfl,hy,hz,hs,ht,h0,q⟩:=h
 obtain ⟨d1,e1⟩:=hs.ob
 obtain ⟨d2,e2⟩:=hs.wy.ob
 obtain ⟨d3,e3⟩:=ht.ob
 obtain ⟨d4,e4⟩:=ht.wy.ob
 have rp:=ji hs.wy.sw.ne hs.wy.rt
 have Zn:=ji ht.wy.sw.ne ht.wy.rt
 have u1:=hs.wy.uz
 have Zo:=ht.wy.uz
 have u2:=hs.wy.lz
 have ns:=hs.wy.sw.ne
 have nt:=ht.wy.sw.ne
 have lf:=bB hs.wy.sw (s1.p:Int)
 have RV:=bB ht.wy.sw (t1.p:Int)
 have as:=si (lg:=lg) (s:=s1) (en:=s1.r+t1.r) hs.pz (by omega)
 have at':=si (lg:=lg) (s:=t1) (en:=s1.r+t1.r) ht.pz (by omega)
 refine ⟨_,rfl,s1.a,aQ,d1,_,_,rfl,e1,T.dI,T.n_Seen_way,mF,s1.wy,aX,d2,_,_,rfl,e2,T.gu,T.n_Way_root_size,oa,_,rfl,t1.a,aQ,d3,_,_,rfl,e3,T.dI,T.n_Seen_way,mF,t1.wy,aX,d4,_,_,rfl,e4,T.gu,T.n_Way_root_size,oa,_,_,rfl,rfl,?_⟩
 refine ⟨_,rfl,_,rfl,_,rfl,y,lg,s1,t1,true,s1.r+t1.r,by rw[Z7];rfl,hz,hs,ht,by omega,fun m KU DE=>?_⟩
 refine ⟨_,rfl,_,rfl,_,rfl,y,lg,s1,t1,false,s1.r+t1.r,by rw[Z7];rfl,hz,hs,ht,by omega,fun n Yl xN=>?_⟩
 have Up:jg (CM y lg s1) (CM y lg t1) m:=KU
 have QG:s1.r+t1.r<=m\/(CM y lg s1)[m]?≠ (CM y lg t1)[m]?:= DE
 have Uq:jg (CN y lg s1) (CN y lg t1) n:=Yl
 have QH:s1.r+t1.r<=n\/(CN y lg s1)[n]?≠ (CN y lg t1)[n]?:= xN
 have ga: ∀k,k<s1.r+t1.r->(CM y lg s1)[k]? =some (xx (fG y (sq s1.u s1.p) (k+1)))/\(CM y lg t1)[k]? =some (xx (fG y (sq t1.u t1.p) (k+1))):=fun k hk=>⟨Fi ns (by omega),Fi nt (by omega)⟩
 have gb: ∀k,k<s1.r+t1.r->(CN y lg s1)[k]? =some (xx (fG y (sq s1.u s1.p) (-(k:Int))))/\(CN y lg t1)[k]? =some (xx (fG y (sq t1.u t1.p) (-(k:Int)))):=fun k hk=>⟨Fj ns hs.pz (by omega),Fj nt ht.pz (by omega)⟩
 refine ⟨_,rfl,_,rfl,_,_,rfl,?_⟩
 walk_at "rd"
 by_cases par: ∀k,sq s1.u s1.p k=sq t1.u t1.p k
 ·have ef:sq s1.u s1.p=sq t1.u t1.p:=funext par
  have m1:s1.r+t1.r<=m:=AV (fun k hk=>by rw[(ga k hk).1,(ga k hk).2,ef]) QG
  have n1:s1.r+t1.r<=n:=AV (fun k hk=>by rw[(gb k hk).1,(gb k hk).2,ef]) QH
  refine bC (fun z=>?_) (fun z=>absurd (decide_eq_true (show ((s1.r:Int)+t1.r)<=(if (n:Int)<m then (n:Int) else m) by split<;>omega)) z)
  refine ⟨_,rfl,y,lg,s1,rfl,hs,fun p1 H1 Zp tQ QI=>⟨_,rfl,y,lg,t1,rfl,ht.same QI,fun p2 H2 Ur oW bS=>?_⟩⟩
  refine ⟨p1,p2,_,_,_,_,rfl,rfl,bV.of (bS _ _ tQ),bV.of oW,?_⟩
  have e:iZ (y7 s1).1 (y7 s1).2 (y7 t1).1 (y7 t1).2=a_ (jO y (2*lg) s1) (jO y (2*lg) t1):=by
   unfold jO
   rw[ef,fi,Ii]
  have kq:=q H2 (QI.trans bS)
  rw[<-e]at kq
  exact kq
 ·have dv: ∃k,sq s1.u s1.p k≠sq t1.u t1.p k:=Classical.byContradiction fun z=>par fun k=>Classical.byContradiction fun w=>z ⟨k,w⟩
  have z0:sq s1.u s1.p 0=sq t1.u t1.p 0:=by unfold sq;rw[Qbp,Qbp];exact h0
  obtain ⟨a,b,rn,ha,hb⟩:=dF (p:=s1.r) (q:=t1.r) (by omega) (by omega) (AQ ns hs.wy.rt s1.p) (AQ nt ht.wy.rt t1.p) z0 dv
  have pf:=AS hy lf
  have pg:=AS hy RV
  have key:=mq hy lf RV rn [(y7 s1).1,(y7 s1).2] [(y7 t1).1,(y7 t1).2] (2*lg) 0 (Y6 _) (Y6 _) (by omega) (by omega)
  have sa:fG y (sq s1.u s1.p) (a+1)≠fG y (sq t1.u t1.p) (a+1):=fun w=>rn.hi (by
   unfold fG at w
   rw[show (a:Int)+1 - 1=a by omega, <-rn.kY a (by omega) (by omega)]at w
   exact kZ (hy.cl _ (lf.bR _)) (lf.bR _) (RV.bR _) w)
  have sb:fG y (sq s1.u s1.p) (-(b:Int))≠fG y (sq t1.u t1.p) (-(b:Int)):=fun w=>by
   have c:=yO hy lf RV (rn.kY (-(b:Int)) (by omega) (by omega)) rn.lo
   unfold jS at c
   rw[w]at c
   simp at c
  have em:m=a:=AU ha (fun k hk=>by
   rw[(ga k (by omega)).1,(ga k (by omega)).2]
   unfold fG
   rw[show (k:Int)+1 - 1=k by omega,rn.kY k (by omega) (by omega),rn.kY (k+1) (by omega) (by omega)]) (fun w=>sa (AR (pf _) (pg _) (by rw[(ga a ha).1,(ga a ha).2]at w;exact ZG w))) Up QG
  have en:n=b:=AU hb (fun k hk=>by
   rw[(gb k (by omega)).1,(gb k (by omega)).2]
   unfold fG
   rw[rn.kY (-(k:Int)) (by omega) (by omega),rn.kY (-(k:Int) - 1) (by omega) (by omega)]) (fun w=>sb (AR (pf _) (pg _) (by rw[(gb b hb).1,(gb b hb).2]at w;exact ZG w))) Uq QH
  subst em
  subst en
  refine bC (fun z=>absurd (show ((s1.r:Int)+t1.r)<=(if (n:Int)<m then (n:Int) else m) from of_decide_eq_true z) (by split<;>omega)) (fun z=>?_)
  walk_at "rd"
  have Dt:(m:Int)+1=((m+1:Nat):Int):=by omega
  have LA:(n:Int)+1=((n+1:Nat):Int):=by omega
  refine bC (fun z2=>?_) (fun z2=>?_)
  ·have z3:m<=n:=by have:=of_decide_eq_true z2;omega
   refine ⟨_,rfl,_,rfl,_,rfl,_,_,rfl,rfl,y,lg,s1,m,m+1,by rw[<-Dt];rfl,hz,hs,by omega,?_⟩
   refine ⟨_,rfl,_,rfl,_,rfl,_,_,rfl,rfl,y,lg,t1,m,m+1,by rw[<-Dt];rfl,hz,ht,by omega,?_⟩
   refine ⟨_,_,rfl,rfl,?_⟩
   rw[if_pos z3]at key
   have e:decide (seg (CM y lg s1) m (m+1)<seg (CM y lg t1) m (m+1))=a_ (jO y (2*lg) s1) (jO y (2*lg) t1):=by
    rw[oe (ga m ha).1,oe (ga m ha).2,Fn]
    exact (decide_eq_decide.mpr (Fl (pf _) (pg _))).trans key.symm
   have kq:=q H (ao.refl H)
   rw[<-e]at kq
   exact kq
  ·have z3: ¬m<=n:=fun w=>z2 (decide_eq_true (by omega))
   refine ⟨_,rfl,_,rfl,_,rfl,_,_,rfl,rfl,y,lg,s1,n,n+1,by rw[<-LA];rfl,hz,hs,by omega,?_⟩
   refine ⟨_,rfl,_,rfl,_,rfl,_,_,rfl,rfl,y,lg,t1,n,n+1,by rw[<-LA];rfl,hz,ht,by omega,?_⟩
   refine ⟨_,_,rfl,rfl,?_⟩
   rw[if_neg z3]at key
   have e:decide (seg (CN y lg s1) n (n+1)<seg (CN y lg t1) n (n+1))=a_ (jO y (2*lg) s1) (jO y (2*lg) t1):=by
    rw[oe (gb n hb).1,oe (gb n hb).2,Fn]
    exact (decide_eq_decide.mpr (Fl (pf _) (pg _))).trans key.symm
   have kq:=q H (ao.refl H)
   rw[<-e]at kq
   exact kq
theorem nN:bA P w K mg base eF 4 M0 NJ ["order","seen"] (iF K aX aQ):=by
 have qM:=ql (P:=P) (w:=w) (base:=base) T
 refine T.Rp.fn.ok b6 (fun vs H Q E h=>mH h) (fun cn A outer s H vs Q E hr h=>?_)
 refine ⟨_,(ag (aq (i:=2) b6.nd rfl (Or.inl rfl) aj)
   (ag (aq (i:=3) b6.nd rfl (Or.inl rfl) (aB (aW K rfl) rfl T.z_len WG (aa (pv 0) ae)))
   (ag (dN PassesOwn.never (aG gN (pv 2) (pv 3) (aL _)) (ag (aq (i:=4) b6.nd rfl (Or.inl rfl) (aA dE (aA aU (pv 2) (pv 3)) aj))
   (ai (bF (eI (ak qM (hr.mono (by decide)) rfl T.Ro.mg T.Ro.fn.kp T.Ro.bd .nil az (aa (aT (b9 K rfl) (pv 0) (pv 4) (fun _ _=>rfl)) (aa (pv 1) ae)))) (ai (aq (i:=2) b6.nd rfl (Or.inl rfl) (aA aU (pv 4) aj))) (ai (aq (i:=3) b6.nd rfl (Or.inl rfl) (pv 4)))))))
   (ai (aE (pv 2)))))),?_⟩
 obtain ⟨y,lg,a,ss,t1,rfl,hy,hz,ha,FV,ht,up,hn,q⟩:=h
 have hs:(100000:Nat)<sizeLine:=by decide
 have key:=Qbj.mp up
 refine ⟨_,rfl,a,_,rfl, .inl (br.of ha),?_⟩
 walk_at "rd"
 refine ⟨fun m σ H'=> ∃(lo hi:Nat) (mv:Option V),σ=[some (.ref a),some (.ref t1.a),some (.int lo),some (.int hi),mv]/\m=hi - lo/\lo<=hi/\hi<=ss.length/\(∀k s,ss[k]? =some s->k<lo->a_ (jO y (2*lg) s) (jO y (2*lg) t1)=true)/\(∀k s,ss[k]? =some s->hi<=k->a_ (jO y (2*lg) s) (jO y (2*lg) t1)=false)/\ao H H',⟨_,0,ss.length,none,by rw[lD];rfl,rfl,Y6 _,Q3 _,fun k s _ hk=>absurd hk (Qb9 _),(fun k s e hk=>by rw[Qbi hk]at e;cases e),ao.refl H⟩,?_⟩
 rintro m σ H2 ⟨lo,hi,mv,rfl,rfl,h1,h2,h3,h4,s2⟩
 walk_at "rd"
 refine bC (fun z=>?_) (fun z=>?_)
 ·have z1:(lo:Int)<hi:=of_decide_eq_true z
  have em:(((lo:Int)+hi) / 2)=(((lo+hi) / 2:Nat):Int):=by omega
  have hm:(lo+hi) / 2<ss.length:=by omega
  have hg:ss[(lo+hi) / 2]? =some ss[(lo+hi) / 2]:=Kw hm
  obtain ⟨ok,e0⟩:=FV _ (ZV hm)
  walk_at "rd"
  refine ⟨a,_,((lo:Int)+hi) / 2,_,rfl,rfl,br.of (s2 _ _ ha),by rw[em];exact b8 (LL hg),_,rfl,y,lg,ss[(lo+hi) / 2],t1,rfl,hy,hz,ok.same s2,ht.same s2,e0,fun H3 s3=>?_⟩
  walk_at "rd"
  refine bC (fun y1=>?_) (fun y1=>?_)
  ·walk_at "rd"
   have e1:((lo:Int)+hi) / 2+1=(((lo+hi) / 2+1:Nat):Int):=by omega
   refine ⟨hi - ((lo+hi) / 2+1),by omega,(lo+hi) / 2+1,hi,_,by rw[<-e1];rfl,rfl,by omega,h2,fun k s e hk=>?_,h4,s2.trans s3⟩
   by_cases q1:k=(lo+hi) / 2
   ·subst q1
    rw[hg]at e
    cases e
    exact y1
   ·obtain ⟨Bq,ek⟩:=Kx.mp e
    have QJ:=key k ((lo+hi) / 2) Bq hm (by omega)
    rw[ek]at QJ
    cases r:a_ (jO y (2*lg) s) (jO y (2*lg) t1)
    ·have:=L2.tU _ _ _ r QJ
     rw[this]at y1
     cases y1
    ·rfl
  ·walk_at "rd"
   have y2:a_ (jO y (2*lg) ss[(lo+hi) / 2]) (jO y (2*lg) t1)=false:=by simpa using y1
   refine ⟨(lo+hi) / 2 - lo,by omega,lo,(lo+hi) / 2,_,by rw[<-em];rfl,rfl,by omega,by omega,h3,fun k s e hk=>?_,s2.trans s3⟩
   by_cases q1:k=(lo+hi) / 2
   ·subst q1
    rw[hg]at e
    cases e
    exact y2
   ·obtain ⟨Bq,ek⟩:=Kx.mp e
    have QJ:=key ((lo+hi) / 2) k hm Bq (by omega)
    rw[ek]at QJ
    exact L2.tU _ _ _ y2 QJ
 ·have z1: ¬(lo:Int)<hi:=fun w=>z (decide_eq_true w)
  walk_at "rd"
  have e:hi=lo:=by omega
  subst e
  exact q hi H2 h2 h3 h4 s2
theorem qN:bA P w K mg base eF 5 M3 NL ["words","ways","band"] (jW K aX aQ):=by
 have uU:=qL (P:=P) (w:=w) (base:=base) T
 have qO:=qk (P:=P) (w:=w) (base:=base) T
 have qm:=nN (P:=P) (w:=w) (base:=base) T
 refine T.Rr.fn.ok eX (fun vs H Q E h=>pN h) (fun cn A outer s H vs Q E hr h=>?_)
 refine ⟨_,(ag (aq (i:=3) eX.nd rfl (Or.inl rfl) (dq ae))
   (ag (bT PassesOwn.never rfl (dW K rfl (ak uU (hr.mono (by decide)) rfl T.Ri.mg T.Ri.fn.kp T.Ri.bd .nil az (aa (pv 0) (aa (pv 2) ae)))) (aK (i:=4) eX.nd rfl (Or.inl rfl)) (ag (aq (i:=5) eX.nd rfl (Or.inl rfl) (ak qO (hr.mono (by decide)) rfl T.Rq.mg T.Rq.fn.kp T.Rq.bd .nil az (aa (pv 0) (aa (pv 1) (aa (pv 4) ae)))))
   (ai (cj (bz K rfl ZK PySem.F.slot_list_insert PySem.F.type_list_insert BK (pv 3) (aa (ak qm (hr.mono (by decide)) rfl T.Rp.mg T.Rp.fn.kp T.Rp.bd .nil az (aa (pv 3) (aa (pv 5) ae))) (aa (pv 5) ae)))))))
   (ai (aE (cR (dX K rfl) rfl T.z_tuple boot_tuple (aa (cu ["seen"] [none] (dW K rfl (pv 3)) trivial (fun _ _ _ _=>(aK (i:=0) (by decide+kernel:List.Nodup (["seen"]:List Str)) rfl (Or.inl rfl))) (fun _ _ _ _=>gA) (fun _ _ _ _=>(bL K rfl (pv 0) rfl))) ae)))))),?_⟩
 obtain ⟨y,lg,wt,vt,ws,lQ,band,rfl,hy,hz,jK,Us,xD,hb,RU,x4,QK,q⟩:=h
 have hs:(100000:Nat)<sizeLine:=by decide
 walk_at "rd"
 intro a na
 have s0:=ao.upd (o:= .lst []) na
 refine ⟨_,rfl,_,rfl,wt,ws,band,rfl,s0 _ _ jK,Us,fun w hw=>⟨fun c hc=>hy.lt c ((xD w hw).1.bR c hc),(xD w hw).2⟩,hb,fun b ps H1 nb BM uS j4 s1=>?_⟩
 have Gy:=s0.trans s1
 have Ym:b≠a:=fun z=>by rw[z,ah]at nb;cases nb
 have Yn:ps.length<=48:=by
  have h1:(ps.map Pr.pair).length<=48:=by
   rw[j4]
   have:=jk band (fun w hw=>(xD w hw).2) ws.length (Q3 _)
   omega
  rwa [UX]at h1
 have pin: ∀p∈ps, ∃w,ws[p.c]? =some w/\p.i<w.length/\yT band (rd w p.i)=true:=fun p hp=>by
  have hm:p.pair∈c_ band ws ws.length:=by rw[<-j4];exact ZN.mpr ⟨p,hp,rfl⟩
  exact y_ hm
 refine ⟨b,rfl,⟨_,br.of BM⟩,?_⟩
 refine gM (K:=K) (a:=b) (xs:=rX ps) (fun k σ H'=> ∃(ss:List Sn) (sv nv:Option V),σ=[some (.ref wt),some (.ref vt),some (.str (S [band])),some (.ref a),sv,nv]/\H' a=some (.lst (AW ss))/\(∀s∈ss,jf H' aX aQ y lg s/\rd s.u s.p=band/\ ∃w,ws[s.c]? =some w/\y8 w s.c s.i s/\s.i<w.length)/\(ss.map fun s=>(s.c,s.i)).Perm ((ps.take k).map Pr.pair)/\Cm y (2*lg) ss/\aN a H1 H')
  ⟨[],none,none,rfl,s1 _ _ ah,fun _ h=>absurd h Zw, .nil,List.Pairwise.nil,aN.refl _ _⟩ (fun k σ H' _ ⟨_,_,_,_,_,_,_,_,h⟩=>br.of (h _ _ BM Ym)) ?_ ?_
 ·rintro k x σ H2 hx ⟨ss,sv,nv,rfl,ha,FV,uO,Of,s2⟩
  obtain ⟨p,hp,rfl⟩:=ES hx
  have hk:k<ps.length:=(Kx.mp hp).1
  have QL:=Zx hp
  obtain ⟨w,hw,hi,ho⟩:=pin p QL
  have Yo:=Zx hw
  have Jq:p.c<lQ.length:=by rw[x4];exact (Kx.mp hw).1
  have bW:=QK p.c w lQ[p.c] hw (Kw Jq)
  have go: ∀c o,H c=some o->H2 c=some o:=fun c o e=>s2 _ _ (Gy c o e) (ar e na)
  have Ut:=(uS p QL).tp
  have Yp:p.t≠a:=fun z=>by rw[z,s1 _ _ ah]at Ut;cases Ut
  have Uu:=s2 _ _ Ut Yp
  have Yq:ss.length=k:=by
   have:=uO.length_eq
   rw[UX,UX,ZD]at this
   omega
  refine ⟨_,rfl,_,rfl,_,rfl,y,lg,wt,vt,p.t,w,ws,lQ,lQ[p.c],p.c,p.i,rfl,hy,go _ _ jK,go _ _ RU,Uu,hw,Kw Jq,bW.same go,hi,fun s H3 JR kx V1 Zq s3=>?_⟩
  have PR:=JR.band hy (xD w Yo).1 hi hb ho
  refine ⟨_,rfl, .inl ⟨rfl,_,br.of (s3 _ _ ha)⟩,_,rfl,_,rfl,y,lg,a,ss,s,rfl,hy,hz,s3 _ _ ha,fun t ht=>⟨(FV t ht).1.same s3,by rw[(FV t ht).2.1,PR]⟩,V1,Of,by omega,fun n H4 hn h1 h2 s4=>?_⟩
  have V2:=s4 _ _ (s3 _ _ ha)
  refine ⟨_,rfl,a,_,n,_,rfl,rfl,V2,by rw[lD];exact hn,by rw[lD];omega,?_⟩
  have e1:(AW ss).take n++V.ref s.a::(AW ss).drop n=AW (ss.take n++s::ss.drop n):=by
   unfold AW
   rw[WC,Qcs,ZJ,Qdb]
  rw[e1]
  have su: ∀t,jf H4 aX aQ y lg t->jf (L2.upd H4 a (.lst (AW (ss.take n++s::ss.drop n)))) aX aQ y lg t:=fun t ot=>by
   have ne: ∀{c:Addr} {o:HO},H4 c=some o->(∀l,o≠ .lst l)->c≠a:=fun {c o} e no z=>by rw[z,V2]at e;exact no _ (ZG e).symm
   obtain ⟨dx,eo⟩:=ot.ob
   obtain ⟨dw,ew⟩:=ot.wy.ob
   exact ⟨⟨dx,by rw[ay (ne eo (fun l z=>by cases z))];exact eo⟩,by rw[ay (ne ot.st (fun l z=>by cases z))];exact ot.st,⟨⟨dw,by rw[ay (ne ew (fun l z=>by cases z))];exact ew⟩,ot.wy.sw,ot.wy.uz,ot.wy.lz,ot.wy.rt⟩,ot.pz⟩
  refine ⟨ss.take n++s::ss.drop n,_,_,rfl,ah,fun t ht=>?_,?_,LM Of h1 h2,fun c o e z=>by rw[ay z];exact s4 _ _ (s3 _ _ (s2 c o e z))⟩
  ·have:t=s\/t∈ss:=by
    rcases Zz.mp ht with r | r
    ·exact .inr (Qa8 r)
    ·rcases Y5.mp r with r | r
     ·exact .inl r
     ·exact .inr (Qbv r)
   rcases this with r | r
   ·subst r
    refine ⟨su _ (V1.same s4),PR,w,?_,?_,?_⟩
    ·rw[JR.ec];exact hw
    ·rw[JR.ec,JR.ei];exact JR
    ·rw[JR.ei];exact hi
   ·exact ⟨su _ (((FV t r).1.same s3).same s4),(FV t r).2⟩
  ·rw[WC,ZJ, <-take_snoc hp,WC,JR.ec,JR.ei]
   have p1:(ss.take n).map (fun s=>(s.c,s.i))++(p.c,p.i)::(ss.drop n).map (fun s=>(s.c,s.i)) |>.Perm ((p.c,p.i)::ss.map fun s=>(s.c,s.i)):=by
    refine List.perm_middle.trans (List.Perm.cons _ ?_)
    rw[<-WC,Qaa]
   exact p1.trans ((List.Perm.cons _ uO).trans (List.perm_append_singleton _ _).symm)
 ·rintro σ H2 ⟨ss,sv,nv,rfl,ha,FV,uO,Of,s2⟩
  rw[uw,Qad,j4]at uO
  have Yq:ss.length<=48:=by
   have:=uO.length_eq
   rw[UX, <-j4,UX]at this
   omega
  have qH:ao H H2:=fun c o e=>s2 _ _ (Gy c o e) (ar e na)
  refine ⟨_,rfl,a,rfl,⟨_,br.of ha⟩,?_⟩
  refine l_ (K:=K) (a:=a) (xs:=AW ss) (fun i acc H'=>H'=H2/\acc=(ss.take i).map fun s=>V.ref s.t) (by rw[lD];omega) (fun i acc H' h=>by rw[h.1];exact br.of ha) ⟨rfl,rfl⟩ ?_ ?_
  ·rintro i x acc H3 Nx hi hx hl ⟨rfl,rfl⟩ nx
   obtain ⟨t,ht,rfl⟩:=Ij hx
   obtain ⟨dx,e⟩:=(FV t (Zx ht)).1.ob
   refine ⟨trivial,eW ⟨_,rfl,t.a,aQ,dx,_,_,rfl,e,T.dI,T.n_Seen_strand,sd,nx _ _ (by simpa using hl) ⟨rfl,?_⟩⟩⟩
   rw[<-take_snoc ht,WC]
   rfl
  ·rintro acc H3 D hl ⟨rfl,rfl⟩ hD
   rw[lD,Qad]
   refine ⟨D,_,rfl, .inl ⟨br.of ah,fun t nt=>?_⟩⟩
   have sA:=(ao.upd (o:= .lst (ss.map fun s=>V.ref s.t)) hD).trans (ao.upd (o:= .tup (ss.map fun s=>V.ref s.t)) nt)
   have ep:(ss.map fun s=>(⟨s.t,s.c,s.i⟩:Pr)).map Pr.pair=ss.map fun s=>(s.c,s.i):=by rw[Qaf];rfl
   refine q t (ss.map fun s=>(⟨s.t,s.c,s.i⟩:Pr)) _ (ao.free (qH.trans (ao.upd hD)) nt) (by rw[ah];unfold rX;rw[Qaf];rfl) (fun p hp=>?_) (by rw[ep];exact uO) ?_ (qH.trans sA)
   ·obtain ⟨s,SY,rfl⟩:=ZN.mp hp
    obtain ⟨ok,_,w,hw,_,hi⟩:=FV s SY
    have h1:=(Kx.mp hw).1
    have h2:=(xD w (Zx hw)).2
    exact ⟨sA _ _ ok.st,by show s.c<1000;omega,by show s.i<1000;omega⟩
   ·rw[ep]
    unfold Fs
    rw[Qao]
    refine Qb7 (fun {s t} h1 h2 h=>?_) Of
    obtain ⟨o1,_,w1,e1,i1,l1⟩:=FV s h1
    obtain ⟨o2,_,w2,e2,i2,l2⟩:=FV t h2
    have g1:ws.getD s.c []=w1:=by rw[Y3,e1];rfl
    have g2:ws.getD t.c []=w2:=by rw[Y3,e2];rfl
    rw[<-AX hy (xD w1 (Zx e1)).1 l1 g1 i1 o1.wy.rt, <-AX hy (xD w2 (Zx e2)).1 l2 g2 i2 o2.wy.rt]
    exact h
theorem IH:bA P w K mg base eF 5 MV NB ["word"] (Ab K):=by
 have uV:=A0 (P:=P) (w:=w) (base:=base) T
 refine T.Rm.fn.ok oh (fun vs H Q E h=>D6 h) (fun cn A outer s H vs Q E hr h=>?_)
 refine ⟨_,(ag (aq (i:=1) oh.nd rfl (Or.inl rfl) (ak uV (hr.mono (by decide)) rfl T.Gu.mg T.Gu.fn.kp T.Gu.bd .nil az (aa (pv 0) ae)))
   (ag (bT PassesOwn.never rfl (lU rfl T.z_range (aa aj (aa (aA aU (aB aI rfl T.z_len WG (aa (pv 1) ae)) aj) ae))) (aK (i:=2) oh.nd rfl (Or.inl rfl)) (ag (aq (i:=3) oh.nd rfl (Or.inl rfl) (aA dE (aB aI rfl T.z_len WG (aa (pv 1) ae)) (pv 2)))
   (ai (bF (aG gB (aA nS (bj iU (pv 1) bY (bc (pv 2))) (pv 3)) (pv 1) (aL _)) (ai (aE (bD (aa (bj iU (pv 1) bY (bc (pv 2))) (aa (pv 3) ae))))) aV))))
   (ai (aE (bD (aa (j8 [] (by decide+kernel)) (aa aj ae))))))),?_⟩
 obtain ⟨l,rfl,hl,hz,q⟩:=h
 have hs:(100000:Nat)<sizeLine:=by decide
 walk_at "wk"
 intro H1 s1
 have hw:(dP l).length<=1000:=ZW (BW l) hz
 generalize dP l=c at hw q ⊢
 have XF:c.length<=sizeLine:=by omega
 walk_at "wk"
 refine ⟨_,_,rfl,⟨by decide,by decide,by omega,by omega⟩,?_⟩
 refine dM (fun i σ H'=>H'=H1/\(∀j,1<=j->j<=i-> ¬eh c j)/\ ∃sv tv,σ=[some (.str (S l)),some (.str (S c)),sv,tv]) ⟨rfl,fun j h1 h2=>by omega,none,none,rfl⟩ ?_ ?_
 ·rintro i σ H2 hi ⟨rfl,C9,sv,tv,rfl⟩
  have e1:(1:Int)+(i:Int)=((i+1:Nat):Int):=by omega
  rw[e1]
  have e2:(c.length:Int) / ((i+1:Nat):Int)=((c.length / (i+1):Nat):Int):=(Qcr _ _).symm
  have hd:=Qeg c.length (i+1)
  have hmul:(c.take (i+1)).length*(c.length / (i+1))<=sizeLine:=by
   have h1:(c.take (i+1)).length<=i+1:=by rw[ZD];omega
   have h2:=Nat.mul_div_le c.length (i+1)
   have h3:=Qdu (c.length / (i+1)) h1
   omega
  walk_at "wk"
  refine ⟨⟨by rw[e2];exact Qc3 _,by rw[e2];exact Int.ofNat_le.mpr (ZW hd (by omega:c.length<=1000000))⟩,by rw[e2,cD,WB];exact hmul,?_⟩
  walk_at "wk"
  refine bC (fun z=>?_) (fun z=>?_)
  ·have z1:eh c (i+1):=by
    have:=of_decide_eq_true z
    rw[e2,cD,WB]at this
    exact this
   walk_at "wk"
   intro p np
   refine q p (i+1) _ (ao.free s1 np) ?_ (.inr ⟨by omega,by omega,z1,fun j j1 j2=>C9 j j1 (by omega)⟩) (s1.trans (ao.upd np))
   rw[ah]
   unfold Ju
   rw[<-cD, <-e2]
  ·have z1: ¬eh c (i+1):=fun y=>z (decide_eq_true (by
    rw[e2,cD,WB]
    exact y))
   refine ⟨rfl,fun j j1 j2=>?_,_,_,rfl⟩
   by_cases y:j=i+1
   ·rw[y];exact z1
   ·exact C9 j j1 (by omega)
 ·rintro σ H2 ⟨rfl,C9,sv,tv,rfl⟩
  have hc:c=[]:=by
   by_cases z:c=[]
   ·exact z
   ·have hl:0<c.length:=U0.mpr z
    exact absurd (rJ c z) (C9 _ hl (by omega))
  subst hc
  walk_at "wk"
  intro p np
  exact q p 0 _ (ao.free s1 np) (by rw[ah];rfl) (.inl ⟨rfl,rfl⟩) (s1.trans (ao.upd np))
theorem FW:bA P w K mg base eF 6 jX xa ["self","yard","word","longest"] (wX K aX):=by
 have Md:=IH (P:=P) (w:=w) (base:=base) T
 have uV:=A0 (P:=P) (w:=w) (base:=base) T
 have qp:=sH (P:=P) (w:=w) (base:=base) T
 have qq:=nK (P:=P) (w:=w) (base:=base) T
 refine T.Qp.ok qc (fun vs H Q E h=>Ck h) (fun cn A outer s H vs Q E hr h=>?_)
 refine ⟨_,(ag (iR (pv 0) (aB aI rfl T.z_len WG (aa (pv 2) ae)) rfl)
   (ag (iR (pv 0) (aB aI rfl T.z_len WG (aa (aT (bp K rfl) (ak Md (hr.mono (by decide)) rfl T.Rm.mg T.Rm.fn.kp T.Rm.bd .nil az (aa (pv 2) ae)) aj (fun _ _=>rfl)) ae)) rfl)
   (ag (iR (pv 0) (fK tH (ak uV (hr.mono (by decide)) rfl T.Gu.mg T.Gu.fn.kp T.Gu.bd .nil az (aa (pv 2) ae)) (ak uV (hr.mono (by decide)) rfl T.Gu.mg T.Gu.fn.kp T.Gu.bd .nil az (aa (ak qp (hr.mono (by decide)) rfl T.F1.mg T.F1.fn.kp T.F1.bd .nil az (aa (pv 2) ae)) ae)) (aL _)) rfl)
   (ag (aq (i:=4) qc.nd rfl (Or.inl rfl) (bz K rfl ZE Qbt Qbs (iX K rfl) (j8 [] (by decide+kernel)) (aa (cu ["place","yard","word"] [none,some 1,some 2] (eJ rfl T.z_range (aa (aB aI rfl T.z_len WG (aa (pv 2) ae)) ae)) ⟨⟨rfl,rfl,by first | exact .inl rfl | exact .inr rfl⟩,⟨⟨rfl,rfl,by first | exact .inl rfl | exact .inr rfl⟩,trivial⟩⟩ (fun _ _ _ _=>(aK (i:=0) (by decide+kernel:List.Nodup (["place","yard","word"]:List Str)) rfl (Or.inl rfl))) (fun _ _ _ _=>gA) (fun _ _ _ _=>(cR BJ rfl T.z_str boot_str (aa (ak qq (hr.mono (by decide)) rfl T.Rn.mg T.Rn.fn.kp T.Rn.bd .nil az (aa (pv 1) (aa (pv 2) (aa (pv 0) ae)))) ae)))) ae)))
   (ag (aq (i:=5) qc.nd rfl (Or.inl rfl) (aA aU aj (aA dE (pv 3) (aB (Bd rfl) rfl T.z_max boot_max (aa (aB aI rfl T.z_len WG (aa (pv 2) ae)) (aa aj ae))))))
   (ag (iR (pv 0) (aA nS (pv 4) (pv 5)) rfl)
   (ai (iR (pv 0) (aA nS (Hi (pv 4) (bc (jP gz aj))) (pv 5)) rfl)))))))),?_⟩
 obtain ⟨x,dx,y,w',lg,rfl,hx,hy,hz,hw,x4,RW,q⟩:=h
 have hs:(100000:Nat)<sizeLine:=by decide
 have cV: ∀c∈w',Lt c:=fun c hc=>hy.lt c (hw.bR c hc)
 have h8: ∀c∈w',c<128:=fun c hc=>(cV c hc).lt
 have ht:=hw.gK hy
 have Yr: ∀c∈gK w',Lt c:=fun c hc=>hy.lt c (ht.bR c hc)
 have h1:1<=w'.length:=U0.mpr hw.ne
 have rl:=lC (lg:=lg) h1
 obtain ⟨rt,RX⟩:=Ai hw.ne
 refine ⟨_,rfl,w',rfl,by omega,_,rfl,x,aX,dx,_,rfl,hx,T.gu,T.n_Way_size,by show 0<1000;decide,?_⟩
 refine ⟨_,rfl,w',rfl,cV,by omega,fun p1 s1 H1 n1 tQ Jr QI=>?_⟩
 obtain ⟨er,el⟩:=B4 hy hw Jr RX
 subst er
 have et:((dP w').take s1).length=s1:=by
  rw[ZD,el]
  rcases RX with ⟨z,_⟩ | ⟨_,h2,_⟩
  ·exact absurd z hw.ne
  ·omega
 have Ys:s1<=w'.length:=by
  rcases RX with ⟨z,_⟩ | ⟨_,h2,_⟩
  ·exact absurd z hw.ne
  ·exact h2
 have Yt:=QI _ _ (ah (H:=H) (a:=x))
 refine ⟨p1,_,0,_,rfl,rfl,bV.of tQ,rfl,_,rfl,by rw[et];omega,_,rfl,x,aX,dx,_,rfl,Yt,T.gu,T.n_Way_root_size,ZZ (da _ _ _) (by show 0+1<1000;decide),?_⟩
 rw[et]
 refine ⟨_,rfl,w',rfl,cV,by omega,fun H2 s2=>⟨_,rfl,w',rfl,h8,by omega,fun H3 s3=>⟨gK w',rfl,Yr,by rw[ck];omega,fun H4 s4=>?_⟩⟩⟩
 have RY:=s2.trans (s3.trans s4)
 have Ob:=RY _ _ (ah (a:=x))
 refine ⟨_,_,rfl,rfl,_,rfl,x,aX,dx,_,rfl,Ob,T.gu,T.n_Way_leads,ZZ (da _ _ _) (ZZ (Qay (da _ _ _)) (by show 0+1+1<1000;decide)),?_⟩
 have Yu:decide (dP w'<dP (gK w'))=leads w':=by
  unfold leads
  rw[hw.dP hy,ht.dP hy]
 refine ⟨rfl,_,rfl,w',rfl,by omega,_,rfl,by omega,by omega,?_⟩
 rw[WB]
 refine vA (fun i acc H'=>ao _ H'/\acc=dz ((stx y w').take i)) (by omega) ⟨ao.refl _,rfl⟩ ?_ ?_
 ·rintro i acc H5 Nx hi hl ⟨s5,rfl⟩ nx
  refine ⟨⟨rfl,rfl,trivial⟩,eW ⟨_,rfl,_,rfl,_,rfl,y,w',i,by rw[Qa7];rfl,hy,hz,hw,by omega,hi,fun n H6 hn Zr s6=>⟨n,rfl,by omega,nx _ _ (by simpa using hl) ⟨s5.trans s6,?_⟩⟩⟩⟩
  have eg:(stx y w')[i]? =some (48+n):=by
   unfold stx
   rw[ZA,List.getElem?_range hi]
   show some (xx (cst y w' i))=_
   rw[hn]
   unfold xx
   congr 1
  rw[LJ n (by omega),dZ,take_snoc eg]
 ·rintro acc H5 D hl ⟨s5,rfl⟩ hD
  have QA:(stx y w').take w'.length=stx y w':=ZO (by rw[di];exact Q3 _)
  rw[QA]at hl ⊢
  refine ⟨D,(stx y w').map fun c=>[c],rfl,rfl,br.of (by rw[ah, <-gP]),by rw[BQ,di];omega,?_⟩
  rw[rD]
  have V3:=s5.trans (ao.upd (o:= .lst (dz (stx y w'))) hD)
  have CP:=V3 _ _ (ah (a:=x))
  have Uv:(if (1:Int)>(w'.length:Int) then (1:Int) else (w'.length:Int))=(max w'.length 1:Nat):=by split<;>omega
  have Me:(3:Int)+(lg:Int) / (if (1:Int)>(w'.length:Int) then (1:Int) else (w'.length:Int))=(je lg w'.length:Nat):=by
   rw[Uv]
   unfold je
   rw[Z7,Qcr]
   rfl
  have rb:je lg w'.length<=1003:=by unfold je;have:=Qeg lg (max w'.length 1);omega
  refine ⟨_,rfl,_,rfl,w',rfl,by omega,_,_,rfl,_,_,rfl,rfl,⟨by rw[Uv];omega,by rw[Uv];omega⟩,_,_,rfl,rfl,?_⟩
  have l3: ∀(a b c:V),(dS "leads" a (dS "root_size" b (dS "size" c []))).length<=3:=fun a b c=>ZW (da _ _ _) (Qay (ZW (da _ _ _) (Qay (da _ _ _))))
  refine ⟨_,rfl,_,rfl,stx y w',_,rfl,rfl,⟨by rw[Me];omega,by rw[Me];omega⟩,by rw[Me,WB,di];omega,_,rfl,x,aX,dx,_,rfl,CP,T.gu,T.n_Way_onward,ZZ (l3 _ _ _) (by decide),?_⟩
  refine ⟨_,rfl,1,rfl,_,rfl,rfl,stx y w',rfl,by rw[di];omega,_,rfl,(stx y w').reverse,_,rfl,rfl,⟨by rw[Me];omega,by rw[Me];omega⟩,by rw[Me,WB,Z0,di];omega,_,rfl,x,aX,dx,_,rfl,ah,T.gu,T.n_Way_backward,ZZ (da _ _ _) (ZZ (Qay (l3 _ _ _)) (by decide)),?_⟩
  refine q s1 _ RX ?_ fun b o eb zb=>?_
  ·rw[ah]
   unfold mE
   rw[<-Yu,Me,WB]
  ·rw[ay zb,ay zb]
   refine V3 _ _ ?_
   rw[ay zb]
   refine RY _ _ ?_
   rw[ay zb]
   refine QI _ _ ?_
   rw[ay zb]
   exact eb
theorem A2:bA P w K mg base eF 8 M4 NM ["yard","words"] (AY K):=by
 have qp:=sH (P:=P) (w:=w) (base:=base) T
 have uQ:=xh (P:=P) (w:=w) (base:=base) T
 have uW:=qN (P:=P) (w:=w) (base:=base) T
 have A3:=FW (P:=P) (w:=w) (base:=base) T
 refine T.LS.fn.ok uM (fun vs H Q E h=>Ft h) (fun cn A outer s H vs Q E hr h=>?_)
 refine ⟨_,(ag (aq (i:=2) uM.nd rfl (Or.inr rfl) (Hk K rfl rfl rfl T.z_max (aa (cu ["word"] [none] (g_ K rfl (pv 1)) trivial (fun _ _ _ _=>(aK (i:=0) (by decide+kernel:List.Nodup (["word"]:List Str)) rfl (Or.inl rfl))) (fun _ _ _ _=>gA) (fun _ _ _ _=>(aB aI rfl T.z_len WG (aa (pv 0) ae)))) ae)))
   (ag (aq (i:=3) uM.nd rfl (Or.inr rfl) (cu ["word","yard","longest"] [none,some 0,some 2] (g_ K rfl (pv 1)) ⟨⟨rfl,rfl,by first | exact .inl rfl | exact .inr rfl⟩,⟨⟨rfl,rfl,by first | exact .inl rfl | exact .inr rfl⟩,trivial⟩⟩ (fun _ _ _ _=>(aK (i:=0) (by decide+kernel:List.Nodup (["word","yard","longest"]:List Str)) rfl (Or.inl rfl))) (fun _ _ _ _=>gA) (fun _ _ _ _=>(bD (aa (nQ T.JL A3 (hr.mono (by decide)) rfl T.JK T.JM .nil az (aa (pv 1) (aa (pv 0) (aa (pv 2) ae)))) (aa (nQ T.JL A3 (hr.mono (by decide)) rfl T.JK T.JM .nil az (aa (pv 1) (aa (ak qp (hr.mono (by decide)) rfl T.F1.mg T.F1.fn.kp T.F1.bd .nil az (aa (pv 0) ae)) (aa (pv 2) ae)))) ae))))))
   (ai (aE (bD (aa (cR (dX K rfl) rfl T.z_tuple boot_tuple (aa (pv 1) ae)) (aa (cR (dX K rfl) rfl T.z_tuple boot_tuple (aa (cu ["band","words","ways"] [none,some 1,some 3] (tF (ak uQ (hr.mono (by decide)) rfl T.F2.mg T.F2.fn.kp T.F2.bd .nil az (aa (pv 0) ae))) ⟨⟨rfl,rfl,by first | exact .inl rfl | exact .inr rfl⟩,⟨⟨rfl,rfl,by first | exact .inl rfl | exact .inr rfl⟩,trivial⟩⟩ (fun _ _ _ _=>(aK (i:=0) (by decide+kernel:List.Nodup (["band","words","ways"]:List Str)) rfl (Or.inl rfl))) (fun _ _ _ _=>gA) (fun _ _ _ _=>(ak uW (hr.mono (by decide)) rfl T.Rr.mg T.Rr.fn.kp T.Rr.bd .nil az (aa (pv 1) (aa (pv 2) (aa (pv 0) ae)))))) ae)) ae))))))),?_⟩
 obtain ⟨y,wt,ws,rfl,hy,hz,jK,Us,xD,q⟩:=h
 have hs:(100000:Nat)<sizeLine:=by decide
 have RF: ∀c∈y,c<128:=Js hy.lt
 have XW:=jb hy
 obtain ⟨lg,Yv,Yw,RW⟩:=za fun w hw=>(xD w hw).2
 refine ⟨_,rfl,wt,rfl,⟨_,bV.of jK⟩,?_⟩
 refine kK (K:=K) (a:=wt) (xs:=gL ws) (fun i acc H'=>H'=H/\acc=(Im (ws.take i)).map V.int) (by rw[bM];omega) (fun i acc H' h=>by rw[h.1];exact bV.of jK) ⟨rfl,rfl⟩ ?_ ?_
 ·rintro i x acc H1 Nx hi hx hl ⟨rfl,rfl⟩ nx
  rw[bM]at hi
  rw[ke hi]at hx
  cases hx
  have Mf:=xD ws[i] (ZV hi)
  refine ⟨trivial,eW ⟨_,rfl,ws[i],rfl,by omega,nx _ _ (by simpa using hl) ⟨rfl,?_⟩⟩⟩
  rw[<-take_snoc (Kw hi)]
  unfold Im
  rw[WC,WC]
  rfl
 ·rintro acc H1 D hl ⟨rfl,rfl⟩ hD
  rw[bM,Qad]
  refine ⟨D,Im ws,rfl,br.of ah,?_⟩
  rw[Yv]
  have sD:=ao.upd (o:= .lst ((Im ws).map V.int)) hD
  refine ⟨_,rfl,wt,rfl,⟨_,bV.of (sD _ _ jK)⟩,?_⟩
  refine kK (K:=K) (a:=wt) (xs:=gL ws) (fun i acc H'=>ao H1 H'/\ ∃lQ:List Wp,acc=Gs lQ/\lQ.length=i/\ ∀(c:Nat) (w:List Nat) (p:Wp),ws[c]? =some w->lQ[c]? =some p->uD H' aX y lg w p) (by rw[bM];omega) (fun i acc H' h=>bV.of (h.1 _ _ jK)) ⟨sD,[],rfl,rfl,fun c w p _ h=>by simp at h⟩ ?_ ?_
  ·rintro i x acc H2 Nx hi hx GW ⟨s2,lQ,rfl,x4,QK⟩ nx
   rw[bM]at hi
   rw[ke hi]at hx
   cases hx
   have Mf:=xD ws[i] (ZV hi)
   have V4:ws[i]? =some ws[i]:=Kw hi
   have QM:=RW ws[i] (ZV hi)
   generalize ws[i]=w' at Mf V4 QM ⊢
   have h8: ∀c∈w',c<128:=fun c hc=>(hy.lt c (Mf.1.bR c hc)).lt
   refine ⟨⟨rfl,rfl,trivial⟩,eW ?_⟩
   refine ⟨_,rfl,_,rfl,_,rfl,fun x1 V5 Yx Uw ne1=>⟨x1,V5,y,w',lg,rfl,ah,hy,hz,Mf.1,QM,by omega,fun r H3 hr T5 Yy=>⟨rfl,?_⟩⟩⟩
   have Yz:=sj Yx Uw Yy
   refine ⟨_,rfl,_,rfl,w',rfl,h8,by omega,fun H4 QN=>⟨_,rfl,fun x2 V6 YA Ux ne2=>⟨x2,V6,y,gK w',lg,rfl,ah,hy,hz,Mf.1.gK hy,by rw[ck];exact QM,by omega,fun r2 H5 P7 CP YB=>⟨rfl,?_⟩⟩⟩⟩
   have YC:=sj YA Ux YB
   refine ⟨by show 2<=sizeLine;decide,fun t nt=>?_⟩
   have V7:=ao.upd (o:= .tup [.ref x1, .ref x2]) nt
   have Og:=QN.trans (YC.trans V7)
   have all:=Yz.trans Og
   refine nx _ _ (by simpa using GW) ⟨s2.trans all,lQ++[⟨t,x1,x2,r,r2⟩],Fp lQ ⟨t,x1,x2,r,r2⟩,by rw[UY,x4];rfl,Ip x4 (fun c w p a b=>(QK c w p a b).same all) V4 ⟨ah,⟨⟨V5,Og _ _ T5⟩,Mf.1,QM,by omega,hr⟩,⟨⟨V6,V7 _ _ CP⟩,Mf.1.gK hy,by rw[ck];exact QM,by omega,P7⟩⟩⟩
  ·rintro acc H2 D2 GW ⟨s2,lQ,rfl,x4,QK⟩ YD
   rw[bM]at x4
   have V8:=ao.upd (o:= .lst (Gs lQ)) YD
   have qH:=s2.trans V8
   refine ⟨_,rfl,wt,_,rfl, .inr ⟨bV.of (qH _ _ jK),?_⟩⟩
   refine ⟨_,rfl,y,rfl,RF,by omega,fun l' H3 zG T4 s3=>?_⟩
   have el:=AG zG T4
   subst el
   refine ⟨_,rfl,?_⟩
   have Gx:=qH.trans s3
   have YE:=s3 _ _ (ah (H:=H2) (a:=D2) (o:=HO.lst (Gs lQ)))
   refine kI (xs:=dz (fQ y)) (fun i acc H'=>ao H3 H'/\ ∃os:List Od,acc=HY os/\(∀o∈os,Cb H' o)/\os.length=i/\(∀(j:Nat) (o:Od) (b:Nat),os[j]? =some o->(fQ y)[j]? =some b->(o.ps.map Pr.pair).Perm (c_ b ws ws.length))/\ ∀o∈os,Fs y ws (2*lg) (o.ps.map Pr.pair)) (by rw[aY];omega) ⟨ao.refl _,[],rfl,fun _ h=>absurd h Zw,rfl,fun j o b h=>by simp at h,fun _ h=>absurd h Zw⟩ ?_ ?_
   ·rintro i x acc H4 Nx hi hx qf ⟨s4,os,rfl,P4,BC,Uy,Uz⟩ nx
    obtain ⟨b,hb,rfl⟩:=g9 hx
    have YF:=w4 hy (Zx hb)
    refine ⟨⟨rfl,rfl,trivial⟩,eW ?_⟩
    refine ⟨_,rfl,_,rfl,_,rfl,y,lg,wt,D2,ws,lQ,b,rfl,hy,hz,s4 _ _ (Gx _ _ jK),Us,xD,YF,s4 _ _ YE,x4,fun c w p a1 a2=>(QK c w p a1 a2).same (V8.trans (s3.trans s4)),fun t ps H5 nt ht uS uO Of s5=>?_⟩
    have VY:ps.length<=100:=by
     have h1:=uO.length_eq
     have h2:=jk b (fun w hw=>(xD w hw).2) ws.length (Q3 _)
     rw[UX]at h1
     omega
    refine nx _ _ (by simpa using qf) ⟨s4.trans s5,os++[⟨t,ps⟩],ET os ⟨t,ps⟩,fun o ho=>?_,by rw[UY,BC];rfl,fun j o b' ho Jy=>?_,fun o ho=>?_⟩
    ·rcases Zz.mp ho with g | g
     ·exact (P4 o g).same s5
     ·rw[UZ.mp g]
      exact ⟨ht,uS,VY⟩
    ·by_cases z:j<os.length
     ·rw[Qab z]at ho
      exact Uy j o b' ho Jy
     ·rw[Qaq (by omega)]at ho
      have:j=i:=by
       have:=(Kx.mp ho).1
       simp at this
       omega
      subst this
      rw[BC,Nat.sub_self]at ho
      cases ho
      rw[hb]at Jy
      cases Jy
      exact uO
    ·rcases Zz.mp ho with g | g
     ·exact Uz o g
     ·rw[UZ.mp g]
      exact Of
   ·rintro acc H4 D3 qf ⟨s4,os,rfl,P4,BC,Uy,Uz⟩ YG
    rw[aY]at BC
    refine ⟨D3,_,rfl, .inl ⟨br.of ah,fun t nt=>?_⟩⟩
    refine ⟨by show 2<=sizeLine;decide,fun dr UA=>?_⟩
    have sA:=(ao.upd (o:= .lst (HY os)) YG).trans ((ao.upd (o:= .tup (HY os)) nt).trans (ao.upd (o:= .tup [.ref wt, .ref t]) UA))
    have YH:t≠dr:=fun z=>by rw[<-z,ah]at UA;cases UA
    have IG:=Gx.trans s4
    exact q dr os _ ⟨⟨wt,t,ah,sA _ _ (IG _ _ jK),by rw[ay YH,ah]⟩,fun o ho=>(P4 o ho).same sA⟩ ⟨2*lg,fun w hw v hv=>by have:=RW w hw;have:=RW v hv;omega,⟨BC,Uy⟩,Uz⟩ (IG.trans sA)
theorem xm:bA P w K mg base eF 9 M5 NN ["yard","words"] (w6 K):=by
 have cA:=gv (P:=P) (w:=w) (base:=base) T
 have mV:=qg (P:=P) (w:=w) (base:=base) T
 have zy:=A2 (P:=P) (w:=w) (base:=base) T
 refine T.LU.fn.ok FQ (fun vs H Q E h=>Cn h) (fun cn A outer s H vs Q E hr h=>?_)
 refine ⟨_,(ai (aE (ak cA (hr.mono (by decide)) rfl T.Co.mg T.Co.fn.kp T.Co.bd .nil az (aa (ak mV (hr.mono (by decide)) rfl T.F7.mg T.F7.fn.kp T.F7.bd .nil az (aa (pv 0) (aa (ak zy (hr.mono (by decide)) rfl T.LS.mg T.LS.fn.kp T.LS.bd .nil az (aa (pv 0) (aa (pv 1) ae))) ae))) ae)))),?_⟩
 obtain ⟨y,wt,ws,rfl,hy,hz,hk,jK,q⟩:=h
 refine ⟨_,rfl,_,rfl,_,rfl,y,wt,ws,rfl,hy,hz,jK,hk.uY,hk.sw,fun dr os H1 MJ ht s1=>?_⟩
 obtain ⟨nd,e⟩:=Fz hy (fun w hw=>(hk.sw w hw).1) ht
 obtain ⟨M,_,ok,_⟩:=id ht
 refine ⟨y,dr,ws,os,rfl,hy,hz,hk.ok,ok,MJ,fun p qs H2 np hp ID A1 s2=>?_⟩
 have hl:=sk (os:=os) hk
 have RG:qs.length<=24:=by rw[<-A1,UX]at hl;omega
 refine ⟨p,qs,rfl,hp,ID,RG,by rw[A1];exact nd,fun H3 s3=>?_⟩
 rw[A1]
 have e':((cl (fun x z=>iL x z||iL z x) (jd (fI y ws os)):Nat):Int)=FA y ws:=e
 rw[e']
 exact q H3 (s1.trans (s2.trans s3))
theorem Mg:bA P w K mg base eF 1 Nq N6 ["_law_found","_law_due"] (FD K):=by
 refine T.Gw.fn.ok L7 (fun vs H Q E h=>Iv h) (fun cn A outer s H vs Q E hr h=>?_)
 refine ⟨_,(ai (aE (CU (aB o4 rfl T.z_isinstance boot_isinstance (aa (pv 0) (aa (zJ (v:= .ty "int") rfl T.z_int boot_int rfl) ae))) (CU (J9 (aB o4 rfl T.z_isinstance boot_isinstance (aa (pv 0) (aa (zJ (v:= .ty "bool") rfl T.z_bool boot_bool rfl) ae)))) (J6 (fK fV (pv 0) (pv 1) (aL _))))))),?_⟩
 obtain ⟨i,rfl,q⟩:=h
 refine ⟨_,rfl,i, .inl ⟨rfl,_,rfl,?_⟩⟩
 refine (if_pos rfl).mpr ?_
 refine ⟨_,rfl,i, .inr ⟨rfl,_,rfl,_,rfl,?_⟩⟩
 refine (if_pos rfl).mpr ?_
 refine ⟨_,rfl,_,rfl,i,i,rfl,rfl,?_⟩
 show Q (.bl (decide (i=i))) H
 rw[decide_eq_true rfl]
 exact q
theorem CC:bA P w K mg base eF 1 Nl N2 ["_law_word"] (sx K):=by
 refine T.Rz.fn.ok sF (fun vs H Q E h=>zd h) (fun cn A outer s H vs Q E hr h=>?_)
 refine ⟨_,(ag (bT PassesOwn.never rfl (lU rfl T.z_range (aa aj (aa (aB aI rfl T.z_len WG (aa (pv 0) ae)) ae))) (aK (i:=1) sF.nd rfl (Or.inl rfl)) (ai (bF (PW.pt (fu (aG fV (aA dm (aB aI rfl T.z_len WG (aa (pv 0) ae)) (pv 1)) aj (aL _)) (dR (aG gB (pv 0) (aA nS (bj iU (pv 0) bY (bc (pv 1))) (aA dE (aB aI rfl T.z_len WG (aa (pv 0) ae)) (pv 1))) (aL _))))) (ai (aE (aA dE (aB aI rfl T.z_len WG (aa (pv 0) ae)) (pv 1)))) aV)))
   (ai (aE aj))),?_⟩
 obtain ⟨w',rfl,hn,hz,q⟩:=h
 have hs:(100000:Nat)<sizeLine:=by decide
 have h1:1<=w'.length:=U0.mpr hn
 have lR:w'.length<=sizeLine:=by omega
 walk_at "wk"
 refine ⟨_,_,rfl,⟨by decide,by decide,by omega,by omega⟩,?_⟩
 refine dM (fun i σ H'=>H'=H/\(∀j,1<=j->j<=i-> ¬eh w' j)/\ ∃sv,σ=[some (.str (S w')),sv]) ⟨rfl,fun j h1 h2=>by omega,none,rfl⟩ ?_ ?_
 ·rintro i σ H2 hi ⟨rfl,C9,sv,rfl⟩
  have e1:(1:Int)+(i:Int)=((i+1:Nat):Int):=by omega
  rw[e1]
  have e2:(w'.length:Int) / ((i+1:Nat):Int)=((w'.length / (i+1):Nat):Int):=(Qcr _ _).symm
  have e3:(w'.length:Int)%((i+1:Nat):Int)=((w'.length%(i+1):Nat):Int):=(Qcq _ _).symm
  have hd:=Qeg w'.length (i+1)
  have hmul:(w'.take (i+1)).length*(w'.length / (i+1))<=sizeLine:=by
   have h1:(w'.take (i+1)).length<=i+1:=by rw[ZD];omega
   have h2:=Nat.mul_div_le w'.length (i+1)
   have h3:=Qdu (w'.length / (i+1)) h1
   omega
  have next: ¬eh w' (i+1)-> ∀j,1<=j->j<=i+1-> ¬eh w' j:=fun z1 j j1 j2=>by
   by_cases y:j=i+1
   ·rw[y];exact z1
   ·exact C9 j j1 (by omega)
  have lN:i+1<w'.length:=by omega
  walk_at "wk"
  refine bC (fun zm=>?_) (fun zm=>?_)
  ·walk_at "wk"
   refine ⟨⟨by rw[e2];exact Qc3 _,by rw[e2];exact Int.ofNat_le.mpr (ZW hd (by omega:w'.length<=1000000))⟩,by rw[e2,cD,WB];exact hmul,?_⟩
   walk_at "wk"
   refine bC (fun z=>?_) (fun z=>?_)
   ·have z1:eh w' (i+1):=by
     have:=of_decide_eq_true z
     rw[e2,cD,WB]at this
     exact this.symm
    walk_at "wk"
    show Q (.int ((w'.length:Int) / ((i+1:Nat):Int))) H2
    rw[e2]
    exact q _ (.inr ⟨by omega,by omega,z1,fun j j1 j2=>C9 j j1 (by omega)⟩)
   ·have z1: ¬eh w' (i+1):=fun y=>z (decide_eq_true (by
     rw[e2,cD,WB]
     exact (show dB _ _=_ from y).symm))
    exact ⟨rfl,next z1,_,rfl⟩
  ·refine ⟨rfl,next fun y=>zm (decide_eq_true ?_),_,rfl⟩
   have hp:=HG (by omega) y
   have hm:=Qca w'.length (i+1)
   rw[Qbb]at hm
   rw[e3]
   omega
 ·rintro σ H2 ⟨rfl,C9,sv,rfl⟩
  have k:=q w'.length (.inr ⟨h1,Q3 _,rJ w' hn,fun j j1 j2=>C9 j j1 (by omega)⟩)
  rw[Nat.div_self h1]at k
  exact k
theorem CD:bA P w K mg base eF 5 Nn N4 ["_law_yard_here","_law_words_here"] (sC K):=by
 have mU:=qj (P:=P) (w:=w) (base:=base) T
 have FX:=CC (P:=P) (w:=w) (base:=base) T
 refine T.LZ.fn.ok Cq (fun vs H Q E h=>ze h) (fun cn A outer s H vs Q E hr h=>?_)
 refine ⟨_,(ai (aE (aA aU (aB (aW K rfl) rfl T.z_len WG (aa (ak mU (hr.mono (by decide)) rfl T.LY.mg T.LY.fn.kp T.LY.bd .nil az (aa (pv 0) (aa (pv 1) ae))) ae)) (aB (BH K rfl rfl) rfl T.z_sum boot_sum (aa (cu ["_law_word"] [none] (g_ K rfl (pv 1)) trivial (fun _ _ _ _=>(aK (i:=0) (by decide+kernel:List.Nodup (["_law_word"]:List Str)) rfl (Or.inl rfl))) (fun _ _ _ _=>gA) (fun _ _ _ _=>(aA bN (ak FX (hr.mono (by decide)) rfl T.Rz.mg T.Rz.fn.kp T.Rz.bd .nil az (aa (pv 0) ae)) aj))) ae))))),?_⟩
 obtain ⟨y,wt,ws,rfl,hy,hz,hk,jK,q⟩:=h
 have hs:(100000:Nat)<sizeLine:=by decide
 refine ⟨_,rfl,_,rfl,y,wt,ws,rfl,hy,hz,hk,jK,fun p L H1 np hp hL RQ s1=>?_⟩
 have VX:L.length=(jM y ws).length:=by rw[<-UX (f:=Fa.x),RQ]
 refine ⟨p,_,rfl, .inl (br.of hp),?_⟩
 have QO:=s1 _ _ jK
 have Bl:=hk.uY
 refine ⟨_,rfl,wt,rfl,⟨_,bV.of QO⟩,?_⟩
 let g:Nat->Int:=fun c=>(((ws.getD c []).length / Qm (ws.getD c []):Nat):Int) - 1
 refine kK (K:=K) (a:=wt) (xs:=gL ws) (fun i acc H'=>ao H1 H'/\acc=((List.range i).map g).map V.int) (by rw[bM];omega) (fun i acc H' h=>bV.of (h.1 _ _ QO)) ⟨ao.refl _,rfl⟩ ?_ ?_
 ·rintro i x acc H4 Nx hi hx qf ⟨s4,rfl⟩ nx
  rw[bM]at hi
  rw[getD_at hi]at hx
  cases hx
  have hw:=hk.sw _ (getD_in hi)
  refine ⟨trivial,eW ?_⟩
  refine ⟨_,rfl,_,rfl,hw.1.ne,by omega,fun r hr=>?_⟩
  refine ⟨_,_,rfl,rfl,nx _ _ (by rw[UY];exact Qay qf) ⟨s4,?_⟩⟩
  rw[wd hw.1.ne hr (y9 hw.1.ne),Qag,WC,WC]
  rfl
 ·rintro acc H4 D4 qf ⟨s4,rfl⟩ RS
  have k:=q _ (s1.trans (s4.trans (ao.upd (o:= .lst (((List.range (gL ws).length).map g).map V.int)) RS)))
  refine ⟨D4,_,rfl,br.of ah,_,_,rfl,rfl,?_⟩
  have e: ∀n,((List.range n).map g).sum=sm n fun c=>g c.toNat:=fun n=>by
   induction n with
   | zero=>rfl
   | succ n ih=>
    rw[Qag,WC,Qdo,ih]
    simp[sm]
  have e2:FA y ws=((h_ L).length:Nat)+((List.range (gL ws).length).map g).sum:=by
   rw[e,bM,fO,VX]
   rfl
  rw[e2]at k
  exact k
theorem FY:bA P w K mg base eF 2 Na NT ["_law_box_here","_law_few","_law_top"] (vR K):=by
 have cK:=lJ (P:=P) (w:=w) (base:=base) T
 have bJ:=fS (P:=P) (w:=w) (base:=base) T
 refine T.Rv.fn.ok fj (fun vs H Q E h=>BP h) (fun cn A outer s H vs Q E hr h=>?_)
 refine ⟨_,(ag (aq (i:=3) fj.nd rfl (Or.inl rfl) (cR (yf rfl) rfl T.z_list boot_list (aa (j8 [97,98,99,100,101,102,103,104,105,106,107,108,109,110,111,112,113,114,115,116,117,118,119,120,121,122] (by decide+kernel)) ae)))
   (ag (aq (i:=4) fj.nd rfl (Or.inl rfl) (dq ae))
   (ag (bT PassesOwn.never rfl (eJ rfl T.z_range (aa (aA aU (pv 1) (ak cK (hr.mono (by decide)) rfl T.iJ.mg T.iJ.fn.kp T.iJ.bd .nil az (aa (pv 0) (aa (aA aU (aA bN (pv 2) (pv 1)) aj) ae)))) ae)) (aK (i:=5) fj.nd rfl (Or.inl rfl)) (ag (aq (i:=6) fj.nd rfl (Or.inl rfl) (bz K rfl ZK Qcn Qcm oG (pv 3) (aa (ak cK (hr.mono (by decide)) rfl T.iJ.mg T.iJ.fn.kp T.iJ.bd .nil az (aa (pv 0) (aa (aB (aW K rfl) rfl T.z_len WG (aa (pv 3) ae)) ae))) ae)))
   (ai (aq (i:=4) fj.nd rfl (Or.inl rfl) (aA Dh (pv 4) (dq (aa (pv 6) (aa (ak bJ (hr.mono (by decide)) rfl T.g6.mg T.g6.fn.kp T.g6.bd .nil az (aa (pv 6) ae)) ae))))))))
   (ag (aq (i:=7) fj.nd rfl (Or.inl rfl) (j8 [] (by decide+kernel)))
   (ag (dN PassesOwn.never (aG mW (aB (aW K rfl) rfl T.z_len WG (aa (pv 4) ae)) aj (aL _)) (ai (aq (i:=7) fj.nd rfl (Or.inl rfl) (aA fM (pv 7) (bz K rfl ZK Qcn Qcm oG (pv 4) (aa (ak cK (hr.mono (by decide)) rfl T.iJ.mg T.iJ.fn.kp T.iJ.bd .nil az (aa (pv 0) (aa (aB (aW K rfl) rfl T.z_len WG (aa (pv 4) ae)) ae))) ae))))))
   (ai (aE (pv 7)))))))),?_⟩
 obtain ⟨b,uY,top,rfl,hb,h1,h2,h3,q⟩:=h
 have hs:(100000:Nat)<sizeLine:=by decide
 walk_at "rd"
 intro p1 n1
 walk_at "rd"
 intro p2 n2
 have s1:ao H (upd (upd H p1 (.lst (dz bf))) p2 (.lst [])):=(ao.upd n1).trans (ao.upd n2)
 have RZ:p1≠b:=hb.ne n1
 have Ur:H p2=none:=ao.free (ao.upd n1) n2
 have YI:p2≠b:=hb.ne Ur
 have V9:p1≠p2:=fun z=>by rw[<-z,ah]at n2;cases n2
 walk_at "rd"
 refine ⟨b,_,rfl,hb.same s1,by omega,by omega,fun n H1 hn BM s2=>?_⟩
 walk_at "rd"
 refine dM (fun i σ H'=> ∃(pe:Addr) (L E:List Nat) (kv lv:Option V),σ=[some (.ref b),some (.int uY),some (.int top),some (.ref p1),some (.ref pe),kv,lv,none]/\K5 i L E/\H' p1=some (.lst (dz L))/\H' pe=some (.lst (dz E))/\p1≠pe/\H pe=none/\cP H' b/\aN b H H')
  ⟨p2,bf,[],none,none,rfl,K5.start,s2 _ _ (by rw[ay V9,ah];rfl) RZ,s2 _ _ ah YI,V9,Ur,BM,(aN.of s1).trans s2⟩ ?_ ?_
 ·rintro i σ H2 hi ⟨pe,L,E,kv,lv,rfl,yw,tQ,j4,V_,R0,m4,s3⟩
  have Qg:i<26:=by simp at hi;omega
  have Ul:=yw.ll
  have R1:=yw.el
  refine ⟨_,rfl, .inl ⟨rfl,_,br.of tQ⟩,?_⟩
  walk_at "rd"
  refine ⟨p1,_,rfl, .inl (br.of tQ),b,_,rfl,m4,by rw[aY];omega,by rw[aY];omega,fun r H3 Vy u7 s4=>?_⟩
  rw[aY]at Vy
  have N9:r<L.length:=by omega
  have UB:=s4 _ _ tQ RZ
  have UC:=s4 _ _ j4 (hb.ne R0)
  refine ⟨p1,_,_,r,_,rfl,rfl,UB,by omega,by omega,by rw[aY,seqIndex_of (by omega) (by omega),WB],DU N9,?_⟩
  rw[rE]
  have cV:Lt L[r]:= .inl (yw.sm _ (ZV N9))
  have QP:(upd H3 p1 (.lst (dz (L.eraseIdx r)))) pe=some (.lst (dz E)):=by rw[ay (Ne.symm V_)];exact UC
  walk_at "rd"
  intro p3 n3
  have e3:pe≠p3:=ar QP n3
  refine ⟨pe,p3,_,_,rfl,rfl,by rw[ay e3];exact QP,ah,by rw[aY];show E.length+2<=_;omega,fun p4 n4=>?_⟩
  have Wa:H p3=none:=((s3.trans s4).dY n1).none n3 (u7.dY RZ |>.ne n3)
  have Wb:=(u7.dY (o:= .lst (dz (L.eraseIdx r))) RZ).dY (o:= .lst [V.str (S [L[r]]),V.str (S [aF L[r]])]) (hb.ne Wa)
  have Wc:=((s3.trans s4).dY (o:= .lst (dz (L.eraseIdx r))) n1).dY (o:= .lst [V.str (S [L[r]]),V.str (S [aF L[r]])]) Wa
  have UD:H p4=none:=Wc.none n4 (Wb.ne n4)
  have We:p1≠p4:=fun z=>by rw[<-z]at n4;by_cases z3:p1=p3<;>simp[upd,z3]at n4
  have YJ:p1≠p3:=fun z=>by rw[<-z,ah]at n3;cases n3
  refine ⟨p4,L.eraseIdx r,E++[L[r],aF L[r]],_,_,rfl,yw.turn Qg N9,by rw[ay We,ay YJ,ah],?_,We,UD,Wb.dY (hb.ne UD),Wc.dY UD⟩
  rw[ah, <-Ho]
  rfl
 ·rintro σ H2 ⟨pe,L,E,kv,lv,rfl,yw,tQ,j4,V_,R0,m4,s3⟩
  have R1:=yw.el
  have Ge:=hb.ne R0
  walk_at "rd"
  refine ⟨fun m σ H'=> ∃F E':List Nat,σ=[some (.ref b),some (.int uY),some (.int top),some (.ref p1),some (.ref pe),kv,lv,some (.str (S F))]/\m=E'.length/\(F++E').Perm E/\H' pe=some (.lst (dz E'))/\cP H' b/\aN b H H',⟨_,[],E,rfl,rfl,List.Perm.refl _,j4,m4,s3⟩,?_⟩
  rintro m σ H3 ⟨F,E',rfl,rfl,uO,II,u7,s4⟩
  have hlen:=uO.length_eq
  rw[UY]at hlen
  have xN:(uY:Int)+n<=9:=by omega
  have YK:E.length<=100:=by rw[R1];omega
  walk_at "rd"
  refine ⟨pe,_,rfl, .inl (br.of II),_,_,rfl,rfl,_,rfl,bC (fun e=>?_) (fun e=>?_)⟩
  ·have e':(0:Int)<((dz E').length:Nat):=of_decide_eq_true e
   rw[aY]at e'
   refine ⟨_,rfl,_,rfl, .inl ⟨rfl,_,br.of II⟩,?_⟩
   walk_at "rd"
   refine ⟨pe,_,rfl, .inl (br.of II),b,_,rfl,u7,by rw[aY];omega,by rw[aY];omega,fun r H4 N9 CO s5=>?_⟩
   rw[aY]at N9
   have RD:r<E'.length:=by omega
   refine ⟨pe,_,_,r,_,rfl,rfl,s5 _ _ II Ge,by omega,by omega,by rw[aY,seqIndex_of (by omega) (by omega),WB],DU RD,?_⟩
   rw[rE]
   have hp:=kc (Kw RD)
   have jt:=hp.length_eq
   rw[ZQ]at jt
   refine ⟨F,_,rfl,rfl,by show F.length+1<=_;omega,(E'.eraseIdx r).length,by omega,F++[E'[r]],E'.eraseIdx r,rfl,rfl,?_,ah,CO.dY Ge,(s4.trans s5).dY R0⟩
   rw[Qat]
   exact (List.Perm.append_left F hp).trans uO
  ·have e':E'=[]:=by
    cases E' with
    | nil=>rfl
    | cons c r=>exact absurd (decide_eq_true (by rw[aY];show (0:Int)<((r.length+1:Nat):Int);omega)) e
   subst e'
   rw[Z3]at uO
   have GW:=uO.length_eq
   refine ⟨_,rfl,q F H3 (yw.yd.perm uO.symm) ?_ ?_ u7 s4⟩
   ·rw[GW,R1];omega
   ·rw[GW,R1];omega
theorem Mh:bA P w K mg base eF 10 M6 NO ["yard","word"] (FC K):=by
 have uX:=xm (P:=P) (w:=w) (base:=base) T
 refine T.Rt.fn.ok L3 (fun vs H Q E h=>len_own h) (fun cn A outer s H vs Q E hr h=>?_)
 refine ⟨_,(ai (aE (ak uX (hr.mono (by decide)) rfl T.LU.mg T.LU.fn.kp T.LU.bd .nil az (aa (pv 0) (aa (bD (aa (pv 1) ae)) ae))))),?_⟩
 obtain ⟨y,w',rfl,hy,hz,hw,lR,q⟩:=h
 refine ⟨_,rfl,_,rfl,by show 1<=sizeLine;decide,fun t nt=>?_⟩
 refine ⟨y,t,[w'],rfl,hy,hz,AZ hw lR,ah,fun H1 s1=>?_⟩
 exact q H1 ((ao.upd nt).trans s1)
theorem zA:bA P w K mg base eF 9 M7 NP ["yard","one","other"] (pQ K):=by
 have mV:=qg (P:=P) (w:=w) (base:=base) T
 have zy:=A2 (P:=P) (w:=w) (base:=base) T
 have cA:=gv (P:=P) (w:=w) (base:=base) T
 refine T.LV.fn.ok iu (fun vs H Q E h=>w_ h) (fun cn A outer s H vs Q E hr h=>?_)
 refine ⟨_,(ag (aq (i:=3) iu.nd rfl (Or.inl rfl) (ak mV (hr.mono (by decide)) rfl T.F7.mg T.F7.fn.kp T.F7.bd .nil az (aa (pv 0) (aa (ak zy (hr.mono (by decide)) rfl T.LS.mg T.LS.fn.kp T.LS.bd .nil az (aa (pv 0) (aa (bD (aa (pv 1) (aa (pv 2) ae))) ae))) ae))))
   (ag (aq (i:=4) iu.nd rfl (Or.inl rfl) (bj (kJ K rfl) (pv 3) bY (bc (aB aI rfl T.z_len WG (aa (pv 1) ae)))))
   (ag (aq (i:=5) iu.nd rfl (Or.inl rfl) (bj (kJ K rfl) (pv 3) (bc (aB aI rfl T.z_len WG (aa (pv 1) ae))) bY))
   (ai (aE (aA bN (aA bN (ak cA (hr.mono (by decide)) rfl T.Co.mg T.Co.fn.kp T.Co.bd .nil az (aa (pv 3) ae)) (ak cA (hr.mono (by decide)) rfl T.Co.mg T.Co.fn.kp T.Co.bd .nil az (aa (pv 4) ae))) (ak cA (hr.mono (by decide)) rfl T.Co.mg T.Co.fn.kp T.Co.bd .nil az (aa (pv 5) ae)))))))),?_⟩
 obtain ⟨y,w',v,rfl,hy,hz,hw,lR,hv,Uk,q⟩:=h
 have hs:(100000:Nat)<sizeLine:=by decide
 have hk:=An hw hv lR Uk
 refine ⟨_,rfl,_,rfl,_,rfl,_,rfl,by show 2<=sizeLine;decide,fun t nt=>?_⟩
 have st:=ao.upd (o:= .tup [.str (S w'), .str (S v)]) nt
 refine ⟨y,t,[w',v],rfl,hy,hz,ah,hk.uY,hk.sw,fun dr os H1 MJ ht s1=>?_⟩
 obtain ⟨e,sw,n0,n1,n2⟩:=LO hy hw hv ht
 obtain ⟨M,_,ok,_⟩:=id ht
 refine ⟨y,dr,[w',v],os,rfl,hy,hz,hk.ok,ok,MJ,fun p qs H2 np hp ID A1 s2=>?_⟩
 have hl:=sk (os:=os) hk
 have RG:qs.length<=24:=by rw[<-A1,UX]at hl;exact hl
 have c1:iS (nF qs) none (some (w'.length:Int))=nF (qs.take w'.length):=by
  show cut (nF qs) none (some ((w'.length:Nat):Int))=_
  rw[cD]
  unfold nF
  rw[Qcs]
 have c2:iS (nF qs) (some (w'.length:Int)) none=nF (qs.drop w'.length):=by
  show cut (nF qs) (some ((w'.length:Nat):Int)) none=_
  rw[d_]
  unfold nF
  rw[Qdb]
 refine ⟨_,rfl,_,rfl,w',rfl,by omega,_,rfl,p,_,rfl,br.of hp,fun p1 YL=>?_⟩
 rw[c1]
 have s3:=ao.upd (o:= .lst (nF (qs.take w'.length))) YL
 refine ⟨_,rfl,_,rfl,w',rfl,by omega,_,rfl,p,_,rfl,br.of (s3 _ _ hp),fun p2 YM=>?_⟩
 rw[c2]
 have s4:=ao.upd (o:= .lst (nF (qs.drop w'.length))) YM
 have QN:=s3.trans s4
 refine ⟨_,rfl,p,qs,rfl,QN _ _ hp,fun x hx=>(ID x hx).ts (ba.of QN),by omega,by rw[A1];exact n0,fun H5 s5=>?_⟩
 have tQ:H5 p1=some (.lst (nF (qs.take w'.length))):=s5 _ _ (s4 _ _ ah)
 have oW:H5 p2=some (.lst (nF (qs.drop w'.length))):=s5 _ _ ah
 have Og:=QN.trans s5
 refine ⟨_,rfl,p1,qs.take w'.length,rfl,tQ,fun x hx=>(ID x (Qa8 hx)).ts (ba.of Og),by rw[ZD];omega,by rw[Qcs,A1];exact n1,fun H6 s6=>?_⟩
 refine ⟨_,_,rfl,rfl,?_⟩
 refine ⟨_,rfl,p2,qs.drop w'.length,rfl,s6 _ _ oW,fun x hx=>(ID x (Qbv hx)).ts (ba.of (Og.trans s6)),by rw[ZL];omega,by rw[Qdb,A1];exact n2,fun H7 s7=>?_⟩
 refine ⟨_,_,rfl,rfl,?_⟩
 rw[Qcs,Qdb,A1]
 have kq:=q H7 (st.trans (s1.trans (s2.trans (Og.trans (s6.trans s7))))) sw
 rw[<-e]at kq
 exact kq
theorem CF:bA P w K mg base eF 11 Nr N7 ["_law_yard_here","_law_words_here"] (sE K):=by
 have FZ:=Mg (P:=P) (w:=w) (base:=base) T
 have uX:=xm (P:=P) (w:=w) (base:=base) T
 have xn:=CD (P:=P) (w:=w) (base:=base) T
 have QQ:=Mh (P:=P) (w:=w) (base:=base) T
 have zB:=xk (P:=P) (w:=w) (base:=base) T
 have sM:=zA (P:=P) (w:=w) (base:=base) T
 refine T.RC.fn.ok gY (fun vs H Q E h=>zf h) (fun cn A outer s H vs Q E hr h=>?_)
 refine ⟨_,(ag (bF (xF (eI (ak FZ (hr.mono (by decide)) rfl T.Gw.mg T.Gw.fn.kp T.Gw.bd .nil az (aa (ak uX (hr.mono (by decide)) rfl T.LU.mg T.LU.fn.kp T.LU.bd .nil az (aa (pv 0) (aa (pv 1) ae))) (aa (ak xn (hr.mono (by decide)) rfl T.LZ.mg T.LZ.fn.kp T.LZ.bd .nil az (aa (pv 0) (aa (pv 1) ae))) ae))))) (ai (aE oq)) aV)
   (ag (bT PassesOwn.never rfl (g_ K rfl (pv 1)) (aK (i:=2) gY.nd rfl (Or.inl rfl)) (ai (bF (xF (eI (ak FZ (hr.mono (by decide)) rfl T.Gw.mg T.Gw.fn.kp T.Gw.bd .nil az (aa (ak QQ (hr.mono (by decide)) rfl T.Rt.mg T.Rt.fn.kp T.Rt.bd .nil az (aa (pv 0) (aa (pv 2) ae))) (aa (ak xn (hr.mono (by decide)) rfl T.LZ.mg T.LZ.fn.kp T.LZ.bd .nil az (aa (pv 0) (aa (bD (aa (pv 2) ae)) ae))) ae))))) (ai (aE oq)) aV)))
   (ag (bT PassesOwn.never rfl (g_ K rfl (bj Hh (pv 1) bY (bc aj))) (aK (i:=3) gY.nd rfl (Or.inl rfl)) (ai (bT PassesOwn.never rfl (g_ K rfl (pv 1)) (aK (i:=4) gY.nd rfl (Or.inl rfl)) (ag (aq (i:=5) gY.nd rfl (Or.inl rfl) (ak zB (hr.mono (by decide)) rfl T.RB.mg T.RB.fn.kp T.RB.bd .nil az (aa (pv 0) (aa (pv 3) (aa (pv 4) ae)))))
   (ai (bF (PW.pt (zK (xF (eI (ak FZ (hr.mono (by decide)) rfl T.Gw.mg T.Gw.fn.kp T.Gw.bd .nil az (aa (ak sM (hr.mono (by decide)) rfl T.LV.mg T.LV.fn.kp T.LV.bd .nil az (aa (pv 0) (aa (pv 3) (aa (pv 4) ae)))) (aa (pv 5) ae))))) (sQ (aG KL (ak sM (hr.mono (by decide)) rfl T.LV.mg T.LV.fn.kp T.LV.bd .nil az (aa (pv 0) (aa (pv 4) (aa (pv 3) ae)))) (pv 5) (aL _))))) (ai (aE oq)) aV))))))
   (ai (aE oq))))),?_⟩
 obtain ⟨y,wt,ws,rfl,hy,hz,hk,jK,q⟩:=h
 have hs:(100000:Nat)<sizeLine:=by decide
 have Bl:=hk.uY
 refine ⟨_,rfl,_,rfl,y,wt,ws,rfl,hy,hz,hk,jK,fun H1 s1=>?_⟩
 refine ⟨_,rfl,_,rfl,y,wt,ws,rfl,hy,hz,hk,s1 _ _ jK,fun H2 s2=>?_⟩
 refine ⟨_,rfl,?_⟩
 refine ⟨_,rfl,DV rfl ?_⟩
 have qH:=s1.trans s2
 have tx: ∀{us:List (List Nat)} {i:Nat} {x:V},(gL us)[i]? =some x-> ∃w,w∈us/\x=V.str (S w):=fun {us i x} h=>by
  have hi:i<us.length:=by
   rw[<-bM us]
   exact (Kx.mp h).1
  rw[getD_at hi]at h
  exact ⟨_,getD_in hi,(ZG h).symm⟩
 refine ⟨_,rfl,wt,rfl,⟨_,bV.of (qH _ _ jK)⟩,?_⟩
 refine sU (K:=K) (a:=wt) (xs:=gL ws) (fun i σ H'=> ∃v2:Option V,σ=[some (.str (S y)),some (.ref wt),v2,none,none,none]/\ao H H') ⟨none,rfl,qH⟩ (fun i σ H' _ h=>bV.of (h.elim fun _ g=>g.2 _ _ jK)) ?_ ?_
 ·rintro i x σ H3 hx ⟨v2,rfl,s3⟩
  obtain ⟨u,hu,rfl⟩:=tx hx
  have sw:=hk.sw u hu
  refine ⟨_,rfl,_,rfl,y,u,rfl,hy,hz,sw.1,sw.2,fun H4 s4=>?_⟩
  refine ⟨_,rfl,_,rfl,by show 1<=sizeLine;decide,fun t nt=>?_⟩
  have s5:=ao.upd (o:= .tup [.str (S u)]) nt
  refine ⟨y,t,[u],rfl,hy,hz,AZ sw.1 sw.2,ah,fun H6 s6=>?_⟩
  refine ⟨_,rfl,_,rfl,DV rfl ?_⟩
  exact ⟨_,rfl,s3.trans (s4.trans (s5.trans s6))⟩
 ·rintro σ H3 ⟨v2,rfl,s3⟩
  refine ⟨_,rfl,_,rfl,wt,_,rfl,s3 _ _ jK,fun p H4 s4 hp=>?_⟩
  have IG:ao H H4:=fun c o e=>s4 c o (s3 c o e)
  have ec:iS (gL ws) none (some 2)=gL (ws.take 2):=by
   show cut (gL ws) none (some ((2:Nat):Int))=_
   rw[cD]
   unfold gL
   rw[Qcs]
  rw[ec]at hp
  refine ⟨p,rfl,⟨_,bV.of hp⟩,?_⟩
  refine sU (K:=K) (a:=p) (xs:=gL (ws.take 2)) (fun i σ H'=> ∃v3 v4 v5:Option V,σ=[some (.str (S y)),some (.ref wt),v2,v3,v4,v5]/\ao H4 H') ⟨none,none,none,rfl,ao.refl _⟩ (fun i σ H' _ h=>bV.of (by obtain ⟨_,_,_,_,g⟩:=h;exact g _ _ hp)) ?_ ?_
  ·rintro i x σ H5 hx ⟨v3,v4,v5,rfl,s5⟩
   obtain ⟨a,ha,rfl⟩:=tx hx
   have wa:=hk.sw a (Qa8 ha)
   refine ⟨_,rfl,wt,rfl,⟨_,bV.of (s5 _ _ (IG _ _ jK))⟩,?_⟩
   refine sU (K:=K) (a:=wt) (xs:=gL ws) (fun i σ H'=> ∃v4 v5:Option V,σ=[some (.str (S y)),some (.ref wt),v2,some (.str (S a)),v4,v5]/\ao H4 H') ⟨_,_,rfl,s5⟩ (fun i σ H' _ h=>bV.of (by obtain ⟨_,_,_,g⟩:=h;exact g _ _ (IG _ _ jK))) ?_ ?_
   ·rintro j x σ H6 hx ⟨v4,v5,rfl,s6⟩
    obtain ⟨b,hb,rfl⟩:=tx hx
    have wb:=hk.sw b hb
    refine ⟨_,rfl,_,rfl,_,rfl,y,a,b,rfl,hy,hz,wa.1,wa.2,wb.1,wb.2,fun H7 s7=>?_⟩
    refine ⟨_,rfl,_,rfl,_,rfl,y,a,b,rfl,hy,hz,wa.1,wa.2,wb.1,wb.2,fun H8 s8 _=>?_⟩
    refine ⟨_,rfl,_,rfl,_,rfl,DV rfl ?_⟩
    refine ⟨_,rfl,_,rfl,_,rfl,y,b,a,rfl,hy,hz,wb.1,wb.2,wa.1,wa.2,fun H9 s9 e9=>?_⟩
    refine ⟨_,rfl,_,_,rfl,rfl,_,rfl,DV ?_ ?_⟩
    ·rw[e9,decide_eq_true rfl];rfl
    ·exact ⟨_,_,rfl,s6.trans (s7.trans (s8.trans s9))⟩
   ·rintro σ H6 ⟨v4,v5,rfl,s6⟩
    exact ⟨_,_,_,rfl,s6⟩
  ·rintro σ H5 ⟨v3,v4,v5,rfl,s5⟩
   exact q _ (IG.trans s5)
theorem IJ:bA P w K mg base eF 1 M8 NQ ["_law_script","_law_k"] (z7 K):=by
 refine T.Ru.fn.ok lI (fun vs H Q E h=>DT h) (fun cn A outer s H vs Q E hr h=>?_)
 refine ⟨_,(ag (aq (i:=2) lI.nd rfl (Or.inl rfl) (aA aU (aA iQ aj (pv 1)) aj))
   (ag (bF (aG gN (pv 1) (aB (aW K rfl) rfl T.z_len WG (aa (pv 0) ae)) (aL _)) (ai (aq (i:=2) lI.nd rfl (Or.inl rfl) (aT (b9 K rfl) (pv 0) (pv 1) (fun _ _=>rfl)))) (ai (bF (aG mW (aB (aW K rfl) rfl T.z_len WG (aa (pv 0) ae)) aj (aL _)) (ai (aq (i:=2) lI.nd rfl (Or.inl rfl) (aA aU (pv 2) (aA iQ (aA dm (aT (b9 K rfl) (pv 0) (aA dm (pv 1) (aB (aW K rfl) rfl T.z_len WG (aa (pv 0) ae))) (fun _ _=>rfl)) aj) aj)))) aV)))
   (ag (aq (i:=3) lI.nd rfl (Or.inl rfl) (aA dm (aA CZ (aA aU (aA aU (aA dm (pv 2) aj) (aA iQ aj (pv 1))) aj) aj) aj))
   (ai (aE (dq (aa (aT (b9 K rfl) (dq (aa aj (aa (pv 2) ae))) (cR qS rfl T.z_int boot_int (aa (fK C2 (pv 2) (aA CZ aj aj) (aL _)) ae)) (fun _ _=>rfl)) (aa (aA aU (aA dm (pv 3) aj) aj) ae)))))))),?_⟩
 obtain ⟨a,ns,k,rfl,hS,hk,q⟩:=h
 have hp:(0:Int)<2147483629:=by decide
 walk_at "rd"
 refine ⟨a,_,rfl, .inl hS,?_⟩
 walk_at "rd"
 refine bC (fun e=>?_) (fun e=>?_)
 ·have e':(k:Int)<((ns.map V.int).length:Nat):=of_decide_eq_true e
  rw[UX]at e'
  obtain ⟨z,hz⟩:=z9 (ns:=ns) (i:=k) (by omega)
  walk_at "rd"
  refine ⟨a,_,k,_,rfl,rfl,hS,b8 hz,?_⟩
  walk_at "rd"
  refine fun p1 n1=>?_
  walk_at "rd"
  refine .inr ⟨_,rfl,?_⟩
  obtain ⟨y,hy⟩:=yx _ z
  refine ⟨p1,_,_,_,rfl,rfl,br.of ah,hy,?_⟩
  walk_at "rd"
  exact fun p2 n2=>q p2 _ (ao.free (ao.upd n1) n2) ⟨_,_,ah⟩ ((ao.upd n1).trans (ao.upd n2))
 ·walk_at "rd"
  refine ⟨a,_,rfl, .inl hS,?_⟩
  walk_at "rd"
  refine bC (fun e2=>?_) (fun e2=>?_)
  ·have e':(0:Int)<((ns.map V.int).length:Nat):=of_decide_eq_true e2
   have hl:(0:Int)<(ns.length:Int):=by rw[UX]at e';exact e'
   have m1:0<=(k:Int)%(ns.length:Int):=Qar _ (by omega)
   have m2:(k:Int)%(ns.length:Int)<(ns.length:Int):=Qak _ hl
   obtain ⟨z,hz⟩:=z9 (ns:=ns) (i:=((k:Int)%(ns.length:Int)).toNat) (by omega)
   have MO:oB (ns.map V.int) ((k:Int)%((ns.map V.int).length:Nat))=some (V.int z):=by
    have:=b8 hz
    rw[Int.toNat_of_nonneg m1]at this
    rw[UX]
    exact this
   walk_at "rd"
   refine ⟨a,_,rfl, .inl hS,?_⟩
   walk_at "rd"
   refine ⟨a,_,_,_,rfl,rfl,hS,MO,?_⟩
   walk_at "rd"
   refine fun p1 n1=>?_
   walk_at "rd"
   refine .inr ⟨_,rfl,?_⟩
   obtain ⟨y,hy⟩:=yx _ _
   refine ⟨p1,_,_,_,rfl,rfl,br.of ah,hy,?_⟩
   walk_at "rd"
   exact fun p2 n2=>q p2 _ (ao.free (ao.upd n1) n2) ⟨_,_,ah⟩ ((ao.upd n1).trans (ao.upd n2))
  ·walk_at "rd"
   refine fun p1 n1=>?_
   walk_at "rd"
   refine .inr ⟨_,rfl,?_⟩
   obtain ⟨y,hy⟩:=yx _ _
   refine ⟨p1,_,_,_,rfl,rfl,br.of ah,hy,?_⟩
   walk_at "rd"
   exact fun p2 n2=>q p2 _ (ao.free (ao.upd n1) n2) ⟨_,_,ah⟩ ((ao.upd n1).trans (ao.upd n2))
theorem Mi:bA P w K mg base eF 12 Nt N8 ["_law_script"] (lW K):=by
 have Mj:=IJ (P:=P) (w:=w) (base:=base) T
 have IK:=FY (P:=P) (w:=w) (base:=base) T
 have F_:=Ct (P:=P) (w:=w) (base:=base) T
 have Ga:=CF (P:=P) (w:=w) (base:=base) T
 refine T.XD.fn.ok qb (fun vs H Q E h=>Hn h) (fun cn A outer s H vs Q E hr h=>?_)
 refine ⟨_,(ag (aq (i:=1) qb.nd rfl (Or.inl rfl) (dq ae))
   (ag (bT PassesOwn.never rfl (eJ rfl T.z_range (aa (aA aU aj (aB (aW K rfl) rfl T.z_len WG (aa (bj (kJ K rfl) (pv 0) (bc aj) (bc aj)) ae))) ae)) (aK (i:=2) qb.nd rfl (Or.inl rfl)) (ag (aq (i:=3) qb.nd rfl (Or.inl rfl) (ak Mj (hr.mono (by decide)) rfl T.Ru.mg T.Ru.fn.kp T.Ru.bd .nil az (aa (pv 0) (aa (pv 2) ae))))
   (ag (aq (i:=4) qb.nd rfl (Or.inl rfl) (ak IK (hr.mono (by decide)) rfl T.Rv.mg T.Rv.fn.kp T.Rv.bd .nil az (aa (pv 3) (aa aj (aa aj ae)))))
   (ai (cj (bz K rfl ZK Z9 Z8 cq (pv 1) (aa (bD (aa (pv 4) (aa (ak F_ (hr.mono (by decide)) rfl T.RA.mg T.RA.fn.kp T.RA.bd .nil az (aa (pv 3) (aa (pv 4) (aa aj (aa aj ae))))) ae))) ae)))))))
   (ai (aE (aB (Bv K rfl rfl) rfl T.z_all boot_all (aa (cu ["_law_yard_here","_law_words_here"] [none,none] (dW K rfl (aA Dh (pv 1) (bj (kJ K rfl) (pv 1) bY (bc aj)))) trivial (fun _ _ _ _=>(fN (n:=2) K rfl rfl (bI (aK (i:=0) (by decide+kernel:List.Nodup (["_law_yard_here","_law_words_here"]:List Str)) rfl (Or.inl rfl)) (bI (aK (i:=1) (by decide+kernel:List.Nodup (["_law_yard_here","_law_words_here"]:List Str)) rfl (Or.inl rfl)) fJ)))) (fun _ _ _ _=>gA) (fun _ _ _ _=>(ak Ga (hr.mono (by decide)) rfl T.RC.mg T.RC.fn.kp T.RC.bd .nil az (aa (pv 0) (aa (pv 1) ae))))) ae)))))),?_⟩
 obtain ⟨a,ns,rfl,hS,hl,q⟩:=h
 have hs:(100000:Nat)<sizeLine:=by decide
 walk_at "wk"
 intro t nt
 have s0:=ao.upd (o:= .lst []) nt
 have Oa:upd H t (.lst []) t=some (.lst (jl [])):=ah
 generalize upd H t (.lst [])=H0 at s0 Oa ⊢
 have YN:=s0.seq hS
 refine ⟨_,rfl,_,rfl,_,rfl,a,_,rfl,YN,fun p1 n1=>?_⟩
 have Jq:=iT (ns.map V.int) (some 2) (some 6)
 have TN:(iS (ns.map V.int) (some 2) (some 6)).length<=4:=by unfold iS;rw[ZD];exact ZW (Nat.min_le_left _ _) (by have e1: ∀n d:Nat,HT.cM n d (some ((2:Nat):Int))=min 2 n:=fun n d=>HT.gi _ _ _;have e2: ∀n d:Nat,HT.cM n d (some ((6:Nat):Int))=min 6 n:=fun n d=>HT.gi _ _ _;show HT.cM _ _ (some ((6:Nat):Int)) - HT.cM _ _ (some ((2:Nat):Int))<=4;rw[e1,e2];omega)
 refine ⟨p1,_,rfl, .inl (br.of ah),_,_,rfl,rfl,?_⟩
 have s1:=ao.upd (o:= .lst (iS (ns.map V.int) (some 2) (some 6))) n1
 have zo:=s1 _ _ Oa
 have Gy:=s0.trans s1
 generalize (iS (ns.map V.int) (some 2) (some 6)).length=m at TN ⊢
 generalize upd H0 p1 (.lst (iS (ns.map V.int) (some 2) (some 6)))=H1 at s1 zo Gy ⊢
 refine ⟨_,rfl,by omega,by omega,?_⟩
 rw[show ((2:Int)+(m:Int)).toNat=2+m by omega]
 have YO:aN t H H1:=aN.of Gy
 refine dM (fun i σ H'=> ∃(ks:List Ask) (v2 v3 v4:Option V),σ=[some (.ref a),some (.ref t),v2,v3,v4]/\H' t=some (.lst (jl ks))/\ks.length<=2*i/\(∀k∈ks,pT H' k)/\aN t H H')
  ⟨[],none,none,none,rfl,zo,Y6 _,fun _ h=>absurd h Zw,YO⟩ ?_ ?_
 ·rintro i σ H2 hi ⟨ks,v2,v3,v4,rfl,xC,T9,hk,s2⟩
  have MG:br K H2 a (ns.map V.int):=TF hS nt s2
  refine ⟨_,rfl,_,rfl,a,ns,i,by rw[Qa7];rfl,MG,by omega,fun b H3 nb bx s3=>?_⟩
  refine ⟨_,rfl,b,1,4,rfl,bx,by decide,by decide,by decide,fun y H4 hy JN JO YQ s4=>?_⟩
  have RY:ao H2 H4:=aN.same nb s3 s4
  refine ⟨_,rfl, .inl ⟨rfl,_,br.of (RY _ _ xC)⟩,_,rfl,_,rfl,_,rfl,b,y,4,6,rfl,YQ,hy,by omega,by omega,by decide,by decide,by decide,by decide,by decide,fun wt ws H5 Zs Zt jK ok Wf s5=>?_⟩
  have UE:ao H2 H5:=aN.same nb s3 (s4.trans s5)
  have tb:t≠b:=fun z=>by rw[z,nb]at xC;cases xC
  have CB:=UE _ _ xC
  refine ⟨by show 2<=sizeLine;decide,fun a1 n1=>?_⟩
  have Zu:a1≠t:=fun z=>by rw[z,CB]at n1;cases n1
  have YR:=Wf.ne n1
  refine ⟨t,jl ks,_,rfl,rfl,(ao.upd n1) _ _ CB,by rw[lH];omega,?_⟩
  have UG:=Iy (x:=⟨a1,y,wt,ws⟩) xC hk (ba.of UE) CB n1 rfl jK hy (by omega) ok
  have FT:upd (upd H5 a1 (.tup [.str (S y), .ref wt])) t (.lst (jl ks++[V.ref a1])) t=some (.lst (jl (ks++[⟨a1,y,wt,ws⟩]))):=by rw[ah, <-FE]
  have YS:upd (upd H5 a1 (.tup [.str (S y), .ref wt])) t (.lst (jl ks++[V.ref a1])) wt=some (.tup (gL ws)):=by
   rw[ay (fun z=>by rw[z,CB]at jK;cases jK)]
   exact (ao.upd n1) _ _ jK
  have YT:cP (upd (upd H5 a1 (.tup [.str (S y), .ref wt])) t (.lst (jl ks++[V.ref a1]))) b:=(Wf.dY YR).dY tb
  have s6:aN t H (upd (upd H5 a1 (.tup [.str (S y), .ref wt])) t (.lst (jl ks++[V.ref a1]))):=fun c o e z=>by
   rw[ay z]
   exact (ao.upd n1) _ _ (UE _ _ (s2 c o e z))
  have YU:(ks++[(⟨a1,y,wt,ws⟩:Ask)]).length<=2*i+1:=by rw[UY];show ks.length+1<=_;omega
  generalize upd (upd H5 a1 (.tup [.str (S y), .ref wt])) t (.lst (jl ks++[V.ref a1]))=H6 at UG FT YS YT s6 ⊢
  generalize ks++[(⟨a1,y,wt,ws⟩:Ask)]=us at UG FT YU
  exact ⟨us,_,_,_,rfl,FT,by omega,UG,s6⟩
 ·rintro σ H2 ⟨ks,v2,v3,v4,rfl,xC,T9,hk,s2⟩
  refine ⟨_,rfl,_,rfl,_,rfl,t,_,rfl,br.of xC,fun p2 n2=>?_⟩
  rw[Iz]
  have YV:(cut ks none (some 1)).length<=ks.length:=G2 _ _ _
  have YW: ∀k∈ks++cut ks none (some 1),k∈ks:=fun k Bq=>(Zz.mp Bq).elim id Hs
  have Zv:t≠p2:=ar xC n2
  refine ⟨t,p2,_,_,rfl,rfl,(ao.upd n2) _ _ xC,ah,by rw[lH,lH];omega,fun p3 n3=>?_⟩
  rw[Iw]
  have UH: ∀k∈ks++cut ks none (some 1),pT (upd (upd H2 p2 (.lst (jl (cut ks none (some 1))))) p3 (.lst (jl (ks++cut ks none (some 1))))) k:=fun k Bq=>(hk k (YW k Bq)).ts ((ba.dY n2).trans (ba.dY n3))
  have u9:upd (upd H2 p2 (.lst (jl (cut ks none (some 1))))) p3 (.lst (jl (ks++cut ks none (some 1)))) p3=some (.lst (jl (ks++cut ks none (some 1)))):=ah
  have Cs:(ks++cut ks none (some 1)).length<=100:=by rw[UY];omega
  generalize upd (upd H2 p2 (.lst (jl (cut ks none (some 1))))) p3 (.lst (jl (ks++cut ks none (some 1))))=H3 at UH u9 ⊢
  generalize ks++cut ks none (some 1)=us at UH u9 Cs ⊢
  refine ⟨p3,rfl,⟨_,br.of u9⟩,?_⟩
  refine l_ (K:=K) (a:=p3) (xs:=jl us) (fun i acc H'=>ao H3 H'/\acc=(List.replicate i true).map V.bl) (by rw[lH];omega) (fun i acc H' h=>br.of (h.1 _ _ u9)) ⟨ao.refl _,rfl⟩ ?_ ?_
  ·rintro i x acc H4 Nx hi hx qf ⟨s4,rfl⟩ nx
   obtain ⟨k,Bq,rfl⟩:=LP hx
   have ok:=(UH k (Zx Bq)).ts (ba.of s4)
   refine ⟨k.t,_,rfl,bV.of ok.tp,rfl,_,_,rfl,_,_,rfl,rfl,trivial,eW ?_⟩
   refine ⟨_,rfl,_,rfl,k.y,k.wt,k.ws,rfl,ok.yd,ok.yz,ok.ok,ok.wp,fun H5 s5=>?_⟩
   exact nx _ _ (by simpa using qf) ⟨s4.trans s5,DW _⟩
  ·rintro acc H4 D4 qf ⟨s4,rfl⟩ RS
   refine ⟨D4,_,rfl,br.of ah,?_⟩
   rw[Hr]
   exact q _
end
theorem bQ {M:List Value->Prop} (h:M []): ∀us:List Value,us.length=0->M us
 | [],_=>h
theorem aH {M:List Value->Prop} {n:Nat} (h: ∀(a:Value) (us:List Value),us.length=n->M (a::us)): ∀us:List Value,us.length=n+1->M us
 | a::us,e=>h a us (Nat.succ.inj e)
def Dn (K:PySem.W.Frag) (x:Str) (st:Stmt) (f:Addr) (fd:FuncData):Prop:=PySem.W.nsIn K mainGlobals x=some (some (.ref f))/\GZ K x x st f fd
theorem dn {K:PySem.W.Frag} {x:Str} {st:Stmt} {f:Addr} {oc:Value} {od an:Option Addr} {Gi:Array (Option Value)} {kV doc pm cn ct:Value} (a:PySem.W.nsIn K mainGlobals x=some (some (.ref f))) (l:K.lookup f=some ⟨oc,od, .func (PySem.W.fnOf x x (fL st) (eT st) (au st) .none kV doc pm an cn ct),Gi⟩) (c:PySem.W.codeIn K cn x=true) (k:PySem.W.keepIn K (.ref f)=true):Dn K x st f (PySem.W.fnOf x x (fL st) (eT st) (au st) .none kV doc pm an cn ct):=⟨a,x5 l c k⟩
theorem fR {K:PySem.W.Frag} {h:Heap} {mg:Str->Option Value} {x:Str} {st:Stmt} {f:Addr} {fd:FuncData} {ps:List Str} (X:K.In h) (G:h.Ns mainGlobals mg) (a:Dn K x st f fd) (b: ∀(kV doc pm:Value) (an:Option Addr) (cn ct:Value) (us:List Value),us.length=ps.length->bindArgs (PySem.W.fnOf x x (fL st) (eT st) (au st) .none kV doc pm an cn ct) ⟨us,[]⟩=pure (ps.zip us)):aZ K mg x st ps f fd:=⟨a.2,Qdz X G a.1,a.2.binds b⟩
theorem all_mk {l:PySem.W.OpenLaw} {w:World} {K:PySem.W.Frag} {h:Heap} {mg:Str->Option Value} {fa f0 f1 f2 f3 f4 f5 f6 f7 f8 f9 MP MQ MR MS MT MU MV MW FJ FK MX MY MZ M0 M1 M3 M4 M5 M6 M7 M8 M9 M_ Na Nb Nd Nf Ng Nh Ni Nj Nk Nl Nm Nn Np Nq Nr Nt aQ aX jX gJ:Addr} (X:K.In h) (G:h.Ns mainGlobals mg) (Rc:mg "law"=some (.ref fa))
  {d0 d1 d2 d3 d4 d5 d6 d7 d8 d9 Nu Nv Nw Ny Nz NA NB NC ND NF NG NH NI NJ NK NL NM NN NO NP NQ NR NS NT NU NV NW NX NY NZ N0 N1 N2 N3 N4 N5 N6 N7 N8:FuncData}
  {Ml Mm IL IM:Option Addr} {Mn IQ:Array (Option Value)} {Mo Mp Mq Mr Gb Ms IS IT IU IV A4 IW:Value}
  (a0:Dn K "contrary" km f0 d0)
  (a1:Dn K "turned" pU f1 d1)
  (a2:Dn K "bands" uH f2 d2)
  (a3:Dn K "steps_round" gE f3 d3)
  (a4:Dn K "strands_at" ig f4 d4)
  (a5:Dn K "points" pV f5 d5)
  (a6:Dn K "corner_points" fD f6 d6)
  (a7:Dn K "corners" mJ f7 d7)
  (a8:Dn K "chord_starts" fZ f8 d8)
  (a9:Dn K "number_in" jm f9 d9)
  (a10:Dn K "count_meetings" eR MP Nu)
  (a11:Dn K "strands_in" ik MQ Nv)
  (a12:Dn K "corner_ends" gF MR Nw)
  (a13:Dn K "shortened" jn MS Ny)
  (a14:Dn K "shortest" ko MT Nz)
  (a15:Dn K "ring" zg MU NA)
  (a16:Dn K "root" zh MV NB)
  (a17:Dn K "corner_steps" f_ MW NC)
  (a18:Dn K "steps_ahead" gG FJ ND)
  (a19:Dn K "steps_back" il FK NF)
  (a20:Dn K "parting" mK MX NG)
  (a21:Dn K "side_of" mL MY NH)
  (a22:Dn K "comes_ahead" gH MZ NI)
  (a23:Dn K "number_among" gc M0 NJ)
  (a24:Dn K "seen_strand" gI M1 NK)
  (a25:Dn K "taut_order" iq M3 NL)
  (a26:Dn K "taut" zi M4 NM)
  (a27:Dn K "least" uI M5 NN)
  (a28:Dn K "own" FF M6 NO)
  (a29:Dn K "between" mM M7 NP)
  (a30:Dn K "_law_box" zj M8 NQ)
  (a31:Dn K "_law_take" uJ M9 NR)
  (a32:Dn K "_law_other" pW M_ NS)
  (a33:Dn K "_law_yard" uK Na NT)
  (a34:Dn K "_law_short" pX Nb NU)
  (a35:Dn K "_law_near" uL Nd NV)
  (a36:Dn K "_law_round" pY Nf NW)
  (a37:Dn K "_law_on" FG Ng NX)
  (a38:Dn K "_law_across" mN Nh NY)
  (a39:Dn K "_law_shared" mO Ni NZ)
  (a40:Dn K "_law_begins" mP Nj N0)
  (a41:Dn K "_law_forced" mQ Nk N1)
  (a42:Dn K "_law_times" pZ Nl N2)
  (a43:Dn K "_law_words" p5 Nm N3)
  (a44:Dn K "_law_least" p6 Nn N4)
  (a45:Dn K "_law_between" kr Np N5)
  (a46:Dn K "_law_is" FH Nq N6)
  (a47:Dn K "_law_right" p7 Nr N7)
  (a48:Dn K "law" FI Nt N8)
  (q_Seen:PySem.W.nsIn K mainGlobals "Seen"=some (some (.ref aQ)))
  (pg_Seen:PySem.W.plainGet K aQ Str.empty=true)
  (hd_Seen:PySem.W.hasDictIn K aQ=true)
  (po_Seen:PySem.W.plainOver K aQ=true)
  (sa_Seen:PySem.W.findIn K (.ref aQ) "__setattr__"=some (some (.builtin "object.__setattr__")))
  (n_Seen_strand:PySem.W.findIn K (.ref aQ) "strand"=some none)
  (n_Seen_way:PySem.W.findIn K (.ref aQ) "way"=some none)
  (n_Seen_place:PySem.W.findIn K (.ref aQ) "place"=some none)
  (q_Way:PySem.W.nsIn K mainGlobals "Way"=some (some (.ref aX)))
  (pg_Way:PySem.W.plainGet K aX Str.empty=true)
  (hd_Way:PySem.W.hasDictIn K aX=true)
  (po_Way:PySem.W.plainOver K aX=true)
  (sa_Way:PySem.W.findIn K (.ref aX) "__setattr__"=some (some (.builtin "object.__setattr__")))
  (n_Way_size:PySem.W.findIn K (.ref aX) "size"=some none)
  (n_Way_root_size:PySem.W.findIn K (.ref aX) "root_size"=some none)
  (n_Way_leads:PySem.W.findIn K (.ref aX) "leads"=some none)
  (n_Way_onward:PySem.W.findIn K (.ref aX) "onward"=some none)
  (n_Way_backward:PySem.W.findIn K (.ref aX) "backward"=some none)
  (mk_Way:PySem.W.makesIn K aX=true)
  (qi_Way:PySem.W.findIn K (.ref aX) "__init__"=some (some (.ref jX)))
  (fi_Way:PySem.W.isFn K (.ref jX)=true)
  (kc_Way:PySem.W.keepIn K (.ref aX)=true)
  (li_Way:K.lookup jX=some ⟨Mo,Ml, .func (PySem.W.fnOf "__init__" "Way.__init__" (fL jG) (eT jG) (au jG) .none Mp Mq Mr Mm Gb Ms),Mn⟩)
  (ci_Way:PySem.W.codeIn K Gb "Way.__init__"=true)
  (ki_Way:PySem.W.keepIn K (.ref jX)=true)
  (mk_Seen:PySem.W.makesIn K aQ=true)
  (qi_Seen:PySem.W.findIn K (.ref aQ) "__init__"=some (some (.ref gJ)))
  (fi_Seen:PySem.W.isFn K (.ref gJ)=true)
  (kc_Seen:PySem.W.keepIn K (.ref aQ)=true)
  (li_Seen:K.lookup gJ=some ⟨IS,IL, .func (PySem.W.fnOf "__init__" "Seen.__init__" (fL gW) (eT gW) (au gW) .none IT IU IV IM A4 IW),IQ⟩)
  (ci_Seen:PySem.W.codeIn K A4 "Seen.__init__"=true)
  (ki_Seen:PySem.W.keepIn K (.ref gJ)=true)
  (z_all:PySem.W.nsIn K mainGlobals "all"=some none)
  (z_bool:PySem.W.nsIn K mainGlobals "bool"=some none)
  (z_enumerate:PySem.W.nsIn K mainGlobals "enumerate"=some none)
  (z_int:PySem.W.nsIn K mainGlobals "int"=some none)
  (z_isinstance:PySem.W.nsIn K mainGlobals "isinstance"=some none)
  (z_len:PySem.W.nsIn K mainGlobals "len"=some none)
  (z_list:PySem.W.nsIn K mainGlobals "list"=some none)
  (z_max:PySem.W.nsIn K mainGlobals "max"=some none)
  (z_min:PySem.W.nsIn K mainGlobals "min"=some none)
  (z_range:PySem.W.nsIn K mainGlobals "range"=some none)
  (z_reversed:PySem.W.nsIn K mainGlobals "reversed"=some none)
  (z_set:PySem.W.nsIn K mainGlobals "set"=some none)
  (z_sorted:PySem.W.nsIn K mainGlobals "sorted"=some none)
  (z_str:PySem.W.nsIn K mainGlobals "str"=some none)
  (z_sum:PySem.W.nsIn K mainGlobals "sum"=some none)
  (z_tuple:PySem.W.nsIn K mainGlobals "tuple"=some none):
  ∃fd:FuncData,(∀(s:Shared) (v:Value),BindsTo s fd ⟨[v],[]⟩ [("_law_script",v)])/\ ∀base:Heap,K.In base->base.Ns mainGlobals mg->bA l.prog w K mg base eF 12 fa fd ["_law_script"] (lW K):=by
 have e:=Rc.symm.trans (Qdz X G a48.1)
 cases e
 obtain ⟨_,_,_,_,_,_,_,_,_,rfl,_⟩:=a48.2.ex
 have Gd:=x5 (st:=jG) li_Way ci_Way ki_Way
 have Mt:=Gd.binds (ps:=["self","yard","word","longest"]) fun _ _ _ _ _ _=>aH fun _=>aH fun _=>aH fun _=>aH fun _=>bQ rfl
 have A5:=x5 (st:=gW) li_Seen ci_Seen ki_Seen
 have IX:=A5.binds (ps:=["self","strand","way","place"]) fun _ _ _ _ _ _=>aH fun _=>aH fun _=>aH fun _=>aH fun _=>bQ rfl
 have T:Txt K mg _ _ _ _ _ _ _ _ _ _ _ _ _ _ _ _ _ _ _ _ _ _ _ _ _ _ _ _ _ _ _ _ _ _ _ _ _ _ _ _ _ _ _ _ _ _ _ _ _ _ _ _ _ _ _ _ _ _ _ _ _ _ _ _ _ _ _ _ _ _ _ _ _ _ _ _ _ _ _ _ _ _ _ _ _ _ _ _ _ _ _ _ _ _ _ _ _ _ _ _ _ _ _ _:=⟨fR X G a0 fun _ _ _ _ _ _=>aH fun _=>bQ rfl,fR X G a1 fun _ _ _ _ _ _=>aH fun _=>bQ rfl,fR X G a2 fun _ _ _ _ _ _=>aH fun _=>bQ rfl,fR X G a3 fun _ _ _ _ _ _=>aH fun _=>aH fun _=>aH fun _=>bQ rfl,fR X G a4 fun _ _ _ _ _ _=>aH fun _=>aH fun _=>aH fun _=>bQ rfl,fR X G a5 fun _ _ _ _ _ _=>aH fun _=>aH fun _=>bQ rfl,fR X G a6 fun _ _ _ _ _ _=>aH fun _=>aH fun _=>aH fun _=>bQ rfl,fR X G a7 fun _ _ _ _ _ _=>aH fun _=>aH fun _=>bQ rfl,fR X G a8 fun _ _ _ _ _ _=>aH fun _=>bQ rfl,fR X G a9 fun _ _ _ _ _ _=>aH fun _=>aH fun _=>bQ rfl,fR X G a10 fun _ _ _ _ _ _=>aH fun _=>bQ rfl,fR X G a11 fun _ _ _ _ _ _=>aH fun _=>aH fun _=>bQ rfl,fR X G a12 fun _ _ _ _ _ _=>aH fun _=>aH fun _=>bQ rfl,fR X G a13 fun _ _ _ _ _ _=>aH fun _=>bQ rfl,fR X G a14 fun _ _ _ _ _ _=>aH fun _=>bQ rfl,fR X G a15 fun _ _ _ _ _ _=>aH fun _=>bQ rfl,fR X G a16 fun _ _ _ _ _ _=>aH fun _=>bQ rfl,fR X G a17 fun _ _ _ _ _ _=>aH fun _=>aH fun _=>aH fun _=>bQ rfl,fR X G a18 fun _ _ _ _ _ _=>aH fun _=>aH fun _=>aH fun _=>bQ rfl,fR X G a19 fun _ _ _ _ _ _=>aH fun _=>aH fun _=>aH fun _=>bQ rfl,fR X G a20 fun _ _ _ _ _ _=>aH fun _=>aH fun _=>aH fun _=>aH fun _=>bQ rfl,fR X G a21 fun _ _ _ _ _ _=>aH fun _=>bQ rfl,fR X G a22 fun _ _ _ _ _ _=>aH fun _=>aH fun _=>bQ rfl,fR X G a23 fun _ _ _ _ _ _=>aH fun _=>aH fun _=>bQ rfl,fR X G a24 fun _ _ _ _ _ _=>aH fun _=>aH fun _=>aH fun _=>bQ rfl,fR X G a25 fun _ _ _ _ _ _=>aH fun _=>aH fun _=>aH fun _=>bQ rfl,fR X G a26 fun _ _ _ _ _ _=>aH fun _=>aH fun _=>bQ rfl,fR X G a27 fun _ _ _ _ _ _=>aH fun _=>aH fun _=>bQ rfl,fR X G a28 fun _ _ _ _ _ _=>aH fun _=>aH fun _=>bQ rfl,fR X G a29 fun _ _ _ _ _ _=>aH fun _=>aH fun _=>aH fun _=>bQ rfl,fR X G a30 fun _ _ _ _ _ _=>aH fun _=>aH fun _=>bQ rfl,fR X G a31 fun _ _ _ _ _ _=>aH fun _=>aH fun _=>bQ rfl,fR X G a32 fun _ _ _ _ _ _=>aH fun _=>bQ rfl,fR X G a33 fun _ _ _ _ _ _=>aH fun _=>aH fun _=>aH fun _=>bQ rfl,fR X G a34 fun _ _ _ _ _ _=>aH fun _=>aH fun _=>aH fun _=>bQ rfl,fR X G a35 fun _ _ _ _ _ _=>aH fun _=>aH fun _=>aH fun _=>aH fun _=>bQ rfl,fR X G a36 fun _ _ _ _ _ _=>aH fun _=>aH fun _=>aH fun _=>aH fun _=>bQ rfl,fR X G a37 fun _ _ _ _ _ _=>aH fun _=>aH fun _=>bQ rfl,fR X G a38 fun _ _ _ _ _ _=>aH fun _=>aH fun _=>aH fun _=>aH fun _=>aH fun _=>bQ rfl,fR X G a39 fun _ _ _ _ _ _=>aH fun _=>aH fun _=>aH fun _=>aH fun _=>aH fun _=>bQ rfl,fR X G a40 fun _ _ _ _ _ _=>aH fun _=>aH fun _=>aH fun _=>aH fun _=>aH fun _=>aH fun _=>bQ rfl,fR X G a41 fun _ _ _ _ _ _=>aH fun _=>aH fun _=>bQ rfl,fR X G a42 fun _ _ _ _ _ _=>aH fun _=>bQ rfl,fR X G a43 fun _ _ _ _ _ _=>aH fun _=>aH fun _=>aH fun _=>aH fun _=>bQ rfl,fR X G a44 fun _ _ _ _ _ _=>aH fun _=>aH fun _=>bQ rfl,fR X G a45 fun _ _ _ _ _ _=>aH fun _=>aH fun _=>aH fun _=>bQ rfl,fR X G a46 fun _ _ _ _ _ _=>aH fun _=>aH fun _=>bQ rfl,fR X G a47 fun _ _ _ _ _ _=>aH fun _=>aH fun _=>bQ rfl,fR X G a48 fun _ _ _ _ _ _=>aH fun _=>bQ rfl,Qdz X G q_Seen,⟨pg_Seen,hd_Seen,po_Seen,sa_Seen⟩,n_Seen_strand,n_Seen_way,n_Seen_place,Qdz X G q_Way,⟨pg_Way,hd_Way,po_Way,sa_Way⟩,n_Way_size,n_Way_root_size,n_Way_leads,n_Way_onward,n_Way_backward,⟨mk_Way,qi_Way,fi_Way,kc_Way⟩,Gd,Mt,⟨mk_Seen,qi_Seen,fi_Seen,kc_Seen⟩,A5,IX,ZY X G z_all,ZY X G z_bool,ZY X G z_enumerate,ZY X G z_int,ZY X G z_isinstance,ZY X G z_len,ZY X G z_list,ZY X G z_max,ZY X G z_min,ZY X G z_range,ZY X G z_reversed,ZY X G z_set,ZY X G z_sorted,ZY X G z_str,ZY X G z_sum,ZY X G z_tuple⟩
 exact ⟨_,fun s v=> .of_eq rfl,fun base _ _=>Mi T⟩
theorem walk {l:PySem.W.OpenLaw} {q:Program} {loose:List Str} {XP:(Str->Option Value)->Heap->Prop} {YP:World->Heap->Prop} {d:DefRec} {K:Params->PySem.W.Frag} (hn:l.most=some 63) (O9:d.params.defaults=[])
  (hY: ∀(w:World) (h:Heap),YP w h->(K w.params).In h)
  (F: ∀(w:World) (mg:Str->Option Value) (fa:Addr) (h:Heap),(K w.params).In h->h.Ns mainGlobals mg->mg d.name=some (.ref fa)->
   ∃fd:FuncData,(∀(s:Shared) (u:Value),BindsTo s fd ⟨[u],[]⟩ [("_law_script",u)])/\ ∀base:Heap,(K w.params).In base->base.Ns mainGlobals mg->bA l.prog w (K w.params) mg base eF 12 fa fd ["_law_script"] (lW (K w.params))):
  PySem.W.WalkO q loose XP YP l.row.toRowW d [] (fun f vs=>PySem.call f vs):=
 L2.zS (n:=63) (k:=12) (x:="_law_script") (CX:=fun _=>eF) (sp:=fun w=>lW (K w.params)) hn (by decide) O9 ⟨rfl,by decide,by decide,rfl⟩ hY F (fun _ _ a ns hl _ hS=>⟨a,ns,rfl,hS,hl,fun _=>rfl⟩) fun _ _ _ _ _ z=>z
end My
namespace PySem.W.Fast
def tw1003448033402690007:=Nat
def tw10041164115320525067:=Nat
def tw10054455498169693730:=Nat
def tw10091922236171186592:=Nat
def tw10166693761678503258:=Nat
def tw10257364063435916217:=Nat
def tw10629471578476413907:=Nat
def tw10676734403862725885:=Nat
def tw10817739919987389299:=Nat
def tw10853112705524449986:=Nat
def tw10970708326191897391:=Nat
def tw1098378035707810965:=Nat
def tw11052301238433503998:=Nat
def tw11410345422956679792:=Nat
def tw11468415000625535223:=Nat
def tw1146926306890853923:=Nat
def tw11542358254124360624:=Nat
def tw11634856681955141736:=Nat
def tw1175077234246472864:=Nat
def tw11897458614495295610:=Nat
def tw11907535654996184983:=Nat
def tw12004517600913609791:=Nat
def tw12013023356966963961:=Nat
def tw12046593023305254375:=Nat
def tw1210700554806854415:=Nat
def tw12314924089048217794:=Nat
def tw12400658625873979045:=Nat
def tw12490468188032662577:=Nat
def tw12517956145685257883:=Nat
def tw12568972446340064168:=Nat
def tw12774905269596525984:=Nat
def tw12923747468322205200:=Nat
def tw12933229695905880940:=Nat
def tw1294683746054293473:=Nat
def tw12958173576650027441:=Nat
def tw13322845823209023233:=Nat
def tw13529866809630636316:=Nat
def tw13541535969704050409:=Nat
def tw13666262595668547745:=Nat
def tw13731976021806642994:=Nat
def tw13736973207405776306:=Nat
def tw1395331584199096548:=Nat
def tw13994079589589895734:=Nat
def tw13997131164914838034:=Nat
def tw14058275699778021915:=Nat
def tw14085646214675588441:=Nat
def tw14105071450001095984:=Nat
def tw14167064113209549549:=Nat
def tw14195403335704919876:=Nat
def tw14228753846334891760:=Nat
def tw14235287491450349422:=Nat
def tw14251228686995341202:=Nat
def tw14267529627017340293:=Nat
def tw14284481950053327401:=Nat
def tw14295183993482464637:=Nat
def tw14362015449480772225:=Nat
def tw14381420916320429603:=Nat
def tw14387795743268086288:=Nat
def tw14400157856148074162:=Nat
def tw14552604067045410561:=Nat
def tw14728031108967435814:=Nat
def tw14780534854638077249:=Nat
def tw14967561993321448601:=Nat
def tw15108016378049908753:=Nat
def tw15242105452472313009:=Nat
def tw1535490286120293784:=Nat
def tw15399053176041505486:=Nat
def tw15498718125500378720:=Nat
def tw15565550509604787172:=Nat
def tw15614437785426691452:=Nat
def tw15745685403138363652:=Nat
def tw16028029858523106108:=Nat
def tw16089911117002525471:=Nat
def tw16183191295420724616:=Nat
def tw1622898573810174090:=Nat
def tw1630903427759574535:=Nat
def tw16460169291064743249:=Nat
def tw1651931621369190494:=Nat
def tw16751189205446409000:=Nat
def tw16772072742712679872:=Nat
def tw16821031820348540910:=Nat
def tw16901415765859630462:=Nat
def tw16940179696251069630:=Nat
def tw17077900357192831772:=Nat
def tw17172870978402521788:=Nat
def tw17297829638963733746:=Nat
def tw17312044318152231409:=Nat
def tw17527297834293395966:=Nat
def tw1756855525234978841:=Nat
def tw17617940063626095440:=Nat
def tw1762154090985805534:=Nat
def tw17711204234261837509:=Nat
def tw17789281660019216770:=Nat
def tw17930816838127325796:=Nat
def tw18151022520410138072:=Nat
def tw18266209254713311129:=Nat
def tw18438272043257714446:=Nat
def tw1894618542404233534:=Nat
def tw1929603348010661605:=Nat
def tw1944725105482323135:=Nat
def tw2021319886027925165:=Nat
def tw2042838485895240656:=Nat
def tw2167855246116915121:=Nat
def tw2229361626429955556:=Nat
def tw2284065581118288565:=Nat
def tw2308822605718921145:=Nat
def tw2347149855317177982:=Nat
def tw2407435965630272543:=Nat
def tw2442839587501202596:=Nat
def tw2519351148858947320:=Nat
def tw2750835680995577901:=Nat
def tw2770660813157346865:=Nat
def tw2856988545505947587:=Nat
def tw3068484986814366349:=Nat
def tw3071303172211876743:=Nat
def tw3581916125095088049:=Nat
def tw3622970089719323560:=Nat
def tw3785031164603933273:=Nat
def tw386799654304673507:=Nat
def tw3908680014324319890:=Nat
def tw3930628340931101102:=Nat
def tw3990980706061626552:=Nat
def tw4043716866174772413:=Nat
def tw4082030048978346478:=Nat
def tw4116624643600963912:=Nat
def tw4129313719639125923:=Nat
def tw4139395763344848969:=Nat
def tw4242621944772585778:=Nat
def tw4286485281529486040:=Nat
def tw4349858154255023869:=Nat
def tw4358892140954394771:=Nat
def tw4371181612366698854:=Nat
def tw4387417323366169448:=Nat
def tw4503423909528334055:=Nat
def tw4559722703860668236:=Nat
def tw4612243284338301954:=Nat
def tw4693276050034934958:=Nat
def tw4749837076394809567:=Nat
def tw5097939257299908534:=Nat
def tw5104957427593064087:=Nat
def tw5134526082594417136:=Nat
def tw5165043440616871298:=Nat
def tw5285068466768333025:=Nat
def tw5554307317385707492:=Nat
def tw5562157025843765226:=Nat
def tw5571485728584678216:=Nat
def tw5634084739861356242:=Nat
def tw5956508520240399906:=Nat
def tw6036733553882906313:=Nat
def tw6054081004737713264:=Nat
def tw6057944048933510657:=Nat
def tw6321253624419404722:=Nat
def tw6411551464290036269:=Nat
def tw6486133724221331451:=Nat
def tw6570200207435276137:=Nat
def tw6573225677323218595:=Nat
def tw6575888730610923312:=Nat
def tw6604743541131222944:=Nat
def tw6643448528403672134:=Nat
def tw6864211445347841727:=Nat
def tw7074888879275477215:=Nat
def tw7240299808967618911:=Nat
def tw7260359640188378243:=Nat
def tw7447703296587610812:=Nat
def tw7500670110730830467:=Nat
def tw7577467251757327040:=Nat
def tw7603845609645718536:=Nat
def tw7665509745504175627:=Nat
def tw7782249350682419999:=Nat
def tw7828476726376241071:=Nat
def tw7835799998118774553:=Nat
def tw7967220961542610499:=Nat
def tw7983302745835170721:=Nat
def tw8045483208672135273:=Nat
def tw8061813943730249552:=Nat
def tw8245506340944845903:=Nat
def tw8339246450745778260:=Nat
def tw8347775525166018255:=Nat
def tw8355341241616723712:=Nat
def tw8480397122989726115:=Nat
def tw8528790534540270927:=Nat
def tw8691855635581349925:=Nat
def tw8730137823184220112:=Nat
def tw8769808660660585220:=Nat
def tw8796413372169627860:=Nat
def tw8948242627810343315:=Nat
def tw9220120090172386967:=Nat
def tw9239757756228743320:=Nat
def tw9270091245341244424:=Nat
def tw9330152555346808909:=Nat
def tw9455246857902223706:=Nat
def tw9497836596742144400:=Nat
def tw9520881140385385385:=Nat
def tw9569631644960386515:=Nat
def tw9597080604315478681:=Nat
def tw965412207177606837:=Nat
def tw9665778047977637001:=Nat
def tw96823237753017705:=Nat
def tw98361060159374797:=Nat
def tw9933839377893270847:=Nat
end PySem.W.Fast
open PySem PySem.W PyProof.Rows
set_option maxRecDepth 100000 in
set_option maxHeartbeats 0 in
theorem PySem.Challenge.cw_mustmeet_k28_least_numbers_holds : PySem.Challenge.rw_mustmeet_k28_least_numbers.Holds := by
 w_on;o_law;k_head;(case hw=>w_witness2)
 k_fill
 refine My.walk (l:=PySem.Challenge.rw_mustmeet_k28_least_numbers) rfl rfl (fun w h Y=>PySem.W.kIn_of Y) ?F
 case F=>
  intro w mg fa h KX G hmg
  refine' My.all_mk KX G hmg (My.dn ?a0 ?l0 ?c0 ?k0) (My.dn ?a1 ?l1 ?c1 ?k1) (My.dn ?a2 ?l2 ?c2 ?k2) (My.dn ?a3 ?l3 ?c3 ?k3) (My.dn ?a4 ?l4 ?c4 ?k4) (My.dn ?a5 ?l5 ?c5 ?k5) (My.dn ?a6 ?l6 ?c6 ?k6) (My.dn ?a7 ?l7 ?c7 ?k7) (My.dn ?a8 ?l8 ?c8 ?k8) (My.dn ?a9 ?l9 ?c9 ?k9) (My.dn ?a10 ?l10 ?c10 ?k10) (My.dn ?a11 ?l11 ?c11 ?k11) (My.dn ?a12 ?l12 ?c12 ?k12) (My.dn ?a13 ?l13 ?c13 ?k13) (My.dn ?a14 ?l14 ?c14 ?k14) (My.dn ?a15 ?l15 ?c15 ?k15) (My.dn ?a16 ?l16 ?c16 ?k16) (My.dn ?a17 ?l17 ?c17 ?k17) (My.dn ?a18 ?l18 ?c18 ?k18) (My.dn ?a19 ?l19 ?c19 ?k19) (My.dn ?a20 ?l20 ?c20 ?k20) (My.dn ?a21 ?l21 ?c21 ?k21) (My.dn ?a22 ?l22 ?c22 ?k22) (My.dn ?a23 ?l23 ?c23 ?k23) (My.dn ?a24 ?l24 ?c24 ?k24) (My.dn ?a25 ?l25 ?c25 ?k25) (My.dn ?a26 ?l26 ?c26 ?k26) (My.dn ?a27 ?l27 ?c27 ?k27) (My.dn ?a28 ?l28 ?c28 ?k28) (My.dn ?a29 ?l29 ?c29 ?k29) (My.dn ?a30 ?l30 ?c30 ?k30) (My.dn ?a31 ?l31 ?c31 ?k31) (My.dn ?a32 ?l32 ?c32 ?k32) (My.dn ?a33 ?l33 ?c33 ?k33) (My.dn ?a34 ?l34 ?c34 ?k34) (My.dn ?a35 ?l35 ?c35 ?k35) (My.dn ?a36 ?l36 ?c36 ?k36) (My.dn ?a37 ?l37 ?c37 ?k37) (My.dn ?a38 ?l38 ?c38 ?k38) (My.dn ?a39 ?l39 ?c39 ?k39) (My.dn ?a40 ?l40 ?c40 ?k40) (My.dn ?a41 ?l41 ?c41 ?k41) (My.dn ?a42 ?l42 ?c42 ?k42) (My.dn ?a43 ?l43 ?c43 ?k43) (My.dn ?a44 ?l44 ?c44 ?k44) (My.dn ?a45 ?l45 ?c45 ?k45) (My.dn ?a46 ?l46 ?c46 ?k46) (My.dn ?a47 ?l47 ?c47 ?k47) (My.dn ?a48 ?l48 ?c48 ?k48) ?q_Seen ?pg_Seen ?hd_Seen ?po_Seen ?sa_Seen ?n_Seen_strand ?n_Seen_way ?n_Seen_place ?q_Way ?pg_Way ?hd_Way ?po_Way ?sa_Way ?n_Way_size ?n_Way_root_size ?n_Way_leads ?n_Way_onward ?n_Way_backward ?mk_Way ?qi_Way ?fi_Way ?kc_Way ?li_Way ?ci_Way ?ki_Way ?mk_Seen ?qi_Seen ?fi_Seen ?kc_Seen ?li_Seen ?ci_Seen ?ki_Seen ?z_all ?z_bool ?z_enumerate ?z_int ?z_isinstance ?z_len ?z_list ?z_max ?z_min ?z_range ?z_reversed ?z_set ?z_sorted ?z_str ?z_sum ?z_tuple
  case a0|l0|c0|k0|a1|l1|c1|k1|a2|l2|c2|k2|a3|l3|c3|k3|a4|l4|c4|k4|a5|l5|c5|k5|a6|l6|c6|k6|a7|l7|c7|k7|a8|l8|c8|k8|a9|l9|c9|k9|a10|l10|c10|k10|a11|l11|c11|k11|a12|l12|c12|k12|a13|l13|c13|k13|a14|l14|c14|k14|a15|l15|c15|k15|a16|l16|c16|k16|a17|l17|c17|k17|a18|l18|c18|k18|a19|l19|c19|k19|a20|l20|c20|k20|a21|l21|c21|k21|a22|l22|c22|k22|a23|l23|c23|k23|a24|l24|c24|k24|a25|l25|c25|k25|a26|l26|c26|k26|a27|l27|c27|k27|a28|l28|c28|k28|a29|l29|c29|k29|a30|l30|c30|k30|a31|l31|c31|k31|a32|l32|c32|k32|a33|l33|c33|k33|a34|l34|c34|k34|a35|l35|c35|k35|a36|l36|c36|k36|a37|l37|c37|k37|a38|l38|c38|k38|a39|l39|c39|k39|a40|l40|c40|k40|a41|l41|c41|k41|a42|l42|c42|k42|a43|l43|c43|k43|a44|l44|c44|k44|a45|l45|c45|k45|a46|l46|c46|k46|a47|l47|c47|k47|a48|l48|c48|k48|q_Seen|pg_Seen|hd_Seen|po_Seen|sa_Seen|n_Seen_strand|n_Seen_way|n_Seen_place|q_Way|pg_Way|hd_Way|po_Way|sa_Way|n_Way_size|n_Way_root_size|n_Way_leads|n_Way_onward|n_Way_backward|mk_Way|qi_Way|fi_Way|kc_Way|li_Way|ci_Way|ki_Way|mk_Seen|qi_Seen|fi_Seen|kc_Seen|li_Seen|ci_Seen|ki_Seen|z_all|z_bool|z_enumerate|z_int|z_isinstance|z_len|z_list|z_max|z_min|z_range|z_reversed|z_set|z_sorted|z_str|z_sum|z_tuple=>k_is
