import PyProof.Rows.All
import Wide.All
import OpenK.AllK
import Wide.FinOn
import Lean
import PyProof.EqAt
import PyProof.EqKinds
import PyProof.TupleCall
import PySem.Challenge.RW_mustmeet_k41_apart_or_not
set_option maxHeartbeats 4000000
set_option Elab.async false
set_option linter.all false
set_option maxRecDepth 100000
open List renaming getElem?_eq_getElem→Mt,getElem?_eq_some_iff→Mu,length_append→Oy,length_map→Xl,mem_cons_of_mem→Xn,length_pos_iff→Zs,mem_singleton→Zt,mem_cons_self→Zu,mem_cons→Zv,idxOf_lt_length_of_mem→Zw,getD_eq_getElem?_getD→kb,map_append→Qaa,size_toArray→Qac,length_take→Qae,not_mem_nil→Qag,mem_of_getElem?→Qah,mem_append→Qaj,getElem?_map→Qak,take_of_length_le→Qar,getElem_mem→Qas,map_cons→Qat,mem_map→Qau,mem_append_right→Qav,length_cons→Qay,nodup_cons→Qaz,mem_filter→Qa0,filter_cons_of_neg→Qa1,length_drop→Qa2,length_reverse→Qa6,take_append_drop→Qa7,flatMap_cons→Qbc,filter_cons_of_pos→Qbd,mem_flatMap→Qbf,lookup_cons→Qbg,append_nil→Qbh,drop_eq_getElem_cons→Qbj,mem_range→Qbl,flatMap_append→Qbn,range_succ→Qbo,take_length→Qbp,getElem?_append_left→Qbr,nodup_append→Qbv,append_assoc→Qbw,mem_append_left→Qbx,getElem_idxOf→Qby,map_map→Qb2,pairwise_map→Qb3,length_eq_zero_iff→Qb8,all_eq_true→Qb9,length_range→Qce,getElem?_append_right→Qcf,any_cons→Qck,mem_of_mem_take→Qcl,drop_of_length_le→Qcm,pairwise_cons→Qco,filter_append→Qcp,length_filter_le→Qcs,getElem?_eq_none→Qct,find?_cons→Qcu,pairwise_append→Qcw,sum_cons→Qcx,getElem?_drop→Qc1,flatten_cons→Qc4,dropLast_concat→Qc6,map_reverse→Qda,pairwise_iff_getElem→Qdc,map_congr_left→Qdf,getElem_of_mem→Qdg,getElem?_take→Qdj,eraseIdx_cons_succ→Qdm,lt_irrefl→Qdn,flatMap_singleton→Qdo,drop_eq_nil_of_le→Qdp,eraseIdxIfInBounds_toArray→Qdr,perm_append_comm→Qds,getElem?_reverse→Qdt,mem_reverse→Qdv,eq_nil_of_length_eq_zero→Qdz,forIn_cons→Qd1,foldl_cons→Qd2,take_succ→Qd7,nodup_nil→Qd8,getLast?_eq_getElem?→Qd9,take_add_one→Qea,idxOf_append→Qeb,getElem_map→Qeh,sum_append→Qev,cons_lt_cons_iff→Qex,mem_of_mem_drop→Qe0,replicate_succ→Qe2,filterMap_cons→Qe3,set_comm→Qe6,map_take→Qe7,take_sublist→Qff,filter_congr→Qfg,ext_getElem?→Qfh,any_eq_false→Qfi,perm_middle→Qfm,nodup_range→Qfn,flatMap_nil→Qfo,cons_append→Qfp,map_id→Qfr,of_mem_zip→Qfu
open Nat renaming le_refl→Tz,zero_le→Qad,ne_of_lt→Qan,le_trans→Qao,lt_of_lt_of_le→Qaw,lt_of_le_of_lt→Qa4,le_of_lt→Qa5,lt_irrefl→Qbb,succ_le_succ→Qbk,mul_comm→Qbu,min_eq_left→Qbz,mod_eq_of_lt→Qb0,min_eq_right→Qb1,le_succ_of_le→Qcd,lt_succ_self→Qci,le_succ→Qcn,lt_succ_of_lt→Qcv,succ_mul→Qcy,mod_lt→Qcz,lt_or_gt_of_ne→Qc0,max_eq_left→Qc2,max_eq_right→Qc8,lt_trans→Qc9,div_add_mod→Qdh,succ_ne_zero→Qdu,lt_asymm→Qd4,succ_ne_self→Qef,min_le_right→Qeg,zero_add→Qeo,ne_of_gt→Qep,add_zero→Qeq,not_lt_zero→Qes,mul_add_mod→Qet,mod_add_div→Qeu,div_lt_iff_lt_mul→Qew,pos_of_ne_zero→Qfa,mod_eq_sub_mod→Qfb,zero_mul→Qfd,add_comm→Qfe,div_eq_of_lt→Qfl,mul_add_div→Qfs,le_antisymm→Qft
open PySem.Heap renaming get?_push_of_some→Xm,lt_size→Qal,get?_push_size→Qam,get?_update_other→Qbi,get?_update_self→Qb7,size_push→Qc3
open Int renaming toNat_natCast→Xo,emod_eq_of_lt→Qax,natCast_add→Qa8,emod_lt_of_pos→Qbm,add_zero→Qbs,emod_nonneg→Qbt,zero_add→Qcg,emod_add_emod→Qc5,add_mul_emod_self_left→Qc7,sub_zero→Qdb,natCast_nonneg→Qdk,add_emod_right→Qdl,natCast_ediv→Qdw,emod_emod_of_dvd→Qd0,toNat_of_nonneg→Qd3,sub_emod→Qd5,natCast_emod→Qei,emod_add_mul_ediv→Qey,le_refl→Qe1,sub_eq_add_neg→Qfc,ofNat_lt→Qfk,natCast_mul→Qfv
open PySem renaming boot_len→Qab,mem_of_lookup→Qdd
open Option.some renaming inj→Qaf
open PySem.F renaming plainAttrs_str→Qai,plainAttrs_list→Qap,type_list_append→Qa9,slot_list_append→Qba,type_str_join→Qb4,slot_str_join→Qb5,type_str_index→Qca,slot_str_index→Qcb,plain_max_loop→Qcc,called_set→Qch,type_list_pop→Qcq,slot_list_pop→Qcr,type_str_islower→Qec,slot_str_islower→Qed,type_str_lower→Qek,slot_str_lower→Qel,entry_max_loop→Qem
open Bool renaming false_ne_true→Qaq,and_eq_true→Qbq,false_eq_true→Qcj,eq_iff_iff→Qdi,or_false→Qdy,not_true→Qe8,false_or→Qe9,decide_and→Qfw
open PySem.W renaming mg_none_of→Qa3,kia_one→Qb6,callWith_K→Qd6,mg_of→Qe5
open PyProof.Rows renaming callWith_type1→Qbe
open PyProof.Rows.F renaming plain_set_update_loop→Qde
open List.Perm renaming refl→Qdq
open List.cons renaming inj→Qdx
open List.Pairwise renaming imp_of_mem→Qee,imp→Qfj
open Array renaming toList_inj→Qej,getElem?_toList→Qez,length_toList→Qe4
open Option renaming map_eq_some_iff→Qen,map_some→Qer
open PySem.Heap.SameBut renaming update→Qfq
namespace L2
open PySem PySem.Spec PyProof.Rows
abbrev Key:=Sum Int Str
noncomputable def so:Key->Value->Bool
 | .inl k,v=>Value.isInt k v
 | .inr x,v=>Value.isStrOf x v
noncomputable def UQ (w:World):Key->Int
 | .inl k=>hashInt k
 | .inr x=>hashStr w x
theorem cJ: ∀{k:Key} {v:Value},so k v=true->(∃i t,k=Sum.inl i/\v=Value.int i t)\/(∃x t,k=Sum.inr x/\v=Value.str x t)
 | .inl i,v,h=>by
  obtain ⟨t,e⟩:=Value.isInt_shape (k:=i) (v:=v) h
  exact .inl ⟨i,t,rfl,e⟩
 | .inr x,v,h=>by
  obtain ⟨t,e⟩:=Value.isStrOf_shape (x:=x) (v:=v) h
  exact .inr ⟨x,t,rfl,e⟩
theorem Cp (i:Int) (t:Tok):so (.inl i) (.int i t)=true:=by simp[so,Value.isInt]
theorem Cq (x:Str) (t:Tok):so (.inr x) (.str x t)=true:=by simp[so,Value.isStrOf]
theorem LI (a b:Int):decide ((Sum.inl a:Key)=Sum.inl b)=(a==b):=by
 by_cases e:a=b
 ·subst e;simp
 ·have h: ¬(Sum.inl a:Key)=Sum.inl b:=fun q=>e (Sum.inl.inj q)
  rw[decide_eq_false h]
  exact (beq_eq_false_iff_ne.mpr e).symm
theorem LJ (a b:Str):decide ((Sum.inr a:Key)=Sum.inr b)=decide (a=b):=by
 by_cases e:a=b
 ·subst e;simp
 ·have h: ¬(Sum.inr a:Key)=Sum.inr b:=fun q=>e (Sum.inr.inj q)
  rw[decide_eq_false h,decide_eq_false e]
theorem LK (a:Int) (b:Str):decide ((Sum.inl a:Key)=Sum.inr b)=false:=decide_eq_false (fun q=>nomatch q)
theorem LL (a:Str) (b:Int):decide ((Sum.inr a:Key)=Sum.inl b)=false:=decide_eq_false (fun q=>nomatch q)
noncomputable def c_ (prog:Program) (w:World):PySem.KeyKind prog w Key where
 is:=so
 hash:=UQ w
 inj:=fun v a b ha hb=>by
  rcases cJ ha with ⟨i,t,rfl,rfl⟩ | ⟨x,t,rfl,rfl⟩
  ·rcases cJ hb with ⟨j,u,rfl,e⟩ | ⟨y,u,rfl,e⟩
   ·injection e with e1 _;rw[e1]
   ·exact nomatch e
  ·rcases cJ hb with ⟨j,u,rfl,e⟩ | ⟨y,u,rfl,e⟩
   ·exact nomatch e
   ·injection e with e1 _;rw[e1]
 byValue:=fun k v h=>by
  rcases cJ h with ⟨i,t,rfl,rfl⟩ | ⟨x,t,rfl,rfl⟩<;>rfl
 pyHash:=fun hv h=>by
  rcases cJ hv with ⟨i,t,rfl,rfl⟩ | ⟨x,t,rfl,rfl⟩
  ·exact wpAny_pyHash_int h
  ·exact wpAny_pyHash_str h
 eqBool:=fun hu hv h=>by
  rcases cJ hu with ⟨i,t,rfl,rfl⟩ | ⟨x,t,rfl,rfl⟩
  ·rcases cJ hv with ⟨j,u,rfl,rfl⟩ | ⟨y,u,rfl,rfl⟩
   ·rw[LI]at h;exact wpAny_eqBool_int h
   ·rw[LK]at h;exact SeqAt.EqAt.int_str i t y u _ _ _ _ h
  ·rcases cJ hv with ⟨j,u,rfl,rfl⟩ | ⟨y,u,rfl,rfl⟩
   ·rw[LL]at h;exact SeqAt.EqAt.str_int x t j u _ _ _ _ h
   ·rw[LJ]at h;exact wpAny_eqBool_str h
 «strs» :=fun k x t v h=>by
  rcases cJ h with ⟨i,u,rfl,e⟩ | ⟨y,u,rfl,e⟩
  ·exact nomatch e
  ·injection e with e1 _
   subst e1
   cases v<;>rfl
theorem wV (prog:Program) (w:World) (i:Int) (t:Tok):(c_ prog w).is (.inl i) (.int i t)=true:=Cp i t
theorem wW (prog:Program) (w:World) (x:Str) (t:Tok):(c_ prog w).is (.inr x) (.str x t)=true:=Cq x t
inductive V where
 | fB | bl (b:Bool) | int (i:Int) | str (x:Str) | AX (b:Array UInt8) | LM (b:UInt64) | ref (a:Addr) | ty (n:String)
 deriving DecidableEq
def RelV:V->Value->Prop
 | .fB,u=>u=Value.none
 | .bl b,u=>u=Value.bool b
 | .int i,u=> ∃t,u=Value.int i t
 | .str x,u=> ∃t,u=Value.str x t
 | .AX b,u=> ∃t,u=Value.bytes b t
 | .LM b,u=> ∃t,u=Value.float b t
 | .ref a,u=>u=Value.ref a
 | .ty n,u=>u=Value.type n
abbrev Vals:List V->List Value->Prop:=Paired RelV
theorem Vals.length {xs:List V} {us:List Value} (r:Vals xs us):xs.length=us.length:=Paired.length r
theorem Vals.get: ∀{xs:List V} {us:List Value} {i:Nat} {x:V},Vals xs us->xs[i]? =some x-> ∃u,us[i]? =some u/\RelV x u
 | _,_,_,_, .nil,e=>by simp at e
 | _,_,0,_, .cons r _,e=>by simp at e;subst e;exact ⟨_,rfl,r⟩
 | _,_,i+1,x, .cons _ t,e=>by
  obtain ⟨u,h1,h2⟩:=Vals.get (i:=i) (x:=x) t (by simpa using e)
  exact ⟨u,by simpa using h1,h2⟩
theorem Vals.set {x:V} {u:Value} (r:RelV x u): ∀{xs:List V} {us:List Value} (i:Nat),Vals xs us->Vals (xs.set i x) (us.set i u)
 | _,_,_, .nil=> .nil
 | _,_,0, .cons _ t=> .cons r t
 | _,_,i+1, .cons q t=> .cons q (Vals.set r i t)
theorem Vals.append: ∀{xs ys:List V} {us ws:List Value},Vals xs us->Vals ys ws->Vals (xs++ys) (us++ws)
 | _,_,_,_, .nil,s=>s
 | _,_,_,_, .cons r t,s=> .cons r (Vals.append t s)
theorem Vals.take: ∀{xs:List V} {us:List Value} (n:Nat),Vals xs us->Vals (xs.take n) (us.take n)
 | _,_,0,_=> .nil
 | _,_,_+1, .nil=> .nil
 | _,_,n+1, .cons r t=> .cons r (Vals.take n t)
theorem Vals.drop: ∀{xs:List V} {us:List Value} (n:Nat),Vals xs us->Vals (xs.drop n) (us.drop n)
 | _,_,0,r=>r
 | _,_,_+1, .nil=> .nil
 | _,_,n+1, .cons _ t=>Vals.drop n t
def mR:Option V->Option Value->Prop
 | some v,some u=>RelV v u
 | none,none=>True
 | _,_=>False
def KV {κ:Type}:List (κ×V)->List (κ×Value)->Prop:=Paired fun (p:κ×V) (q:κ×Value)=>p.1=q.1/\RelV p.2 q.2
noncomputable def kV:Key->V
 | .inl i=> .int i
 | .inr x=> .str x
inductive HO where
  | lst (xs:List V)
  | tup (xs:List V)
  | dK (aU:List (Key×V)) | dT (aU:List (List Key×V))
  | set (S:Int->Bool) (n:Nat)
  | ins (C dx:Addr) (fs:List (Str×V))
  | own (x:Addr)
  | xd (fs:List (Str×V))
  | met (f x:Addr)
  | UR (lo hi:Int)
  | AY (o:Obj) (u:HO)
  | LN (ps:Array Value)
  | ext (φ:Heap->Prop)
abbrev Hp:=Addr->Option HO
noncomputable def upd (H:Hp) (a:Addr) (o:HO):Hp:=fun b=>if b=a then some o else H b
theorem ah {H:Hp} {a:Addr} {o:HO}:upd H a o a=some o:=by unfold upd;rw[if_pos rfl]
theorem aD {H:Hp} {a b:Addr} {o:HO} (h:b≠a):upd H a o b=H b:=by unfold upd;rw[if_neg h]
theorem QJ {H:Hp} {a b:Addr} {o u:HO} (h:H a=some o) (h':H b=some u) (d:o≠u):a≠b:=by
 intro e;subst e;rw[h]at h';exact d (Qaf h')
theorem aE {H:Hp} {a b:Addr} {o:HO} (h:H a=some o) (h':H b=none):a≠b:=by
 intro e;subst e;rw[h]at h';cases h'
section
variable (P:Program) (w:World)
def cB (H:Hp) (h:Heap) (a:Addr):HO->Prop
 | .lst xs=>xs.length<=sizeLine/\ ∃(aO:List Value) (n:Nat),Vals xs aO/\h.get? a=some { cls:= .type "list",data:= .seq aO.toArray n }
 | .tup xs=>xs.length<=sizeLine/\ ∃aO:List Value,Vals xs aO/\IsTup h a aO.toArray
 | .dK aU=>aU.length<=sizeLine/\(a==sysModules)=false/\ ∃vs,KV aU vs/\h.DictOf (c_ P w) a vs
 | .dT aU=>aU.length<=sizeLine/\(a==sysModules)=false/\ ∃xs:List (List Key×Addr×Value),
   Paired (fun (p:List Key×V) (q:List Key×Addr×Value)=>p.1=q.1/\H q.2.1=some (.tup (p.1.map kV))/\RelV p.2 q.2.2) aU xs/\
   ∃o es ep,h.get? a=some o/\o.ExactDict/\o.data= .dict es ep/\es.toList=xs.map (entryOfKey (tupleKind (c_ P w)))/\(xs.map (·.1)).Nodup
 | .set S n=>h.SetOf (intKind P w) a S n
 | .ins C dx fs=>H dx=some (.own a)/\fs.length<=1000/\dx≠a/\h.get? a=some (PySem.W.instObj C dx)/\
   ∃mA,h.Ns1 dx mA/\(∀f,mR (fs.lookup f) (mA f))/\PySem.Within mA (fs.map (·.1))
 | .own _=> ∃o,h.get? a=some o
 | .xd fs=> ∃mA,h.Ns1 a mA/\ ∀f,mR (fs.lookup f) (mA f)
 | .UR lo hi=> ∃t u v,h.get? a=some { cls:= .type "range",data:= .fields #[.int lo t, .int hi u, .int 1 v] }
 | .AY o u=>h.get? a=some o/\cB H h a u
 | .LN ps=>h.get? a=some { cls:= .none,data:= .fields ps }
 | .met f x=>h.get? a=some (PySem.W.methodObj (.ref f) (.ref x))
 | .ext φ=>φ h/\(∃o,h.get? a=some o)/\ ∀h1 h2:Heap,φ h1->(∀o,h1.get? a=some o->h2.get? a=some o)->φ h2
def kO (H:Hp) (h:Heap):Prop:= ∀a o,H a=some o->cB P w H h a o
end
section
variable {P:Program} {w:World} {H H':Hp} {h h':Heap} {a:Addr} {o:HO}
theorem cB.lt (x:cB P w H h a o):a<h.objs.size:=by
 cases o with
 | lst xs=>obtain ⟨_,_,_,_,e⟩:=x;exact Qal e
 | tup xs=>obtain ⟨_,_,_,p⟩:=x;exact p.lt
 | dK aU=>obtain ⟨_,_,_,_,o,_,_,e,_⟩:=x;exact Qal e
 | dT aU=>obtain ⟨_,_,_,_,o,_,_,e,_⟩:=x;exact Qal e
 | set S n=>obtain ⟨o,_,_,_,e,_⟩:=x;exact Qal e
 | ins C dx fs=>obtain ⟨_,_,_,e,_⟩:=x;exact Qal e
 | own y=>obtain ⟨_,e⟩:=x;exact Qal e
 | xd fs=>obtain ⟨_,⟨_,_,_,e,_⟩,_⟩:=x;exact Qal e
 | UR lo hi=>obtain ⟨_,_,_,e⟩:=x;exact Qal e
 | AY ob u=>obtain ⟨e,_⟩:=x;exact Qal e
 | LN ps=>exact Qal (show h.get? a=some _ from x)
 | met f y=>exact Qal (show h.get? a=some _ from x)
 | ext φ=>obtain ⟨_,⟨_,e⟩,_⟩:=x;exact Qal e
theorem Paired.LO {α β:Type} {F G:α->β->Prop}: ∀{l₁:List α} {l₂:List β},Paired F l₁ l₂->(∀a b,F a b->G a b)->Paired G l₁ l₂
 | _,_, .nil,_=> .nil
 | _,_, .cons r t,f=> .cons (f _ _ r) (Paired.LO t f)
theorem cB.pQ (x:cB P w H h a o) (k: ∀b u,(b=a\/H b=some (.own a))->h.get? b=some u->h'.get? b=some u)
  (ho: ∀b,H b=some (.own a)->H' b=some (.own a)) (ht: ∀b xs,H b=some (.tup xs)->H' b=some (.tup xs)):cB P w H' h' a o:=by
 induction o with
 | lst xs=>obtain ⟨z,aO,n,r,e⟩:=x;exact ⟨z,aO,n,r,k _ _ (.inl rfl) e⟩
 | tup xs=>obtain ⟨z,aO,r,ob,e,c⟩:=x;exact ⟨z,aO,r,ob,k _ _ (.inl rfl) e,c⟩
 | dK aU=>obtain ⟨z,y,vs,r,ob,es,ep,e,c⟩:=x;exact ⟨z,y,vs,r,ob,es,ep,k _ _ (.inl rfl) e,c⟩
 | dT aU=>
  obtain ⟨z,y,xs,r,ob,es,ep,e,c⟩:=x
  exact ⟨z,y,xs,Paired.LO r fun p q z=>⟨z.1,ht _ _ z.2.1,z.2.2⟩,ob,es,ep,k _ _ (.inl rfl) e,c⟩
 | set S n=>obtain ⟨ob,es,ep,t,e,c⟩:=x;exact ⟨ob,es,ep,t,k _ _ (.inl rfl) e,c⟩
 | ins C dx fs=>
  obtain ⟨d,z,ne,e,mA,⟨od,es,ep,e2,c⟩,r⟩:=x
  exact ⟨ho _ d,z,ne,k _ _ (.inl rfl) e,mA,⟨od,es,ep,k _ _ (.inr d) e2,c⟩,r⟩
 | own y=>obtain ⟨ob,e⟩:=x;exact ⟨ob,k _ _ (.inl rfl) e⟩
 | xd fs=>obtain ⟨mA,⟨od,es,ep,e,c⟩,r⟩:=x;exact ⟨mA,⟨od,es,ep,k _ _ (.inl rfl) e,c⟩,r⟩
 | UR lo hi=>obtain ⟨t,u,v,e⟩:=x;exact ⟨t,u,v,k _ _ (.inl rfl) e⟩
 | AY ob u ih=>obtain ⟨e,q⟩:=x;exact ⟨k _ _ (.inl rfl) e,ih q⟩
 | LN ps=>
  have e:h.get? a=some { cls:= .none,data:= .fields ps }:=x
  show h'.get? a=some { cls:= .none,data:= .fields ps }
  exact k a _ (.inl rfl) e
 | met f y=>
  have e:h.get? a=some (PySem.W.methodObj (.ref f) (.ref y)):=x
  show h'.get? a=some (PySem.W.methodObj (.ref f) (.ref y))
  exact k a _ (.inl rfl) e
 | ext φ=>obtain ⟨p,⟨o,e⟩,st⟩:=x;exact ⟨st _ _ p fun o q=>k _ _ (.inl rfl) q,⟨o,k _ _ (.inl rfl) e⟩,st⟩
theorem kO.lt (x:kO P w H h) (e:H a=some o):a<h.objs.size:=(x a o e).lt
theorem kO.fresh (x:kO P w H h) (e:h.objs.size<=a):H a=none:=by
 cases q:H a with
 | none=>rfl
 | some u=>exact absurd (Qaw (x.lt q) e) (Qbb _)
theorem kO.kept (x:kO P w H h) (k: ∀b u,h.get? b=some u->h'.get? b=some u):kO P w H h':=fun a o e=>
 (x a o e).pQ (fun b u _ q=>k b u q) (fun _ q=>q) fun _ _ q=>q
theorem kO.laid (x:kO P w H h) (k: ∀b u,h.get? b=some u->h'.get? b=some u) (hp:h.objs.size<=a) (new:cB P w (upd H a o) h' a o):kO P w (upd H a o) h':=fun b u e=>by
 have hn:=x.fresh hp
 by_cases hb:b=a
 ·subst hb;rw[ah]at e;cases e;exact new
 ·rw[aD hb]at e
  exact (x b u e).pQ (fun c v _ q=>k c v q) (fun c q=>by rw[aD (aE q hn)];exact q) fun c xs q=>by rw[aD (aE q hn)];exact q
end
def Rd (H:Hp) (a:Addr) (u:HO):Prop:=H a=some u\/ ∃o,H a=some (.AY o u)
theorem Rd.ok {P:Program} {w:World} {H:Hp} {h:Heap} {a:Addr} {u:HO} (r:Rd H a u) (x:kO P w H h):cB P w H h a u:=by
 rcases r with r | ⟨o,r⟩
 ·exact x a u r
 ·obtain ⟨_,q⟩:=x a _ r
  exact q
def QK:Option HO->Prop
 | some (.lst _)=>True
 | some (.dK _)=>True
 | some (.dT _)=>True
 | some (.set _ _)=>True
 | some (.ins _ _ _)=>True
 | some (.ext _)=>True
 | _=>False
section
variable {P:Program} {w:World} {H:Hp} {h h':Heap} {x e:Addr} {o':HO}
theorem kO.write (ok:kO P w H h) (mu:QK (H x)) (he:e=x\/H e=some (.own x)) (k: ∀b u,b≠e->h.get? b=some u->h'.get? b=some u) (Ol: ∃u,h'.get? e=some u)
  (new:cB P w (upd H x o') h' x o'):kO P w (upd H x o') h':=fun b u q=>by
 have QL: ∀c y,H c=some (.own y)->c≠x:=fun c y r z=>by subst z;rw[r]at mu;exact mu
 have US: ∀c xs,H c=some (.tup xs)->c≠x:=fun c xs r z=>by subst z;rw[r]at mu;exact mu
 by_cases hb:b=x
 ·subst hb;rw[ah]at q;cases q;exact new
 ·rw[aD hb]at q
  by_cases HR:b=e
  ·have q':H b=some (.own x):=by
    rcases he with z | z
    ·exact absurd (HR.trans z) hb
    ·rw[HR];exact z
   rw[q]at q';cases q'
   obtain ⟨v,hv⟩:=Ol
   exact ⟨v,by rw[HR];exact hv⟩
  ·refine (ok b u q).pQ (fun c v hc r=>k c v ?_ r) (fun c r=>by rw[aD (QL c b r)];exact r) fun c xs r=>by rw[aD (US c xs r)];exact r
   rcases hc with rfl | hc
   ·exact HR
   ·rintro rfl
    rcases he with z | z
    ·exact QL c b hc z
    ·rw[hc]at z;cases z;exact hb rfl
end
structure Un (fs ex:List Addr) (H H':Hp) (h h':Heap):Prop where
 keep: ∀b o,h.get? b=some o->H b=none->b∉fs->b∉ex->h'.get? b=some o
 slot: ∀b o,h.get? b=some o->H b=none->b∈fs->b∉ex-> ∃sl,h'.get? b=some { o with slots:=sl }
 free: ∀b o,h.get? b=some o->H b=none->b∉ex->H' b=none
 there: ∀b o,h.get? b=some o->b∉ex-> ∃o',h'.get? b=some o'
 rH: ∀b xs,H b=some (.tup xs)->H' b=some (.tup xs)
 pR: ∀b o u,H b=some (.AY o u)->H' b=some (.AY o u)
 uG: ∀b ps,H b=some (.LN ps)-> ∃more,H' b=some (.LN (ps++more))
section
variable {fs Za ex ex':List Addr} {H H1 H2:Hp} {h h1 h2 h':Heap} {a x e:Addr} {o:HO}
theorem Un.any (u:Un fs ex H H1 h h1) {b:Addr} {ob:Obj} (q:h.get? b=some ob) (n:H b=none) (hx:b∉ex): ∃sl,h1.get? b=some { ob with slots:=sl }:=by
 by_cases hb:b∈fs
 ·exact u.slot b ob q n hb hx
 ·exact ⟨ob.slots,u.keep b ob q n hb hx⟩
theorem Un.kept (k: ∀b u,h.get? b=some u->h'.get? b=some u):Un fs ex H H h h':=
 ⟨fun b ob q _ _ _=>k b ob q,fun b ob q _ _ _=>⟨ob.slots,k b ob q⟩,fun _ _ _ n _=>n,fun b ob q _=>⟨ob,k b ob q⟩,fun _ _ q=>q,fun _ _ _ q=>q,fun _ ps q=>⟨#[],by rw[q];simp⟩⟩
theorem Un.refl:Un fs ex H H h h:=Un.kept fun _ _ q=>q
theorem Un.laid (k: ∀b u,h.get? b=some u->h'.get? b=some u) (hp:h.objs.size<=a) (hn:H a=none):Un fs ex H (upd H a o) h h' where
 keep:=fun b u q _ _ _=>k b u q
 slot:=fun b u q _ _ _=>⟨u.slots,k b u q⟩
 free:=fun b u q n _=>by rw[aD (Qan (Qaw (Qal q) hp))];exact n
 there:=fun b u q _=>⟨u,k b u q⟩
 rH:=fun b xs q=>by rw[aD (aE q hn)];exact q
 pR:=fun b u xs q=>by rw[aD (aE q hn)];exact q
 uG:=fun b ps q=>⟨#[],by rw[aD (aE q hn),q];simp⟩
theorem Un.write (mu:QK (H x)) (he:e=x\/H e=some (.own x)) (k: ∀b u,b≠e->h.get? b=some u->h'.get? b=some u) (Ol: ∃u,h'.get? e=some u):Un fs ex H (upd H x o) h h':=by
 have hx: ∀b,H b=none->b≠x:=fun b n z=>by subst z;rw[n]at mu;exact mu
 have hb: ∀b,H b=none->b≠e:=fun b n z=>by
  subst z
  rcases he with r | r
  ·exact hx b n r
  ·rw[n]at r;cases r
 have hm: ∀b u,H b=some u-> ¬QK (some u)->b≠x:=fun b u q nm z=>by subst z;rw[q]at mu;exact nm mu
 refine ⟨fun b u q n _ _=>k b u (hb b n) q,fun b u q n _ _=>⟨u.slots,k b u (hb b n) q⟩,fun b u q n _=>by rw[aD (hx b n)];exact n,fun b u q _=>?_,
  fun b xs q=>by rw[aD (hm b _ q fun z=>z)];exact q,fun b u xs q=>by rw[aD (hm b _ q fun z=>z)];exact q,fun b ps q=>⟨#[],by rw[aD (hm b _ q fun z=>z),q];simp⟩⟩
 by_cases HR:b=e
 ·subst HR;exact Ol
 ·exact ⟨u,k b u HR q⟩
end
noncomputable def Tn (h:Heap) (H:Hp):List Addr:=(List.range h.objs.size).filter fun a=>(H a).isSome
noncomputable def uH (h:Heap) (H:Hp):Heap:=PySem.W.hideAll h (Tn h H)
theorem Cr (h:Heap) (H:Hp):(uH h H).objs.size=h.objs.size:=PySem.W.hideAll_size _ _
theorem Es {h:Heap} {H:Hp} {b:Addr} {o:Obj} (e:h.get? b=some o) (n:H b=none):(uH h H).get? b=some o:=
 PySem.W.hideAll_get _ e fun hm=>by
  have q:(H b).isSome=true:=(Qa0.mp hm).2
  rw[n]at q;simp at q
theorem Iw {h:Heap} {H:Hp} {b:Addr} {o:Obj} (e:(uH h H).get? b=some o):h.get? b=some o/\H b=none:=by
 have e':h.get? b=some o:=PySem.W.of_hideAll (Tn h H) e
 refine ⟨e',?_⟩
 cases q:H b with
 | none=>rfl
 | some x=>
  have hm:b∈Tn h H:=Qa0.mpr ⟨Qbl.mpr (Qal e'),by simp[q]⟩
  have z:(uH h H).get? b=none:=PySem.W.hideAll_none (Tn h H) hm
  rw[z]at e;cases e
structure Mod (K:PySem.W.Frag) (mg:Str->Option Value) (base:Heap):Prop where
 Om:K.In base
 glob:base.Ns mainGlobals mg
 blt: ∃mb,base.Ns builtinsNs mb/\ ∀x:Str,x≠"__name__"->mb x=bootBuiltins x
 nolimit:base.NoLimit
structure Cx where
 prog:Program
 w:World
 K:PySem.W.Frag
 mg:Str->Option Value
 base:Heap
 A:Around
 N:List Str
 s₀:Shared
 H₀:Hp
 env:Env
 outer:List Env
 stack:List Env
 ex:List Addr
 fn:Str->Bool
 calm:Bool
 pn:List (Addr×Obj)
 xe:Value->Shared->Prop
noncomputable def AZ (l:List Env):List Addr:=l.filterMap (·.frame)
noncomputable abbrev Cx.fs (X:Cx):List Addr:=AZ X.outer
def QM (sc:Scope) (x:Str):Prop:=sc.names.lookup x=some .local\/sc.names.lookup x=some .cell\/sc.names.lookup x=some .free
def Loc (sc:Scope) (x:Str):Prop:=sc.names.lookup x=some .local\/sc.names.lookup x=some .cell
def Look (env:Env) (h:Heap) (m:Str->Option Value) (x:Str) (u:Value):Prop:=
 (env.kindOf x=some .local/\m x=some u)\/((env.kindOf x=some .cell\/env.kindOf x=some .free)/\ ∃c,env.cells.lookup x=some c/\h.IsCell c (some u))
structure Cx.Ok (X:Cx):Prop where
 mod:Mod X.K X.mg X.base
 kind:X.env.scope.kind= .function
 glob:X.env.globals=mainGlobals
 blt:X.env.builtins=builtinsNs
 above:X.s₀.heap.objs.size<=X.env.locals
 inj: ∀x y c,X.env.cells.lookup x=some c->X.env.cells.lookup y=some c->x=y
 has: ∀x,(X.env.kindOf x=some .cell\/X.env.kindOf x=some .free)-> ∃c,X.env.cells.lookup x=some c
 QN: ∀x c,X.fn x=true->X.env.cells.lookup x=some c->X.s₀.heap.objs.size<=c
 hd:X.calm=true->X.A.handled=none
 frames:X.A.frames=some X.stack
 To:X.stack=X.outer\/(X.stack=X.env::X.outer/\X.env.frame=some X.env.locals)
 W_: ∀b∈X.ex,b≠X.env.locals/\ ∀x c,X.env.cells.lookup x=some c->c≠b
 bs: ∀b o,X.base.get? b=some o->X.s₀.heap.get? b=some o/\X.H₀ b=none
 Iy:X.base.objs.size<=X.s₀.heap.objs.size
 Et: ∀b o,X.base.get? b=some o->b∉X.ex
 Iz: ∀b∈X.ex,b∉X.fs
 oB:X.s₀.heap.FunFrames X.base X.outer
 LP: ∀b∈X.fs,X.H₀ b=none
structure Inv (X:Cx) (pins:List (Addr×Obj)) (σ:List (Option V)) (H:Hp) (s:Shared):Prop where
 ok:X.Ok
 os:s.os=X.s₀.os
 bare:AllBare s.gens
 base:Un X.fs X.ex X.H₀ H X.s₀.heap s.heap
 loc: ∃m,s.heap.Ns X.env.locals m/\ ∀(i:Nat) (x:Str) (v:V),X.N[i]? =some x->σ[i]? =some (some v)->QM X.env.scope x-> ∃u,RelV v u/\Look X.env s.heap m x u
 cell: ∀x c,X.env.cells.lookup x=some c-> ∃v,s.heap.IsCell c v
 free:H X.env.locals=none
 ji: ∀x c,X.env.cells.lookup x=some c->H c=none
 pin: ∀p∈X.pn++pins,s.heap.get? p.1=some p.2/\H p.1=none/\p.1≠X.env.locals/\p.1∉X.fs/\ ∀v,p.2.data≠ .cell v
 cj:kO X.prog X.w H s.heap
 len:σ.length=X.N.length
section
variable {X:Cx} {pins:List (Addr×Obj)} {σ:List (Option V)} {H H':Hp} {s:Shared} {h':Heap}
theorem Cx.Ok.UT (ok:X.Ok) {b:Addr} {o:Obj} (e:X.base.get? b=some o):b∉X.fs:=fun hb=>by
 have:=(ok.oB.mem hb).1
 rw[e]at this;cases this
theorem Inv.bs (I:Inv X pins σ H s): ∀b o,X.base.get? b=some o->s.heap.get? b=some o/\H b=none:=fun b o e=>
 ⟨I.base.keep b o (I.ok.bs b o e).1 (I.ok.bs b o e).2 (I.ok.UT e) (I.ok.Et b o e),I.base.free b o (I.ok.bs b o e).1 (I.ok.bs b o e).2 (I.ok.Et b o e)⟩
theorem Inv.bk (I:Inv X pins σ H s): ∀b o,X.base.get? b=some o->s.heap.get? b=some o:=fun b o e=>(I.bs b o e).1
theorem Inv.mod (I:Inv X pins σ H s):Mod X.K X.mg X.base:=I.ok.mod
theorem Inv.o5 (I:Inv X pins σ H s):X.K.In s.heap:=I.ok.mod.Om.keeps I.bk
theorem Inv.lt (I:Inv X pins σ H s):X.env.locals<s.heap.objs.size:=let ⟨_,hn,_⟩:=I.loc;hn.lt
theorem Inv.sz (I:Inv X pins σ H s):X.s₀.heap.objs.size<=s.heap.objs.size:=Qao I.ok.above (Qa5 I.lt)
theorem Inv.LQ (I:Inv X pins σ H s) {a:Addr} (h:s.heap.objs.size<=a):a∉X.fs:=fun hb=>by
 obtain ⟨_,o,ho,_⟩:=I.ok.oB.mem hb
 exact absurd (Qaw (Qal ho) (Qao I.sz h)) (Qbb _)
theorem Inv.LR (I:Inv X pins σ H s): ∀x c,X.env.cells.lookup x=some c->c≠X.env.locals:=fun x c e z=>by
 obtain ⟨v,o,ho,hd⟩:=I.cell x c e
 obtain ⟨m,⟨o',es,ep,Eu,UU,_⟩,_⟩:=I.loc
 rw[z,Eu]at ho;cases ho;rw[UU]at hd;cases hd
theorem Inv.oB (I:Inv X pins σ H s):s.heap.FunFrames X.base X.outer:=by
 have all: ∀(l:List Env),(∀b∈AZ l,b∈X.fs)->X.s₀.heap.FunFrames X.base l->s.heap.FunFrames X.base l:=by
  intro l
  induction l with
  | nil=>intro _ _;trivial
  | cons env r ih=>
   intro hs hl
   obtain ⟨hk,⟨L,o,hf,hn,ho,hd⟩,hr⟩:=hl
   have hL:L∈X.fs:=hs L (by unfold AZ;rw[Qe3,hf];exact Zu)
   obtain ⟨sl,e⟩:=I.base.slot L o ho (I.ok.LP L hL) hL fun z=>I.ok.Iz L z hL
   exact ⟨hk,⟨L,_,hf,hn,e,hd⟩,ih (fun b hb=>hs b (by unfold AZ;rw[Qe3,hf];exact Xn _ hb)) hr⟩
 exact all X.outer (fun _ hb=>hb) I.ok.oB
theorem Inv.stack (I:Inv X pins σ H s):s.heap.FunFrames X.base X.stack:=by
 rcases I.ok.To with e | ⟨e,hf⟩
 ·rw[e];exact I.oB
 ·rw[e]
  obtain ⟨m,hn,_⟩:=I.loc
  refine .cons (by rw[I.ok.kind];decide) hf hn ?_ I.oB
  exact Heap.get?_none_of_le (Qao I.ok.Iy I.ok.above)
theorem Inv.pT (I:Inv X pins σ H s): ∀b∈AZ X.stack,b∈X.env.locals::X.fs:=fun b hb=>by
 rcases I.ok.To with e | ⟨e,hf⟩
 ·rw[e]at hb;exact Xn _ hb
 ·rw[e]at hb
  unfold AZ at hb
  rw[Qe3,hf]at hb
  exact hb
theorem Inv.A0 (I:Inv X pins σ H s): ∀b∈AZ X.stack,H b=none:=fun b hb=>by
 rcases Zv.mp (I.pT b hb) with e | hb
 ·rw[e];exact I.free
 ·obtain ⟨_,o,ho,_⟩:=I.ok.oB.mem hb
  exact I.base.free b o ho (I.ok.LP b hb) fun z=>I.ok.Iz b z hb
theorem Inv.step {g':Array GenState} {t':Nat} {d':Drawn} {ch:List Addr} (I:Inv X pins σ H s)
  (HS: ∀b∈ch,(b∈X.ex\/X.s₀.heap.objs.size<=b)/\b≠X.env.locals/\(∀x c,X.env.cells.lookup x=some c->c≠b)/\ ∀p∈X.pn++pins,p.1≠b)
  (keep: ∀b o,b≠X.env.locals->b∉X.fs->b∉ch->s.heap.get? b=some o->H b=none->h'.get? b=some o)
  (slot: ∀b o,b≠X.env.locals->b∈X.fs->b∉ch->s.heap.get? b=some o->H b=none-> ∃sl,h'.get? b=some { o with slots:=sl }) (free: ∀b o,b∉ch->s.heap.get? b=some o->H b=none->H' b=none)
  (there: ∀b o,b∉ch->s.heap.get? b=some o-> ∃o',h'.get? b=some o')
  (rH: ∀b xs,H b=some (.tup xs)->H' b=some (.tup xs)) (pR: ∀b o u,H b=some (.AY o u)->H' b=some (.AY o u)) (uG: ∀b ps,H b=some (.LN ps)-> ∃more,H' b=some (.LN (ps++more)))
  (ns: ∀m,s.heap.Ns X.env.locals m->h'.Ns X.env.locals m) (cj:kO X.prog X.w H' h') (hg:AllBare g'):
  Inv X pins σ H' { s with heap:=h',gens:=g',drawn:=d',toks:=t' }:=by
 have Xa: ∀b o,X.s₀.heap.get? b=some o->b≠X.env.locals:=fun b o e=>Qan (Qaw (Qal e) I.ok.above)
 have LS: ∀b o,X.s₀.heap.get? b=some o->b∉X.ex->b∉ch:=fun b o e hx hb=>by
  rcases (HS b hb).1 with z | z
  ·exact hx z
  ·exact absurd (Qaw (Qal e) z) (Qbb _)
 have cellK: ∀x c,X.env.cells.lookup x=some c-> ∀v,s.heap.IsCell c v->h'.IsCell c v:=fun x c e v ⟨o,ho,hd⟩=>by
  have QO:c∉ch:=fun z=>(HS c z).2.2.1 x c e rfl
  by_cases hc:c∈X.fs
  ·obtain ⟨sl,q⟩:=slot c o (I.LR x c e) hc QO ho (I.ji x c e)
   exact ⟨_,q,hd⟩
  ·exact ⟨o,keep c o (I.LR x c e) hc QO ho (I.ji x c e),hd⟩
 refine ⟨I.ok,I.os,hg,⟨fun b o e n hb hx=>?_,fun b o e n hb hx=>?_,fun b o e n hx=>?_,fun b o e hx=>?_,fun b xs e=>rH b xs (I.base.rH b xs e),fun b o xs e=>pR b o xs (I.base.pR b o xs e),fun b ps e=>?_⟩,?_,fun x c e=>?_,?_,fun x c e=>?_,fun p hp=>?_,cj,I.len⟩
 ·exact keep b o (Xa b o e) hb (LS b o e hx) (I.base.keep b o e n hb hx) (I.base.free b o e n hx)
 ·obtain ⟨sl,e1⟩:=I.base.slot b o e n hb hx
  obtain ⟨Zb,e2⟩:=slot b _ (Xa b o e) hb (LS b o e hx) e1 (I.base.free b o e n hx)
  exact ⟨Zb,e2⟩
 ·obtain ⟨o',e1⟩:=I.base.there b o e hx
  exact free b o' (LS b o e hx) e1 (I.base.free b o e n hx)
 ·obtain ⟨o',e1⟩:=I.base.there b o e hx
  exact there b o' (LS b o e hx) e1
 ·obtain ⟨m1,e1⟩:=I.base.uG b ps e
  obtain ⟨m2,e2⟩:=uG b _ e1
  exact ⟨m1++m2,by rw[e2,Array.append_assoc]⟩
 ·obtain ⟨m,hn,hl⟩:=I.loc
  refine ⟨m,ns m hn,fun i x v e1 e2 e3=>?_⟩
  obtain ⟨u,r,l⟩:=hl i x v e1 e2 e3
  refine ⟨u,r,?_⟩
  rcases l with l | ⟨k,c,e,z⟩
  ·exact .inl l
  ·exact .inr ⟨k,c,e,cellK x c e _ z⟩
 ·obtain ⟨v,z⟩:=I.cell x c e
  exact ⟨v,cellK x c e v z⟩
 ·obtain ⟨m,⟨o,_,_,ho,_⟩,_⟩:=I.loc
  exact free _ o (fun z=>(HS _ z).2.1 rfl) ho I.free
 ·obtain ⟨v,o,ho,hd⟩:=I.cell x c e
  exact free c o (fun z=>(HS c z).2.2.1 x c e rfl) ho (I.ji x c e)
 ·obtain ⟨e,n,ne,nf,d⟩:=I.pin p hp
  have QO:p.1∉ch:=fun z=>(HS p.1 z).2.2.2 p hp rfl
  exact ⟨keep p.1 p.2 ne nf QO e n,free p.1 p.2 QO e n,ne,nf,d⟩
theorem Inv.un {t':Nat} (I:Inv X pins σ H s) (u:Un X.fs [] H H' s.heap h') (cj:kO X.prog X.w H' h'):Inv X pins σ H' { s with heap:=h',toks:=t' }:=by
 obtain ⟨m,⟨o,es,ep,ho,r⟩,_⟩:=id I.loc
 obtain ⟨sl,hL⟩:=u.any ho I.free (by simp)
 exact I.step (g':=s.gens) (d':=s.drawn) (ch:=[]) (fun _ z=>nomatch z) (fun b o _ hb _ e n=>u.keep b o e n hb (by simp)) (fun b o _ hb _ e n=>u.slot b o e n hb (by simp)) (fun b o _ e n=>u.free b o e n (by simp)) (fun b o _ e=>u.there b o e (by simp)) u.rH u.pR u.uG (fun m' hm=>by
  obtain ⟨o',UW,QP,Eu,r'⟩:=hm
  rw[ho]at Eu;cases Eu
  exact ⟨_,UW,QP,hL,r'⟩) cj I.bare
theorem Inv.call {g':Array GenState} {t':Nat} {d':Drawn} {ch:List Addr} (I:Inv X pins σ H s) (u:Un (AZ X.stack) ch H H' s.heap h') (cj:kO X.prog X.w H' h') (hg:AllBare g')
  (HS: ∀b∈ch,(b∈X.ex\/X.s₀.heap.objs.size<=b)/\b≠X.env.locals/\(∀x c,X.env.cells.lookup x=some c->c≠b)/\ ∀p∈X.pn++pins,p.1≠b):
  Inv X pins σ H' { s with heap:=h',gens:=g',drawn:=d',toks:=t' }:=by
 obtain ⟨m,⟨o,es,ep,ho,r⟩,_⟩:=id I.loc
 obtain ⟨sl,hL⟩:=u.any ho I.free fun z=>(HS _ z).2.1 rfl
 exact I.step (ch:=ch) HS (fun b o hL hb hc e n=>u.keep b o e n (fun z=>(Zv.mp (I.pT b z)).elim hL hb) hc) (fun b o _ _ hc e n=>u.any e n hc) (fun b o hc e n=>u.free b o e n hc) (fun b o hc e=>u.there b o e hc) u.rH u.pR u.uG (fun m' hm=>by
  obtain ⟨o',UW,QP,Eu,r'⟩:=hm
  rw[ho]at Eu;cases Eu
  exact ⟨_,UW,QP,hL,r'⟩) cj hg
theorem Inv.turned {t':Nat} {it:Addr} (I:Inv X pins σ H s) (k: ∀b o,b≠it->s.heap.get? b=some o->h'.get? b=some o) (hn:H it=none) (hL:it≠X.env.locals)
  (h1:it∈X.ex\/X.s₀.heap.objs.size<=it) (h2: ∀x c,X.env.cells.lookup x=some c->c≠it) (h3: ∀p∈X.pn++pins,p.1≠it):Inv X pins σ H { s with heap:=h',toks:=t' }:=by
 have KU: ∀b u,H b=some u->b≠it:=fun b u e z=>by rw[z,hn]at e;cases e
 refine I.step (g':=s.gens) (d':=s.drawn) (ch:=[it]) (fun b hb=>?_) (fun b o _ _ hc e _=>k b o (fun z=>hc (by simp[z])) e) (fun b o _ _ hc e _=>⟨o.slots,k b o (fun z=>hc (by simp[z])) e⟩) (fun _ _ _ _ n=>n)
  (fun b o hc e=>⟨o,k b o (fun z=>hc (by simp[z])) e⟩) (fun _ _ e=>e) (fun _ _ _ e=>e) (fun b ps e=>⟨#[],by rw[e];simp⟩) (fun m hm=>?_) (fun b u e=>?_) I.bare
 ·have e:b=it:=by simpa using hb
  subst e
  exact ⟨h1,hL,h2,h3⟩
 ·obtain ⟨o,es,ep,ho,r⟩:=hm
  exact ⟨o,es,ep,k _ o (Ne.symm hL) ho,r⟩
 ·refine (I.cj b u e).pQ (fun c v hc q=>k c v ?_ q) (fun _ q=>q) fun _ _ q=>q
  rcases hc with z | z
  ·rw[z];exact KU b u e
  ·exact KU c _ z
theorem Inv.tok (I:Inv X pins σ H s) (t:Nat):Inv X pins σ H { s with toks:=t }:=I.un (h':=s.heap) (t':=t) Un.refl I.cj
theorem Inv.kept {t':Nat} (I:Inv X pins σ H s) (k: ∀b u,s.heap.get? b=some u->h'.get? b=some u):Inv X pins σ H { s with heap:=h',toks:=t' }:=I.un (Un.kept k) (I.cj.kept k)
theorem Inv.laid {a:Addr} {o:HO} {t':Nat} (I:Inv X pins σ H s) (k: ∀b u,s.heap.get? b=some u->h'.get? b=some u) (hp:s.heap.objs.size<=a) (new:cB X.prog X.w (upd H a o) h' a o):
  Inv X pins σ (upd H a o) { s with heap:=h',toks:=t' }:=I.un (Un.laid k hp (I.cj.fresh hp)) (I.cj.laid k hp new)
theorem Inv.write {x e:Addr} {o:HO} {t':Nat} (I:Inv X pins σ H s) (mu:QK (H x)) (he:e=x\/H e=some (.own x)) (k: ∀b u,b≠e->s.heap.get? b=some u->h'.get? b=some u) (Ol: ∃u,h'.get? e=some u)
  (new:cB X.prog X.w (upd H x o) h' x o):Inv X pins σ (upd H x o) { s with heap:=h',toks:=t' }:=I.un (Un.write mu he k Ol) (I.cj.write mu he k Ol new)
theorem Inv.weak {σ':List (Option V)} (I:Inv X pins σ H s) (hl:σ'.length=σ.length) (w: ∀(i:Nat) v,σ'[i]? =some (some v)->σ[i]? =some (some v)):Inv X pins σ' H s:=
 ⟨I.ok,I.os,I.bare,I.base,let ⟨m,hn,A1⟩:=I.loc;⟨m,hn,fun i x v e1 e2 e3=>A1 i x v e1 (w i v e2) e3⟩,I.cell,I.free,I.ji,I.pin,I.cj,hl.trans I.len⟩
theorem Inv.lH {A2:List (Addr×Obj)} (I:Inv X pins σ H s) (h: ∀p∈A2,s.heap.get? p.1=some p.2/\H p.1=none/\p.1≠X.env.locals/\p.1∉X.fs/\ ∀v,p.2.data≠ .cell v):Inv X A2 σ H s:=
 ⟨I.ok,I.os,I.bare,I.base,I.loc,I.cell,I.free,I.ji,fun p hp=>(Qaj.mp hp).elim (fun z=>I.pin p (Qbx _ z)) (h p),I.cj,I.len⟩
theorem wX {N:List Str} (hN:N.Nodup) {i j:Nat} {x:Str} (a:N[i]? =some x) (b:N[j]? =some x):i=j:=by
 obtain ⟨h1,e1⟩:=Mu.mp a
 obtain ⟨h2,e2⟩:=Mu.mp b
 exact (List.getElem_inj hN).mp (e1.trans e2.symm)
theorem Cs {M:Model} {A:Around} {E:Value->Shared->Prop} {i:Nat} {x:Str} {v:V} {u:Value} {Q:Unit->Shared->Prop} (I:Inv X pins σ H s) (hN:X.N.Nodup) (hi:X.N[i]? =some x) (hx:Loc X.env.scope x) (r:RelV v u)
  (h: ∀s',Inv X pins (σ.set i (some v)) H s'->(∃a,Heap.SameBut a s.heap s'.heap/\(a=X.env.locals\/X.env.cells.lookup x=some a))->Q () s') (hf:X.fn x=true\/X.env.scope.names.lookup x=some .local:=by first | exact .inl rfl | exact .inr rfl | assumption):wpAny M A (storeName X.env x u) Q E s:=by
 obtain ⟨m,hn,hl⟩:=id I.loc
 have UX:(X.env.scope.kind== .class||(X.env.scope.kind== .module&&X.env.locals != X.env.globals))=false:=by rw[I.ok.kind];rfl
 have Xb:i<σ.length:=by rw[I.len];exact (Mu.mp hi).1
 have LR:=I.LR
 have tracked: ∀{a:Addr} {h':Heap},(∃o,s.heap.get? a=some o/\H a=none)->Heap.SameBut a s.heap h'->kO X.prog X.w H h':=fun {a h'} ha hs b ob e=>by
  obtain ⟨_,_,KW⟩:=ha
  refine (I.cj b ob e).pQ (fun c w' hc q=>(hs.2 c ?_).trans q) (fun _ q=>q) fun _ _ q=>q
  rintro rfl
  rcases hc with rfl | hc
  ·rw[KW]at e;cases e
  ·rw[KW]at hc;cases hc
 rcases hx with hk | hk
 ·refine wpAny_storeName_local hk hn (fun h' Tp hs=>?_) UX
  obtain ⟨oL,_,_,QQ,_⟩:=id hn
  refine h _ ⟨I.ok,I.os,I.bare,⟨fun b o e n hb hx=>?_,fun b o e n hb hx=>?_,I.base.free,fun b o e hx=>?_,I.base.rH,I.base.pR,I.base.uG⟩,⟨_,Tp,fun j y v' e1 e2 e3=>?_⟩,fun y c e=>?_,I.free,I.ji,fun p hp=>?_,tracked ⟨oL,QQ,I.free⟩ hs,by simpa using I.len⟩ ⟨_,hs, .inl rfl⟩
  ·exact (hs.2 b (Qan (Qaw (Qal e) I.ok.above))).trans (I.base.keep b o e n hb hx)
  ·obtain ⟨sl,e1⟩:=I.base.slot b o e n hb hx
   exact ⟨sl,(hs.2 b (Qan (Qaw (Qal e) I.ok.above))).trans e1⟩
  ·obtain ⟨o',e1⟩:=I.base.there b o e hx
   exact ⟨o',(hs.2 b (Qan (Qaw (Qal e) I.ok.above))).trans e1⟩
  ·by_cases hj:j=i
   ·subst hj
    rw[hi]at e1;cases e1
    rw[List.getElem?_set_self Xb]at e2
    cases e2
    exact ⟨u,r, .inl ⟨hk,by simp⟩⟩
   ·rw[List.getElem?_set_ne (Ne.symm hj)]at e2
    obtain ⟨u',r',q⟩:=hl j y v' e1 e2 e3
    refine ⟨u',r',?_⟩
    rcases q with ⟨k,e⟩ | ⟨k,c,e,z⟩
    ·refine .inl ⟨k,?_⟩
     have:y≠x:=fun e=>hj (wX hN e1 (e▸hi))
     simp[this,e]
    ·exact .inr ⟨k,c,e,z.sameBut hs (LR y c e)⟩
  ·obtain ⟨w',z⟩:=I.cell y c e
   exact ⟨w',z.sameBut hs (LR y c e)⟩
  ·obtain ⟨e,n,ne,nf,d⟩:=I.pin p hp
   exact ⟨(hs.2 p.1 ne).trans e,n,ne,nf,d⟩
 ·have UY:X.fn x=true:=by
   rcases hf with z | z
   ·exact z
   ·rw[z]at hk;cases hk
  obtain ⟨c,hc⟩:=I.ok.has x (.inl hk)
  obtain ⟨w',z⟩:=I.cell x c hc
  refine wpAny_storeName_cell I.ok.kind hk hc z (fun h' rJ hs=>?_)
  obtain ⟨oc,Xc,UZ⟩:=id z
  refine h { s with heap:=h' } ⟨I.ok,I.os,I.bare,⟨fun b o e n hb hx=>?_,fun b o e n hb hx=>?_,I.base.free,fun b o e hx=>?_,I.base.rH,I.base.pR,I.base.uG⟩,⟨m,hn.sameBut hs (Ne.symm (LR x c hc)),fun j y v' e1 e2 e3=>?_⟩,fun y c' e=>?_,I.free,I.ji,fun p hp=>?_,tracked ⟨oc,Xc,I.ji x c hc⟩ hs,by simpa using I.len⟩ ⟨c,hs, .inr hc⟩
  ·exact (hs.2 b (Qan (Qaw (Qal e) (I.ok.QN x c UY hc)))).trans (I.base.keep b o e n hb hx)
  ·obtain ⟨sl,e1⟩:=I.base.slot b o e n hb hx
   exact ⟨sl,(hs.2 b (Qan (Qaw (Qal e) (I.ok.QN x c UY hc)))).trans e1⟩
  ·obtain ⟨o',e1⟩:=I.base.there b o e hx
   exact ⟨o',(hs.2 b (Qan (Qaw (Qal e) (I.ok.QN x c UY hc)))).trans e1⟩
  ·by_cases hj:j=i
   ·subst hj
    rw[hi]at e1;cases e1
    rw[List.getElem?_set_self Xb]at e2
    cases e2
    exact ⟨u,r, .inr ⟨.inl hk,c,hc,rJ⟩⟩
   ·rw[List.getElem?_set_ne (Ne.symm hj)]at e2
    obtain ⟨u',r',q⟩:=hl j y v' e1 e2 e3
    refine ⟨u',r',?_⟩
    rcases q with q | ⟨k,c',e,z'⟩
    ·exact .inl q
    ·refine .inr ⟨k,c',e,z'.sameBut hs ?_⟩
     rintro rfl
     exact hj (wX hN e1 (I.ok.inj _ _ _ e hc▸hi))
  ·by_cases Oo:c'=c
   ·subst Oo;exact ⟨_,rJ⟩
   ·obtain ⟨w2,z2⟩:=I.cell y c' e
    exact ⟨w2,z2.sameBut hs Oo⟩
  ·obtain ⟨e,n,ne,nf,d⟩:=I.pin p hp
   refine ⟨(hs.2 p.1 ?_).trans e,n,ne,nf,d⟩
   intro q
   rw[q,Xc]at e
   have q':oc=p.2:=Qaf e
   exact d w' (by rw[<-q'];exact UZ)
theorem eR {M:Model} {A:Around} {E:Value->Shared->Prop} {i:Nat} {x:Str} {v:V} {u:Value} {Q:Unit->Shared->Prop} (I:Inv X pins σ H s) (hN:X.N.Nodup) (hi:X.N[i]? =some x) (hx:Loc X.env.scope x) (r:RelV v u)
  (h: ∀s',Inv X pins (σ.set i (some v)) H s'->Q () s') (hf:X.fn x=true\/X.env.scope.names.lookup x=some .local:=by first | exact .inl rfl | exact .inr rfl | assumption):wpAny M A (storeName X.env x u) Q E s:=
 Cs I hN hi hx r (fun s' I' _=>h s' I') hf
theorem Inv.QR {s':Shared} {ch:List Addr} (I:Inv X pins σ H s) (ho:s'.os=s.os) (u:Un (AZ X.stack) ch H H' s.heap s'.heap) (cj:kO X.prog X.w H' s'.heap) (hg:AllBare s'.gens)
  (HS: ∀b∈ch,(b∈X.ex\/X.s₀.heap.objs.size<=b)/\b≠X.env.locals/\(∀x c,X.env.cells.lookup x=some c->c≠b)/\ ∀p∈X.pn++pins,p.1≠b):Inv X pins σ H' s':=by
 obtain ⟨h',g',d',t',o'⟩:=s'
 have e:o'=s.os:=ho
 subst e
 exact I.call (g':=g') (t':=t') (d':=d') u cj hg HS
end
abbrev XK:=Value->Option Addr->Hp->Prop
abbrev St:=List (Option V)
abbrev VK:=V->Hp->Prop
abbrev TE:=St->Hp->VK->Prop
abbrev TT:=St->Hp->(Bool->Hp->Prop)->Prop
abbrev TA:=St->Hp->(List V->Hp->Prop)->Prop
structure Ends where
 nx:St->Hp->Prop
 rt:VK
 bk:St->Hp->Prop:=fun _ _=>False
 ct:St->Hp->Prop:=fun _ _=>False
abbrev TS:=Ends->St->Hp->Prop
def EP (X:Cx) (pins:List (Addr×Obj)) (σ:St) (Q:VK) (u:Value) (s':Shared):Prop:= ∃v H',Inv X pins σ H' s'/\RelV v u/\Q v H'
def TP (X:Cx) (pins:List (Addr×Obj)) (σ:St) (Q:Bool->Hp->Prop) (b:Bool) (s':Shared):Prop:= ∃H',Inv X pins σ H' s'/\Q b H'
def AP (X:Cx) (pins:List (Addr×Obj)) (σ:St) (Q:List V->Hp->Prop) (us:List Value) (s':Shared):Prop:= ∃vs H',Inv X pins σ H' s'/\Vals vs us/\Q vs H'
def SP (X:Cx) (pins:List (Addr×Obj)) (D:Ends) (f:Flow) (s':Shared):Prop:=
 match f with
 | .next=> ∃σ' H',Inv X pins σ' H' s'/\D.nx σ' H'
 | .brk=> ∃σ' H',Inv X pins σ' H' s'/\D.bk σ' H'
 | .cont=> ∃σ' H',Inv X pins σ' H' s'/\D.ct σ' H'
 | .ret u=> ∃v σ' H',Inv X pins σ' H' s'/\RelV v u/\D.rt v H'
def PE (X:Cx) (e:Expr) (t:TE):Prop:=
 ∀(pins:List (Addr×Obj)) (s:Shared) (σ:St) (H:Hp) (Q:VK),Inv X pins σ H s->t σ H Q->wpAny (model X.prog X.w) X.A (eval e X.env) (EP X pins σ Q) X.xe s
def PT (X:Cx) (e:Expr) (t:TT):Prop:=
 ∀(pins:List (Addr×Obj)) (s:Shared) (σ:St) (H:Hp) (Q:Bool->Hp->Prop),Inv X pins σ H s->t σ H Q->wpAny (model X.prog X.w) X.A (isTrue e X.env (eval e X.env)) (TP X pins σ Q) X.xe s
def PW (X:Cx) (e:Expr) (t:TT):Prop:=
 ∀(whole:Sem Value) (pins:List (Addr×Obj)) (s:Shared) (σ:St) (H:Hp) (Q:Bool->Hp->Prop),Inv X pins σ H s->t σ H Q->wpAny (model X.prog X.w) X.A (isTrue e X.env whole) (TP X pins σ Q) X.xe s
theorem PW.pt {X:Cx} {e:Expr} {t:TT} (h:PW X e t):PT X e t:=h _
def PA (X:Cx) (es:List Expr) (t:TA):Prop:=
 ∀(pos:Pos) (pins:List (Addr×Obj)) (s:Shared) (σ:St) (H:Hp) (Q:List V->Hp->Prop),Inv X pins σ H s->t σ H Q->wpAny (model X.prog X.w) X.A (spliced (backTo pos (starEach es X.env))) (AP X pins σ Q) X.xe s
def PS (X:Cx) (st:Stmt) (t:TS):Prop:=
 ∀(pins:List (Addr×Obj)) (s:Shared) (σ:St) (H:Hp) (D:Ends),Inv X pins σ H s->t D σ H->wpAny (model X.prog X.w) X.A (exec st X.env) (SP X pins D) X.xe s
def y9 (X:Cx) (st:List Stmt) (t:TS):Prop:=
 ∀(pins:List (Addr×Obj)) (s:Shared) (σ:St) (H:Hp) (D:Ends),Inv X pins σ H s->t D σ H->wpAny (model X.prog X.w) X.A (execs st X.env) (SP X pins D) X.xe s
theorem cD {α:Type} {t:Sem α} {Q Q':α->Shared->Prop} {M:Model} {A:Around} {E:Value->Shared->Prop} {s:Shared} (h:wpAny M A t Q E s) (hQ: ∀a s,Q a s->Q' a s):wpAny M A t Q' E s:=wpAny_mono h hQ fun _ _ x=>x
section
variable {X:Cx}
def LU (i:Nat):TE:=fun σ H Q=> ∃v,σ[i]? =some (some v)/\Q v H
def tC (v:V):TE:=fun _ H Q=>Q v H
theorem LV {i:Nat} {x:Str} {pos:Pos} (hN:X.N[i]? =some x) (hv:QM X.env.scope x) (hd:(x==("__debug__":Str))=false:=by decide) (oE:(x==("__classdict__":Str))=false:=by decide):PE X (.Name x pos) (LU i):=by
 intro pins s σ H Q I h
 obtain ⟨v,e,h⟩:=h
 obtain ⟨m,hn,hl⟩:=I.loc
 obtain ⟨u,r,l⟩:=hl i x v hN e hv
 have fin:EP X pins σ Q u s:=⟨v,H,I,r,h⟩
 rcases l with ⟨hk,hm⟩ | ⟨hk,c,hc,h_⟩
 ·exact wpAny_Name (wpAny_loadName_local I.ok.kind hk hn hm fin) hd
 ·rcases hk with hk | hk
  ·exact wpAny_Name (wpAny_loadName_cell I.ok.kind hk hc h_ fin) hd
  ·exact wpAny_Name (wpAny_loadName_free I.ok.kind hk hc h_ fin oE) hd
theorem ai {i j pos}:PE X (.Constant (.int i) j pos) (tC (.int i)):=fun _ _ _ H _ I h=>wpAny_Constant_int ⟨.int i,H,I.tok _,⟨_,rfl⟩,h⟩
theorem sx {b j pos}:PE X (.Constant (.bool b) j pos) (tC (.bl b)):=fun _ _ _ H _ I h=>Constant_bool ⟨.bl b,H,I,rfl,h⟩
theorem LW {x j pos}:PE X (.Constant (.str x) j pos) (tC (.str x)):=fun _ _ _ H _ I h=>Calls.Constant_str ⟨.str x,H,I.tok _,⟨_,rfl⟩,h⟩
def Gl (X:Cx) (x:Str):Prop:=X.env.kindOf x=some .globalImplicit
theorem uI {E:Value->Shared->Prop} {pins:List (Addr×Obj)} {s:Shared} {σ:St} {H:Hp} {x:Str} {u:Value} {pos:Pos} {Q:Value->Shared->Prop} (I:Inv X pins σ H s) (hg:Gl X x) (hm:X.mg x=some u) (h:Q u s)
  (hd:(x==("__debug__":Str))=false:=by decide):wpAny (model X.prog X.w) X.A (eval (.Name x pos) X.env) Q E s:=
 Calls.Name_function_global I.ok.kind hg (Calls.loadGlobal_global (by rw[I.ok.glob];exact I.mod.glob.keeps I.bk) hm h) hd
theorem gg {E:Value->Shared->Prop} {pins:List (Addr×Obj)} {s:Shared} {σ:St} {H:Hp} {x:Str} {u:Value} {pos:Pos} {Q:Value->Shared->Prop} (I:Inv X pins σ H s) (hg:Gl X x) (hm:X.mg x=none) (hv:bootBuiltins x=some u) (h:Q u s)
  (hn:x≠"__name__":=by decide) (hd:(x==("__debug__":Str))=false:=by decide):wpAny (model X.prog X.w) X.A (eval (.Name x pos) X.env) Q E s:=by
 obtain ⟨mb,h1,h2⟩:=I.mod.blt
 exact Calls.Name_function_global I.ok.kind hg (Calls.loadGlobal_builtin (by rw[I.ok.glob];exact I.mod.glob.keeps I.bk) hm (by rw[I.ok.blt];exact h1.keeps I.bk) ((h2 x hn).trans hv) h) hd
theorem A3 {x:Str} {v:V} {u:Value} {pos:Pos} (hg:Gl X x) (hm:X.mg x=some u) (r:RelV v u) (hd:(x==("__debug__":Str))=false:=by decide):PE X (.Name x pos) (tC v):=
 fun _ _ _ H _ I h=>uI I hg hm ⟨v,H,I,r,h⟩ hd
theorem IA {x:Str} {v:V} {u:Value} {pos:Pos} (hg:Gl X x) (hm:X.mg x=none) (hv:bootBuiltins x=some u) (r:RelV v u) (hn:x≠"__name__":=by decide) (hd:(x==("__debug__":Str))=false:=by decide):PE X (.Name x pos) (tC v):=
 fun _ _ _ H _ I h=>gg I hg hm hv ⟨v,H,I,r,h⟩ hn hd
variable {a b:Expr} {ta tb:TE} {pos:Pos}
def tB (t:TE):TT:=fun σ H Q=>t σ H fun x H1=> ∃c,x= .bl c/\Q c H1
theorem kP {e:Expr} {t:TE} (h:PE X e t) (he: ∀whole,isTrue e X.env whole=(do let v <-whole;standAt e.pos;holding [v] (truthy v)):=by intro _;rfl):PT X e (tB t):=by
 intro pins s σ H Q I hw
 refine isTrue_plain (cD (h pins s σ H _ I hw) fun v s1 ⟨x,H1,I1,r1,q1⟩=>?_) (he _)
 obtain ⟨d,rfl,q⟩:=q1
 cases r1
 exact wpAny_truthy_bool ⟨H1,I1,q⟩
variable {tA Tq:TT} {rest:List Expr}
def U0 (t u:TT):TT:=fun σ H Q=>t σ H fun c H1=>if c=true then u σ H1 Q else Q false H1
def Zc (t u:TT):TT:=fun σ H Q=>t σ H fun c H1=>if c=true then Q true H1 else u σ H1 Q
def U1 (t:TT):TT:=fun σ H Q=>t σ H fun c H1=>Q (!c) H1
theorem gq (ha:PT X a tA):PW X (.BoolOp .And [a] pos) tA:=by
 intro wh pins s σ H Q I h
 refine isTrue_and (cD (ha pins s σ H Q I h) fun c s1 e=>?_)
 cases c with
 | true=>exact isTrue_and_nil e
 | false=>exact e
theorem y_ (ha:PT X a tA):PW X (.BoolOp .Or [a] pos) tA:=by
 intro wh pins s σ H Q I h
 refine isTrue_or (cD (ha pins s σ H Q I h) fun c s1 e=>?_)
 cases c with
 | false=>exact isTrue_or_nil e
 | true=>exact e
theorem gD (ha:PT X a tA) (hb:PW X (.BoolOp .And (b::rest) pos) Tq):PW X (.BoolOp .And (a::b::rest) pos) (U0 tA Tq):=by
 intro wh pins s σ H Q I h
 refine isTrue_and (cD (ha pins s σ H _ I h) fun c s1 ⟨H1,I1,q1⟩=>?_)
 cases c with
 | true=>exact hb wh pins s1 σ H1 Q I1 q1
 | false=>exact ⟨H1,I1,q1⟩
theorem Ew (ha:PT X a tA) (hb:PW X (.BoolOp .Or (b::rest) pos) Tq):PW X (.BoolOp .Or (a::b::rest) pos) (Zc tA Tq):=by
 intro wh pins s σ H Q I h
 refine isTrue_or (cD (ha pins s σ H _ I h) fun c s1 ⟨H1,I1,q1⟩=>?_)
 cases c with
 | true=>exact ⟨H1,I1,q1⟩
 | false=>exact hb wh pins s1 σ H1 Q I1 q1
theorem LX (ha:PT X a tA):PT X (.UnaryOp .Not a pos) (U1 tA):=by
 intro pins s σ H Q I h
 exact isTrue_not (ha pins s σ H (fun c H1=>Q (!c) H1) I h)
def QS (ta tb:TE):TE:=fun σ H Q=>ta σ H fun x H1=> ∃c,x= .bl c/\if c=true then tb σ H1 Q else Q (.bl false) H1
theorem za {op} {t:TE} (h:PE X a t):PE X (.BoolOp op [a] pos) t:=fun pins s σ H Q I hw=>BoolOp_one (h pins s σ H Q I hw)
theorem zc (ha:PE X a ta) (hb:PE X (.BoolOp .And (b::rest) pos) tb):PE X (.BoolOp .And (a::b::rest) pos) (QS ta tb):=by
 intro pins s σ H Q I h
 refine BoolOp_and (cD (ha pins s σ H _ I h) fun v s1 ⟨x,H1,I1,r1,q1⟩=>?_)
 obtain ⟨c,rfl,q1⟩:=q1
 cases r1
 refine wpAny_truthy_bool ?_
 cases c with
 | true=>exact hb pins s1 σ H1 Q I1 q1
 | false=>exact ⟨.bl false,H1,I1,rfl,q1⟩
end
def bA (K:PySem.W.Frag) (H:Hp) (a:Addr) (xs:List V):Prop:=
 Rd H a (.lst xs)\/
  ∃(o:Obj) (aO:Array Value) (n:Nat),K.lookup a=some o/\o.cls= .type "list"/\o.dict=none/\o.data= .seq aO n/\aO.size<=sizeLine/\Vals xs aO.toList
def cO (K:PySem.W.Frag) (H:Hp) (a:Addr) (xs:List V):Prop:=
 Rd H a (.tup xs)\/
  ∃(o:Obj) (aO:Array Value) (n:Nat),K.lookup a=some o/\o.cls= .type "tuple"/\o.data= .seq aO n/\aO.size<=sizeLine/\Vals xs aO.toList
noncomputable def U2:Value->Option V
 | .none=>some .fB
 | .bool b=>some (.bl b)
 | .int i _=>some (.int i)
 | .str x _=>some (.str x)
 | .bytes b _=>some (.AX b)
 | .float b _=>some (.LM b)
 | .ref a=>some (.ref a)
 | .type n=>some (.ty n)
 | _=>none
theorem RelV.abs {x:V} {u:Value} (r:RelV x u):U2 u=some x:=by
 cases x with
 | fB=>cases r;rfl
 | bl _=>cases r;rfl
 | int _=>obtain ⟨t,rfl⟩:=r;rfl
 | str _=>obtain ⟨t,rfl⟩:=r;rfl
 | AX _=>obtain ⟨t,rfl⟩:=r;rfl
 | LM _=>obtain ⟨t,rfl⟩:=r;rfl
 | ref _=>cases r;rfl
 | ty _=>cases r;rfl
theorem RelV.inj {x y:V} {u:Value} (r:RelV x u) (q:RelV y u):x=y:=Qaf (r.abs.symm.trans q.abs)
theorem Vals.inj: ∀{xs ys:List V} {us:List Value},Vals xs us->Vals ys us->xs=ys
 | _,_,_, .nil, .nil=>rfl
 | _,_,_, .cons r t, .cons r' t'=>by rw[r.inj r',Vals.inj t t']
section
variable {X:Cx} {pins:List (Addr×Obj)} {σ:St} {H:Hp} {s:Shared} {a:Addr} {xs ys:List V}
theorem bA.of {K:PySem.W.Frag} (h:H a=some (.lst xs)):bA K H a xs:= .inl (.inl h)
theorem cO.of {K:PySem.W.Frag} (h:H a=some (.tup xs)):cO K H a xs:= .inl (.inl h)
theorem Inv.list (I:Inv X pins σ H s) (h:bA X.K H a xs): ∃aO:List Value,Vals xs aO/\PlainL s.heap a aO.toArray/\xs.length<=sizeLine:=by
 rcases h with h | ⟨o,aO,n,hk,hc,hd,hs,hz,r⟩
 ·obtain ⟨z,aO,n,r,e⟩:=h.ok I.cj
  exact ⟨aO,r,⟨_,n,e,rfl,rfl,rfl⟩,z⟩
 ·refine ⟨aO.toList,r,⟨o,n,I.o5 a o hk,hc,hd,by simpa using hs⟩,?_⟩
  have e:=r.length
  simp only[Qe4]at e
  omega
theorem Inv.tuple (I:Inv X pins σ H s) (h:cO X.K H a xs): ∃aO:List Value,Vals xs aO/\IsTup s.heap a aO.toArray/\xs.length<=sizeLine:=by
 rcases h with h | ⟨o,aO,n,hk,hc,hs,hz,r⟩
 ·obtain ⟨z,aO,r,p⟩:=h.ok I.cj
  exact ⟨aO,r,p,z⟩
 ·refine ⟨aO.toList,r,⟨o,I.o5 a o hk,hc,n,by simpa using hs⟩,?_⟩
  have e:=r.length
  simp only[Qe4]at e
  omega
theorem Inv.wY (I:Inv X pins σ H s) (h:bA X.K H a xs) (h':bA X.K H a ys):xs=ys:=by
 obtain ⟨aO,r,⟨o,n,e,_,_,d⟩,_⟩:=I.list h
 obtain ⟨its',r',⟨o',n',e',_,_,d'⟩,_⟩:=I.list h'
 rw[e]at e';cases e'
 rw[d]at d'
 injection d' with d1 _
 have:aO=its':=by simpa using congrArg Array.toList d1
 subst this
 exact r.inj r'
theorem Inv.sC (I:Inv X pins σ H s) (h:cO X.K H a xs) (h':cO X.K H a ys):xs=ys:=by
 obtain ⟨aO,r,⟨o,e,_,n,d⟩,_⟩:=I.tuple h
 obtain ⟨its',r',⟨o',e',_,n',d'⟩,_⟩:=I.tuple h'
 rw[e]at e';cases e'
 rw[d]at d'
 injection d' with d1 _
 have:aO=its':=by simpa using congrArg Array.toList d1
 subst this
 exact r.inj r'
end
noncomputable abbrev Cx.rK (X:Cx) (E:Value->Shared->Prop):Cx:={ X with xe:=E }
noncomputable abbrev Cx.Tr (X:Cx):Cx:=X.rK fun _ _=>False
theorem Cx.Ok.rK {X:Cx} (ok:X.Ok) (E:Value->Shared->Prop):(X.rK E).Ok:=
 ⟨ok.mod,ok.kind,ok.glob,ok.blt,ok.above,ok.inj,ok.has,ok.QN,ok.hd,ok.frames,ok.To,ok.W_,ok.bs,ok.Iy,ok.Et,ok.Iz,ok.oB,ok.LP⟩
theorem Cx.Ok.jj {X:Cx} {E:Value->Shared->Prop} (ok:(X.rK E).Ok):X.Ok:=
 ⟨ok.mod,ok.kind,ok.glob,ok.blt,ok.above,ok.inj,ok.has,ok.QN,ok.hd,ok.frames,ok.To,ok.W_,ok.bs,ok.Iy,ok.Et,ok.Iz,ok.oB,ok.LP⟩
section
variable {X:Cx} {pins:List (Addr×Obj)} {σ:St} {H:Hp} {s:Shared} {E:Value->Shared->Prop}
theorem Inv.rK (I:Inv X pins σ H s) (E:Value->Shared->Prop):Inv (X.rK E) pins σ H s:=⟨I.ok.rK E,I.os,I.bare,I.base,I.loc,I.cell,I.free,I.ji,I.pin,I.cj,I.len⟩
theorem Inv.jj (I:Inv (X.rK E) pins σ H s):Inv X pins σ H s:=⟨I.ok.jj,I.os,I.bare,I.base,I.loc,I.cell,I.free,I.ji,I.pin,I.cj,I.len⟩
theorem SP.jj {D:Ends} {f:Flow} {s':Shared} (h:SP (X.rK E) pins D f s'):SP X pins D f s':=by
 cases f with
 | next=>obtain ⟨σ',H',I,q⟩:=h;exact ⟨σ',H',I.jj,q⟩
 | brk=>obtain ⟨σ',H',I,q⟩:=h;exact ⟨σ',H',I.jj,q⟩
 | cont=>obtain ⟨σ',H',I,q⟩:=h;exact ⟨σ',H',I.jj,q⟩
 | ret u=>obtain ⟨v,σ',H',I,r,q⟩:=h;exact ⟨v,σ',H',I.jj,r,q⟩
theorem y9.Tr {st:List Stmt} {t:TS} (h:y9 X.Tr st t):y9 X st t:=fun pins s σ H D I hw=>
 wpAny_mono (h pins s σ H D (I.rK _) hw) (fun _ _ q=>q.jj) fun _ _ z=>False.elim z
end
section
variable {X:Cx} {st:Stmt} {rest:List Stmt} {t u:TS} {e:Expr} {te:TE} {pos:Pos}
def QT:TS:=fun D σ H=>D.nx σ H
def kQ (t u:TS):TS:=fun D σ H=>t { D with nx:=u D } σ H
theorem bB:y9 X [] QT:=fun _ _ σ H _ I h=>wpAny_execs_nil ⟨σ,H,I,h⟩
theorem ag (h1:PS X st t) (h2:y9 X rest u):y9 X (st::rest) (kQ t u):=by
 intro pins s σ H D I h
 refine wpAny_execs_cons (cD (h1 pins s σ H { D with nx:=u D } I h) fun f s1 q=>?_)
 cases f with
 | next=>
  obtain ⟨σ',H',I',q⟩:=q
  exact h2 pins s1 σ' H' D I' q
 | ret v=>exact q
 | brk=>exact q
 | cont=>exact q
theorem aj (h1:PS X st t):y9 X [st] t:=by
 intro pins s σ H D I h
 refine wpAny_execs_cons (cD (h1 pins s σ H D I h) fun f s1 q=>?_)
 cases f with
 | next=>exact wpAny_execs_nil q
 | ret v=>exact q
 | brk=>exact q
 | cont=>exact q
theorem Inv.quiet {pins:List (Addr×Obj)} {σ:St} {H:Hp} {s:Shared} (I:Inv X pins σ H s):interactive X.env=false:=by simp[interactive,I.ok.kind]
def QU (te:TE):TS:=fun D σ H=>te σ H fun _ H1=>D.nx σ H1
theorem cQ (he:PE X e te) (hs:swapsWith e none pos.line X.env=pure false:=by rfl):PS X (.Expr e pos) (QU te):=by
 intro pins s σ H D I h
 exact wpAny_Expr_any (cD (he pins s σ H _ I h) fun v s1 ⟨x,H1,I1,r1,q1⟩=>⟨σ,H1,I1,q1⟩) I.quiet hs
def U3 (te:TE):TS:=fun D σ H=>te σ H D.rt
theorem aI (he:PE X e te):PS X (.Return (some e) pos) (U3 te):=by
 intro pins s σ H D I h
 exact wpAny_Return_some (cD (he pins s σ H _ I h) fun v s1 ⟨x,H1,I1,r1,q1⟩=>⟨x,σ,H1,I1,r1,q1⟩)
def U4 (c:TT) (t u:TS):TS:=fun D σ H=>c σ H fun b H1=>if b=true then t D σ H1 else u D σ H1
theorem bQ {c:Expr} {a b:List Stmt} {tc:TT} (hc:PT X c tc) (ha:y9 X a t) (hb:y9 X b u):PS X (.If c a b pos) (U4 tc t u):=by
 intro pins s σ H D I h
 refine wpAny_If (cD (hc pins s σ H _ I h) fun d s1 ⟨H1,I1,q1⟩=>?_)
 cases d with
 | true=>exact ha pins s1 σ H1 D I1 q1
 | false=>exact hb pins s1 σ H1 D I1 q1
end
abbrev TG:=V->St->Hp->(St->Hp->Prop)->Prop
abbrev HU:=List V->St->Hp->(St->Hp->Prop)->Prop
def PG (X:Cx) (target:Expr) (t:TG):Prop:=
 ∀(pins:List (Addr×Obj)) (s:Shared) (σ:St) (H:Hp) (v:V) (u:Value) (Q:St->Hp->Prop),Inv X pins σ H s->RelV v u->t v σ H Q->
  wpAny (model X.prog X.w) X.A (assign target X.env u) (fun _ s'=> ∃σ' H',Inv X pins σ' H' s'/\Q σ' H') X.xe s
def Oq (X:Cx) (ts:List Expr) (t:HU):Prop:=
 ∀(pins:List (Addr×Obj)) (s:Shared) (σ:St) (H:Hp) (vs:List V) (us:List Value) (Q:St->Hp->Prop),Inv X pins σ H s->Vals vs us->t vs σ H Q->
  wpAny (model X.prog X.w) X.A (assignInOrder ((assignEach ts X.env).map (·.2)) us) (fun _ s'=> ∃σ' H',Inv X pins σ' H' s'/\Q σ' H') X.xe s
abbrev LY:=V->V->V->Hp->(Hp->Prop)->Prop
def QV (X:Cx) (t:LY):Prop:=
 ∀(pins:List (Addr×Obj)) (s:Shared) (σ:St) (H:Hp) (o i v:V) (ov iv u:Value) (Q:Hp->Prop),Inv X pins σ H s->RelV o ov->RelV i iv->RelV v u->t o i v H Q->
  wpAny (model X.prog X.w) X.A (setItem ov iv u) (fun _ s'=> ∃H',Inv X pins σ H' s'/\Q H') X.xe s
abbrev Ts:=V->V->Hp->VK->Prop
def QW (X:Cx) (op:Operator) (t:Ts):Prop:=
 ∀(pins:List (Addr×Obj)) (s:Shared) (σ:St) (H:Hp) (x y:V) (v u:Value) (Q:VK),Inv X pins σ H s->RelV x v->RelV y u->t x y H Q->
  wpAny (model X.prog X.w) X.A (inplaceOp op v u) (EP X pins σ Q) X.xe s
section
variable {X:Cx} {pos:Pos}
def wZ (i:Nat):TG:=fun v σ H Q=>Q (σ.set i (some v)) H
theorem aF {i:Nat} {x:Str} (hN:X.N.Nodup) (hi:X.N[i]? =some x) (hx:Loc X.env.scope x) (hf:X.fn x=true\/X.env.scope.names.lookup x=some .local:=by first | exact .inl rfl | exact .inr rfl | assumption):PG X (.Name x pos) (wZ i):=by
 intro pins s σ H v u Q I r h
 exact wpAny_assign_Name (eR I hN hi hx r (fun s' I'=>⟨_,H,I',h⟩) hf)
def U5:HU:=fun vs σ H Q=>vs=[]/\Q σ H
def QX (t:TG) (u:HU):HU:=fun vs σ H Q=> ∃v r,vs=v::r/\t v σ H fun σ' H'=>u r σ' H' Q
theorem eB:Oq X [] U5:=by
 intro pins s σ H vs us Q I r h
 obtain ⟨e,h⟩:=h
 subst e
 cases r
 exact assignInOrder_nil ⟨σ,H,I,h⟩
theorem bf {e:Expr} {es:List Expr} {t:TG} {u:HU} (h1:PG X e t) (h2:Oq X es u)
  (hs:(assignEach (e::es) X.env).map (·.2)=assign e X.env::(assignEach es X.env).map (·.2):=by rfl):Oq X (e::es) (QX t u):=by
 intro pins s σ H vs us Q I r h
 obtain ⟨v,vr,e1,h⟩:=h
 subst e1
 cases r with
 | cons r rr=>
  rw[hs]
  refine assignInOrder_cons (cD (h1 pins s σ H _ _ _ I r h) fun _ s1 ⟨σ1,H1,I1,q1⟩=>?_)
  exact h2 pins s1 σ1 H1 _ _ Q I1 rr q1
def QY (K:PySem.W.Frag) (n:Nat) (t:HU):TG:=fun v σ H Q=> ∃a xs,v= .ref a/\cO K H a xs/\xs.length=n/\t xs σ H Q
theorem LZ {es:List Expr} {k:Nat} {t:HU} {n:Nat} (hc:X.calm=true) (h:Oq X es t)
  (hn:(assignEach es X.env).length=n:=by rfl) (ky:(assignEach es X.env).findIdx? (·.1)=none:=by rfl):PG X (.Tuple es k pos) (QY X.K n t):=by
 intro pins s σ H v u Q I r hw
 obtain ⟨a,xs,e1,hq,hl,hw⟩:=hw
 subst e1
 cases r
 obtain ⟨aO,rv,ht,hz⟩:=I.tuple hq
 refine assign_Tuple_tuple (I.ok.hd hc) ht (by simp[hn, <-hl,rv.length]) ky fun h' hx=>?_
 have I1:Inv X pins σ H { s with heap:=h' }:=I.kept (t':=s.toks) fun b o e=>hx b o (Qan (Qal e)) e
 exact h pins _ σ H xs _ Q I1 (by simpa using rv) hw
def U6 (to ti:TE) (t:LY):TG:=fun v σ H Q=>to σ H fun o H1=>ti σ H1 fun i H2=>t o i v H2 fun H3=>Q σ H3
theorem Ex {o i:Expr} {to ti:TE} {t:LY} (ho:PE X o to) (hi:PE X i ti) (hs:QV X t)
  (ha: ∀v,assign (.Subscript o i pos) X.env v=(do
   let ov <-holding [v] (eval o X.env)
   let iv <-holding [v,ov] (eval i X.env)
   standAt pos
   holding [v,ov,iv] (setItem ov iv v)
   release [v,ov,iv] []):=by intro _;rfl):PG X (.Subscript o i pos) (U6 to ti t):=by
 intro pins s σ H v u Q I r h
 rw[ha]
 refine wpAny_bind (wpAny_holding (cD (ho pins s σ H _ I h) fun ov s1 ⟨x,H1,I1,r1,q1⟩=>?_))
 refine wpAny_bind (wpAny_holding (cD (hi pins s1 σ H1 _ I1 q1) fun iv s2 ⟨y,H2,I2,r2,q2⟩=>?_))
 refine wpAny_bind (wpAny_standAt (wpAny_bind (wpAny_holding (cD (hs pins s2 σ H2 x y v ov iv u _ I2 r1 r2 r q2) fun _ s3 ⟨H3,I3,q3⟩=>?_))))
 exact wpAny_release ⟨σ,H3,I3,q3⟩
def IB (te:TE) (g:TG):TS:=fun D σ H=>te σ H fun x H1=>g x σ H1 D.nx
theorem jk {tg e:Expr} {te:TE} {g:TG} (he:PE X e te) (hg:PG X tg g) (hs:swapsWithSole [tg] e pos.line X.env=pure false:=by rfl) (hw:swappedStores [tg] e X.env=pure none:=by rfl)
  (h1:(assignEach [tg] X.env).map (·.2)=[assign tg X.env]:=by rfl):PS X (.Assign [tg] e pos) (IB te g):=by
 intro pins s σ H D I h
 refine wpAny_Assign_stores (cD (he pins s σ H _ I h) fun v s1 ⟨x,H1,I1,r1,q1⟩=>?_) hs hw
 rw[h1]
 exact cD (hg pins s1 σ H1 x v _ I1 r1 q1) fun _ s2 q=>q
theorem aq {i:Nat} {x:Str} {e:Expr} {te:TE} {pos':Pos} (hN:X.N.Nodup) (hi:X.N[i]? =some x) (hx:Loc X.env.scope x) (he:PE X e te) (hs:swapsWith e (some (.Name x pos')) pos.line X.env=pure false:=by rfl) (hf:X.fn x=true\/X.env.scope.names.lookup x=some .local:=by first | exact .inl rfl | exact .inr rfl | assumption):
  PS X (.Assign [.Name x pos'] e pos) (IB te (wZ i)):=by
 intro pins s σ H D I h
 refine wpAny_Assign_Name (cD (he pins s σ H _ I h) fun v s1 ⟨y,H1,I1,r1,q1⟩=>?_) hs
 exact eR I1 hN hi hx r1 (fun s2 I2=>⟨_,H1,I2,q1⟩) hf
def U7 (i j:Nat) (ta:TA):TS:=fun D σ H=>ta σ H fun vs H1=> ∃v w,vs=[v,w]/\D.nx ((σ.set i (some v)).set j (some w)) H1
theorem ze {i j:Nat} {x y:Str} {a b:Expr} {ta:TA} {px py pt:Pos} {kt k2 L1} (hc:X.calm=true) (hN:X.N.Nodup) (hi:X.N[i]? =some x) (hj:X.N[j]? =some y) (L3:i≠j)
  (hx:X.env.scope.names.lookup x=some .local) (hy:X.env.scope.names.lookup y=some .local) (ha:PA X [a,b] ta)
  (hw:swappedStores [.Tuple [.Name x px, .Name y py] kt pt] (.Tuple [a,b] k2 L1) X.env=pure (some [x,y]))
  (hs:swapsWithSole [.Tuple [.Name x px, .Name y py] kt pt] (.Tuple [a,b] k2 L1) pos.line X.env=pure false:=by rfl):
  PS X (.Assign [.Tuple [.Name x px, .Name y py] kt pt] (.Tuple [a,b] k2 L1) pos) (U7 i j ta):=by
 intro pins s σ H D I h
 rw[exec_Assign_arm]
 refine wpAny_bind (wpAny_standAt ?_)
 rw[hs]
 refine wpAny_bind (wpAny_pure ?_)
 rw[if_neg (by decide)]
 refine wpAny_bind (Tuple_ (cD (ha _ pins s σ H _ I h) fun us s1 ⟨vs,H1,I1,r1,q1⟩=>?_))
 obtain ⟨v,w,e1,q1⟩:=q1
 subst e1
 obtain ⟨u1,u2,rfl,rv,rL⟩: ∃u1 u2,us=[u1,u2]/\RelV v u1/\RelV w u2:=by
  cases r1 with
  | cons p q=>
   cases q with
   | cons p' q'=>
    cases q'
    exact ⟨_,_,rfl,p,p'⟩
 refine wpAny_newObj_type ?_ (by show 2<=sizeLine;decide)
 have I2:Inv X pins σ H1 { s1 with heap:=s1.heap.push { cls:= .type "tuple",data:= .seq [u1,u2].toArray } }:=I1.kept (t':=s1.toks) fun b o e=>Xm _ e
 rw[hw]
 refine wpAny_bind (wpAny_pure ?_)
 show wpAny (model X.prog X.w) X.A (do rule "assign.swapped-stores";let items <-unpackItems (.ref s1.heap.objs.size) 2 none;assignInOrder [fun v=>bindName X.env y v,fun v=>bindName X.env x v] items.reverse;pure Flow.next) _ _ _
 refine wpAny_bind (wpAny_rule (wpAny_bind (unpackItems_tuple (items:= #[u1,u2]) (I.ok.hd hc) (IsTup.new s1.heap _) fun h' w9=>?_)))
 have I3:=I2.kept (h':=h') (t':=s1.toks) fun b o e=>w9 b o (Qan (Qal e)) e
 show wpAny _ _ (assignInOrder [fun v=>bindName X.env y v,fun v=>bindName X.env x v] [u2,u1] >>= fun _=>pure Flow.next) _ _ _
 refine wpAny_bind (assignInOrder_cons (wpAny_bindName (eR I3 hN hj (.inl hy) rL (fun s2 I4=>?_) (.inr hy))))
 refine assignInOrder_cons (wpAny_bindName (eR I4 hN hi (.inl hx) rv (fun s3 I5=>assignInOrder_nil (wpAny_pure ?_)) (.inr hx)))
 rw[Qe6 _ _ (Ne.symm L3)]at I5
 exact ⟨_,H1,I5,q1⟩
def U8 (i:Nat) (te:TE) (ti:Ts):TS:=fun D σ H=> ∃x,σ[i]? =some (some x)/\te σ H fun y H1=>ti x y H1 fun z H2=>D.nx (σ.set i (some z)) H2
theorem kR {i:Nat} {x:Str} {e:Expr} {te:TE} {op:Operator} {ti:Ts} {pos':Pos} (hN:X.N.Nodup) (hi:X.N[i]? =some x) (hx:Loc X.env.scope x) (he:PE X e te) (ho:QW X op ti) (hf:X.fn x=true\/X.env.scope.names.lookup x=some .local:=by first | exact .inl rfl | exact .inr rfl | assumption):
  PS X (.AugAssign (.Name x pos') op e pos) (U8 i te ti):=by
 intro pins s σ H D I h
 obtain ⟨v,e1,h⟩:=h
 obtain ⟨m,hn,hl⟩:=I.loc
 have Zd:QM X.env.scope x:=by rcases hx with k | k;exact .inl k;exact .inr (.inl k)
 obtain ⟨u,r,l⟩:=hl i x v hi e1 Zd
 refine wpAny_AugAssign_Name ?_
 have go:wpAny (model X.prog X.w) X.A (eval e X.env) (fun w s₂=>wpAny (model X.prog X.w) X.A (inplaceOp op u w) (fun r s₃=>wpAny (model X.prog X.w) X.A (storeName X.env x r) (fun _=>SP X pins D .next) X.xe s₃) X.xe s₂) X.xe s:=by
  refine cD (he pins s σ H _ I h) fun w s1 ⟨y,H1,I1,r1,q1⟩=>?_
  refine cD (ho pins s1 σ H1 v y u w _ I1 r r1 q1) fun z s2 ⟨zv,H2,I2,r2,q2⟩=>?_
  exact eR I2 hN hi hx r2 (fun s3 I3=>⟨_,H2,I3,q2⟩) hf
 rcases l with ⟨hk,hm⟩ | ⟨hk,c,hc,h_⟩
 ·exact wpAny_loadName_local I.ok.kind hk hn hm go
 ·rcases hk with hk | hk
  ·exact wpAny_loadName_cell I.ok.kind hk hc h_ go
  ·rcases hx with k | k
   ·have:X.env.scope.names.lookup x=some .free:=hk
    rw[k]at this;cases this
   ·have:X.env.scope.names.lookup x=some .free:=hk
    rw[k]at this;cases this
def Xd (f:Int->Int->Int):Ts:=fun x y H Q=> ∃i j,x= .int i/\y= .int j/\Q (.int (f i j)) H
theorem uJ:QW X .Add (Xd fun i j=>i+j):=by
 intro pins s σ H x y v u Q I r1 r2 h
 obtain ⟨i,j,e1,e2,q⟩:=h
 subst e1;subst e2
 obtain ⟨t,rfl⟩:=r1
 obtain ⟨t',rfl⟩:=r2
 exact iadd_int ⟨.int _,H,I.tok _,⟨_,rfl⟩,q⟩
theorem L4:QW X .Sub (Xd fun i j=>i - j):=by
 intro pins s σ H x y v u Q I r1 r2 h
 obtain ⟨i,j,e1,e2,q⟩:=h
 subst e1;subst e2
 obtain ⟨t,rfl⟩:=r1
 obtain ⟨t',rfl⟩:=r2
 exact isub_int ⟨.int _,H,I.tok _,⟨_,rfl⟩,q⟩
end
structure It where
 go:Nat->Hp->Prop
 Ee:Nat->Hp->V->Hp->Prop
 stop:Nat->Hp->Prop
def oF (X:Cx) (pins:List (Addr×Obj)) (H:Hp) (b:Addr):Prop:=
 H b=none/\b≠X.env.locals/\b∉X.fs/\(b∈X.ex\/X.s₀.heap.objs.size<=b)/\(∀x c,X.env.cells.lookup x=some c->c≠b)/\ ∀p∈X.pn++pins,p.1≠b
theorem Inv.pU {X:Cx} {pins:List (Addr×Obj)} {σ:St} {H H':Hp} {s:Shared} {b:Addr} (I:Inv X pins σ H s) (hb:s.heap.objs.size<=b) (hn:H' b=none):oF X pins H' b:=by
 refine ⟨hn,Qep (Qaw I.lt hb),I.LQ hb, .inr (Qao I.sz hb),fun x c e z=>?_,fun p hp z=>?_⟩
 ·obtain ⟨v,q⟩:=I.cell x c e
  exact absurd (Qaw q.lt (by rw[z];exact hb)) (Qbb _)
 ·exact absurd (Qaw (Qal (I.pin p hp).1) (by rw[z];exact hb)) (Qbb _)
structure Turn (P:Program) (w:World) (K:PySem.W.Frag) (tg:Expr) (J:It) (fp:List Addr) (it:Addr) (tn:Nat->Heap->Prop):Prop where
 mem:it∈fp
 obj: ∀i h,tn i h-> ∀b∈fp, ∃o,h.get? b=some o/\ ∀v,o.data≠ .cell v
 keep: ∀i h h',tn i h->(∀b∈fp, ∀o,h.get? b=some o->h'.get? b=some o)->tn i h'
 item: ∀(X:Cx),X.prog=P->X.w=w->X.K=K->X.calm=true-> ∀(i:Nat) (pins:List (Addr×Obj)) (s:Shared) (σ:St) (H:Hp) (E:Value->Shared->Prop),Inv X pins σ H s->(∀b∈fp,oF X pins H b)->tn i s.heap->J.go i H->
  wpAny (model P w) X.A (pyNext (.ref it)) (fun r s1=> ∃u,r=some u/\
   wpAny (model P w) X.A (letOwnedTupleGo tg (.ref it) u) (fun _ s2=> ∃x H',Inv X pins σ H' s2/\RelV x u/\J.Ee i H x H'/\tn (i+1) s2.heap/\ ∀b∈fp,H' b=none) E s1) E s
 done: ∀(X:Cx),X.prog=P->X.w=w->X.K=K->X.calm=true-> ∀(i:Nat) (pins:List (Addr×Obj)) (s:Shared) (σ:St) (H:Hp) (E:Value->Shared->Prop),Inv X pins σ H s->(∀b∈fp,oF X pins H b)->tn i s.heap->J.stop i H->
  wpAny (model P w) X.A (pyNext (.ref it)) (fun r s1=>r=none/\Inv X pins σ H s1) E s
 self: ∀(A:Around) (i:Nat) (s:Shared) (Q:Value->Shared->Prop) (E:Value->Shared->Prop),tn i s.heap->Q (.ref it) s->wpAny (model P w) A (pyIter (.ref it)) Q E s
abbrev TI:=St->Hp->(It->Hp->Prop)->Prop
def Xe (X:Cx) (pins:List (Addr×Obj)) (σ:St) (tg:Expr) (R:It->Hp->Prop) (U9:Value) (s2:Shared):Prop:=
 ∃(it:Addr) (fp:List Addr) (tn:Nat->Heap->Prop) (J:It) (H':Hp),U9= .ref it/\Inv X pins σ H' s2/\Turn X.prog X.w X.K tg J fp it tn/\tn 0 s2.heap/\(∀b∈fp,oF X pins H' b)/\R J H'
def PI (X:Cx) (tg iter:Expr) (wi:TI):Prop:=
 ∀(pins:List (Addr×Obj)) (s:Shared) (σ:St) (H:Hp) (R:It->Hp->Prop),Inv X pins σ H s->wi σ H R->
  wpAny (model X.prog X.w) X.A (eval iter X.env) (fun v s1=>wpAny (model X.prog X.w) X.A (pyIter v) (Xe X pins σ tg R) X.xe s1) X.xe s
theorem w_ {M:Model} {A:Around} {E:Value->Shared->Prop} {s:Shared} {tg:Expr} {it:Addr} {u:Value} {o:Obj} {n:String} {vs:Array Value} {Q:Unit->Shared->Prop} (ho:s.heap.get? it=some o) (hc:o.cls= .type n) (hd:o.data= .fields vs)
  (hn:["enumerate","zip","dict_itemiterator","dict_reverseitemiterator","odict_iterator","itertools.zip_longest","itertools.pairwise"].contains n=false) (hQ:Q () s):wpAny M A (letOwnedTupleGo tg (.ref it) u) Q E s:=by
 unfold letOwnedTupleGo
 cases tg<;>first
  | exact wpAny_pure hQ
  |(cases u<;>first
    | exact wpAny_pure hQ
    |(refine wpAny_bind (wpAny_load ho ?_)
      rw[hc,hd]
      show wpAny M A (if (["enumerate","zip","dict_itemiterator","dict_reverseitemiterator","odict_iterator","itertools.zip_longest","itertools.pairwise"].contains n&&vs[0]? ==some (rawInt _))=true then _ else _) Q E s
      rw[if_neg (by intro h;rw[hn,Bool.false_and]at h;cases h)]
      exact wpAny_pure hQ))
noncomputable def Ot (K:PySem.W.Frag) (a:Addr):It:=
 ⟨fun i H=> ∃xs x,bA K H a xs/\xs[i]? =some x,fun i H x H'=>H'=H/\ ∀xs,bA K H a xs->xs[i]? =some x,fun i H=> ∃xs,bA K H a xs/\xs.length<=i⟩
noncomputable def Ou (K:PySem.W.Frag) (a:Addr):It:=
 ⟨fun i H=> ∃xs x,cO K H a xs/\xs[i]? =some x,fun i H x H'=>H'=H/\ ∀xs,cO K H a xs->xs[i]? =some x,fun i H=> ∃xs,cO K H a xs/\xs.length<=i⟩
noncomputable def KY (lo:Int) (n:Nat):It:=⟨fun i _=>i<n,fun i H x H'=>H'=H/\x= .int (lo+i),fun i _=>n<=i⟩
theorem Ct {P:Program} {w:World} {K:PySem.W.Frag} {tg:Expr} (a it:Addr):Turn P w K tg (Ot K a) [it] it (fun i h=>h.IsListIter it a i) where
 mem:=by simp
 obj:=fun i h st b hb=>by
  have e:b=it:=by simpa using hb
  subst e
  obtain ⟨o,e,c,d⟩:=st
  exact ⟨o,e,fun v z=>by rw[d]at z;cases z⟩
 keep:=fun i h h' st k=>st.at fun o e=>k it (by simp) o e
 item:=by
  intro X hP hw hK hc i pins s σ H E I hf st hg
  subst hP hw hK
  obtain ⟨xs,x,hq,hx⟩:=hg
  obtain ⟨aO,rv,p,hz⟩:=I.list hq
  obtain ⟨u,hu,ru⟩:=rv.get hx
  obtain ⟨f0,f1,f2,f3,f4,f5⟩:=hf it (by simp)
  refine wpAny_pyNext_list_item st p.isList (x:=u) (by simpa using hu) fun h' wQ sb=>?_
  have I1:Inv X pins σ H { s with heap:=h' }:=I.turned (t':=s.toks) (fun b o hb e=>(sb.2 b hb).trans e) f0 f1 f3 f4 f5
  obtain ⟨o,e,c,d⟩:=id wQ
  exact ⟨u,rfl,w_ (s:={ s with heap:=h' }) e c d (by decide) ⟨x,H,I1,ru,⟨rfl,fun ys hy=>by rw[I.wY hy hq];exact hx⟩,wQ,fun b hb=>(hf b hb).1⟩⟩
 done:=by
  intro X hP hw hK hc i pins s σ H E I hf st hg
  subst hP hw hK
  obtain ⟨xs,hq,hx⟩:=hg
  obtain ⟨aO,rv,p,hz⟩:=I.list hq
  obtain ⟨f0,f1,f2,f3,f4,f5⟩:=hf it (by simp)
  have hl:=rv.length
  exact wpAny_pyNext_list_end (I.ok.hd hc) st p.isList (by simp;omega) fun h' eb=>⟨rfl,I.turned (t':=s.toks) (fun b o hb e=>eb b o hb e) f0 f1 f3 f4 f5⟩
 self:=fun _ _ _ _ _ st h=>wpAny_pyIter_listiter st h
theorem zf {P:Program} {w:World} {K:PySem.W.Frag} {tg:Expr} (a it:Addr):Turn P w K tg (Ou K a) [it] it (fun i h=>h.IsTupleIter it a i) where
 mem:=by simp
 obj:=fun i h st b hb=>by
  have e:b=it:=by simpa using hb
  subst e
  obtain ⟨o,e,c,d⟩:=st
  exact ⟨o,e,fun v z=>by rw[d]at z;cases z⟩
 keep:=fun i h h' st k=>st.at fun o e=>k it (by simp) o e
 item:=by
  intro X hP hw hK hc i pins s σ H E I hf st hg
  subst hP hw hK
  obtain ⟨xs,x,hq,hx⟩:=hg
  obtain ⟨aO,rv,p,hz⟩:=I.tuple hq
  obtain ⟨u,hu,ru⟩:=rv.get hx
  obtain ⟨f0,f1,f2,f3,f4,f5⟩:=hf it (by simp)
  refine wpAny_pyNext_tuple_item st (show s.heap.IsTuple a aO.toArray from p) (x:=u) (by simpa using hu) fun h' wQ sb=>?_
  have I1:Inv X pins σ H { s with heap:=h' }:=I.turned (t':=s.toks) (fun b o hb e=>(sb.2 b hb).trans e) f0 f1 f3 f4 f5
  obtain ⟨o,e,c,d⟩:=id wQ
  exact ⟨u,rfl,w_ (s:={ s with heap:=h' }) e c d (by decide) ⟨x,H,I1,ru,⟨rfl,fun ys hy=>by rw[I.sC hy hq];exact hx⟩,wQ,fun b hb=>(hf b hb).1⟩⟩
 done:=by
  intro X hP hw hK hc i pins s σ H E I hf st hg
  subst hP hw hK
  obtain ⟨xs,hq,hx⟩:=hg
  obtain ⟨aO,rv,p,hz⟩:=I.tuple hq
  obtain ⟨f0,f1,f2,f3,f4,f5⟩:=hf it (by simp)
  have hl:=rv.length
  exact wpAny_pyNext_tuple_end (I.ok.hd hc) st (show s.heap.IsTuple a aO.toArray from p) (by simp;omega) fun h' eb=>⟨rfl,I.turned (t':=s.toks) (fun b o hb e=>eb b o hb e) f0 f1 f3 f4 f5⟩
 self:=fun _ _ _ _ _ st h=>wpAny_pyIter_tupleiter st h
theorem zg {P:Program} {w:World} {K:PySem.W.Frag} {tg:Expr} (it:Addr) (lo:Int) (n:Nat):Turn P w K tg (KY lo n) [it] it (fun i h=>IsRangeIter h it (lo+(i:Nat)*1) ((n:Int) - (i:Nat)) 1) where
 mem:=by simp
 obj:=fun i h st b hb=>by
  have e:b=it:=by simpa using hb
  subst e
  exact ⟨_,st,fun v z=>by
   have z':Data.fields _=Data.cell v:=z
   cases z'⟩
 keep:=fun i h h' st k=>k it (by simp) _ st
 item:=by
  intro X hP hw hK hc i pins s σ H E I hf st hg
  subst hP hw hK
  obtain ⟨f0,f1,f2,f3,f4,f5⟩:=hf it (by simp)
  have W:=Walks.range (prog:=X.prog) (w:=X.w) (I.ok.hd hc) it lo 1 n
  refine W.item i s _ _ hg st fun v h' tk hv wQ kk=>?_
  obtain ⟨t,rfl⟩:=hv
  have I1:Inv X pins σ H { s with heap:=h',toks:=tk }:=I.turned (fun b o hb e=>kk b o (by simpa using hb) e) f0 f1 f3 f4 f5
  refine ⟨_,rfl,w_ (s:={ s with heap:=h',toks:=tk }) (n:="range_iterator") wQ rfl rfl (by decide) ⟨.int (lo+i),H,I1,⟨t,?_⟩,⟨rfl,rfl⟩,wQ,fun b hb=>(hf b hb).1⟩⟩
  rw[Int.mul_one]
 done:=by
  intro X hP hw hK hc i pins s σ H E I hf st hg
  subst hP hw hK
  obtain ⟨f0,f1,f2,f3,f4,f5⟩:=hf it (by simp)
  exact wpAny_pyNext_range_end (I.ok.hd hc) st (by have:n<=i:=hg;omega) fun h' eb=>⟨rfl,I.turned (t':=s.toks) (fun b o hb e=>eb b o hb e) f0 f1 f3 f4 f5⟩
 self:=fun _ _ _ _ _ st h=>wpAny_pyIter_rangeiter st h
section
variable {X:Cx} {tg:Expr}
def KZ (K:PySem.W.Frag) (tl:TE):TI:=fun σ H R=>tl σ H fun x H1=> ∃a,x= .ref a/\(∃xs,bA K H1 a xs)/\R (Ot K a) H1
def QZ (K:PySem.W.Frag) (tl:TE):TI:=fun σ H R=>tl σ H fun x H1=> ∃a,x= .ref a/\(∃xs,cO K H1 a xs)/\R (Ou K a) H1
theorem IC {l:Expr} {tl:TE} (hl:PE X l tl):PI X tg l (KZ X.K tl):=by
 intro pins s σ H R I h
 refine cD (hl pins s σ H _ I h) fun v s1 ⟨x,H1,I1,r1,q1⟩=>?_
 obtain ⟨a,e,⟨xs,hq⟩,q⟩:=q1
 subst e
 cases r1
 obtain ⟨aO,rv,p,hz⟩:=I1.list hq
 refine wpAny_pyIter_list p.isList ?_
 refine ⟨s1.heap.objs.size,[s1.heap.objs.size],_,_,H1,rfl,I1.kept (t':=s1.toks) fun b o e=>Xm _ e,Ct a _,⟨_,Qam _ rfl,rfl,rfl⟩,fun b hb=>?_,q⟩
 have e:b=s1.heap.objs.size:=by simpa using hb
 subst e
 exact I1.pU (Tz _) (I1.cj.fresh (Tz _))
theorem L5 {l:Expr} {tl:TE} (hl:PE X l tl):PI X tg l (QZ X.K tl):=by
 intro pins s σ H R I h
 refine cD (hl pins s σ H _ I h) fun v s1 ⟨x,H1,I1,r1,q1⟩=>?_
 obtain ⟨a,e,⟨xs,hq⟩,q⟩:=q1
 subst e
 cases r1
 obtain ⟨aO,rv,p,hz⟩:=I1.tuple hq
 refine wpAny_pyIter_tuple (show s1.heap.IsTuple a aO.toArray from p) ?_
 refine ⟨s1.heap.objs.size,[s1.heap.objs.size],_,_,H1,rfl,I1.kept (t':=s1.toks) fun b o e=>Xm _ e,zf a _,⟨_,Qam _ rfl,rfl,rfl⟩,fun b hb=>?_,q⟩
 have e:b=s1.heap.objs.size:=by simpa using hb
 subst e
 exact I1.pU (Tz _) (I1.cj.fresh (Tz _))
theorem xc {pins:List (Addr×Obj)} {σ:St} {H:Hp} {s:Shared} {R:It->Hp->Prop} {E:Value->Shared->Prop} {lo hi:Int} {t u v:Tok} {tk:Nat} (I:Inv X pins σ H s) (h1: -(2 ^ 62)<=lo) (h2:lo<2 ^ 62) (h3: -(2 ^ 62)<=hi) (h4:hi<2 ^ 62)
  (q:R (KY lo (hi - lo).toNat) H):wpAny (model X.prog X.w) X.A (pyIter (.ref s.heap.objs.size)) (Xe X pins σ tg R) E { s with heap:=s.heap.push { cls:= .type "range",data:= .fields #[.int lo t, .int hi u, .int 1 v] },toks:=tk }:=by
 refine wpAny_pyIter_range (IsRange.new ..) (small_one h1 h2 h3 h4) ?_
 have I1:Inv X pins σ H { s with heap:=s.heap.push { cls:= .type "range",data:= .fields #[.int lo t, .int hi u, .int 1 v] },toks:=tk }:=I.kept fun b o e=>Xm _ e
 refine ⟨(s.heap.push { cls:= .type "range",data:= .fields #[.int lo t, .int hi u, .int 1 v] }).objs.size,[(s.heap.push { cls:= .type "range",data:= .fields #[.int lo t, .int hi u, .int 1 v] }).objs.size],_,_,H,rfl,
  I1.kept (t':=tk) fun b o e=>Xm _ e,zg _ lo (hi - lo).toNat,?_,fun b hb=>?_,q⟩
 ·have e1:lo+((0:Nat):Int)*1=lo:=by simp
  have e2:(((hi - lo).toNat:Nat):Int) - ((0:Nat):Int)=Builtin.Range.rangeSize lo hi 1:=by rw[rangeSize_one];split<;>omega
  show IsRangeIter _ _ (lo+((0:Nat):Int)*1) ((((hi - lo).toNat:Nat):Int) - ((0:Nat):Int)) 1
  rw[e1,e2]
  exact Qam _ rfl
 ·have e:b=(s.heap.push { cls:= .type "range",data:= .fields #[.int lo t, .int hi u, .int 1 v] }).objs.size:=by simpa using hb
  subst e
  exact I1.pU (Tz _) (I1.cj.fresh (Tz _))
def Q0 (ta:TA):TI:=fun σ H R=>ta σ H fun vs H1=> ∃j:Int,vs=[.int j]/\ -(2 ^ 62)<=j/\j<2 ^ 62/\R (KY 0 j.toNat) H1
def Q3 (ta:TA):TI:=fun σ H R=>ta σ H fun vs H1=> ∃i j:Int,vs=[.int i, .int j]/\(-(2 ^ 62)<=i/\i<2 ^ 62/\ -(2 ^ 62)<=j/\j<2 ^ 62)/\R (KY i (j - i).toNat) H1
theorem cS {a:Expr} {ta:TA} {p pos:Pos} (hg:Gl X "range") (hm:X.mg "range"=none) (ha:PA X [a] ta) (hs:starEach [a] X.env=[(false,eval a X.env)]:=by rfl):PI X tg (.Call (.Name "range" p) [a] [] pos) (Q0 ta):=by
 intro pins s σ H R I h
 refine Call_ (gg I hg hm boot_range (Qbe (cD (ha pos pins s σ H _ I h) fun us s1 ⟨vs,H1,I1,r1,q1⟩=>?_) hs rfl))
 obtain ⟨j,e,q1,q2,q⟩:=q1
 subst e
 cases r1 with
 | cons r rr=>
  cases rr
  obtain ⟨t,rfl⟩:=r
  exact call_range_1 (xc I1 (by omega) (by omega) q1 q2 (by simpa using q))
theorem sE {a b:Expr} {ta:TA} {p pos:Pos} (hg:Gl X "range") (hm:X.mg "range"=none) (ha:PA X [a,b] ta) (hs:starEach [a,b] X.env=[(false,eval a X.env),(false,eval b X.env)]:=by rfl) (K0:starEach [b] X.env=[(false,eval b X.env)]:=by rfl):
  PI X tg (.Call (.Name "range" p) [a,b] [] pos) (Q3 ta):=by
 intro pins s σ H R I h
 refine Call_ (gg I hg hm boot_range (Qbe (cD (ha pos pins s σ H _ I h) fun us s1 ⟨vs,H1,I1,r1,q1⟩=>?_) (by rw[hs,K0]) (by rw[K0];rfl)))
 obtain ⟨i,j,e,⟨q1,q2,q3,q4⟩,q⟩:=q1
 subst e
 cases r1 with
 | cons r rr=>
  cases rr with
  | cons r' rr=>
   cases rr
   obtain ⟨t,rfl⟩:=r
   obtain ⟨t',rfl⟩:=r'
   exact call_range_2 (xc I1 q1 q2 q3 q4 q)
def Q5 (wi:TI) (g:TG) (tb:TS):TS:=fun D σ H=>wi σ H fun J H1=> ∃W:Nat->Nat->St->Hp->Prop,(∃m,W 0 m σ H1)/\ ∀i m σ H,W i m σ H->
 (J.stop i H/\D.nx σ H)\/(J.go i H/\ ∃N:St->Hp->Prop,(∀σ' H',N σ' H'-> ∃m',m'<m/\W (i+1) m' σ' H')/\ ∀x H',J.Ee i H x H'->g x σ H' fun σ2 H2=>tb { D with nx:=N,ct:=N,bk:=D.nx } σ2 H2)
noncomputable def pV (fp:List Addr) (h:Heap):List (Addr×Obj):=fp.filterMap fun b=>(h.get? b).map fun o=>(b,o)
theorem iM {fp:List Addr} {h:Heap} {b:Addr} {o:Obj} (hb:b∈fp) (e:h.get? b=some o):(b,o)∈pV fp h:=List.mem_filterMap.mpr ⟨b,hb,by rw[e];rfl⟩
theorem Cu {fp:List Addr} {h:Heap} {p:Addr×Obj} (hp:p∈pV fp h):p.1∈fp/\h.get? p.1=some p.2:=by
 obtain ⟨b,hb,e⟩:=List.mem_filterMap.mp hp
 cases q:h.get? b with
 | none=>rw[q]at e;cases e
 | some o=>
  rw[q]at e
  have e':(b,o)=p:=Qaf e
  subst e'
  exact ⟨hb,q⟩
theorem Inv.pinned {pins:List (Addr×Obj)} {σ:St} {H:Hp} {s:Shared} {fp:List Addr} (I:Inv X pins σ H s) (hf: ∀b∈fp,oF X pins H b) (ho: ∀b∈fp, ∃o,s.heap.get? b=some o/\ ∀v,o.data≠ .cell v):Inv X (pins++pV fp s.heap) σ H s:=
 I.lH fun p hp=>(Qaj.mp hp).elim (fun z=>I.pin p (Qav _ z)) fun z=>by
  obtain ⟨hb,e⟩:=Cu z
  obtain ⟨f0,f1,f2,_⟩:=hf p.1 hb
  obtain ⟨o,e',d⟩:=ho p.1 hb
  rw[e]at e';cases e'
  exact ⟨e,f0,f1,f2,d⟩
theorem Inv.jl {pins pl:List (Addr×Obj)} {σ:St} {H:Hp} {s:Shared} (I:Inv X (pins++pl) σ H s):Inv X pins σ H s:=I.lH fun p hp=>I.pin p (Qav _ (Qbx _ hp))
theorem cE {iter:Expr} {body:List Stmt} {wi:TI} {g:TG} {tb:TS} {pos:Pos} (hp:PassesOwn (model X.prog X.w) X.A X.env X.xe) (hc:X.calm=true) (hi:PI X tg iter wi) (hg:PG X tg g) (hb:y9 X body tb)
  (hs: ∀x,foldedSetIterable iter X.env x=pure x:=by intro _;rfl):PS X (.For tg iter body [] pos) (Q5 wi g tb):=by
 intro pins s σ H D I h
 refine wpAny_For (cD (hi pins s σ H _ I h) fun v s1 h1=>cD h1 fun U9 s2 h2=>?_) hs
 obtain ⟨it,fp,tn,J,H2,e,I2,T,yQ,f2,W,⟨m0,w0⟩,turn⟩:=h2
 subst e
 -- Ze stays true of HV L6 objects through HV loop
 have L7: ∀{H':Hp},(∀b∈fp,H' b=none)-> ∀b∈fp,oF X pins H' b:=fun hn b hb=>⟨hn b hb,(f2 b hb).2⟩
 refine codeAny_forLoop_any (fun n s'=> ∃i σ' H',Inv X pins σ' H' s'/\tn i s'.heap/\(∀b∈fp,H' b=none)/\W i n σ' H') ?_ m0 ⟨0,σ,H2,I2,yQ,fun b hb=>(f2 b hb).1,w0⟩
 rintro n s3 ⟨i,σ3,H3,I3,Q6,Q7,w3⟩
 rcases turn i n σ3 H3 w3 with ⟨stop,qn⟩ | ⟨go,N,hN,step⟩
 ·refine wpAny_passesOwn hp (cD (T.done X rfl rfl rfl hc i pins s3 σ3 H3 X.xe I3 (L7 Q7) Q6 stop) fun r s4 ⟨hr,I4⟩=>?_)
  subst hr
  exact wpAny_execs_nil ⟨σ3,H3,I4,qn⟩
 ·refine wpAny_passesOwn hp (cD (T.item X rfl rfl rfl hc i pins s3 σ3 H3 X.xe I3 (L7 Q7) Q6 go) fun r s4 ⟨u,hr,h4⟩=>?_)
  subst hr
  refine wpAny_passesOwn hp (cD h4 fun _ s5 ⟨x,H5,I5,r5,y5,L8,U_⟩=>?_)
  have Va:=I5.pinned (L7 U_) (T.obj _ _ L8)
  refine wpAny_passesOwn hp (cD (hg _ s5 σ3 H5 x u _ Va r5 (step x H5 y5)) fun _ s6 ⟨σ6,H6,I6,q6⟩=>?_)
  refine wpAny_passesOwn hp (cD (hb _ s6 σ6 H6 _ I6 q6) fun f s7 q7=>?_)
  have again: ∀{σ7:St} {H7:Hp},Inv X (pins++pV fp s5.heap) σ7 H7 s7->N σ7 H7-> ∃m,m<n/\ ∃i σ' H',Inv X pins σ' H' s7/\tn i s7.heap/\(∀b∈fp,H' b=none)/\W i m σ' H':=fun {σ7 H7} I7 n7=>by
   obtain ⟨m',hm,w7⟩:=hN σ7 H7 n7
   refine ⟨m',hm,i+1,σ7,H7,I7.jl,T.keep _ _ _ L8 fun b hb o e=>(I7.pin (b,o) (Qav _ (Qav _ (iM hb e)))).1,fun b hb=>?_,w7⟩
   obtain ⟨o,e,d⟩:=T.obj _ _ L8 b hb
   exact (I7.pin (b,o) (Qav _ (Qav _ (iM hb e)))).2.1
  cases f with
  | next=>obtain ⟨σ7,H7,I7,n7⟩:=q7;exact again I7 n7
  | cont=>obtain ⟨σ7,H7,I7,n7⟩:=q7;exact again I7 n7
  | brk=>obtain ⟨σ7,H7,I7,q7⟩:=q7;exact ⟨σ7,H7,I7.jl,q7⟩
  | ret v=>obtain ⟨x7,σ7,H7,I7,r7,q7⟩:=q7;exact ⟨x7,σ7,H7,I7.jl,r7,q7⟩
end
theorem jm {K:PySem.W.Frag} {a:Addr} {xs:List V} {g:TG} {tb:TS} {D:Ends} {σ:St} {H:Hp} (Pv:Nat->St->Hp->Prop) (h0:Pv 0 σ H) (hl: ∀i σ H,i<=xs.length->Pv i σ H->bA K H a xs)
  (hs: ∀i x σ H,xs[i]? =some x->Pv i σ H->g x σ H fun σ2 H2=>tb { D with nx:=Pv (i+1),ct:=Pv (i+1),bk:=D.nx } σ2 H2) (hd: ∀σ H,Pv xs.length σ H->D.nx σ H):
  ∃W:Nat->Nat->St->Hp->Prop,(∃m,W 0 m σ H)/\ ∀i m σ H,W i m σ H->
   ((Ot K a).stop i H/\D.nx σ H)\/((Ot K a).go i H/\ ∃N:St->Hp->Prop,(∀σ' H',N σ' H'-> ∃m',m'<m/\W (i+1) m' σ' H')/\ ∀x H',(Ot K a).Ee i H x H'->g x σ H' fun σ2 H2=>tb { D with nx:=N,ct:=N,bk:=D.nx } σ2 H2):=by
 refine ⟨fun i m σ H=>m=xs.length - i/\i<=xs.length/\Pv i σ H,⟨xs.length,by simp,Qad _,h0⟩,?_⟩
 rintro i m σ H ⟨rfl,hi,p⟩
 have q:=hl i σ H hi p
 by_cases cZ:i<xs.length
 ·refine .inr ⟨⟨xs,xs[i],q,by simp[cZ]⟩,Pv (i+1),fun σ' H' p'=>⟨xs.length - (i+1),by omega,rfl,cZ,p'⟩,fun x H' y=>?_⟩
  obtain ⟨e,y⟩:=y
  subst e
  exact hs i x σ _ (y xs q) p
 ·have e:i=xs.length:=by omega
  subst e
  exact .inl ⟨⟨xs,q,Tz _⟩,hd σ H p⟩
theorem ID {K:PySem.W.Frag} {a:Addr} {xs:List V} {g:TG} {tb:TS} {D:Ends} {σ:St} {H:Hp} (Pv:Nat->St->Hp->Prop) (h0:Pv 0 σ H) (hl: ∀i σ H,i<=xs.length->Pv i σ H->cO K H a xs)
  (hs: ∀i x σ H,xs[i]? =some x->Pv i σ H->g x σ H fun σ2 H2=>tb { D with nx:=Pv (i+1),ct:=Pv (i+1),bk:=D.nx } σ2 H2) (hd: ∀σ H,Pv xs.length σ H->D.nx σ H):
  ∃W:Nat->Nat->St->Hp->Prop,(∃m,W 0 m σ H)/\ ∀i m σ H,W i m σ H->
   ((Ou K a).stop i H/\D.nx σ H)\/((Ou K a).go i H/\ ∃N:St->Hp->Prop,(∀σ' H',N σ' H'-> ∃m',m'<m/\W (i+1) m' σ' H')/\ ∀x H',(Ou K a).Ee i H x H'->g x σ H' fun σ2 H2=>tb { D with nx:=N,ct:=N,bk:=D.nx } σ2 H2):=by
 refine ⟨fun i m σ H=>m=xs.length - i/\i<=xs.length/\Pv i σ H,⟨xs.length,by simp,Qad _,h0⟩,?_⟩
 rintro i m σ H ⟨rfl,hi,p⟩
 have q:=hl i σ H hi p
 by_cases cZ:i<xs.length
 ·refine .inr ⟨⟨xs,xs[i],q,by simp[cZ]⟩,Pv (i+1),fun σ' H' p'=>⟨xs.length - (i+1),by omega,rfl,cZ,p'⟩,fun x H' y=>?_⟩
  obtain ⟨e,y⟩:=y
  subst e
  exact hs i x σ _ (y xs q) p
 ·have e:i=xs.length:=by omega
  subst e
  exact .inl ⟨⟨xs,q,Tz _⟩,hd σ H p⟩
theorem eL {lo:Int} {n:Nat} {g:TG} {tb:TS} {D:Ends} {σ:St} {H:Hp} (Pv:Nat->St->Hp->Prop) (h0:Pv 0 σ H)
  (hs: ∀i σ H,i<n->Pv i σ H->g (.int (lo+i)) σ H fun σ2 H2=>tb { D with nx:=Pv (i+1),ct:=Pv (i+1),bk:=D.nx } σ2 H2) (hd: ∀σ H,Pv n σ H->D.nx σ H):
  ∃W:Nat->Nat->St->Hp->Prop,(∃m,W 0 m σ H)/\ ∀i m σ H,W i m σ H->
   ((KY lo n).stop i H/\D.nx σ H)\/((KY lo n).go i H/\ ∃N:St->Hp->Prop,(∀σ' H',N σ' H'-> ∃m',m'<m/\W (i+1) m' σ' H')/\ ∀x H',(KY lo n).Ee i H x H'->g x σ H' fun σ2 H2=>tb { D with nx:=N,ct:=N,bk:=D.nx } σ2 H2):=by
 refine ⟨fun i m σ H=>m=n - i/\i<=n/\Pv i σ H,⟨n,by simp,Qad _,h0⟩,?_⟩
 rintro i m σ H ⟨rfl,hi,p⟩
 by_cases cZ:i<n
 ·refine .inr ⟨cZ,Pv (i+1),fun σ' H' p'=>⟨n - (i+1),by omega,rfl,cZ,p'⟩,fun x H' y=>?_⟩
  obtain ⟨e,y⟩:=y
  subst e y
  exact hs i σ _ cZ p
 ·have e:i=n:=by omega
  subst e
  exact .inl ⟨Tz _,hd σ H p⟩
abbrev R2:=V->V->Hp->VK->Prop
def iJ (X:Cx) (f:Value->Value->Sem Value) (r:R2):Prop:=
 ∀(pins:List (Addr×Obj)) (s:Shared) (σ:St) (H:Hp) (x y:V) (v u:Value) (Q:VK),Inv X pins σ H s->RelV x v->RelV y u->r x y H Q->
  wpAny (model X.prog X.w) X.A (f v u) (EP X pins σ Q) X.xe s
def Vb (X:Cx) (f:Value->Sem Value) (r:V->Hp->VK->Prop):Prop:=
 ∀(pins:List (Addr×Obj)) (s:Shared) (σ:St) (H:Hp) (x:V) (v:Value) (Q:VK),Inv X pins σ H s->RelV x v->r x H Q->
  wpAny (model X.prog X.w) X.A (f v) (EP X pins σ Q) X.xe s
def dG (X:Cx) (f:Value) (r:List V->Hp->VK->Prop):Prop:=
 ∀(pins:List (Addr×Obj)) (s:Shared) (σ:St) (H:Hp) (xs:List V) (us:List Value) (Q:VK),Inv X pins σ H s->Vals xs us->r xs H Q->
  wpAny (model X.prog X.w) X.A (call f us) (EP X pins σ Q) X.xe s
def Vc (X:Cx) (r:V->Hp->(Bool->Hp->Prop)->Prop):Prop:=
 ∀(pins:List (Addr×Obj)) (s:Shared) (σ:St) (H:Hp) (x:V) (v:Value) (Q:Bool->Hp->Prop),Inv X pins σ H s->RelV x v->r x H Q->
  wpAny (model X.prog X.w) X.A (truthy v) (TP X pins σ Q) X.xe s
def Tt (r:R2) (ta tb:TE):TE:=fun σ H Q=>ta σ H fun x H1=>tb σ H1 fun y H2=>r x y H2 Q
def Zf (r:V->Hp->VK->Prop) (ta:TE):TE:=fun σ H Q=>ta σ H fun x H1=>r x H1 Q
def rI (C:Int->Int->Prop) (g:Int->Int->V):R2:=fun x y H Q=> ∃i j,x= .int i/\y= .int j/\C i j/\Q (g i j) H
def IE (g:Int->Int->V):R2:=fun x y H Q=> ∃i j,x= .int i/\y= .int j/\Q (g i j) H
def rU (g:Int->V):V->Hp->VK->Prop:=fun x H Q=> ∃i,x= .int i/\Q (g i) H
section
variable {X:Cx} {a b c:Expr} {ta tb tc:TE} {pos:Pos}
theorem L9 (ha:PE X a ta) (hb:PE X b tb) {pins:List (Addr×Obj)} {s:Shared} {σ:St} {H:Hp} {R:V->V->Hp->Prop} (I:Inv X pins σ H s)
  (h:ta σ H fun x H1=>tb σ H1 fun y H2=>R x y H2) {Q:Value->Shared->Prop} {f:Value->Value->Sem Value}
  (hf: ∀v u s2 x y H2,Inv X pins σ H2 s2->RelV x v->RelV y u->R x y H2->wpAny (model X.prog X.w) X.A (f v u) Q X.xe s2):
  wpAny (model X.prog X.w) X.A (eval a X.env) (fun v s₁=>wpAny (model X.prog X.w) X.A (eval b X.env) (fun u s₂=>wpAny (model X.prog X.w) X.A (f v u) Q X.xe s₂) X.xe s₁) X.xe s:=by
 refine cD (ha pins s σ H _ I h) fun v s1 ⟨x,H1,I1,r1,q1⟩=>?_
 refine cD (hb pins s1 σ H1 _ I1 q1) fun u s2 ⟨y,H2,I2,r2,q2⟩=>?_
 exact hf v u s2 x y H2 I2 r1 r2 q2
theorem aA {op:Operator} {r:R2} (ho:iJ X (binaryOp op) r) (ha:PE X a ta) (hb:PE X b tb):PE X (.BinOp a op b pos) (Tt r ta tb):=by
 intro pins s σ H Q I h
 exact wpAny_BinOp (L9 ha hb I h fun v u s2 x y H2 I2 rx ry q=>ho pins s2 σ H2 x y v u Q I2 rx ry q)
theorem fS {op:UnaryOp} {r:V->Hp->VK->Prop} (ho:Vb X (unaryOp op) r) (ha:PE X a ta):PE X (.UnaryOp op a pos) (Zf r ta):=by
 intro pins s σ H Q I h
 exact UnaryOp_ (cD (ha pins s σ H _ I h) fun v s1 ⟨x,H1,I1,r1,q1⟩=>ho pins s1 σ H1 x v Q I1 r1 q1)
theorem Tu {f:Value->Value->Sem Value} {C:Int->Int->Prop} {g:Int->Int->Int}
  (rule: ∀(i j:Int) (t u:Tok) (s:Shared) (Q:Value->Shared->Prop) (E:Value->Shared->Prop),C i j->Q (.int (g i j) s.toks) { s with toks:=s.toks+1 }->wpAny (model X.prog X.w) X.A (f (.int i t) (.int j u)) Q E s):
  iJ X f (rI C fun i j=> .int (g i j)):=by
 intro pins s σ H x y v u Q I rx ry h
 obtain ⟨i,j,rfl,rfl,hc,q⟩:=h
 obtain ⟨t,rfl⟩:=rx
 obtain ⟨t',rfl⟩:=ry
 exact rule i j t t' s _ _ hc ⟨.int (g i j),H,I.tok _,⟨_,rfl⟩,q⟩
theorem Q8 {f:Value->Value->Sem Value} {g:Int->Int->Int}
  (rule: ∀(i j:Int) (t u:Tok) (s:Shared) (Q:Value->Shared->Prop) (E:Value->Shared->Prop),Q (.int (g i j) s.toks) { s with toks:=s.toks+1 }->wpAny (model X.prog X.w) X.A (f (.int i t) (.int j u)) Q E s):
  iJ X f (IE fun i j=> .int (g i j)):=by
 intro pins s σ H x y v u Q I rx ry h
 obtain ⟨i,j,rfl,rfl,q⟩:=h
 obtain ⟨t,rfl⟩:=rx
 obtain ⟨t',rfl⟩:=ry
 exact rule i j t t' s _ _ ⟨.int (g i j),H,I.tok _,⟨_,rfl⟩,q⟩
theorem IF {f:Value->Value->Sem Value} {g:Int->Int->Bool}
  (rule: ∀(i j:Int) (t u:Tok) (s:Shared) (Q:Value->Shared->Prop) (E:Value->Shared->Prop),Q (.bool (g i j)) s->wpAny (model X.prog X.w) X.A (f (.int i t) (.int j u)) Q E s):
  iJ X f (IE fun i j=> .bl (g i j)):=by
 intro pins s σ H x y v u Q I rx ry h
 obtain ⟨i,j,rfl,rfl,q⟩:=h
 obtain ⟨t,rfl⟩:=rx
 obtain ⟨t',rfl⟩:=ry
 exact rule i j t t' s _ _ ⟨.bl (g i j),H,I,rfl,q⟩
def Vd (i j:Int):Prop:=0<j/\j<1073741824
def Ve (i j:Int):Prop:=0<=j/\j<=1000000/\i.natAbs<2 ^ 64
def IG (i j:Int):Prop:=(-(2 ^ 64)<i/\i<2 ^ 64)\/(-(2 ^ 64)<j/\j<2 ^ 64)
theorem IG.ok {i j:Int} (h:IG i j):IntMulOk i j:=by
 rcases h with ⟨h1,h2⟩ | ⟨h1,h2⟩
 ·exact .of_left (intBits_le_64 h1 h2)
 ·exact .of_right (intBits_le_64 h1 h2)
theorem aW:iJ X (binaryOp .Add) (IE fun i j=> .int (i+j)):=Q8 fun _ _ _ _ _ _ _ q=>add_int q
theorem cF:iJ X (binaryOp .Sub) (IE fun i j=> .int (i - j)):=Q8 fun _ _ _ _ _ _ _ q=>sub_int q
theorem iN:iJ X (binaryOp .Mult) (rI IG fun i j=> .int (i*j)):=Tu fun _ _ _ _ _ _ _ hc q=>mul_int q hc.ok
theorem eF:iJ X (binaryOp .Mod) (rI (fun _ j=>0<j) fun i j=> .int (i%j)):=Tu fun i j _ _ _ _ _ hc q=>by
 have h1:(0:Int)<j:=hc
 exact mod_int' (by omega) (by rw[Int.fmod_eq_emod_of_nonneg i (by omega)];exact q)
theorem Ey:iJ X (binaryOp .Pow) (rI Ve fun i j=> .int (i ^ j.toNat)):=Tu fun _ _ _ _ _ _ _ hc q=>pow_int_small hc.1 hc.2.1 hc.2.2 q
theorem Zg {f:Value->Sem Value} {g:Int->Int}
  (rule: ∀(i:Int) (t:Tok) (s:Shared) (Q:Value->Shared->Prop) (E:Value->Shared->Prop),Q (.int (g i) s.toks) { s with toks:=s.toks+1 }->wpAny (model X.prog X.w) X.A (f (.int i t)) Q E s):
  Vb X f (rU fun i=> .int (g i)):=by
 intro pins s σ H x v Q I rx h
 obtain ⟨i,rfl,q⟩:=h
 obtain ⟨t,rfl⟩:=rx
 exact rule i t s _ _ ⟨.int (g i),H,I.tok _,⟨_,rfl⟩,q⟩
theorem dI:Vb X (unaryOp .USub) (rU fun i=> .int (-i)):=Zg fun _ _ _ _ _ q=>neg_int q
end
noncomputable def Q9:V->V->Bool
 | .fB, .fB=>true | .fB, .int _=>true | .int _, .fB=>true | .fB, .bl _=>true | .bl _, .fB=>true | .fB, .str _=>true | .str _, .fB=>true
 | .int _, .int _=>true | .bl _, .bl _=>true | .str _, .str _=>true | .AX _, .AX _=>true
 | .int _, .str _=>true | .str _, .int _=>true | .bl _, .str _=>true | .str _, .bl _=>true
 | _,_=>false
def Zh:R2:=fun x y H Q=>Q9 x y=true/\Q (.bl (decide (x=y))) H
def Zi:R2:=fun x y H Q=>Q9 x y=true/\Q (.bl (!decide (x=y))) H
theorem A4 {i j:Int}:decide (V.int i=V.int j)=(i==j):=by
 rw[Qdi]
 simp
theorem Ez {i j:Bool}:decide (V.bl i=V.bl j)=(i==j):=by
 rw[Qdi]
 simp
theorem A5 {i j:Str}:decide (V.str i=V.str j)=(i==j):=by
 rw[Qdi]
 simp
theorem A6 {i j:Array UInt8}:decide (V.AX i=V.AX j)=(i.toList==j.toList):=by
 rw[Qdi]
 cases i
 cases j
 simp
section
variable {X:Cx} {a b c:Expr} {ta tb tc:TE} {pos:Pos}
theorem bL {pins:List (Addr×Obj)} {σ:St} {H:Hp} {s:Shared} {Q:VK} {k k':Bool} (I:Inv X pins σ H s) (q:Q (.bl k) H) (e:k=k'):EP X pins σ Q (.bool k') s:=by
 subst e
 exact ⟨.bl k,H,I,rfl,q⟩
theorem EA:iJ X (compareOp .Eq) Zh:=by
 intro pins s σ H x y v u Q I rx ry h
 obtain ⟨hs,q⟩:=h
 cases x with
 | fB=>
  cases rx
  cases y with
  | fB=>cases ry;exact PySem.EqNone.eq_none_none (bL I q (by simp))
  | bl j=>cases ry;exact PySem.EqNone.eq_none_bool (bL I q (by simp))
  | int j=>obtain ⟨t',rfl⟩:=ry;exact PySem.EqNone.eq_none_int (bL I q (by simp))
  | str j=>obtain ⟨t',rfl⟩:=ry;exact PySem.EqNone.eq_none_str (bL I q (by simp))
  | _=>exact absurd (show false=true from hs) Qaq
 | bl i=>
  cases rx
  cases y with
  | fB=>cases ry;exact PySem.EqNone.eq_bool_none (bL I q (by simp))
  | bl j=>cases ry;exact eq_bool (bL I q Ez)
  | str j=>obtain ⟨t',rfl⟩:=ry;exact PySem.EqMixed.eq_bool_str (bL I q (by simp))
  | _=>exact absurd (show false=true from hs) Qaq
 | int i=>
  obtain ⟨t,rfl⟩:=rx
  cases y with
  | fB=>cases ry;exact PySem.EqNone.eq_int_none (bL I q (by simp))
  | int j=>obtain ⟨t',rfl⟩:=ry;exact eq_int (bL I q A4)
  | str j=>obtain ⟨t',rfl⟩:=ry;exact PySem.EqMixed.eq_int_str (bL I q (by simp))
  | _=>exact absurd (show false=true from hs) Qaq
 | str i=>
  obtain ⟨t,rfl⟩:=rx
  cases y with
  | fB=>cases ry;exact PySem.EqNone.eq_str_none (bL I q (by simp))
  | bl j=>cases ry;exact PySem.EqMixed.eq_str_bool (bL I q (by simp))
  | int j=>obtain ⟨t',rfl⟩:=ry;exact PySem.EqMixed.eq_str_int (bL I q (by simp))
  | str j=>obtain ⟨t',rfl⟩:=ry;exact eq_str (bL I q A5)
  | _=>exact absurd (show false=true from hs) Qaq
 | AX i=>
  obtain ⟨t,rfl⟩:=rx
  cases y with
  | AX j=>obtain ⟨t',rfl⟩:=ry;exact PySem.W.eq_bytes (bL I q A6)
  | _=>exact absurd (show false=true from hs) Qaq
 | _=>cases y<;>exact absurd (show false=true from hs) Qaq
theorem K1:iJ X (compareOp .NotEq) Zi:=by
 intro pins s σ H x y v u Q I rx ry h
 obtain ⟨hs,q⟩:=h
 cases x with
 | fB=>
  cases rx
  cases y with
  | fB=>cases ry;exact PySem.EqNone.ne_none_none (bL I q (by simp))
  | bl j=>cases ry;exact PySem.EqNone.ne_none_bool (bL I q (by simp))
  | int j=>obtain ⟨t',rfl⟩:=ry;exact PySem.EqNone.ne_none_int (bL I q (by simp))
  | str j=>obtain ⟨t',rfl⟩:=ry;exact PySem.EqNone.ne_none_str (bL I q (by simp))
  | _=>exact absurd (show false=true from hs) Qaq
 | bl i=>
  cases rx
  cases y with
  | fB=>cases ry;exact PySem.EqNone.ne_bool_none (bL I q (by simp))
  | bl j=>cases ry;exact ne_bool (bL I q (congrArg not Ez))
  | str j=>obtain ⟨t',rfl⟩:=ry;exact PySem.EqMixed.ne_bool_str (bL I q (by simp))
  | _=>exact absurd (show false=true from hs) Qaq
 | int i=>
  obtain ⟨t,rfl⟩:=rx
  cases y with
  | fB=>cases ry;exact PySem.EqNone.ne_int_none (bL I q (by simp))
  | int j=>obtain ⟨t',rfl⟩:=ry;exact ne_int (bL I q (congrArg not A4))
  | str j=>obtain ⟨t',rfl⟩:=ry;exact PySem.EqMixed.ne_int_str (bL I q (by simp))
  | _=>exact absurd (show false=true from hs) Qaq
 | str i=>
  obtain ⟨t,rfl⟩:=rx
  cases y with
  | fB=>cases ry;exact PySem.EqNone.ne_str_none (bL I q (by simp))
  | bl j=>cases ry;exact PySem.EqMixed.ne_str_bool (bL I q (by simp))
  | int j=>obtain ⟨t',rfl⟩:=ry;exact PySem.EqMixed.ne_str_int (bL I q (by simp))
  | str j=>obtain ⟨t',rfl⟩:=ry;exact ne_str (bL I q (congrArg not A5))
  | _=>exact absurd (show false=true from hs) Qaq
 | AX i=>
  obtain ⟨t,rfl⟩:=rx
  cases y with
  | AX j=>obtain ⟨t',rfl⟩:=ry;exact PySem.W.ne_bytes (bL I q (congrArg not A6))
  | _=>exact absurd (show false=true from hs) Qaq
 | _=>cases y<;>exact absurd (show false=true from hs) Qaq
theorem kz:iJ X (compareOp .Lt) (IE fun i j=> .bl (decide (i<j))):=IF fun _ _ _ _ _ _ _ q=>lt_int q
theorem EB:iJ X (compareOp .LtE) (IE fun i j=> .bl (decide (i<=j))):=IF fun _ _ _ _ _ _ _ q=>le_int q
theorem jn:iJ X (compareOp .Gt) (IE fun i j=> .bl (decide (j<i))):=IF fun _ _ _ _ _ _ _ q=>gt_int q
theorem EC:iJ X (compareOp .GtE) (IE fun i j=> .bl (decide (j<=i))):=IF fun _ _ _ _ _ _ _ q=>ge_int q
theorem Cv:iJ X (compareOp .Lt) (fun x y H Q=> ∃i j,x= .str i/\y= .str j/\Q (.bl (decide (i.cps.toList<j.cps.toList))) H):=by
 intro pins s σ H x y v u Q I rx ry h
 obtain ⟨i,j,rfl,rfl,q⟩:=h
 obtain ⟨t,rfl⟩:=rx
 obtain ⟨t',rfl⟩:=ry
 exact lt_str (bL I q rfl)
theorem Cw:iJ X (compareOp .In) (fun x y H Q=> ∃i j,x= .str i/\y= .str j/\Q (.bl (!(Builtin.Str.occurrences j i 0 j.length 1).isEmpty)) H):=by
 intro pins s σ H x y v u Q I rx ry h
 obtain ⟨i,j,rfl,rfl,q⟩:=h
 obtain ⟨t,rfl⟩:=rx
 obtain ⟨t',rfl⟩:=ry
 exact in_str (bL I q rfl)
theorem aK (b:Expr) {op:CmpOp} (h:op≠ .In:=by decide) (h2:op≠ .NotIn:=by decide):behindInMarks op b=false:=by
 have e1:(op==CmpOp.In)=false:=by cases op<;>first | rfl | exact absurd rfl h
 have e2:(op==CmpOp.NotIn)=false:=by cases op<;>first | rfl | exact absurd rfl h2
 cases b<;>simp[behindInMarks,e1,e2]
theorem dN {op:CmpOp} {r:R2} (ho:iJ X (compareOp op) r) (ha:PE X a ta) (hb:PE X b tb) (hm:behindInMarks op b=false):PE X (.Compare a [op] [b] pos) (Tt r ta tb):=by
 intro pins s σ H Q I h
 exact wpAny_Compare1 (L9 ha hb I h fun v u s2 x y H2 I2 rx ry q=>ho pins s2 σ H2 x y v u Q I2 rx ry q) hm
def K2 (t:TE):TT:=fun σ H Q=>t σ H fun x H'=> ∃k,x= .bl k/\Q k H'
theorem aG {op:CmpOp} {r:R2} (ho:iJ X (compareOp op) r) (ha:PE X a ta) (hb:PE X b tb) (hm:behindInMarks op b=false):PT X (.Compare a [op] [b] pos) (K2 (Tt r ta tb)):=by
 intro pins s σ H Q I h
 refine wpAny_isTrue_Compare1 (cD (ha pins s σ H _ I h) fun v s1 ⟨x,H1,I1,r1,q1⟩=>cD (hb pins s1 σ H1 _ I1 q1) fun u s2 ⟨y,H2,I2,r2,q2⟩=>
  cD (ho pins s2 σ H2 x y v u _ I2 r1 r2 q2) fun c s3 ⟨z,H3,I3,r3,k,e,q3⟩=>?_) hm
 subst e
 cases r3
 exact wpAny_truthy_bool ⟨H3,I3,q3⟩
def L_ (r r':R2) (ta tb tc:TE):TE:=fun σ H Q=>ta σ H fun x H1=>tb σ H1 fun y H2=>r x y H2 fun z H3=> ∃k,z= .bl k/\
 (if k=true then tc σ H3 fun w' H4=>r' y w' H4 Q else Q (.bl false) H3)
theorem ED {op Vf:CmpOp} {r r':R2} (ho:iJ X (compareOp op) r) (Eu:iJ X (compareOp Vf) r') (ha:PE X a ta) (hb:PE X b tb) (hc:PE X c tc)
  (hm:lastMarks [op,Vf] [b,c]=false:=by with_unfolding_all rfl):PT X (.Compare a [op,Vf] [b,c] pos) (K2 (L_ r r' ta tb tc)):=by
 intro pins s σ H Q I h
 refine isTrue_chain (cD (ha pins s σ H _ I h) fun v s1 ⟨x,H1,I1,r1,q1⟩=>test_link (cD (hb pins s1 σ H1 _ I1 q1) fun u s2 ⟨y,H2,I2,r2,q2⟩=>
  cD (ho pins s2 σ H2 x y v u _ I2 r1 r2 q2) fun d s3 ⟨z,H3,I3,r3,k,e,q3⟩=>?_)) hm
 subst e
 cases r3
 refine wpAny_truthy_bool ?_
 cases k with
 | false=>
  obtain ⟨k',e',q'⟩:=q3
  cases e'
  exact ite_ff ⟨H3,I3,q'⟩
 | true=>
  refine ite_tt (test_last (cD (hc pins s3 σ H3 _ I3 q3) fun w' s4 ⟨z',H4,I4,r4,q4⟩=>cD (Eu pins s4 σ H4 y z' u w' _ I4 r2 r4 q4) fun d' s5 ⟨z2,H5,I5,r5,k2,e2,q5⟩=>?_))
  subst e2
  cases r5
  exact wpAny_truthy_bool ⟨H5,I5,q5⟩
def Vg (K:PySem.W.Frag) (x:V) (H:Hp) (k:Bool):Prop:=
 match x with
 | .fB=>k=false
 | .bl b=>k=b
 | .int i=>k=(i != 0)
 | .str y=>y.length<=sizeLine/\k=((y.length:Int) != 0)
 | .AX y=>y.size<=sizeLine/\k=((y.size:Int) != 0)
 | .ref p=>(∃xs,bA K H p xs/\k=!xs.isEmpty)\/(∃xs,cO K H p xs/\k=!xs.isEmpty)\/ ∃aU,H p=some (.dK aU)/\k=!aU.isEmpty
 | _=>False
theorem zh {κ:Type} {aU:List (κ×V)} {vs:List (κ×Value)} (r:KV aU vs):(!vs.isEmpty)=!aU.isEmpty:=by
 cases r<;>rfl
theorem pW {xs:List V} {aO:List Value} (r:Vals xs aO):(!aO.toArray.isEmpty)=!xs.isEmpty:=by
 cases r<;>simp
theorem gE:(sizeLine:Nat)<2 ^ 63:=by rw[sizeLine_eq];decide
theorem Ma:Vc X (fun x H Q=> ∃k,Vg X.K x H k/\Q k H):=by
 intro pins s σ H x v Q I rx h
 obtain ⟨k,e,q⟩:=h
 have hl:=gE
 have hs:sizeLine=16777216:=sizeLine_eq
 cases x with
 | fB=>
  cases rx
  have e':k=false:=e
  subst e'
  exact truthy_none ⟨H,I,q⟩
 | bl b=>
  cases rx
  have e':k=b:=e
  subst e'
  exact wpAny_truthy_bool ⟨H,I,q⟩
 | int i=>
  obtain ⟨t,rfl⟩:=rx
  have e':k=(i != 0):=e
  subst e'
  exact PySem.P.truthy_int ⟨H,I,q⟩
 | str y=>
  obtain ⟨t,rfl⟩:=rx
  obtain ⟨hy,e'⟩:y.length<=sizeLine/\k=((y.length:Int) != 0):=e
  subst e'
  exact PySem.P.truthy_str (by omega) ⟨H,I.tok _,q⟩
 | AX y=>
  obtain ⟨t,rfl⟩:=rx
  obtain ⟨hy,e'⟩:y.size<=sizeLine/\k=((y.size:Int) != 0):=e
  subst e'
  exact PySem.W.truthy_bytes (by omega) ⟨H,I.tok _,q⟩
 | ref p=>
  cases rx
  have e':(∃xs,bA X.K H p xs/\k=!xs.isEmpty)\/(∃xs,cO X.K H p xs/\k=!xs.isEmpty)\/ ∃aU,H p=some (.dK aU)/\k=!aU.isEmpty:=e
  rcases e' with ⟨xs,hx,e'⟩ | ⟨xs,hx,e'⟩ | ⟨aU,hx,e'⟩
  ·subst e'
   obtain ⟨aO,r,pl,hz⟩:=I.list hx
   have hlen:=r.length
   exact wpAny_truthy_list pl.isList (by simp only[Qac];omega) ⟨H,I.tok _,by rw[pW r];exact q⟩
  ·subst e'
   obtain ⟨aO,r,pl,hz⟩:=I.tuple hx
   have hlen:=r.length
   exact truthy_tuple pl (by simp only[Qac];omega) ⟨H,I.tok _,by rw[pW r];exact q⟩
  ·subst e'
   obtain ⟨hz,hS,vs,r,m⟩:aU.length<=sizeLine/\(p==sysModules)=false/\ ∃vs,KV aU vs/\s.heap.DictOf (c_ X.prog X.w) p vs:=I.cj p _ hx
   have hlen:aU.length=vs.length:=Paired.length r
   exact wpAny_truthy_dict hS m (by omega) ⟨H,I.tok _,by rw[zh r];exact q⟩
 | _=>exact (show False from e).elim
theorem zi:iJ X (binaryOp .Add) (fun x y H Q=> ∃i j,x= .str i/\y= .str j/\i.length+j.length<=sizeLine/\Q (.str (i++j)) H):=by
 intro pins s σ H x y v u Q I rx ry h
 obtain ⟨i,j,rfl,rfl,hz,q⟩:=h
 obtain ⟨t,rfl⟩:=rx
 obtain ⟨t',rfl⟩:=ry
 exact add_str (fun t' tk=>⟨.str (i++j),H,I.tok _,⟨_,rfl⟩,q⟩) hz
theorem vals1 {x:V} {us:List Value} (r:Vals [x] us): ∃u,us=[u]/\RelV x u:=by
 cases r with
 | cons r1 r2=>cases r2;exact ⟨_,rfl,r1⟩
theorem vals2 {x y:V} {us:List Value} (r:Vals [x,y] us): ∃u w',us=[u,w']/\RelV x u/\RelV y w':=by
 cases r with
 | cons r1 r2=>
  cases r2 with
  | cons r3 r4=>cases r4;exact ⟨_,_,rfl,r1,r3⟩
theorem Cy (hc:X.calm=true):dG X (.builtin "max") (fun xs H Q=> ∃i j,xs=[.int i, .int j]/\Q (.int (if j>i then j else i)) H):=by
 intro pins s σ H xs us Q I r h
 obtain ⟨i,j,rfl,q⟩:=h
 obtain ⟨u,w',rfl,⟨t,rfl⟩,⟨t',rfl⟩⟩:=vals2 r
 refine max_two_ints (I.ok.hd hc) fun h' tk k=>⟨_,H,I.kept k,?_,q⟩
 by_cases hj:j>i
 ·rw[if_pos hj,if_pos hj];exact ⟨_,rfl⟩
 ·rw[if_neg hj,if_neg hj];exact ⟨_,rfl⟩
theorem sH (hc:X.calm=true):dG X (.builtin "min") (fun xs H Q=> ∃i j,xs=[.int i, .int j]/\Q (.int (if j<i then j else i)) H):=by
 intro pins s σ H xs us Q I r h
 obtain ⟨i,j,rfl,q⟩:=h
 obtain ⟨u,w',rfl,⟨t,rfl⟩,⟨t',rfl⟩⟩:=vals2 r
 refine min_two_ints (I.ok.hd hc) fun h' tk k=>⟨_,H,I.kept k,?_,q⟩
 by_cases hj:j<i
 ·rw[if_pos hj,if_pos hj];exact ⟨_,rfl⟩
 ·rw[if_neg hj,if_neg hj];exact ⟨_,rfl⟩
theorem sI:dG X (.type "int") (fun xs H Q=>(∃i,xs=[.int i]/\Q (.int i) H)\/ ∃k,xs=[.bl k]/\Q (.int (if k then 1 else 0)) H):=by
 intro pins s σ H xs us Q I r h
 rcases h with ⟨i,rfl,q⟩ | ⟨k,rfl,q⟩
 ·obtain ⟨u,rfl,t,rfl⟩:=vals1 r
  exact call_int_int ⟨.int i,H,I,⟨_,rfl⟩,q⟩
 ·obtain ⟨u,rfl,r1⟩:=vals1 r
  cases r1
  exact call_int_bool ⟨.int (if k then 1 else 0),H,I.tok _,⟨_,rfl⟩,q⟩
theorem uK:dG X (.type "str") (fun xs H Q=> ∃i,xs=[.int i]/\i.natAbs.log2<1920/\Q (.str (toString i)) H):=by
 intro pins s σ H xs us Q I r h
 obtain ⟨i,rfl,hz,q⟩:=h
 obtain ⟨u,rfl,t,rfl⟩:=vals1 r
 exact PySem.P.str_of_int hz ⟨.str _,H,I.tok _,⟨_,rfl⟩,q⟩
end
structure Cz (h:Heap) (x dx C:Addr) (mA:Str->Option Value):Prop where
 obj:h.get? x=some (PySem.W.instObj C dx)
 ns:h.Ns1 dx mA
 ne:dx≠x
theorem CA {h:Heap} {dx:Addr} {mA:Str->Option Value} (n:h.Ns1 dx mA): ∃od,h.get? dx=some od/\ ∀name,PySem.W.lookIn name od=some (mA name):=by
 obtain ⟨o,es,ep,ho,hd,hk,_,hm⟩:=n
 refine ⟨o,ho,fun name=>?_⟩
 have e:=hm name
 unfold nsFind findBy at e
 rw[<-Array.find?_toList]at e
 unfold PySem.W.lookIn
 rw[hd]
 dsimp only
 split
 ·rename_i y q
  rw[q]at e
  exact congrArg some e
 ·rename_i q
  rw[q]at e
  have a:es.toList.any (·.refKey)=false:=by
   rw[Qfi]
   intro y hy
   obtain ⟨z,t,Vh⟩:=hk y (Array.mem_toList_iff.mp hy)
   simp[DictEntry.refKey,Vh]
  have a': ¬es.toList.any (·.refKey)=true:=by rw[a];exact Qaq
  rw[if_neg a']
  exact congrArg some e
theorem Cz.look {h:Heap} {x dx C:Addr} {mA:Str->Option Value} (I:Cz h x dx C mA): ∃od,PySem.W.InstAt h x (PySem.W.instObj C dx) C (some od)/\ ∀name,PySem.W.lookIn name od=some (mA name):=
 let ⟨od,ho,hl⟩:=CA I.ns
 ⟨od,⟨I.obj,rfl,rfl,ho⟩,hl⟩
section
variable {prog:Program} {w:World} {A:Around} {E:Value->Shared->Prop} {s:Shared} {K:PySem.W.Frag} {x dx C f:Addr} {mA:Str->Option Value} {name:Str} {v:Value}
theorem get_map {expr:Bool} {Q:Value->Shared->Prop} (X:K.In s.heap) (I:Cz s.heap x dx C mA) (hg:PySem.W.plainGet K C name=true) (hh:PySem.W.hasDictIn K C=true)
  (ha:PySem.W.findIn K (.ref C) name=some none) (hv:mA name=some v) (Zj:PySem.W.handedIn v=true) (h:Q v { s with toks:=s.toks+1 }):
  wpAny (model prog w) A (getAttr (.ref x) name expr) Q E s:=by
 obtain ⟨od,J,hl⟩:=I.look
 exact PySem.W.get_value X J (PySem.W.plainGet_of hg).1 (PySem.W.findObj_own hh ha rfl (by rw[hl,hv])) Zj h
theorem IH {ns:List Str} {Q:Unit->Shared->Prop} (X:K.In s.heap) (I:Cz s.heap x dx C mA)
  (hs:PySem.W.findIn K (.ref C) "__setattr__"=some (some (.builtin "object.__setattr__"))) (hp:PySem.W.plainOver K C=true) (ht:PySem.W.takerIn K C name=some none) (hh:PySem.W.hasDictIn K C=true)
  (hw:PySem.Within mA ns) (hsz:ns.length<=sizeLine)
  (h: ∀h',Cz h' x dx C (fun y=>if y=name then some v else mA y)->Heap.SameBut dx s.heap h'->Q () { s with heap:=h',toks:=s.toks+2 }):
  wpAny (model prog w) A (setAttr (.ref x) name v) Q E s:=by
 obtain ⟨od,J,hl⟩:=I.look
 refine PySem.W.set_plain X J hs (PySem.W.osa_open (s:={ s with toks:=s.toks+1 }) (r:=none) X J hp ht fun b=>?_)
 obtain ⟨cd,hc,UU⟩:=PySem.W.any_some hh
 have hx:s.heap.get? x=some ⟨.ref C,some dx, .plain, #[]⟩:=I.obj
 refine wpAny_bind (wpAny_pure (wpAny_bind (wpAny_bind (wpAny_loadPart hx (wpAny_bind (PySem.W.Looks.here (s:={ s with toks:=s.toks+1 }) (PySem.W.looks_clsIn X hc) ?_))))))
 rw[UU]
 refine wpAny_pure (a:=some dx) (wpAny_bind (wpAny_pure (wpAny_bind ?_)))
 refine wpAny_nsSet1 (s:={ s with toks:=s.toks+1 }) I.ns fun h' zj K0=>?_
 obtain ⟨oD,esD,epD,Zk,Zl,Zm⟩:=zj.count (PySem.Within.cons name v hw)
 refine wpAny_bind (wpAny_lookBehind Zk (by rw[Zl];exact pastItsLine_dict (Qao Zm (by rw[Qay];omega))) ?_)
 exact wpAny_pure (h _ ⟨(K0.2 _ (Ne.symm I.ne)).trans I.obj,zj,I.ne⟩ K0)
theorem EE {R:Result->Shared->Prop} {vs:List Value} {kw:List (Str×Value)} (X:K.In s.heap) (hm:PySem.W.makesIn K C=true)
  (hi:PySem.W.findIn K (.ref C) "__init__"=some (some (.ref f))) (hf:PySem.W.typeIn K (.ref f)=some (.type "function"))
  (h:codeAny (model prog w) (A.under (.builtin "type.__call__" ⟨.ref C::vs,kw⟩)) (.call (.ref f) ⟨.ref (s.heap.objs.size+1)::vs,kw⟩) (PySem.W.InitBack (s.heap.objs.size+1) R)
   { s with heap:=(s.heap.push PySem.W.emptyDict).push (PySem.W.instObj C s.heap.objs.size) }):
  codeAny (model prog w) A (.call (.ref C) ⟨vs,kw⟩) R s:=by
 obtain ⟨hh,g,d,t,os⟩:=s
 exact PySem.W.make_core (PySem.W.makes_of X hm) (PySem.W.looks_findIn X hi) (fun self=>PySem.W.bind_fn X self hf) (.inl rfl) h
end
noncomputable def eS (f:Str) (v:V):List (Str×V)->List (Str×V)
 | []=>[(f,v)]
 |(g,x)::r=>if g=f then (g,v)::r else (g,x)::eS f v r
theorem aT (f g:Str) (v:V): ∀fs:List (Str×V),(eS f v fs).lookup g=if g=f then some v else fs.lookup g
 | []=>by
  show List.lookup g [(f,v)]=_
  by_cases h:g=f
  ·have hb:(g==f)=true:=beq_iff_eq.mpr h
   simp only[List.lookup,hb,if_pos h]
  ·have hb:(g==f)=false:=beq_eq_false_iff_ne.mpr h
   simp only[List.lookup,hb,if_neg h]
 |(k,x)::r=>by
  have ih:=aT f g v r
  rw[show eS f v ((k,x)::r)=(if k=f then (k,v)::r else (k,x)::eS f v r) from rfl]
  by_cases hk:k=f
  ·rw[if_pos hk]
   by_cases h:g=k
   ·have hb:(g==k)=true:=beq_iff_eq.mpr h
    simp only[List.lookup,hb,if_pos (h.trans hk)]
   ·have hb:(g==k)=false:=beq_eq_false_iff_ne.mpr h
    simp only[List.lookup,hb,if_neg (fun e:g=f=>h (e.trans hk.symm))]
  ·rw[if_neg hk]
   by_cases h:g=k
   ·have hb:(g==k)=true:=beq_iff_eq.mpr h
    simp only[List.lookup,hb,if_neg (fun e:g=f=>hk (h.symm.trans e))]
   ·have hb:(g==k)=false:=beq_eq_false_iff_ne.mpr h
    simp only[List.lookup,hb]
    exact ih
theorem mS (f:Str) (v:V): ∀fs:List (Str×V),f∈(eS f v fs).map (·.1)/\ ∀g,g∈fs.map (·.1)->g∈(eS f v fs).map (·.1)
 | []=>⟨by simp[eS],fun g h=>by simp at h⟩
 |(k,x)::r=>by
  obtain ⟨i1,i2⟩:=mS f v r
  rw[show eS f v ((k,x)::r)=(if k=f then (k,v)::r else (k,x)::eS f v r) from rfl]
  by_cases hk:k=f
  ·rw[if_pos hk]
   subst hk
   exact ⟨by simp,fun g h=>by simpa using h⟩
  ·rw[if_neg hk]
   refine ⟨?_,fun g h=>?_⟩
   ·rw[Qat]
    exact Xn _ i1
   ·rw[Qat]at h ⊢
    rcases Zv.mp h with e | e
    ·exact Zv.mpr (.inl e)
    ·exact Xn _ (i2 g e)
theorem nW (f:Str) (v:V): ∀fs:List (Str×V),(eS f v fs).length<=fs.length+1
 | []=>by simp[eS]
 |(k,x)::r=>by
  have ih:=nW f v r
  rw[show eS f v ((k,x)::r)=(if k=f then (k,v)::r else (k,x)::eS f v r) from rfl]
  by_cases hk:k=f
  ·rw[if_pos hk,Qay,Qay];omega
  ·rw[if_neg hk,Qay,Qay];omega
theorem mR.some_of {v:V} {o:Option Value} (r:mR (some v) o): ∃u,o=some u/\RelV v u:=by
 cases o with
 | none=>exact (show False from r).elim
 | some u=>exact ⟨u,rfl,r⟩
theorem CB {v:V} {u:Value} (r:RelV v u):PySem.W.handedIn u=true:=by
 cases v with
 | fB=>cases (show u=Value.none from r);rfl
 | bl b=>cases (show u=Value.bool b from r);rfl
 | int i=>obtain ⟨t,e⟩:=(show ∃t,u=Value.int i t from r);cases e;rfl
 | str x=>obtain ⟨t,e⟩:=(show ∃t,u=Value.str x t from r);cases e;rfl
 | AX b=>obtain ⟨t,e⟩:=(show ∃t,u=Value.bytes b t from r);cases e;rfl
 | LM b=>obtain ⟨t,e⟩:=(show ∃t,u=Value.float b t from r);cases e;rfl
 | ref a=>cases (show u=Value.ref a from r);rfl
 | ty n=>cases (show u=Value.type n from r);rfl
section
variable {P:Program} {w:World} {H H':Hp} {h h':Heap} {a C dx:Addr} {fs Za:List (Str×V)}
theorem uL (cj:kO P w H h) (e:H a=some (.ins C dx fs)): ∃mA,Cz h a dx C mA/\(∀f,mR (fs.lookup f) (mA f))/\PySem.Within mA (fs.map (·.1))/\fs.length<=1000/\H dx=some (.own a):=by
 obtain ⟨d,z,ne,ob,mA,n,r,q⟩:=(show cB P w H h a (.ins C dx fs) from cj a _ e)
 exact ⟨mA,⟨ob,n,ne⟩,r,q,z,d⟩
end
structure II (K:PySem.W.Frag) (C:Addr):Prop where
 pg:PySem.W.plainGet K C Str.empty=true
 hd:PySem.W.hasDictIn K C=true
 po:PySem.W.plainOver K C=true
 sa:PySem.W.findIn K (.ref C) "__setattr__"=some (some (.builtin "object.__setattr__"))
theorem II.get {K:PySem.W.Frag} {C:Addr} (c:II K C) (f:Str):PySem.W.plainGet K C f=true:=c.pg
def eT (K:PySem.W.Frag) (C:Addr) (f:Str):Prop:=PySem.W.findIn K (.ref C) f=some none
theorem eT.Q_ {K:PySem.W.Frag} {C:Addr} {f:Str} (n:eT K C f):PySem.W.takerIn K C f=some none:=by
 unfold PySem.W.takerIn
 rw[show PySem.W.findIn K (.ref C) f=some none from n]
 rfl
section
variable {X:Cx} {pins:List (Addr×Obj)} {σ:St} {H:Hp} {s:Shared} {a C dx:Addr} {fs:List (Str×V)} {f:Str} {v:V} {A:Around} {E:Value->Shared->Prop}
theorem zk {b:Bool} {Q:Value->Shared->Prop} (I:Inv X pins σ H s) (e:H a=some (.ins C dx fs)) (c:II X.K C) (n:eT X.K C f) (l:fs.lookup f=some v)
  (h: ∀u s',Inv X pins σ H s'->RelV v u->Q u s'):wpAny (model X.prog X.w) A (getAttr (.ref a) f b) Q E s:=by
 obtain ⟨mA,O,r,_,_,_⟩:=uL I.cj e
 obtain ⟨u,hu,ru⟩:=mR.some_of (v:=v) (o:=mA f) (by rw[<-l];exact r f)
 exact get_map I.o5 O (c.get f) c.hd n hu (CB ru) (h u _ (I.tok _) ru)
theorem zm {y:V} {u:Value} {Q:Unit->Shared->Prop} (I:Inv X pins σ H s) (e:H a=some (.ins C dx fs)) (c:II X.K C) (n:eT X.K C f) (hl:fs.length<1000) (ry:RelV y u)
  (h: ∀s',Inv X pins σ (upd H a (.ins C dx (eS f y fs))) s'->Q () s'):wpAny (model X.prog X.w) A (setAttr (.ref a) f u) Q E s:=by
 obtain ⟨mA,O,r,wi,_,ho⟩:=uL I.cj e
 have hz:(fs.map (·.1)).length<=sizeLine:=by rw[Xl,sizeLine_eq];omega
 refine IH I.o5 O c.sa c.po n.Q_ c.hd wi hz fun h' O' sb=>h _ ?_
 have hd: ∃o,h'.get? dx=some o:=let ⟨o,_,_,e',_⟩:=O'.ns;⟨o,e'⟩
 refine I.write (x:=a) (e:=dx) (by rw[e];exact True.intro) (.inr ho) (fun b q hb z=>(sb.2 b hb).trans z) hd ?_
 refine ⟨by rw[aD O.ne];exact ho,?_,O.ne,O'.obj,_,O'.ns,fun g=>?_,fun g hg=>?_⟩
 ·have:=nW f y fs;omega
 ·show mR ((eS f y fs).lookup g) (if g=f then some u else mA g)
  rw[aT]
  by_cases q:g=f
  ·rw[if_pos q,if_pos q];exact ry
  ·rw[if_neg q,if_neg q];exact r g
 ·by_cases q:g=f
  ·rw[q];exact (mS f y fs).1
  ·refine (mS f y fs).2 g (wi g fun z=>hg ?_)
   show (if g=f then some u else mA g)=none
   rw[if_neg q];exact z
theorem Inv.made (I:Inv X pins σ H s):Inv X pins σ (upd (upd H s.heap.objs.size (.own (s.heap.objs.size+1))) (s.heap.objs.size+1) (.ins C s.heap.objs.size []))
  { s with heap:=(s.heap.push PySem.W.emptyDict).push (PySem.W.instObj C s.heap.objs.size) }:=by
 have e1:(s.heap.push PySem.W.emptyDict).get? s.heap.objs.size=some PySem.W.emptyDict:=Qam s.heap rfl
 have e2:((s.heap.push PySem.W.emptyDict).push (PySem.W.instObj C s.heap.objs.size)).get? (s.heap.objs.size+1)=some (PySem.W.instObj C s.heap.objs.size):=by
  have:=Qam (s.heap.push PySem.W.emptyDict) (o:=PySem.W.instObj C s.heap.objs.size) rfl
  rwa [Qc3]at this
 have e3:(s.heap.push PySem.W.emptyDict).Ns s.heap.objs.size (fun _=>none):=⟨PySem.W.emptyDict, #[],_,e1,rfl,(fun e he=>absurd he (by simp)),fun _=>rfl⟩
 have I1:=I.laid (a:=s.heap.objs.size) (o:= .own (s.heap.objs.size+1)) (h':=s.heap.push PySem.W.emptyDict) (t':=s.toks) (fun b u q=>Xm _ q) (Tz _) ⟨_,e1⟩
 refine I1.laid (a:=s.heap.objs.size+1) (o:= .ins C s.heap.objs.size []) (t':=s.toks) (fun b u q=>Xm _ q) (Nat.le_of_eq (Qc3 _ _)) ?_
 have ne:s.heap.objs.size≠s.heap.objs.size+1:=Qan (Qci _)
 refine ⟨by rw[aD ne,ah],Qad _,ne,e2,fun _=>none,(Heap.Ns1.of_empty e3).at fun o q=>Xm _ q,fun _=>True.intro,fun y hy=>absurd rfl hy⟩
theorem IJ {prog:Program} {w:World} {env:Env} {e:Expr} {f:Str} {pos:Pos} {s:Shared} {Q:Value->Shared->Prop} (hb:attributeBase e f env (eval e env)=eval e env)
  (h:wpAny (model prog w) A (eval e env) (fun o s₁=>wpAny (model prog w) A (getAttr o f true) Q E s₁) E s):wpAny (model prog w) A (eval (.Attribute e f pos) env) Q E s:=
 Attribute_any_ h (by rw[arm_eval_Attribute,hb])
end
def Ra (K:PySem.W.Frag) (ta:TE) (f:Str):TE:=fun σ H Q=>ta σ H fun x H1=> ∃a C dx fs v,x= .ref a/\H1 a=some (.ins C dx fs)/\II K C/\eT K C f/\fs.lookup f=some v/\Q v H1
def Vi (K:PySem.W.Frag) (ta tv:TE) (f:Str):TS:=fun D σ H=>tv σ H fun y H1=>ta σ H1 fun x H2=> ∃a C dx fs,x= .ref a/\H2 a=some (.ins C dx fs)/\II K C/\eT K C f/\fs.length<1000/\
 D.nx σ (upd H2 a (.ins C dx (eS f y fs)))
section
variable {X:Cx} {o e value:Expr} {f:Str} {pos pos' Rb:Pos} {ta tv:TE}
theorem Mb (he:PE X e ta) (hb:attributeBase e f X.env (eval e X.env)=eval e X.env):PE X (.Attribute e f pos) (Ra X.K ta f):=by
 intro pins s σ H Q I h
 refine IJ hb (cD (he pins s σ H _ I h) fun u s1 ⟨x,H1,I1,rx,a,C,dx,fs,v,ex,ea,c,n,l,q⟩=>?_)
 subst ex
 obtain rfl:u=Value.ref a:=rx
 exact zk I1 ea c n l fun u' s2 I2 ru=>⟨v,H1,I2,ru,q⟩
theorem jo (ha:PE X o ta) (hv:PE X value tv) (hs:swapsWith value (some (.Attribute o f pos')) pos.line X.env=pure false):PS X (.Assign [.Attribute o f pos'] value pos) (Vi X.K ta tv f):=by
 intro pins s σ H D I h
 refine plainObj_wpAny_Assign_Attribute (cD (hv pins s σ H _ I h) fun u s1 ⟨y,H1,I1,ry,q⟩=>cD (ha pins s1 σ H1 _ I1 q) fun ov s2 ⟨x,H2,I2,rx,a,C,dx,fs,ex,ea,c,n,l,q2⟩=>?_) hs
 subst ex
 obtain rfl:ov=Value.ref a:=rx
 exact zm I2 ea c n l ry fun s3 I3=>⟨σ,_,I3,q2⟩
end
section
variable {X:Cx} {pins:List (Addr×Obj)} {σ:St} {H:Hp} {s:Shared} {A:Around} {E:Value->Shared->Prop} {Q:Value->Shared->Prop} {c:Value} {b:Bool}
inductive oG (K:PySem.W.Frag) (H:Hp):V->Value->Prop where
 | fB:oG K H .fB (.type "NoneType")
 | bl (x:Bool):oG K H (.bl x) (.type "bool")
 | int (i:Int):oG K H (.int i) (.type "int")
 | str (x:Str):oG K H (.str x) (.type "str")
 | LM (x:UInt64):oG K H (.LM x) (.type "float")
 | lst {a:Addr} {xs:List V} (e:H a=some (.lst xs)):oG K H (.ref a) (.type "list")
 | AY {a:Addr} {o:Obj} {xs:List V} (e:H a=some (.AY o (.lst xs))):oG K H (.ref a) (.type "list")
 | tup {a:Addr} {xs:List V} (e:H a=some (.tup xs)):oG K H (.ref a) (.type "tuple")
 | dK {a:Addr} {aU:List (Key×V)} (e:H a=some (.dK aU)):oG K H (.ref a) (.type "dict")
 | dT {a:Addr} {aU:List (List Key×V)} (e:H a=some (.dT aU)):oG K H (.ref a) (.type "dict")
 | ins {a C dx:Addr} {fs:List (Str×V)} (e:H a=some (.ins C dx fs)) (cl:II K C) (ha:PySem.W.findIn K (.ref C) "__class__"=some (some (.builtin "object.__class__")))
   (hn:PySem.W.specialIn K (.builtin "object.__class__") "__get__"=some (some (.builtin "getset_descriptor.__get__"))) (Ov:PySem.W.takesIn K (.builtin "object.__class__")=some true)
   (hm:PySem.W.mroIn K C (.type "object")=some true):oG K H (.ref a) (.ref C)
theorem CC {x:V} {u t:Value} (I:Inv X pins σ H s) (rx:RelV x u) (ty:oG X.K H x t) (e:PySem.W.kitOne X.K t c=some b) (h: ∀tk,Q (.bool b) { s with toks:=tk }):
  wpAny (model X.prog X.w) A (call (.builtin "isinstance") [u,c]) Q E s:=by
 cases ty with
 | fB=>cases (show u=Value.none from rx);exact Qb6 PySem.W.kitx_none I.o5 True.intro e (fun z=>nomatch z) h
 | bl y=>cases (show u=Value.bool y from rx);exact Qb6 PySem.W.kitx_bool I.o5 True.intro e (fun z=>nomatch z) h
 | int i=>obtain ⟨t,q⟩:=(show ∃t,u=Value.int i t from rx);cases q;exact Qb6 PySem.W.kitx_int I.o5 True.intro e (fun z=>nomatch z) h
 | str y=>obtain ⟨t,q⟩:=(show ∃t,u=Value.str y t from rx);cases q;exact Qb6 PySem.W.kitx_str I.o5 True.intro e (fun z=>nomatch z) h
 | LM y=>obtain ⟨t,q⟩:=(show ∃t,u=Value.float y t from rx);cases q;exact Qb6 PySem.W.kitx_float I.o5 True.intro e (fun z=>nomatch z) h
 | @lst a xs ea=>
  cases (show u=Value.ref a from rx)
  obtain ⟨_,_,n,_,h1⟩:=(show cB X.prog X.w H s.heap a (.lst xs) from I.cj a _ ea)
  exact Qb6 PySem.W.kitx_list I.o5 ⟨_,h1,rfl⟩ e (fun z=>nomatch z) h
 | @AY a ob xs ea=>
  cases (show u=Value.ref a from rx)
  obtain ⟨_,_,_,n,_,h1⟩:=(show cB X.prog X.w H s.heap a (.AY ob (.lst xs)) from I.cj a _ ea)
  exact Qb6 PySem.W.kitx_list I.o5 ⟨_,h1,rfl⟩ e (fun z=>nomatch z) h
 | @tup a xs ea=>
  cases (show u=Value.ref a from rx)
  obtain ⟨_,_,_,p⟩:=(show cB X.prog X.w H s.heap a (.tup xs) from I.cj a _ ea)
  obtain ⟨o,h1,h2,_⟩:=p
  exact Qb6 PySem.W.kitx_tuple I.o5 ⟨o,h1,h2⟩ e (fun z=>nomatch z) h
 | @dK a aU ea=>
  cases (show u=Value.ref a from rx)
  obtain ⟨_,_,vs,_,p⟩:=(show cB X.prog X.w H s.heap a (.dK aU) from I.cj a _ ea)
  obtain ⟨o,es,ep,h1,h2,_⟩:=p
  exact Qb6 PySem.W.kitx_dict I.o5 ⟨o,h1,h2.1⟩ e (fun z=>nomatch z) h
 | @dT a aU ea=>
  cases (show u=Value.ref a from rx)
  obtain ⟨_,_,xs,_,o,es,ep,h1,h2,_⟩:=(show cB X.prog X.w H s.heap a (.dT aU) from I.cj a _ ea)
  exact Qb6 PySem.W.kitx_dict I.o5 ⟨o,h1,h2.1⟩ e (fun z=>nomatch z) h
 | @ins a C dx fs ea cl ha hn Ov hm=>
  cases (show u=Value.ref a from rx)
  obtain ⟨mA,O,_⟩:=uL I.cj ea
  obtain ⟨od,J,_⟩:=O.look
  exact Qb6 (PySem.W.kitx_own (cl.get _) cl.hd ha hn Ov hm) I.o5 J e (fun z=>nomatch z) h
end
structure fu (k:Nat) (A:Around):Prop where
 hd:A.handled=none
 dp:A.depth+3*k+5<recursionLimit
 un:A.units+16*k+200<cLine
 gd:A.guards=some []
theorem fu.mono {j k:Nat} {A:Around} (r:fu k A) (h:j<=k):fu j A:=⟨r.hd,by have:=r.dp;omega,by have:=r.un;omega,r.gd⟩
theorem fu.deeper {k:Nat} {A:Around} (r:fu (k+1) A) (env:Env):fu k (A.deeper env):=
 ⟨r.hd,by have:=r.dp;show A.depth+1+3*k+5<_;omega,by have:=r.un;show A.units+3+16*k+200<_;omega,r.gd⟩
theorem zo {A:Around} {C:Addr} {us:List Value} {kw:List (Str×Value)}:(A.under (.builtin "type.__call__" ⟨.ref C::us,kw⟩)).depth=A.depth+1:=by
 first | rfl | simp[Around.under,Code.weight,Code.isCreation,Code.isGuard,Code.isCaller,Code.frames,Code.isFrame,guardIds]
theorem zp {A:Around} {C:Addr} {us:List Value} {kw:List (Str×Value)}:(A.under (.builtin "type.__call__" ⟨.ref C::us,kw⟩)).units=A.units+1:=by
 first | rfl | simp[Around.under,Code.cUnits,Code.frames,Code.isFrame]
theorem fu.make {k:Nat} {A:Around} (r:fu (k+1) A) (C:Addr) (us:List Value) (kw:List (Str×Value)):fu k (A.under (.builtin "type.__call__" ⟨.ref C::us,kw⟩)):=
 ⟨r.hd,by have:=r.dp;rw[zo];omega,by have:=r.un;rw[zp];omega,by first | exact r.gd | (simpa [Around.under,Code.guards,Code.isGuard,pushGuards,guardIds]using r.gd)⟩
theorem fu.depth {k:Nat} {A:Around} (r:fu k A):A.depth<recursionLimit:=by have:=r.dp;omega
theorem fu.units {k:Nat} {A:Around} (r:fu k A):A.units+64<cLine:=by have:=r.un;omega
def Vj:TA:=fun _ H Q=>Q [] H
def K3 (ta:TE) (tr:TA):TA:=fun σ H Q=>ta σ H fun x H1=>tr σ H1 fun xs H2=>Q (x::xs) H2
section
variable {X:Cx} {e:Expr} {es:List Expr} {te:TE} {t:TA} {pos:Pos}
theorem ae:PA X [] Vj:=fun _ _ _ _ H Q I h=>Calls.spliced_nil ⟨[],H,I, .nil,h⟩
theorem aa (ha:PE X e te) (hr:PA X es t) (hs:starEach (e::es) X.env=(false,eval e X.env)::starEach es X.env:=by rfl):PA X (e::es) (K3 te t):=by
 intro pos pins s σ H Q I h
 rw[hs]
 show wpAny _ _ (spliced ((false,eval e X.env)::backTo pos (starEach es X.env))) _ _ s
 refine Calls.spliced_cons (cD (ha pins s σ H _ I h) fun u s1 ⟨x,H1,I1,r1,q1⟩=>?_)
 exact cD (hr pos pins s1 σ H1 _ I1 q1) fun us s2 ⟨xs,H2,I2,r2,q2⟩=>⟨x::xs,H2,I2, .cons r1 r2,q2⟩
def Vk (t:TA):TE:=fun σ H Q=>t σ H fun xs H1=>xs.length<=sizeLine/\ ∀p,H1 p=none->Q (.ref p) (upd H1 p (.tup xs))
def Vl (t:TA):TE:=fun σ H Q=>t σ H fun xs H1=>xs.length<=sizeLine/\ ∀p,H1 p=none->Q (.ref p) (upd H1 p (.lst xs))
theorem b8 {x1} (h:PA X es t):PE X (.Tuple es x1 pos) (Vk t):=by
 intro pins s σ H Q I hq
 refine wpAny_Tuple_spliced (cD (h pos pins s σ H _ I hq) fun us s1 ⟨xs,H1,I1,r,z,q⟩=>⟨by rw[<-r.length];exact z,?_⟩)
 have hf:H1 s1.heap.objs.size=none:=I1.cj.fresh (Tz _)
 refine ⟨.ref s1.heap.objs.size,upd H1 s1.heap.objs.size (.tup xs),I1.laid (t':=s1.toks) (fun b u e=>Xm _ e) (Tz _) ?_,rfl,q _ hf⟩
 exact ⟨z,us,r,⟨_,Qam _ rfl,rfl,_,rfl⟩⟩
theorem cT (h:PA X es t):PE X (.List es pos) (Vl t):=by
 intro pins s σ H Q I hq
 refine wpAny_List_spliced (cD (h pos pins s σ H _ I hq) fun us s1 ⟨xs,H1,I1,r,z,q⟩=>⟨by rw[<-r.length];exact z,?_⟩)
 have hf:H1 s1.heap.objs.size=none:=I1.cj.fresh (Tz _)
 refine ⟨.ref s1.heap.objs.size,upd H1 s1.heap.objs.size (.lst xs),I1.laid (t':=s1.toks) (fun b u e=>Xm _ e) (Tz _) ?_,rfl,q _ hf⟩
 exact ⟨z,us,0,r,Qam _ rfl⟩
end
abbrev Sp:=List V->Hp->VK->XK->Prop
abbrev CD:=List Env->Hp->Shared->XK->Value->Shared->Prop
structure zq (P:Program) (w:World) (K:PySem.W.Frag) (mg:Str->Option Value) (base:Heap) (A:Around) (outer:List Env) (s:Shared) (H:Hp):Prop where
 frames:A.frames=some outer
 mod:Mod K mg base
 bs: ∀b o,base.get? b=some o->s.heap.get? b=some o/\H b=none
 Iy:base.objs.size<=s.heap.objs.size
 oB:s.heap.FunFrames base outer
 LP: ∀b∈AZ outer,H b=none
 cj:kO P w H s.heap
 bare:AllBare s.gens
def CE (outer:List Env) (P:Program) (w:World) (H:Hp) (s:Shared) (Q:VK) (u:Value) (s':Shared):Prop:=
 ∃v H',s'.os=s.os/\AllBare s'.gens/\Un (AZ outer) [] H H' s.heap s'.heap/\kO P w H' s'.heap/\RelV v u/\Q v H'
def CR (CX:CD) (outer:List Env) (P:Program) (w:World) (H:Hp) (s:Shared) (Q:VK) (E:XK) (r:Result) (s':Shared):Prop:=
 match r with
 | .ok (.ret u)=>CE outer P w H s Q u s'
 | .ok _=>False
 | .error e=>CX outer H s E e s'
structure bI (P:Program) (w:World) (K:PySem.W.Frag) (mg:Str->Option Value) (base:Heap) (CX:CD) (k:Nat) (f:Addr) (fd:FuncData) (ps:List Str) (sp:Sp):Prop where
 len: ∀vs H Q E,sp vs H Q E->vs.length=ps.length
 run: ∀(A:Around) (outer:List Env) (s:Shared) (H:Hp) (args:Args) (us:List Value) (vs:List V) (Q:VK) (E:XK),fu k A->zq P w K mg base A outer s H->BindsTo s fd args (ps.zip us)->Vals vs us->sp vs H Q E->
  codeAny (model P w) A (.call (.ref f) args) (CR CX outer P w H s Q E) s
theorem zq.make {P:Program} {w:World} {K:PySem.W.Frag} {mg:Str->Option Value} {base:Heap} {A:Around} {outer:List Env} {s:Shared} {H:Hp} (e:zq P w K mg base A outer s H) (C:Addr) (us:List Value) (kw:List (Str×Value)):
  zq P w K mg base (A.under (.builtin "type.__call__" ⟨.ref C::us,kw⟩)) outer s H:=⟨by first | exact e.frames | (simpa [Around.under,Code.envs,Code.isFrame,pushEnvs]using e.frames),e.mod,e.bs,e.Iy,e.oB,e.LP,e.cj,e.bare⟩
section
variable {X:Cx} {pins:List (Addr×Obj)} {σ:St} {H:Hp} {s s':Shared}
theorem Inv.Rc (I:Inv X pins σ H s):zq X.prog X.w X.K X.mg X.base X.A X.stack s H:=
 ⟨I.ok.frames,I.ok.mod,I.bs,Qao I.ok.Iy I.sz,I.stack,I.A0,I.cj,I.bare⟩
theorem Inv.after {Q:VK} {u:Value} (I:Inv X pins σ H s) (h:CE X.stack X.prog X.w H s Q u s'):EP X pins σ Q u s':=by
 obtain ⟨v,H',os,bare,un,cj,r,q⟩:=h
 obtain ⟨hh,g,d,t,Vm⟩:=s'
 obtain rfl:Vm=s.os:=os
 exact ⟨v,H',I.call (h':=hh) (g':=g) (d':=d) (t':=t) (ch:=[]) un cj bare (fun b z=>absurd z (by simp)),r,q⟩
end
def Rf (sp:Sp) (dvs:List V) (E:XK) (t:TA):TE:=fun σ H Q=>t σ H fun vs H1=>sp (vs++dvs) H1 Q E
def Rg (C:Addr) (sp:Sp) (dvs:List V) (E:XK) (t:TA):TE:=fun σ H Q=>t σ H fun vs H1=> ∀x dx,H1 x=none->H1 dx=none->dx≠x->
 sp (.ref x::(vs++dvs)) (upd (upd H1 dx (.own x)) x (.ins C dx [])) (fun v H2=>v= .fB/\Q (.ref x) H2) E
def Binds (K:PySem.W.Frag) (fd:FuncData) (ps:List Str) (ds:List Value):Prop:=
 ∀(s:Shared) (us:List Value),K.In s.heap->(us++ds).length=ps.length->BindsTo s fd ⟨us,[]⟩ (ps.zip (us++ds))
theorem Binds.all {K:PySem.W.Frag} {fd:FuncData} {ps:List Str} (h: ∀us:List Value,us.length=ps.length->bindArgs fd ⟨us,[]⟩=pure (ps.zip us)):Binds K fd ps []:=fun s us _ hl=>by
 rw[Qbh]at hl ⊢
 exact .of_eq (h us hl)
def Passes (CX:CD) (X:Cx) (E:XK):Prop:= ∀(pins:List (Addr×Obj)) (σ:St) (H:Hp) (s:Shared) (e:Value) (s':Shared),Inv X pins σ H s->CX X.stack H s E e s'->X.xe e s'
section
variable {X:Cx} {CX:CD} {k:Nat} {f C:Addr} {fd:FuncData} {ps:List Str} {sp:Sp} {dvs:List V} {ds:List Value} {E:XK} {x m:Str} {p pos apos:Pos} {e o:Expr} {es:List Expr} {ta:TE} {t:TA}
theorem zr {pins:List (Addr×Obj)} {σ:St} {H:Hp} {s:Shared} {Q:VK} {us:List Value} {vs:List V} (F:bI X.prog X.w X.K X.mg X.base CX k f fd ps sp) (hr:fu k X.A) (hb:Binds X.K fd ps ds) (hd:Vals dvs ds) (hx:Passes CX X E)
  (I:Inv X pins σ H s) (r:Vals vs us) (h:sp (vs++dvs) H Q E):wpAny (model X.prog X.w) X.A (call (.ref f) us) (EP X pins σ Q) X.xe s:=by
 have r2:Vals (vs++dvs) (us++ds):=r.append hd
 have hl:(us++ds).length=ps.length:=by rw[<-r2.length];exact F.len _ _ _ _ h
 refine wpAny_call (codeAny_mono (F.run X.A X.stack s H ⟨us,[]⟩ (us++ds) (vs++dvs) Q E hr I.Rc (hb s us I.o5 hl) r2 h) fun r s' hq=>?_)
 cases r with
 | error e=>exact hx pins σ H s e s' I hq
 | ok fl=>
  cases fl with
  | ret u=>exact I.after hq
  | next=>exact False.elim hq
  | brk=>exact False.elim hq
  | cont=>exact False.elim hq
theorem ao (F:bI X.prog X.w X.K X.mg X.base CX k f fd ps sp) (hr:fu k X.A) (hg:Gl X x) (hm:X.mg x=some (.ref f)) (hk:PySem.W.keepIn X.K (.ref f)=true) (hb:Binds X.K fd ps ds) (hd:Vals dvs ds) (hx:Passes CX X E)
  (ha:PA X (e::es) t) (Mc:(x==("__debug__":Str))=false:=by decide) (he:starEach (e::es) X.env=(false,eval e X.env)::starEach es X.env:=by rfl) (j8:(backTo pos (starEach es X.env)).any (·.1)=false:=by rfl):
  PE X (.Call (.Name x p) (e::es) [] pos) (Rf sp dvs E t):=by
 intro pins s σ H Q I h
 refine wpAny_Call_Name_kw (uI I hg hm ?_ Mc)
 refine Qd6 (h₀:=X.base) I.ok.mod.Om hk (cD (ha pos pins s σ H _ I h) fun us s1 ⟨vs,H1,I1,r,q⟩=>⟨I1.o5,?_⟩) he j8
 exact zr F hr hb hd hx I1 r q
structure Mk (K:PySem.W.Frag) (C f:Addr):Prop where
 makes:PySem.W.makesIn K C=true
 init:PySem.W.findIn K (.ref C) "__init__"=some (some (.ref f))
 fn:PySem.W.isFn K (.ref f)=true
 kp:PySem.W.keepIn K (.ref C)=true
theorem EF {pins:List (Addr×Obj)} {σ:St} {H:Hp} {s:Shared} {Q:VK} {us:List Value} {vs:List V} (M:Mk X.K C f) (F:bI X.prog X.w X.K X.mg X.base CX k f fd ps sp) (hr:fu (k+1) X.A) (hb:Binds X.K fd ps ds) (hd:Vals dvs ds)
  (hx:Passes CX X E) (I:Inv X pins σ H s) (r:Vals vs us)
  (h: ∀x dx,H x=none->H dx=none->dx≠x->sp (.ref x::(vs++dvs)) (upd (upd H dx (.own x)) x (.ins C dx [])) (fun v H2=>v= .fB/\Q (.ref x) H2) E):
  wpAny (model X.prog X.w) X.A (call (.ref C) us) (EP X pins σ Q) X.xe s:=by
 have hq:=h (s.heap.objs.size+1) s.heap.objs.size (I.cj.fresh (Qcn _)) (I.cj.fresh (Tz _)) (Qan (Qci _))
 have I2:=Inv.made (C:=C) I
 have r2:Vals (V.ref (s.heap.objs.size+1)::(vs++dvs)) (Value.ref (s.heap.objs.size+1)::(us++ds)):= .cons rfl (r.append hd)
 have hl:(Value.ref (s.heap.objs.size+1)::us++ds).length=ps.length:=by
  have e:=r2.length
  rw[F.len _ _ _ _ hq]at e
  exact e.symm
 refine wpAny_call (EE (f:=f) I.o5 M.makes M.init (beq_iff_eq.mp M.fn) (codeAny_mono (F.run _ X.stack _ _ ⟨Value.ref (s.heap.objs.size+1)::us,[]⟩ (Value.ref (s.heap.objs.size+1)::(us++ds)) _ _ E (hr.make C us [])
  (I2.Rc.make C us []) (hb _ (Value.ref (s.heap.objs.size+1)::us) I2.o5 hl) r2 hq) fun r s' Rh=>?_))
 cases r with
 | error e=>exact hx pins σ _ _ e s' I2 Rh
 | ok fl=>
  cases fl with
  | ret u=>
   obtain ⟨v,H',I3,rv,ev,q3⟩:=I2.after Rh
   subst ev
   exact ⟨rv,⟨V.ref (s.heap.objs.size+1),H',I3,rfl,q3⟩⟩
  | next=>exact False.elim Rh
  | brk=>exact False.elim Rh
  | cont=>exact False.elim Rh
theorem o6 (M:Mk X.K C f) (F:bI X.prog X.w X.K X.mg X.base CX k f fd ps sp) (hr:fu (k+1) X.A) (hg:Gl X x) (hm:X.mg x=some (.ref C)) (hb:Binds X.K fd ps ds) (hd:Vals dvs ds) (hx:Passes CX X E)
  (ha:PA X (e::es) t) (Mc:(x==("__debug__":Str))=false:=by decide) (he:starEach (e::es) X.env=(false,eval e X.env)::starEach es X.env:=by rfl) (j8:(backTo pos (starEach es X.env)).any (·.1)=false:=by rfl):
  PE X (.Call (.Name x p) (e::es) [] pos) (Rg C sp dvs E t):=by
 intro pins s σ H Q I h
 refine wpAny_Call_Name_kw (uI I hg hm ?_ Mc)
 refine Qd6 (h₀:=X.base) I.ok.mod.Om M.kp (cD (ha pos pins s σ H _ I h) fun us s1 ⟨vs,H1,I1,r,q⟩=>⟨I1.o5,?_⟩) he j8
 exact EF M F hr hb hd hx I1 r q
end
structure aH (N P:List Str) (sc:Scope):Prop where
 kind:sc.kind= .function
 co:sc.isCoroutine=false
 gen:sc.isGenerator=false
 nd:N.Nodup
 pre:N.take P.length=P
 par: ∀x∈P,sc.names.lookup x=some .local\/sc.names.lookup x=some .cell
 Md: ∀y∈sc.names,y.2≠ .free
theorem sJ {kindOf:Str->Option NameKind} {x:Str}: ∀{binds:List (Str×Value)} {m:Str->Option Value},(∀v,(x,v)∉binds)->bindL kindOf binds m x=m x
 | [],_,_=>rfl
 |(n,v)::r,m,h=>by
  unfold bindL
  rw[sJ fun w hw=>h w (Xn _ hw)]
  split
  ·have:x≠n:=by rintro rfl;exact h v Zu
   simp[this]
  ·rfl
theorem sL {kindOf:Str->Option NameKind} {x:Str}: ∀{binds:List (Str×Value)} {m:Str->Option Value},(∀v,(x,v)∉binds)->bindC kindOf binds m x=m x
 | [],_,_=>rfl
 |(n,v)::r,m,h=>by
  unfold bindC
  rw[sL fun w hw=>h w (Xn _ hw)]
  split
  ·rfl
  ·have:x≠n:=by rintro rfl;exact h v Zu
   simp[this]
theorem sM {kindOf:Str->Option NameKind} {x:Str} {v:Value}: ∀{P:List Str} {vs:List Value} {i:Nat} {m:Str->Option Value},P.Nodup->P[i]? =some x->vs[i]? =some v->kindOf x=some .local->
  bindL kindOf (P.zip vs) m x=some v
 | [],_,_,_,_,h,_,_=>by simp at h
 | _::_,[],_,_,_,_,h,_=>by simp at h
 | p::P,w::vs,0,m,nd,h1,h2,hk=>by
  simp at h1 h2;subst h1;subst h2
  show bindL kindOf ((p,w)::P.zip vs) m p=_
  unfold bindL
  rw[sJ fun v hv=>(Qaz.mp nd).1 (Qfu hv).1,if_pos hk]
  simp
 | p::P,w::vs,i+1,m,nd,h1,h2,hk=>by
  show bindL kindOf ((p,w)::P.zip vs) m x=_
  unfold bindL
  exact sM (i:=i) (Qaz.mp nd).2 (by simpa using h1) (by simpa using h2) hk
theorem sN {kindOf:Str->Option NameKind} {x:Str} {v:Value}: ∀{P:List Str} {vs:List Value} {i:Nat} {m:Str->Option Value},P.Nodup->P[i]? =some x->vs[i]? =some v->kindOf x≠some .local->
  bindC kindOf (P.zip vs) m x=some v
 | [],_,_,_,_,h,_,_=>by simp at h
 | _::_,[],_,_,_,_,h,_=>by simp at h
 | p::P,w::vs,0,m,nd,h1,h2,hk=>by
  simp at h1 h2;subst h1;subst h2
  show bindC kindOf ((p,w)::P.zip vs) m p=_
  unfold bindC
  rw[sL fun v hv=>(Qaz.mp nd).1 (Qfu hv).1,if_neg hk]
  simp
 | p::P,w::vs,i+1,m,nd,h1,h2,hk=>by
  show bindC kindOf ((p,w)::P.zip vs) m x=_
  unfold bindC
  exact sN (i:=i) (Qaz.mp nd).2 (by simpa using h1) (by simpa using h2) hk
noncomputable def start (N:List Str) (vs:List V):St:=vs.map some++List.replicate (N.length - vs.length) none
noncomputable def CF (CX:CD) (P:Program) (w:World) (K:PySem.W.Frag) (mg:Str->Option Value) (base:Heap) (N:List Str) (qual:Str) (scope:Scope) (f:Addr) (cd:Value) (A:Around) (outer:List Env) (s:Shared) (H:Hp) (E:XK):Cx where
 prog:=P
 w:=w
 K:=K
 mg:=mg
 base:=base
 A:=A.deeper (envOfC qual scope s.heap.objs.size f cd)
 N:=N
 s₀:=s
 H₀:=H
 env:=envOfC qual scope s.heap.objs.size f cd
 outer:=outer
 stack:=envOfC qual scope s.heap.objs.size f cd::outer
 ex:=[]
 calm:=true
 fn:=fun _=>true
 pn:=[]
 xe:=fun e s'=>wpAny (model P w) (A.deeper (envOfC qual scope s.heap.objs.size f cd)) (leaving (envOfC qual scope s.heap.objs.size f cd) e) (fun _ Me=>CX outer H s E e Me) (fun e' Me=>CX outer H s E e' Me) s'
theorem xf {sc:Scope} {n:Nat} {x:Str} (h:sc.names.lookup x=some .cell): ∃c,(cellsFrom n sc.names []).lookup x=some c:=by
 have q:=PySem.W.cellsFrom_some sc.names n [] (.inl h)
 exact Option.isSome_iff_exists.mp q
theorem CG {CX:CD} {P:Program} {w:World} {K:PySem.W.Frag} {mg:Str->Option Value} {base:Heap} {N ps:List Str} {qual:Str} {scope:Scope} {f:Addr} {cd:Value} {A:Around} {outer:List Env} {s s1:Shared} {H:Hp} {E:XK} {us:List Value} {vs:List V}
  (S:aH N ps scope) (hd:A.handled=none) (e0:zq P w K mg base A outer s H) (hl:vs.length=ps.length) (r:Vals vs us)
  (x:InCallC s s.heap.objs.size (bindL (envOfC qual scope s.heap.objs.size f cd).kindOf (ps.zip us) fun _=>none) (cellsFrom (s.heap.objs.size+1) scope.names []) (bindC (envOfC qual scope s.heap.objs.size f cd).kindOf (ps.zip us) fun _=>none) s1):
  Inv (CF CX P w K mg base N qual scope f cd A outer s H E) [] (start N vs) H s1:=by
 have j8:ps.length<=N.length:=by have:=congrArg List.length S.pre;rw[Qae]at this;omega
 obtain ⟨h1,tk,rfl,hk⟩:=x.done
 have Ri: ∀b:Addr,b∉(CF CX P w K mg base N qual scope f cd A outer s H E).ex:=fun b z=>absurd (show b∈([]:List Addr) from z) (by simp)
 refine ⟨⟨e0.mod,S.kind,rfl,rfl,Tz _,fun y z c h1 h2=>?_,fun y hy=>?_,fun y c _ h=>?_,fun _=>hd,Around.frames_deeper e0.frames, .inr ⟨rfl,rfl⟩,fun b z=>absurd z (Ri b),e0.bs,e0.Iy,fun b _ _=>Ri b,fun b z=>absurd z (Ri b),e0.oB,e0.LP⟩,
  rfl,e0.bare,Un.kept hk,⟨_,x.toInCall.ns,fun i y v h1 h2 h3=>?_⟩,fun y c h=>⟨_,x.cell y c h⟩,e0.cj.fresh (Tz _),fun y c h=>?_,fun p hp=>absurd (show p∈([]:List (Addr×Obj)) from hp) (by simp),e0.cj.kept hk,?_⟩
 ·exact name_of_addr x.apart (Qdd h1) (Qdd h2)
 ·have hy:scope.names.lookup y=some .cell\/scope.names.lookup y=some .free:=hy
  rcases hy with hy | hy
  ·exact xf hy
  ·exact absurd rfl (S.Md _ (Qdd hy))
 ·exact Qa5 (x.above y c (Qdd h))
 ·have hi:i<vs.length:=by
   unfold start at h2
   by_cases hi:i<vs.length
   ·exact hi
   ·rw[Qcf (by simpa using hi)]at h2
    rw[List.getElem?_replicate]at h2
    split at h2<;>cases h2
  have ha:vs[i]? =some v:=by
   unfold start at h2
   rw[Qbr (by simpa using hi),Qak]at h2
   cases e:vs[i]? with
   | none=>rw[e]at h2;cases h2
   | some a=>rw[e]at h2;cases h2;rfl
  obtain ⟨u,hu,rv⟩:=r.get ha
  have hp:ps[i]? =some y:=by
   rw[<-S.pre,List.getElem?_take_of_lt (by omega)];exact h1
  have Xf:ps.Nodup:=by rw[<-S.pre];exact S.nd.sublist (Qff _ _)
  refine ⟨u,rv,?_⟩
  rcases S.par y (Qah hp) with k | k
  ·exact .inl ⟨k,sM Xf hp hu k⟩
  ·obtain ⟨c,e⟩:=xf (n:=s.heap.objs.size+1) k
   refine .inr ⟨.inl k,c,e,?_⟩
   have q:=x.cell y c e
   rw[sN Xf hp hu (by show scope.names.lookup y≠_;rw[k];decide)]at q
   exact q
 ·exact e0.cj.fresh (Qa5 (x.above y c (Qdd h)))
 ·unfold start
  show _=N.length
  rw[Oy,Xl,List.length_replicate]
  omega
theorem Rj {CX:CD} {P:Program} {w:World} {K:PySem.W.Frag} {mg:Str->Option Value} {base:Heap} {k:Nat} {f:Addr} {name qual:Str} {params:Arguments} {body:List Stmt} {scope:Scope} {dV kV doc pm cC ct oc:Value} {an od:Option Addr}
  {HW:Array (Option Value)} {N ps:List Str} {sp:Sp} (lk:K.lookup f=some ⟨oc,od, .func (PySem.W.fnOf name qual params body scope dV kV doc pm an cC ct),HW⟩) (oE:PySem.W.codeIn K cC qual=true) (S:aH N ps scope)
  (len: ∀vs H Q E,sp vs H Q E->vs.length=ps.length)
  (EG: ∀(A:Around) (outer:List Env) (s:Shared) (H:Hp) (vs:List V) (Q:VK) (E:XK),fu k (A.deeper (envOfC qual scope s.heap.objs.size f cC))->sp vs H Q E->
   ∃t,y9 (CF CX P w K mg base N qual scope f cC A outer s H E) body t/\t { nx:=fun _ H'=>Q .fB H',rt:=Q } (start N vs) H):
  bI P w K mg base CX (k+1) f (PySem.W.fnOf name qual params body scope dV kV doc pm an cC ct) ps sp:=by
 refine ⟨len,fun A outer s H args us vs Q E hr e0 hb r K4=>?_⟩
 have hl:=len _ _ _ _ K4
 have KX:K.In s.heap:=e0.mod.Om.keeps fun b o e=>(e0.bs b o e).1
 have lim:s.heap.NoLimit:=e0.mod.nolimit.keeps fun b o e=>(e0.bs b o e).1
 have i0: ∀y∈ps.zip us,scope.names.lookup y.1=some .local\/(scope.names.lookup y.1=some .cell/\((cellsFrom (s.heap.objs.size+1) scope.names []).lookup y.1).isSome=true):=fun ⟨n,v⟩ hy=>by
  rcases S.par n (Qfu hy).1 with q | q
  ·exact .inl q
  ·exact .inr ⟨q,PySem.W.cellsFrom_some _ _ _ (.inl q)⟩
 refine codeAny_call_function hr.depth (KX _ _ lk) rfl S.co S.gen rfl (PySem.W.codeRec_of KX oE) (hb _ _ _ _ ?_)
 refine wpAny_newFunctionEnv_cells S.kind i0 fun env he s1 x=>?_
 subst he
 refine ⟨lim.keeps x.toInCall.keep,codeAny_func ?_⟩
 obtain ⟨t,ht,hq⟩:=EG A outer s H vs Q E (hr.deeper _) K4
 have I:Inv (CF CX P w K mg base N qual scope f cC A outer s H E) [] (start N vs) H s1:=CG S hr.hd e0 hl r x
 refine wpAny_mono (ht [] s1 (start N vs) H _ I hq) (fun fl s' hs=>?_) fun e s' hs=>hs
 have fin: ∀{σ':St} {H':Hp} {v:V} {u:Value},Inv (CF CX P w K mg base N qual scope f cC A outer s H E) [] σ' H' s'->RelV v u->Q v H'->CE outer P w H s Q u s':=
  fun {σ' H' v u} J rv q=>⟨v,H',J.os,J.bare,J.base,J.cj,rv,q⟩
 cases fl with
 | ret u=>
  obtain ⟨v,σ',H',J,rv,q⟩:=hs
  exact fin J rv q
 | next=>
  obtain ⟨σ',H',J,q⟩:=hs
  exact fin (v:=V.fB) (u:=Value.none) J rfl q
 | brk=>
  obtain ⟨_,_,_,q⟩:=hs
  exact False.elim q
 | cont=>
  obtain ⟨_,_,_,q⟩:=hs
  exact False.elim q
section
variable {X:Cx} {x:Str} {p pos:Pos} {e:Expr} {es:List Expr} {t:TA} {id T:String} {r:List V->Hp->VK->Prop}
def Xg (r:List V->Hp->VK->Prop) (t:TA):TE:=fun σ H Q=>t σ H fun vs H1=>r vs H1 Q
theorem aB (hc:dG X (.builtin id) r) (hg:Gl X x) (hm:X.mg x=none) (hv:bootBuiltins x=some (.builtin id)) (ha:PA X (e::es) t) (hn:x≠"__name__":=by decide) (Mc:(x==("__debug__":Str))=false:=by decide)
  (he:starEach (e::es) X.env=(false,eval e X.env)::starEach es X.env:=by rfl) (j8:(backTo pos (starEach es X.env)).any (·.1)=false:=by rfl):PE X (.Call (.Name x p) (e::es) [] pos) (Xg r t):=by
 intro pins s σ H Q I h
 refine wpAny_Call_Name_kw (gg I hg hm hv ?_ hn Mc)
 exact PyProof.Rows.callWith_builtin1 (cD (ha pos pins s σ H _ I h) fun us s1 ⟨vs,H1,I1,r1,q1⟩=>hc pins s1 σ H1 vs us Q I1 r1 q1) he j8
theorem b7 (hc:dG X (.type T) r) (hg:Gl X x) (hm:X.mg x=none) (hv:bootBuiltins x=some (.type T)) (ha:PA X (e::es) t) (hn:x≠"__name__":=by decide) (Mc:(x==("__debug__":Str))=false:=by decide)
  (he:starEach (e::es) X.env=(false,eval e X.env)::starEach es X.env:=by rfl) (j8:(backTo pos (starEach es X.env)).any (·.1)=false:=by rfl):PE X (.Call (.Name x p) (e::es) [] pos) (Xg r t):=by
 intro pins s σ H Q I h
 refine wpAny_Call_Name_kw (gg I hg hm hv ?_ hn Mc)
 exact Qbe (cD (ha pos pins s σ H _ I h) fun us s1 ⟨vs,H1,I1,r1,q1⟩=>hc pins s1 σ H1 vs us Q I1 r1 q1) he j8
end
end L2
namespace HT
open PySem PyProof.Rows
section
variable {prog:Program} {w:World} {A:Around} {E:Value->Shared->Prop} {s:Shared}
noncomputable def jq (n d:Nat):Option Int->Nat
 | none=>d
 | some v=>if v<0 then (v+(n:Int)).toNat else min v.toNat n
theorem jr (n d:Nat):jq n d none=d:=rfl
theorem gs (n d k:Nat):jq n d (some (k:Int))=min k n:=by
 show (if (k:Int)<0 then ((k:Int)+(n:Int)).toNat else min (k:Int).toNat n)=min k n
 rw[if_neg (by omega),Xo]
theorem Mf (n d:Nat) (hd:d<=n) (o:Option Int):jq n d o<=n:=by
 cases o with
 | none=>exact hd
 | some v=>
  show (if v<0 then (v+(n:Int)).toNat else min v.toNat n)<=n
  by_cases hv:v<0
  ·rw[if_pos hv];omega
  ·rw[if_neg hv];exact Qeg _ _
end
end HT
namespace L2
open PySem PySem.Spec PyProof.Rows
abbrev TO:=St->Hp->(Option Int->Hp->Prop)->Prop
def PO (X:Cx) (e:Option Expr) (t:TO):Prop:=
 ∀(pins:List (Addr×Obj)) (s:Shared) (σ:St) (H:Hp) (Q:Option Int->Hp->Prop),Inv X pins σ H s->t σ H Q->
  wpAny (model X.prog X.w) X.A (evalPart e X.env) (fun u s'=> ∃o H',Inv X pins σ H' s'/\IsPart u o/\Q o H') X.xe s
def IK:TO:=fun _ H Q=>Q none H
def Rk (t:TE):TO:=fun σ H Q=>t σ H fun x H1=> ∃i,x= .int i/\Q (some i) H1
theorem intsAre_of {ns:List Int}: ∀{us:List Value},Vals (ns.map V.int) us->IntsAre us ns:=by
 induction ns with
 | nil=>intro us r;rw[List.map_nil]at r;cases r;exact .nil
 | cons n ns ih=>
  intro us r
  rw[Qat]at r
  cases r with
  | cons r1 r2=>
   obtain ⟨t,e⟩:=r1
   subst e
   exact .cons n t (ih r2)
section
variable {X:Cx} {e:Expr} {te:TE} {lo hi:Option Expr} {tl th:TO} {pos p2:Pos}
theorem bS:PO X none IK:=by
 intro pins s σ H Q I h
 rw[evalPart_none]
 exact wpAny_pure ⟨none,H,I, .none,h⟩
theorem bp (h:PE X e te):PO X (some e) (Rk te):=by
 intro pins s σ H Q I hw
 rw[evalPart_some]
 refine cD (h pins s σ H _ I hw) fun u s1 ⟨x,H1,I1,r1,q1⟩=>?_
 obtain ⟨i,rfl,q⟩:=q1
 obtain ⟨t,rfl⟩:=r1
 exact ⟨some i,H1,I1, .int i t,q⟩
def Tv (X:Cx) (r:V->Option Int->Option Int->Hp->VK->Prop):Prop:=
 ∀(pins:List (Addr×Obj)) (s:Shared) (σ:St) (H:Hp) (x:V) (v vl vu:Value) (lo hi:Option Int) (sl:Addr) (Q:VK),Inv X pins σ H s->RelV x v->s.heap.IsSliceOf sl vl vu .none->IsPart vl lo->IsPart vu hi->r x lo hi H Q->
  ∃T id,typeLookup (.type T) "__getitem__"=pure (some (.builtin id))/\s.TypeIs v T/\wpAny (model X.prog X.w) X.A (getItem v (.ref sl)) (EP X pins σ Q) X.xe s
def Zo (r:V->Option Int->Option Int->Hp->VK->Prop) (te:TE) (tl th:TO):TE:=fun σ H Q=>te σ H fun x H1=>tl σ H1 fun l H2=>th σ H2 fun u H3=>r x l u H3 Q
theorem bo {r:V->Option Int->Option Int->Hp->VK->Prop} (hr:Tv X r) (he:PE X e te) (hl:PO X lo tl) (hu:PO X hi th):PE X (.Subscript e (.Slice lo hi none p2) pos) (Zo r te tl th):=by
 intro pins s σ H Q I h
 refine Subscript_ (cD (he pins s σ H _ I h) fun v s1 ⟨x,H1,I1,r1,q1⟩=>?_)
 refine wpAny_Slice (cD (hl pins s1 σ H1 _ I1 q1) fun vl s2 ⟨l,H2,I2,pl,q2⟩=>cD (hu pins s2 σ H2 _ I2 q2) fun vu s3 ⟨u,H3,I3,pu,q3⟩=>?_)
 rw[evalPart_none]
 refine wpAny_pure ?_
 have I4:Inv X pins σ H3 { s3 with heap:=s3.heap.push { cls:= .type "slice",data:= .fields #[vl,vu, .none] } }:=I3.kept (t':=s3.toks) fun b ob q=>Xm _ q
 obtain ⟨T,id,hT,ht,hg⟩:=hr pins { s3 with heap:=s3.heap.push { cls:= .type "slice",data:= .fields #[vl,vu, .none] } } σ H3 x v vl vu l u s3.heap.objs.size Q I4 r1 (Heap.IsSliceOf.new ..) pl pu q3
 show wpAny (model X.prog X.w) X.A (subscriptTail e (.Slice lo hi none p2) v (.ref s3.heap.objs.size)) (EP X pins σ Q) X.xe { s3 with heap:=s3.heap.push { cls:= .type "slice",data:= .fields #[vl,vu, .none] } }
 exact tail_any (ops:=[.ref s3.heap.objs.size,v]) ht hT hg (by with_unfolding_all rfl)
noncomputable def xg (xs:List V) (lo hi:Option Int):List V:=(xs.drop (HT.jq xs.length 0 lo)).take (HT.jq xs.length xs.length hi - HT.jq xs.length 0 lo)
theorem xh (xs:List V) (lo hi:Option Int):(xg xs lo hi).length<=xs.length:=by
 unfold xg
 rw[Qae,Qa2]
 omega
end
noncomputable def HX (n:Nat) (i:Int):Option Nat:=if 0<=i then (if i<n then some i.toNat else none) else if -(n:Int)<=i then some (i+n).toNat else none
noncomputable def jc {α:Type} (xs:List α) (i:Int):Option α:=(HX xs.length i).bind fun j=>xs[j]?
theorem A7 {n:Nat} {i:Int} {j:Nat} (h:HX n i=some j):seqIndex? i n=some j/\j<n/\ -(n:Int)<=i/\i<n:=by
 unfold HX at h
 by_cases h0:0<=i
 ·rw[if_pos h0]at h
  by_cases h1:i<n
  ·rw[if_pos h1]at h
   have e:i.toNat=j:=Qaf h
   exact ⟨by rw[seqIndex_of h0 h1,e],by omega,by omega,h1⟩
  ·rw[if_neg h1]at h;cases h
 ·rw[if_neg h0]at h
  by_cases h1: -(n:Int)<=i
  ·rw[if_pos h1]at h
   have e:(i+n).toNat=j:=Qaf h
   exact ⟨by rw[seqIndex_neg (by omega) h1,e],by omega,h1,by omega⟩
  ·rw[if_neg h1]at h;cases h
theorem uM {α:Type} {xs:List α} {i:Int} {v:α} (h:jc xs i=some v): ∃j,seqIndex? i xs.length=some j/\xs[j]? =some v/\j<xs.length/\ -(xs.length:Int)<=i/\i<xs.length:=by
 unfold jc at h
 cases e:HX xs.length i with
 | none=>rw[e]at h;cases h
 | some j=>
  rw[e]at h
  obtain ⟨h1,h2,h3,h4⟩:=A7 e
  exact ⟨j,h1,h,h2,h3,h4⟩
theorem bM {α:Type} {xs:List α} {j:Nat} {v:α} (h:xs[j]? =some v):jc xs (j:Int)=some v:=by
 have hj:j<xs.length:=(Mu.mp h).1
 have e:HX xs.length (j:Int)=some j:=by
  unfold HX
  rw[if_pos (by omega),if_pos (by omega)];simp
 unfold jc;rw[e];exact h
theorem lI {α:Type} (xs:List α) (v:α):jc (xs++[v]) (-1)=some v:=by
 have hl:(xs++[v]).length=xs.length+1:=by simp
 have e:HX (xs++[v]).length (-1)=some xs.length:=by
  unfold HX
  rw[hl,if_neg (by decide),if_pos (by omega)]
  congr 1
  omega
 unfold jc
 rw[e]
 show (xs++[v])[xs.length]? =some v
 simp
def IL (b:Expr):Prop:= ∀o i,subscripted b false o i=operate [o,i] (getItem o i)
def Mg (X:Cx) (r:R2):Prop:=
 ∀(value slice:Expr) (pins:List (Addr×Obj)) (s:Shared) (σ:St) (H:Hp) (x y:V) (v u:Value) (Q:VK),Inv X pins σ H s->RelV x v->RelV y u->r x y H Q->
  subscripted slice false v u=operate [v,u] (getItem v u)->wpAny (model X.prog X.w) X.A (subscriptTail value slice v u) (EP X pins σ Q) X.xe s
def A8 (X:Cx) (id:String) (r:V->List V->Hp->VK->Prop):Prop:=
 ∀(pins:List (Addr×Obj)) (s:Shared) (σ:St) (H:Hp) (x:V) (xs:List V) (v:Value) (us:List Value) (Q:VK),Inv X pins σ H s->RelV x v->Vals xs us->r x xs H Q->
  wpAny (model X.prog X.w) X.A (call (.builtin id) (v::us)) (EP X pins σ Q) X.xe s
section
variable {X:Cx} {a b:Expr} {ta tb:TE} {pos:Pos}
theorem aQ {r:R2} (hr:Mg X r) (ha:PE X a ta) (hb:PE X b tb) (hs:IL b):PE X (.Subscript a b pos) (Tt r ta tb):=by
 intro pins s σ H Q I h
 exact Subscript_ (L9 ha hb I h fun v u s2 x y H2 I2 rx ry q=>hr a b pins s2 σ H2 x y v u Q I2 rx ry q (hs _ _))
def Rl (K:PySem.W.Frag):R2:=fun x y H Q=> ∃p xs i v,x= .ref p/\y= .int i/\bA K H p xs/\jc xs i=some v/\Q v H
def Rm (K:PySem.W.Frag):R2:=fun x y H Q=> ∃p xs i v,x= .ref p/\y= .int i/\cO K H p xs/\jc xs i=some v/\Q v H
def Vn:R2:=fun x y H Q=> ∃z i c,x= .str z/\y= .int i/\z.length<=sizeLine/\jc z.cps.toList i=some c/\Q (.str ⟨#[c]⟩) H
theorem IM:Mg X (Rl X.K):=by
 intro value slice pins s σ H x y v u Q I rx ry h hs
 obtain ⟨p,xs,i,z,rfl,rfl,hq,he,q⟩:=h
 cases rx
 obtain ⟨t,rfl⟩:=ry
 obtain ⟨aO,r,pl,hz⟩:=I.list hq
 obtain ⟨j,h1,h2,h3,h4,h5⟩:=uM he
 obtain ⟨w,ew,rL⟩:=r.get h2
 have hl:=r.length
 have hn:=gE
 have fin:EP X pins σ Q w s:=⟨z,H,I,rL,q⟩
 by_cases h0:0<=i
 ·have hj:i.toNat=j:=by
   rw[seqIndex_of h0 h5]at h1
   exact Qaf h1
  exact item_listR pl.isList h0 (by omega) (by rw[hj];simpa using ew) fin hs
 ·have hj:(i+(aO.toArray.size:Int)).toNat=j:=by
   rw[seqIndex_neg (by omega) h4]at h1
   rw[Qac, <-hl]
   exact Qaf h1
  exact subscriptTail_builtinR (x:=w) pl.isList.typeIs slot_list_getitem.lookup
   (wpAny_getItem_list_neg (Q:=fun r s'=>r=w/\EP X pins σ Q r s') pl.isList (by omega) (by rw[Qac]<;>omega) (by omega) (by rw[hj];simpa using ew) ⟨rfl,fin⟩) hs
theorem Mh:Mg X (Rm X.K):=by
 intro value slice pins s σ H x y v u Q I rx ry h hs
 obtain ⟨p,xs,i,z,rfl,rfl,hq,he,q⟩:=h
 cases rx
 obtain ⟨t,rfl⟩:=ry
 obtain ⟨aO,r,pl,hz⟩:=I.tuple hq
 obtain ⟨j,h1,h2,h3,h4,h5⟩:=uM he
 obtain ⟨w,ew,rL⟩:=r.get h2
 have hl:=r.length
 have hn:=gE
 have fin:EP X pins σ Q w s:=⟨z,H,I,rL,q⟩
 exact subscriptTail_builtinR (x:=w) pl.typeIs slot_tuple_getitem.lookup
  (getItem_tuple (j:=j) (Q:=fun r s'=>r=w/\EP X pins σ Q r s') pl (by omega) (by omega) (by rw[Qac, <-hl];exact h1) (by simpa using ew) ⟨rfl,fin⟩) hs
theorem Mi:Mg X Vn:=by
 intro value slice pins s σ H x y v u Q I rx ry h hs
 obtain ⟨z,i,c,rfl,rfl,hz,he,q⟩:=h
 obtain ⟨t,rfl⟩:=rx
 obtain ⟨t',rfl⟩:=ry
 obtain ⟨j,h1,h2,h3,h4,h5⟩:=uM he
 have hl:z.cps.toList.length=z.length:=by simp[Str.length]
 rw[hl]at h1 h4 h5
 have hn:=gE
 exact tail_any (typeIs_str s z t) slot_str_getitem.lookup (getItem_str (c:=c) (by
  have e1:decide (i< -(2 ^ 63:Int))=false:=decide_eq_false (by omega)
  have e2:decide (i ≥ 2 ^ 63)=false:=decide_eq_false (by omega)
  rw[e1,e2,Qdy]) (by rw[h1];simpa using h2) ⟨.str ⟨#[c]⟩,H,I.tok _,⟨_,rfl⟩,q⟩) hs
theorem zt (aO:List Value) (n j:Nat) (u:Value):Obj.mapSeq (·.setIfInBounds j u) { cls:= .type "list",data:= .seq aO.toArray n }={ cls:= .type "list",data:= .seq (aO.set j u).toArray n }:=by
 simp[Obj.mapSeq]
theorem Inv.lst {pins:List (Addr×Obj)} {σ:St} {H:Hp} {s:Shared} {p:Addr} {xs:List V} (I:Inv X pins σ H s) (h:H p=some (.lst xs)):
  ∃(aO:List Value) (n:Nat),Vals xs aO/\s.heap.get? p=some { cls:= .type "list",data:= .seq aO.toArray n }/\xs.length<=sizeLine:=by
 obtain ⟨z,aO,n,r,e⟩:=I.cj p _ h
 exact ⟨aO,n,r,e,z⟩
theorem Inv.Mj {pins:List (Addr×Obj)} {σ:St} {H:Hp} {s:Shared} {p:Addr} {xs ys:List V} {aO its':List Value} {n n':Nat} {f:Obj->Obj} (I:Inv X pins σ H s) (h:H p=some (.lst xs))
  (ho:s.heap.get? p=some { cls:= .type "list",data:= .seq aO.toArray n }) (hf:f { cls:= .type "list",data:= .seq aO.toArray n }={ cls:= .type "list",data:= .seq its'.toArray n' }) (r:Vals ys its') (hz:ys.length<=sizeLine) (t:Nat):
  Inv X pins σ (upd H p (.lst ys)) { s with heap:=s.heap.update p f,toks:=t }:=by
 have e:(s.heap.update p f).get? p=some { cls:= .type "list",data:= .seq its'.toArray n' }:=by
  rw[Qb7 f ho (by rw[hf]<;>rfl),hf]
 refine I.write (x:=p) (e:=p) (by rw[h];trivial) (.inl rfl) (fun b u hb q=>(Qbi _ _ (Ne.symm hb)).trans q) ⟨_,e⟩ ?_
 exact ⟨hz,its',n',r,e⟩
def Rn:V->V->V->Hp->(Hp->Prop)->Prop:=fun o i v H Q=> ∃p xs k j,o= .ref p/\i= .int k/\H p=some (.lst xs)/\HX xs.length k=some j/\Q (upd H p (.lst (xs.set j v)))
theorem set_list:QV X Rn:=by
 intro pins s σ H o i v ov iv u Q I ro ri rv h
 obtain ⟨p,xs,k,j,rfl,rfl,hp,hj,q⟩:=h
 cases ro
 obtain ⟨t,rfl⟩:=ri
 obtain ⟨aO,n,r,ho,hz⟩:=I.lst hp
 obtain ⟨h1,h2,h3,h4⟩:=A7 hj
 have hl:=r.length
 have hn:=gE
 have I':Inv X pins σ (upd H p (.lst (xs.set j v))) { s with heap:=s.heap.update p (Obj.mapSeq (·.setIfInBounds j u)) }:=
  I.Mj hp ho (zt aO n j u) (r.set rv j) (by rw[List.length_set];exact hz) s.toks
 by_cases h0:0<=k
 ·have hk:k.toNat=j:=by
   rw[seqIndex_of h0 h4]at h1
   exact Qaf h1
  exact PySem.W.ki_setAt ho h0 (by omega) (by rw[Qac, <-hl];exact h4) (by rw[hk];exact ⟨_,I',q⟩)
 ·have hk:(k+(aO.toArray.size:Int)).toNat=j:=by
   rw[seqIndex_neg (by omega) h3]at h1
   rw[Qac, <-hl]
   exact Qaf h1
  exact PySem.W.ki_setBack ho (by omega) (by rw[Qac, <-hl];exact h3) (by omega) (by rw[hk];exact ⟨_,I',q⟩)
theorem uN (lo hi:Option Int) (n:Nat):(sliceBounds lo hi none n).1=((HT.jq n 0 lo:Nat):Int)/\(sliceBounds lo hi none n).2.1=((HT.jq n n hi:Nat):Int)/\(sliceBounds lo hi none n).2.2=1:=by
 refine ⟨?_,?_,rfl⟩
 ·cases lo with
  | none=>simp[sliceBounds,HT.jq]
  | some i=>
   simp only[sliceBounds,HT.jq,Option.getD_none,show (1:Int)>0 by decide,if_true]
   by_cases h:i<0
   ·simp only[h,if_true]<;>omega
   ·simp only[h,if_false]<;>omega
 ·cases hi with
  | none=>simp[sliceBounds,HT.jq]
  | some i=>
   simp only[sliceBounds,HT.jq,Option.getD_none,show (1:Int)>0 by decide,if_true]
   by_cases h:i<0
   ·simp only[h,if_true]<;>omega
   ·simp only[h,if_false]<;>omega
theorem rM (aO:List Value) (lo hi:Option Int):slicePick aO.toArray lo hi none=((aO.drop (HT.jq aO.length 0 lo)).take (HT.jq aO.length aO.length hi - HT.jq aO.length 0 lo)).toArray:=by
 obtain ⟨h1,h2,h3⟩:=uN lo hi aO.toArray.size
 unfold slicePick
 rw[h1,h2,h3]
 simp only[sliceRange_one,pick_run,Qac]<;>rfl
def Ro (K:PySem.W.Frag):V->Option Int->Option Int->Hp->VK->Prop:=fun x lo hi H Q=> ∃a xs,x= .ref a/\bA K H a xs/\ ∀p,H p=none->Q (.ref p) (upd H p (.lst (xg xs lo hi)))
theorem IQ:Tv X (Ro X.K):=by
 intro pins s σ H x v vl vu lo hi sl Q I rx hs pl pu h
 obtain ⟨a,xs,rfl,hx,q⟩:=h
 cases rx
 obtain ⟨aO,r,ht,hz⟩:=I.list hx
 have hlen:=r.length
 refine ⟨"list",_,slot_list_getitem.lookup,ht.isList.typeIs,?_⟩
 refine wpAny_getItem_list_slice ht.isList hs pl pu .none (by simp) ?_ (by rw[Qac]<;>omega)
 rw[rM, <-hlen]
 refine ⟨.ref s.heap.objs.size,_,I.laid (t':=s.toks) (o:= .lst (xg xs lo hi)) (fun b ob q=>Xm _ q) (Tz _) ?_,rfl,q _ (I.cj.fresh (Tz _))⟩
 exact ⟨Qao (xh xs lo hi) hz,_,0,(r.drop (HT.jq xs.length 0 lo)).take (HT.jq xs.length xs.length hi - HT.jq xs.length 0 lo),Qam _ rfl⟩
noncomputable def i3:V->Bool
 | .fB=>true
 | .bl _=>true
 | .int _=>true
 | .str _=>true
 | _=>false
noncomputable def A9:V->V->Bool
 | .fB, .fB=>true
 | .bl a, .bl b=>a==b
 | .bl a, .int b=>(if a then 1 else 0)==b
 | .int a, .bl b=>a==(if b then 1 else 0)
 | .int a, .int b=>a==b
 | .str a, .str b=>a==b
 | _,_=>false
theorem Ml {A:Around} {s:Shared} {y x:V} {u v:Value} (ry:RelV y u) (rx:RelV x v) (fy:i3 y=true) (fx:i3 x=true):SeqAt.EqAt A s u v (A9 y x):=by
 cases y with
 | fB=>
  cases ry
  cases x with
  | fB=>cases rx;exact SeqAt.EqAt.same _
  | bl b=>cases rx;exact SeqAt.EqAt.none_bool b
  | int b=>obtain ⟨t,rfl⟩:=rx;exact SeqAt.EqAt.none_int b t
  | str b=>obtain ⟨t,rfl⟩:=rx;exact SeqAt.EqAt.none_str b t
  | _=>exact absurd (show false=true from fx) Qaq
 | bl a=>
  cases ry
  cases x with
  | fB=>cases rx;exact SeqAt.EqAt.bool_none a
  | bl b=>cases rx;exact SeqAt.EqAt.bool_bool a b
  | int b=>obtain ⟨t,rfl⟩:=rx;exact SeqAt.EqAt.bool_int a b t
  | str b=>obtain ⟨t,rfl⟩:=rx;exact SeqAt.EqAt.bool_str a b t
  | _=>exact absurd (show false=true from fx) Qaq
 | int a=>
  obtain ⟨t',rfl⟩:=ry
  cases x with
  | fB=>cases rx;exact SeqAt.EqAt.int_none a t'
  | bl b=>cases rx;exact SeqAt.EqAt.int_bool a t' b
  | int b=>obtain ⟨t,rfl⟩:=rx;exact SeqAt.EqAt.int_int a t' b t
  | str b=>obtain ⟨t,rfl⟩:=rx;exact SeqAt.EqAt.int_str a t' b t
  | _=>exact absurd (show false=true from fx) Qaq
 | str a=>
  obtain ⟨t',rfl⟩:=ry
  cases x with
  | fB=>cases rx;exact SeqAt.EqAt.str_none a t'
  | bl b=>cases rx;exact SeqAt.EqAt.str_bool a t' b
  | int b=>obtain ⟨t,rfl⟩:=rx;exact SeqAt.EqAt.str_int a t' b t
  | str b=>obtain ⟨t,rfl⟩:=rx;exact SeqAt.EqAt.str_str a t' b t
  | _=>exact absurd (show false=true from fx) Qaq
 | _=>exact absurd (show false=true from fy) Qaq
noncomputable def xi (x:V) (u:Value):Bool:=match u with
 | .none=>A9 .fB x
 | .bool b=>A9 (.bl b) x
 | .int i _=>A9 (.int i) x
 | .str z _=>A9 (.str z) x
 | _=>false
theorem zu {x y:V} {u:Value} (r:RelV y u) (f:i3 y=true):xi x u=A9 y x:=by
 cases y with
 | fB=>cases r;rfl
 | bl b=>cases r;rfl
 | int i=>obtain ⟨t,rfl⟩:=r;rfl
 | str z=>obtain ⟨t,rfl⟩:=r;rfl
 | _=>exact absurd (show false=true from f) Qaq
theorem lJ {x:V}: ∀{xs:List V} {us:List Value},Vals xs us->xs.all i3=true->us.any (xi x)=xs.any fun y=>A9 y x
 | _,_, .nil,_=>rfl
 | y::xs,u::us, .cons r t,f=>by
  rw[List.all_cons,Qbq]at f
  rw[Qck,Qck,zu r f.1,lJ t f.2]
theorem ie {A:Around} {s:Shared} {x:V} {v:Value} (rx:RelV x v) (fx:i3 x=true): ∀{xs:List V} {us:List Value},Vals xs us->xs.all i3=true-> ∀u∈us,SeqAt.EqAt A s u v (xi x u)
 | _,_, .nil,_=>fun u hu=>by cases hu
 | y::xs,u::us, .cons r t,f=>fun u' hu=>by
  rw[List.all_cons,Qbq]at f
  rcases Zv.mp hu with rfl | hu
  ·rw[zu r f.1];exact Ml r rx f.1 fx
  ·exact ie rx fx t f.2 u' hu
noncomputable def sO (x:V) (xs:List V):Bool:=xs.any fun y=>A9 y x
def Tw (K:PySem.W.Frag) (neg:Bool):R2:=fun x y H Q=> ∃p xs,y= .ref p/\(bA K H p xs\/cO K H p xs)/\i3 x=true/\xs.all i3=true/\Q (.bl (if neg then !sO x xs else sO x xs)) H
theorem CH:iJ X (compareOp .In) (Tw X.K false):=by
 intro pins s σ H x y v u Q I rx ry h
 obtain ⟨p,xs,rfl,hq,fx,fs,q⟩:=h
 cases ry
 rcases hq with hq | hq
 ·obtain ⟨aO,r,pl,hz⟩:=I.list hq
  refine SeqAt.in_listAt (xi x) pl.isList (fun w hw=>ie rx fx r fs w (by simpa using hw)) ⟨.bl _,H,I,rfl,?_⟩
  rw[show aO.toArray.any (xi x)=aO.any (xi x) by simp,lJ r fs]
  exact q
 ·obtain ⟨aO,r,pl,hz⟩:=I.tuple hq
  refine SeqAt.in_tupleAt (xi x) pl (fun w hw=>ie rx fx r fs w (by simpa using hw)) ⟨.bl _,H,I,rfl,?_⟩
  rw[show aO.toArray.any (xi x)=aO.any (xi x) by simp,lJ r fs]
  exact q
theorem uO:iJ X (compareOp .NotIn) (Tw X.K true):=by
 intro pins s σ H x y v u Q I rx ry h
 obtain ⟨p,xs,rfl,hq,fx,fs,q⟩:=h
 cases ry
 rcases hq with hq | hq
 ·obtain ⟨aO,r,pl,hz⟩:=I.list hq
  refine SeqAt.notIn_listAt (xi x) pl.isList (fun w hw=>ie rx fx r fs w (by simpa using hw)) ⟨.bl _,H,I,rfl,?_⟩
  rw[show aO.toArray.any (xi x)=aO.any (xi x) by simp,lJ r fs]
  exact q
 ·obtain ⟨aO,r,pl,hz⟩:=I.tuple hq
  refine SeqAt.notIn_tupleAt (xi x) pl (fun w hw=>ie rx fx r fs w (by simpa using hw)) ⟨.bl _,H,I,rfl,?_⟩
  rw[show aO.toArray.any (xi x)=aO.any (xi x) by simp,lJ r fs]
  exact q
theorem uQ:dG X (.builtin "len") (fun xs H Q=> ∃p ys,xs=[.ref p]/\(bA X.K H p ys\/cO X.K H p ys)/\Q (.int ys.length) H):=by
 intro pins s σ H xs us Q I r h
 obtain ⟨p,ys,rfl,hq,q⟩:=h
 obtain ⟨u,rfl,rx⟩:=vals1 r
 cases rx
 have hn:=gE
 rcases hq with hq | hq
 ·obtain ⟨aO,r',pl,hz⟩:=I.list hq
  have hlen:=r'.length
  exact Calls.call_len_list pl.isList (by simp only[Qac]<;>omega) ⟨.int ys.length,H,I.tok _,⟨s.toks+1,by rw[Qac,hlen]⟩,q⟩
 ·obtain ⟨aO,r',pl,hz⟩:=I.tuple hq
  have hlen:=r'.length
  exact len_tuple pl (by simp only[Qac]<;>omega) ⟨.int ys.length,H,I.tok _,⟨s.toks+1,by rw[Qac,hlen]⟩,q⟩
theorem uR:dG X (.builtin "len") (fun xs H Q=> ∃z,xs=[.str z]/\z.length<=sizeLine/\Q (.int z.length) H):=by
 intro pins s σ H xs us Q I r h
 obtain ⟨z,rfl,hz,q⟩:=h
 obtain ⟨u,rfl,t,rfl⟩:=vals1 r
 have hn:=gE
 exact len_str (by omega) ⟨.int z.length,H,I.tok _,⟨_,rfl⟩,q⟩
theorem uS:dG X (.type "list") (fun xs H Q=> ∃p ys,xs=[.ref p]/\(bA X.K H p ys\/cO X.K H p ys)/\ ∀l,H l=none->Q (.ref l) (upd H l (.lst ys))):=by
 intro pins s σ H xs us Q I r h
 obtain ⟨p,ys,rfl,hq,q⟩:=h
 obtain ⟨u,rfl,rx⟩:=vals1 r
 cases rx
 have fin: ∀(aO:List Value),Vals ys aO->ys.length<=sizeLine-> ∀(h':Heap) (c':Nat),(∀b o',s.heap.get? b=some o'->h'.get? b=some o')->
   h'.get? s.heap.objs.size=some { cls:= .type "list",dict:=none,data:= .seq aO.toArray c',slots:= #[] }->EP X pins σ Q (.ref s.heap.objs.size) { s with heap:=h' }:=fun aO r' hz h' c' kp e=>
  ⟨.ref s.heap.objs.size,_,I.laid (t':=s.toks) kp (Tz _) (show cB X.prog X.w _ h' _ (.lst ys) from ⟨hz,aO,c',r',e⟩),rfl,q _ (I.cj.fresh (Tz _))⟩
 rcases hq with hq | hq
 ·obtain ⟨aO,r',pl,hz⟩:=I.list hq
  have hlen:=r'.length
  obtain ⟨o,ho,hc,n,hd⟩:=pl.isList
  exact call_list_seq p (.inl rfl) ho hc hd (fun h' c' kp e=>fin aO r' hz h' c' kp e) (by simp only[Qac]<;>omega)
 ·obtain ⟨aO,r',pl,hz⟩:=I.tuple hq
  have hlen:=r'.length
  obtain ⟨o,ho,hc,n,hd⟩:=pl
  exact call_list_seq p (.inr rfl) ho hc hd (fun h' c' kp e=>fin aO r' hz h' c' kp e) (by simp only[Qac]<;>omega)
theorem rN:dG X (.type "tuple") (fun xs H Q=> ∃p ys,xs=[.ref p]/\((bA X.K H p ys/\ ∀l,H l=none->Q (.ref l) (upd H l (.tup ys)))\/(cO X.K H p ys/\Q (.ref p) H))):=by
 intro pins s σ H xs us Q I r h
 obtain ⟨p,ys,rfl,h⟩:=h
 obtain ⟨u,rfl,rx⟩:=vals1 r
 cases rx
 rcases h with ⟨hq,q⟩ | ⟨hq,q⟩
 ·obtain ⟨aO,r',pl,hz⟩:=I.list hq
  have hlen:=r'.length
  refine call_tuple_list pl.isList (fun h' kp=>?_) (by simp only[Qac]<;>omega)
  have I1:Inv X pins σ H { s with heap:=h' }:=I.kept (t':=s.toks) kp
  have I2:Inv X pins σ (upd H h'.objs.size (.tup ys)) { s with heap:=h'.push { cls:= .type "tuple",data:= .seq aO.toArray } }:=
   I1.laid (t':=s.toks) (fun b o e=>Xm _ e) (Tz _) (show cB X.prog X.w _ _ _ (.tup ys) from ⟨hz,aO,r',IsTup.new _ _⟩)
  exact ⟨.ref h'.objs.size,_,I2,rfl,q _ (I1.cj.fresh (Tz _))⟩
 ·obtain ⟨aO,r',pl,hz⟩:=I.tuple hq
  exact call_tuple_same pl ⟨.ref p,H,I,rfl,q⟩
def Vo (K:PySem.W.Frag) (T:String) (x:V) (H:Hp):Prop:=match x with
 | .str _=>T="str"
 | .int _=>T="int"
 | .ref p=>(T="list"/\ ∃xs,bA K H p xs)\/(T="tuple"/\ ∃o,K.lookup p=some o/\o.cls= .type "tuple"/\o.dict=none)\/
   (T="dict"/\((∃aU,H p=some (.dK aU))\/ ∃aU,H p=some (.dT aU)))\/(T="set"/\ ∃S n,H p=some (.set S n))
 | _=>False
theorem EH {pins:List (Addr×Obj)} {σ:St} {H:Hp} {s:Shared} {T:String} {x:V} {v:Value} (I:Inv X pins σ H s) (r:RelV x v) (ty:Vo X.K T x H):
  s.TypeIs v T/\ ∀a,v= .ref a-> ∃ob,s.heap.get? a=some ob/\ob.dict=none:=by
 cases x with
 | str z=>
  obtain ⟨t,rfl⟩:=r
  cases (show T="str" from ty)
  exact ⟨typeIs_str s z t,fun _ e=>nomatch e⟩
 | int i=>
  obtain ⟨t,rfl⟩:=r
  cases (show T="int" from ty)
  exact ⟨typeIs_int s i t,fun _ e=>nomatch e⟩
 | ref p=>
  cases r
  rcases ty with ⟨rfl,xs,hq⟩ | ⟨rfl,o,hk,hc,hd⟩ | ⟨rfl,hk⟩ | ⟨rfl,S,n,hk⟩
  ·obtain ⟨aO,_,pl,_⟩:=I.list hq
   refine ⟨pl.isList.typeIs,fun a e=>?_⟩
   cases e
   obtain ⟨o,n,e,c,hd,_⟩:=pl
   exact ⟨o,e,hd⟩
  ·refine ⟨⟨o,I.o5 p o hk,hc⟩,fun a e=>?_⟩
   cases e
   exact ⟨o,I.o5 _ o hk,hd⟩
  ·have z: ∃o,s.heap.get? p=some o/\o.ExactDict:=by
    rcases hk with ⟨aU,hk⟩ | ⟨aU,hk⟩
    ·obtain ⟨_,_,_,_,o,_,_,e,ex,_⟩:=I.cj p _ hk
     exact ⟨o,e,ex⟩
    ·obtain ⟨_,_,_,_,o,_,_,e,ex,_⟩:=I.cj p _ hk
     exact ⟨o,e,ex⟩
   obtain ⟨o,e,ex⟩:=z
   refine ⟨⟨o,e,ex.1⟩,fun a e2=>?_⟩
   cases e2
   exact ⟨o,e,ex.2.1⟩
  ·obtain ⟨o,_,_,_,e,ex,_⟩:=I.cj p _ hk
   refine ⟨⟨o,e,ex.1⟩,fun a e2=>?_⟩
   cases e2
   exact ⟨o,e,ex.2.1⟩
 | _=>exact False.elim ty
def Rp (K:PySem.W.Frag) (T:String) (r:V->List V->Hp->VK->Prop) (to:TE):TE:=fun σ H Q=>to σ H fun x H1=>Vo K T x H1/\r x [] H1 Q
def Xh (K:PySem.W.Frag) (T:String) (r:V->List V->Hp->VK->Prop) (to:TE) (t:TA):TE:=fun σ H Q=>to σ H fun x H1=>Vo K T x H1/\t σ H1 fun xs H2=>r x xs H2 Q
variable {o e:Expr} {es:List Expr} {to:TE} {t:TA} {name:Str} {apos jd:Pos} {T id:String} {r:V->List V->Hp->VK->Prop}
theorem Mm (pa:PlainAttrs T) (slot:Slot T name id) (Mn:typeOf (.builtin id)=pure (.type "method_descriptor")) (hm:A8 X id r) (ho:PE X o to)
  (pX:attributeBase o name X.env (eval o X.env)=eval o X.env:=by rfl) (nX:(apos.endLine==jd.line)=true:=by rfl):PE X (.Call (.Attribute o name apos) [] [] jd) (Rp X.K T r to):=by
 intro pins s σ H Q I h
 refine wpAny_Call_method0_late pX nX (cD (ho pins s σ H _ I h) fun v s1 ⟨x,H1,I1,r1,ty,q1⟩=>?_)
 obtain ⟨h1,h2⟩:=EH I1 r1 ty
 exact ⟨T,id,pa,slot,Mn,h1,h2,Calls.callWith_builtin rfl (PySem.evalArgs_none (hm pins s1 σ H1 x [] v [] Q I1 r1 .nil q1))⟩
theorem Rq (pa:PlainAttrs T) (slot:Slot T name id) (Mn:typeOf (.builtin id)=pure (.type "method_descriptor")) (hm:A8 X id r) (ho:PE X o to) (ha:PA X (e::es) t)
  (pX:attributeBase o name X.env (eval o X.env)=eval o X.env:=by rfl)
  (Mo:((backTo jd (starEach (e::es) X.env)).all (fun x=>!x.1)&&(backToKw jd (keywordEach [] X.env)).all (fun x=>x.1.isSome)
   &&decide ((e::es).length+([]:List Keyword).length+(if ([]:List Keyword).isEmpty then 0 else 1)<30))=true:=by rfl)
  (nX:(apos.endLine==jd.line)=true:=by rfl) (hs:starEach (e::es) X.env=(false,eval e X.env)::starEach es X.env:=by rfl) (zw:(backTo jd (starEach es X.env)).any (·.1)=false:=by rfl):
  PE X (.Call (.Attribute o name apos) (e::es) [] jd) (Xh X.K T r to t):=by
 intro pins s σ H Q I h
 refine wpAny_Call_method_late pX Mo nX rfl (cD (ho pins s σ H _ I h) fun v s1 ⟨x,H1,I1,r1,ty,q1⟩=>?_)
 obtain ⟨h1,h2⟩:=EH I1 r1 ty
 refine ⟨T,id,pa,slot,Mn,h1,h2,?_⟩
 have hA:=ha jd pins s1 σ H1 _ I1 q1
 rw[hs]at hA ⊢
 refine Calls.callWith_builtin (by show (false||(backTo jd (starEach es X.env)).any (·.1))=false;rw[zw]<;>rfl) (Calls.evalArgs_plain ?_)
 exact cD hA fun us s2 ⟨vs,H2,I2,r2,q2⟩=>hm pins s2 σ H2 x vs v us Q I2 r1 r2 q2
end
def Ow (X:Cx) (id:String) (r:V->List V->Hp->VK->Prop):Prop:=
 ∀(pins:List (Addr×Obj)) (s:Shared) (σ:St) (H:Hp) (x:V) (xs:List V) (v:Value) (us:List Value) (Q:VK),Inv X pins σ H s->RelV x v->Vals xs us->r x xs H Q->
  wpAny (model X.prog X.w) X.A (call (.builtin id) (v::us)) (EP X pins σ Q) X.xe s
theorem Vals.one: ∀{x:V} {us:List Value},Vals [x] us-> ∃u,us=[u]/\RelV x u
 | _,_, .cons r .nil=>⟨_,rfl,r⟩
theorem Vals.zero: ∀{us:List Value},Vals [] us->us=[]
 | _, .nil=>rfl
theorem Vals.dropLast {xs:List V} {us:List Value} (h:Vals xs us):Vals xs.dropLast us.dropLast:=by
 induction h with
 | nil=>exact .nil
 | cons r t ih=>
  cases t with
  | nil=>exact .nil
  | cons q t'=>exact .cons r ih
theorem Vals.eraseIdx: ∀{xs:List V} {us:List Value} (i:Nat),Vals xs us->Vals (xs.eraseIdx i) (us.eraseIdx i)
 | _,_,_, .nil=> .nil
 | _,_,0, .cons _ t=>t
 | _,_,i+1, .cons r t=> .cons r (Vals.eraseIdx i t)
theorem Vals.reverse {xs:List V} {us:List Value} (h:Vals xs us):Vals xs.reverse us.reverse:=by
 induction h with
 | nil=>exact .nil
 | cons r t ih=>rw[List.reverse_cons,List.reverse_cons];exact Vals.append ih (.cons r .nil)
theorem zx {α:Type} (l:List α):l.eraseIdx (l.length - 1)=l.dropLast:=by
 induction l with
 | nil=>rfl
 | cons a r ih=>
  cases r with
  | nil=>rfl
  | cons b r=>
   have e:(a::b::r).length - 1=((b::r).length - 1)+1:=by
    have h1:(a::b::r).length=r.length+2:=rfl
    have h2:(b::r).length=r.length+1:=rfl
    omega
   rw[e,Qdm,ih]
   all_goals rfl
theorem mT {α:Type}: ∀(l:List α) (i:Nat),(l.eraseIdx i).length<=l.length
 | [],_=>Tz _
 | _::_,0=>Qcn _
 | _::r,i+1=>Qbk (mT r i)
section
variable {X:Cx} {pins:List (Addr×Obj)} {σ:St} {H:Hp} {s:Shared} {l b:Addr} {xs ys zs:List V}
theorem Inv.CI {aO its':List Value} {n:Nat} {f:Array Value->Array Value} {t':Nat} (I:Inv X pins σ H s) (hH:H l=some (.lst xs))
  (e:s.heap.get? l=some { cls:= .type "list",data:= .seq aO.toArray n }) (hf:f aO.toArray=its'.toArray) (hv:Vals ys its') (hz:ys.length<=sizeLine):
  Inv X pins σ (upd H l (.lst ys)) { s with heap:=s.heap.update l (Obj.mapSeq f),toks:=t' }:=by
 have q:=PySem.IsL.update e f
 rw[hf]at q
 refine I.write (x:=l) (e:=l) (by rw[hH];exact trivial) (.inl rfl) (fun b' u hb hu=>(Qbi s.heap (Obj.mapSeq f) (Ne.symm hb)).trans hu) ⟨_,q⟩ ?_
 exact ⟨hz,its',_,hv,q⟩
theorem Inv.Vp {aO:List Value} {t':Nat} (I:Inv X pins σ H s) (hv:Vals ys aO) (hz:ys.length<=sizeLine):
  Inv X pins σ (upd H s.heap.objs.size (.lst ys)) { s with heap:=s.heap.push { cls:= .type "list",data:= .seq aO.toArray },toks:=t' }:=
 I.laid (fun _ _ q=>Xm _ q) (Tz _) ⟨hz,aO,0,hv,Qam _ rfl⟩
theorem Inv.fresh (I:Inv X pins σ H s):H s.heap.objs.size=none:=I.cj.fresh (Tz _)
theorem Inv.uT (I:Inv X pins σ H s) (hH:H l=some (.lst xs)):xs.length<=sizeLine/\ ∃(aO:List Value) (n:Nat),Vals xs aO/\xs.length=aO.length/\s.heap.get? l=some { cls:= .type "list",data:= .seq aO.toArray n }:=by
 obtain ⟨z,aO,n,r,e⟩:=I.cj l _ hH
 exact ⟨z,aO,n,r,r.length,e⟩
end
section
variable {X:Cx}
def IS:V->List V->Hp->VK->Prop:=fun x vs H Q=> ∃l xs y,x= .ref l/\vs=[y]/\H l=some (.lst xs)/\xs.length<sizeLine/\Q .fB (upd H l (.lst (xs++[y])))
theorem cU:Ow X "list.append" IS:=by
 intro pins s σ H x vs v us Q I rx rv h
 obtain ⟨l,xs,y,rfl,rfl,hH,hz,q⟩:=h
 cases rx
 obtain ⟨u,rfl,ru⟩:=rv.one
 obtain ⟨z,aO,n,r,hl,e⟩:=I.uT hH
 refine call_meets F.slot_list_append ⟨_,e,rfl⟩ F.entry_list_append (F.args_list_append_2 _ _) (PySem.list_append l aO.toArray n u (by rw[Qac];omega)) ⟨e,?_⟩
 refine ⟨.fB,_,I.CI (its':=aO++[u]) hH e (by simp) (r.append (.cons ru .nil)) ?_,rfl,q⟩
 rw[Oy,List.length_singleton]
 omega
def Vq:V->List V->Hp->VK->Prop:=fun x vs H Q=> ∃l xs y,x= .ref l/\vs=[]/\H l=some (.lst xs)/\xs[xs.length - 1]? =some y/\Q y (upd H l (.lst xs.dropLast))
theorem Mp:Ow X "list.pop" Vq:=by
 intro pins s σ H x vs v us Q I rx rv h
 obtain ⟨l,xs,y,rfl,rfl,hH,hy,q⟩:=h
 cases rx
 have Ef:=rv.zero
 subst Ef
 obtain ⟨z,aO,n,r,hl,e⟩:=I.uT hH
 obtain ⟨u,hu,ru⟩:=r.get hy
 have Zp:aO.toArray[aO.toArray.size - 1]? =some u:=by
  show aO.toArray[aO.length - 1]? =some u
  rw[<-Qez, <-hl]
  exact hu
 refine call_meets F.slot_list_pop ⟨_,e,rfl⟩ F.entry_list_pop (F.args_list_pop_1 _) (MeetsSeq.list_pop_last l aO.toArray n u Zp (by rw[Qac];omega)) ⟨e,?_⟩
 refine ⟨y,_,I.CI (its':=aO.dropLast) hH e ?_ r.dropLast ?_,ru,q⟩
 ·show aO.toArray.eraseIdxIfInBounds (aO.toArray.size - 1)=aO.dropLast.toArray
  rw[Qac,Qdr,zx]
 ·rw[List.length_dropLast]
  omega
def Mq:V->List V->Hp->VK->Prop:=fun x vs H Q=> ∃l xs i k y,x= .ref l/\vs=[.int i]/\H l=some (.lst xs)/\ -(2 ^ 63)<=i/\i<2 ^ 63/\seqIndex? i xs.length=some k/\xs[k]? =some y/\Q y (upd H l (.lst (xs.eraseIdx k)))
theorem js:Ow X "list.pop" Mq:=by
 intro pins s σ H x vs v us Q I rx rv h
 obtain ⟨l,xs,i,k,y,rfl,rfl,hH,h1,h2,hk,hy,q⟩:=h
 cases rx
 obtain ⟨u,rfl,ru⟩:=rv.one
 obtain ⟨t,rfl⟩:=ru
 obtain ⟨z,aO,n,r,hl,e⟩:=I.uT hH
 obtain ⟨w,hw,rL⟩:=r.get hy
 refine call_meets F.slot_list_pop ⟨_,e,rfl⟩ F.entry_list_pop (F.args_list_pop_2 _ _)
  (MeetsSeq.list_pop_at l aO.toArray n i t k w (fitsIndex_both h1 h2) (by rw[Qac, <-hl];exact hk) (by rw[<-Qez];exact hw) (by rw[Qac];omega)) ⟨e,?_⟩
 refine ⟨y,_,I.CI (its':=aO.eraseIdx k) hH e ?_ (r.eraseIdx k) ?_,rL,q⟩
 ·show aO.toArray.eraseIdxIfInBounds k=(aO.eraseIdx k).toArray
  rw[Qdr]
 ·have:=mT xs k
  omega
def EJ:V->List V->Hp->VK->Prop:=fun x vs H Q=> ∃l xs,x= .ref l/\vs=[]/\H l=some (.lst xs)/\Q .fB (upd H l (.lst xs.reverse))
theorem zA:Ow X "list.reverse" EJ:=by
 intro pins s σ H x vs v us Q I rx rv h
 obtain ⟨l,xs,rfl,rfl,hH,q⟩:=h
 cases rx
 have Ef:=rv.zero
 subst Ef
 obtain ⟨z,aO,n,r,hl,e⟩:=I.uT hH
 refine call_meets F.slot_list_reverse ⟨_,e,rfl⟩ F.entry_list_reverse (F.args_list_reverse_1 _) (AutoSeq1.list_reverse_list_0 l aO.toArray n (by rw[Qac];omega)) ⟨e,?_⟩
 refine ⟨.fB,_,I.CI (its':=aO.reverse) hH e (by simp) r.reverse ?_,rfl,q⟩
 rw[Qa6]
 omega
def Vr:R2:=fun x y H Q=> ∃l b xs zs,x= .ref l/\y= .ref b/\H l=some (.lst xs)/\H b=some (.lst zs)/\xs.length+zs.length<=sizeLine/\ ∀p,H p=none->Q (.ref p) (upd H p (.lst (xs++zs)))
theorem EK:iJ X (binaryOp .Add) Vr:=by
 intro pins s σ H x y v u Q I rx ry h
 obtain ⟨l,b,xs,zs,rfl,rfl,hH,hB,hz,q⟩:=h
 cases rx
 cases ry
 obtain ⟨z,aO,n,r,hl,e⟩:=I.uT hH
 obtain ⟨z2,Rr,n2,r2,sP,e2⟩:=I.uT hB
 refine PySem.P.add_list e e2 ?_ (by rw[Qac,Qac];omega)
 have ea:aO.toArray++Rr.toArray=(aO++Rr).toArray:=by simp
 rw[ea]
 exact ⟨.ref _,_,I.Vp (t':=s.toks) (r.append r2) (by rw[Oy];omega),rfl,q _ I.fresh⟩
end
end L2
namespace Xi
open PySem PySem.W PySem.Calls PyProof.Rows
theorem oH {P:Params} {h:Heap}: ∀(ns:List Int) (vs:List Value),WellAll P h vs (ns.map WData.int)->IntsAre vs ns:=by
 intro ns
 induction ns with
 | nil=>
  intro vs w
  rw[List.map_nil]at w
  cases w
  exact .nil
 | cons n ns ih=>
  intro vs w
  rw[Qat]at w
  cases w with
  | cons a b=>
   cases a
   exact .cons _ _ (ih _ b)
theorem CJ {l:OpenLaw} {n:Nat} (hn:l.most=some n) {P:Params} {h:Heap} {args:List WData} {vals:List Value}
  (IT:l.row.toRowW.claim.pre args=true) (yR:WellAll P h vals args):
  ∃a vs ns,vals=[Value.ref a]/\args=[WData.list (ns.map WData.int)]/\h.get? a=some { cls:= .type "list",data:= .seq vs.toArray }/\IntsAre vs ns/\ns.length<=n:=by
 have Ox:WShape.hasAll [] args [.list .int]=true:=(pre_splitW IT).1
 have hc:l.pre.holds [] { args:=args }=true:=(pre_splitW IT).2
 obtain ⟨d,r,rfl,h1,h2⟩:=hasAllW_cons Ox
 obtain rfl:=hasAllW_nil h2
 obtain ⟨xs,rfl,h3⟩:=hasW_list h1
 obtain ⟨ns,rfl⟩:=items_int h3
 have hlen:ns.length<=n:=by
  unfold OpenLaw.pre at hc
  have h4:(WTm.not (.lt (.lit (.int (n:Int))) (.len (.arg 0)))).holds [] { args:=[.list (ns.map .int)] }=true:=by
   have h4:=(holds_andW hc).1
   rw[hn]at h4
   exact h4
  have h5:=condW_of h4 (w_not (w_lt w_lit (w_len_list (w_arg rfl))))
  rw[Xl]at h5
  refine Nat.le_of_not_lt fun q=>?_
  have q':(n:Int)<((ns.length:Nat):Int):=by omega
  first
   |(rw[decide_eq_true q']at h5;exact absurd h5 (by decide))
   |(simp at h5;omega)
 cases yR with
 | cons w1 w2=>
  cases w2
  cases w1 with
  | list ho CK=>exact ⟨_,_,ns,rfl,rfl,ho,oH ns _ CK,hlen⟩
theorem CL (l:OpenLaw) (args:List WData):l.row.toRowW.claim.post args (.bool true) args=true:=
 postW_of (r:=l.row.toRowW) (X:=(true==true))
  (show WShape.has [] (.bool true) .bool=true by first | rfl | decide | simp[WShape.has,WShape.arms,WShape.armsAll])
  (show (WTm.eq .res (.lit (.bool true))).value [] { args:=args,res:=some (.bool true),after:=args }=some (.bool (true==true)) from w_eq_bool (w_res rfl) w_lit) rfl
theorem xj {l:OpenLaw} {n:Nat} {q:Program} {loose:List Str} {XP:(Str->Option Value)->Heap->Prop} {YP:World->Heap->Prop} {d:DefRec}
  (hn:l.most=some n) (Rt:d.params.defaults=[])
  (call: ∀(w:World) (s₀ s₁:Shared) (mg mb:Str->Option Value) (fa:Addr) (o:Obj) (pm cd doc:Value) (a:Addr) (vs:List Value) (ns:List Int),
   Ground q loose [] XP w s₀ mg mb s₁.heap->YP w s₁.heap->
   s₁.heap.get? fa=some o->o.data= .func (docDef d.name d.params d.body d.scope pm cd doc)->s₁.heap.CodeRec cd d.name->mg d.name=some (.ref fa)->
   s₁.heap.get? a=some { cls:= .type "list",data:= .seq vs.toArray }->IntsAre vs ns->ns.length<=n->s₁.gens= #[]->
   codeAny (model l.prog w) callerA (.call (.ref fa) ⟨[.ref a],[]⟩) (fun r s'=>r= .ok (.ret (.bool true))/\OldK s₁.heap s'.heap/\s'.os=s₁.os/\AllBare s'.gens) s₁):
  WalkO q loose XP YP l.row.toRowW d [] (fun f vs=>PySem.call f vs):=by
 intro w s₀ s₁ mg mb G Y fa o pm cd doc dV kV ho hd oE hD hmg hg args vals as IT Zq hrd yR hlo
 obtain rfl:dV= .none:=Dflts.none hD Rt
 obtain rfl:kV= .none:=Dflts.noKw hD
 obtain ⟨a,vs,ns,rfl,rfl,Mr,hints,hlen⟩:=CJ hn IT yR
 refine enter_call (codeAny_mono (call w s₀ s₁ mg mb fa o pm cd doc a vs ns G Y ho (fd_plain hd) oE hmg Mr hints hlen hg) fun r s' hq=>?_)
 obtain ⟨rfl,h2,h3,h4⟩:=hq
 exact ⟨.inl ⟨.bool true, .bool true,[],rfl,fun _=>rfl, .bool true,CL l _,fun _=>⟨List.Pairwise.nil,fun _ hm=>(nomatch hm)⟩⟩,h2,h3,h4⟩
end Xi
namespace L2
open PySem PySem.Spec PyProof.Rows
theorem sQ: ∀{vs:List Value} {ns:List Int},IntsAre vs ns->Vals (ns.map V.int) vs
 | _,_, .nil=> .nil
 | _,_, .cons n t h=> .cons ⟨t,rfl⟩ (sQ h)
def Ms (H:Hp):Prop:= ∀b,H b=none\/ ∃o xs,H b=some (.AY o (.lst xs))
theorem EL {P:Program} {w:World} {K:PySem.W.Frag} {mg mb:Str->Option Value} {CX:CD} {k:Nat} {fa a:Addr} {fd:FuncData} {x:Str} {sp:Sp} {s₁:Shared} {vs:List Value} {ns:List Int}
  (KX:K.In s₁.heap) (HY:s₁.heap.Ns mainGlobals mg) (hb:s₁.heap.Ns builtinsNs mb) (Zr: ∀x:Str,x≠"__name__"->mb x=bootBuiltins x) (Vs:s₁.heap.NoLimit) (hg:s₁.gens= #[])
  (ha:s₁.heap.get? a=some { cls:= .type "list",data:= .seq vs.toArray }) (hi:IntsAre vs ns) (hl:ns.length<=sizeLine) (hr:fu k callerA)
  (F: ∀base:Heap,K.In base->base.Ns mainGlobals mg->bI P w K mg base CX k fa fd [x] sp) (Ru: ∀(s:Shared) (u:Value),BindsTo s fd ⟨[u],[]⟩ [(x,u)])
  (K4: ∀H:Hp,Ms H->bA K H a (ns.map V.int)->sp [.ref a] H (fun v _=>v= .bl true) fun _ _ _=>False)
  (Vt: ∀H e s',CX [] H s₁ (fun _ _ _=>False) e s'->False):
  codeAny (model P w) callerA (.call (.ref fa) ⟨[.ref a],[]⟩) (fun r s'=>r= .ok (.ret (.bool true))/\OldK s₁.heap s'.heap/\s'.os=s₁.os/\AllBare s'.gens) s₁:=by
 have rv:=sQ hi
 have Vu:=hi.length
 -- from an abstract heap in Xj nothing but HV script may be tracked
 have core: ∀H:Hp,Ms H->bA K H a (ns.map V.int)->kO P w H s₁.heap->(∀b,H b≠none->b=a)->(H a≠none->K.lookup a=none)->
   codeAny (model P w) callerA (.call (.ref fa) ⟨[.ref a],[]⟩) (fun r s'=>r= .ok (.ret (.bool true))/\OldK s₁.heap s'.heap/\s'.os=s₁.os/\AllBare s'.gens) s₁:=by
  intro H hO hS cj hA hK
  have A_: ∀{b:Addr} {o:Obj},s₁.heap.get? b=some o->H b=none->(uH s₁.heap H).get? b=some o:=fun e n=>Es e n
  have Ri: ∀{b:Addr} {o:Obj} {es:Array DictEntry} {ep:Nat},s₁.heap.get? b=some o->o.data= .dict es ep->H b=none:=fun {b o es ep} e d=>by
   cases q:H b with
   | none=>rfl
   | some u=>
    have e':b=a:=hA b (by rw[q];simp)
    subst e'
    rw[ha]at e;cases e
    have d':Data.seq vs.toArray _=Data.dict es ep:=d
    cases d'
  have Tx: ∀{b:Addr} {m:Str->Option Value},s₁.heap.Ns b m->(uH s₁.heap H).Ns b m:=fun {b m} ⟨o,es,ep,e,d,r⟩=>⟨o,es,ep,A_ e (Ri e d),d,r⟩
  have Xk:K.In (uH s₁.heap H):=fun b o e=>A_ (KX b o e) (by
   cases q:H b with
   | none=>rfl
   | some u=>
    have e':b=a:=hA b (by rw[q];simp)
    subst e'
    rw[hK (by rw[q];simp)]at e;cases e)
  have hM:Mod K mg (uH s₁.heap H):=⟨Xk,Tx HY,⟨mb,Tx hb,Zr⟩,let ⟨mc,h1,h2⟩:=Vs;⟨mc,Tx h1,h2⟩⟩
  have e0:zq P w K mg (uH s₁.heap H) callerA [] s₁ H:=⟨rfl,hM,fun b o e=>Iw e,Nat.le_of_eq (Cr _ _),trivial,fun b hb=>absurd (show b∈([]:List Addr) from hb) (by simp),cj, .of_eq hg⟩
  refine codeAny_mono ((F _ Xk (Tx HY)).run callerA [] s₁ H ⟨[.ref a],[]⟩ [.ref a] [.ref a] _ _ hr e0 (Ru s₁ (.ref a)) (.cons rfl .nil) (K4 H hO hS)) fun r s' h=>?_
  cases r with
  | error e=>exact (Vt H e s' h).elim
  | ok fl=>
   cases fl with
   | next=>exact False.elim h
   | brk=>exact False.elim h
   | cont=>exact False.elim h
   | ret u=>
    obtain ⟨v,H',os,bare,un,Vv,r',q⟩:=h
    have q':v= .bl true:=q
    subst q'
    obtain rfl:u=Value.bool true:=r'
    refine ⟨rfl,OldK.of_keep fun b o e=>?_,os,bare⟩
    cases q:H b with
    | none=>exact un.keep b o e q (by intro z;exact absurd (show b∈([]:List Addr) from z) (by simp)) (by simp)
    | some u=>
     rcases hO b with z | ⟨ob,xs,z⟩
     ·rw[q]at z;cases z
     ·have z2:=un.pR b ob _ z
      obtain ⟨e1,_⟩:=cj b _ z
      obtain ⟨e2,_⟩:=Vv b _ z2
      rw[e]at e1;cases e1
      exact e2
 cases hk:K.lookup a with
 | some o=>
  -- HV script is one of HV EI own objects
  have e:=KX a o hk
  rw[ha]at e
  cases e
  refine core (fun _=>none) (fun _=> .inl rfl) (.inr ⟨_,vs.toArray,_,hk,rfl,rfl,rfl,by rw[Qac,Vu];exact hl,by simpa using rv⟩) (fun b u z=>by have z':(none:Option HO)=some u:=z;cases z') (fun b z=>absurd rfl z) fun z=>absurd rfl z
 | none=>
  refine core (fun b=>if b=a then some (.AY { cls:= .type "list",data:= .seq vs.toArray } (.lst (ns.map V.int))) else none) (fun b=>?_) (.inl (.inr ⟨{ cls:= .type "list",data:= .seq vs.toArray },if_pos rfl⟩)) (fun b u z=>?_) (fun b z=>?_) fun _=>hk
  ·by_cases hb:b=a
   ·exact .inr ⟨_,_,if_pos hb⟩
   ·exact .inl (if_neg hb)
  ·by_cases hb:b=a
   ·have z':=(if_pos hb).symm.trans z
    cases z'
    subst hb
    exact ⟨ha,by rw[Xl];exact hl,vs,_,rv,ha⟩
   ·have z':=(if_neg hb).symm.trans z
    cases z'
  ·by_cases hb:b=a
   ·exact hb
   ·exact absurd (if_neg hb) z
theorem Ba {l:PySem.W.OpenLaw} {n k:Nat} {q:Program} {loose:List Str} {XP:(Str->Option Value)->Heap->Prop} {YP:World->Heap->Prop} {d:DefRec} {K:Params->PySem.W.Frag} {CX:World->CD} {sp:World->Sp} {x:Str}
  (hn:l.most=some n) (zj:n<=sizeLine) (Rt:d.params.defaults=[]) (hr:fu k callerA)
  (hY: ∀(w:World) (h:Heap),YP w h->(K w.params).In h)
  (F: ∀(w:World) (mg:Str->Option Value) (fa:Addr) (h:Heap),(K w.params).In h->h.Ns mainGlobals mg->mg d.name=some (.ref fa)->
   ∃fd:FuncData,(∀(s:Shared) (u:Value),BindsTo s fd ⟨[u],[]⟩ [(x,u)])/\
    ∀base:Heap,(K w.params).In base->base.Ns mainGlobals mg->bI l.prog w (K w.params) mg base (CX w) k fa fd [x] (sp w))
  (K4: ∀(w:World) (H:Hp) (a:Addr) (ns:List Int),ns.length<=n->Ms H->bA (K w.params) H a (ns.map V.int)->sp w [.ref a] H (fun v _=>v= .bl true) fun _ _ _=>False)
  (Vt: ∀(w:World) (H:Hp) (s:Shared) (e:Value) (s':Shared),CX w [] H s (fun _ _ _=>False) e s'->False):
  PySem.W.WalkO q loose XP YP l.row.toRowW d [] (fun f vs=>PySem.call f vs):=by
 refine Xi.xj hn Rt fun w s₀ s₁ mg mb fa o pm cd doc a vs ns G Y ho hd oE hmg Mr hints hlen hg=>?_
 have KX:=hY w _ Y
 obtain ⟨fd,hb,hF⟩:=F w mg fa _ KX G.T.g hmg
 exact EL KX G.T.g G.T.b G.T.builtins G.T.nolimit hg Mr hints (Qao hlen zj) hr hF hb (fun H hO hS=>K4 w H a ns hlen hO hS) fun H e s'=>Vt w H s₁ e s'
noncomputable def gu (s:Stmt):Arguments:=match s with
 | .FunctionDef _ a _ _ _ _ _ _ _ _=>a
 | _=>{ posonlyargs:=[],args:=[],vararg:=none,kwonlyargs:=[],kw_defaults:=[],kwarg:=none,defaults:=[] }
noncomputable def fM (s:Stmt):List Stmt:=match s with
 | .FunctionDef _ _ b _ _ _ _ _ _ _=>b
 | _=>[]
noncomputable def au (s:Stmt):Scope:=match s with
 | .FunctionDef _ _ _ _ _ _ sc _ _ _=>sc
 | _=>{ kind:= .function,names:=[],isGenerator:=false,isCoroutine:=false }
abbrev dW:CD:=fun _ _ _ _ _ _=>False
abbrev E0:XK:=fun _ _ _=>False
theorem az {X:Cx}:Passes dW X E0:=fun _ _ _ _ _ _ _ h=>h.elim
structure IU (K:PySem.W.Frag) (x qual:Str) (st:Stmt) (f:Addr) (fd:FuncData):Prop where
 ex: ∃(oc:Value) (od:Option Addr) (kV doc pm:Value) (an:Option Addr) (cC ct:Value) (HW:Array (Option Value)),
  fd=PySem.W.fnOf x qual (gu st) (fM st) (au st) .none kV doc pm an cC ct/\K.lookup f=some ⟨oc,od, .func fd,HW⟩/\PySem.W.codeIn K cC qual=true
 kp:PySem.W.keepIn K (.ref f)=true
section
variable {P:Program} {w:World} {K:PySem.W.Frag} {mg:Str->Option Value} {base:Heap}
theorem IU.ok {x qual:Str} {st:Stmt} {f:Addr} {fd:FuncData} {N ps:List Str} {k:Nat} {sp:Sp} (F:IU K x qual st f fd) (S:aH N ps (au st)) (len: ∀vs H Q E,sp vs H Q E->vs.length=ps.length)
  (EG: ∀(cC:Value) (A:Around) (outer:List Env) (s:Shared) (H:Hp) (vs:List V) (Q:VK) (E:XK),fu k (A.deeper (envOfC qual (au st) s.heap.objs.size f cC))->sp vs H Q E->
   ∃t,y9 (CF dW P w K mg base N qual (au st) f cC A outer s H E).Tr (fM st) t/\t { nx:=fun _ H'=>Q .fB H',rt:=Q } (start N vs) H):bI P w K mg base dW (k+1) f fd ps sp:=by
 obtain ⟨oc,od,kV,doc,pm,an,cC,ct,HW,rfl,lk,oE⟩:=F.ex
 refine Rj lk oE S len fun A outer s H vs Q E hr K4=>?_
 obtain ⟨t,h,q⟩:=EG cC A outer s H vs Q E hr K4
 exact ⟨t,h.Tr,q⟩
theorem IU.binds {x qual:Str} {st:Stmt} {f:Addr} {fd:FuncData} {ps:List Str} (F:IU K x qual st f fd)
  (h: ∀(kV doc pm:Value) (an:Option Addr) (cC ct:Value) (us:List Value),us.length=ps.length->bindArgs (PySem.W.fnOf x qual (gu st) (fM st) (au st) .none kV doc pm an cC ct) ⟨us,[]⟩=pure (ps.zip us)):Binds K fd ps []:=by
 obtain ⟨oc,od,kV,doc,pm,an,cC,ct,HW,rfl,lk,oE⟩:=F.ex
 exact .all (h kV doc pm an cC ct)
theorem zB {x qual:Str} {st:Stmt} {f:Addr} {oc:Value} {od an:Option Addr} {HW:Array (Option Value)} {kV doc pm cC ct:Value} (l:K.lookup f=some ⟨oc,od, .func (PySem.W.fnOf x qual (gu st) (fM st) (au st) .none kV doc pm an cC ct),HW⟩)
  (c:PySem.W.codeIn K cC qual=true) (k:PySem.W.keepIn K (.ref f)=true):IU K x qual st f (PySem.W.fnOf x qual (gu st) (fM st) (au st) .none kV doc pm an cC ct):=⟨⟨oc,od,kV,doc,pm,an,cC,ct,HW,rfl,l,c⟩,k⟩
end
theorem pY {A:Around} {k:Nat} (hr:fu k A):A.units+1<cLine:=Qa4 (Nat.add_le_add_left (by decide:1<=64) _) hr.units
section
variable {X:Cx}
theorem pv (i:Nat) {x:Str} {pos:Pos} (hN:X.N[i]? =some x:=by rfl) (hv:QM X.env.scope x:=by first | exact Or.inl rfl | exact Or.inr (Or.inl rfl) | exact Or.inr (Or.inr rfl)) (hd:(x==("__debug__":Str))=false:=by decide)
  (oE:(x==("__classdict__":Str))=false:=by decide):PE X (.Name x pos) (LU i):=LV hN hv hd oE
end
theorem xk {A B:Prop} (h:B):if false=true then A else B:=by
 rw[if_neg Qaq]
 exact h
theorem Rv {A B:Prop} (h:A):if true=true then A else B:=by
 rw[if_pos rfl]
 exact h
theorem bY {c A B:Prop} [Decidable c] (h1:c->A) (h2: ¬c->B):if c then A else B:=by
 by_cases h:c
 ·rw[if_pos h]
  exact h1 h
 ·rw[if_neg h]
  exact h2 h
def ar (H H':Hp):Prop:= ∀b o,H b=some o->H' b=some o
theorem ar.refl (H:Hp):ar H H:=fun _ _ h=>h
theorem ar.trans {H H1 H2:Hp} (a:ar H H1) (b:ar H1 H2):ar H H2:=fun c o h=>b c o (a c o h)
theorem ar.free {H H':Hp} (e:ar H H') {l:Addr} (h:H' l=Option.none):H l=Option.none:=by
 cases q:H l with
 | none=>rfl
 | some o=>
  rw[e l o q]at h
  cases h
theorem ar.seq {K:PySem.W.Frag} {H H':Hp} {a:Addr} {xs:List V} (e:ar H H') (h:bA K H a xs):bA K H' a xs:=by
 rcases h with (h | ⟨o,h⟩) | h
 ·exact .inl (.inl (e _ _ h))
 ·exact .inl (.inr ⟨o,e _ _ h⟩)
 ·exact .inr h
noncomputable def je (env:Env):List (Str×NameKind)->List (Str×Addr)->List (Str×Addr)
 | [],acc=>acc
 |(n,k)::r,acc=>je env r (if k== .free then (match env.cells.lookup n with | some a=>(n,a)::acc | none=>acc) else acc)
theorem gi {env:Env}: ∀(names:List (Str×NameKind)) (acc:List (Str×Addr)),(∀y∈names,y.2= .free-> ∃c,env.cells.lookup y.1=some c)->
  (forIn names acc fun (x:Str×NameKind) (cs:List (Str×Addr))=>(if (x.2==NameKind.free)=true then do let a <-cellOf env x.1;pure (ForInStep.yield ((x.1,a)::cs)) else pure (ForInStep.yield cs):Sem (ForInStep (List (Str×Addr)))))=pure (je env names acc)
 | [],acc,_=>rfl
 |(n,k)::r,acc,h=>by
  rw[Qd1]
  have hr: ∀y∈r,y.2= .free-> ∃c,env.cells.lookup y.1=some c:=fun y hy=>h y (Xn _ hy)
  cases hk:(k==NameKind.free) with
  | false=>
   have e1:je env ((n,k)::r) acc=je env r acc:=by
    show je env r (if (k==NameKind.free)=true then (match env.cells.lookup n with | some a=>(n,a)::acc | none=>acc) else acc)=_
    rw[hk,if_neg Qaq]
   rw[e1, <-gi r acc hr]
   simp only[hk,Qcj,if_false,pure_bind]
  | true=>
   obtain ⟨c,hc⟩:=h (n,k) Zu (by simpa using hk)
   have e1:je env ((n,k)::r) acc=je env r ((n,c)::acc):=by
    have rJ:env.cells.lookup n=some c:=hc
    show je env r (if (k==NameKind.free)=true then (match env.cells.lookup n with | some a=>(n,a)::acc | none=>acc) else acc)=_
    rw[hk,rJ,if_pos rfl]
   have e2:cellOf env n=pure c:=by
    have rJ:env.cells.lookup n=some c:=hc
    unfold cellOf
    rw[rJ]
   rw[e1, <-gi r ((n,c)::acc) hr]
   simp only[hk,if_true,e2,pure_bind]
theorem kA {scope:Scope} {env:Env} (h: ∀y∈scope.names,y.2= .free-> ∃c,env.cells.lookup y.1=some c):closureFor scope env=pure (je env scope.names []):=by
 have e:=gi scope.names [] h
 simp only[closureFor]
 rw[e]
 rfl
theorem mV {env:Env} {x:Str} {c:Addr}: ∀(names:List (Str×NameKind)) (acc:List (Str×Addr)),(∀y d,acc.lookup y=some d->env.cells.lookup y=some d)->(je env names acc).lookup x=some c->env.cells.lookup x=some c
 | [],acc,ha,h=>ha x c h
 |(n,k)::r,acc,ha,h=>by
  refine mV r _ (fun y d q=>?_) h
  by_cases hk:(k==NameKind.free)=true
  ·rw[if_pos hk]at q
   cases e:env.cells.lookup n with
   | none=>rw[e]at q;exact ha y d q
   | some a=>
    rw[e]at q
    have q':List.lookup y ((n,a)::acc)=some d:=q
    rw[Qbg]at q'
    cases hy:(y==n) with
    | true=>
     rw[hy]at q'
     have:y=n:=by simpa using hy
     subst this
     rw[e];exact q'
    | false=>rw[hy]at q';exact ha y d q'
  ·rw[if_neg hk]at q;exact ha y d q
theorem xl {env:Env} {x:Str}: ∀(names:List (Str×NameKind)) (acc:List (Str×Addr)),(∃c,acc.lookup x=some c)-> ∃c,(je env names acc).lookup x=some c
 | [],acc,h=>h
 |(n,k)::r,acc,⟨c,hc⟩=>by
  refine xl r _ ?_
  by_cases hk:(k==NameKind.free)=true
  ·rw[if_pos hk]
   cases e:env.cells.lookup n with
   | none=>exact ⟨c,hc⟩
   | some a=>
    show ∃c,List.lookup x ((n,a)::acc)=some c
    rw[Qbg]
    cases hy:(x==n) with
    | true=>exact ⟨a,rfl⟩
    | false=>exact ⟨c,hc⟩
  ·rw[if_neg hk];exact ⟨c,hc⟩
theorem pZ {env:Env} {x:Str}: ∀(names:List (Str×NameKind)) (acc:List (Str×Addr)),(∀y∈names,y.2= .free-> ∃c,env.cells.lookup y.1=some c)->names.lookup x=some .free-> ∃c,(je env names acc).lookup x=some c
 | [],acc,_,h=>by simp at h
 |(n,k)::r,acc,hf,h=>by
  have hr: ∀y∈r,y.2= .free-> ∃c,env.cells.lookup y.1=some c:=fun y hy=>hf y (Xn _ hy)
  rw[Qbg]at h
  cases hy:(x==n) with
  | true=>
   rw[hy]at h
   have hk:k= .free:=Qaf h
   subst hk
   have hx:x=n:=by simpa using hy
   subst hx
   obtain ⟨c,hc⟩:=hf (x, .free) Zu rfl
   have rJ:env.cells.lookup x=some c:=hc
   refine xl r _ ⟨c,?_⟩
   rw[if_pos (show (NameKind.free==NameKind.free)=true by decide),rJ]
   show List.lookup x ((x,c)::acc)=some c
   rw[Qbg]
   simp
  | false=>
   rw[hy]at h
   exact pZ r _ hr h
theorem lK {env:Env}: ∀{names:List (Str×NameKind)} {x:Str},names.lookup x=some .free->
  ((names.map fun (n,k)=>if (k==NameKind.free&&env.scope.kind== .function&&env.kindOf n==some .cell) then (n,NameKind.cell) else (n,k)).lookup x=some .cell\/
   (names.map fun (n,k)=>if (k==NameKind.free&&env.scope.kind== .function&&env.kindOf n==some .cell) then (n,NameKind.cell) else (n,k)).lookup x=some .free)
 | [],_,h=>by simp at h
 |(n,k)::r,x,h=>by
  have ih:= @lK env r x
  show (List.lookup x ((if (k==NameKind.free&&env.scope.kind== .function&&env.kindOf n==some .cell)=true then (n,NameKind.cell) else (n,k))::_)=_\/List.lookup x ((if (k==NameKind.free&&env.scope.kind== .function&&env.kindOf n==some .cell)=true then (n,NameKind.cell) else (n,k))::_)=_)
  cases hx:x==n with
  | true=>
   simp only[Qbg,hx]at h
   cases h
   by_cases hc:((NameKind.free==NameKind.free)&&env.scope.kind== .function&&env.kindOf n==some .cell)=true
   ·rw[if_pos hc];simp[Qbg,hx]
   ·rw[if_neg hc];simp[Qbg,hx]
  | false=>
   simp only[Qbg,hx]at h
   by_cases hc:(k==NameKind.free&&env.scope.kind== .function&&env.kindOf n==some .cell)=true
   ·rw[if_pos hc];simp only[Qbg,hx];exact ih h
   ·rw[if_neg hc];simp only[Qbg,hx];exact ih h
theorem lL {env:Env}: ∀{names:List (Str×NameKind)} {x:Str},(∀y∈names,y.2≠ .cell)->
  ((names.map fun (n,k)=>if (k==NameKind.free&&env.scope.kind== .function&&env.kindOf n==some .cell) then (n,NameKind.cell) else (n,k)).lookup x=some .cell\/
   (names.map fun (n,k)=>if (k==NameKind.free&&env.scope.kind== .function&&env.kindOf n==some .cell) then (n,NameKind.cell) else (n,k)).lookup x=some .free)->names.lookup x=some .free
 | [],_,_,h=>by simp at h
 |(n,k)::r,x,hn,h=>by
  have ih:= @lL env r x (fun y hy=>hn y (Xn _ hy))
  have hk:=hn (n,k) Zu
  have h':(List.lookup x ((if (k==NameKind.free&&env.scope.kind== .function&&env.kindOf n==some .cell)=true then (n,NameKind.cell) else (n,k))::(r.map fun (n,k)=>if (k==NameKind.free&&env.scope.kind== .function&&env.kindOf n==some .cell) then (n,NameKind.cell) else (n,k)))=some .cell\/List.lookup x ((if (k==NameKind.free&&env.scope.kind== .function&&env.kindOf n==some .cell)=true then (n,NameKind.cell) else (n,k))::(r.map fun (n,k)=>if (k==NameKind.free&&env.scope.kind== .function&&env.kindOf n==some .cell) then (n,NameKind.cell) else (n,k)))=some .free):=h
  cases hx:x==n with
  | true=>
   rw[Qbg,hx]
   by_cases hc:(k==NameKind.free&&env.scope.kind== .function&&env.kindOf n==some .cell)=true
   ·have:(k==NameKind.free)=true:=by
     rw[Qbq,Qbq]at hc;exact hc.1.1
    have Eg:k= .free:=by simpa using this
    rw[Eg]
   ·rw[if_neg hc]at h'
    simp only[Qbg,hx]at h'
    rcases h' with h' | h'
    ·exact absurd (Qaf h') hk
    ·exact h'
  | false=>
   rw[Qbg,hx]
   by_cases hc:(k==NameKind.free&&env.scope.kind== .function&&env.kindOf n==some .cell)=true
   ·rw[if_pos hc]at h';simp only[Qbg,hx]at h';exact ih h'
   ·rw[if_neg hc]at h';simp only[Qbg,hx]at h';exact ih h'
abbrev HZ:Value->Shared->Prop:=fun _ _=>False
theorem uU {prog:Program} {w:World} {A:Around} {R:Result->Shared->Prop} {s:Shared} {elt target iter:Expr} {ifs:List Expr} {scope:Scope} {pos:Pos} {it acc:Value} {env:Env} (I:Nat->Shared->Prop)
  (turn: ∀n s,I n s->wpAny (model prog w) A (pyNext it) (fun r s₁=>match r with
   | none=>R (.ok .next) s₁
   | some v=>wpAny (model prog w) A (letOwnedTupleGo target it v) (fun _ Xp=>wpAny (model prog w) A (assign target env v) (fun _ s₂=>
     wpAny (model prog w) A (forIn ifs true fun c r=>if r=true then do let ok <-isTrue c env (eval c env);pure (ForInStep.yield ok) else pure (ForInStep.yield r)) (fun ok s₃=>
      if ok=true then wpAny (model prog w) A (eval elt env) (fun x s₄=>
       wpAny (model prog w) A (call (.builtin "list.append") [acc,x]) (fun _ s₅=> ∃m,m<n/\I m s₅) HZ s₄) HZ s₃
      else ∃m,m<n/\I m s₃) HZ s₂) HZ Xp) HZ s₁) HZ s)
  (n:Nat) (h:I n s):codeAny (model prog w) A (.compLoop (.ListComp elt [⟨target,iter,ifs,0⟩] scope pos) 0 it acc env) R s:=by
 refine codeAny_loop rfl I (fun n s hI=>?_) n h
 show wpAny _ A ((compTurn (.ListComp elt [⟨target,iter,ifs,0⟩] scope pos) 0 it acc env).onRaise (fun x=>do noteFrame x env;theTreesLotGoes x)) _ _ s
 refine wpAny_noted ?_
 rw[compTurn_list]
 have no: ∀{F:Value->Shared->Prop} (e:Value) (s':Shared),HZ e s'->F e s':=fun _ _ h=>h.elim
 refine wpAny_bind (wpAny_standAt (wpAny_bind (wpAny_mono (turn n s hI) (fun r s₁ h₁=>?_) no)))
 cases r with
 | none=>exact wpAny_pure h₁
 | some v=>
  refine wpAny_bind (wpAny_mono h₁ (fun _ Xp Zx=>?_) no)
  refine wpAny_bind (wpAny_mono Zx (fun _ s₂ h₂=>wpAny_bind (wpAny_mono h₂ (fun ok s₃ h₃=>?_) no)) no)
  cases ok with
  | false=>exact wpAny_pure ⟨rfl,h₃⟩
  | true=>
   exact wpAny_bind (wpAny_bind (wpAny_mono h₃ (fun x s₄ h₄=>wpAny_bind (wpAny_mono h₄ (fun _ s₅ h₅=>wpAny_pure (wpAny_pure ⟨rfl,h₅⟩)) no)) no))
noncomputable def b9 (X:Cx) (scope:Scope) (C:Addr) (Nc:List Str) (s:Shared) (H:Hp) (fp:List Addr):Cx where
 prog:=X.prog
 w:=X.w
 K:=X.K
 mg:=X.mg
 base:=X.base
 A:=X.A
 N:=Nc
 s₀:=s
 H₀:=H
 env:=compEnvC scope (je X.env scope.names []) C X.env
 outer:=X.stack
 stack:=X.stack
 ex:=fp
 fn:=fun _=>false
 calm:=X.calm
 pn:=[]
 xe:=HZ
def km (X:Cx) (scope:Scope):List Str->List (Option Nat)->Prop
 | [],[]=>True
 | _::ys,none::os=>km X scope ys os
 | y::ys,some j::os=>(X.N[j]? =some y/\scope.names.lookup y=some .free/\(X.env.kindOf y=some .cell\/X.env.kindOf y=some .free))/\km X scope ys os
 | _,_=>False
noncomputable def lM (σ:St) (ix:List (Option Nat)):St:=ix.map fun o=>match o with | none=>none | some j=>(σ[j]?).getD none
def Wk:St->St->Prop
 | [],[]=>True
 | none::a,_::b=>Wk a b
 | some v::a,w::b=>w=some v/\Wk a b
 | _,_=>False
theorem Wk.len: ∀{a b:St},Wk a b->a.length=b.length
 | [],[],_=>rfl
 | none::a,_::b,h=>congrArg (· +1) (Wk.len (a:=a) (b:=b) h)
 | some _::a,_::b,h=>congrArg (· +1) (Wk.len (a:=a) (b:=b) h.2)
theorem Wk.get: ∀{a b:St} {i:Nat} {v:V},Wk a b->a[i]? =some (some v)->b[i]? =some (some v)
 | [],[],i,v,_,h=>by simp at h
 | none::a,x::b,0,v,_,h=>by simp at h
 | none::a,x::b,i+1,v,k,h=>by
  have:=Wk.get (a:=a) (b:=b) (i:=i) (v:=v) k (by simpa using h)
  simpa using this
 | some y::a,x::b,0,v,k,h=>by
  have e:y=v:=by simpa using h
  subst e
  simp[k.1]
 | some y::a,x::b,i+1,v,k,h=>by
  have:=Wk.get (a:=a) (b:=b) (i:=i) (v:=v) k.2 (by simpa using h)
  simpa using this
theorem km.len {X:Cx} {scope:Scope}: ∀{N:List Str} {ix:List (Option Nat)},km X scope N ix->ix.length=N.length
 | [],[],_=>rfl
 | _::ys,none::os,h=>congrArg (· +1) (km.len (N:=ys) (ix:=os) h)
 | _::ys,some _::os,h=>congrArg (· +1) (km.len (N:=ys) (ix:=os) h.2)
theorem km.get {X:Cx} {scope:Scope}: ∀{N:List Str} {ix:List (Option Nat)} {i j:Nat},km X scope N ix->ix[i]? =some (some j)-> ∃y,N[i]? =some y/\X.N[j]? =some y/\scope.names.lookup y=some .free/\(X.env.kindOf y=some .cell\/X.env.kindOf y=some .free)
 | [],[],i,j,_,h=>by simp at h
 | y::ys,none::os,0,j,_,h=>by simp at h
 | y::ys,none::os,i+1,j,k,h=>by
  obtain ⟨z,h1,h2⟩:=km.get (N:=ys) (ix:=os) (i:=i) (j:=j) k (by simpa using h)
  exact ⟨z,by simpa using h1,h2⟩
 | y::ys,some j'::os,0,j,k,h=>by
  have e:j'=j:=by simpa using h
  subst e
  exact ⟨y,by simp,k.1⟩
 | y::ys,some j'::os,i+1,j,k,h=>by
  obtain ⟨z,h1,h2⟩:=km.get (N:=ys) (ix:=os) (i:=i) (j:=j) k.2 (by simpa using h)
  exact ⟨z,by simpa using h1,h2⟩
theorem CM {σ:St} {ix:List (Option Nat)} {i:Nat} {v:V} (h:(lM σ ix)[i]? =some (some v)): ∃j,ix[i]? =some (some j)/\σ[j]? =some (some v):=by
 unfold lM at h
 rw[Qak]at h
 cases e:ix[i]? with
 | none=>rw[e]at h;cases h
 | some o=>
  rw[e]at h
  cases o with
  | none=>cases h
  | some j=>
   refine ⟨j,rfl,?_⟩
   have h':some ((σ[j]?).getD none)=some (some v):=h
   cases q:σ[j]? with
   | none=>rw[q]at h';cases h'
   | some z=>rw[q]at h';cases h';rfl
theorem zC {X:Cx} {pins:List (Addr×Obj)} {σ:St} {H:Hp} {s:Shared} (I:Inv X pins σ H s) {scope:Scope} {Nc:List Str} {ix:List (Option Nat)} (uV:km X scope Nc ix) (h_: ∀y∈scope.names,y.2≠ .cell)
  (i0:scope.kind= .function) (IV: ∀y∈scope.names,y.2= .free->X.env.kindOf y.1=some .cell\/X.env.kindOf y.1=some .free) {fp:List Addr} (hf: ∀b∈fp,oF X pins H b) (Rw: ∀b∈fp, ∃o,s.heap.get? b=some o)
  {C:Addr} {h':Heap} {t':Nat} {m0:Str->Option Value} (hC:s.heap.objs.size<=C) (HY:h'.Ns C m0) (k: ∀b o,s.heap.get? b=some o->h'.get? b=some o):
  Inv (b9 X scope C Nc s H fp) [] (lM σ ix) H { s with heap:=h',toks:=t' }:=by
 have Oz: ∀y∈scope.names,y.2= .free-> ∃c,X.env.cells.lookup y.1=some c:=fun y hy e=>I.ok.has y.1 (IV y hy e)
 have lN: ∀{x:Str} {c:Addr},(je X.env scope.names []).lookup x=some c->X.env.cells.lookup x=some c:=fun {x c} e=>mV scope.names [] (fun y d q=>by simp at q) e
 refine ⟨⟨I.ok.mod,i0,I.ok.glob,I.ok.blt,hC,fun x y c h1 h2=>I.ok.inj x y c (lN h1) (lN h2),fun x hx=>?_,fun x c h=>?_,I.ok.hd,I.ok.frames, .inl rfl,fun b hb=>?_,I.bs,Qao I.ok.Iy I.sz,fun b o e hb=>?_,fun b hb hs=>?_,I.stack,I.A0⟩,
  rfl,I.bare,Un.kept k,⟨m0,HY,fun i x v h1 h2 h3=>?_⟩,fun x c e=>?_,I.cj.fresh hC,fun x c e=>I.ji x c (lN e),fun p hp=>absurd (show p∈([]:List (Addr×Obj)) from hp) (by simp),I.cj.kept k,?_⟩
 ·have w9:scope.names.lookup x=some .free:=lL h_ hx
  exact pZ scope.names [] Oz w9
 ·exact absurd (show false=true from h) (by decide)
 ·refine ⟨?_,fun x c e=>(hf b hb).2.2.2.2.1 x c (lN e)⟩
  obtain ⟨o,ho⟩:=Rw b hb
  exact Qan (Qaw (Qal ho) hC)
 ·rcases (hf b hb).2.2.2.1 with z | z
  ·exact I.ok.Et b o e z
  ·exact absurd (Qaw (Qal e) (Qao I.ok.Iy z)) (Qbb _)
 ·rcases Zv.mp (I.pT b hs) with z | z
  ·exact (hf b hb).2.1 z
  ·exact (hf b hb).2.2.1 z
 ·obtain ⟨j,e1,e2⟩:=CM h2
  obtain ⟨y,y1,y2,y3,y4⟩:=uV.get e1
  have Xq:Nc[i]? =some x:=h1
  rw[y1]at Xq
  cases Xq
  obtain ⟨m,hn,hl⟩:=I.loc
  have hv:QM X.env.scope x:=by
   rcases y4 with z | z
   ·exact .inr (.inl z)
   ·exact .inr (.inr z)
  obtain ⟨u,r,l⟩:=hl j x v y2 e2 hv
  refine ⟨u,r, .inr ⟨lK y3,?_⟩⟩
  rcases l with ⟨l,_⟩ | ⟨_,c,hc,q⟩
  ·rcases y4 with z | z
   ·rw[z]at l;cases l
   ·rw[z]at l;cases l
  ·obtain ⟨c',rJ⟩:=pZ scope.names [] Oz y3
   have e:=lN rJ
   rw[hc]at e
   cases e
   obtain ⟨o,ho,hd⟩:=q
   exact ⟨c,rJ,o,k _ _ ho,hd⟩
 ·obtain ⟨v,o,ho,hd⟩:=I.cell x c (lN e)
  exact ⟨v,o,k _ _ ho,hd⟩
 ·show (lM σ ix).length=Nc.length
  unfold lM
  rw[Xl]
  exact uV.len
theorem CN {X:Cx} {pins A2:List (Addr×Obj)} {σ σ':St} {H H':Hp} {s s':Shared} (I:Inv X pins σ H s) {scope:Scope} {Nc:List Str} {fp:List Addr} {C D:Addr} (J:Inv (b9 X scope C Nc s H fp) A2 σ' H' s')
  (hf: ∀b∈fp,oF X pins H b) (hD:s.heap.objs.size<=D) (hC:s.heap.objs.size<=C) (Mv:D≠C) {aO:List Value} {n:Nat} {acc:List V} (eD:s'.heap.get? D=some { cls:= .type "list",data:= .seq aO.toArray n }) (r:Vals acc aO)
  (hz:acc.length<=sizeLine) (nD:H' D=none) {oC:Obj} (eC:s'.heap.get? C=some oC) (dC: ∀v,oC.data≠ .cell v):Inv X (pins++[(C,oC)]) σ (upd H' D (.lst acc)) s':=by
 have lt: ∀b o,s.heap.get? b=some o->b≠D:=fun b o e=>Qan (Qaw (Qal e) hD)
 have U:Un (AZ X.stack) fp H H' s.heap s'.heap:=J.base
 have U':Un (AZ X.stack) fp H (upd H' D (.lst acc)) s.heap s'.heap:=
  ⟨U.keep,U.slot,fun b o e n hx=>by rw[aD (lt b o e)];exact U.free b o e n hx,U.there,fun b xs e=>by rw[aD (aE (U.rH b xs e) nD)];exact U.rH b xs e,
   fun b o u e=>by rw[aD (aE (U.pR b o u e) nD)];exact U.pR b o u e,fun b ps e=>by
    obtain ⟨more,q⟩:=U.uG b ps e
    exact ⟨more,by rw[aD (aE q nD)];exact q⟩⟩
 have cj:kO X.prog X.w (upd H' D (.lst acc)) s'.heap:=fun b u e=>by
  by_cases hb:b=D
  ·subst hb
   rw[ah]at e;cases e
   exact ⟨hz,aO,n,r,eD⟩
  ·rw[aD hb]at e
   exact (J.cj b u e).pQ (fun c v _ q=>q) (fun c q=>by rw[aD (aE q nD)];exact q) fun c xs q=>by rw[aD (aE q nD)];exact q
 have I':Inv X pins σ (upd H' D (.lst acc)) s':=I.QR (ch:=fp) J.os U' cj J.bare fun b hb=>by
  obtain ⟨_,h1,_,h2,h3,h4⟩:=hf b hb
  exact ⟨h2,h1,h3,h4⟩
 refine I'.lH fun p hp=>?_
 rcases Qaj.mp hp with z | z
 ·exact I'.pin p (Qav _ z)
 ·have e:p=(C,oC):=Zt.mp z
  subst e
  refine ⟨eC,?_,Qep (Qaw I.lt hC),I.LQ hC,dC⟩
  rw[aD (Ne.symm Mv)]
  exact J.free
def PF (Y:Cx) (ifs:List Expr) (tc:TT):Prop:=
 ∀(pins:List (Addr×Obj)) (s:Shared) (σ:St) (H:Hp) (Q:Bool->Hp->Prop),Inv Y pins σ H s->tc σ H Q->
  wpAny (model Y.prog Y.w) Y.A (forIn ifs true fun c r=>if r=true then do let ok <-isTrue c Y.env (eval c Y.env);pure (ForInStep.yield ok) else pure (ForInStep.yield r)) (TP Y pins σ Q) Y.xe s
def Rx:TT:=fun _ H Q=>Q true H
theorem da {Y:Cx}:PF Y [] Rx:=fun _ _ _ H _ I h=>wpAny_tests_nil ⟨H,I,h⟩
theorem uW {Y:Cx} {c:Expr} {tc:TT} (h:PT Y c tc):PF Y [c] tc:=fun pins s σ H Q I hw=>wpAny_tests_one (h pins s σ H Q I hw)
def sR (J:It) (σc:St) (g:TG) (tc:TT) (te:TE) (Q:VK) (H1:Hp):Prop:=
 ∃W:Nat->Nat->List V->Hp->Prop,(∃m,W 0 m [] H1)/\ ∀i m acc H,W i m acc H->acc.length<sizeLine/\
 ((J.stop i H/\ ∀D,H D=none->Q (.ref D) (upd H D (.lst acc)))\/
  (J.go i H/\ ∀x H',J.Ee i H x H'->g x σc H' fun σ2 H2=>Wk σc σ2/\tc σ2 H2 fun b H3=>if b=true then te σ2 H3 fun v H4=> ∃m',m'<m/\W (i+1) m' (acc++[v]) H4 else ∃m',m'<m/\W (i+1) m' acc H3))
def xm (wi:TI) (ix:List (Option Nat)) (g:TG) (tc:TT) (te:TE):TE:=fun σ H Q=>wi σ H fun J H1=>sR J (lM σ ix) g tc te Q H1
theorem sS {X:Cx} {tg iter elt:Expr} {ifs:List Expr} {scope:Scope} {pos:Pos} {wi:TI} {g:TG} {tc:TT} {te:TE} {Nc:List Str} {ix:List (Option Nat)} (hi:PI X tg iter wi) (kB:X.calm=true) (uV:km X scope Nc ix)
  (h_: ∀y∈scope.names,y.2≠ .cell) (i0:scope.kind= .function) (IV: ∀y∈scope.names,y.2= .free->X.env.kindOf y.1=some .cell\/X.env.kindOf y.1=some .free)
  (hG: ∀C s H fp,PG (b9 X scope C Nc s H fp) tg g) (hT: ∀C s H fp,PF (b9 X scope C Nc s H fp) ifs tc) (hE: ∀C s H fp,PE (b9 X scope C Nc s H fp) elt te)
  {pins:List (Addr×Obj)} {s:Shared} {σ:St} {H:Hp} {Q:VK} (I:Inv X pins σ H s) (h:xm wi ix g tc te σ H Q) {RR:Value->Addr->Result->Shared->Prop}
  (Zy: ∀(D C:Addr) (oC:Obj) (m:Str->Option Value) (H':Hp) (s':Shared),s'.heap.get? C=some oC->s'.heap.Ns C m->oF X pins H' C->Inv X (pins++[(C,oC)]) σ H' s'->Q (.ref D) H'->RR (.ref D) C (.ok .next) s'):
  wpAny (model X.prog X.w) X.A (eval iter X.env) (fun v s1=>wpAny (model X.prog X.w) X.A (pyIter v) (fun it s2=>wpAny (model X.prog X.w) X.A (newList []) (fun acc s3=>
   wpAny (model X.prog X.w) X.A (newFunctionEnv scope X.env.globals (je X.env scope.names []) [] X.env.qual none .none (some X.env)) (fun Ry s4=>
    codeAny (model X.prog X.w) X.A (.compStart (.ListComp elt [⟨tg,iter,ifs,0⟩] scope pos) 0 it acc { Ry with scope:=relabel scope X.env }) (RR acc Ry.locals) s4) X.xe s3) X.xe s2) X.xe s1) X.xe s:=by
 refine cD (hi pins s σ H _ I h) fun v s1 h1=>cD h1 fun U9 s2 h2=>?_
 obtain ⟨it,fp,tn,J,H2,e,I2,T,yQ,f2,W,⟨m0,w0⟩,turn⟩:=h2
 subst e
 refine wpAny_newObj_type (wpAny_newFunctionEnv h_ (by intro y hy;simp at hy) (fun h₁ Mw IW=>?_) i0)
 dsimp only at Mw IW ⊢
 generalize K5:s2.heap.push { cls:= .type "list",dict:=none,data:= .seq ([]:List Value).toArray }=P2 at Mw IW ⊢
 have hC:P2.objs.size=s2.heap.objs.size+1:=by rw[<-K5,Qc3]
 have Mv:s2.heap.objs.size≠P2.objs.size:=by rw[hC];exact Qan (Qci _)
 have Mx:s2.heap.objs.size<=P2.objs.size:=by rw[hC];exact Qcn _
 have LS: ∀b,b<s2.heap.objs.size->b≠P2.objs.size:=fun b hb=>by rw[hC];exact Qan (Qcv hb)
 have old: ∀b o,s2.heap.get? b=some o->h₁.get? b=some o:=fun b o e=>IW.extBut b o (LS b (Qal e)) (Xm _ (K5▸Xm _ e))
 have uX:h₁.get? s2.heap.objs.size=some { cls:= .type "list",data:= .seq ([]:List Value).toArray }:=IW.extBut _ _ Mv (Xm _ (K5▸Qam _ rfl))
 have Xr:tn 0 h₁:=T.keep 0 _ _ yQ fun b _ o e=>old b o e
 have Rw: ∀b∈fp, ∃o,s2.heap.get? b=some o:=fun b hb=>let ⟨o,e,_⟩:=T.obj 0 _ yQ b hb;⟨o,e⟩
 have Xs: ∀b∈fp,s2.heap.objs.size≠b:=fun b hb=>let ⟨o,e⟩:=Rw b hb;Qep (Qal e)
 have IY:=zC I2 uV h_ i0 IV f2 Rw (t':=s2.toks+([]:List (Str×Value)).length) Mx Mw old
 have Vw: ∀b,s2.heap.objs.size<=b->b∉AZ X.stack:=fun b hb hs=>by
  rcases Zv.mp (I2.pT b hs) with z | z
  ·exact absurd (Qaw I2.lt hb) (by rw[z];exact Qbb _)
  ·exact I2.LQ hb z
 have lN: ∀{x:Str} {c:Addr},(je X.env scope.names []).lookup x=some c->X.env.cells.lookup x=some c:=fun {x c} e=>mV scope.names [] (fun y d q=>by simp at q) e
 have Rz: ∀x c,(je X.env scope.names []).lookup x=some c->c≠s2.heap.objs.size:=fun x c e z=>by
  obtain ⟨v,q⟩:=I2.cell x c (lN e)
  exact absurd (q.lt) (by rw[z];exact Qbb _)
 have fY: ∀{pl:List (Addr×Obj)} {H':Hp},(∀p∈pl,p.1=s2.heap.objs.size)->(∀b∈fp,H' b=none)-> ∀b∈fp,oF (b9 X scope P2.objs.size Nc s2 H2 fp) pl H' b:=fun {pl H'} j8 hn b hb=>by
  refine ⟨hn b hb,?_,?_, .inl hb,fun x c e=>(f2 b hb).2.2.2.2.1 x c (lN e),fun p hp=>?_⟩
  ·obtain ⟨o,e⟩:=Rw b hb
   exact LS b (Qal e)
  ·intro hs
   rcases Zv.mp (I2.pT b hs) with z | z
   ·exact (f2 b hb).2.1 z
   ·exact (f2 b hb).2.2.1 z
  ·rw[j8 p hp]
   exact Xs b hb
 have loop: ∀s₃:Shared,s₃={ s2 with heap:=h₁,toks:=s2.toks+([]:List (Str×Value)).length }->
   codeAny (model X.prog X.w) X.A (.compLoop (.ListComp elt [⟨tg,iter,ifs,0⟩] scope pos) 0 (.ref it) (.ref s2.heap.objs.size) (compEnvC scope (je X.env scope.names []) P2.objs.size X.env)) (RR (.ref s2.heap.objs.size) P2.objs.size) s₃:=by
  rintro s₃ rfl
  refine uU (fun n s'=> ∃i acc aO nn H',Inv (b9 X scope P2.objs.size Nc s2 H2 fp) [] (lM σ ix) H' s'/\tn i s'.heap/\(∀b∈fp,H' b=none)/\
   s'.heap.get? s2.heap.objs.size=some { cls:= .type "list",data:= .seq (aO:List Value).toArray nn }/\Vals acc aO/\H' s2.heap.objs.size=none/\W i n acc H') ?_ m0
   ⟨0,[],[],0,H2,IY,Xr,fun b hb=>(f2 b hb).1,uX, .nil,I2.cj.fresh (Tz _),w0⟩
  rintro n s3 ⟨i,acc,aO,nn,H3,I3,Q6,Q7,eD,rv,nD,w3⟩
  obtain ⟨hz,alt⟩:=turn i n acc H3 w3
  have IP:Inv (b9 X scope P2.objs.size Nc s2 H2 fp) [(s2.heap.objs.size,{ cls:= .type "list",data:= .seq aO.toArray nn })] (lM σ ix) H3 s3:=I3.lH fun p hp=>by
   have e:p=(s2.heap.objs.size,_):=Zt.mp hp
   subst e
   refine ⟨eD,nD,Mv,Vw _ (Tz _),fun v z=>?_⟩
   have z':Data.seq aO.toArray nn=Data.cell v:=z
   cases z'
  have j8: ∀p∈[(s2.heap.objs.size,({ cls:= .type "list",data:= .seq aO.toArray nn }:Obj))],p.1=s2.heap.objs.size:=fun p hp=>by
   have e:p=(s2.heap.objs.size,_):=Zt.mp hp
   rw[e]
  rcases alt with ⟨stop,fin⟩ | ⟨go,step⟩
  ·refine cD (T.done (b9 X scope P2.objs.size Nc s2 H2 fp) rfl rfl rfl kB i _ s3 _ H3 HZ IP (fY j8 Q7) Q6 stop) fun r s4 zz=>?_
   obtain ⟨hr,I4⟩:=zz
   subst hr
   obtain ⟨m,hn,_⟩:=id I4.loc
   obtain ⟨oC,es,ep,eC,dC,_⟩:=id hn
   have Zz:=(I4.pin (s2.heap.objs.size,_) (Qav _ (Zt.mpr rfl))).1
   have Vx:=fin _ nD
   refine Zy _ _ oC m _ s4 eC hn ?_ (CN I2 I4 f2 (Tz _) Mx Mv Zz rv (Qa5 hz) nD eC fun v z=>?_) Vx
   ·refine I2.pU Mx ?_
    rw[aD (Ne.symm Mv)]
    exact I4.free
   ·rw[dC]at z;cases z
  ·refine cD (T.item (b9 X scope P2.objs.size Nc s2 H2 fp) rfl rfl rfl kB i _ s3 _ H3 HZ IP (fY j8 Q7) Q6 go) fun r s4 zz=>?_
   obtain ⟨u,hr,h4⟩:=zz
   subst hr
   refine cD h4 fun _ s5 zz=>?_
   obtain ⟨x,H5,I5,r5,y5,L8,U_⟩:=zz
   have Va:=I5.pinned (fY j8 U_) (T.obj _ _ L8)
   refine cD (hG _ s2 H2 fp _ s5 _ H5 x u _ Va r5 (step x H5 y5)) fun _ s6 zz=>?_
   obtain ⟨σ6,H6,I6,wk,q6⟩:=zz
   refine cD (hT _ s2 H2 fp _ s6 σ6 H6 _ I6 q6) fun b s7 zz=>?_
   obtain ⟨H7,I7,q7⟩:=zz
   have again: ∀{H9:Hp} {s9:Shared} {m':Nat},Inv (b9 X scope P2.objs.size Nc s2 H2 fp) ([(s2.heap.objs.size,({ cls:= .type "list",data:= .seq aO.toArray nn }:Obj))]++pV fp s5.heap) σ6 H9 s9->
     (s9.heap.get? s2.heap.objs.size=some { cls:= .type "list",data:= .seq aO.toArray nn }/\H9 s2.heap.objs.size=none)/\tn (i+1) s9.heap/\(∀b∈fp,H9 b=none)/\Inv (b9 X scope P2.objs.size Nc s2 H2 fp) [] (lM σ ix) H9 s9:=fun {H9 s9 m'} I9=>by
    have pD:=I9.pin (s2.heap.objs.size,_) (Qav _ (Qbx _ (Zt.mpr rfl)))
    refine ⟨⟨pD.1,pD.2.1⟩,T.keep _ _ _ L8 fun b hb o e=>(I9.pin (b,o) (Qav _ (Qav _ (iM hb e)))).1,fun b hb=>?_,?_⟩
    ·obtain ⟨o,e,d⟩:=T.obj _ _ L8 b hb
     exact (I9.pin (b,o) (Qav _ (Qav _ (iM hb e)))).2.1
    ·exact (I9.weak wk.len fun i v e=>wk.get e).lH fun p hp=>absurd hp (by simp)
   cases b with
   | false=>
    rw[if_neg Qaq]at q7 ⊢
    obtain ⟨m',hm,w7⟩:=q7
    obtain ⟨⟨e7,n7⟩,t7,f7,J7⟩:=again (m':=0) I7
    exact ⟨m',hm,i+1,acc,aO,nn,H7,J7,t7,f7,e7,rv,n7,w7⟩
   | true=>
    rw[if_pos rfl]at q7 ⊢
    refine cD (hE _ s2 H2 fp _ s7 σ6 H7 _ I7 q7) fun y s8 zz=>?_
    obtain ⟨v,H8,I8,r8,m',hm,w8⟩:=zz
    obtain ⟨⟨e8,n8⟩,t8,f8,J8⟩:=again (m':=0) I8
    refine wpAny_list_append_plain (items:=aO.toArray) ⟨nn,e8⟩ (fun h9 ZA Xt=>?_) (by rw[Qac, <-rv.length];exact Qa5 hz)
    obtain ⟨n9,e9⟩:=ZA
    refine ⟨m',hm,i+1,acc++[v],aO++[y],n9,H8,J8.turned (t':=s8.toks) (fun b o hb e=>(Xt.2 b hb).trans e) n8 Mv (.inr (Tz _)) Rz (fun p hp=>absurd hp (by simp[b9])),?_,f8,?_,rv.append (.cons r8 .nil),n8,w8⟩
    ·exact T.keep _ _ _ t8 fun b hb o e=>(Xt.2 b (Ne.symm (Xs b hb))).trans e
    ·simpa using e9
 exact codeAny_compStart_list (loop _ rfl) (T.self _ 0 _ _ _ Xr (loop _ rfl))
theorem IX {X:Cx} {tg iter elt:Expr} {ifs:List Expr} {scope:Scope} {pos:Pos} {wi:TI} {g:TG} {tc:TT} {te:TE} (Nc:List Str) (ix:List (Option Nat)) (hi:PI X tg iter wi) (kB:X.calm=true) (uV:km X scope Nc ix)
  (h_: ∀y∈scope.names,y.2≠ .cell) (i0:scope.kind= .function) (IV: ∀y∈scope.names,y.2= .free->X.env.kindOf y.1=some .cell\/X.env.kindOf y.1=some .free)
  (zD: ∀x∈scope.names,x.2= .local->scope.names.lookup x.1=some .local)
  (hG: ∀C s H fp,PG (b9 X scope C Nc s H fp) tg g) (hT: ∀C s H fp,PF (b9 X scope C Nc s H fp) ifs tc) (hE: ∀C s H fp,PE (b9 X scope C Nc s H fp) elt te)
  (hs: ∀x,foldedSetIterable iter X.env x=pure x:=by intro _;rfl):PE X (.ListComp elt [⟨tg,iter,ifs,0⟩] scope pos) (xm wi ix g tc te):=by
 intro pins s σ H Q I h
 rw[eval_ListComp]
 have Oz: ∀y∈scope.names,y.2= .free-> ∃c,X.env.cells.lookup y.1=some c:=fun y hy e=>I.ok.has y.1 (IV y hy e)
 refine wpAny_comprehension_free (use:=none) rfl hs (kA Oz) i0 zD (sS hi kB uV h_ i0 IV hG hT hE I h (RR:=fun acc C=>compPost (model X.prog X.w) X.A X.xe none (EP X pins σ Q) acc C) ?_)
 intro D C oC m H' s' eC hn fC I' q
 refine ⟨m,hn,fun h' RA=>⟨.ref D,H',?_,rfl,q⟩⟩
 exact I'.jl.turned (t':=s'.toks) (fun b o hb e=>(RA.2 b hb).trans e) fC.1 fC.2.1 fC.2.2.2.1 fC.2.2.2.2.1 fC.2.2.2.2.2
theorem IZ {X:Cx} {i:Nat} {x:Str} {tg iter elt:Expr} {ifs:List Expr} {scope:Scope} {pos EM pos':Pos} {wi:TI} {g:TG} {tc:TT} {te:TE} (Nc:List Str) (ix:List (Option Nat)) (hN:X.N.Nodup) (RB:X.N[i]? =some x) (hx:Loc X.env.scope x)
  (zE:swapsWith (.ListComp elt [⟨tg,iter,ifs,0⟩] scope pos) (some (.Name x pos')) EM.line X.env=pure true) (hi:PI X tg iter wi) (kB:X.calm=true) (uV:km X scope Nc ix)
  (h_: ∀y∈scope.names,y.2≠ .cell) (i0:scope.kind= .function) (IV: ∀y∈scope.names,y.2= .free->X.env.kindOf y.1=some .cell\/X.env.kindOf y.1=some .free)
  (zD: ∀x∈scope.names,x.2= .local->scope.names.lookup x.1=some .local)
  (hG: ∀C s H fp,PG (b9 X scope C Nc s H fp) tg g) (hT: ∀C s H fp,PF (b9 X scope C Nc s H fp) ifs tc) (hE: ∀C s H fp,PE (b9 X scope C Nc s H fp) elt te)
  (hs: ∀x,foldedSetIterable iter X.env x=pure x:=by intro _;rfl) (hf:X.fn x=true\/X.env.scope.names.lookup x=some .local:=by first | exact .inl rfl | exact .inr rfl | assumption):
  PS X (.Assign [.Name x pos'] (.ListComp elt [⟨tg,iter,ifs,0⟩] scope pos) EM) (IB (xm wi ix g tc te) (wZ i)):=by
 intro pins s σ H E I h
 have Oz: ∀y∈scope.names,y.2= .free-> ∃c,X.env.cells.lookup y.1=some c:=fun y hy e=>I.ok.has y.1 (IV y hy e)
 rw[exec_Assign_Name_used _ _ _ _ zE]
 refine wpAny_bind (wpAny_standAt (wpAny_bind ?_))
 show wpAny _ X.A (do let _ <-comprehension (.ListComp elt [⟨tg,iter,ifs,0⟩] scope pos) scope X.env _ (newList []) false (eval iter X.env) (some (assign (.Name x pos') X.env))) _ _ s
 refine wpAny_bind (wpAny_mono (wpAny_comprehension_free (use:=some (assign (.Name x pos') X.env)) (Q:=fun _ s'=>SP X pins E .next s') rfl hs (kA Oz) i0 zD
  (sS hi kB uV h_ i0 IV hG hT hE I h (RR:=fun acc C=>compPost (model X.prog X.w) X.A X.xe (some (assign (.Name x pos') X.env)) (fun _ s'=>SP X pins E .next s') acc C) ?_)) (fun _ s' hq=>wpAny_pure (wpAny_pure hq)) fun _ _ e=>e)
 intro D C oC m H' s' eC hn fC I' q
 show wpAny _ X.A (assign (.Name x pos') X.env (.ref D)) _ _ _
 refine wpAny_assign_Name (eR I' hN RB hx (show RelV (.ref D) _ from rfl) (fun Me Xu=>?_) hf)
 have pC:=Xu.pin (C,oC) (Qav _ (Qav _ (Zt.mpr rfl)))
 refine ⟨m,?_,fun h' RA=>?_⟩
 ·obtain ⟨o,es,ep,e,r⟩:=hn
  rw[eC]at e;cases e
  exact ⟨oC,es,ep,pC.1,r⟩
 ·refine ⟨_,H',Xu.jl.turned (t':=Me.toks) (fun b o hb e=>(RA.2 b hb).trans e) fC.1 fC.2.1 fC.2.2.2.1 fC.2.2.2.2.1 fC.2.2.2.2.2,q⟩
noncomputable def S (l:List Nat):Str:=⟨l.toArray⟩
theorem fD (l:List Nat):(S l).cps.toList=l:=by simp[S]
theorem dR (l:List Nat):(S l).length=l.length:=by simp[S,Str.length]
theorem mW (l:List Nat):(S l).cps.size=l.length:=by simp[S]
theorem RC {a b:List Nat} (h:S a=S b):a=b:=by
 have:=congrArg (fun x:Str=>x.cps.toList) h
 simpa [S]using this
theorem RD (x:Str):x=S x.cps.toList:=by cases x;simp[S]
theorem RE (a b:List Nat):S a++S b=S (a++b):=by
 apply Str.ext'
 apply Qej.mp
 simp[S,Str.cps_append]
theorem K6 {a b:List Nat}:decide (V.str (S a)=V.str (S b))=decide (a=b):=by
 by_cases h:a=b
 ·subst h;simp
 ·rw[decide_eq_false h,decide_eq_false]
  intro q
  exact h (RC (V.str.inj q))
noncomputable def cut {α:Type} (xs:List α) (lo hi:Option Int):List α:=(xs.drop (HT.jq xs.length 0 lo)).take (HT.jq xs.length xs.length hi - HT.jq xs.length 0 lo)
theorem xn (n d:Nat) (v:Int):max 0 (min (if v<0 then v+(n:Int) else v) (n:Int))=((HT.jq n d (some v):Nat):Int):=by
 show _=(((if v<0 then (v+(n:Int)).toNat else min v.toNat n):Nat):Int)
 by_cases hv:v<0
 ·simp only[if_pos hv];omega
 ·simp only[if_neg hv];omega
theorem nY (lo hi:Option Int) (n:Nat):Builtin.Str.strSliceIndices lo hi 1 n=(List.range (HT.jq n n hi - HT.jq n 0 lo)).map (HT.jq n 0 lo+ ·):=by
 have h1:(1:Int)>0:=by decide
 rw[<-sliceRange_one]
 unfold Builtin.Str.strSliceIndices
 simp only[h1,if_true]
 congr 1
 ·cases lo with
  | none=>rfl
  | some v=>exact xn n 0 v
 ·cases hi with
  | none=>rfl
  | some v=>exact xn n n v
theorem I_ (l:List Nat) (lo hi:Option Int):Txt.slice (S l) lo hi=S (cut l lo hi):=by
 have hx:((Builtin.Str.strSliceIndices lo hi 1 (S l).length).filterMap ((S l).cps[·]?))=cut l lo hi:=by
  rw[dR,nY,pick_run,fD]
  rfl
 have hlen:(Builtin.Str.strSliceIndices lo hi 1 (S l).length).length=HT.jq l.length l.length hi - HT.jq l.length 0 lo:=by
  rw[dR,nY,Xl,Qce]
 unfold Txt.slice
 by_cases hc:((1:Int)==1&&(Builtin.Str.strSliceIndices lo hi 1 (S l).length).length==(S l).length)=true
 ·rw[if_pos hc]
  rw[hlen,dR]at hc
  have e:HT.jq l.length l.length hi - HT.jq l.length 0 lo=l.length:=by simpa using hc
  have h2:=HT.Mf l.length l.length (Tz _) hi
  have e0:HT.jq l.length 0 lo=0\/l.length=0:=by omega
  unfold cut
  rw[e]
  rcases e0 with z | z
  ·rw[z];simp
  ·have:l=[]:=Qdz z
   subst this
   simp
 ·rw[if_neg hc]
  rw[hx]
  rfl
section
variable {X:Cx}
theorem gv {x:Str} {j pos} (l:List Nat) (h:x=S l):PE X (.Constant (.str x) j pos) (tC (.str (S l))):=by
 subst h
 exact LW
def RF:R2:=fun x y H Q=> ∃a b,x= .str (S a)/\y= .str (S b)/\a.length+b.length<=sizeLine/\Q (.str (S (a++b))) H
theorem cf:iJ X (binaryOp .Add) RF:=by
 intro pins s σ H x y v u Q I rx ry h
 obtain ⟨a,b,rfl,rfl,hz,q⟩:=h
 exact zi pins s σ H _ _ v u Q I rx ry ⟨S a,S b,rfl,rfl,by rw[dR,dR];exact hz,by rw[RE];exact q⟩
def RG:R2:=fun x y H Q=> ∃l i c,x= .str (S l)/\y= .int i/\l.length<=sizeLine/\jc l i=some c/\Q (.str (S [c])) H
theorem eU:Mg X RG:=by
 intro value slice pins s σ H x y v u Q I rx ry h hs
 obtain ⟨l,i,c,rfl,rfl,hz,he,q⟩:=h
 exact Mi value slice pins s σ H _ _ v u Q I rx ry ⟨S l,i,c,rfl,rfl,by rw[dR];exact hz,by rw[fD];exact he,q⟩ hs
def Vy:V->Option Int->Option Int->Hp->VK->Prop:=fun x lo hi H Q=> ∃l,x= .str (S l)/\l.length<=sizeLine/\Q (.str (S (cut l lo hi))) H
theorem gF:Tv X Vy:=by
 intro pins s σ H x v vl vu lo hi sl Q I rx hs pl pu h
 obtain ⟨l,rfl,hz,q⟩:=h
 obtain ⟨t,rfl⟩:=rx
 refine ⟨"str",_,F.slot_str_getitem.lookup,typeIs_str _ _ _,?_⟩
 have key: ∀(a b:Option (Int×Tok)),vl=partValue a->vu=partValue b->a.map (·.1)=lo->b.map (·.1)=hi->wpAny (model X.prog X.w) X.A (getItem (.str (S l) t) (.ref sl)) (EP X pins σ Q) X.xe s:=by
  rintro a b rfl rfl rfl rfl
  obtain ⟨o,e,c,d⟩:=hs
  refine wpAny_getItem_str_slice (l:=a) (u:=b) (st:=none) ⟨o,e,c,d⟩ rfl (post_val_or_str ⟨?_,fun t' k=>?_⟩)
  ·exact Qao (Txt.slice_le (S l) _ _) (by rw[dR];exact hz)
  ·exact ⟨.str (S (cut l _ _)),H,I.tok _,⟨t',congrArg (fun z=>Value.str z t') (I_ l _ _)⟩,q⟩
 cases pl with
 | none=>
  cases pu with
  | none=>exact key none none rfl rfl rfl rfl
  | int i ti=>exact key none (some (i,ti)) rfl rfl rfl rfl
 | int i ti=>
  cases pu with
  | none=>exact key (some (i,ti)) none rfl rfl rfl rfl
  | int j tj=>exact key (some (i,ti)) (some (j,tj)) rfl rfl rfl rfl
theorem aM:dG X (.builtin "len") (fun xs H Q=> ∃l,xs=[.str (S l)]/\l.length<=sizeLine/\Q (.int l.length) H):=by
 intro pins s σ H xs us Q I r h
 obtain ⟨l,rfl,hz,q⟩:=h
 exact uR pins s σ H _ us Q I r ⟨S l,rfl,by rw[dR];exact hz,by rw[dR];exact q⟩
noncomputable def bN (l:List Nat):List V:=l.map fun c=>V.str (S [c])
theorem zF {l:List Nat}: ∀{acc:List Value},acc.length=l.length->(∀j v,acc[j]? =some v->SignAt (S l) j v)->Vals (bN l) acc:=by
 induction l with
 | nil=>intro acc h _;have:acc=[]:=Qdz h;subst this;exact .nil
 | cons c l ih=>
  intro acc h k
  cases acc with
  | nil=>cases h
  | cons a acc=>
   refine .cons ?_ (ih (by simpa using h) fun j v e=>?_)
   ·obtain ⟨c',u,e1,e2⟩:=k 0 a rfl
    have:c=c':=by simpa [S]using e1
    subst this
    exact ⟨u,e2⟩
   ·obtain ⟨c',u,e1,e2⟩:=k (j+1) v (by simpa using e)
    exact ⟨c',u,by simpa [S]using e1,e2⟩
theorem p5 (hc:X.calm=true):dG X (.type "list") (fun xs H Q=> ∃l,xs=[.str (S l)]/\l.length<=sizeLine/\ ∀p,H p=none->Q (.ref p) (upd H p (.lst (bN l)))):=by
 intro pins s σ H xs us Q I r h
 obtain ⟨l,rfl,hz,q⟩:=h
 obtain ⟨u,rfl,t,rfl⟩:=vals1 r
 refine call_list_str (I.ok.hd hc) (S l) t (fun h' tk eV c' hk e uX=>?_) (by rw[mW];exact hz)
 obtain ⟨h1,h2⟩:=uX
 rw[mW]at h1
 refine ⟨.ref s.heap.objs.size,_,I.laid (t':=tk) (o:= .lst (bN l)) hk (Tz _) ?_,rfl,q _ I.fresh⟩
 exact ⟨by unfold bN;rw[Xl];exact hz,eV.toList,c',zF (by simpa using h1) (fun j v e=>h2 j v (by simpa using e)),by simpa using e⟩
def Vz:R2:=fun x y H Q=> ∃c l,x= .str (S [c])/\y= .str (S l)/\Q (.bl (decide (c∈l))) H
theorem EN:iJ X (compareOp .In) Vz:=by
 intro pins s σ H x y v u Q I rx ry h
 obtain ⟨c,l,rfl,rfl,q⟩:=h
 refine Cw pins s σ H _ _ v u Q I rx ry ⟨S [c],S l,rfl,rfl,?_⟩
 have e:=StrLaws.found_one (S l) c
 rw[fD]at e
 rw[show (S [c])=(⟨#[c]⟩:Str) from rfl,e]
 exact q
end
theorem sU (s sub:Str) (hi:Nat): ∀(l:List Nat) (st:Array Nat×Nat),1<=st.fst.size->(forIn l st (StrLaws.occBody s sub hi 1)).run.fst=st.fst
 | [],st,h=>rfl
 | a::l,st,h=>by
  rw[Qd1]
  unfold StrLaws.occBody
  rw[if_neg (fun z=>absurd z.1.1.1 (Nat.not_lt.mpr h))]
  exact sU s sub hi l _ h
theorem occ_first (s sub:Str) (hi:Nat): ∀(l:List Nat) (free:Nat),(∀i∈l,free<=i)->
  (forIn l ((#[]:Array Nat),free) (StrLaws.occBody s sub hi 1)).run.fst.toList=(l.find? fun i=>decide (i+sub.length<=hi)&&Builtin.Str.subAt s sub i).toList
 | [],free,_=>rfl
 | a::l,free,hf=>by
  rw[Qd1,Qcu]
  unfold StrLaws.occBody
  have ha:free<=a:=hf a Zu
  by_cases hc:a+sub.length<=hi/\Builtin.Str.subAt s sub a=true
  ·rw[if_pos ⟨⟨⟨by simp,ha⟩,hc.1⟩,hc.2⟩]
   have:(decide (a+sub.length<=hi)&&Builtin.Str.subAt s sub a)=true:=by simp[hc]
   rw[this]
   show (forIn l (#[].push a,a+sub.length) (StrLaws.occBody s sub hi 1)).run.fst.toList=_
   rw[sU s sub hi l _ (by simp)]
   rfl
  ·rw[if_neg (fun z=>hc ⟨z.1.2,z.2⟩)]
   have:(decide (a+sub.length<=hi)&&Builtin.Str.subAt s sub a)=false:=by
    cases h1:decide (a+sub.length<=hi) with
    | false=>rfl
    | true=>
     cases h2:Builtin.Str.subAt s sub a with
     | false=>rfl
     | true=>exact absurd ⟨of_decide_eq_true h1,h2⟩ hc
   rw[this]
   exact occ_first s sub hi l free fun i ko=>hf i (Xn _ ko)
theorem subAt_one (l:List Nat) (c i:Nat):Builtin.Str.subAt (S l) (S [c]) i=(l[i]? ==some c):=by
 unfold Builtin.Str.subAt
 rw[dR]
 show ((S l).cps.extract i (i+1)== #[c])=_
 have e:((S l).cps.extract i (i+1))=((l.drop i).take 1).toArray:=by
  apply Qej.mp
  simp[S,List.take_drop]
 rw[e]
 by_cases h:i<l.length
 ·have e2:(l.drop i).take 1=[l[i]]:=by
   rw[Qbj h];rfl
  rw[e2,Mt h]
  by_cases hc:l[i]=c
  ·rw[hc];simp
  ·have h1:([l[i]].toArray== #[c])=false:=by
    rw[beq_eq_false_iff_ne]
    intro z
    apply hc
    have:=congrArg Array.toList z
    simpa using this
   have h2:(some l[i]==some c)=false:=by simpa using hc
   rw[h1,h2]
 ·have e2:(l.drop i).take 1=[]:=by rw[Qdp (by omega)];rfl
  rw[e2,Qct (by omega)]
  rfl
theorem p7 (l:List Nat) (c:Nat): ∀(k n:Nat),k+n=l.length+1->((List.range' k n).find? fun i=>decide (i+1<=l.length)&&(l[i]? ==some c))=if c∈l.drop k then some (k+(l.drop k).idxOf c) else none
 | k,0,h=>by
  have:l.drop k=[]:=Qdp (by omega)
  rw[this];simp
 | k,n+1,h=>by
  rw[List.range'_succ,Qcu]
  by_cases hk:k<l.length
  ·have e:l.drop k=l[k]::l.drop (k+1):=Qbj hk
   rw[Mt hk,e]
   by_cases hc:l[k]=c
   ·have:(decide (k+1<=l.length)&&(some l[k]==some c))=true:=by simp[hc];omega
    rw[this,if_pos (by simp[hc])]
    simp[hc]
   ·have:(decide (k+1<=l.length)&&(some l[k]==some c))=false:=by simp[hc]
    rw[this,p7 l c (k+1) n (by omega)]
    have rJ: ¬c=l[k]:=fun z=>hc z.symm
    by_cases hm:c∈l.drop (k+1)
    ·rw[if_pos hm,if_pos (Xn _ hm),List.idxOf_cons]
     have:(l[k]==c)=false:=by simpa using hc
     rw[this]
     show some (k+1+List.idxOf c (List.drop (k+1) l))=some (k+(List.idxOf c (List.drop (k+1) l)+1))
     congr 1
     omega
    ·rw[if_neg hm,if_neg (by intro z;rcases Zv.mp z with z | z;exact rJ z;exact hm z)]
  ·have:l.drop k=[]:=Qdp (by omega)
   have e1:(decide (k+1<=l.length)&&(l[k]? ==some c))=false:=by
    rw[decide_eq_false (by omega)];rfl
   have e2:l.drop (k+1)=[]:=Qdp (by omega)
   rw[e1,p7 l c (k+1) n (by omega),this,e2]
   simp
theorem K7 (l:List Nat) (c:Nat):Builtin.Str.occurrences (S l) (S [c]) 0 (S l).length 1=if c∈l then [l.idxOf c] else []:=by
 rw[StrLaws.occ_eq,occ_first _ _ _ _ 0 fun _ _=>Qad _]
 have e:(fun i=>decide (i+(S [c]).length<=(S l).length)&&Builtin.Str.subAt (S l) (S [c]) i)=fun i=>decide (i+1<=l.length)&&(l[i]? ==some c):=by
  funext i
  rw[subAt_one,dR,dR]
  rfl
 rw[e,dR,Nat.sub_zero,p7 l c 0 (l.length+1) (by omega),List.drop_zero]
 by_cases h:c∈l
 ·rw[if_pos h,if_pos h,Qeo];rfl
 ·rw[if_neg h,if_neg h];rfl
section
variable {X:Cx}
def Ja:V->List V->Hp->VK->Prop:=fun x vs H Q=> ∃l c,x= .str (S l)/\vs=[.str (S [c])]/\c∈l/\Q (.int (l.idxOf c:Nat)) H
theorem fE:A8 X "str.index" Ja:=by
 intro pins s σ H x xs v us Q I rx rv h
 obtain ⟨l,c,rfl,rfl,hc,q⟩:=h
 obtain ⟨t,rfl⟩:=rx
 obtain ⟨u,rfl,t',rfl⟩:=vals1 rv
 exact SC.index (i:=l.idxOf c) (rest:=[]) (by rw[K7,if_pos hc]) ⟨.int (l.idxOf c:Nat),H,I.tok _,⟨_,rfl⟩,q⟩
def Mz:V->List V->Hp->VK->Prop:=fun x vs H Q=> ∃l c,x= .str (S l)/\vs=[.str (S [c])]/\Q (.int (if c∈l then (l.idxOf c:Nat) else -1)) H
theorem xo:A8 X "str.find" Mz:=by
 intro pins s σ H x xs v us Q I rx rv h
 obtain ⟨l,c,rfl,rfl,q⟩:=h
 obtain ⟨t,rfl⟩:=rx
 obtain ⟨u,rfl,t',rfl⟩:=vals1 rv
 refine SC.find ⟨.int _,H,I.tok _,⟨_,rfl⟩,?_⟩
 have e:Txt.find (S l) (S [c])=(if c∈l then ((l.idxOf c:Nat):Int) else -1):=by
  unfold Txt.find
  rw[K7]
  by_cases h:c∈l
  ·rw[if_pos h,if_pos h]
  ·rw[if_neg h,if_neg h]
 rw[e]
 exact q
def K8 (f:Nat->Bool):V->List V->Hp->VK->Prop:=fun x vs H Q=> ∃c,x= .str (S [c])/\vs=[]/\c<128/\Q (.bl (f c)) H
def RH (f:Nat->Nat):V->List V->Hp->VK->Prop:=fun x vs H Q=> ∃c,x= .str (S [c])/\vs=[]/\c<128/\Q (.str (S [f c])) H
noncomputable def aJ (c:Nat):Bool:=decide (97<=c)&&decide (c<=122)
noncomputable def isUp (c:Nat):Bool:=decide (65<=c)&&decide (c<=90)
theorem Jb: ∀c,c<128->Txt.islower ⟨#[c]⟩=aJ c:=by decide+kernel
theorem MA: ∀c,c<128->Txt.isupper ⟨#[c]⟩=isUp c:=by decide+kernel
theorem kS:A8 X "str.islower" (K8 aJ):=by
 intro pins s σ H x xs v us Q I rx rv h
 obtain ⟨c,rfl,rfl,hc,q⟩:=h
 obtain ⟨t,rfl⟩:=rx
 have e:us=[]:=by cases rv;rfl
 subst e
 exact SC.islower ⟨.bl (aJ c),H,I,congrArg Value.bool (Jb c hc),q⟩
theorem zG:A8 X "str.isupper" (K8 isUp):=by
 intro pins s σ H x xs v us Q I rx rv h
 obtain ⟨c,rfl,rfl,hc,q⟩:=h
 obtain ⟨t,rfl⟩:=rx
 have e:us=[]:=by cases rv;rfl
 subst e
 exact SC.isupper ⟨.bl (isUp c),H,I,congrArg Value.bool (MA c hc),q⟩
theorem upper_one {c:Nat} (hc:c<128):Txt.upper (S [c])=S [up1 c]:=by
 rw[upper_ascii (by intro d hd;rw[fD]at hd;simp at hd;omega)]
 simp[S]
theorem sV {c:Nat} (hc:c<128):Txt.lower (S [c])=S [lo1 c]:=by
 rw[lower_ascii (by intro d hd;rw[fD]at hd;simp at hd;omega)]
 simp[S]
theorem K9 (c:Nat):Builtin.Str.tooLong (S [c]).length=false:=by
 rw[dR]
 show Builtin.Str.tooLong 1=false
 decide
theorem EO:A8 X "str.upper" (RH up1):=by
 intro pins s σ H x xs v us Q I rx rv h
 obtain ⟨c,rfl,rfl,hc,q⟩:=h
 obtain ⟨t,rfl⟩:=rx
 have e:us=[]:=by cases rv;rfl
 subst e
 exact SC.upper (by rw[upper_one hc];exact K9 _) ⟨.str (S [up1 c]),H,I.tok _,⟨_,congrArg (fun z=>Value.str z _) (upper_one hc)⟩,q⟩
theorem p8:A8 X "str.lower" (RH lo1):=by
 intro pins s σ H x xs v us Q I rx rv h
 obtain ⟨c,rfl,rfl,hc,q⟩:=h
 obtain ⟨t,rfl⟩:=rx
 have e:us=[]:=by cases rv;rfl
 subst e
 exact SC.lower (by rw[sV hc];exact K9 _) ⟨.str (S [lo1 c]),H,I.tok _,⟨_,congrArg (fun z=>Value.str z _) (sV hc)⟩,q⟩
theorem ER: ∀(ls:List (List Nat)) (a:Array Nat),(ls.map S).foldl (fun acc p=>acc++(S []).cps++p.cps) a=a++ls.flatten.toArray
 | [],a=>by simp
 | l::ls,a=>by
  rw[Qat,Qd2,ER ls]
  simp[S]
theorem MB (ls:List (List Nat)):Txt.join (S []) (ls.map S)=S ls.flatten:=by
 unfold Txt.join Builtin.Str.glued
 cases ls with
 | nil=>rfl
 | cons l ls=>
  show Str.mk ((List.map S ls).foldl (fun acc p=>acc++(S []).cps++p.cps) (S l).cps)=_
  rw[ER]
  simp[S]
theorem kT: ∀{ls:List (List Nat)} {us:List Value},Vals (ls.map fun l=>V.str (S l)) us->StrsAre us (ls.map S)
 | [],us,r=>by cases r;exact .nil
 | l::ls,us,r=>by
  cases r with
  | cons r1 r2=>
   obtain ⟨t,rfl⟩:=r1
   exact .cons _ t (kT r2)
def ES (K:PySem.W.Frag):V->List V->Hp->VK->Prop:=fun x vs H Q=> ∃(p:Addr) (ls:List (List Nat)),x= .str (S [])/\vs=[.ref p]/\bA K H p (ls.map fun l=>V.str (S l))/\(ls.map List.length).sum<=16777216/\Q (.str (S ls.flatten)) H
theorem ET:A8 X "str.join" (ES X.K):=by
 intro pins s σ H x xs v us Q I rx rv h
 obtain ⟨p,ls,rfl,rfl,hq,hz,q⟩:=h
 obtain ⟨t,rfl⟩:=rx
 obtain ⟨u,rfl,ru⟩:=vals1 rv
 cases ru
 obtain ⟨aO,r,pl,_⟩:=I.list hq
 have e:(S []).length=0:=rfl
 refine join_list pl.isList (by simpa using kT r) ?_ fun t' k=>?_
 ·rw[e,Nat.mul_zero,Qeq,Qb2]
  have e2:(Str.length ∘ S)=List.length:=by funext l;exact dR l
  have e3:((fun x:Str=>x.length) ∘ S)=List.length:=by funext l;exact dR l
  first | (rw[e2];exact hz) | (rw[e3];exact hz)
 ·exact ⟨.str (S ls.flatten),H,I.tok _,⟨t',congrArg (fun z=>Value.str z t') (MB ls)⟩,q⟩
theorem CO (hc:X.calm=true):dG X (.builtin "all") (fun xs H Q=> ∃(p:Addr) (bs:List Bool),xs=[.ref p]/\bA X.K H p (bs.map V.bl)/\Q (.bl (bs.all id)) H):=by
 intro pins s σ H xs us Q I r h
 obtain ⟨p,bs,rfl,hq,q⟩:=h
 obtain ⟨u,rfl,ru⟩:=vals1 r
 cases ru
 obtain ⟨aO,rv,pl,hz⟩:=I.list hq
 have hlen:aO.length=bs.length:=by rw[<-rv.length,Xl]
 have hp:p<s.heap.objs.size:=by
  obtain ⟨o,n,e,_⟩:=pl
  exact Qal e
 refine call_all_walk (wpAny_pyIter_list pl.isList ?_)
 refine ⟨s.heap.objs.size,_,_,_,_,_,fun i=>(bs[i]?).getD true,rfl,Walks.list (A:=X.A.in1) (I.ok.hd hc) s.heap.objs.size p (Qan hp) aO.toArray,⟨⟨_,Qam _ rfl,rfl,rfl⟩,?_⟩,fun i v s' Q' E' hP hQ=>?_,fun h' tk hk=>?_⟩
 ·obtain ⟨o,ho,hr⟩:=pl.isList
  exact ⟨o,Xm _ ho,hr⟩
 ·have TB:aO[i]? =some v:=by simpa using hP
  have hi:i<bs.length:=by rw[<-hlen];exact (Mu.mp TB).1
  have hb:(bs.map V.bl)[i]? =some (V.bl bs[i]):=by rw[Qak,Mt hi];rfl
  obtain ⟨u,hu,ru⟩:=rv.get hb
  rw[TB]at hu;cases hu
  cases (show v=Value.bool bs[i] from ru)
  have e:(bs[i]?).getD true=bs[i]:=by rw[Mt hi];rfl
  have Xv:Q' ((bs[i]?).getD true) s':=hQ
  rw[e]at Xv
  exact wpAny_pure Xv
 ·have e:((List.range aO.toArray.size).all fun i=>(bs[i]?).getD true)=bs.all id:=by
   rw[Qac,hlen]
   clear hq rv hlen q
   rw[Qdi,Qb9,Qb9]
   constructor
   ·intro h b hb
    obtain ⟨i,hi,e⟩:=Qdg hb
    have:=h i (Qbl.mpr hi)
    rw[Mt hi,e]at this
    exact this
   ·intro h i hi
    have ko:=Qbl.mp hi
    rw[Mt ko]
    exact h _ (Qas ko)
  have I1:Inv X pins σ H { s with heap:=h',toks:=tk }:=by
   have I0:Inv X pins σ H { s with heap:=s.heap.push { cls:= .type "list_iterator",data:= .fields #[.ref p, .int 0 0] } }:=I.kept (t':=s.toks) fun b o e=>Xm _ e
   have f:=I.pU (H':=H) (b:=s.heap.objs.size) (Tz _) I.fresh
   have J:=I0.turned (h':=h') (t':=tk) (it:=s.heap.objs.size) (fun b o hb e=>hk b o (by simpa using hb) e) f.1 f.2.1 f.2.2.2.1 f.2.2.2.2.1 f.2.2.2.2.2
   exact J
  exact ⟨.bl (bs.all id),H,I1,by rw[e];rfl,q⟩
end
end L2
namespace L2.F2
open PySem PySem.Spec PyProof.Rows
theorem sW:Manifest.owners.lookup (String.ofList ['d','e','s','r','e','v','e','r'].reverse)=some Manifest.sig_reversed:=by kernel_rfl
theorem dX:Slot "reversed" "__next__" "reversed.__next__":=
 .of (owner:="reversed") (n:="__next__") (by rw[typeLookup_type,builtinLookup_eq_fast];kernel_rfl) (by decide+kernel) (by decide+kernel) (by decide+kernel)
  (by first | exact .inl (by decide+kernel) | exact .inr (by decide+kernel)) (by rw[isSubtype_type];kernel_rfl)
theorem jt:entryFor table "reversed.__next__"=some Builtin.«reversed.__next__» :=entryFor_of_tree (by kernel_rfl)
theorem i4 (a:Value):argsOk "reversed.__next__" ⟨[a],[]⟩:=by
 unfold argsOk;rw[signature?_of (id:="reversed.__next__") (n:=['_','_','t','x','e','n','_','_']) (o:=['d','e','s','r','e','v','e','r']) (by kernel_rfl) sW];kernel_rfl
theorem kC:Slot "reversed" "__iter__" "reversed.__iter__":=
 .of (owner:="reversed") (n:="__iter__") (by rw[typeLookup_type,builtinLookup_eq_fast];kernel_rfl) (by decide+kernel) (by decide+kernel) (by decide+kernel)
  (by first | exact .inl (by decide+kernel) | exact .inr (by decide+kernel)) (by rw[isSubtype_type];kernel_rfl)
theorem oI (a:Value):argsOk "reversed.__iter__" ⟨[a],[]⟩:=by
 unfold argsOk;rw[signature?_of (id:="reversed.__iter__") (n:=['_','_','r','e','t','i','_','_']) (o:=['d','e','s','r','e','v','e','r']) (by kernel_rfl) sW];kernel_rfl
theorem p9:entryFor table "reversed.__iter__"=some Builtin.«dict_keyiterator.__iter__» :=
 entryFor_alias (id':="dict_keyiterator.__iter__") (by kernel_rfl) (by first | rfl | decide+kernel | (unfold String.splitOn;simp+decide [String.splitOnAux])) (by decide+kernel) (by kernel_rfl)
theorem rO:Slot "reversed" "__init__" "object.__init__":=
 .of (owner:="object") (n:="__init__") (by rw[typeLookup_type,builtinLookup_eq_fast];kernel_rfl) (by decide+kernel) (by decide+kernel) (by decide+kernel)
  (by first | exact .inl (by decide+kernel) | exact .inr (by decide+kernel)) (by rw[isSubtype_type];kernel_rfl)
theorem zH:TypeCalled "reversed" "reversed.__new__" "object.__init__":=
 ⟨by decide+kernel,by decide+kernel,⟨_,_,F.mro_reversed⟩,F.made_reversed,by decide+kernel,by rw[isSubtype_type];kernel_rfl,rO⟩
theorem zI:typeLookup (.type "str") "__reversed__"=pure none:=by rw[typeLookup_type,builtinLookup_eq_fast];kernel_rfl
end L2.F2
namespace L2
open PySem PySem.Spec PyProof.Rows
theorem p_ (x:Str) (t:Tok) (hz:x.length<=sizeLine):Meets (Builtin.«reversed.__new__» ⟨[.type "reversed", .str x t],[]⟩) (fun _ R s=> ∀tk,R (.ok (.ret (.ref s.heap.objs.size))) { s with heap:=s.heap.push { cls:= .type "reversed",data:= .fields #[.str x t,rawInt ((x.length:Int) - 1)] },toks:=tk }):=by
 refine Meets.of_wp fun prog w A R s h=>?_
 unfold Builtin.«reversed.__new__»
 refine wpAny_bind (wpAny_of_eq (newClass_reversed _) ?_)
 try dsimp only
 refine wpAny_bind (wpAny_of_eq (a:=()) (by first | rfl | kernel_rfl) ?_)
 refine wpAny_bind (wpAny_of_eq (a:=()) (by first | rfl | kernel_rfl) ?_)
 try dsimp only
 refine wpAny_bind (wpAny_specialOf (typeIs_str s x t) F2.zI ?_)
 try dsimp only
 refine wpAny_bind (wpAny_of_eq (a:=true) (by first | rfl | kernel_rfl) ?_)
 rw[if_neg (by decide)]
 have hn:=gE
 refine wpAny_bind (len_str (by omega) ?_)
 refine wpAny_bind (wpAny_of_eq (a:=some (x.length:Int)) (by first | rfl | kernel_rfl) ?_)
 show wpAny _ _ (Builtin.SmallTypes.newRecord (Value.type "reversed") [Value.str x t,rawInt ((x.length:Int) - 1)] >>= _) _ _ _
 refine wpAny_bind ?_
 unfold Builtin.SmallTypes.newRecord
 refine wpAny_newObj_type ?_ (by size_fits)
 exact wpAny_pure ⟨_,rfl,h _⟩
section
variable {prog:Program} {w:World} {A:Around} {E:Value->Shared->Prop} {s:Shared}
theorem qa {x:Str} {t:Tok} {Q:Value->Shared->Prop} (hz:x.length<=sizeLine) (h: ∀tk,Q (.ref s.heap.objs.size) { s with heap:=s.heap.push { cls:= .type "reversed",data:= .fields #[.str x t,rawInt ((x.length:Int) - 1)] },toks:=tk }):
  wpAny (model prog w) A (call (.type "reversed") [.str x t]) Q E s:=
 callType_new F2.zH (by decide+kernel) (F.typeCall_reversed_1 _) (F.newCall_reversed_1 _) (fun obj=>by unfold argsOk;kernel_rfl) F.entry_reversed_new (p_ x t hz)
  fun tk=>⟨⟨_,Qam _ rfl,rfl⟩,h tk⟩
def ju (h:Heap) (it:Addr) (x:Str) (t:Tok) (i:Int):Prop:= ∃o,h.get? it=some o/\o.cls= .type "reversed"/\o.data= .fields #[.str x t,rawInt i]
theorem ju.typeIs {it:Addr} {x:Str} {t:Tok} {i:Int} (h:ju s.heap it x t i):s.TypeIs (.ref it) "reversed":=let ⟨o,ho,hc,_⟩:=h;⟨o,ho,hc⟩
theorem qc {it:Addr} {x:Str} {t:Tok} {i:Int} {Q:Value->Shared->Prop} (hit:ju s.heap it x t i) (h:Q (.ref it) s):wpAny (model prog w) A (pyIter (.ref it)) Q E s:=by
 refine wpAny_pyIter_slot hit.typeIs F2.kC (wpAny_call_entry F2.kC hit.typeIs F2.p9 ?_ (F2.oI _))
 show wpAny _ _ (ret (.ref it)) _ _ s
 exact wpAny_pure ⟨_,rfl,"reversed",_,hit.typeIs,F2.dX.lookup,h⟩
theorem oJ {it:Addr} {x:Str} {t:Tok} {i c:Nat} {Q:Option Value->Shared->Prop} (hit:ju s.heap it x t (i:Int)) (hx:x.cps[i]? =some c) (hz:x.length<=sizeLine)
  (hQ: ∀h' tk u,ju h' it x t ((i:Int) - 1)->Heap.SameBut it s.heap h'->Q (some (.str ⟨#[c]⟩ u)) { s with heap:=h',toks:=tk }):wpAny (model prog w) A (pyNext (.ref it)) Q E s:=by
 obtain ⟨o,ho,hc,hd⟩:=id hit
 have hn:=gE
 have hi:i<x.length:=(Array.getElem?_eq_some_iff.mp hx).1
 unfold pyNext
 refine wpAny_bind (wpAny_attempt (wpAny_callSpecial?_slot (name:=Str.ofString "__next__") hit.typeIs F2.dX
  (wpAny_call_entry F2.dX hit.typeIs F2.jt ?_ (F2.i4 _))))
 unfold Builtin.«reversed.__next__»
 refine wpAny_bind (wpAny_of_eq (a:=(Value.ref it,[])) rfl ?_)
 try dsimp only
 refine wpAny_bind (wpAny_field ho hd (x:= .str x t) rfl ?_)
 refine wpAny_bind (wpAny_field ho hd (x:=rawInt (i:Int)) rfl ?_)
 show wpAny _ _ (if (i:Int)<0 then _ else _) _ _ s
 rw[if_neg (by omega)]
 refine wpAny_bind (wpAny_specialOf (typeIs_str s x t) F.slot_str_getitem.lookup ?_)
 show wpAny _ _ (if (some (Value.builtin _)).isNone=true then _ else _) _ _ s
 rw[if_neg (by decide)]
 refine wpAny_bind (wpAny_mkInt ?_)
 refine wpAny_bind (wpAny_attempt (getItem_str (c:=c) (by
  have e1:decide ((i:Int)< -(2 ^ 63:Int))=false:=decide_eq_false (by omega)
  have e2:decide ((i:Int) ≥ 2 ^ 63)=false:=decide_eq_false (by omega)
  rw[e1,e2,Qdy]) (by rw[seqIndex_of (by omega) (by omega),Xo];exact hx) ?_))
 show wpAny _ _ (field (Value.ref it) 1 >>= _) _ _ _
 refine wpAny_bind (wpAny_field ho hd (x:=rawInt (i:Int)) rfl ?_)
 show wpAny _ _ (setField (Value.ref it) 1 (rawInt ((i:Int) - 1)) >>= _) _ _ _
 refine wpAny_bind (wpAny_setField ho hd (by simp) ?_)
 refine wpAny_pure ⟨_,rfl,wpAny_pure (hQ _ _ _ ?_ (Qfq ..))⟩
 exact ⟨_,Qb7 _ ho (Obj.isFreed_of_fields (Obj.data_mapFields hd _)),(Obj.cls_mapFields ..).trans hc,by
  rw[Obj.data_mapFields hd];simp⟩
theorem qd {it:Addr} {x:Str} {t:Tok} {Q:Option Value->Shared->Prop} (hh:A.handled=none) (hit:ju s.heap it x t (-1))
  (hQ: ∀h',Heap.ExtBut it s.heap h'->Q none { s with heap:=h' }):wpAny (model prog w) A (pyNext (.ref it)) Q E s:=by
 obtain ⟨o,ho,hc,hd⟩:=id hit
 unfold pyNext
 refine wpAny_bind (wpAny_attempt (wpAny_callSpecial?_slot (name:=Str.ofString "__next__") hit.typeIs F2.dX
  (wpAny_call_entry F2.dX hit.typeIs F2.jt ?_ (F2.i4 _))))
 unfold Builtin.«reversed.__next__»
 refine wpAny_bind (wpAny_of_eq (a:=(Value.ref it,[])) rfl ?_)
 try dsimp only
 refine wpAny_bind (wpAny_field ho hd (x:= .str x t) rfl ?_)
 refine wpAny_bind (wpAny_field ho hd (x:=rawInt (-1)) rfl ?_)
 show wpAny _ _ (if (-1:Int)<0 then _ else _) _ _ s
 rw[if_pos (by decide)]
 refine wpAny_bind (wpAny_rule ?_)
 refine wpAny_bind ?_
 show wpAny _ _ (setField (Value.ref it) 1 (rawInt (-1)) >>= fun _=>setField (Value.ref it) 0 .none) _ _ _
 refine wpAny_bind (wpAny_setField ho hd (by simp) ?_)
 refine wpAny_setField (Qb7 _ ho (Obj.isFreed_of_fields (Obj.data_mapFields hd _))) (Obj.data_mapFields hd _) (by simp) ?_
 first
 | show wpAny _ _ (newExc (.type "StopIteration") [] >>= _) _ _ _
 |(refine wpAny_bind ?_;show wpAny _ _ (newExc (.type "StopIteration") [] >>= _) _ _ _)
 refine wpAny_bind ?_
 simp only[newExc,newTuple]
 refine wpAny_bind (wpAny_newObj_type ?_ (by size_fits))
 refine wpAny_bind (m:=firstArgMember _ _) (wpAny_of_eq (a:=Value.none) (by first | rfl | (simp only[firstArgMember];rfl)) ?_)
 refine wpAny_newObj_type ?_ (by size_fits)
 simp only[raiseNew]
 refine wpAny_bind (wpAny_handled ?_)
 first | rw[show A.in1.handled=none from hh] | rw[hh]
 refine wpAny_bind (wpAny_pure (wpAny_throw ?_))
 refine wpAny_bind (wpAny_isInstance (T:="StopIteration") (b:=true) ⟨_,Qam _ rfl,rfl⟩ isSubtype_stop ?_)
 refine wpAny_pure (hQ _ fun b ob hb e=>?_)
 refine Xm _ (Xm _ ?_)
 exact (Qbi _ _ (Ne.symm hb)).trans ((Qbi _ _ (Ne.symm hb)).trans e)
end
noncomputable def Jc (xs:List V):It:=⟨fun i _=>i<xs.length,fun i H x H'=>H'=H/\xs[i]? =some x,fun i _=>xs.length<=i⟩
theorem fN {l:List Nat} {i:Nat} {x:V} (h:(bN l)[i]? =some x): ∃c,l[i]? =some c/\x= .str (S [c]):=by
 unfold bN at h
 rw[Qak]at h
 cases e:l[i]? with
 | none=>rw[e]at h;cases h
 | some c=>rw[e]at h;cases h;exact ⟨c,rfl,rfl⟩
theorem aY (l:List Nat):(bN l).length=l.length:=by unfold bN;rw[Xl]
theorem EU {P:Program} {w:World} {K:PySem.W.Frag} {tg:Expr} (it:Addr) (l:List Nat) (t:Tok):Turn P w K tg (Jc (bN l)) [it] it (fun i h=>h.IsStrIter it (strIterType (S l)) (S l) t i) where
 mem:=by simp
 obj:=fun i h st b hb=>by
  have e:b=it:=by simpa using hb
  subst e
  obtain ⟨o,e,c,d⟩:=st
  exact ⟨o,e,fun v z=>by rw[d]at z;cases z⟩
 keep:=fun i h h' st k=>let ⟨o,e,r⟩:=st;⟨o,k it (by simp) o e,r⟩
 item:=by
  intro X hP hw hK hc i pins s σ H E I hf st hg
  subst hP hw hK
  have MC:i<l.length:=by have:i<(bN l).length:=hg;rwa [aY]at this
  obtain ⟨f0,f1,f2,f3,f4,f5⟩:=hf it (by simp)
  have fin: ∀(v:Value) (h':Heap) (tk:Nat),SignAt (S l) i v->h'.IsStrIter it (strIterType (S l)) (S l) t (i+1)->(∀b o,b∉[it]->s.heap.get? b=some o->h'.get? b=some o)->
    ∃u,some v=some u/\wpAny (model X.prog X.w) X.A (letOwnedTupleGo tg (.ref it) u) (fun _ s2=> ∃x H',Inv X pins σ H' s2/\RelV x u/\(Jc (bN l)).Ee i H x H'/\s2.heap.IsStrIter it (strIterType (S l)) (S l) t (i+1)/\ ∀b∈[it],H' b=none) E { s with heap:=h',toks:=tk }:=by
   intro v h' tk hv wQ kk
   obtain ⟨c,u,e1,e2⟩:=hv
   subst e2
   have I1:Inv X pins σ H { s with heap:=h',toks:=tk }:=I.turned (fun b o hb e=>kk b o (by simpa using hb) e) f0 f1 f3 f4 f5
   obtain ⟨o,e,cc,d⟩:=id wQ
   refine ⟨_,rfl,w_ (s:={ s with heap:=h',toks:=tk }) e cc d (by unfold strIterType;split<;>decide) ⟨.str (S [c]),H,I1,⟨u,rfl⟩,⟨rfl,?_⟩,wQ,fun b hb=>(hf b hb).1⟩⟩
   unfold bN
   rw[Qak]
   have EV:l[i]? =some c:=by simpa [S]using e1
   rw[EV]
   rfl
  have hsz:i<(S l).cps.size:=by rw[mW];exact MC
  by_cases ha:(S l).cps.all (· <128)=true
  ·have et:strIterType (S l)="str_ascii_iterator":=by unfold strIterType;rw[if_pos ha]
   rw[et]at st
   exact (Walks.strAscii (prog:=X.prog) (w:=X.w) (I.ok.hd hc) it (S l) t).item i s _ _ hsz st fun v h' tk hv wQ kk=>fin v h' tk hv (by rw[et];exact wQ) kk
  ·have et:strIterType (S l)="str_iterator":=by unfold strIterType;rw[if_neg ha]
   rw[et]at st
   exact (Walks.strWide (prog:=X.prog) (w:=X.w) (I.ok.hd hc) it (S l) t).item i s _ _ hsz st fun v h' tk hv wQ kk=>fin v h' tk hv (by rw[et];exact wQ) kk
 done:=by
  intro X hP hw hK hc i pins s σ H E I hf st hg
  subst hP hw hK
  obtain ⟨f0,f1,f2,f3,f4,f5⟩:=hf it (by simp)
  have MC:l.length<=i:=by have:(bN l).length<=i:=hg;rwa [aY]at this
  have hx:(S l).cps[i]? =none:=by rw[Array.getElem?_eq_none_iff,mW];exact MC
  by_cases ha:(S l).cps.all (· <128)=true
  ·have et:strIterType (S l)="str_ascii_iterator":=by unfold strIterType;rw[if_pos ha]
   rw[et]at st
   exact wpAny_pyNext_ascii_end (I.ok.hd hc) st hx fun h' eb=>⟨rfl,I.turned (t':=s.toks) (fun b o hb e=>eb b o hb e) f0 f1 f3 f4 f5⟩
  ·have et:strIterType (S l)="str_iterator":=by unfold strIterType;rw[if_neg ha]
   rw[et]at st
   exact wpAny_pyNext_wide_end (I.ok.hd hc) st hx fun h' eb=>⟨rfl,I.turned (t':=s.toks) (fun b o hb e=>eb b o hb e) f0 f1 f3 f4 f5⟩
 self:=fun _ _ s _ _ st h=>by
  by_cases ha:(S l).cps.all (· <128)=true
  ·have et:strIterType (S l)="str_ascii_iterator":=by unfold strIterType;rw[if_pos ha]
   rw[et]at st
   exact wpAny_pyIter_striter_ascii st h
  ·have et:strIterType (S l)="str_iterator":=by unfold strIterType;rw[if_neg ha]
   rw[et]at st
   exact wpAny_pyIter_striter_wide st h
theorem EW {P:Program} {w:World} {K:PySem.W.Frag} {tg:Expr} (it:Addr) (l:List Nat) (t:Tok) (hz:l.length<=sizeLine):Turn P w K tg (Jc (bN l).reverse) [it] it (fun i h=>i<=l.length/\ju h it (S l) t ((l.length:Int) - 1 - (i:Int))) where
 mem:=by simp
 obj:=fun i h st b hb=>by
  have e:b=it:=by simpa using hb
  subst e
  obtain ⟨_,o,e,c,d⟩:=st
  exact ⟨o,e,fun v z=>by rw[d]at z;cases z⟩
 keep:=fun i h h' st k=>let ⟨q,o,e,r⟩:=st;⟨q,o,k it (by simp) o e,r⟩
 item:=by
  intro X hP hw hK hc i pins s σ H E I hf st hg
  subst hP hw hK
  have MC:i<l.length:=by have:i<(bN l).reverse.length:=hg;rwa [Qa6,aY]at this
  obtain ⟨f0,f1,f2,f3,f4,f5⟩:=hf it (by simp)
  obtain ⟨_,st⟩:=st
  have e:(l.length:Int) - 1 - (i:Int)=((l.length - 1 - i:Nat):Int):=by omega
  rw[e]at st
  have cZ:l.length - 1 - i<l.length:=by omega
  refine oJ (c:=l[l.length - 1 - i]) st (by simp[S,cZ]) (by rw[dR];exact hz) fun h' tk u wQ sb=>?_
  have I1:Inv X pins σ H { s with heap:=h',toks:=tk }:=I.turned (fun b o hb e=>(sb.2 b hb).trans e) f0 f1 f3 f4 f5
  obtain ⟨o,e1,cc,d⟩:=id wQ
  refine ⟨_,rfl,w_ (s:={ s with heap:=h',toks:=tk }) e1 cc d (by decide) ⟨.str (S [l[l.length - 1 - i]]),H,I1,⟨u,rfl⟩,⟨rfl,?_⟩,⟨MC,?_⟩,fun b hb=>(hf b hb).1⟩⟩
  ·rw[Qdt (by rw[aY];exact MC),aY]
   unfold bN
   rw[Qak,Mt cZ]
   rfl
  ·have e2:(l.length:Int) - 1 - ((i+1:Nat):Int)=((l.length - 1 - i:Nat):Int) - 1:=by omega
   rw[e2]
   exact wQ
 done:=by
  intro X hP hw hK hc i pins s σ H E I hf st hg
  subst hP hw hK
  obtain ⟨f0,f1,f2,f3,f4,f5⟩:=hf it (by simp)
  have MC:l.length<=i:=by have:(bN l).reverse.length<=i:=hg;rwa [Qa6,aY]at this
  obtain ⟨hi,st⟩:=st
  have e:(l.length:Int) - 1 - (i:Int)= -1:=by omega
  rw[e]at st
  exact qd (I.ok.hd hc) st fun h' eb=>⟨rfl,I.turned (t':=s.toks) (fun b o hb e=>eb b o hb e) f0 f1 f3 f4 f5⟩
 self:=fun _ _ _ _ _ st h=>qc st.2 h
section
variable {X:Cx} {tg:Expr}
def VA (tl:TE):TI:=fun σ H R=>tl σ H fun x H1=> ∃l,x= .str (S l)/\R (Jc (bN l)) H1
theorem kU {l:Expr} {tl:TE} (hl:PE X l tl):PI X tg l (VA tl):=by
 intro pins s σ H R I h
 refine cD (hl pins s σ H _ I h) fun v s1 ⟨x,H1,I1,r1,q1⟩=>?_
 obtain ⟨l,rfl,q⟩:=q1
 obtain ⟨t,rfl⟩:=r1
 refine wpAny_pyIter_strU ?_
 refine ⟨s1.heap.objs.size,[s1.heap.objs.size],_,_,H1,rfl,I1.kept (t':=s1.toks) fun b o e=>Xm _ e,EU _ l t,⟨_,Qam _ rfl,rfl,rfl⟩,fun b hb=>?_,q⟩
 have e:b=s1.heap.objs.size:=by simpa using hb
 subst e
 exact I1.pU (Tz _) (I1.cj.fresh (Tz _))
def VB (ta:TA):TI:=fun σ H R=>ta σ H fun vs H1=> ∃l,vs=[.str (S l)]/\l.length<=sizeLine/\R (Jc (bN l).reverse) H1
theorem EX {a:Expr} {ta:TA} {p pos:Pos} (hg:Gl X "reversed") (hm:X.mg "reversed"=none) (ha:PA X [a] ta) (hs:starEach [a] X.env=[(false,eval a X.env)]:=by rfl):PI X tg (.Call (.Name "reversed" p) [a] [] pos) (VB ta):=by
 intro pins s σ H R I h
 refine Call_ (gg I hg hm boot_reversed (Qbe (cD (ha pos pins s σ H _ I h) fun us s1 ⟨vs,H1,I1,r1,q1⟩=>?_) hs rfl))
 obtain ⟨l,rfl,hz,q⟩:=q1
 obtain ⟨u,rfl,t,rfl⟩:=vals1 r1
 refine qa (by rw[dR];exact hz) fun tk=>?_
 have hit:ju (s1.heap.push { cls:= .type "reversed",data:= .fields #[.str (S l) t,rawInt (((S l).length:Int) - 1)] }) s1.heap.objs.size (S l) t (((S l).length:Int) - 1):=⟨_,Qam _ rfl,rfl,rfl⟩
 refine qc hit ?_
 refine ⟨s1.heap.objs.size,[s1.heap.objs.size],_,_,H1,rfl,I1.kept (t':=tk) fun b o e=>Xm _ e,EW _ l t hz,⟨Qad _,?_⟩,fun b hb=>?_,q⟩
 ·have e:(l.length:Int) - 1 - ((0:Nat):Int)=((S l).length:Int) - 1:=by rw[dR];simp
  rw[e]
  exact hit
 ·have e:b=s1.heap.objs.size:=by simpa using hb
  subst e
  exact I1.pU (Tz _) (I1.cj.fresh (Tz _))
end
theorem uY {xs:List V} {g:TG} {tb:TS} {D:Ends} {σ:St} {H:Hp} (Pv:Nat->St->Hp->Prop) (h0:Pv 0 σ H)
  (hs: ∀i x σ H,xs[i]? =some x->Pv i σ H->g x σ H fun σ2 H2=>tb { D with nx:=Pv (i+1),ct:=Pv (i+1),bk:=D.nx } σ2 H2) (hd: ∀σ H,Pv xs.length σ H->D.nx σ H):
  ∃W:Nat->Nat->St->Hp->Prop,(∃m,W 0 m σ H)/\ ∀i m σ H,W i m σ H->
   ((Jc xs).stop i H/\D.nx σ H)\/((Jc xs).go i H/\ ∃N:St->Hp->Prop,(∀σ' H',N σ' H'-> ∃m',m'<m/\W (i+1) m' σ' H')/\ ∀x H',(Jc xs).Ee i H x H'->g x σ H' fun σ2 H2=>tb { D with nx:=N,ct:=N,bk:=D.nx } σ2 H2):=by
 refine ⟨fun i m σ H=>m=xs.length - i/\i<=xs.length/\Pv i σ H,⟨xs.length,by simp,Qad _,h0⟩,?_⟩
 rintro i m σ H ⟨rfl,hi,p⟩
 by_cases cZ:i<xs.length
 ·refine .inr ⟨cZ,Pv (i+1),fun σ' H' p'=>⟨xs.length - (i+1),by omega,rfl,cZ,p'⟩,fun x H' y=>?_⟩
  obtain ⟨e,y⟩:=y
  subst e
  exact hs i x σ _ y p
 ·have e:i=xs.length:=by omega
  subst e
  exact .inl ⟨Tz _,hd σ H p⟩
theorem o7 {J:It} {n:Nat} {xs:Nat->V->Prop} {σc:St} {g:TG} {tc:TT} {te:TE} {Q:VK} {H1:Hp} (Pv:Nat->List V->Hp->Prop) (hn:n<sizeLine) (VC: ∀i acc H,i<n->Pv i acc H->J.go i H) (RI: ∀acc H,Pv n acc H->J.stop n H)
  (hy: ∀i acc H x H',i<n->Pv i acc H->J.Ee i H x H'->H'=H/\xs i x) (h0:Pv 0 [] H1)
  (hs: ∀(i:Nat) (x:V) (acc:List V) (H:Hp) (Nx:List V->Hp->Prop),i<n->xs i x->acc.length<=i->Pv i acc H->(∀eV H',eV.length<=i+1->Pv (i+1) eV H'->Nx eV H')->
   g x σc H fun σ2 H2=>Wk σc σ2/\tc σ2 H2 fun b H3=>if b=true then te σ2 H3 fun v H4=>Nx (acc++[v]) H4 else Nx acc H3)
  (hd: ∀acc H D,acc.length<=n->Pv n acc H->H D=none->Q (.ref D) (upd H D (.lst acc))):sR J σc g tc te Q H1:=by
 refine ⟨fun i m acc H=>m=n - i/\i<=n/\acc.length<=i/\Pv i acc H,⟨n,by simp,Qad _,Tz _,h0⟩,?_⟩
 rintro i m acc H ⟨rfl,hi,hl,p⟩
 refine ⟨by omega,?_⟩
 by_cases cZ:i<n
 ·refine .inr ⟨VC i acc H cZ p,fun x H' y=>?_⟩
  obtain ⟨rfl,y2⟩:=hy i acc H x H' cZ p y
  exact hs i x acc _ (fun eV H'=> ∃m',m'<n - i/\(m'=n - (i+1)/\i+1<=n/\eV.length<=i+1/\Pv (i+1) eV H')) cZ y2 hl p fun eV H' h1 h2=>⟨n - (i+1),by omega,rfl,cZ,h1,h2⟩
 ·have e:i=n:=by omega
  subst e
  exact .inl ⟨RI acc H p,fun D hD=>hd acc H D hl p hD⟩
theorem ig {xs:List V} {σc:St} {g:TG} {tc:TT} {te:TE} {Q:VK} {H1:Hp} (Pv:Nat->List V->Hp->Prop) (hn:xs.length<sizeLine) (h0:Pv 0 [] H1)
  (hs: ∀(i:Nat) (x:V) (acc:List V) (H:Hp) (Nx:List V->Hp->Prop),i<xs.length->xs[i]? =some x->acc.length<=i->Pv i acc H->(∀eV H',eV.length<=i+1->Pv (i+1) eV H'->Nx eV H')->
   g x σc H fun σ2 H2=>Wk σc σ2/\tc σ2 H2 fun b H3=>if b=true then te σ2 H3 fun v H4=>Nx (acc++[v]) H4 else Nx acc H3)
  (hd: ∀acc H D,acc.length<=xs.length->Pv xs.length acc H->H D=none->Q (.ref D) (upd H D (.lst acc))):sR (Jc xs) σc g tc te Q H1:=
 o7 (xs:=fun i x=>xs[i]? =some x) Pv hn (fun i _ _ h _=>h) (fun _ _ _=>Tz _) (fun i _ H x H' _ _ y=>y) h0 hs hd
theorem jv {lo:Int} {n:Nat} {σc:St} {g:TG} {tc:TT} {te:TE} {Q:VK} {H1:Hp} (Pv:Nat->List V->Hp->Prop) (hn:n<sizeLine) (h0:Pv 0 [] H1)
  (hs: ∀(i:Nat) (acc:List V) (H:Hp) (Nx:List V->Hp->Prop),i<n->acc.length<=i->Pv i acc H->(∀eV H',eV.length<=i+1->Pv (i+1) eV H'->Nx eV H')->
   g (.int (lo+i)) σc H fun σ2 H2=>Wk σc σ2/\tc σ2 H2 fun b H3=>if b=true then te σ2 H3 fun v H4=>Nx (acc++[v]) H4 else Nx acc H3)
  (hd: ∀acc H D,acc.length<=n->Pv n acc H->H D=none->Q (.ref D) (upd H D (.lst acc))):sR (KY lo n) σc g tc te Q H1:=
 o7 (xs:=fun i x=>x= .int (lo+i)) Pv hn (fun i _ _ h _=>h) (fun _ _ _=>Tz _) (fun i _ H x H' _ _ y=>y) h0 (fun i x acc H Nx h1 h2=>by subst h2;exact hs i acc H Nx h1) hd
theorem ik {K:PySem.W.Frag} {a:Addr} {xs:List V} {σc:St} {g:TG} {tc:TT} {te:TE} {Q:VK} {H1:Hp} (Pv:Nat->List V->Hp->Prop) (hn:xs.length<sizeLine) (hl: ∀i acc H,Pv i acc H->bA K H a xs) (h0:Pv 0 [] H1)
  (hs: ∀(i:Nat) (x:V) (acc:List V) (H:Hp) (Nx:List V->Hp->Prop),i<xs.length->xs[i]? =some x->acc.length<=i->Pv i acc H->(∀eV H',eV.length<=i+1->Pv (i+1) eV H'->Nx eV H')->
   g x σc H fun σ2 H2=>Wk σc σ2/\tc σ2 H2 fun b H3=>if b=true then te σ2 H3 fun v H4=>Nx (acc++[v]) H4 else Nx acc H3)
  (hd: ∀acc H D,acc.length<=xs.length->Pv xs.length acc H->H D=none->Q (.ref D) (upd H D (.lst acc))):sR (Ot K a) σc g tc te Q H1:=
 o7 (xs:=fun i x=>xs[i]? =some x) Pv hn (fun i acc H h p=>⟨xs,xs[i],hl i acc H p,by simp[h]⟩) (fun acc H p=>⟨xs,hl _ acc H p,Tz _⟩) (fun i acc H x H' h p y=>⟨y.1,y.2 xs (hl i acc H p)⟩) h0 hs hd
def Jd (c:TT) (tb:TS):TS:=fun D σ H=> ∃W:Nat->St->Hp->Prop,(∃m,W m σ H)/\ ∀m σ H,W m σ H->
 c σ H fun b H1=>if b=true then tb { D with nx:=fun σ' H'=> ∃m',m'<m/\W m' σ' H',ct:=fun σ' H'=> ∃m',m'<m/\W m' σ' H',bk:=D.nx } σ H1 else D.nx σ H1
theorem bZ {X:Cx} {c:Expr} {body:List Stmt} {tc:TT} {tb:TS} {pos:Pos} (hp:PassesOwn (model X.prog X.w) X.A X.env X.xe) (hc:PT X c tc) (hb:y9 X body tb):PS X (.While c body [] pos) (Jd tc tb):=by
 intro pins s σ H D I h
 obtain ⟨W,⟨m0,w0⟩,turn⟩:=h
 refine wpAny_While (codeAny_whileLoop (fun n s'=> ∃σ' H',Inv X pins σ' H' s'/\W n σ' H') ?_ m0 ⟨σ,H,I,w0⟩)
 rintro n s1 ⟨σ1,H1,I1,w1⟩
 refine wpAny_passesOwn hp (cD (hc pins s1 σ1 H1 _ I1 (turn n σ1 H1 w1)) fun b s2 ⟨H2,I2,q2⟩=>?_)
 cases b with
 | true=>
  rw[if_pos rfl]at q2 ⊢
  refine wpAny_passesOwn hp (cD (hb pins s2 σ1 H2 _ I2 q2) fun f s3 q3=>?_)
  cases f with
  | next=>
   obtain ⟨σ3,H3,I3,m',hm,w3⟩:=q3
   exact ⟨m',hm,σ3,H3,I3,w3⟩
  | cont=>
   obtain ⟨σ3,H3,I3,m',hm,w3⟩:=q3
   exact ⟨m',hm,σ3,H3,I3,w3⟩
  | brk=>exact q3
  | ret v=>exact q3
 | false=>
  rw[if_neg Qaq]at q2 ⊢
  exact wpAny_execs_nil ⟨σ1,H2,I2,q2⟩
noncomputable def uZ (X:Cx) (scope:Scope):Bool:=(scope.names.all fun y=>y.2 != .cell)&&(scope.kind== .function)&&(scope.names.all fun y=>y.2 != .free||X.env.kindOf y.1==some .cell||X.env.kindOf y.1==some .free)&&(scope.names.all fun y=>y.2 != .local||scope.names.lookup y.1==some .local)
theorem lO {X:Cx} {scope:Scope} (h:uZ X scope=true):(∀y∈scope.names,y.2≠ .cell)/\scope.kind= .function/\(∀y∈scope.names,y.2= .free->X.env.kindOf y.1=some .cell\/X.env.kindOf y.1=some .free)/\(∀x∈scope.names,x.2= .local->scope.names.lookup x.1=some .local):=by
 unfold uZ at h
 simp only[Qbq]at h
 obtain ⟨⟨⟨h1,h2⟩,h3⟩,h4⟩:=h
 refine ⟨fun y hy e=>?_,by simpa using h2,fun y hy e=>?_,fun y hy e=>?_⟩
 ·have:=Qb9.mp h1 y hy
  rw[e]at this;simp at this
 ·have:=Qb9.mp h3 y hy
  rw[e]at this
  simpa using this
 ·have:=Qb9.mp h4 y hy
  rw[e]at this
  simpa using this
theorem cn {X:Cx} {tg iter elt:Expr} {ifs:List Expr} {scope:Scope} {pos:Pos} {wi:TI} {g:TG} {tc:TT} {te:TE} (Nc:List Str) (ix:List (Option Nat)) (hi:PI X tg iter wi) (uV:km X scope Nc ix)
  (hG: ∀C s H fp,PG (b9 X scope C Nc s H fp) tg g) (hT: ∀C s H fp,PF (b9 X scope C Nc s H fp) ifs tc) (hE: ∀C s H fp,PE (b9 X scope C Nc s H fp) elt te) (cj:uZ X scope=true:=by rfl) (kB:X.calm=true:=by rfl)
  (hs: ∀x,foldedSetIterable iter X.env x=pure x:=by intro _;rfl):PE X (.ListComp elt [⟨tg,iter,ifs,0⟩] scope pos) (xm wi ix g tc te):=
 let ⟨h1,h2,h3,h4⟩:=lO cj
 IX Nc ix hi kB uV h1 h2 h3 h4 hG hT hE hs
theorem fT {X:Cx} {i:Nat} {x:Str} {tg iter elt:Expr} {ifs:List Expr} {scope:Scope} {pos EM pos':Pos} {wi:TI} {g:TG} {tc:TT} {te:TE} (Nc:List Str) (ix:List (Option Nat)) (hN:X.N.Nodup) (RB:X.N[i]? =some x) (hx:Loc X.env.scope x)
  (hi:PI X tg iter wi) (uV:km X scope Nc ix)
  (hG: ∀C s H fp,PG (b9 X scope C Nc s H fp) tg g) (hT: ∀C s H fp,PF (b9 X scope C Nc s H fp) ifs tc) (hE: ∀C s H fp,PE (b9 X scope C Nc s H fp) elt te)
  (zE:swapsWith (.ListComp elt [⟨tg,iter,ifs,0⟩] scope pos) (some (.Name x pos')) EM.line X.env=pure true:=by rfl) (cj:uZ X scope=true:=by rfl) (kB:X.calm=true:=by rfl)
  (hs: ∀x,foldedSetIterable iter X.env x=pure x:=by intro _;rfl) (hf:X.fn x=true\/X.env.scope.names.lookup x=some .local:=by first | exact .inl rfl | exact .inr rfl | assumption):
  PS X (.Assign [.Name x pos'] (.ListComp elt [⟨tg,iter,ifs,0⟩] scope pos) EM) (IB (xm wi ix g tc te) (wZ i)):=
 let ⟨h1,h2,h3,h4⟩:=lO cj
 IZ Nc ix hN RB hx zE hi kB uV h1 h2 h3 h4 hG hT hE hs hf
section
variable {X:Cx}
def VD:R2:=fun x y H Q=> ∃a b,x= .str (S a)/\y= .str (S b)/\Q (.bl (decide (a=b))) H
def VE:R2:=fun x y H Q=> ∃a b,x= .str (S a)/\y= .str (S b)/\Q (.bl (!decide (a=b))) H
theorem eW:iJ X (compareOp .Eq) VD:=by
 intro pins s σ H x y v u Q I rx ry h
 obtain ⟨a,b,rfl,rfl,q⟩:=h
 exact EA pins s σ H _ _ v u Q I rx ry ⟨rfl,by rw[K6];exact q⟩
theorem qe:iJ X (compareOp .NotEq) VE:=by
 intro pins s σ H x y v u Q I rx ry h
 obtain ⟨a,b,rfl,rfl,q⟩:=h
 exact K1 pins s σ H _ _ v u Q I rx ry ⟨rfl,by rw[K6];exact q⟩
theorem RJ {i j:Int}:decide (V.int i=V.int j)=decide (i=j):=by
 by_cases h:i=j
 ·subst h;simp
 ·rw[decide_eq_false h,decide_eq_false]
  intro q
  exact h (V.int.inj q)
theorem K_ {i j:Bool}:decide (V.bl i=V.bl j)=decide (i=j):=by
 by_cases h:i=j
 ·subst h;simp
 ·rw[decide_eq_false h,decide_eq_false]
  intro q
  exact h (V.bl.inj q)
theorem eX:iJ X (compareOp .Eq) (IE fun i j=> .bl (decide (i=j))):=by
 intro pins s σ H x y v u Q I rx ry h
 obtain ⟨a,b,rfl,rfl,q⟩:=h
 exact EA pins s σ H _ _ v u Q I rx ry ⟨rfl,by rw[RJ];exact q⟩
def Xw (g:Bool->Bool->V):R2:=fun x y H Q=> ∃i j,x= .bl i/\y= .bl j/\Q (g i j) H
theorem MD:iJ X (compareOp .Eq) (Xw fun i j=> .bl (decide (i=j))):=by
 intro pins s σ H x y v u Q I rx ry h
 obtain ⟨a,b,rfl,rfl,q⟩:=h
 exact EA pins s σ H _ _ v u Q I rx ry ⟨rfl,by rw[K_];exact q⟩
theorem ME:iJ X (compareOp .NotEq) (Xw fun i j=> .bl (!decide (i=j))):=by
 intro pins s σ H x y v u Q I rx ry h
 obtain ⟨a,b,rfl,rfl,q⟩:=h
 exact K1 pins s σ H _ _ v u Q I rx ry ⟨rfl,by rw[K_];exact q⟩
def VF (f:List Nat->List Nat->Bool):R2:=fun x y H Q=> ∃a b,x= .str (S a)/\y= .str (S b)/\Q (.bl (f a b)) H
theorem u5:iJ X (compareOp .Lt) (VF fun a b=>decide (a<b)):=by
 intro pins s σ H x y v u Q I rx ry h
 obtain ⟨a,b,rfl,rfl,q⟩:=h
 exact Cv pins s σ H _ _ v u Q I rx ry ⟨S a,S b,rfl,rfl,by rw[fD,fD];exact q⟩
end
section
variable {X:Cx} {tg:Expr}
theorem bK (K:PySem.W.Frag) (h:X.K=K):Mg X (Rl K):=by subst h;exact IM
theorem bT (K:PySem.W.Frag) (h:X.K=K):Mg X (Rm K):=by subst h;exact Mh
def RK (K:PySem.W.Frag):List V->Hp->VK->Prop:=fun xs H Q=> ∃p ys,xs=[.ref p]/\(bA K H p ys\/cO K H p ys)/\Q (.int ys.length) H
theorem bC (K:PySem.W.Frag) (h:X.K=K):dG X (.builtin "len") (RK K):=by subst h;exact uQ
theorem fU (K:PySem.W.Frag) (h:X.K=K):A8 X "str.join" (ES K):=by subst h;exact ET
def RL (K:PySem.W.Frag):List V->Hp->VK->Prop:=fun xs H Q=> ∃(p:Addr) (bs:List Bool),xs=[.ref p]/\bA K H p (bs.map V.bl)/\Q (.bl (bs.all id)) H
theorem CP (K:PySem.W.Frag) (h:X.K=K) (hc:X.calm=true):dG X (.builtin "all") (RL K):=by subst h;exact CO hc
def Je (K:PySem.W.Frag):List V->Hp->VK->Prop:=fun xs H Q=> ∃p ys,xs=[.ref p]/\(bA K H p ys\/cO K H p ys)/\ ∀l,H l=none->Q (.ref l) (upd H l (.lst ys))
theorem kD (K:PySem.W.Frag) (h:X.K=K):dG X (.type "list") (Je K):=by subst h;exact uS
theorem lQ (K:PySem.W.Frag) (h:X.K=K):Tv X (Ro K):=by subst h;exact IQ
theorem dY (K:PySem.W.Frag) (h:X.K=K) {l:Expr} {tl:TE} (hl:PE X l tl):PI X tg l (KZ K tl):=by subst h;exact IC hl
theorem gU (K:PySem.W.Frag) (h:X.K=K) {l:Expr} {tl:TE} (hl:PE X l tl):PI X tg l (QZ K tl):=by subst h;exact L5 hl
end
section
variable {X:Cx} {o e:Expr} {es:List Expr} {to:TE} {t:TA} {name:Str} {apos jd:Pos} {T id:String} {r:V->List V->Hp->VK->Prop}
theorem fO (K:PySem.W.Frag) (hK:X.K=K) (pa:PlainAttrs T) (slot:Slot T name id) (Mn:typeOf (.builtin id)=pure (.type "method_descriptor")) (hm:A8 X id r) (ho:PE X o to)
  (pX:attributeBase o name X.env (eval o X.env)=eval o X.env:=by rfl) (nX:(apos.endLine==jd.line)=true:=by rfl):PE X (.Call (.Attribute o name apos) [] [] jd) (Rp K T r to):=by
 subst hK
 exact Mm pa slot Mn hm ho pX nX
theorem bD (K:PySem.W.Frag) (hK:X.K=K) (pa:PlainAttrs T) (slot:Slot T name id) (Mn:typeOf (.builtin id)=pure (.type "method_descriptor")) (hm:A8 X id r) (ho:PE X o to) (ha:PA X (e::es) t)
  (pX:attributeBase o name X.env (eval o X.env)=eval o X.env:=by rfl)
  (Mo:((backTo jd (starEach (e::es) X.env)).all (fun x=>!x.1)&&(backToKw jd (keywordEach [] X.env)).all (fun x=>x.1.isSome)
   &&decide ((e::es).length+([]:List Keyword).length+(if ([]:List Keyword).isEmpty then 0 else 1)<30))=true:=by rfl)
  (nX:(apos.endLine==jd.line)=true:=by rfl) (hs:starEach (e::es) X.env=(false,eval e X.env)::starEach es X.env:=by rfl) (zw:(backTo jd (starEach es X.env)).any (·.1)=false:=by rfl):
  PE X (.Call (.Attribute o name apos) (e::es) [] jd) (Xh K T r to t):=by
 subst hK
 exact Rq pa slot Mn hm ho ha pX Mo nX hs zw
end
mutual
inductive CQ (K:PySem.W.Frag) (H:Hp):V->PyData->Prop
 | fB:CQ K H .fB .none
 | bl (b:Bool):CQ K H (.bl b) (.bool b)
 | int (i:Int):CQ K H (.int i) (.int i)
 | str (x:Str):CQ K H (.str x) (.str x)
 | lst {a:Addr} {xs:List V} {ds:List PyData} (h:bA K H a xs) (r:mX K H xs ds):CQ K H (.ref a) (.list ds)
 | tup {a:Addr} {xs:List V} {ds:List PyData} (h:cO K H a xs) (r:mX K H xs ds):CQ K H (.ref a) (.tuple ds)
inductive mX (K:PySem.W.Frag) (H:Hp):List V->List PyData->Prop
 | nil:mX K H [] []
 | cons {x:V} {xs:List V} {d:PyData} {ds:List PyData} (h:CQ K H x d) (r:mX K H xs ds):mX K H (x::xs) (d::ds)
end
section
variable {X:Cx} {pins:List (Addr×Obj)} {σ:St} {H:Hp} {s:Shared}
mutual
theorem CQ.reads (I:Inv X pins σ H s): ∀{x:V} {d:PyData} {u:Value},CQ X.K H x d->RelV x u-> ∃as,Reads s.heap u d as
 | _,_,u, .fB,r=>by cases (show u=Value.none from r);exact ⟨_, .none⟩
 | _,_,u, .bl b,r=>by cases (show u=Value.bool b from r);exact ⟨_, .bool b⟩
 | _,_,u, .int i,r=>by obtain ⟨t,rfl⟩:=r;exact ⟨_, .int i t⟩
 | _,_,u, .str x,r=>by obtain ⟨t,rfl⟩:=r;exact ⟨_, .str x t⟩
 | _,_,u, .lst (a:=a) h q,r=>by
  cases (show u=Value.ref a from r)
  obtain ⟨aO,rv,pl,_⟩:=I.list h
  obtain ⟨as,ra⟩:=mX.reads I q rv
  obtain ⟨o,ho,hc,n,hd⟩:=pl.isList
  exact ⟨_, .list ho hc hd (by simpa using ra)⟩
 | _,_,u, .tup (a:=a) h q,r=>by
  cases (show u=Value.ref a from r)
  obtain ⟨aO,rv,pl,_⟩:=I.tuple h
  obtain ⟨as,ra⟩:=mX.reads I q rv
  obtain ⟨o,ho,hc,n,hd⟩:=pl
  exact ⟨_, .tuple ho hc hd (by simpa using ra)⟩
theorem mX.reads (I:Inv X pins σ H s): ∀{xs:List V} {ds:List PyData} {us:List Value},mX X.K H xs ds->Vals xs us-> ∃as,ReadsAll s.heap us ds as
 | _,_,us, .nil,r=>by cases r;exact ⟨_, .nil⟩
 | _,_,us, .cons h q,r=>by
  cases r with
  | cons r1 r2=>
   obtain ⟨as,ra⟩:=CQ.reads I h r1
   obtain ⟨bs,rb⟩:=mX.reads I q r2
   exact ⟨_, .cons ra rb⟩
end
end
section
variable {X:Cx}
def VG (K:PySem.W.Frag):R2:=fun x y H Q=> ∃dx dy,CQ K H x dx/\CQ K H y dy/\(dx.canLay0=true/\dy.canLay0=true)/\dx.depth<=60/\Q (.bl (!PyData.eqv dx dy)) H
theorem zJ {k:Nat} (K:PySem.W.Frag) (h:X.K=K) (hr:fu k X.A):iJ X (compareOp .NotEq) (VG K):=by
 subst h
 intro pins s σ H x y v u Q I rx ry h
 obtain ⟨dx,dy,h1,h2,⟨h3,h4⟩,h5,q⟩:=h
 obtain ⟨as,ra⟩:=h1.reads I rx
 obtain ⟨bs,rb⟩:=h2.reads I ry
 have hu:=hr.units
 exact SeqAt.compareNe_reads ra rb h3 h4 (by omega) ⟨.bl _,H,I,rfl,q⟩
def RM (K:PySem.W.Frag) (ta:TE):TT:=fun σ H Q=>ta σ H fun x H'=> ∃p xs,x= .ref p/\bA K H' p xs/\Q (!xs.isEmpty) H'
theorem Jf {a:Expr} {ta:TE} (K:PySem.W.Frag) (h:X.K=K) (ha:PE X a ta) (he: ∀whole,isTrue a X.env whole=(do let v <-whole;standAt a.pos;holding [v] (truthy v)):=by intro _;rfl):PT X a (RM K ta):=by
 subst h
 intro pins s σ H Q I hw
 refine isTrue_plain (cD (ha pins s σ H _ I hw) fun v s1 ⟨x,H1,I1,r1,q1⟩=>?_) (he _)
 obtain ⟨p,xs,rfl,hq,q⟩:=q1
 exact Ma pins s1 σ H1 _ v Q I1 r1 ⟨_, .inl ⟨xs,hq,rfl⟩,q⟩
theorem eY (K:PySem.W.Frag) (h:X.K=K) {es:List Expr} {k:Nat} {t:HU} {n:Nat} {pos:Pos} (hc:X.calm=true) (hs:Oq X es t)
  (hn:(assignEach es X.env).length=n:=by rfl) (ky:(assignEach es X.env).findIdx? (·.1)=none:=by rfl):PG X (.Tuple es k pos) (QY K n t):=by
 subst h
 exact LZ hc hs hn ky
end
noncomputable def dF (a b:List Nat):List Nat:=if b<a then b else a
noncomputable def cK:List Nat->List (List Nat)->List Nat
 | a,[]=>a
 | a,b::r=>cK (dF a b) r
theorem argBest_lt (bt:Nat->Nat->Bool): ∀n,argBest bt n<=n
 | 0=>Tz _
 | n+1=>by
  unfold argBest
  split
  ·exact Tz _
  ·exact Qcd (argBest_lt bt n)
section
variable {X:Cx}
theorem u6 (K:PySem.W.Frag) (h:X.K=K):iJ X (compareOp .In) (Tw K false):=by subst h;exact CH
theorem Bb (K:PySem.W.Frag) (h:X.K=K):iJ X (compareOp .NotIn) (Tw K true):=by subst h;exact uO
end
noncomputable def eG (n:Nat) (l:List Nat):List Nat:=(List.replicate n l).flatten
theorem fF (n:Nat) (l:List Nat):eG (n+1) l=l++eG n l:=by unfold eG;rw[Qe2,Qc4]
theorem zK (n:Nat) (l:List Nat):eG (n+1) l=eG n l++l:=by unfold eG;rw[List.replicate_succ',List.flatten_append,Qc4,List.flatten_nil,Qbh]
theorem xp (n:Nat) (l:List Nat):(eG n l).length=n*l.length:=by
 induction n with
 | zero=>simp[eG]
 | succ n ih=>rw[fF,Oy,ih,Qcy,Qfe]
theorem sX (l:List Nat): ∀(n:Nat) (acc:Array Nat),((List.replicate n (S l).cps).foldl (· ++ ·) acc).toList=acc.toList++eG n l
 | 0,acc=>by simp[eG]
 | n+1,acc=>by
  rw[Qe2,Qd2,sX l n,fF]
  simp[S]
def RN:R2:=fun x y H Q=> ∃(l:List Nat) (i:Int),x= .str (S l)/\y= .int i/\(0<=i/\i<=1000000)/\l.length*i.toNat<=sizeLine/\Q (.str (S (eG i.toNat l))) H
theorem u7 {X:Cx}:iJ X (binaryOp .Mult) RN:=by
 intro pins s σ H x y v u Q I rx ry h
 obtain ⟨l,i,rfl,rfl,⟨h0,h1⟩,hz,q⟩:=h
 obtain ⟨t,rfl⟩:=rx
 obtain ⟨t',rfl⟩:=ry
 have hn:=gE
 have VH:(S l).length=l.length:=dR l
 have VI:(l.length:Int)*i<=2 ^ 63 - 1:=by
  have e:((l.length*i.toNat:Nat):Int)=(l.length:Int)*i:=by rw[Qfv,Qd3 h0]
  have:((l.length*i.toNat:Nat):Int)<=(sizeLine:Int):=by exact_mod_cast hz
  rw[<-e];omega
 refine P.mul_str (x:=S l) (n:=i) (t:=t) (u:=t') (by
  have e1:decide (i< -(2 ^ 63:Int))=false:=decide_eq_false (by omega)
  have e2:decide (i ≥ 2 ^ 63)=false:=decide_eq_false (by omega)
  rw[e1,e2];rfl) (fun z _=>?_) (fun z _=>?_) ?_
 ·rw[VH]
  have:(l.length:Int)<=(2 ^ 63 - 1) / i:=(Int.le_ediv_iff_mul_le (by omega)).mpr VI
  omega
 ·rw[VH]
  show Builtin.Str.tooLong _=false
  unfold Builtin.Str.tooLong
  exact decide_eq_false (by omega)
 ·by_cases z:i<1
  ·rw[if_pos z]
   have e:i.toNat=0:=by omega
   rw[e]at q
   exact ⟨by decide, .str _,H,I.tok _,⟨_,rfl⟩,q⟩
  ·rw[if_neg z]
   by_cases z2:(i==1||(S l).length==0)=true
   ·rw[if_pos z2]
    have e:eG i.toNat l=l:=by
     rcases Bool.or_eq_true _ _ |>.mp z2 with e | e
     ·have e:i=1:=by simpa using e
      subst e
      show eG 1 l=l
      rw[fF];simp[eG]
     ·have e:l.length=0:=by rw[VH]at e;simpa using e
      have e:l=[]:=Qb8.mp e
      subst e
      unfold eG
      simp
    rw[e]at q
    exact ⟨.str _,H,I,⟨_,rfl⟩,q⟩
   ·rw[if_neg z2]
    have e:(⟨(List.replicate i.toNat (S l).cps).foldl (· ++ ·) #[]⟩:Str)=S (eG i.toNat l):=by
     have:=sX l i.toNat #[]
     show _=(⟨(eG i.toNat l).toArray⟩:Str)
     congr 1
     apply Qej.mp
     rw[this]
     simp
    rw[e]
    refine ⟨?_, .str _,H,I.tok _,⟨_,rfl⟩,q⟩
    rw[dR,xp,Qbu]
    exact hz
section
variable {X:Cx}
theorem Jg:iJ X (compareOp .IsNot) (fun x y H Q=> ∃c d,x= .bl c/\y= .bl d/\Q (.bl (c != d)) H):=by
 intro pins s σ H x y v u Q I rx ry h
 obtain ⟨c,d,rfl,rfl,q⟩:=h
 cases rx
 cases ry
 exact isnot_bool ⟨.bl _,H,I,rfl,q⟩
end
section
variable {X:Cx} {pins:List (Addr×Obj)} {σ:St} {H:Hp} {s:Shared} {h':Heap}
theorem Inv.qf {t':Nat} {ch:List Addr} {T:Addr} {ob:HO} (I:Inv X pins σ H s) (k: ∀b o,b∉ch->s.heap.get? b=some o->h'.get? b=some o) (hf: ∀b∈ch,oF X pins H b)
  (hT:s.heap.objs.size<=T) (new:cB X.prog X.w (upd H T ob) h' T ob):Inv X pins σ (upd H T ob) { s with heap:=h',toks:=t' }:=by
 have hn:=I.cj.fresh hT
 have KU: ∀b u,H b=some u->b∉ch:=fun b u e z=>by rw[(hf b z).1]at e;cases e
 have neT: ∀b o,s.heap.get? b=some o->b≠T:=fun b o e z=>absurd (Qaw (Qal e) hT) (by rw[z];exact Qbb _)
 refine I.step (g':=s.gens) (d':=s.drawn) (ch:=ch) (fun b hb=>?_) (fun b o _ _ hc e _=>k b o hc e) (fun b o _ _ hc e _=>⟨o.slots,k b o hc e⟩) (fun b o _ e n=>by rw[aD (neT b o e)];exact n)
  (fun b o hc e=>⟨o,k b o hc e⟩) (fun b xs e=>by rw[aD (aE e hn)];exact e) (fun b o u e=>by rw[aD (aE e hn)];exact e) (fun b ps e=>⟨#[],by rw[aD (aE e hn),e];simp⟩) (fun m hm=>?_) (fun b u e=>?_) I.bare
 ·obtain ⟨_,h2,_,h4,h5,h6⟩:=hf b hb
  exact ⟨h4,h2,h5,h6⟩
 ·obtain ⟨o,es,ep,ho,r⟩:=hm
  exact ⟨o,es,ep,k _ o (fun z=>(hf _ z).2.1 rfl) ho,r⟩
 ·by_cases hb:b=T
  ·subst hb;rw[ah]at e;cases e;exact new
  ·rw[aD hb]at e
   refine (I.cj b u e).pQ (fun c v hc q=>k c v ?_ q) (fun c q=>by rw[aD (aE q hn)];exact q) fun c xs q=>by rw[aD (aE q hn)];exact q
   rcases hc with z | z
   ·rw[z];exact KU b u e
   ·exact KU c _ z
theorem Inv.u9 {t':Nat} {ch:List Addr} (I:Inv X pins σ H s) (k: ∀b o,b∉ch->s.heap.get? b=some o->h'.get? b=some o) (hf: ∀b∈ch,oF X pins H b):Inv X pins σ H { s with heap:=h',toks:=t' }:=by
 have KU: ∀b u,H b=some u->b∉ch:=fun b u e z=>by rw[(hf b z).1]at e;cases e
 refine I.step (g':=s.gens) (d':=s.drawn) (ch:=ch) (fun b hb=>?_) (fun b o _ _ hc e _=>k b o hc e) (fun b o _ _ hc e _=>⟨o.slots,k b o hc e⟩) (fun b o _ e n=>n)
  (fun b o hc e=>⟨o,k b o hc e⟩) (fun b xs e=>e) (fun b o u e=>e) (fun b ps e=>⟨#[],by rw[e];simp⟩) (fun m hm=>?_) (fun b u e=>?_) I.bare
 ·obtain ⟨_,h2,_,h4,h5,h6⟩:=hf b hb
  exact ⟨h4,h2,h5,h6⟩
 ·obtain ⟨o,es,ep,ho,r⟩:=hm
  exact ⟨o,es,ep,k _ o (fun z=>(hf _ z).2.1 rfl) ho,r⟩
 ·refine (I.cj b u e).pQ (fun c v hc q=>k c v ?_ q) (fun c q=>q) fun c xs q=>q
  rcases hc with z | z
  ·rw[z];exact KU b u e
  ·exact KU c _ z
end
noncomputable def RO (l:List Nat):It:=⟨fun i _=>i<l.length,fun i H x H'=> ∃T c,l[i]? =some c/\x= .ref T/\H T=none/\H'=upd H T (.tup [.int i, .str (S [c])]),fun i _=>l.length<=i⟩
theorem sY {prog:Program} {w:World} {A:Around} (hh:A.handled=none) (it:Addr) (x:Str) (t:Tok):
  Draws prog w A it [it] x.cps.size (fun i v=> ∃c u,x.cps[i]? =some c/\v= .str ⟨#[c]⟩ u) (fun i h=>h.IsStrIter it (strIterType x) x t i):=by
 by_cases ha:x.cps.all (· <128)=true
 ·have et:strIterType x="str_ascii_iterator":=by unfold strIterType;rw[if_pos ha]
  rw[et];exact Draws.strAscii hh it x t
 ·have et:strIterType x="str_iterator":=by unfold strIterType;rw[if_neg ha]
  rw[et];exact Draws.strWide hh it x t
theorem zL {P:Program} {w:World} {K:PySem.W.Frag} {elts:List Expr} {k:Nat} {pos:Pos} (e it:Addr) (Bc:e≠it) (l:List Nat) (t:Tok):
  Turn P w K (.Tuple elts k pos) (RO l) [e,it] e (fun i h=>i<=l.length/\(∃old,IsEnum h e it i old)/\h.IsStrIter it (strIterType (S l)) (S l) t i) where
 mem:=by simp
 obj:=fun i h st b hb=>by
  obtain ⟨_,⟨old,he⟩,o,ho,hc,hd⟩:=st
  rcases Zv.mp hb with z | z
  ·rw[z];exact ⟨_,he,fun v z=>by cases z⟩
  ·rw[Zt.mp z];exact ⟨o,ho,fun v z=>by rw[hd]at z;cases z⟩
 keep:=fun i h h' st kp=>by
  obtain ⟨h1,⟨old,he⟩,o,ho,r⟩:=st
  exact ⟨h1,⟨old,kp e (by simp) _ he⟩,o,kp it (by simp) o ho,r⟩
 item:=by
  intro X hP hw hK hc i pins s σ H E I hf st hg
  subst hP hw hK
  obtain ⟨_,yS,yQ⟩:=st
  have D:=sY (prog:=X.prog) (w:=X.w) (A:=X.A.in1) (I.ok.hd hc) it (S l) t
  have W:=WalksT.enumerateD D e Bc (by simpa using Bc) (by simp)
  have hi:i<(S l).cps.size:=by rw[mW];exact hg
  refine W.item i s _ _ hi ⟨yS,yQ⟩ fun T vals h' tk RP hT EY xq hk=>⟨_,rfl,?_⟩
  refine W.go elts k pos i T { s with heap:=h',toks:=tk } _ _ xq fun h2 xr u_=>?_
  obtain ⟨tt,x,⟨c,u,VJ,rfl⟩,rfl⟩:=RP
  have La:T∉[e,it]:=W.apart i T h' xq
  have xt:h2.IsTuple T #[.int i tt, .str ⟨#[c]⟩ u]:=by
   obtain ⟨o,ho,r⟩:=EY
   exact ⟨o,u_ T o La ho,r⟩
  have hl:l[i]? =some c:=by simpa [S]using VJ
  refine ⟨.ref T,upd H T (.tup [.int i, .str (S [c])]),?_,rfl,⟨T,c,hl,rfl,I.cj.fresh hT,rfl⟩,⟨hg,xr.1,xr.2⟩,fun b hb=>?_⟩
  ·refine I.qf (t':=tk) (h':=h2) (fun b o hb y=>u_ b o hb (hk b o hb y)) hf hT ?_
   exact ⟨by show 2<=sizeLine;decide,[.int i tt, .str ⟨#[c]⟩ u], .cons ⟨tt,rfl⟩ (.cons ⟨u,rfl⟩ .nil),xt⟩
  ·rw[aD (fun z:b=T=>La (z▸hb))];exact (hf b hb).1
 done:=by
  intro X hP hw hK hc i pins s σ H E I hf st hg
  subst hP hw hK
  obtain ⟨h1,yS,yQ⟩:=st
  have e1:i=l.length:=Qft h1 hg
  have D:=sY (prog:=X.prog) (w:=X.w) (A:=X.A.in1) (I.ok.hd hc) it (S l) t
  have W:=WalksT.enumerateD D e Bc (by simpa using Bc) (by simp)
  refine W.done s _ _ ?_ fun h' tk hk=>⟨rfl,I.u9 (t':=tk) hk hf⟩
  rw[mW, <-e1]
  exact ⟨yS,yQ⟩
 self:=fun _ _ s _ _ st h=>by
  obtain ⟨_,⟨old,he⟩,_⟩:=st
  exact wpAny_pyIter_enum he h
def MF (ta:TA):TI:=fun σ H R=>ta σ H fun vs H1=> ∃l,vs=[.str (S l)]/\R (RO l) H1
theorem EZ {X:Cx} {elts:List Expr} {k:Nat} {pos':Pos} {a:Expr} {ta:TA} {p pos:Pos} (hg:Gl X "enumerate") (hm:X.mg "enumerate"=none) (ha:PA X [a] ta) (hs:starEach [a] X.env=[(false,eval a X.env)]:=by rfl):PI X (.Tuple elts k pos') (.Call (.Name "enumerate" p) [a] [] pos) (MF ta):=by
 intro pins s σ H R I h
 refine Call_ (gg I hg hm boot_enumerate (Qbe (cD (ha pos pins s σ H _ I h) fun us s1 ⟨vs,H1,I1,r1,q1⟩=>?_) hs rfl))
 obtain ⟨l,rfl,q⟩:=q1
 obtain ⟨u,rfl,t,rfl⟩:=vals1 r1
 refine call_enumerate_str fun h' he hit hsz hk=>?_
 refine wpAny_pyIter_enum he ?_
 refine ⟨s1.heap.objs.size+1,[s1.heap.objs.size+1,s1.heap.objs.size],_,_,H1,rfl,I1.kept (t':=s1.toks) hk,zL _ _ (Qef _) l t,⟨Qad _,⟨_,he⟩,hit⟩,fun b hb=>?_,q⟩
 have iK:s1.heap.objs.size<=b:=by
  rcases Zv.mp hb with z | z
  ·rw[z];exact Qcn _
  ·rw[Zt.mp z];exact Tz _
 exact I1.pU iK (I1.cj.fresh iK)
theorem E1 {l:List Nat} {g:TG} {tb:TS} {D:Ends} {σ:St} {H:Hp} (Pv:Nat->St->Hp->Prop) (h0:Pv 0 σ H)
  (hs: ∀i c σ H T,l[i]? =some c->Pv i σ H->H T=none->g (.ref T) σ (upd H T (.tup [.int i, .str (S [c])])) fun σ2 H2=>tb { D with nx:=Pv (i+1),ct:=Pv (i+1),bk:=D.nx } σ2 H2) (hd: ∀σ H,Pv l.length σ H->D.nx σ H):
  ∃W:Nat->Nat->St->Hp->Prop,(∃m,W 0 m σ H)/\ ∀i m σ H,W i m σ H->
   ((RO l).stop i H/\D.nx σ H)\/((RO l).go i H/\ ∃N:St->Hp->Prop,(∀σ' H',N σ' H'-> ∃m',m'<m/\W (i+1) m' σ' H')/\ ∀x H',(RO l).Ee i H x H'->g x σ H' fun σ2 H2=>tb { D with nx:=N,ct:=N,bk:=D.nx } σ2 H2):=by
 refine ⟨fun i m σ H=>m=l.length - i/\i<=l.length/\Pv i σ H,⟨l.length,by simp,Qad _,h0⟩,?_⟩
 rintro i m σ H ⟨rfl,hi,p⟩
 by_cases cZ:i<l.length
 ·refine .inr ⟨cZ,Pv (i+1),fun σ' H' p'=>⟨l.length - (i+1),by omega,rfl,cZ,p'⟩,fun x H' y=>?_⟩
  obtain ⟨T,c,hc,rfl,hn,rfl⟩:=y
  exact hs i c σ _ T hc p hn
 ·have e:i=l.length:=by omega
  subst e
  exact .inl ⟨Tz _,hd σ H p⟩
section
variable {X:Cx}
theorem Jh {ls:List (List Nat)}: ∀{aO:List Value},Vals (ls.map fun l=>V.str (S l)) aO->StrsAre aO (ls.map S):=by
 induction ls with
 | nil=>intro aO r;cases r;exact .nil
 | cons l ls ih=>
  intro aO r
  cases r with
  | cons r1 r2=>
   obtain ⟨t,rfl⟩:=r1
   exact .cons _ t (ih r2)
theorem Bd: ∀{aO:List Value} {ss:List Str},StrsAre aO ss->Vals ((ss.map fun x=>x.cps.toList).map fun l=>V.str (S l)) aO
 | _,_, .nil=> .nil
 | _,_, .cons x t h=> .cons ⟨t,by rw[<-RD]⟩ (Bd h)
theorem sZ: ∀(p:Str) (r:List Str),risingS p r=true->(p::r).Pairwise fun a b=> ¬b.cps.toList<a.cps.toList
 | p,[],_=>List.pairwise_singleton _ _
 | p,x::r,h=>by
  have h':(!ltCps x.cps.toList p.cps.toList&&risingS x r)=true:=h
  rw[Qbq,ltCps_eq]at h'
  have h1: ¬x.cps.toList<p.cps.toList:=by simpa using h'.1
  have ih:=sZ x r h'.2
  refine Qco.mpr ⟨fun y hy=>?_,ih⟩
  rcases Zv.mp hy with z | z
  ·rw[z];exact h1
  ·exact List.le_trans (show p.cps.toList<=x.cps.toList from h1) (show x.cps.toList<=y.cps.toList from List.rel_of_pairwise_cons ih z)
theorem CT {ss:List Str} (h:sortedS ss=true):(ss.map fun x=>x.cps.toList).Pairwise fun a b=> ¬b<a:=by
 rw[Qb3]
 cases ss with
 | nil=>exact List.Pairwise.nil
 | cons x r=>exact sZ x r h
def MG (K:PySem.W.Frag):List V->Hp->VK->Prop:=fun xs H Q=> ∃(p:Addr) (ls:List (List Nat)),xs=[.ref p]/\bA K H p (ls.map fun l=>V.str (S l))/\ls.length<64/\ ∀(q:Addr) (VL:List (List Nat)),H q=none->VL.Perm ls->(VL.Pairwise fun a b=> ¬b<a)->Q (.ref q) (upd H q (.lst (VL.map fun l=>V.str (S l))))
theorem lR (K:PySem.W.Frag) (h:X.K=K):dG X (.builtin "sorted") (MG K):=by
 subst h
 intro pins s σ H xs us Q I r h
 obtain ⟨p,ls,rfl,hq,hn,q⟩:=h
 obtain ⟨u,rfl,ru⟩:=vals1 r
 cases ru
 obtain ⟨aO,rv,pl,hz⟩:=I.list hq
 have hlen:aO.length=ls.length:=by rw[<-rv.length,Xl]
 refine sorted_strs (l:=p) (vs:=aO) (ss:=ls.map S) pl.isList (Jh rv) (by omega) fun out Eh h1 h2 h3=>?_
 obtain ⟨e,he⟩:=sortedAll_at s.heap aO out
 have xv:(Eh.map fun x=>x.cps.toList).Perm ls:=by
  have:=h2.map fun x:Str=>x.cps.toList
  rw[Qb2]at this
  have e2:ls.map ((fun x:Str=>x.cps.toList) ∘ S)=ls:=by
   have: ∀l∈ls,((fun x:Str=>x.cps.toList) ∘ S) l=l:=fun l _=>fD l
   calc ls.map _=ls.map id:=Qdf this
    _=ls:=Qfr ls
  rwa [e2]at this
 have sP:=xv.length_eq
 have ZC:(64:Nat)<sizeLine:=by decide
 have Ji:((Eh.map fun x=>x.cps.toList).map fun l=>V.str (S l)).length<=sizeLine:=by rw[Xl,sP];omega
 refine ⟨.ref (s.heap.objs.size+1),_,I.laid (t':=s.toks) (a:=s.heap.objs.size+1) (o:= .lst ((Eh.map fun x=>x.cps.toList).map fun l=>V.str (S l))) (fun b o e=>sortedAll_old e) (Qcn _) ⟨Ji,out.toList,e,Bd h1,by simpa [seqObj]using he⟩,rfl,q _ _ (I.cj.fresh (Qcn _)) xv (CT h3)⟩
theorem Be {ls:List (List Nat)} {l:List Nat} (h:ls.Perm (l.map fun c=>[c])): ∃l':List Nat,ls=l'.map (fun c=>[c])/\l'.Perm l:=by
 refine ⟨ls.flatten,?_,?_⟩
 ·have hs: ∀x∈ls, ∃c,x=[c]:=fun x hx=>by
   obtain ⟨c,_,e⟩:=Qau.mp (h.mem_iff.mp hx)
   exact ⟨c,e.symm⟩
  clear h
  induction ls with
  | nil=>rfl
  | cons x ls ih=>
   obtain ⟨c,rfl⟩:=hs x Zu
   rw[Qc4,Qaa, <-ih fun y hy=>hs y (Xn _ hy)]
   rfl
 ·have:=h.flatten
  have e:(l.map fun c=>[c]).flatten=l:=by
   clear h this
   induction l with
   | nil=>rfl
   | cons c l ih=>rw[Qat,Qc4,ih];rfl
  rwa [e]at this
theorem Bf {l:List Nat} (h:(l.map fun c=>[c]).Pairwise fun a b=> ¬b<a):l.Pairwise fun a b=>a<=b:=by
 rw[Qb3]at h
 refine h.imp fun {a b} z=>?_
 by_cases y:a<=b
 ·exact y
 ·exact absurd (Qex.mpr (.inl (by omega))) z
end
section
variable {prog:Program} {w:World} {A:Around} {E:Value->Shared->Prop} {s:Shared}
theorem zM {it tp:Addr} {j:Nat} {xs:Array Value} {y:Value} {Q:Value->Shared->Prop} (hi:s.heap.IsTupleIter it tp j) (ht:s.heap.IsTuple tp xs) (hy:xs[j]? =some y)
  (q: ∀h2,h2.IsTupleIter it tp (j+1)->Heap.SameBut it s.heap h2->Q y { s with heap:=h2 }):wpAny (model prog w) A (Builtin.SmallTypes.nextOf (.ref it)) Q E s:=by
 obtain ⟨oi,eo,ec,ed⟩:=id hi
 obtain ⟨ot,et,_,nt,dt⟩:=ht
 unfold Builtin.SmallTypes.nextOf
 refine wpAny_bind (wpAny_callSpecial?_slot (name:=Str.ofString "__next__") hi.typeIs F.slot_tuple_iterator_next (wpAny_call_entry F.slot_tuple_iterator_next hi.typeIs F.entry_tuple_iterator_next ?_ (F.args_tuple_iterator_next_1 _)))
 refine wpAny_bind (m:=field (.ref it) 0) (wpAny_field eo ed (x:= .ref tp) rfl ?_)
 show wpAny (model prog w) _ (if (Value.ref tp==Value.none)=true then _ else _) _ E s
 rw[if_neg (show ¬(Value.ref tp==Value.none)=true from Qaq)]
 refine wpAny_bind (m:=field (.ref it) 1) (wpAny_field eo ed (x:= .int j 0) rfl ?_)
 refine wpAny_bind (m:=seqItems? (.ref tp)) (wpAny_seqItems et dt ?_)
 simp only[Xo,hy]
 refine wpAny_bind (wpAny_setField eo ed (by simp) (wpAny_pure ⟨y,rfl,wpAny_pure (q _ ⟨_,Qb7 _ eo (Obj.isFreed_of_fields (Obj.data_mapFields ed _)),(Obj.cls_mapFields ..).trans ec,by rw[Obj.data_mapFields ed];simp[rawInt]⟩ (Qfq ..))⟩))
theorem CU {it tp:Addr} {j:Nat} {xs:Array Value} {Q:Value->Shared->Prop} (hh:A.handled=none) (hi:s.heap.IsTupleIter it tp j) (ht:s.heap.IsTuple tp xs) (hy:xs[j]? =none)
  (q: ∀h2 e,Heap.ExtBut it s.heap h2->(∃o,h2.get? e=some o/\o.cls= .type "StopIteration")->E (.ref e) { s with heap:=h2 }):wpAny (model prog w) A (Builtin.SmallTypes.nextOf (.ref it)) Q E s:=by
 obtain ⟨oi,eo,ec,ed⟩:=id hi
 obtain ⟨ot,et,_,nt,dt⟩:=ht
 unfold Builtin.SmallTypes.nextOf
 refine wpAny_bind (wpAny_callSpecial?_slot (name:=Str.ofString "__next__") hi.typeIs F.slot_tuple_iterator_next (wpAny_call_entry F.slot_tuple_iterator_next hi.typeIs F.entry_tuple_iterator_next ?_ (F.args_tuple_iterator_next_1 _)))
 refine wpAny_bind (m:=field (.ref it) 0) (wpAny_field eo ed (x:= .ref tp) rfl ?_)
 show wpAny (model prog w) _ (if (Value.ref tp==Value.none)=true then _ else _) _ E s
 rw[if_neg (show ¬(Value.ref tp==Value.none)=true from Qaq)]
 refine wpAny_bind (m:=field (.ref it) 1) (wpAny_field eo ed (x:= .int j 0) rfl ?_)
 refine wpAny_bind (m:=seqItems? (.ref tp)) (wpAny_seqItems et dt ?_)
 simp only[Xo,hy]
 refine wpAny_bind (wpAny_rule (wpAny_bind (wpAny_setField eo ed (by simp) ?_)))
 refine wpAny_bind (m:=newExc (.type "StopIteration") []) ?_
 simp only[newExc,newTuple]
 refine wpAny_bind (wpAny_newObj_type (wpAny_bind (m:=firstArgMember _ _) (wpAny_of_eq (a:=Value.none) (by first | rfl | (simp only[firstArgMember];rfl)) (wpAny_newObj_type ?_ (by size_fits)))) (by size_fits))
 simp only[raiseNew]
 refine wpAny_bind (wpAny_handled ?_);first | rw[show A.in1.handled=none from hh] | rw[hh]
 exact wpAny_bind (wpAny_pure (wpAny_throw (q _ _ (((Qfq ..).extBut.push _).push _) ⟨_,Qam _ rfl,rfl⟩)))
theorem nZ (hh:A.handled=none) (it tp:Addr) (ne:tp≠it) (xs:Array Value):
  Draws prog w A it [it,tp] xs.size (fun i v=>xs[i]? =some v) (fun i h=>h.IsTupleIter it tp i/\h.IsTuple tp xs) where
 live:=fun _ _ z=>let ⟨o,e,_⟩:=z.1;⟨o,e⟩
 frame:=fun _ _ _ z k=>by
  obtain ⟨⟨o,e,r⟩,o2,e2,r2⟩:=z
  exact ⟨⟨o,k it (by simp) o e,r⟩,o2,k tp (by simp) o2 e2,r2⟩
 item:=fun i s Q E hi z q=>zM z.1 z.2 (y:=xs[i]) (by simp[hi]) fun h2 z2 sb=>q _ h2 s.toks (by simp[hi]) ⟨z2,z.2.extBut sb.extBut ne⟩ sb
 done:=fun s Q E z q=>CU hh z.1 z.2 (by simp) q
theorem xw (l:Addr) (items:Array Value) (n:Nat) (VM:Option Addr) (sl:Array (Option Value)):
  Meets (Builtin.«enumerate.__new__» ⟨[.type "enumerate", .ref l],[]⟩) (fun _ R s=>s.heap.get? l=some { cls:= .type "tuple",dict:=VM,data:= .seq items n,slots:=sl }/\
   R (.ok (.ret (.ref (s.heap.push { cls:= .type "tuple_iterator",data:= .fields #[.ref l, .int 0 0] }).objs.size)))
    { s with heap:=(s.heap.push { cls:= .type "tuple_iterator",data:= .fields #[.ref l, .int 0 0] }).push { cls:= .type "enumerate",data:= .fields #[.none, .bool false, .ref s.heap.objs.size,rawInt 0, .none, .none] } }):=
 .of_wp fun prog w A R s h=>by
  obtain ⟨hp,g,d,tk,os⟩:=s;obtain ⟨hl,q⟩:=h;have VN:=sub_enumerate
  have hT:Heap.IsTuple (Shared.heap ⟨hp,g,d,tk,os⟩) l items:=⟨_,hl,rfl,n,rfl⟩
  wp_walk using AutoSeq1.wpAny_loadPart' hl
  refine wpAny_stack_any fun st=>wpAny_pure ?_
  split
  ·rename_i c _ _ _ _ _
   cases (c==Value.type "enumerate")<;>(wp_walk using AutoSeq1.wpAny_loadPart' hl,wpAny_pyIter_tuple hT;exact ⟨_,rfl,q⟩)
  ·wp_walk using AutoSeq1.wpAny_loadPart' hl,wpAny_pyIter_tuple hT
   exact ⟨_,rfl,q⟩
theorem zN {l:Addr} {items:Array Value} {Q:Value->Shared->Prop} (hL:s.heap.IsTuple l items)
  (h: ∀h',IsEnum h' (s.heap.objs.size+1) s.heap.objs.size 0 .none->h'.IsTupleIter s.heap.objs.size l 0->(∀b o,s.heap.get? b=some o->h'.get? b=some o)->Q (.ref (s.heap.objs.size+1)) { s with heap:=h' }):
  wpAny (model prog w) A (call (.type "enumerate") [.ref l]) Q E s:=by
 obtain ⟨⟨c,VM,dt,sl⟩,hl,hc,n,hd⟩:=hL
 cases (show c= .type "tuple" from hc)
 cases (show dt= .seq items n from hd)
 refine callType_new F.called_enumerate (by decide) (F.typeCall_enumerate_1 _) (F.newCall_enumerate_1 _) (fun ob=>F.args_object_init_2 ob _) F.entry_enumerate_new (xw l items n VM sl) ⟨hl,?_⟩
 have hz:(s.heap.push { cls:= .type "tuple_iterator",data:= .fields #[.ref l, .int 0 0] }).objs.size=s.heap.objs.size+1:=Qc3 ..
 show _/\_
 rw[hz]
 have he:IsEnum ((s.heap.push { cls:= .type "tuple_iterator",data:= .fields #[.ref l, .int 0 0] }).push { cls:= .type "enumerate",data:= .fields #[.none, .bool false, .ref s.heap.objs.size,rawInt 0, .none, .none] }) (s.heap.objs.size+1) s.heap.objs.size 0 .none:=by
  have:=Qam (s.heap.push { cls:= .type "tuple_iterator",data:= .fields #[.ref l, .int 0 0] }) (o:={ cls:= .type "enumerate",data:= .fields #[.none, .bool false, .ref s.heap.objs.size,rawInt 0, .none, .none] }) rfl
  rwa [hz]at this
 exact ⟨⟨_,he,rfl⟩,h _ he ⟨_,Xm _ (Qam _ rfl),rfl,rfl⟩ fun b o x=>Xm _ (Xm _ x)⟩
end
noncomputable def E2 (K:PySem.W.Frag) (a:Addr):It:=⟨fun i H=> ∃xs x,cO K H a xs/\xs[i]? =some x,fun i H x H'=> ∃T y,(∀xs,cO K H a xs->xs[i]? =some y)/\x= .ref T/\H T=none/\H'=upd H T (.tup [.int i,y]),fun i H=> ∃xs,cO K H a xs/\xs.length=i⟩
noncomputable def E3 (K:PySem.W.Frag) (a:Addr):It:=⟨fun i H=> ∃xs x,bA K H a xs/\xs[i]? =some x,fun i H x H'=> ∃T y,(∀xs,bA K H a xs->xs[i]? =some y)/\x= .ref T/\H T=none/\H'=upd H T (.tup [.int i,y]),fun i H=> ∃xs,bA K H a xs/\xs.length=i⟩
theorem zO {P:Program} {w:World} {K:PySem.W.Frag} {elts:List Expr} {k:Nat} {pos:Pos} (e it a:Addr) (Bc:e≠it) (RQ:a≠e) (RS:a≠it):
  Turn P w K (.Tuple elts k pos) (E2 K a) [e,it] e (fun i h=>(∃old,IsEnum h e it i old)/\h.IsTupleIter it a i) where
 mem:=by simp
 obj:=fun i h st b hb=>by
  obtain ⟨⟨old,he⟩,o,ho,hc,hd⟩:=st
  rcases Zv.mp hb with z | z
  ·rw[z];exact ⟨_,he,fun v z=>by cases z⟩
  ·rw[Zt.mp z];exact ⟨o,ho,fun v z=>by rw[hd]at z;cases z⟩
 keep:=fun i h h' st kp=>by
  obtain ⟨⟨old,he⟩,o,ho,r⟩:=st
  exact ⟨⟨old,kp e (by simp) _ he⟩,o,kp it (by simp) o ho,r⟩
 item:=by
  intro X hP hw hK hc i pins s σ H E I hf st hg
  subst hP hw hK
  obtain ⟨yS,yQ⟩:=st
  obtain ⟨xs,x,hq,hx⟩:=hg
  obtain ⟨aO,rv,p,hz⟩:=I.tuple hq
  obtain ⟨u0,hu,ru⟩:=rv.get hx
  have D:=nZ (prog:=X.prog) (w:=X.w) (A:=X.A.in1) (I.ok.hd hc) it a RS aO.toArray
  have W:=WalksT.enumerateD D e Bc (by simp;exact ⟨Bc,Ne.symm RQ⟩) (by simp)
  have VO:i<aO.toArray.size:=by rw[Qac];exact (Mu.mp hu).1
  refine W.item i s _ _ VO ⟨yS,yQ,p⟩ fun T vals h' tk RP hT EY xq hk=>⟨_,rfl,?_⟩
  refine W.go elts k pos i T { s with heap:=h',toks:=tk } _ _ xq fun h2 xr u_=>?_
  obtain ⟨tt,x2,RT,rfl⟩:=RP
  have ex:x2=u0:=by
   rw[List.getElem?_toArray]at RT
   exact Qaf (RT.symm.trans hu)
  subst ex
  have La:T∉[e,it]:=W.apart i T h' xq
  have xt:h2.IsTuple T #[.int i tt,x2]:=by
   obtain ⟨o,ho,r⟩:=EY
   exact ⟨o,u_ T o La ho,r⟩
  refine ⟨.ref T,upd H T (.tup [.int i,x]),?_,rfl,⟨T,x,fun ys hy=>by rw[I.sC hy hq];exact hx,rfl,I.cj.fresh hT,rfl⟩,⟨xr.1,xr.2.1⟩,fun b hb=>?_⟩
  ·refine I.qf (t':=tk) (h':=h2) (fun b o hb y=>u_ b o hb (hk b o hb y)) hf hT ?_
   exact ⟨by show 2<=sizeLine;decide,[.int i tt,x2], .cons ⟨tt,rfl⟩ (.cons ru .nil),xt⟩
  ·rw[aD (fun z:b=T=>La (z▸hb))];exact (hf b hb).1
 done:=by
  intro X hP hw hK hc i pins s σ H E I hf st hg
  subst hP hw hK
  obtain ⟨yS,yQ⟩:=st
  obtain ⟨xs,hq,hx⟩:=hg
  obtain ⟨aO,rv,p,hz⟩:=I.tuple hq
  have hl:=rv.length
  have D:=nZ (prog:=X.prog) (w:=X.w) (A:=X.A.in1) (I.ok.hd hc) it a RS aO.toArray
  have W:=WalksT.enumerateD D e Bc (by simp;exact ⟨Bc,Ne.symm RQ⟩) (by simp)
  refine W.done s _ _ ?_ fun h' tk hk=>⟨rfl,I.u9 (t':=tk) hk hf⟩
  have e1:aO.toArray.size=i:=by rw[Qac];omega
  rw[e1]
  exact ⟨yS,yQ,p⟩
 self:=fun _ _ s _ _ st h=>by
  obtain ⟨⟨old,he⟩,_⟩:=st
  exact wpAny_pyIter_enum he h
theorem zP {P:Program} {w:World} {K:PySem.W.Frag} {elts:List Expr} {k:Nat} {pos:Pos} (e it a:Addr) (Bc:e≠it) (RQ:a≠e) (RS:a≠it):
  Turn P w K (.Tuple elts k pos) (E3 K a) [e,it] e (fun i h=>(∃old,IsEnum h e it i old)/\h.IsListIter it a i) where
 mem:=by simp
 obj:=fun i h st b hb=>by
  obtain ⟨⟨old,he⟩,o,ho,hc,hd⟩:=st
  rcases Zv.mp hb with z | z
  ·rw[z];exact ⟨_,he,fun v z=>by cases z⟩
  ·rw[Zt.mp z];exact ⟨o,ho,fun v z=>by rw[hd]at z;cases z⟩
 keep:=fun i h h' st kp=>by
  obtain ⟨⟨old,he⟩,o,ho,r⟩:=st
  exact ⟨⟨old,kp e (by simp) _ he⟩,o,kp it (by simp) o ho,r⟩
 item:=by
  intro X hP hw hK hc i pins s σ H E I hf st hg
  subst hP hw hK
  obtain ⟨yS,yQ⟩:=st
  obtain ⟨xs,x,hq,hx⟩:=hg
  obtain ⟨aO,rv,p,hz⟩:=I.list hq
  obtain ⟨u0,hu,ru⟩:=rv.get hx
  have D:=Draws.list (prog:=X.prog) (w:=X.w) (A:=X.A.in1) (I.ok.hd hc) it a RS aO.toArray
  have W:=WalksT.enumerateD D e Bc (by simp;exact ⟨Bc,Ne.symm RQ⟩) (by simp)
  have VO:i<aO.toArray.size:=by rw[Qac];exact (Mu.mp hu).1
  refine W.item i s _ _ VO ⟨yS,yQ,p.isList⟩ fun T vals h' tk RP hT EY xq hk=>⟨_,rfl,?_⟩
  refine W.go elts k pos i T { s with heap:=h',toks:=tk } _ _ xq fun h2 xr u_=>?_
  obtain ⟨tt,x2,RT,rfl⟩:=RP
  have ex:x2=u0:=by
   rw[List.getElem?_toArray]at RT
   exact Qaf (RT.symm.trans hu)
  subst ex
  have La:T∉[e,it]:=W.apart i T h' xq
  have xt:h2.IsTuple T #[.int i tt,x2]:=by
   obtain ⟨o,ho,r⟩:=EY
   exact ⟨o,u_ T o La ho,r⟩
  refine ⟨.ref T,upd H T (.tup [.int i,x]),?_,rfl,⟨T,x,fun ys hy=>by rw[I.wY hy hq];exact hx,rfl,I.cj.fresh hT,rfl⟩,⟨xr.1,xr.2.1⟩,fun b hb=>?_⟩
  ·refine I.qf (t':=tk) (h':=h2) (fun b o hb y=>u_ b o hb (hk b o hb y)) hf hT ?_
   exact ⟨by show 2<=sizeLine;decide,[.int i tt,x2], .cons ⟨tt,rfl⟩ (.cons ru .nil),xt⟩
  ·rw[aD (fun z:b=T=>La (z▸hb))];exact (hf b hb).1
 done:=by
  intro X hP hw hK hc i pins s σ H E I hf st hg
  subst hP hw hK
  obtain ⟨yS,yQ⟩:=st
  obtain ⟨xs,hq,hx⟩:=hg
  obtain ⟨aO,rv,p,hz⟩:=I.list hq
  have hl:=rv.length
  have D:=Draws.list (prog:=X.prog) (w:=X.w) (A:=X.A.in1) (I.ok.hd hc) it a RS aO.toArray
  have W:=WalksT.enumerateD D e Bc (by simp;exact ⟨Bc,Ne.symm RQ⟩) (by simp)
  refine W.done s _ _ ?_ fun h' tk hk=>⟨rfl,I.u9 (t':=tk) hk hf⟩
  have e1:aO.toArray.size=i:=by rw[Qac];omega
  rw[e1]
  exact ⟨yS,yQ,p.isList⟩
 self:=fun _ _ s _ _ st h=>by
  obtain ⟨⟨old,he⟩,_⟩:=st
  exact wpAny_pyIter_enum he h
def MH (K:PySem.W.Frag) (ta:TA):TI:=fun σ H R=>ta σ H fun vs H1=> ∃a,vs=[.ref a]/\(∃xs,cO K H1 a xs)/\R (E2 K a) H1
def MI (K:PySem.W.Frag) (ta:TA):TI:=fun σ H R=>ta σ H fun vs H1=> ∃a,vs=[.ref a]/\(∃xs,bA K H1 a xs)/\R (E3 K a) H1
theorem xx {X:Cx} (K:PySem.W.Frag) (hK:X.K=K) {elts:List Expr} {k:Nat} {pos':Pos} {a:Expr} {ta:TA} {p pos:Pos} (hg:Gl X "enumerate") (hm:X.mg "enumerate"=none) (ha:PA X [a] ta) (hs:starEach [a] X.env=[(false,eval a X.env)]:=by rfl):PI X (.Tuple elts k pos') (.Call (.Name "enumerate" p) [a] [] pos) (MH K ta):=by
 subst hK
 intro pins s σ H R I h
 refine Call_ (gg I hg hm boot_enumerate (Qbe (cD (ha pos pins s σ H _ I h) fun us s1 ⟨vs,H1,I1,r1,q1⟩=>?_) hs rfl))
 obtain ⟨b,rfl,⟨xs,hq⟩,q⟩:=q1
 obtain ⟨u,rfl,ru⟩:=vals1 r1
 cases ru
 obtain ⟨aO,rv,pl,hz⟩:=I1.tuple hq
 obtain ⟨ob,eb,_⟩:=id pl
 have cZ:b<s1.heap.objs.size:=Qal eb
 refine zN pl fun h' he hit hk=>wpAny_pyIter_enum he ?_
 refine ⟨s1.heap.objs.size+1,[s1.heap.objs.size+1,s1.heap.objs.size],_,_,H1,rfl,I1.kept (t':=s1.toks) hk,zO _ _ b (Qef _) (Qan (Qcv cZ)) (Qan cZ),⟨⟨_,he⟩,hit⟩,fun c hb=>?_,q⟩
 have iK:s1.heap.objs.size<=c:=by
  rcases Zv.mp hb with z | z
  ·rw[z];exact Qcn _
  ·rw[Zt.mp z];exact Tz _
 exact I1.pU iK (I1.cj.fresh iK)
theorem xA {X:Cx} (K:PySem.W.Frag) (hK:X.K=K) {elts:List Expr} {k:Nat} {pos':Pos} {a:Expr} {ta:TA} {p pos:Pos} (hg:Gl X "enumerate") (hm:X.mg "enumerate"=none) (ha:PA X [a] ta) (hs:starEach [a] X.env=[(false,eval a X.env)]:=by rfl):PI X (.Tuple elts k pos') (.Call (.Name "enumerate" p) [a] [] pos) (MI K ta):=by
 subst hK
 intro pins s σ H R I h
 refine Call_ (gg I hg hm boot_enumerate (Qbe (cD (ha pos pins s σ H _ I h) fun us s1 ⟨vs,H1,I1,r1,q1⟩=>?_) hs rfl))
 obtain ⟨b,rfl,⟨xs,hq⟩,q⟩:=q1
 obtain ⟨u,rfl,ru⟩:=vals1 r1
 cases ru
 obtain ⟨aO,rv,pl,hz⟩:=I1.list hq
 obtain ⟨ob,eb,_⟩:=id pl.isList
 have cZ:b<s1.heap.objs.size:=Qal eb
 refine call_enumerate_list pl.isList fun h' he hit hsz hk=>wpAny_pyIter_enum he ?_
 refine ⟨s1.heap.objs.size+1,[s1.heap.objs.size+1,s1.heap.objs.size],_,_,H1,rfl,I1.kept (t':=s1.toks) hk,zP _ _ b (Qef _) (Qan (Qcv cZ)) (Qan cZ),⟨⟨_,he⟩,hit⟩,fun c hb=>?_,q⟩
 have iK:s1.heap.objs.size<=c:=by
  rcases Zv.mp hb with z | z
  ·rw[z];exact Qcn _
  ·rw[Zt.mp z];exact Tz _
 exact I1.pU iK (I1.cj.fresh iK)
theorem s_ {K:PySem.W.Frag} {a:Addr} {xs:List V} {g:TG} {tb:TS} {D:Ends} {σ:St} {H:Hp} (Pv:Nat->St->Hp->Prop) (h0:Pv 0 σ H) (hl: ∀i σ H,i<=xs.length->Pv i σ H->cO K H a xs)
  (hs: ∀i x σ H T,xs[i]? =some x->Pv i σ H->H T=none->g (.ref T) σ (upd H T (.tup [.int i,x])) fun σ2 H2=>tb { D with nx:=Pv (i+1),ct:=Pv (i+1),bk:=D.nx } σ2 H2) (hd: ∀σ H,Pv xs.length σ H->D.nx σ H):
  ∃W:Nat->Nat->St->Hp->Prop,(∃m,W 0 m σ H)/\ ∀i m σ H,W i m σ H->
   ((E2 K a).stop i H/\D.nx σ H)\/((E2 K a).go i H/\ ∃N:St->Hp->Prop,(∀σ' H',N σ' H'-> ∃m',m'<m/\W (i+1) m' σ' H')/\ ∀x H',(E2 K a).Ee i H x H'->g x σ H' fun σ2 H2=>tb { D with nx:=N,ct:=N,bk:=D.nx } σ2 H2):=by
 refine ⟨fun i m σ H=>m=xs.length - i/\i<=xs.length/\Pv i σ H,⟨xs.length,by simp,Qad _,h0⟩,?_⟩
 rintro i m σ H ⟨rfl,hi,p⟩
 have hq:=hl i σ H hi p
 by_cases cZ:i<xs.length
 ·refine .inr ⟨⟨xs,xs[i],hq,by simp[cZ]⟩,Pv (i+1),fun σ' H' p'=>⟨xs.length - (i+1),by omega,rfl,cZ,p'⟩,fun x H' y=>?_⟩
  obtain ⟨T,z,hz,rfl,hn,rfl⟩:=y
  exact hs i z σ _ T (hz xs hq) p hn
 ·have e:i=xs.length:=by omega
  subst e
  exact .inl ⟨⟨xs,hq,rfl⟩,hd σ H p⟩
theorem tf {K:PySem.W.Frag} {a:Addr} {xs:List V} {g:TG} {tb:TS} {D:Ends} {σ:St} {H:Hp} (Pv:Nat->St->Hp->Prop) (h0:Pv 0 σ H) (hl: ∀i σ H,i<=xs.length->Pv i σ H->bA K H a xs)
  (hs: ∀i x σ H T,xs[i]? =some x->Pv i σ H->H T=none->g (.ref T) σ (upd H T (.tup [.int i,x])) fun σ2 H2=>tb { D with nx:=Pv (i+1),ct:=Pv (i+1),bk:=D.nx } σ2 H2) (hd: ∀σ H,Pv xs.length σ H->D.nx σ H):
  ∃W:Nat->Nat->St->Hp->Prop,(∃m,W 0 m σ H)/\ ∀i m σ H,W i m σ H->
   ((E3 K a).stop i H/\D.nx σ H)\/((E3 K a).go i H/\ ∃N:St->Hp->Prop,(∀σ' H',N σ' H'-> ∃m',m'<m/\W (i+1) m' σ' H')/\ ∀x H',(E3 K a).Ee i H x H'->g x σ H' fun σ2 H2=>tb { D with nx:=N,ct:=N,bk:=D.nx } σ2 H2):=by
 refine ⟨fun i m σ H=>m=xs.length - i/\i<=xs.length/\Pv i σ H,⟨xs.length,by simp,Qad _,h0⟩,?_⟩
 rintro i m σ H ⟨rfl,hi,p⟩
 have hq:=hl i σ H hi p
 by_cases cZ:i<xs.length
 ·refine .inr ⟨⟨xs,xs[i],hq,by simp[cZ]⟩,Pv (i+1),fun σ' H' p'=>⟨xs.length - (i+1),by omega,rfl,cZ,p'⟩,fun x H' y=>?_⟩
  obtain ⟨T,z,hz,rfl,hn,rfl⟩:=y
  exact hs i z σ _ T (hz xs hq) p hn
 ·have e:i=xs.length:=by omega
  subst e
  exact .inl ⟨⟨xs,hq,rfl⟩,hd σ H p⟩
section
variable {X:Cx}
def MJ (K:PySem.W.Frag):List V->Hp->VK->Prop:=fun xs H Q=> ∃p ys,xs=[.ref p]/\((bA K H p ys/\ ∀l,H l=none->Q (.ref l) (upd H l (.tup ys)))\/(cO K H p ys/\Q (.ref p) H))
theorem cV (K:PySem.W.Frag) (h:X.K=K):dG X (.type "tuple") (MJ K):=by subst h;exact rN
end
theorem il {K:PySem.W.Frag} {a:Addr} {xs:List V} {σc:St} {g:TG} {tc:TT} {te:TE} {Q:VK} {H1:Hp} (Pv:Nat->List V->Hp->Prop) (hn:xs.length<sizeLine) (hl: ∀i acc H,Pv i acc H->cO K H a xs) (h0:Pv 0 [] H1)
  (hs: ∀(i:Nat) (x:V) (acc:List V) (H:Hp) (Nx:List V->Hp->Prop),i<xs.length->xs[i]? =some x->acc.length<=i->Pv i acc H->(∀eV H',eV.length<=i+1->Pv (i+1) eV H'->Nx eV H')->
   g x σc H fun σ2 H2=>Wk σc σ2/\tc σ2 H2 fun b H3=>if b=true then te σ2 H3 fun v H4=>Nx (acc++[v]) H4 else Nx acc H3)
  (hd: ∀acc H D,acc.length<=xs.length->Pv xs.length acc H->H D=none->Q (.ref D) (upd H D (.lst acc))):sR (Ou K a) σc g tc te Q H1:=
 o7 (xs:=fun i x=>xs[i]? =some x) Pv hn (fun i acc H h p=>⟨xs,xs[i],hl i acc H p,by simp[h]⟩) (fun acc H p=>⟨xs,hl _ acc H p,Tz _⟩) (fun i acc H x H' h p y=>⟨y.1,y.2 xs (hl i acc H p)⟩) h0 hs hd
theorem Jj (l a b:Nat):sO (.str (S [l])) [.str (S [a]), .str (S [b])]=(decide (l=a)||decide (l=b)):=by
 have key: ∀c:Nat,A9 (.str (S [c])) (.str (S [l]))=decide (l=c):=fun c=>by
  show decide (S [c]=S [l])=_
  refine decide_eq_decide.mpr ⟨fun z=>?_,fun z=>by rw[z]⟩
  have:=congrArg (fun x:Str=>x.cps.toList) z
  simpa [S,eq_comm]using this
 unfold sO
 rw[Qck,Qck,List.any_nil,key,key,Qdy]
theorem o8 (e:Nat) (l:List Nat):sO (.str (S [e])) (bN l)=decide (e∈l):=by
 have key: ∀c:Nat,A9 (.str (S [c])) (.str (S [e]))=decide (e=c):=fun c=>by
  show decide (S [c]=S [e])=_
  refine decide_eq_decide.mpr ⟨fun z=>?_,fun z=>by rw[z]⟩
  have:=congrArg (fun x:Str=>x.cps.toList) z
  simpa [S,eq_comm]using this
 unfold sO bN
 induction l with
 | nil=>rfl
 | cons c l ih=>
  rw[Qat,Qck,ih,key]
  by_cases z:e=c<;>simp[z]
def dv (H H':Hp):Prop:= ∀c xs,H c=some (.tup xs)->H' c=some (.tup xs)
theorem dv.trans {H H1 H2:Hp} (a:dv H H1) (b:dv H1 H2):dv H H2:=fun c xs h=>b c xs (a c xs h)
theorem dv.of {H H':Hp} (s:ar H H'):dv H H':=fun c xs h=>s c _ h
theorem dv.CV {H:Hp} {p:Addr} {ys:List V} {o:HO} (h:H p=some (.lst ys)):dv H (upd H p o):=fun c xs e=>by
 rw[aD (fun z=>by rw[z,h]at e;cases e)];exact e
section
variable {prog:Program} {w:World} {A:Around} {E:Value->Shared->Prop} {s:Shared}
noncomputable def bV:List Int->List Int->Bool
 | [],[]=>false
 | [],_::_=>true
 | _::_,[]=>false
 | a::r,b::t=>if a=b then bV r t else decide (a<b)
end
end L2
namespace HT
open PySem PySem.Spec PyProof.Rows
end HT
namespace L2
open PySem PySem.Spec PyProof.Rows
section
variable {κ:Type} [DecidableEq κ]
noncomputable def dZ (aU:List (κ×V)) (k:κ):Option V:=(aU.find? fun kv=>decide (kv.1=k)).map (·.2)
noncomputable def putK (aU:List (κ×V)) (k:κ) (v:V):List (κ×V):=
 if (aU.any fun kv=>decide (kv.1=k))=true then aU.map (fun kv=>if kv.1=k then (kv.1,v) else kv) else aU++[(k,v)]
theorem dz {p:κ×V} {r:List (κ×V)} {k:κ} (e:p.1=k):dZ (p::r) k=some p.2:=by simp[dZ,Qcu,e]
theorem cW {p:κ×V} {r:List (κ×V)} {k:κ} (e: ¬p.1=k):dZ (p::r) k=dZ r k:=by simp[dZ,Qcu,e]
theorem jw (k:κ): ∀aU:List (κ×V),(aU.any fun kv=>decide (kv.1=k))=(dZ aU k).isSome
 | []=>rfl
 | p::r=>by
  rw[Qck]
  by_cases e:p.1=k
  ·simp only[dz e,decide_eq_true e,Bool.true_or,Option.isSome_some]
  ·rw[cW e,decide_eq_false e,Qe9];exact jw k r
theorem xB (k j:κ) (y:V): ∀aU:List (κ×V),dZ (aU.map fun kv=>if kv.1=k then (kv.1,y) else kv) j=(dZ aU j).map fun x=>if j=k then y else x
 | []=>rfl
 | p::r=>by
  have ih:=xB k j y r
  rw[Qat]
  by_cases h:p.1=k
  ·rw[if_pos h]
   by_cases e:p.1=j
   ·rw[dz (p:=(p.1,y)) e,dz e,Qer,if_pos (e.symm.trans h)]
   ·rw[cW (p:=(p.1,y)) e,cW e,ih]
  ·rw[if_neg h]
   by_cases e:p.1=j
   ·rw[dz (p:=p) e,dz e,Qer,if_neg (fun z=>h (e.trans z))]
   ·rw[cW (p:=p) e,cW e,ih]
theorem tm (k j:κ) (y:V): ∀aU:List (κ×V),dZ aU k=none->dZ (aU++[(k,y)]) j=if j=k then some y else dZ aU j
 | [],_=>by
  by_cases e:k=j
  ·rw[if_pos e.symm];exact dz (p:=(k,y)) e
  ·rw[if_neg (fun z=>e z.symm)];exact cW (p:=(k,y)) e
 | p::r,hn=>by
  rw[Qfp]
  have hk: ¬p.1=k:=fun z=>by rw[dz z]at hn;cases hn
  rw[cW hk]at hn
  have ih:=tm k j y r hn
  by_cases e:p.1=j
  ·rw[dz e,dz e,if_neg (fun z=>hk (e.trans z))]
  ·rw[cW e,cW e,ih]
theorem E4 (aU:List (κ×V)) (k j:κ) (y:V):dZ (putK aU k y) j=if j=k then some y else dZ aU j:=by
 unfold putK
 by_cases a:(aU.any fun kv=>decide (kv.1=k))=true
 ·rw[if_pos a,xB]
  rw[jw]at a
  by_cases e:j=k
  ·obtain ⟨x,hx⟩:=Option.isSome_iff_exists.mp a
   rw[if_pos e,e,hx,Qer,if_pos rfl]
  ·rw[if_neg e]
   cases dZ aU j with
   | none=>rfl
   | some x=>rw[Qer,if_neg e]
 ·rw[if_neg a]
  refine tm k j y aU ?_
  rw[jw]at a
  cases q:dZ aU k with
  | none=>rfl
  | some x=>rw[q]at a;exact (a rfl).elim
theorem gW (aU:List (κ×V)) (k:κ) (v:V):(putK aU k v).length<=aU.length+1:=by
 unfold putK
 split
 ·rw[Xl];omega
 ·rw[Oy,Qay,List.length_nil];omega
theorem xC {aU:List (κ×V)} {k:κ} (v:V) (h:dZ aU k=none):putK aU k v=aU++[(k,v)]:=by
 unfold putK
 rw[jw,h]
 exact if_neg (by decide)
theorem mR.CY {o:Option V} {u:Option Value} (r:mR o u):o.isSome=u.isSome:=by
 cases o with
 | none=>cases u with
  | none=>rfl
  | some _=>exact (show False from r).elim
 | some _=>cases u with
  | none=>exact (show False from r).elim
  | some _=>rfl
theorem KV.val {aU:List (κ×V)} {vs:List (κ×Value)} (r:KV aU vs) (k:κ):mR (dZ aU k) (valueAt vs k):=by
 unfold KV at r
 induction r with
 | nil=>exact True.intro
 | @cons p q ps qs h t ih=>
  obtain ⟨h1,h2⟩:=h
  by_cases e:p.1=k
  ·have e':q.1=k:=h1.symm.trans e
   have b:valueAt (q::qs) k=some q.2:=by simp[valueAt,Qcu,e']
   rw[dz e,b];exact h2
  ·have e': ¬q.1=k:=fun z=>e (h1.trans z)
   have b:valueAt (q::qs) k=valueAt qs k:=by simp[valueAt,Qcu,e']
   rw[cW e,b];exact ih
theorem KV.any {aU:List (κ×V)} {vs:List (κ×Value)} (r:KV aU vs) (k:κ):(aU.any fun kv=>decide (kv.1=k))=vs.any fun kv=>decide (kv.1=k):=by
 unfold KV at r
 induction r with
 | nil=>rfl
 | cons h t ih=>rw[Qck,Qck,ih,h.1]
theorem KV.MK {aU:List (κ×V)} {vs:List (κ×Value)} (r:KV aU vs) (k:κ) {y:V} {u:Value} (ry:RelV y u):
  KV (aU.map fun kv=>if kv.1=k then (kv.1,y) else kv) (vs.map fun kv=>if kv.1=k then (kv.1,u) else kv):=by
 unfold KV at r ⊢
 induction r with
 | nil=>exact .nil
 | @cons p q ps qs h t ih=>
  rw[Qat,Qat]
  refine .cons ?_ ih
  obtain ⟨h1,h2⟩:=h
  by_cases e:p.1=k
  ·rw[if_pos e,if_pos (h1.symm.trans e)];exact ⟨h1,ry⟩
  ·rw[if_neg e,if_neg (fun z=>e (h1.trans z))];exact ⟨h1,h2⟩
theorem KV.put {aU:List (κ×V)} {vs:List (κ×Value)} (r:KV aU vs) (k:κ) {y:V} {u:Value} (ry:RelV y u):KV (putK aU k y) (stored vs k u):=by
 unfold putK stored
 rw[r.any k]
 by_cases e:(vs.any fun kv=>decide (kv.1=k))=true
 ·rw[if_pos e,if_pos e];exact r.MK k ry
 ·rw[if_neg e,if_neg e];exact Paired.snoc r ⟨rfl,ry⟩
theorem KV.length {aU:List (κ×V)} {vs:List (κ×Value)} (r:KV aU vs):aU.length=vs.length:=Paired.length r
end
theorem E5 {P:Program} {w:World} {k:Key} {u:Value} (r:RelV (kV k) u):(c_ P w).is k u=true:=by
 cases k with
 | inl i=>obtain ⟨t,e⟩:=(show ∃t,u=Value.int i t from r);subst e;exact wV P w i t
 | inr x=>obtain ⟨t,e⟩:=(show ∃t,u=Value.str x t from r);subst e;exact wW P w x t
theorem tu {P:Program} {w:World}: ∀{ks:List Key} {us:List Value},Vals (ks.map kV) us->ItemsAre (c_ P w) ks us
 | [],_,r=>by rw[List.map_nil]at r;cases r;exact .nil
 | k::ks,_,r=>by
  rw[Qat]at r
  cases r with
  | cons h t=>exact .cons (E5 h) (tu t)
abbrev KT (H:Hp):List (List Key×V)->List (List Key×Addr×Value)->Prop:=Paired fun p q=>p.1=q.1/\H q.2.1=some (.tup (p.1.map kV))/\RelV p.2 q.2.2
theorem KT.val {H:Hp} {aU:List (List Key×V)} {xs:List (List Key×Addr×Value)} (r:KT H aU xs) (k:List Key):mR (dZ aU k) ((atKey xs k).map (·.2)):=by
 induction r with
 | nil=>exact True.intro
 | @cons p q ps qs h t ih=>
  obtain ⟨h1,_,h2⟩:=h
  by_cases e:p.1=k
  ·have e':q.1=k:=h1.symm.trans e
   have b:atKey (q::qs) k=some q.2:=by simp[atKey,Qcu,e']
   rw[dz e,b];exact h2
  ·have e': ¬q.1=k:=fun z=>e (h1.trans z)
   have b:atKey (q::qs) k=atKey qs k:=by simp[atKey,Qcu,e']
   rw[cW e,b];exact ih
theorem KT.MK {H:Hp} {aU:List (List Key×V)} {xs:List (List Key×Addr×Value)} (r:KT H aU xs) (k:List Key) {y:V} {u:Value} (ry:RelV y u):
  KT H (aU.map fun kv=>if kv.1=k then (kv.1,y) else kv) (xs.map (putAt k u)):=by
 induction r with
 | nil=>exact .nil
 | @cons p q ps qs h t ih=>
  rw[Qat,Qat]
  refine .cons ?_ ih
  obtain ⟨h1,h2,h3⟩:=h
  unfold putAt
  by_cases e:p.1=k
  ·rw[if_pos e,if_pos (h1.symm.trans e)];exact ⟨h1,h2,ry⟩
  ·rw[if_neg e,if_neg (fun z=>e (h1.trans z))];exact ⟨h1,h2,h3⟩
theorem KT.put {H:Hp} {aU:List (List Key×V)} {xs:List (List Key×Addr×Value)} (r:KT H aU xs) (k:List Key) {b:Addr} {y:V} {u:Value} (hb:H b=some (.tup (k.map kV))) (ry:RelV y u):
  KT H (putK aU k y) (storedH xs k b u):=by
 have e:(aU.any fun kv=>decide (kv.1=k))=(atKey xs k).isSome:=by
  rw[jw,(r.val k).CY,Option.isSome_map]
 unfold putK storedH
 rw[e]
 by_cases q:(atKey xs k).isSome=true
 ·rw[if_pos q,if_pos q];exact r.MK k ry
 ·rw[if_neg q,if_neg q];exact Paired.snoc r ⟨rfl,hb,ry⟩
theorem KT.keeps {H H':Hp} {aU:List (List Key×V)} {xs:List (List Key×Addr×Value)} (r:KT H aU xs) (ht: ∀b ys,H b=some (.tup ys)->H' b=some (.tup ys)):KT H' aU xs:=
 Paired.LO r fun _ _ z=>⟨z.1,ht _ _ z.2.1,z.2.2⟩
section
variable {P:Program} {w:World} {H:Hp} {h:Heap} {a:Addr}
theorem Lc {u:HO} (ok:kO P w H h) (e:Rd H a u):cB P w H h a u:=e.ok ok
theorem E6 {aU:List (Key×V)} (ok:kO P w H h) (e:Rd H a (.dK aU)):aU.length<=sizeLine/\(a==sysModules)=false/\ ∃vs,KV aU vs/\h.DictOf (c_ P w) a vs:=
 show cB P w H h a (.dK aU) from Lc ok e
theorem RU {aU:List (Key×V)} (ok:kO P w H h) (e:H a=some (.dK aU)):aU.length<=sizeLine/\(a==sysModules)=false/\ ∃vs,KV aU vs/\h.DictOf (c_ P w) a vs:=E6 ok (.inl e)
theorem zQ {ks:List Key} (ok:kO P w H h) (e:H a=some (.tup (ks.map kV))):(tupleKind (c_ P w)).is h ks a:=by
 obtain ⟨_,aO,r,o,h1,h2,n,h3⟩:=(show cB P w H h a (.tup (ks.map kV)) from ok a _ e)
 exact ⟨o,aO.toArray,n,h1,h2,h3,by simpa using tu r⟩
theorem E7 {aU:List (List Key×V)} (ok:kO P w H h) (e:Rd H a (.dT aU)):aU.length<=sizeLine/\(a==sysModules)=false/\
  ∃xs,KT H aU xs/\h.DictOfH (tupleKind (c_ P w)) a xs:=by
 obtain ⟨z,y,xs,r,o,es,ep,h1,h2,h3,h4,h5⟩:=(show cB P w H h a (.dT aU) from Lc ok e)
 refine ⟨z,y,xs,r,o,es,ep,h1,h2,h3,h4,fun x hx=>?_,h5⟩
 have all: ∀{l:List (List Key×V)} {m:List (List Key×Addr×Value)},KT H l m-> ∀x∈m,(tupleKind (c_ P w)).is h x.1 x.2.1:=by
  intro l m q
  induction q with
  | nil=>intro x hx;exact nomatch hx
  | @cons p q ps qs hq t ih=>
   intro x hx
   rcases Zv.mp hx with e | hx
   ·subst e
    exact zQ ok (by rw[<-hq.1];exact hq.2.1)
   ·exact ih x hx
 exact all r x hx
theorem RV {aU:List (List Key×V)} (ok:kO P w H h) (e:H a=some (.dT aU)):aU.length<=sizeLine/\(a==sysModules)=false/\
  ∃xs,KT H aU xs/\h.DictOfH (tupleKind (c_ P w)) a xs:=E7 ok (.inl e)
end
def qg (H:Hp) (a:Addr) (y:V) (r:Option V):Prop:=
 (∃aU k,Rd H a (.dK aU)/\y=kV k/\r=dZ aU k)\/ ∃aU k b,Rd H a (.dT aU)/\y= .ref b/\H b=some (.tup (k.map kV))/\r=dZ aU k
def va (H:Hp) (a:Addr) (y v:V) (H':Hp):Prop:=
 (∃aU k,H a=some (.dK aU)/\y=kV k/\aU.length<sizeLine/\H'=upd H a (.dK (putK aU k v)))\/
 ∃aU k b,H a=some (.dT aU)/\y= .ref b/\H b=some (.tup (k.map kV))/\aU.length<sizeLine/\H'=upd H a (.dT (putK aU k v))
theorem qg.k {H:Hp} {a:Addr} {aU:List (Key×V)} {k:Key} (e:H a=some (.dK aU)):qg H a (kV k) (dZ aU k):= .inl ⟨aU,k, .inl e,rfl,rfl⟩
theorem qg.t {H:Hp} {a b:Addr} {aU:List (List Key×V)} {k:List Key} (e:H a=some (.dT aU)) (eb:H b=some (.tup (k.map kV))):qg H a (.ref b) (dZ aU k):= .inr ⟨aU,k,b, .inl e,rfl,eb,rfl⟩
theorem va.k {H:Hp} {a:Addr} {aU:List (Key×V)} {k:Key} {v:V} (e:H a=some (.dK aU)) (hl:aU.length<sizeLine):va H a (kV k) v (upd H a (.dK (putK aU k v))):= .inl ⟨aU,k,e,rfl,hl,rfl⟩
theorem va.t {H:Hp} {a b:Addr} {aU:List (List Key×V)} {k:List Key} {v:V} (e:H a=some (.dT aU)) (eb:H b=some (.tup (k.map kV))) (hl:aU.length<sizeLine):
  va H a (.ref b) v (upd H a (.dT (putK aU k v))):= .inr ⟨aU,k,b,e,rfl,eb,hl,rfl⟩
section
variable {X:Cx} {pins:List (Addr×Obj)} {σ:St} {H:Hp} {s:Shared} {a:Addr} {y v:V} {u r:Value} {o:Option V} {A:Around} {E:Value->Shared->Prop}
theorem Inv.big (I:Inv X pins σ H s):sysModules<s.heap.objs.size:=by
 have h:mainGlobals<s.heap.objs.size:=(I.mod.glob.keeps I.bk).lt
 exact Qc9 (by decide) h
theorem CZ {Q:Value->Shared->Prop} (hu:A.units+1<cLine) (I:Inv X pins σ H s) (g:qg H a y (some v)) (ry:RelV y u) (h: ∀w' s',Inv X pins σ H s'->RelV v w'->Q w' s'):
  wpAny (model X.prog X.w) A (getItem (.ref a) u) Q E s:=by
 rcases g with ⟨aU,k,e,ey,l⟩ | ⟨aU,k,b,e,ey,eb,l⟩
 ·subst ey
  obtain ⟨z,hd,vs,rel,dd⟩:=E6 I.cj e
  obtain ⟨w',hw,rL⟩:=mR.some_of (v:=v) (o:=valueAt vs k) (by rw[l];exact rel.val k)
  exact wpAny_getItem_of (E5 ry) dd.mapOf hw (h w' _ (I.tok _) rL)
 ·subst ey
  cases (show u=Value.ref b from ry)
  obtain ⟨z,hd,xs,rel,dd⟩:=E7 I.cj e
  obtain ⟨w',hw,rL⟩:=mR.some_of (v:=v) (o:=(atKey xs k).map (·.2)) (by rw[l];exact rel.val k)
  obtain ⟨p,hp,tw⟩:=Qen.mp hw
  refine wpAny_getItem_heap (tupleKind_room_in1 hu) (zQ I.cj eb) dd hp ?_
  rw[tw]
  exact h w' _ (I.tok _) rL
theorem Bg {h':Heap} {t':Nat} {ob:HO} (I:Inv X pins σ H s) (mu:QK (H a)) (hs:Heap.SameBut a s.heap h') (he: ∃q,h'.get? a=some q) (new:cB X.prog X.w (upd H a ob) h' a ob):
  Inv X pins σ (upd H a ob) { s with heap:=h',toks:=t' }:=
 I.write (x:=a) (e:=a) mu (.inl rfl) (fun b q hb z=>(hs.2 b hb).trans z) he new
theorem ML {P:Program} {w:World} {H':Hp} {h':Heap} {aU:List (Key×V)} {vs:List (Key×Value)} (z:aU.length<=sizeLine) (hd:(a==sysModules)=false) (rel:KV aU vs) (dd:h'.DictOf (c_ P w) a vs):
  cB P w H' h' a (.dK aU):=⟨z,hd,vs,rel,dd⟩
theorem C0 {H':Hp} {Q:Unit->Shared->Prop} (hu:A.units+1<cLine) (I:Inv X pins σ H s) (g:va H a y v H') (ry:RelV y u) (rv:RelV v r) (h: ∀s',Inv X pins σ H' s'->Q () s'):
  wpAny (model X.prog X.w) A (setItem (.ref a) u r) Q E s:=by
 rcases g with ⟨aU,k,e,ey,l,eH⟩ | ⟨aU,k,b,e,ey,eb,l,eH⟩
 ·subst ey eH
  obtain ⟨z,hd,vs,rel,dd⟩:=RU I.cj e
  have hz:vs.length<=sizeLine:=by rw[<-rel.length];exact z
  have hl:(putK aU k v).length<=sizeLine:=by have:=gW aU k v;omega
  refine wpAny_setItem_pairs (hsz:=hz) (E5 ry) dd fun h' TC hs=>h _ ?_
  have he: ∃q,h'.get? a=some q:=let ⟨q,_,_,hq,_⟩:=TC;⟨q,hq⟩
  exact Bg I (by rw[e];exact True.intro) hs he (ML hl hd (rel.put k rv) TC)
 ·subst ey eH
  cases (show u=Value.ref b from ry)
  obtain ⟨z,hd,xs,rel,dd⟩:=RV I.cj e
  have hz:xs.length<=sizeLine:=by rw[<-Paired.length rel];exact z
  have hl:(putK aU k v).length<=sizeLine:=by have:=gW aU k v;omega
  refine wpAny_setItem_heap (hsz:=hz) (tupleKind_room_in1 hu) (zQ I.cj eb) dd fun h' TC hs=>h _ ?_
  obtain ⟨q,es,ep,hq,h2,h3,h4,_,h5⟩:=TC
  refine Bg I (by rw[e];exact True.intro) hs ⟨q,hq⟩ ⟨hl,hd,_,(rel.put k eb rv).keeps fun c ys ec=>?_,q,es,ep,hq,h2,h3,h4,h5⟩
  rw[aD (QJ ec e (fun z=>nomatch z))]
  exact ec
end
def RW (i:Expr):Prop:= ∀ov iv,subscripted i false ov iv=operate [ov,iv] (getItem ov iv)
theorem Jk {prog:Program} {w:World} {A:Around} {E:Value->Shared->Prop} {s:Shared} {env:Env} {value slice:Expr} {pos:Pos} {T id:String} {Q:Value->Shared->Prop}
  (hl:typeLookup (.type T) "__getitem__"=pure (some (.builtin id))) (hs:RW slice)
  (h:wpAny (model prog w) A (eval value env) (fun o s₁=>wpAny (model prog w) A (eval slice env) (fun i s₂=>s₂.TypeIs o T/\wpAny (model prog w) A (getItem o i) Q E s₂) E s₁) E s):
  wpAny (model prog w) A (eval (.Subscript value slice pos) env) Q E s:=by
 refine Subscript_ (wpAny_mono h (fun o s₁ h₁=>wpAny_mono h₁ (fun i s₂ h₂=>?_) fun _ _ x=>x) fun _ _ x=>x)
 obtain ⟨hT,h₂⟩:=h₂
 unfold subscriptTail
 refine wpAny_bind ?_
 rw[getitemInPython_of_ne hT.not_modules]
 refine wpAny_bind (wpAny_specialOf hT hl ?_)
 have fin:wpAny (model prog w) A (subscripted slice false o i) (fun r s₃=>wpAny (model prog w) A (letTemporaryGo value o r >>= fun _=>pure r) Q E s₃) E s₂:=by
  rw[hs o i]
  exact wpAny_operating (wpAny_mono h₂ (fun r s₃ h₃=>wpAny_bind (wpAny_letTemporaryGo (wpAny_pure h₃))) fun _ _ x=>x)
 first
  | exact wpAny_pure (wpAny_bind fin)
  | exact wpAny_bind (wpAny_pure (wpAny_bind fin))
  | exact wpAny_bind fin
theorem xD {X:Cx} {pins:List (Addr×Obj)} {σ:St} {H:Hp} {s:Shared} {a:Addr} {y:V} {o:Option V} (I:Inv X pins σ H s) (g:qg H a y o):s.TypeIs (.ref a) "dict":=by
 rcases g with ⟨aU,k,e,_,_⟩ | ⟨aU,k,b,e,_,_,_⟩
 ·obtain ⟨_,_,vs,_,dd⟩:=E6 I.cj e
  exact dd.typeIs
 ·obtain ⟨_,_,xs,_,dd⟩:=E7 I.cj e
  exact dd.typeIs
def RX (td ty:TE):TE:=fun σ H Q=>td σ H fun x H1=>ty σ H1 fun y H2=> ∃a v,x= .ref a/\qg H2 a y (some v)/\Q v H2
def RY (td ty tv:TE):TS:=fun D σ H=>tv σ H fun v H1=>td σ H1 fun x H2=>ty σ H2 fun y H3=> ∃a H4,x= .ref a/\va H3 a y v H4/\D.nx σ H4
section
variable {X:Cx} {o i e value:Expr} {pos pos' Rb:Pos} {td ty tv:TE}
theorem o9 (hu:X.A.units+1<cLine) (ho:PE X o td) (hi:PE X i ty) (hs:RW i):PE X (.Subscript o i pos) (RX td ty):=by
 intro pins s σ H Q I h
 refine Jk PySem.F.slot_dict_getitem.lookup hs (cD (ho pins s σ H _ I h) fun u s1 ⟨x,H1,I1,rx,q1⟩=>cD (hi pins s1 σ H1 _ I1 q1) fun iv s2 ⟨y,H2,I2,ry,a,v,ex,g,q2⟩=>?_)
 subst ex
 obtain rfl:u=Value.ref a:=rx
 exact ⟨xD I2 g,CZ hu I2 g ry fun w' s3 I3 rL=>⟨v,H2,I3,rL,q2⟩⟩
theorem vb (hu:X.A.units+1<cLine) (ho:PE X o td) (hi:PE X i ty) (hv:PE X value tv) (hs:swapsWith value (some (.Subscript o i pos')) pos.line X.env=pure false):
  PS X (.Assign [.Subscript o i pos'] value pos) (RY td ty tv):=by
 intro pins s σ H D I h
 refine wpAny_Assign_Subscript (cD (hv pins s σ H _ I h) fun r s1 ⟨v,H1,I1,rv,q1⟩=>cD (ho pins s1 σ H1 _ I1 q1) fun u s2 ⟨x,H2,I2,rx,q2⟩=>cD (hi pins s2 σ H2 _ I2 q2) fun iv s3 ⟨y,H3,I3,ry,a,H4,ex,g,q3⟩=>?_) hs
 subst ex
 obtain rfl:u=Value.ref a:=rx
 exact C0 hu I3 g ry rv fun s4 I4=>⟨σ,H4,I4,q3⟩
end
theorem E8 {P:Program} {w:World} {H:Hp} (h:Heap) (hb:sysModules<h.objs.size):cB P w H (h.push { cls:= .type "dict",data:= .dict #[] }) h.objs.size (.dK []):=
 ⟨Qad _,beq_eq_false_iff_ne.mpr (Ne.symm (Qan hb)),[], .nil,Heap.DictOf.new h⟩
theorem E9 {P:Program} {w:World} {H:Hp} (h:Heap) (hb:sysModules<h.objs.size):cB P w H (h.push { cls:= .type "dict",data:= .dict #[] }) h.objs.size (.dT []):=
 ⟨Qad _,beq_eq_false_iff_ne.mpr (Ne.symm (Qan hb)),[], .nil,_, #[],0,Qam _ rfl,⟨rfl,rfl,rfl⟩,rfl,rfl,Qd8⟩
def MM:TE:=fun _ H Q=> ∀p,H p=none->Q (.ref p) (upd H p (.dK []))
def MN:TE:=fun _ H Q=> ∀p,H p=none->Q (.ref p) (upd H p (.dT []))
section
variable {X:Cx} {pos:Pos}
theorem E_:PE X (.Dict [] [] pos) MM:=fun pins s σ H Q I h=>
 wpAny_Dict_empty ⟨.ref s.heap.objs.size,_,I.laid (a:=s.heap.objs.size) (o:= .dK []) (t':=s.toks) (fun _ _ q=>Xm _ q) (Tz _) (E8 s.heap I.big),rfl,h _ (I.cj.fresh (Tz _))⟩
theorem Fb:PE X (.Dict [] [] pos) MN:=fun pins s σ H Q I h=>
 wpAny_Dict_empty ⟨.ref s.heap.objs.size,_,I.laid (a:=s.heap.objs.size) (o:= .dT []) (t':=s.toks) (fun _ _ q=>Xm _ q) (Tz _) (E9 s.heap I.big),rfl,h _ (I.cj.fresh (Tz _))⟩
end
end L2
namespace L2.F2
open PySem PySem.Spec PyProof.Rows
end L2.F2
namespace L2
open PySem PySem.Spec PyProof.Rows
section
variable {prog:Program} {w:World} {A:Around} {E:Value->Shared->Prop} {s:Shared}
theorem qh {h h':Heap} {l b:Addr} {items:Array Value} (x:h.IsList l items) (k:Heap.ExtBut b h h') (n:l≠b):h'.IsList l items:=let ⟨o,ho,r⟩:=x;⟨o,k l o n ho,r⟩
theorem tD {it l:Addr} {items:Array Value} (dH:l≠it): ∀(n i:Nat) (s:Shared) (Q:List Value->Shared->Prop),s.heap.IsListIter it l i->s.heap.IsList l items->i+n<=items.size->
  (∀h',h'.IsListIter it l (i+n)->Heap.SameBut it s.heap h'->Q ((items.toList.drop i).take n) { s with heap:=h' })->wpAny (model prog w) A (draw (.ref it) n) Q E s
 | 0,i,s,Q,hit,_,_,hQ=>by
  show wpAny _ _ (pure []) Q E s
  exact wpAny_pure (by simpa using hQ s.heap hit (Heap.SameBut.refl ..))
 | n+1,i,s,Q,hit,ht,hle,hQ=>by
  have cZ:i<items.size:=by omega
  show wpAny _ _ (pyNext (.ref it) >>= _) Q E s
  refine wpAny_bind (wpAny_pyNext_list_item hit ht (x:=items[i]) (by simp[cZ]) fun h₁ MO RZ=>?_)
  refine wpAny_bind (wpAny_holding (tD dH n (i+1) _ _ MO (qh ht RZ.extBut dH) (by omega) fun h₂ VP ZD=>wpAny_pure ?_))
  have hd:items.toList.drop i=items[i]::items.toList.drop (i+1):=by simp[Qbj,cZ]
  have:=hQ h₂ (by rw[show i+(n+1)=i+1+n by omega];exact VP) (RZ.trans ZD)
  rw[hd,List.take_succ_cons]at this
  exact this
theorem mY {t:Addr} {items:Array Value} {Q:List Value->Shared->Prop} (hh:A.handled=none) (ht:s.heap.IsList t items)
  (hQ: ∀h',Heap.ExtBut s.heap.objs.size s.heap h'->Q items.toList { s with heap:=h' }):wpAny (model prog w) A (unpackItems (.ref t) items.size none) Q E s:=by
 have cZ:t≠s.heap.objs.size:=by obtain ⟨o,ho,_⟩:=ht;exact Qan (Qal ho)
 have hT:s.TypeIs (.ref t) "list":=let ⟨o,ho,hc,_⟩:=ht;⟨o,ho,hc⟩
 unfold unpackItems
 refine wpAny_bind ?_
 unfold notIterableAtAll
 refine wpAny_bind (wpAny_specialOf hT PySem.F.slot_list_iter.lookup ?_)
 refine wpAny_pure ?_
 simp only[Qcj,if_false]
 refine wpAny_bind (wpAny_holding (wpAny_pyIter_list ht ?_))
 have Xx: ∀o:Obj,(s.heap.push o).IsList t items:=fun o=>let ⟨ob,ho,r⟩:=ht;⟨ob,Xm _ ho,r⟩
 refine wpAny_bind (wpAny_holding (tD cZ items.size 0 _ _ ⟨_,Qam _ rfl,rfl,rfl⟩ (Xx _) (by omega) fun h₁ MO RZ=>?_))
 have CK:List.take items.size (List.drop 0 items.toList)=items.toList:=by
  rw[List.drop_zero];exact Qar (by simp)
 rw[CK]
 rw[if_neg (by simp)]
 have ZE:h₁.IsList t items:=qh (Xx _) RZ.extBut cZ
 refine wpAny_bind (wpAny_holding (wpAny_pyNext_list_end hh MO ZE (by simp) fun h₂ ZF=>?_))
 simp only[Option.isSome_none,Qcj,if_false]
 refine wpAny_pure (hQ h₂ fun b o hb e=>ZF b o hb (RZ.extBut b o hb (Xm _ e)))
theorem lS {env:Env} {elts:List Expr} {x1} {pos:Pos} {t:Addr} {items:Array Value} {Q:Unit->Shared->Prop} (hh:A.handled=none) (ht:s.heap.IsList t items)
  (hn:(assignEach elts env).length=items.size) (R0:(assignEach elts env).findIdx? (·.1)=none)
  (h: ∀h',Heap.ExtBut s.heap.objs.size s.heap h'->wpAny (model prog w) A (assignInOrder ((assignEach elts env).map (·.2)) items.toList) Q E { s with heap:=h' }):
  wpAny (model prog w) A (assign (.Tuple elts x1 pos) env (.ref t)) Q E s:=by
 rw[assign_Tuple]
 refine wpAny_bind (wpAny_standAt ?_)
 unfold unpack
 rw[hn,R0]
 exact wpAny_bind (wpAny_holding (mY hh ht h))
end
section
variable {X:Cx}
def VQ (K:PySem.W.Frag) (n:Nat) (t:HU):TG:=fun v σ H Q=> ∃a xs,v= .ref a/\bA K H a xs/\xs.length=n/\t xs σ H Q
theorem Jl (K:PySem.W.Frag) (h:X.K=K) {es:List Expr} {k:Nat} {t:HU} {n:Nat} {pos:Pos} (hc:X.calm=true) (hs:Oq X es t)
  (hn:(assignEach es X.env).length=n:=by rfl) (ky:(assignEach es X.env).findIdx? (·.1)=none:=by rfl):PG X (.Tuple es k pos) (VQ K n t):=by
 subst h
 intro pins s σ H v u Q I r hw
 obtain ⟨a,xs,e1,hq,hl,hw⟩:=hw
 subst e1
 cases r
 obtain ⟨aO,rv,ht,hz⟩:=I.list hq
 refine lS (I.ok.hd hc) ht.isList (by simp[hn, <-hl,rv.length]) ky fun h' hx=>?_
 have I1:Inv X pins σ H { s with heap:=h' }:=I.kept (t':=s.toks) fun b o e=>hx b o (Qan (Qal e)) e
 exact hs pins _ σ H xs _ Q I1 (by simpa using rv) hw
end
noncomputable def H_ (a b c d:Int):Bool:=if a=c then decide (b<d) else decide (a<c)
section
variable {prog:Program} {w:World} {A:Around} {E:Value->Shared->Prop} {s:Shared}
theorem Jm {p q:Addr} {ox oy:Obj} {mx my:Nat} {a b c d:Int} {t1 t2 t3 t4:Tok} {P:PySem.Fin->Shared->Prop} (TF:s.heap.get? p=some ox) (VR:ox.data= .seq #[.int a t1, .int b t2] mx)
  (R1:s.heap.get? q=some oy) (mZ:oy.cls= .type "tuple") (VS:oy.data= .seq #[.int c t3, .int d t4] my) (h:P (.done (.ret (.bool (H_ a b c d)))) s):
  wpAny (model prog w) A (Builtin.«tuple.__lt__» ⟨[.ref p, .ref q],[]⟩) P E s:=by
 have hT:s.TypeIs (.ref q) "tuple":=⟨oy,R1,mZ⟩
 show wpAny _ _ (isInstance (.ref q) (.type "tuple") >>= fun b=>_) _ _ s
 refine wpAny_bind (wpAny_isInstance (b:=true) hT isSubtype_tuple_tuple ?_)
 simp only[Qe8,Qcj,if_false]
 refine wpAny_bind (wpAny_tupleItemsOf TF VR ?_)
 refine wpAny_bind (wpAny_tupleItemsOf R1 VS ?_)
 refine wpAny_bind ?_
 show wpAny _ _ (forIn [(Value.int a t1,Value.int c t3),(Value.int b t2,Value.int d t4)] _ _) _ _ _
 rw[Qd1]
 refine wpAny_bind (wpAny_bind (wpAny_eqBool_int ?_))
 unfold H_ at h
 by_cases e:a=c
 ·rw[if_pos e]at h
  rw[show (a==c)=true by simp[e]]
  simp only[Qe8,Qcj,if_false]
  refine wpAny_pure ?_
  dsimp only
  rw[Qd1]
  refine wpAny_bind (wpAny_bind (wpAny_eqBool_int ?_))
  by_cases e2:b=d
  ·rw[show (b==d)=true by simp[e2]]
   simp only[Qe8,Qcj,if_false]
   refine wpAny_pure ?_
   dsimp only
   rw[List.forIn_nil]
   refine wpAny_pure ?_
   dsimp only
   refine wpAny_pure ?_
   rw[decide_eq_false (by omega)]at h
   exact h
  ·rw[show (b==d)=false by simp[e2]]
   simp only[Bool.not_false,if_true]
   refine wpAny_bind (wpAny_rule ?_)
   refine wpAny_bind (lt_int ?_)
   refine wpAny_bind (wpAny_pure ?_)
   refine wpAny_pure ?_
   dsimp only
   refine wpAny_pure ?_
   dsimp only
   exact wpAny_pure h
 ·rw[if_neg e]at h
  rw[show (a==c)=false by simp[e]]
  simp only[Bool.not_false,if_true]
  refine wpAny_bind (wpAny_rule ?_)
  refine wpAny_bind (lt_int ?_)
  refine wpAny_bind (wpAny_pure ?_)
  refine wpAny_pure ?_
  dsimp only
  refine wpAny_pure ?_
  dsimp only
  exact wpAny_pure h
end
section
variable {X:Cx}
def VT (K:PySem.W.Frag):R2:=fun x y H Q=> ∃p q a b c d,x= .ref p/\y= .ref q/\cO K H p [.int a, .int b]/\cO K H q [.int c, .int d]/\Q (.bl (H_ a b c d)) H
theorem xE {a b:Int} {us:List Value} (r:Vals [.int a, .int b] us): ∃t u,us=[.int a t, .int b u]:=by
 cases r with
 | cons r1 r=>
  cases r with
  | cons r2 r=>
   cases r
   obtain ⟨t,rfl⟩:=r1
   obtain ⟨u,rfl⟩:=r2
   exact ⟨t,u,rfl⟩
theorem MP {k:Nat} (K:PySem.W.Frag) (h:X.K=K) (hr:fu k X.A):iJ X (compareOp .Lt) (VT K):=by
 subst h
 intro pins s σ H x y v u Q I rx ry h
 obtain ⟨p,q,a,b,c,d,rfl,rfl,hp,hq,r⟩:=h
 cases rx
 cases ry
 obtain ⟨xs,ZG,px,_⟩:=I.tuple hp
 obtain ⟨ys,ZH,py,_⟩:=I.tuple hq
 obtain ⟨ox,TF,VJ,mx,VR⟩:=px
 obtain ⟨oy,R1,mZ,my,VS⟩:=py
 obtain ⟨t1,t2,rfl⟩:=xE ZG
 obtain ⟨t3,t4,rfl⟩:=xE ZH
 have hu:=hr.units
 show wpAny _ _ (richCompare .Lt (.ref p) (.ref q)) _ _ s
 have hT:s.TypeIs (.ref p) "tuple":=⟨ox,TF,VJ⟩
 refine wpAny_richCompare_same_room hT ⟨oy,R1,mZ⟩ PySem.F.slot_tuple_lt (wpAny_call_entry PySem.F.slot_tuple_lt hT PySem.F.entry_tuple_lt (Jm TF VR R1 mZ VS ⟨_,rfl,(fun z=>nomatch z),?_⟩) (PySem.F.args_tuple_lt_2 _ _)) (by omega)
 exact ⟨.bl _,H,I,rfl,r⟩
end
noncomputable def dd {α:Type} [DecidableEq α]:List α->List α->List α
 | σ,[]=>σ
 | σ,x::l=>dd (if x∈σ then σ else σ++[x]) l
theorem zR {α:Type} [DecidableEq α]: ∀(l σ:List α),(dd σ l).length<=σ.length+l.length
 | [],σ=>Tz _
 | x::l,σ=>by
  unfold dd
  have:=zR l (if x∈σ then σ else σ++[x])
  split at this<;>rename_i z
  ·rw[if_pos z,Qay];omega
  ·rw[if_neg z,Qay];rw[Oy]at this;simp at this ⊢; omega
theorem Bh {α:Type} [DecidableEq α]: ∀(l σ:List α) (x:α),dd σ (l++[x])=if x∈dd σ l then dd σ l else dd σ l++[x]
 | [],σ,x=>rfl
 | y::l,σ,x=>Bh l _ x
section
variable {prog:Program} {w:World} {A:Around} {E:Value->Shared->Prop} {s:Shared}
abbrev qj (prog:Program) (w:World) (h:Heap) (a:Addr) (l:List Str):Prop:=h.SetOf (strKind prog w) a (fun k=>decide (k∈dd [] l)) (dd [] l).length
theorem qj.frame {h h':Heap} {a:Addr} {l:List Str} (x:qj prog w h a l) (k: ∀o,h.get? a=some o->h'.get? a=some o):qj prog w h' a l:=by
 obtain ⟨o,es,ep,t,ho,r⟩:=x
 exact ⟨o,es,ep,t,k o ho,r⟩
theorem Fc {R:Result->Shared->Prop} {I S:Addr} {fp wr:List Addr} {G:Array GenState->Array GenState->Prop} {P:Nat->Value->Prop} {St:Nat->Shared->Prop} {l:List Str}
  (W:WalksS prog w A.in1 I fp wr G l.length P St) (hS:S∉fp) (hP: ∀i v,P i v-> ∃x t,l[i]? =some x/\v= .str x t) (hb:l.length+1<scanBound):
  ∀(k i:Nat) (s:Shared),l.length - i=k->i<=l.length->St i s->qj prog w s.heap S (l.take i)->(∀s',Moved (S::wr) G s s'->qj prog w s'.heap S l->R (.ok (.ret .none)) s')->
   codeAny (model prog w) A (.builtin "set.update.loop" ⟨[.ref S, .ref I],[]⟩) R s:=by
 have Xy:S∉wr:=fun h=>hS (W.sub _ h)
 have Ld: ∀b∈wr,b∈S::wr:=fun b g=>Xn _ g
 intro k
 induction k with
 | zero=>
  intro i s hk hi ky rP hR
  obtain rfl:i=l.length:=by omega
  rw[Qbp]at rP
  refine codeAny_builtin PyProof.Rows.F.entry_set_update_loop ?_
  rw[Around.under_plainId Qde _]
  show wpAny _ A.in1 (pyNext (.ref I) >>= fun r=>_) _ _ s
  refine wpAny_bind (W.done s _ _ ky fun s' hm=>?_)
  exact wpAny_pure (hR s' (hm.mono Ld) (rP.frame fun o ho=>hm.heap S o Xy ho))
 | succ k ih=>
  intro i s hk hi ky rP hR
  have cZ:i<l.length:=by omega
  refine codeAny_builtin PyProof.Rows.F.entry_set_update_loop ?_
  rw[Around.under_plainId Qde _]
  show wpAny _ A.in1 (pyNext (.ref I) >>= fun r=>_) _ _ s
  refine wpAny_bind (W.item i s _ _ cZ ky fun v s' hp VU hm=>?_)
  obtain ⟨x,t,hx,rfl⟩:=hP i v hp
  have R3:qj prog w s'.heap S (l.take i):=rP.frame fun o ho=>hm.heap S o Xy ho
  show wpAny _ A.in1 (holding [Value.str x t] (setAdd S (.str x t)) >>= fun b=>_) _ _ s'
  refine wpAny_bind (wpAny_holding ?_)
  unfold setAdd
  refine wpAny_holding (wpAny_bind ((strKind prog w).pyHash (k:=x) (by simp[PySem.strKind,Value.isStrOf]) ?_))
  have hle:=zR (l.take i) ([]:List Str)
  rw[Qae]at hle
  refine wpAny_setAddHashed_of (knd:=strKind prog w) (s:={ s' with toks:=s'.toks+1 }) (k:=x) (by simp[PySem.strKind,Value.isStrOf]) rfl R3 (by simp at hle;omega) fun h' R4 R5=>?_
  have R6:qj prog w h' S (l.take (i+1)):=by
   have e1:l.take (i+1)=l.take i++[x]:=by rw[Qea,hx];rfl
   unfold qj
   rw[e1,Bh]
   refine PyProof.Rows.SetOf_congr R5 (fun y=>?_) ?_
   ·by_cases z:x∈dd [] (l.take i)
    ·rw[if_pos z]
     by_cases u:y=x
     ·rw[u,decide_eq_true z,Bool.true_or]
     ·rw[decide_eq_false u,Qdy]
    ·rw[if_neg z]
     by_cases u:y=x
     ·rw[u,decide_eq_true (show x=x from rfl),Bool.or_true,decide_eq_true (by simp)]
     ·rw[decide_eq_false u,Qdy]
      exact decide_eq_decide.mpr ⟨fun q=>Qbx _ q,fun q=>(Qaj.mp q).resolve_right fun q=>u (Zt.mp q)⟩
   ·by_cases z:x∈dd [] (l.take i)
    ·rw[if_pos z,if_pos (decide_eq_true z)]
    ·rw[if_neg z,if_neg (by simpa using z),Oy];rfl
  refine wpAny_pure ⟨plainId_quiet Qde _,ih (i+1) _ (by omega) cZ (W.frame _ s' _ _ VU (Qcn _) fun b g o e=>?_) R6 fun Me VV VW=>?_⟩
  ·rw[R4.2 b fun z:b=S=>hS (z▸g)];exact e
  ·refine hR Me (Moved.trans W.gtrans ((hm.mono Ld).then_heap (Qcn _) fun b o g e=>?_) VV) VW
   rw[R4.2 b fun z:b=S=>g (z▸Zu)];exact e
theorem tE: ∀{vs:List Value} {xs:List Str},StrsAre vs xs-> ∀(i:Nat) (v:Value),vs[i]? =some v-> ∃x t,xs[i]? =some x/\v= .str x t
 | _,_, .nil,i,v,h=>by simp at h
 | _,_, .cons y t r,0,v,h=>by simp at h;exact ⟨y,t,rfl,h.symm⟩
 | _,_, .cons y t r,i+1,v,h=>by
  obtain ⟨x,u,e1,e2⟩:=tE r i v (by simpa using h)
  exact ⟨x,u,by simpa using e1,e2⟩
noncomputable def vc (led:Bool):Obj:={ cls:= .type "set",dict:=none,data:= .set #[] 0 (.fresh 0 0 led) }
theorem Fd {R:Result->Shared->Prop} {l S:Addr} {items:Array Value} {xs:List Str} {led:Bool} (hh:A.handled=none) (hS:s.heap.get? S=some (vc led)) (hl:s.heap.IsList l items) (hi:StrsAre items.toList xs) (hb:xs.length+1<scanBound)
  (h: ∀(h':Heap) (tk:Nat),qj prog w h' S xs->(∀b o,b≠S->b<s.heap.objs.size->s.heap.get? b=some o->h'.get? b=some o)->R (.ok (.ret .none)) { s with heap:=h',toks:=tk }):
  wpAny (model prog w) A.in1 (Builtin.«set.__init__» ⟨[.ref S, .ref l],[]⟩) (fun fin s'=>match fin with | .done f=>R (.ok f) s' | .again c'=>c'.quiet=true/\codeAny (model prog w) A c' R s') (fun e s'=>R (.error e) s') s:=by
 obtain ⟨ol,C1,Fe,nl,OA⟩:=id hl
 have cZ:=Qal C1
 have ZI:=Qal hS
 have hT:s.TypeIs (.ref l) "list":=⟨ol,C1,Fe⟩
 have dH:l≠S:=fun z=>by rw[z,hS]at C1;cases C1;exact absurd Fe (by unfold vc;simp)
 have z1:=PySem.F.sub_list_set
 have z2:=PySem.F.sub_list_frozenset
 have z3:(Value.type "list"==Value.type "dict")=false:=by decide
 obtain ⟨ZJ,Xz,XA,VX⟩:=ol
 simp only at Fe OA
 subst Fe OA
 have ZK:=C1
 unfold Builtin.«set.__init__» noKeywords Builtin.Frozenset.updateFrom
 generalize ZL:pyIter=PI
 unfold vc at hS
 wp_walk
 subst ZL
 refine wpAny_pyIter_list hl ?_
 refine wpAny_bind (wpAny_runValue ?_)
 have hlen:items.size=xs.length:=by rw[<-Qe4];exact hi.length
 have VY:l≠s.heap.objs.size:=Qan cZ
 have ZM:S∉[s.heap.objs.size,l]:=fun hm=>by
  rcases Zv.mp hm with z | z
  ·exact absurd z (Qan ZI)
  ·exact dH (Zt.mp z).symm
 have W:=(Walks.list (prog:=prog) (w:=w) (A:=A.in1.in1) (show A.in1.in1.handled=none from hh) s.heap.objs.size l VY items).toS
 rw[hlen]at W
 have hit:(s.heap.push { cls:= .type "list_iterator",data:= .fields #[.ref l, .int 0 0] }).get? s.heap.objs.size=some { cls:= .type "list_iterator",data:= .fields #[.ref l, .int 0 0] }:=Qam _ rfl
 refine Fc (A:=A.in1) (l:=xs) W ZM (fun i v hv=>?_) hb (xs.length - 0) 0 { s with heap:=s.heap.push { cls:= .type "list_iterator",data:= .fields #[.ref l, .int 0 0] } } rfl (Qad _) ⟨⟨_,hit,rfl,rfl⟩,hl.push _⟩ ?_ fun s' hm rP=>?_
 ·exact tE hi i v (by rw[Qez];exact hv)
 ·have TH:=Xm { cls:= .type "list_iterator",data:= .fields #[.ref l, .int 0 0] } hS
  exact PyProof.Rows.SetOf_congr ((PyProof.Rows.setObjOf_fresh (knd:=PySem.strKind prog w) led).setOf TH (by unfold scanBound;omega)) (fun k=>by rw[List.take_zero];rfl) rfl
 ·obtain ⟨h',g',d',VZ,Vm⟩:=s'
  obtain rfl:g'=s.gens:=hm.gens
  obtain rfl:d'=s.drawn:=hm.drawn
  obtain rfl:Vm=s.os:=hm.os
  refine wpAny_pure (wpAny_pure (h h' VZ rP fun b o hb Ff e=>?_))
  exact hm.heap b o (fun V0=>by
   rcases Zv.mp V0 with z | z
   ·exact hb z
   ·exact absurd (Zt.mp z) (Qan Ff)) (Xm _ e)
theorem C2 {l:Addr} {items:Array Value} {xs:List Str} {Q:Value->Shared->Prop} (hh:A.handled=none) (hl:s.heap.IsList l items) (hi:StrsAre items.toList xs) (hb:xs.length+1<scanBound)
  (h: ∀(h':Heap) (tk:Nat),qj prog w h' s.heap.objs.size xs->(∀b o,s.heap.get? b=some o->h'.get? b=some o)->Q (.ref s.heap.objs.size) { s with heap:=h',toks:=tk }):
  wpAny (model prog w) A (call (.type "set") [.ref l]) Q E s:=by
 obtain ⟨c,tl,ZN⟩:=Qch.mro
 have XB:=Qch.made
 have VN:=Qch.sub
 have g1:=Qch.notType
 have g2:=Qch.canCreate
 have g3:=PySem.F.typeCall_set_1 (.ref l)
 refine wpAny_call (codeAny_of_tree ?_)
 show wpAny _ _ (callAny (.type "set") ⟨[.ref l],[]⟩) _ _ _
 refine wpAny_pure ⟨Code.quiet_builtin _ (by decide+kernel),codeAny_builtin PySem.F.entry_type_call ?_⟩
 rw[Around.under_plain (weight_type_call_type "set" [.ref l] []) rfl]
 repeat (any_goals (first | wp_step | assumption))
 refine codeAny_mono (code_set_new_1 (.ref l) (E:=E) (Q₁:=fun v s₁=> ∃led:Bool,v= .ref s.heap.objs.size/\s₁={ s with heap:=s.heap.push (vc led) }) fun led=>⟨led,rfl,rfl⟩) fun r s₁ hr=>?_
 cases r with
 | error e=>exact hr
 | ok fl=>
  cases fl with
  | next=>exact hr.elim
  | brk=>exact hr.elim
  | cont=>exact hr.elim
  | ret v=>
   obtain ⟨led,rfl,rfl⟩:=hr
   have hS:(s.heap.push (vc led)).get? s.heap.objs.size=some (vc led):=Qam _ rfl
   have hT:Shared.TypeIs { s with heap:=s.heap.push (vc led) } (.ref s.heap.objs.size) "set":=⟨_,hS,rfl⟩
   have g4:=Qch.init.lookup
   have g5:=Qch.init.bind (.ref s.heap.objs.size)
   repeat (any_goals (first | wp_step | assumption))
   refine codeAny_mono (codeAny_call_builtin (R:=wants (fun v s₂=>v= .none/\ ∃h' tk,s₂={ s with heap:=h',toks:=tk }/\qj prog w h' s.heap.objs.size xs/\ ∀b o,s.heap.get? b=some o->h'.get? b=some o) E) Qch.init.plain PySem.F.entry_set_init (check_set_init_1 hT ?_)) fun r₂ s₂ R7=>?_
   ·refine Fd (s:={ s with heap:=s.heap.push (vc led) }) hh hS (hl.push _) hi hb fun h' tk rP hk=>⟨rfl,h',tk,rfl,rP,fun b o e=>?_⟩
    have cZ:=Qal e
    exact hk b o (Qan cZ) (by show b<(s.heap.push (vc led)).objs.size;rw[Qc3];exact Qcv cZ) (Xm _ e)
   ·cases r₂ with
    | error e=>exact R7
    | ok ZO=>
     cases ZO with
     | next=>exact R7.elim
     | brk=>exact R7.elim
     | cont=>exact R7.elim
     | ret v=>
      obtain ⟨rfl,h',tk,rfl,k1,k2⟩:=R7
      repeat (any_goals (first | wp_step | assumption))
      exact h _ _ k1 k2
end
section
variable {X:Cx}
noncomputable def zS (q:Addr) (n:Nat):HO:= .ext fun h=> ∃(o:Obj) (es:Array (Int×Value)) (ep:Nat) (t:SetTable),h.get? q=some o/\o.ExactSet/\o.data= .set es ep t/\t.fits es.size=true/\es.size=n
def R8 (K:PySem.W.Frag):List V->Hp->VK->Prop:=fun xs H Q=> ∃(p:Addr) (l:List (List Nat)),xs=[.ref p]/\bA K H p (l.map fun c=>V.str (S c))/\l.length<=20/\ ∀q,H q=none->Q (.ref q) (upd H q (zS q (dd [] (l.map S)).length))
theorem C3 (K:PySem.W.Frag) (h:X.K=K) (hc:X.calm=true):dG X (.type "set") (R8 K):=by
 subst h
 intro pins s σ H xs us Q I r h
 obtain ⟨p,l,rfl,hq,hz,q⟩:=h
 obtain ⟨u,rfl,ru⟩:=vals1 r
 cases ru
 obtain ⟨aO,rv,pl,_⟩:=I.list hq
 refine C2 (I.ok.hd hc) pl.isList (by simpa using kT rv) (by rw[Xl];unfold scanBound;omega) fun h' tk rP hk=>?_
 refine ⟨.ref s.heap.objs.size,upd H s.heap.objs.size (zS _ _),I.laid (t':=tk) hk (Tz _) ?_,rfl,q _ I.fresh⟩
 obtain ⟨o,es,ep,t,ho,hex,hd,_,_,_,hf,hn⟩:=rP
 exact ⟨⟨o,es,ep,t,ho,hex,hd,hf,hn⟩,⟨_,ho⟩,fun h1 h2 ⟨o,es,ep,t,ho,r⟩ k=>⟨o,es,ep,t,k o ho,r⟩⟩
theorem xF:dG X (.builtin "len") (fun xs H Q=> ∃a n,xs=[V.ref a]/\H a=some (zS a n)/\n<=1000/\Q (.int n) H):=by
 intro pins s σ H xs us Q I r h
 obtain ⟨a,n,rfl,ha,hz,q⟩:=h
 obtain ⟨u,rfl,ru⟩:=vals1 r
 cases ru
 obtain ⟨hv,_,_⟩:cB X.prog X.w H s.heap a (zS a n):=I.cj a _ ha
 obtain ⟨o,es,ep,t,ho,hex,hd,hf,hn⟩: ∃(o:Obj) (es:Array (Int×Value)) (ep:Nat) (t:SetTable),s.heap.get? a=some o/\o.ExactSet/\o.data= .set es ep t/\t.fits es.size=true/\es.size=n:=hv
 refine call_len_set ho hex hd hf (by omega) ?_
 rw[hn]
 exact ⟨.int n,H,I.tok _,⟨_,rfl⟩,q⟩
end
section
variable {X:Cx} {st:Stmt} {rest:List Stmt} {t u:TS}
def V1 (t u:TS):TS:=fun D σ H=> ∃P:St->Hp->Prop,t { D with nx:=P } σ H/\ ∀σ' H',P σ' H'->u D σ' H'
theorem eZ (h1:PS X st t) (h2:y9 X rest u):y9 X (st::rest) (V1 t u):=by
 intro pins s σ H D I h
 obtain ⟨P,h,g⟩:=h
 refine wpAny_execs_cons (cD (h1 pins s σ H _ I h) fun f s1 q=>?_)
 cases f with
 | ret v=>exact q
 | brk=>exact q
 | cont=>exact q
 | next=>
  obtain ⟨τ,G,J,p⟩:=q
  exact h2 pins s1 τ G D J (g τ G p)
end
section
variable {X:Cx}
def R9 (K:PySem.W.Frag):List V->Hp->VK->Prop:=fun xs H Q=> ∃(p:Addr) (ns:List Int),xs=[.ref p]/\bA K H p (ns.map V.int)/\Q (.int ns.sum) H
theorem C5 (K:PySem.W.Frag) (h:X.K=K) (hc:X.calm=true):dG X (.builtin "sum") (R9 K):=by
 subst h
 intro pins s σ H xs us Q I r h
 obtain ⟨p,ns,rfl,hq,q⟩:=h
 obtain ⟨u,rfl,ru⟩:=vals1 r
 cases ru
 obtain ⟨aO,rv,pl,_⟩:=I.list hq
 have hi:IntsAre aO ns:=intsAre_of rv
 obtain ⟨ys,e⟩:=hi.allInts.items
 have hl:s.heap.IsList p (intItems ys):=by rw[<-e];exact pl.isList
 refine sum_intListG (I.ok.hd hc) hl fun h' tk t' hk=>?_
 have e2:preSum (numAt ys) ys.size=ns.sum:=by
  rw[preSum_eq,Qar (by simp), <-nums_intItems, <-e]
  exact congrArg List.sum hi.numsOf
 rw[e2]
 exact ⟨.int ns.sum,H,I.kept (t':=tk) hk,⟨_,rfl⟩,q⟩
theorem xG:dG X (.builtin "isinstance") (fun xs H Q=> ∃b,xs=[.bl b, .ty "bool"]/\Q (.bl true) H):=by
 intro pins s σ H xs us Q I r h
 obtain ⟨b,rfl,q⟩:=h
 obtain ⟨u,w',rfl,r1,r2⟩:=vals2 r
 cases (show w'=Value.type "bool" from r2)
 exact CC I r1 (.bl b) (by unfold PySem.W.kitOne;rw[if_pos (by decide)]) fun tk=>⟨.bl true,H,I.tok _,rfl,q⟩
end
end L2
namespace L2
open PySem PySem.Spec PyProof.Rows PySem.MeetsSeq PySem.SeqAt
theorem Fg (p:Addr) (av:Array Value) (c:Nat) (x:Value) (f:Value->Bool) (j:Nat) (hj:j<av.size) (yes:f av[j]=true) (k:Nat) (hz:av.size<=sizeLine):
  ∀i:Nat,j - i=k->i<=j->(∀m (hm:m<av.size),i<=m->m<j->f av[m]=false)->Meets (Builtin.«list.remove.loop» ⟨[.ref p,x,rawInt i],[]⟩)
   (fun A R s=>s.heap.get? p=some { cls:= .type "list",dict:=none,data:= .seq av c,slots:= #[] }/\(∀y,y∈av->EqAt A.in1 s y x (f y))/\R (.ok (.ret .none)) { s with heap:=s.heap.update p (Obj.mapSeq fun xs=>xs.eraseIdxIfInBounds j) }):=by
 induction k with
 | zero=>
  intro i hk L3 no prog w A R s h
  obtain ⟨hp,g,d,tk,os⟩:=s;obtain ⟨q1,q2,h⟩:=h
  have e0:i=j:=by omega
  subst e0
  wp_walk using wpAny_loadPart' q1
  have e1:av[((i:Nat):Int).toNat]? =some av[i]:=by simp[hj]
  rw[e1]
  refine wpAny_bind (q2 _ (Array.getElem_mem hj) prog w _ _ ?_);rw[yes]
  have z2:(av.eraseIdxIfInBounds i).size<=sizeLine+1:=Qao (size_erased av _) (Qcd hz)
  wp_walk using (wpAny_updateSeq q1 rfl (hz:=hz) (_hz':=z2)),wpAny_loadPart' q1
  simpa using h
 | succ k ih=>
  intro i hk L3 no prog w A R s h
  obtain ⟨hp,g,d,tk,os⟩:=s;obtain ⟨q1,q2,h⟩:=h
  have lt:i<av.size:=by omega
  wp_walk using wpAny_loadPart' q1
  have e1:av[((i:Nat):Int).toNat]? =some av[i]:=by simp[lt]
  have e2:((i:Int)+1)=((i+1:Nat):Int):=by push_cast;rfl
  rw[e1]
  refine wpAny_bind (q2 _ (Array.getElem_mem lt) prog w _ _ ?_);rw[no i lt (Tz _) (by omega)]
  wp_walk
  rw[e2]
  exact ⟨plainId_quiet plain_remove_loop _,codeAny_builtin entry_remove_loop (by rw[Around.under_plainId plain_remove_loop _];exact ih (i+1) (by omega) (by omega) (fun m hm h1 h2=>no m hm (by omega) h2) prog w A R _ ⟨q1,q2,h⟩)⟩
theorem Fh (p:Addr) (av:Array Value) (c:Nat) (x:Value) (f:Value->Bool) (j:Nat) (hj:j<av.size) (yes:f av[j]=true) (no: ∀m (hm:m<av.size),m<j->f av[m]=false) (hz:av.size<=sizeLine):
  Meets (Builtin.«list.remove» ⟨[.ref p,x],[]⟩) (fun A R s=>s.heap.get? p=some { cls:= .type "list",dict:=none,data:= .seq av c,slots:= #[] }/\(∀y,y∈av->EqAt A.in1 s y x (f y))/\R (.ok (.ret .none)) { s with heap:=s.heap.update p (Obj.mapSeq fun xs=>xs.eraseIdxIfInBounds j) }):=by
 intro prog w A R s h
 obtain ⟨hp,g,d,tk,os⟩:=s;obtain ⟨q1,q2,h⟩:=h
 wp_walk using wpAny_loadPart' q1
 exact ⟨plainId_quiet plain_remove_loop _,codeAny_builtin entry_remove_loop (by rw[Around.under_plainId plain_remove_loop _];exact Fg p av c x f j hj yes _ hz 0 rfl (Qad _) (fun m hm _ h2=>no m hm h2) prog w A R _ ⟨q1,q2,h⟩)⟩
section
variable {X:Cx}
def R_ (K:PySem.W.Frag):V->List V->Hp->VK->Prop:=fun x vs H Q=> ∃(p:Addr) (xs:List V) (v:V) (ds:List PyData) (d:PyData) (j:Nat),x= .ref p/\vs=[v]/\H p=some (.lst xs)/\mX K H xs ds/\CQ K H v d/\(PyData.canLayAll0 ds=true/\d.canLay0=true)/\d.depth<=60/\
 (∃e,ds[j]? =some e/\PyData.eqv e d=true)/\(∀m e,m<j->ds[m]? =some e->PyData.eqv e d=false)/\Q .fB (upd H p (.lst (xs.eraseIdx j)))
theorem Jn {k:Nat} (K:PySem.W.Frag) (h:X.K=K) (hr:fu k X.A):Ow X "list.remove" (R_ K):=by
 subst h
 intro pins s σ H x vs v us Q I rx rv h
 obtain ⟨p,xs,y,ds,d,j,rfl,rfl,hH,rs,rd,⟨l1,l2⟩,dp,⟨ej,XC,yj⟩,no,q⟩:=h
 cases rx
 obtain ⟨u,rfl,ru⟩:=rv.one
 obtain ⟨z,aO,n,r,hl,e⟩:=I.uT hH
 obtain ⟨as,ra⟩:=rd.reads I ru
 obtain ⟨bs,rb⟩:=rs.reads I r
 have hu:=hr.units
 have hm:min (PyData.depthAll ds) d.depth<=60:=Qao (Qeg _ _) dp
 have Sa:aO.map (readOf s.heap)=ds:=readsAll_map ds aO bs l1 rb
 have MQ: ∀m (hm:m<aO.toArray.size) (g:PyData),ds[m]? =some g->PyData.eqv (readOf s.heap aO.toArray[m]) d=PyData.eqv g d:=fun m hm g hg=>by
  rw[<-Sa,Qak]at hg
  have Bi:m<aO.length:=by rw[Qac]at hm;exact hm
  rw[Mt Bi]at hg
  have:=Qaf hg
  rw[List.getElem_toArray,this]
 have hlen:ds.length=aO.length:=by rw[<-Sa,Xl]
 have hj:j<aO.toArray.size:=by rw[Qac, <-hlen];exact (Mu.mp XC).1
 refine call_meets F.slot_list_remove ⟨_,e,rfl⟩ F.entry_list_remove (F.args_list_remove_2 _ _)
  (Fh p aO.toArray n u (fun w=>PyData.eqv (readOf s.heap w) d) j hj (by rw[MQ j hj ej XC];exact yj) (fun m hm h2=>?_) (by rw[Qac, <-hl];exact z)) ⟨e,?_,?_⟩
 ·have Bi:m<ds.length:=by rw[hlen];rw[Qac]at hm;exact hm
  rw[MQ m hm ds[m] (Mt Bi)]
  exact no m _ h2 (Mt Bi)
 ·exact items_eqAt (by simpa using rb) ra l1 l2 (by omega)
 ·refine ⟨.fB,_,I.CI (its':=aO.eraseIdx j) hH e ?_ (r.eraseIdx j) ?_,rfl,q⟩
  ·show aO.toArray.eraseIdxIfInBounds j=(aO.eraseIdx j).toArray
   rw[Qdr]
  ·have:=mT xs j
   omega
end
end L2
namespace XL
open PySem PySem.Spec PySem.Calls PyProof.Rows PySem.W Builtin Builtin.ObjectAttr
end XL
namespace XL
open PySem PySem.Spec PySem.Calls PyProof.Rows PySem.W
end XL
namespace L2
open PySem PySem.Spec PyProof.Rows XL
noncomputable def XE (s:Stmt) (j:Nat):Stmt:=match s with
 | .ClassDef _ _ _ b _ _ _ _ _ _ _=>b.getD j (.Pass ⟨0,0,0,0⟩)
 | _=> .Pass ⟨0,0,0,0⟩
def Sb (_ j:Int):Prop:=0<j/\j<18446744073709551616
theorem dA {X:Cx}:iJ X (binaryOp .FloorDiv) (rI Sb fun i j=> .int (i / j)):=Tu fun i j _ _ _ _ _ hc q=>by
 have h1:(0:Int)<j:=hc.1
 have h2:j<18446744073709551616:=hc.2
 have h3:j.natAbs<2 ^ 64:=by omega
 exact floordiv_int (by omega) (by rw[Int.fdiv_eq_ediv_of_nonneg i (by omega)];exact q) (.inl (PyProof.noPylong_of_log2 (Qc9 ((Nat.log2_lt (by omega)).mpr h3) (by decide))))
end L2
namespace PySem
end PySem
namespace L2
open PySem PySem.Spec PyProof.Rows
end L2
namespace L2.F3
open PySem PySem.Spec PyProof.Rows
end L2.F3
namespace L2
open PySem PySem.Spec PyProof.Rows
section
variable {X:Cx}
noncomputable def dg (n:Nat):List Nat:=((toString (n:Int):String):Str).cps.toList
theorem V2 (n:Nat):((toString (n:Int):String):Str)=S (dg n):=RD _
theorem C6 {n:Nat} (h:n<2 ^ 60):((n:Int)).natAbs.log2<1920:=by
 rw[Int.natAbs_natCast]
 by_cases z:n=0
 ·subst z;decide
 ·exact (Nat.log2_lt z).mpr (Qaw h (Nat.pow_le_pow_right (by decide) (by decide)))
theorem C7:dG X (.type "str") (fun xs H Q=> ∃n:Nat,xs=[.int n]/\n<2 ^ 60/\Q (.str (S (dg n))) H):=by
 intro pins s σ H xs us Q I r h
 obtain ⟨n,rfl,hz,q⟩:=h
 refine uK pins s σ H _ us Q I r ⟨n,rfl,C6 hz,?_⟩
 rw[V2]
 exact q
end
theorem xH:typeLookup (.type "dict") "__len__"=pure (some (.builtin "dict.__len__")):=PySem.F.slot_dict_len.lookup
section
variable {prog:Program} {w:World} {A:Around} {E:Value->Shared->Prop} {s:Shared} {KK:Type} [DecidableEq KK] {knd:PySem.KeyKind prog w KK}
theorem vd {Q:List Value->Shared->Prop} (hh:A.handled=none) (d:Addr) (aU:List (KK×Value)) (ep:Nat) (hd:(d==sysModules)=false) (hm:s.heap.DictAt knd d aU ep) (hn:aU.length<=sizeLine)
  (hQ: ∀s' acc,(∀b o,s.heap.get? b=some o->s'.heap.get? b=some o)->s'.gens=s.gens->s'.drawn=s.drawn->s'.os=s.os->ItemsOf (fun i v=> ∃k x,aU[i]? =some (k,x)/\knd.is k v=true) acc aU.length->Q acc.toList s'):
  wpAny (model prog w) A (collect (.ref d)) Q E s:=by
 have hT:s.TypeIs (.ref d) "dict":=hm.dictOf.typeIs
 obtain ⟨od,Sd,ZP⟩:=id hT
 have Se:=Qal Sd
 unfold collect
 refine wpAny_bind (wpAny_runValue (codeAny_builtin PySem.F.entry_proto_collect ?_))
 rw[Around.under_plainId PySem.F.plain_proto_collect _]
 show wpAny _ A.in1 (newList [] >>= fun l=>again (.builtin "list.__iadd__" ⟨[l, .ref d],[]⟩)) _ _ s
 refine wpAny_bind (wpAny_newObj_type ?_)
 refine wpAny_pure ⟨plainId_quiet PySem.F.plain_list_iadd _,codeAny_builtin PySem.F.entry_list_iadd ?_⟩
 rw[Around.under_plainId PySem.F.plain_list_iadd _]
 show wpAny _ A.in1 (Builtin.List.listExtendWith (.ref s.heap.objs.size) (.ref d) (.ref s.heap.objs.size)) _ _ _
 generalize hH:s.heap.push { cls:= .type "list",data:= .seq ([]:List Value).toArray }=H
 have V3:H.objs.size=s.heap.objs.size+1:=by rw[<-hH,Qc3]
 have Sf:H.DictAt knd d aU ep:=hm.at' fun o e=>by rw[<-hH];exact Xm _ e
 have ZQ:Shared.TypeIs { s with heap:=H } (.ref d) "dict":=Sf.dictOf.typeIs
 have V4:s.heap.objs.size≠d:=Qep Se
 unfold Builtin.List.listExtendWith
 refine wpAny_bind (wpAny_typeOf ZQ ?_)
 have h1:Builtin.List.listSameRef (.ref s.heap.objs.size) (.ref d)=false:=by simp[Builtin.List.listSameRef,V4]
 rw[if_neg (by rw[h1];decide)]
 refine wpAny_bind (wpAny_pyIter_dict (s:={ s with heap:=H }) hd Sf ?_)
 show wpAny _ A.in1 _ _ _ { s with heap:=H.push { cls:= .type "dict_keyiterator",data:= .fields #[.ref d, .int 0 0, .int aU.length 0, .int ep 0] } }
 generalize K5:H.push { cls:= .type "dict_keyiterator",data:= .fields #[.ref d, .int 0 0, .int aU.length 0, .int ep 0] }=H2
 have Bi:H2.DictAt knd d aU ep:=Sf.at' fun o e=>by rw[<-K5];exact Xm _ e
 have V5:Shared.TypeIs { s with heap:=H2 } (.ref d) "dict":=Bi.dictOf.typeIs
 refine wpAny_bind (wpAny_holding ?_)
 unfold Builtin.List.listLengthHint
 refine wpAny_bind (wpAny_specialOf V5 xH ?_)
 wp_delta
 refine wpAny_bind (wpAny_isInstance (T:="dict") (b:=true) V5 (by rw[isSubtype_type];kernel_rfl) ?_)
 show wpAny _ A.in1 (typeOf (Value.ref d) >>= _) _ _ _
 refine wpAny_bind (wpAny_typeOf V5 ?_)
 refine wpAny_pure ?_
 rw[if_pos (by decide+kernel)]
 refine wpAny_bind (wpAny_rule ?_)
 refine wpAny_bind ?_
 unfold Builtin.List.listTouch
 have hS:H2.get? s.heap.objs.size=some { cls:= .type "list",data:= .seq ([]:List Value).toArray }:=by
  rw[<-K5];exact Xm _ (by rw[<-hH];exact Qam _ rfl)
 refine wpAny_bind (wpAny_updateSeq hS rfl ?_ (Qad _) (Qbk (Qad _)))
 have TH:=Qb7 (Obj.mapSeq (fun l:Array Value=>l.push .none)) hS rfl
 refine wpAny_updateSeq TH rfl ?_ (by show 1<=sizeLine;decide) (Qad _)
 have ZR:=Qb7 (Obj.mapSeq (fun l:Array Value=>l.pop)) TH rfl
 have V6: ∀b o,b≠s.heap.objs.size->H2.get? b=some o->((H2.update s.heap.objs.size (Obj.mapSeq (fun l:Array Value=>l.push .none))).update s.heap.objs.size (Obj.mapSeq (fun l:Array Value=>l.pop))).get? b=some o:=fun b o hb e=>
  (Qbi _ _ (Ne.symm hb)).trans ((Qbi _ _ (Ne.symm hb)).trans e)
 have hit:H2.get? H.objs.size=some { cls:= .type "dict_keyiterator",data:= .fields #[.ref d, .int 0 0, .int aU.length 0, .int ep 0] }:=by rw[<-K5];exact Qam _ rfl
 have XF:H.objs.size≠s.heap.objs.size:=by rw[V3];exact Qef _
 have ZS:d≠H.objs.size:=by rw[V3];exact Qan (Qcv Se)
 have ZT:s.heap.objs.size∉[H.objs.size,d]:=fun ZU=>by
  rcases Zv.mp ZU with z | z
  ·exact XF z.symm
  ·exact V4 (Zt.mp z)
 refine wpAny_pure ⟨plainId_quiet PySem.F.plain_extend_loop _,codeAny_extend_loopS (Walks.dictKeys (knd:=knd) (A:=A.in1) hh H.objs.size d ZS aU ep).toS hn _ ZT _ aU.length 0 _ _ _ rfl (Qad _)
  ⟨⟨_,V6 _ _ XF hit,rfl,rfl⟩,Bi.at' fun o e=>V6 d o (Ne.symm V4) e⟩ ZR (ItemsOf.nil _) fun s' eV c' TJ ZV uX=>?_⟩
 show wpAny _ A (load s.heap.objs.size >>= _) _ _ s'
 refine wpAny_bind (wpAny_load ZV ?_)
 refine wpAny_pure (hQ s' eV (fun b ob e=>TJ.heap b ob (fun hb=>?_) (V6 b ob (Qan (Qal e)) (by rw[<-K5];exact Xm _ (by rw[<-hH];exact Xm _ e)))) TJ.gens TJ.drawn TJ.os uX)
 have cZ:=Qal e
 rcases Zv.mp hb with h | h
 ·exact absurd cZ (h▸Qbb _)
 ·rw[Zt.mp h,V3]at cZ;exact absurd cZ (Nat.not_lt.mpr (Qcn _))
end
section
variable {X:Cx}
theorem Bj {aU:List (Key×V)} {vs:List (Key×Value)} (h:KV aU vs):vs.map (·.1)=aU.map (·.1):=by
 induction h with
 | nil=>rfl
 | cons r _ ih=>rw[Qat,Qat,ih,r.1]
end
end L2
namespace XL
open PySem PySem.Spec PySem.Calls PyProof.Rows PySem.W
end XL
namespace L2
open PySem PySem.Spec PyProof.Rows XL
end L2
namespace PySem
open Sem (wp)
namespace F
end F
end PySem
namespace L2
open PySem PySem.Spec PyProof.Rows
end L2
namespace L2.F2
open PySem PySem.Spec PyProof.Rows
end L2.F2
namespace L2
open PySem PySem.Spec PyProof.Rows
section
variable {X:Cx}
theorem Fi {i:Nat} (h:(i:Int)<2 ^ 63):Builtin.List.listFitsIndex (i:Int)=true:=by
 unfold Builtin.List.listFitsIndex
 rw[Qbq]
 exact ⟨decide_eq_true (by omega),decide_eq_true (by omega)⟩
def Jo:V->List V->Hp->VK->Prop:=fun x vs H Q=> ∃(l:Addr) (xs:List V) (i:Nat) (y:V),x= .ref l/\vs=[.int i,y]/\H l=some (.lst xs)/\i<=xs.length/\xs.length<sizeLine/\Q .fB (upd H l (.lst (xs.take i++y::xs.drop i)))
theorem C8:Ow X "list.insert" Jo:=by
 intro pins s σ H x vs v us Q I rx rv h
 obtain ⟨l,xs,i,y,rfl,rfl,hH,hi,hz,q⟩:=h
 cases rx
 obtain ⟨a,b,rfl,⟨t,rfl⟩,rb⟩:=vals2 rv
 obtain ⟨z,aO,n,r,hl,e⟩:=I.uT hH
 have hn:=gE
 have hf: ¬(!Builtin.List.listFitsIndex (i:Int))=true:=by rw[Fi (by omega)];decide
 have hsz:aO.toArray.size<=sizeLine:=by rw[Qac];omega
 generalize hI:(i:Int)=I' at hf
 have hm:=PySem.AutoSeq1.list_insert_list_int_val_1 l aO.toArray n I' t b hf hsz
 refine call_meets F.slot_list_insert ⟨_,e,rfl⟩ F.entry_list_insert (F.args_list_insert_3 _ _ _) hm ⟨e,?_⟩
 clear hm
 refine ⟨.fB,_,I.CI (its':=aO.take i++b::aO.drop i) hH e ?_ ?_ ?_,rfl,q⟩
 ·have e1:(if I'<0 then (I'+(aO.toArray.size:Int)).toNat else min I'.toNat aO.toArray.size)=i:=by rw[<-hI,if_neg (by omega),Xo,Qac];omega
  show ((aO.toArray.extract 0 (if I'<0 then (I'+(aO.toArray.size:Int)).toNat else min I'.toNat aO.toArray.size)).push b++aO.toArray.extract (if I'<0 then (I'+(aO.toArray.size:Int)).toNat else min I'.toNat aO.toArray.size))=_
  rw[e1]
  apply Qej.mp
  simp
  exact Qar (by rw[Qa2];exact Tz _)
 ·have h1:Vals (xs.take i) (aO.take i):=r.take i
  exact h1.append (.cons rb (r.drop i))
 ·rw[Oy,Qay,Qae,Qa2];omega
def C9 (ta:TA):TE:=fun σ H Q=>ta σ H fun vs H1=> ∃j:Int,vs=[.int j]/\ -(2 ^ 61)<=j/\j<=1000000/\ ∀q,H1 q=none->Q (.ref q) (upd H1 q (.lst ((List.range j.toNat).map fun (k:Nat)=>V.int (0+(k:Int)))))
theorem xI {i:Int}: ∀(n:Nat) (vs:List Value),vs.length=n->(∀(j:Nat) (v:Value),vs[j]? =some v-> ∃t,v= .int (i+(j:Int)*1) t)->Vals ((List.range n).map fun (k:Nat)=>V.int (i+(k:Int))) vs
 | 0,vs,hl,_=>by
  obtain rfl:vs=[]:=Qb8.mp hl
  exact .nil
 | n+1,vs,hl,h=>by
  have e:vs=vs.take n++[vs[n]'(by omega)]:=by
   conv=>lhs;rw[<-Qbp (l:=vs),hl,List.take_succ_eq_append_getElem (by omega)]
  obtain ⟨t,ht⟩:=h n (vs[n]'(by omega)) (Mt _)
  rw[e,Qbo,Qaa]
  refine (xI n (vs.take n) (by rw[Qae];omega) fun j w hj=>h j w ?_).append (.cons ⟨t,?_⟩ .nil)
  ·have Ei:=(Mu.mp hj).1
   rw[Qae]at Ei
   rw[List.getElem?_take_of_lt (by omega)]at hj
   exact hj
  ·rw[ht,Int.mul_one]
theorem Fj {pins:List (Addr×Obj)} {σ:St} {H:Hp} {s:Shared} {Q:VK} {lo hi:Int} {t u v:Tok} {tk:Nat} (hc:X.calm=true) (I:Inv X pins σ H s) (h1: -(2 ^ 61)<=lo) (h2:lo<2 ^ 61) (h3: -(2 ^ 61)<=hi) (h4:hi<2 ^ 61) (hz:hi - lo<=1000000)
  (q: ∀p,H p=none->Q (.ref p) (upd H p (.lst ((List.range (hi - lo).toNat).map fun (k:Nat)=>V.int (lo+(k:Int)))))):
  wpAny (model X.prog X.w) X.A (call (.type "list") [.ref s.heap.objs.size]) (EP X pins σ Q) X.xe { s with heap:=s.heap.push { cls:= .type "range",data:= .fields #[.int lo t, .int hi u, .int 1 v] },toks:=tk }:=by
 have hs:(1000000:Nat)<sizeLine:=by decide
 refine PySem.call_list_range (n:=(hi - lo).toNat) (I.ok.hd hc) (IsRange.new ..) (small_one (by omega) (by omega) (by omega) (by omega)) (by rw[rangeSize_one];split<;>omega) (by omega) fun h' VZ eV c' hk e uX=>?_
 obtain ⟨ZX,ZY⟩:=uX
 have hsz:(s.heap.push { cls:= .type "range",data:= .fields #[.int lo t, .int hi u, .int 1 v] }).objs.size=s.heap.objs.size+1:=Qc3 _ _
 refine ⟨.ref _,_,I.laid (t':=VZ) (o:= .lst ((List.range (hi - lo).toNat).map fun (k:Nat)=>V.int (lo+(k:Int)))) (fun b o hb=>hk b o (Xm _ hb)) (Qa5 (by show s.heap.objs.size<_;rw[hsz];exact Qci _)) ?_,rfl,q _ (I.cj.fresh (Qa5 (by show s.heap.objs.size<_;rw[hsz];exact Qci _)))⟩
 exact ⟨by rw[Xl,Qce];omega,eV.toList,c',xI _ _ (by simpa using ZX) (fun j v e=>ZY j v (by simpa using e)),by simpa using e⟩
theorem xJ {a:Expr} {ta:TA} {p p2 pos Fl:Pos} (hc:X.calm=true) (V7:Gl X "list") (OB:X.mg "list"=none) (hg:Gl X "range") (hm:X.mg "range"=none) (ha:PA X [a] ta)
  (hs:starEach [a] X.env=[(false,eval a X.env)]:=by rfl) (K0:starEach [.Call (.Name "range" p2) [a] [] Fl] X.env=[(false,eval (.Call (.Name "range" p2) [a] [] Fl) X.env)]:=by rfl):
  PE X (.Call (.Name "list" p) [.Call (.Name "range" p2) [a] [] Fl] [] pos) (C9 ta):=by
 intro pins s σ H Q I h
 refine Call_ (gg I V7 OB boot_list (Qbe ?_ K0 rfl))
 rw[K0]
 refine Calls.spliced_cons ?_
 refine Call_ (gg I hg hm boot_range (Qbe (cD (ha Fl pins s σ H _ I h) fun us s1 ⟨vs,H1,I1,r1,q1⟩=>?_) hs rfl))
 obtain ⟨j,rfl,q1,q2,q⟩:=q1
 obtain ⟨u,rfl,t,rfl⟩:=vals1 r1
 refine call_range_1 ?_
 refine Calls.spliced_nil ?_
 refine Fj hc I1 (by omega) (by omega) q1 (by omega) (by omega) (by simpa using q)
end
end L2
namespace L2
open PySem PySem.Spec PyProof.Rows PySem.W
end L2
namespace L2
open PySem PySem.Spec PyProof.Rows PySem.MeetsSeq PySem.SeqAt
end L2
namespace L2
open PySem PySem.Spec PyProof.Rows HT
theorem ve: ∀a b c:List Int,bV b a=false->bV c b=false->bV c a=false
 | [],[],[],_,_=>rfl
 | [],[],_::_,_,h=>h
 | [],_::_,[],_,_=>rfl
 | [],_::_,_::_,_,_=>rfl
 | _::_,[],_,h,_=>by cases h
 | _::_,_::_,[],_,h=>by cases h
 | x::a,y::b,z::c,h,g=>by
  have h':(if y=x then bV b a else decide (y<x))=false:=h
  have g':(if z=y then bV c b else decide (z<y))=false:=g
  show (if z=x then bV c a else decide (z<x))=false
  by_cases e1:y=x
  ·rw[if_pos e1]at h'
   by_cases e2:z=y
   ·rw[if_pos e2]at g'
    rw[if_pos (e2.trans e1)]
    exact ve a b c h' g'
   ·rw[if_neg e2]at g'
    rw[if_neg fun w=>e2 (w.trans e1.symm), <-e1]
    exact g'
  ·rw[if_neg e1]at h'
   have q1:=of_decide_eq_false h'
   by_cases e2:z=y
   ·rw[if_neg fun w=>e1 (e2.symm.trans w),e2];exact h'
   ·rw[if_neg e2]at g'
    have q2:=of_decide_eq_false g'
    rw[if_neg (by omega)]
    exact decide_eq_false (by omega)
open Classical in
section
variable {X:Cx} {e st:Expr} {te:TE} {ts:TO} {pos p2:Pos}
theorem C_ (l:List Nat) (t tk:Tok):sliceMade (S l) t none none (some (-1,tk))= .str (S l.reverse):=by
 unfold sliceMade
 rw[if_neg (by simp)]
 have e:slicePicked (S l) none none (some (-1,tk))=(List.range (S l).cps.size).reverse:=by
  rw[<-PySem.W.krv_range, <-PySem.W.krv_sliceRange]
  rfl
 rw[e,List.filterMap_reverse,PySem.W.krv_all,fD]
 rfl
def Sg (te:TE) (ts:TO):TE:=fun σ H Q=>te σ H fun x H1=>ts σ H1 fun o H2=>o=some (-1)/\ ∃l,x= .str (S l)/\l.length<=sizeLine/\Q (.str (S l.reverse)) H2
theorem Jp (he:PE X e te) (hs:PO X (some st) ts):PE X (.Subscript e (.Slice none none (some st) p2) pos) (Sg te ts):=by
 intro pins s σ H Q I h
 refine Subscript_ (cD (he pins s σ H _ I h) fun v s1 ⟨x,H1,I1,r1,q1⟩=>?_)
 refine wpAny_Slice ?_
 rw[evalPart_none]
 refine wpAny_pure (wpAny_pure (cD (hs pins s1 σ H1 _ I1 q1) fun vk s3 ⟨o,H3,I3,pk,eo,l,ex,hz,q3⟩=>?_))
 subst eo ex
 obtain ⟨t,rfl⟩:=r1
 cases pk with
 | int i tk=>
 have I4:Inv X pins σ H3 { s3 with heap:=s3.heap.push { cls:= .type "slice",data:= .fields #[.none, .none, .int (-1) tk] } }:=I3.kept (t':=s3.toks) fun b ob q=>Xm _ q
 show wpAny (model X.prog X.w) X.A (subscriptTail e (.Slice none none (some st) p2) (.str (S l) t) (.ref s3.heap.objs.size)) (EP X pins σ Q) X.xe { s3 with heap:=s3.heap.push { cls:= .type "slice",data:= .fields #[.none, .none, .int (-1) tk] } }
 refine tail_any (ops:=[.str (S l) t, .ref s3.heap.objs.size]) (typeIs_str _ _ _) F.slot_str_getitem.lookup (wpAny_getItem_str_slice (l:=none) (u:=none) (st:=some (-1,tk)) ⟨_,Qam _ rfl,rfl,rfl⟩ rfl ?_) (by with_unfolding_all rfl)
 rw[C_]
 refine ⟨by rw[dR,Qa6];exact hz,?_⟩
 exact ⟨.str (S l.reverse),H3,I4.tok _,⟨_,rfl⟩,q3⟩
end
end L2
namespace PySem
open PySem.Spec PyProof.Rows
end PySem
namespace L2
open PySem PySem.Spec PyProof.Rows
section
variable {X:Cx} {K:PySem.W.Frag} {CX:CD} {k1 k2:Nat} {f1 f2:Addr} {XG XH:FuncData} {XI XJ:List Str} {TK TL:Sp} {E:XK} {x f:Str} {p pos pos':Pos} {e o value:Expr} {es:List Expr} {ta tv:TE} {t:TA}
theorem b6 (K:PySem.W.Frag) (hK:X.K=K) (he:PE X e ta) (hb:attributeBase e f X.env (eval e X.env)=eval e X.env):PE X (.Attribute e f pos) (Ra K ta f):=by subst hK;exact Mb he hb
def Fm (f1 f2:Addr) (TK TL:Sp) (E:XK) (ta:TE) (t:TA):TE:=fun σ H Q=>ta σ H fun v H1=>(v= .ref f1/\t σ H1 fun vs H2=>TK vs H2 Q E)\/(v= .ref f2/\t σ H1 fun vs H2=>TL vs H2 Q E)
theorem lT (hf:PE X (.Name x p) ta) (F1:bI X.prog X.w X.K X.mg X.base CX k1 f1 XG XI TK) (Fn:fu k1 X.A) (Fo:PySem.W.keepIn X.K (.ref f1)=true) (n_:Binds X.K XG XI []) (F2:bI X.prog X.w X.K X.mg X.base CX k2 f2 XH XJ TL) (OC:fu k2 X.A) (u_:PySem.W.keepIn X.K (.ref f2)=true) (iK:Binds X.K XH XJ []) (hx:Passes CX X E)
  (ha:PA X (e::es) t) (he:starEach (e::es) X.env=(false,eval e X.env)::starEach es X.env:=by rfl) (j8:(backTo pos (starEach es X.env)).any (·.1)=false:=by rfl):
  PE X (.Call (.Name x p) (e::es) [] pos) (Fm f1 f2 TK TL E ta t):=by
 intro pins s σ H Q I h
 refine wpAny_Call_Name_kw (cD (hf pins s σ H _ I h) fun u s1 ⟨v,H1,I1,r,q⟩=>?_)
 rcases q with ⟨rfl,q⟩ | ⟨rfl,q⟩
 ·obtain rfl:u=Value.ref f1:=r
  refine Qd6 (h₀:=X.base) I1.ok.mod.Om Fo (cD (ha pos pins s1 σ H1 _ I1 q) fun us s2 ⟨vs,H2,I2,r2,q2⟩=>⟨I2.o5,?_⟩) he j8
  exact zr (dvs:=[]) (ds:=[]) F1 Fn n_ .nil hx I2 r2 (by rw[Qbh];exact q2)
 ·obtain rfl:u=Value.ref f2:=r
  refine Qd6 (h₀:=X.base) I1.ok.mod.Om u_ (cD (ha pos pins s1 σ H1 _ I1 q) fun us s2 ⟨vs,H2,I2,r2,q2⟩=>⟨I2.o5,?_⟩) he j8
  exact zr (dvs:=[]) (ds:=[]) F2 OC iK .nil hx I2 r2 (by rw[Qbh];exact q2)
end
section
variable {prog:Program} {w:World} {A:Around} {E:Value->Shared->Prop} {R:Result->Shared->Prop} {I S:Addr} {fp wr:List Addr} {n:Nat} {P:Nat->Value->Prop} {St:Nat->Heap->Prop} {kw:List (Str×Value)} {bt:Nat->Nat->Bool}
theorem Bk:(toString "max"++toString ".loop":String)="max.loop":=by decide
theorem Sh (W:Walks prog w A.in1 I fp wr n P St) (cm:CmpOf prog w A.in1 .Gt P bt) (sf:S∉fp): ∀(m j:Nat) (s:Shared) (b:Value) (c:Nat),n=j+1+m->St (j+1) s.heap->P (argBest bt j) b->s.heap.get? S=some { cls:= .type "list",dict:=none,data:= .seq #[b,b] c,slots:= #[] }->
  (∀v h' tk,P (argBest bt (n - 1)) v->(∀a o,a∉wr->a≠S->s.heap.get? a=some o->h'.get? a=some o)->R (.ok (.ret v)) { s with heap:=h',toks:=tk })->
  codeAny (model prog w) A (.builtin "max.loop" ⟨[.ref I, .none, .ref S],kw⟩) R s:=by
 have sw:S∉wr:=fun z=>sf (W.sub _ z)
 intro m
 induction m with
 | zero=>
  intro j s b c en ky hb hS hR
  have e1:n=j+1:=en
  subst e1
  refine codeAny_builtin Qem ?_
  rw[Around.under_plainId Qcc _]
  refine wpAny_bind (m:=seqItems? (.ref S)) (wpAny_seqItems hS rfl ?_)
  refine wpAny_bind (m:=tryCatch (pyNext (.ref I)) _) (wpAny_tryCatch (W.done s _ _ ky fun h1 tk k1=>?_))
  refine wpAny_bind (m:=updateSeq S fun _=> #[]) (wpAny_updateSeq (k1 S _ sw hS) rfl (wpAny_bind (wpAny_letGo (wpAny_pure ?_))))
  exact hR b _ tk hb fun a o aw aS ea=>(Qbi _ _ (Ne.symm aS)).trans (k1 a o aw ea)
 | succ m ih=>
  intro j s b c en ky hb hS hR
  refine codeAny_builtin Qem ?_
  rw[Around.under_plainId Qcc _]
  refine wpAny_bind (m:=seqItems? (.ref S)) (wpAny_seqItems hS rfl ?_)
  refine wpAny_bind (m:=tryCatch (pyNext (.ref I)) _) (wpAny_tryCatch (W.item (j+1) s _ _ (by omega) ky fun v h1 tk pv yS k1=>?_))
  have OD:=k1 S _ sw hS
  refine wpAny_bind (m:=tryCatch (holding [v,v] (richCompare .Gt v b >>= _)) _) (wpAny_tryCatch (wpAny_holding (wpAny_bind (cm (j+1) (argBest bt j) v b _ _ _ pv hb (wpAny_bind (wpAny_holding (wpAny_truthy_bool (wpAny_bind (wpAny_letGo (wpAny_pure ?_))))))))))
  cases q:bt (j+1) (argBest bt j)
  ·rw[if_neg (by decide)]
   refine wpAny_bind (wpAny_letGo ?_)
   rw[Bk]
   refine wpAny_pure ⟨plainId_quiet Qcc _,ih (j+1) _ b c (by omega) yS (by rw[argBest,q];exact hb) OD fun v' h2 Si p2 k2=>?_⟩
   exact hR v' h2 Si p2 fun a o aw aS ea=>k2 a o aw aS (k1 a o aw ea)
  ·rw[if_pos rfl]
   refine wpAny_bind (wpAny_updateSeq OD rfl (wpAny_bind (wpAny_letGo ?_)))
   rw[Bk]
   refine wpAny_pure ⟨plainId_quiet Qcc _,ih (j+1) _ v _ (by omega) (W.frame _ _ _ yS fun a af o ea=>?_) (by rw[argBest,q];exact pv) (Qb7 _ OD rfl) fun v' h2 Si p2 k2=>?_⟩
   ·exact (Qbi _ _ (fun z:S=a=>sf (z▸af))).trans ea
   ·exact hR v' h2 Si p2 fun a o aw aS ea=>k2 a o aw aS ((Qbi _ _ (Ne.symm aS)).trans (k1 a o aw ea))
theorem Sj (a d:Value):argsOk "max" ⟨[a],[(Str.ofString "default",d)]⟩:=by unfold argsOk;kernel_rfl
theorem Jq {s:Shared} {x d:Value} {Q:Value->Shared->Prop}
  (h:wpAny (model prog w) A.in1 (pyIter x) (fun it s₂=> ∃I fp wr n P St bt,it= .ref I/\Walks prog w A.in1 I fp wr n P St/\St 0 s₂.heap/\(∀b∈fp,b<s₂.heap.objs.size)/\CmpOf prog w A.in1 .Gt P bt/\
   ∀v h' tk,(n=0->v=d)->(0<n->P (argBest bt (n - 1)) v)->(∀b o,b∉wr->s₂.heap.get? b=some o->h'.get? b=some o)->Q v { s₂ with heap:=h',toks:=tk }) E s):
  wpAny (model prog w) A (call (.builtin "max") [x] [(Str.ofString "default",d)]) Q E s:=by
 refine kmk_tree PySem.F.kind_max PySem.F.plain_max PySem.F.entry_max (Sj x d) ?_
 refine wpAny_bind (m:=Builtin.Builtins.bindParams "max" ["key","default"] 0 ⟨[],[(Str.ofString "default",d)]⟩) (wpAny_of_eq (a:=[none,some d]) rfl ?_)
 refine wpAny_bind (wpAny_pure (wpAny_bind (wpAny_mono h (fun it s2 h2=>?_) fun _ _ e=>e)))
 obtain ⟨I,fp,wr,n,P,St,bt,rfl,W,ky,ZZ,cm,hQ⟩:=h2
 refine wpAny_bind (wpAny_newObj_type ?_)
 have sf:s2.heap.objs.size∉fp:=fun z=>Qbb _ (ZZ _ z)
 have sw:s2.heap.objs.size∉wr:=fun z=>sf (W.sub _ z)
 have hS:(s2.heap.push { cls:= .type "list",data:= .seq #[] }).get? s2.heap.objs.size=some { cls:= .type "list",dict:=none,data:= .seq #[] 0,slots:= #[] }:=Qam _ rfl
 have Sk:=W.frame _ _ (s2.heap.push { cls:= .type "list",data:= .seq #[] }) ky fun b _ o e=>Xm _ e
 have lo: ∀{b o},s2.heap.get? b=some o->b≠s2.heap.objs.size:=fun e=>Qan (Qal e)
 rw[Bk]
 refine wpAny_pure ⟨plainId_quiet Qcc _,codeAny_builtin Qem ?_⟩
 rw[Around.under_plainId Qcc _]
 refine wpAny_bind (m:=seqItems? (.ref s2.heap.objs.size)) (wpAny_seqItems hS rfl ?_)
 cases n with
 | zero=>
  refine wpAny_bind (m:=tryCatch (pyNext (.ref I)) _) (wpAny_tryCatch (W.done _ _ _ Sk fun h1 tk k1=>?_))
  refine wpAny_bind (wpAny_rule ?_)
  refine wpAny_pure (hQ d h1 tk (fun _=>rfl) (fun z=>absurd z (Qbb _)) fun b o bw e=>k1 b o bw (Xm _ e))
 | succ m=>
  refine wpAny_bind (m:=tryCatch (pyNext (.ref I)) _) (wpAny_tryCatch (W.item 0 _ _ _ (Nat.succ_pos _) Sk fun v h1 tk pv yS k1=>?_))
  have OD:=k1 _ _ sw hS
  refine wpAny_bind (m:=updateSeq s2.heap.objs.size fun _=> #[v,v]) (wpAny_updateSeq OD rfl ?_)
  rw[Bk]
  refine wpAny_pure ⟨plainId_quiet Qcc _,Sh W cm sf m 0 _ v _ (by omega) (W.frame _ _ _ yS fun a af o ea=>?_) pv (Qb7 _ OD rfl) fun v' h2 Si p2 k2=>?_⟩
  ·exact (Qbi _ _ (fun z:s2.heap.objs.size=a=>sf (z▸af))).trans ea
  ·exact hQ v' h2 Si (fun z=>by omega) (fun _=>p2) fun b o bw e=>k2 b o bw (lo e) ((Qbi _ _ (Ne.symm (lo e))).trans (k1 b o bw (Xm _ e)))
end
noncomputable def MR (d:Int):List Int->Int
 | []=>d
 | a::r=>r.foldl (fun x y=>if y>x then y else x) a
noncomputable def fV (l:List Int) (i j:Nat):Bool:=decide (l.getD i 0>l.getD j 0)
theorem lU (l:List Int): ∀n:Nat,n<l.length->l.getD (argBest (fV l) n) 0=((l.drop 1).take n).foldl (fun x y=>if y>x then y else x) (l.getD 0 0)
 | 0,_=>by simp[argBest]
 | n+1,h=>by
  have ih:=lU l n (by omega)
  have e:(l.drop 1).take (n+1)=(l.drop 1).take n++[l.getD (n+1) 0]:=by
   rw[Qea,Qc1,show 1+n=n+1 by omega,kb,Mt h]
   rfl
  rw[e,List.foldl_append, <-ih]
  show l.getD (if fV l (n+1) (argBest (fV l) n)=true then n+1 else argBest (fV l) n) 0=if l.getD (n+1) 0>l.getD (argBest (fV l) n) 0 then l.getD (n+1) 0 else l.getD (argBest (fV l) n) 0
  by_cases z:l.getD (n+1) 0>l.getD (argBest (fV l) n) 0
  ·rw[if_pos (show fV l (n+1) (argBest (fV l) n)=true from decide_eq_true z),if_pos z]
  ·rw[if_neg (show ¬fV l (n+1) (argBest (fV l) n)=true from fun w=>z (of_decide_eq_true w)),if_neg z]
section
variable {X:Cx}
theorem Fp {prog:Program} {w:World} {A:Around} {l:List Int} {aO:List Value} (r:Vals (l.map V.int) aO):CmpOf prog w A .Gt (fun i v=>aO.toArray[i]? =some v) (fV l):=by
 intro i j vi vj s Q E hi hj hQ
 have get: ∀{i:Nat} {v:Value},aO.toArray[i]? =some v-> ∃t,v= .int (l.getD i 0) t:=by
  intro i v h
  have h':aO[i]? =some v:=by simpa using h
  have hl:i<l.length:=by have:=(Mu.mp h').1;rw[<-r.length,Xl]at this;exact this
  obtain ⟨u,hu,ru⟩:=r.get (i:=i) (x:=V.int (l.getD i 0)) (by rw[Qak,kb,Mt hl];rfl)
  rw[h']at hu;cases hu
  exact ru
 obtain ⟨t,rfl⟩:=get hi
 obtain ⟨u,rfl⟩:=get hj
 exact gt_int hQ
def Sl (K:PySem.W.Frag) (d:Int) (t:TA):TE:=fun σ H Q=>t σ H fun vs H1=> ∃(p:Addr) (l:List Int),vs=[.ref p]/\bA K H1 p (l.map V.int)/\Q (.int (MR d l)) H1
theorem Jr {e:Expr} {t:TA} {d:Int} {j:Nat} {kp cp p pos:Pos} (K:PySem.W.Frag) (hK:X.K=K) (hc:X.calm=true) (hg:Gl X "max") (hm:X.mg "max"=none) (ha:PA X [e] t)
  (he:backTo pos (starEach [e] X.env)=[(false,eval e X.env)]:=by rfl):PE X (.Call (.Name "max" p) [e] [⟨some "default", .Constant (.int d) j cp,kp⟩] pos) (Sl K d t):=by
 subst hK
 intro pins s σ H Q I h
 refine wpAny_Call_Name_kw (gg I hg hm boot_max ?_)
 refine callWith_kw (cD (ha pos pins s σ H _ I h) fun us s1 ⟨vs,H1,I1,r1,q1⟩=>?_) he (by rw[he];rfl)
 obtain ⟨a,l,rfl,hq,q⟩:=q1
 obtain ⟨u,rfl,ru⟩:=vals1 r1
 cases ru
 refine kws_cons (wpAny_Constant_int (kws_nil ?_))
 obtain ⟨aO,rv,pl,hz⟩:=I1.list hq
 have hlen:aO.length=l.length:=by rw[<-rv.length,Xl]
 have hp:a<s1.heap.objs.size:=by
  obtain ⟨o,n,e,_⟩:=pl
  exact Qal e
 refine Jq (wpAny_pyIter_list pl.isList ?_)
 refine ⟨_,_,_,_,_,_,fV l,rfl,Walks.list (A:=X.A.in1) (I1.ok.hd hc) s1.heap.objs.size a (Qan hp) aO.toArray,⟨⟨_,Qam _ rfl,rfl,rfl⟩,?_⟩,fun b hb=>?_,Fp rv,fun v h' tk h0 h1 hk=>?_⟩
 ·obtain ⟨o,ho,hr⟩:=pl.isList
  exact ⟨o,Xm _ ho,hr⟩
 ·show b<(s1.heap.push _).objs.size
  rw[Qc3]
  exact (Zv.mp hb).elim (fun z=>z▸Qci _) fun z=>(Zt.mp z)▸Qcv hp
 ·have ru:RelV (.int (MR d l)) v:=by
   cases l with
   | nil=>
    have:=h0 (by rw[Qac,hlen];rfl)
    subst this
    exact ⟨_,rfl⟩
   | cons b l=>
    have hn:aO.toArray.size - 1=l.length:=by rw[Qac,hlen];rfl
    have hP:=h1 (by rw[Qac,hlen];exact Nat.succ_pos _)
    rw[hn]at hP
    have TB:aO[argBest (fV (b::l)) l.length]? =some v:=by simpa using hP
    have hl:argBest (fV (b::l)) l.length<(b::l).length:=Nat.lt_succ_of_le (argBest_lt _ _)
    have e:=lU (b::l) l.length (Qci _)
    rw[show ((b::l).drop 1).take l.length=l from Qar (Tz _),kb,Mt hl]at e
    have e':(b::l)[argBest (fV (b::l)) l.length]=MR d (b::l):=e
    obtain ⟨u,hu,ru⟩:=rv.get (i:=argBest (fV (b::l)) l.length) (x:=V.int (MR d (b::l))) (by rw[Qak,Mt hl,e'];rfl)
    rw[TB]at hu;cases hu
    exact ru
  refine ⟨.int (MR d l),H1,?_,ru,q⟩
  have I2:Inv X pins σ H1 { s1 with heap:=s1.heap.push { cls:= .type "list_iterator",data:= .fields #[.ref a, .int 0 0] },toks:=s1.toks+1 }:=I1.kept (t':=s1.toks+1) fun b o e=>Xm _ e
  have f:=I1.pU (H':=H1) (b:=s1.heap.objs.size) (Tz _) I1.fresh
  exact I2.turned (h':=h') (t':=tk) (it:=s1.heap.objs.size) (fun b o hb e=>hk b o (by simpa using hb) e) f.1 f.2.1 f.2.2.2.1 f.2.2.2.2.1 f.2.2.2.2.2
theorem MS:QW X .Mult (fun x y H Q=> ∃i j,x= .int i/\y= .int j/\IG i j/\Q (.int (i*j)) H):=by
 intro pins s σ H x y v u Q I r1 r2 h
 obtain ⟨i,j,rfl,rfl,c,q⟩:=h
 obtain ⟨t,rfl⟩:=r1
 obtain ⟨t',rfl⟩:=r2
 exact imul_int ⟨.int _,H,I.tok _,⟨_,rfl⟩,q⟩ c.ok
theorem Js:QW X .FloorDiv (fun x y H Q=> ∃i j,x= .int i/\y= .int j/\Vd i j/\Q (.int (i / j)) H):=by
 intro pins s σ H x y v u Q I r1 r2 h
 obtain ⟨i,j,rfl,rfl,hc,q⟩:=h
 obtain ⟨t,rfl⟩:=r1
 obtain ⟨t',rfl⟩:=r2
 have h1:(0:Int)<j:=hc.1
 have h2:j<1073741824:=hc.2
 exact ifloordiv_int (by omega) (by rw[Int.fdiv_eq_ediv_of_nonneg i (by omega)];exact ⟨.int _,H,I.tok _,⟨_,rfl⟩,q⟩) (.inl (PyProof.noPylong_small (by omega)))
end
theorem xK: ∀{ls:List Int} {aO:List Value},Vals (ls.map V.int) aO->IntsAre aO ls
 | [],_, .nil=> .nil
 | _::_,_, .cons ⟨t,e⟩ h=>e▸ .cons _ t (xK h)
theorem xM: ∀{ls:List Int} {aO:List Value},IntsAre aO ls->Vals (ls.map V.int) aO
 | _,_, .nil=> .nil
 | _,_, .cons n t h=> .cons ⟨t,rfl⟩ (xM h)
section
variable {prog:Program} {w:World} {A:Around} {E:Value->Shared->Prop} {s:Shared}
theorem vf {Q:Value->Shared->Prop} (hh:A.handled=none) (d:Addr) (aU:List (Key×Value)) (ep:Nat) (ls:List Int) (hk:aU.map (·.1)=ls.map fun l=>Sum.inl l) (hd:(d==sysModules)=false) (hm:s.heap.DictAt (c_ prog w) d aU ep) (ZC:aU.length<64)
  (h: ∀(h1 h':Heap) (tk:Nat) (a:Addr) (out:Array Value) (Eh:List Int) (e:Nat),(∀b o,s.heap.get? b=some o->h1.get? b=some o)->(∀b o,h1.get? b=some o->h'.get? b=some o)->a=h1.objs.size->h'.get? a=some (seqObj "list" out e)->IntsAre out.toList Eh->Eh.Perm ls->(Eh.Pairwise fun a b=> ¬b<a)->Q (.ref a) { s with heap:=h',toks:=tk }):
  wpAny (model prog w) A (call (.builtin "sorted") [.ref d]) Q E s:=by
 refine Calls.call_function_entry kind_sorted plain_sorted entry_sorted (args_sorted1 _) ?_
 unfold Builtin.«sorted»
 refine wpAny_bind (m:=checkCount "sorted" 1 1 _) (wpAny_pure ?_)
 have nX:(10000:Nat)<sizeLine:=by decide
 refine wpAny_bind (vd (A:=A.in1) (show A.in1.handled=none from hh) d aU ep hd hm (by omega) (fun s' acc Z0 hg TM ho uX=>?_))
 obtain ⟨h1,h2⟩:=uX
 have hlen:aU.length=ls.length:=by have:=congrArg List.length hk;simpa using this
 have rv:Vals (ls.map V.int) acc.toList:=by
  have key: ∀(ls:List Int) (vs:List Value),vs.length=ls.length->(∀(j:Nat) (v:Value),vs[j]? =some v-> ∃l t,ls[j]? =some l/\v=Value.int l t)->Vals (ls.map V.int) vs:=by
   intro ls
   induction ls with
   | nil=>intro vs hl _;have:vs=[]:=Qdz hl;subst this;exact .nil
   | cons l ls ih=>
    intro vs hl hv
    cases vs with
    | nil=>simp at hl
    | cons v vs=>
     obtain ⟨l',t,e1,e2⟩:=hv 0 v rfl
     have EV:l=l':=by simpa using e1
     subst EV
     refine .cons ⟨t,e2⟩ (ih vs (by simpa using hl) fun j v' e=>?_)
     obtain ⟨l',t',g1,g2⟩:=hv (j+1) v' (by simpa using e)
     exact ⟨l',t',by simpa using g1,g2⟩
  refine key ls acc.toList (by simpa [<-hlen]using h1) fun j v e=>?_
  obtain ⟨k,x,e1,e2⟩:=h2 j v (by simpa using e)
  have e3:(aU.map (·.1))[j]? =some k:=by rw[Qak,e1];rfl
  rw[hk,Qak]at e3
  cases e4:ls[j]? with
  | none=>rw[e4]at e3;cases e3
  | some l=>
   rw[e4]at e3
   have e5:k=Sum.inl l:=(Qaf e3).symm
   subst e5
   obtain ⟨t,e6⟩:=Value.isInt_shape (k:=l) (v:=v) e2
   exact ⟨l,t,rfl,e6⟩
 have hS:=xK rv
 have hn:acc.toList.length=ls.length:=by rw[<-rv.length,Xl]
 refine wpAny_bind (wpAny_newList ?_)
 have QQ:(s'.heap.push (seqObj "list" acc.toList.toArray 0)).get? s'.heap.objs.size=some (seqObj "list" acc.toList.toArray 0):=Qam _ rfl
 show wpAny _ _ _ _ _ { s' with heap:=s'.heap.push (seqObj "list" acc.toList.toArray 0) }
 refine wpAny_bind (wpAny_holding (wpAny_call_entry slot_list_sort ⟨_,QQ,rfl⟩ entry_list_sort (list_sort_tree QQ hS (by omega) fun out Eh k1 k2 k3=>⟨_,rfl,?_⟩) (args_list_sort _)))
 obtain ⟨e,he⟩:=sortedHeap_at (out:=out) QQ
 refine wpAny_pure ⟨_,rfl,?_⟩
 have es: ∀hh:Heap,({ s' with heap:=hh }:Shared)={ s with heap:=hh,toks:=s'.toks }:=fun hh=>by
  cases s;cases s'
  simp only at hg TM ho
  subst hg TM ho
  rfl
 show Q (.ref s'.heap.objs.size) { s' with heap:=sortedHeap (s'.heap.push (seqObj "list" acc.toList.toArray 0)) s'.heap.objs.size acc.toList (out) }
 rw[es]
 refine h s'.heap _ _ _ _ Eh e Z0 (fun b o hb=>?_) rfl he k1 k2 (k3.imp fun h=>Int.not_lt.mpr h)
 have cZ:=Qal hb
 rw[sortedHeap_old (Qan cZ) (by rw[size_push'];exact Qcv cZ)]
 exact Xm _ hb
end
section
variable {X:Cx}
def Jt:List V->Hp->VK->Prop:=fun xs H Q=> ∃(d:Addr) (aU:List (Key×V)) (ls:List Int),xs=[.ref d]/\H d=some (.dK aU)/\aU.map (·.1)=(ls.map fun l=>Sum.inl l)/\ls.length<64/\ ∀(q:Addr) (ms:List Int),H q=none->ms.Perm ls->(ms.Pairwise fun a b=> ¬b<a)->Q (.ref q) (upd H q (.lst (ms.map V.int)))
theorem rQ (hc:X.calm=true):dG X (.builtin "sorted") Jt:=by
 intro pins s σ H xs us Q I r h
 obtain ⟨d,aU,ls,rfl,hd,hk,hn,q⟩:=h
 obtain ⟨u,rfl,ru⟩:=vals1 r
 cases ru
 obtain ⟨hz,V8,vs,kv,o,es,ep,e1,e2,e3,e4,e5,e6⟩:=I.cj d _ hd
 have hlen:vs.length=ls.length:=by
  have a1:=congrArg List.length (Bj kv)
  have a2:=congrArg List.length hk
  simp only[Xl]at a1 a2
  omega
 refine vf (s:=s) (I.ok.hd hc) d vs ep ls ((Bj kv).trans hk) V8 ⟨o,es,e1,e2,e3,e4,e5,e6⟩ (by omega) fun h1 h' tk a out Eh e k1 k2 ea he g1 g2 g3=>?_
 have xv:=g2
 have hv:=xM g1
 have pw:=g3
 have I1:Inv X pins σ H { s with heap:=h1,toks:=tk }:=I.kept k1
 have hsz:(10000:Nat)<sizeLine:=by decide
 have I2:Inv X pins σ (upd H a (.lst (Eh.map V.int))) { s with heap:=h',toks:=tk }:=
  I1.laid (t':=tk) (a:=a) (o:= .lst (Eh.map V.int)) k2 (by rw[ea];exact Tz _) ⟨by rw[Xl,xv.length_eq];omega,out.toList,e,hv,by simpa [seqObj]using he⟩
 exact ⟨.ref a,_,I2,rfl,q _ _ (I1.cj.fresh (by rw[ea];exact Tz _)) xv pw⟩
theorem Fq: ∀{l:List Bool} {us:List Value},Vals (l.map V.bl) us->us.countP (xi (.bl true))=l.countP id
 | [],_, .nil=>rfl
 | b::t,_, .cons r1 r2=>by
  rw[List.countP_cons,List.countP_cons,Fq r2,zu r1 rfl]
  cases b<;>rfl
def Ju (K:PySem.W.Frag):V->List V->Hp->VK->Prop:=fun x vs H Q=> ∃(p:Addr) (l:List Bool),x= .ref p/\vs=[.bl true]/\H p=some (.lst (l.map V.bl))/\Q (.int (l.countP id:Nat)) H
theorem Dc (K:PySem.W.Frag) (h:X.K=K):A8 X "list.count" (Ju K):=by
 subst h
 intro pins s σ H x vs v us Q I rx rv h
 obtain ⟨p,l,rfl,rfl,hH,q⟩:=h
 cases rx
 obtain ⟨u,rfl,ru⟩:=vals1 rv
 cases (show u=Value.bool true from ru)
 obtain ⟨z,aO,n,r,hl,e⟩:=I.uT hH
 have hc:=Fq r
 refine call_meets F.slot_list_count ⟨_,e,rfl⟩ F.entry_list_count (F.args_list_count_2 _ _) (SeqAt.list_countAt p aO.toArray n none #[] (.bool true) (xi (.bl true))) ⟨e,?_,?_⟩
 ·intro w hw
  have fs:(l.map V.bl).all i3=true:=by
   rw[Qb9];intro v hv
   obtain ⟨d,_,rfl⟩:=Qau.mp hv
   rfl
  exact ie (x:= .bl true) (show RelV (.bl true) _ from rfl) rfl r fs w (by simpa using hw)
 ·rw[show aO.toArray.toList=aO from rfl,hc]
  exact ⟨.int (l.countP id:Nat),H,I.tok _,⟨_,rfl⟩,q⟩
end
section
variable {X:Cx} {pos:Pos}
def Sm (i j k:Nat) (ta:TA):TS:=fun D σ H=>ta σ H fun vs H1=> ∃v w z,vs=[v,w,z]/\D.nx (((σ.set i (some v)).set j (some w)).set k (some z)) H1
theorem vg {i j k:Nat} {x y z:Str} {a b c:Expr} {ta:TA} {px py pz pt:Pos} {kt k2 L1} (hc:X.calm=true) (hN:X.N.Nodup) (hi:X.N[i]? =some x) (hj:X.N[j]? =some y) (hk:X.N[k]? =some z) (L3:i≠j/\i≠k/\j≠k)
  (hx:X.env.scope.names.lookup x=some .local) (hy:X.env.scope.names.lookup y=some .local) (hz:X.env.scope.names.lookup z=some .local) (ha:PA X [a,b,c] ta)
  (hw:swappedStores [.Tuple [.Name x px, .Name y py, .Name z pz] kt pt] (.Tuple [a,b,c] k2 L1) X.env=pure (some [x,y,z]))
  (hs:swapsWithSole [.Tuple [.Name x px, .Name y py, .Name z pz] kt pt] (.Tuple [a,b,c] k2 L1) pos.line X.env=pure false:=by rfl):
  PS X (.Assign [.Tuple [.Name x px, .Name y py, .Name z pz] kt pt] (.Tuple [a,b,c] k2 L1) pos) (Sm i j k ta):=by
 intro pins s σ H D I h
 rw[exec_Assign_arm]
 refine wpAny_bind (wpAny_standAt ?_)
 rw[hs]
 refine wpAny_bind (wpAny_pure ?_)
 rw[if_neg (by decide)]
 refine wpAny_bind (Tuple_ (cD (ha _ pins s σ H _ I h) fun us s1 ⟨vs,H1,I1,r1,q1⟩=>?_))
 obtain ⟨v,w,q,e1,q1⟩:=q1
 subst e1
 obtain ⟨u1,u2,u3,rfl,rv,rL,rq⟩: ∃u1 u2 u3,us=[u1,u2,u3]/\RelV v u1/\RelV w u2/\RelV q u3:=by
  cases r1 with
  | cons p q=>
   cases q with
   | cons p' q'=>
    cases q' with
    | cons Z1 Z2=>
     cases Z2
     exact ⟨_,_,_,rfl,p,p',Z1⟩
 refine wpAny_newObj_type ?_ (by show 3<=sizeLine;decide)
 have I2:Inv X pins σ H1 { s1 with heap:=s1.heap.push { cls:= .type "tuple",data:= .seq [u1,u2,u3].toArray } }:=I1.kept (t':=s1.toks) fun b o e=>Xm _ e
 rw[hw]
 refine wpAny_bind (wpAny_pure ?_)
 show wpAny (model X.prog X.w) X.A (do rule "assign.swapped-stores";let items <-unpackItems (.ref s1.heap.objs.size) 3 none;assignInOrder [fun v=>bindName X.env z v,fun v=>bindName X.env y v,fun v=>bindName X.env x v] items.reverse;pure Flow.next) _ _ _
 refine wpAny_bind (wpAny_rule (wpAny_bind (unpackItems_tuple (items:= #[u1,u2,u3]) (I.ok.hd hc) (IsTup.new s1.heap _) fun h' w9=>?_)))
 have I3:=I2.kept (h':=h') (t':=s1.toks) fun b o e=>w9 b o (Qan (Qal e)) e
 show wpAny _ _ (assignInOrder [fun v=>bindName X.env z v,fun v=>bindName X.env y v,fun v=>bindName X.env x v] [u3,u2,u1] >>= fun _=>pure Flow.next) _ _ _
 refine wpAny_bind (assignInOrder_cons (wpAny_bindName (eR I3 hN hk (.inl hz) rq (fun s2 I4=>?_) (.inr hz))))
 refine assignInOrder_cons (wpAny_bindName (eR I4 hN hj (.inl hy) rL (fun s3 I5=>?_) (.inr hy)))
 refine assignInOrder_cons (wpAny_bindName (eR I5 hN hi (.inl hx) rv (fun s4 I6=>assignInOrder_nil (wpAny_pure ?_)) (.inr hx)))
 rw[Qe6 _ _ (Ne.symm L3.1),Qe6 _ _ (Ne.symm L3.2.1),Qe6 _ _ (Ne.symm L3.2.2)]at I6
 exact ⟨_,H1,I6,q1⟩
end
end L2
namespace My
open PySem PySem.Spec PyProof.Rows L2 XL
noncomputable def aP:List Nat:=[97,98,99,100,101,102,103,104,105,106,107,108,109,110,111,112,113,114,115,116,117,118,119,120,121,122]
noncomputable def kW:List Nat:=[65,66,67,68,69,70,71,72,73,74,75,76,77,78,79,80,81,82,83,84,85,86,87,88,89,90]
def Lt (c:Nat):Prop:=c∈aP\/c∈kW
noncomputable instance (c:Nat):Decidable (Lt c):=by unfold Lt;infer_instance
noncomputable def aC (c:Nat):Nat:=if aJ c=true then PyProof.Rows.up1 c else PyProof.Rows.lo1 c
theorem vh: ∀c∈aP++kW,c<128/\aC c∈aP++kW/\aC (aC c)=c/\aC c≠c:=by decide+kernel
theorem Lt.mem {c:Nat} (h:Lt c):c∈aP++kW:=Qaj.mpr h
theorem Lt.lt {c:Nat} (h:Lt c):c<128:=(vh c h.mem).1
theorem Lt.aC {c:Nat} (h:Lt c):Lt (aC c):=Qaj.mp (vh c h.mem).2.1
theorem aN {c:Nat} (h:Lt c):aC (aC c)=c:=(vh c h.mem).2.2.1
theorem eI {c:Nat} (h:Lt c):aC c≠c:=(vh c h.mem).2.2.2
theorem fP {a b:Nat} (ha:Lt a) (hb:Lt b) (e:My.aC a=My.aC b):a=b:=by rw[<-aN ha,e,aN hb]
theorem xN: ∀c∈aP,jc kW ((aP.idxOf c:Nat):Int)=some (aC c):=by decide+kernel
theorem Dd: ∀c∈kW,jc aP ((kW.idxOf c:Nat):Int)=some (aC c):=by decide+kernel
noncomputable def iq (l:List Nat):List Nat:=(l.map aC).reverse
def aR (b:Addr) (H H':Hp):Prop:= ∀c o,H c=some o->c≠b->H' c=some o
theorem aR.refl (b:Addr) (H:Hp):aR b H H:=fun _ _ h _=>h
theorem aR.trans {b:Addr} {H H1 H2:Hp} (x:aR b H H1) (y:aR b H1 H2):aR b H H2:=fun c o h n=>y c o (x c o h n) n
theorem aR.of {b:Addr} {H H':Hp} (x:ar H H'):aR b H H':=fun c o h _=>x c o h
theorem aR.upd (b:Addr) (H:Hp) (o:HO):aR b H (upd H b o):=fun c o h n=>by rw[aD n];exact h
theorem ar.upd {H:Hp} {p:Addr} {o:HO} (h:H p=none):ar H (L2.upd H p o):=fun c u e=>by rw[aD (aE e h)];exact e
def bH (H:Hp) (b:Addr):Prop:= ∃x y:Int,H b=some (.lst [.int x, .int y])
theorem bH.same {H H':Hp} {b:Addr} (h:bH H b) (s:ar H H'):bH H' b:=let ⟨x,y,e⟩:=h;⟨x,y,s _ _ e⟩
structure Yd (y:List Nat):Prop where
 nd:y.Nodup
 lt: ∀c∈y,Lt c
 cl: ∀c∈y,aC c∈y
def oa (_:PySem.W.Frag):Sp:=fun vs H Q _=> ∃c,vs=[.str (S [c])]/\c<128/\Q (.str (S [aC c])) H
theorem vm {K:PySem.W.Frag} {vs:List V} {H:Hp} {Q:VK} {E:XK} (h:oa K vs H Q E):vs.length=1:=by obtain ⟨c,rfl,_⟩:=h;rfl
def tF (_:PySem.W.Frag):Sp:=fun vs H Q _=> ∃c,vs=[.str (S [c])]/\Lt c/\Q (.str (S [aC c])) H
theorem zT {K:PySem.W.Frag} {vs:List V} {H:Hp} {Q:VK} {E:XK} (h:tF K vs H Q E):vs.length=1:=by obtain ⟨c,rfl,_⟩:=h;rfl
def tG (_:PySem.W.Frag):Sp:=fun vs H Q _=> ∃l:List Nat,vs=[.str (S l)]/\(∀c∈l,c<128)/\l.length<=1000/\ ∀H',ar H H'->Q (.str (S (iq l))) H'
theorem zU {K:PySem.W.Frag} {vs:List V} {H:Hp} {Q:VK} {E:XK} (h:tG K vs H Q E):vs.length=1:=by obtain ⟨c,rfl,_⟩:=h;rfl
def Bl (K:PySem.W.Frag):Sp:=fun vs H Q _=> ∃(a:Addr) (ns:List Int) (k:Nat),vs=[.ref a, .int k]/\bA K H a (ns.map V.int)/\k<=1000/\ ∀b H',H b=none->bH H' b->ar H H'->Q (.ref b) H'
theorem Fs {K:PySem.W.Frag} {vs:List V} {H:Hp} {Q:VK} {E:XK} (h:Bl K vs H Q E):vs.length=2:=by obtain ⟨a,ns,k,rfl,_⟩:=h;rfl
def xO (_:PySem.W.Frag):Sp:=fun vs H Q _=> ∃(b:Addr) (m:Int),vs=[.ref b, .int m]/\bH H b/\1<=m/\m<1000000/\ ∀(r:Nat) H',(r:Int)<m->bH H' b->aR b H H'->Q (.int r) H'
theorem De {K:PySem.W.Frag} {vs:List V} {H:Hp} {Q:VK} {E:XK} (h:xO K vs H Q E):vs.length=2:=by obtain ⟨b,m,rfl,_⟩:=h;rfl
def xP (_:PySem.W.Frag):Sp:=fun vs H Q _=> ∃(b:Addr) (lV top:Nat),vs=[.ref b, .int lV, .int top]/\bH H b/\1<=lV/\lV<=top/\top<=8/\ ∀(y:List Nat) H',Yd y->2*lV<=y.length->y.length<=2*top->bH H' b->aR b H H'->Q (.str (S y)) H'
theorem Df {K:PySem.W.Frag} {vs:List V} {H:Hp} {Q:VK} {E:XK} (h:xP K vs H Q E):vs.length=3:=by obtain ⟨b,m,t,rfl,_⟩:=h;rfl
def xQ (_:PySem.W.Frag):Sp:=fun vs H Q _=> ∃(b:Addr) (y:List Nat) (top:Nat),vs=[.ref b, .str (S y), .int top]/\bH H b/\y≠[]/\y.length<=1000/\top<=1000/\ ∀(l:List Nat) H',(∀c∈l,c∈y)->l.length<=top->bH H' b->aR b H H'->Q (.str (S l)) H'
theorem Dg {K:PySem.W.Frag} {vs:List V} {H:Hp} {Q:VK} {E:XK} (h:xQ K vs H Q E):vs.length=3:=by obtain ⟨b,m,t,rfl,_⟩:=h;rfl
def mU (K:PySem.W.Frag):Sp:=fun vs H Q _=> ∃(a:Addr) (ns:List Int),vs=[.ref a]/\bA K H a (ns.map V.int)/\ns.length<=63/\ ∀H',Q (.bl true) H'
theorem Jv {K:PySem.W.Frag} {vs:List V} {H:Hp} {Q:VK} {E:XK} (h:mU K vs H Q E):vs.length=1:=by obtain ⟨b,m,rfl,_⟩:=h;rfl
theorem lW: ∀l:List Nat,(l.map fun c=>[c]).flatten=l
 | []=>rfl
 | c::l=>by rw[Qat,Qc4,lW l];rfl
theorem vn: ∀l:List Nat,((l.map fun c=>[c]).map List.length).sum=l.length
 | []=>rfl
 | c::l=>by
  rw[Qat,Qat,Qcx,vn l]
  show 1+l.length=l.length+1
  omega
theorem dB (l:List Nat):bN l=(l.map fun c=>[c]).map fun l=>V.str (S l):=by unfold bN;rw[Qb2];rfl
theorem Bm (l:List Nat):(bN l).reverse=bN l.reverse:=by unfold bN;rw[Qda]
theorem cL (l:List Nat) (c:Nat):bN l++[V.str (S [c])]=bN (l++[c]):=by unfold bN;rw[Qaa];rfl
theorem take_snoc {α:Type} {l:List α} {i:Nat} {x:α} (h:l[i]? =some x):l.take i++[x]=l.take (i+1):=by rw[Qea,h];rfl
theorem Bn {ns:List Int} {i:Nat} (h:i<ns.length): ∃z,(ns.map V.int)[i]? =some (V.int z):=⟨ns[i],by rw[Qak,Mt h];rfl⟩
theorem cu {σ:L2.St} {H:Hp} {A B:Hp->Prop} (h:A H):Rx σ H fun b H3=>if b=true then A H3 else B H3:=by
 show (if true=true then A H else B H)
 rw[if_pos rfl]
 exact h
theorem zV (b:Bool) (z:Int): ∃y,jc [V.int 0,V.int z] (if b=true then 1 else 0)=some (V.int y):=by
 cases b
 ·exact ⟨0,rfl⟩
 ·exact ⟨z,rfl⟩
theorem gG {α:Type}: ∀{l:List α} {i:Nat} {x:α},l[i]? =some x->(x::l.eraseIdx i).Perm l
 | [],i,x,h=>by simp at h
 | a::l,0,x,h=>by
  have:a=x:=by simpa using h
  subst this
  exact Qdq _
 | a::l,i+1,x,h=>by
  have ih:=gG (l:=l) (i:=i) (x:=x) (by simpa using h)
  rw[Qdm]
  exact (List.Perm.swap a x _).trans (List.Perm.cons a ih)
theorem m6 (l:List Nat) (i:Nat):(bN l).eraseIdx i=bN (l.eraseIdx i):=by
 unfold bN
 induction l generalizing i with
 | nil=>rfl
 | cons a l ih=>
  cases i with
  | zero=>rfl
  | succ i=>rw[Qat,Qdm,ih,Qdm,Qat]
theorem zW {l:List Nat} {i:Nat} (h:i<l.length):(bN l)[i]? =some (V.str (S [l[i]])):=by unfold bN;rw[Qak,Mt h];rfl
theorem Jw (a b:List Nat):bN a++bN b=bN (a++b):=by unfold bN;rw[Qaa]
theorem Dh: ∀c∈aP,aC c∉aP:=by decide+kernel
theorem tH:aP.Nodup:=by decide+kernel
theorem Yd.perm {a b:List Nat} (h:Yd a) (p:a.Perm b):Yd b:=
 ⟨p.nodup_iff.mp h.nd,fun c hc=>h.lt c (p.mem_iff.mpr hc),fun c hc=>p.mem_iff.mp (h.cl c (p.mem_iff.mpr hc))⟩
structure MT (i:Nat) (L E:List Nat):Prop where
 yd:Yd E
 nd:L.Nodup
 sm: ∀c∈L,c∈aP
 ap: ∀c∈L,c∉E
 ll:L.length=26 - i
 el:E.length=2*i
theorem MT.start:MT 0 aP []:=⟨⟨Qd8,fun _ h=>absurd h Qag,fun _ h=>absurd h Qag⟩,tH,fun _ h=>h,fun _ _ h=>absurd h Qag,rfl,rfl⟩
theorem MT.turn {i r:Nat} {L E:List Nat} (w:MT i L E) (hi:i<26) (hr:r<L.length):MT (i+1) (L.eraseIdx r) (E++[L[r],aC L[r]]):=by
 have hp:=gG (l:=L) (Mt hr)
 have hm:L[r]∈L:=Qas hr
 have hs:=w.sm _ hm
 have hl:Lt L[r]:= .inl hs
 have TN:=hp.nodup_iff.mpr w.nd
 have sub: ∀c∈L.eraseIdx r,c∈L:=fun c hc=>hp.mem_iff.mp (Xn _ hc)
 have XM:=w.ap _ hm
 have Z3:aC L[r]∉E:=fun z=>XM (by have:=w.yd.cl _ z;rwa [aN hl]at this)
 refine ⟨⟨?_,fun c hc=>?_,fun c hc=>?_⟩,(Qaz.mp TN).2,fun c hc=>w.sm c (sub c hc),fun c hc hE=>?_,?_,?_⟩
 ·rw[Qbv]
  refine ⟨w.yd.nd,?_,fun a ha b hb z=>?_⟩
  ·rw[Qaz]
   refine ⟨fun z=>(eI hl) (Zt.mp z).symm,Qaz.mpr ⟨Qag,Qd8⟩⟩
  ·subst z
   rcases Zv.mp hb with z | z
   ·exact XM (z▸ha)
   ·exact Z3 (Zt.mp z▸ha)
 ·rcases Qaj.mp hc with z | z
  ·exact w.yd.lt c z
  ·rcases Zv.mp z with z | z
   ·rw[z];exact hl
   ·rw[Zt.mp z];exact hl.aC
 ·rcases Qaj.mp hc with z | z
  ·exact Qbx _ (w.yd.cl c z)
  ·refine Qav _ ?_
   rcases Zv.mp z with z | z
   ·rw[z];exact Xn _ (Zt.mpr rfl)
   ·rw[Zt.mp z,aN hl];exact Zu
 ·rcases Qaj.mp hE with z | z
  ·exact w.ap c (sub c hc) z
  ·rcases Zv.mp z with z | z
   ·exact (Qaz.mp TN).1 (z▸hc)
   ·have e:c=aC L[r]:=Zt.mp z
    exact Dh _ hs (e▸w.sm c (sub c hc))
 ·have:=hp.length_eq
  rw[Qay,w.ll]at this
  omega
 ·rw[Oy,w.el]
  show 2*i+2=_
  omega
theorem aR.dc {b p:Addr} {H H':Hp} {o:HO} (h:aR b H H') (n:H p=none):aR b H (L2.upd H' p o):=fun c u e z=>by rw[aD (aE e n)];exact h c u e z
theorem bH.dc {b p:Addr} {H:Hp} {o:HO} (h:bH H b) (n:p≠b):bH (L2.upd H p o) b:=let ⟨x,y,e⟩:=h;⟨x,y,by rw[aD (Ne.symm n)];exact e⟩
theorem aR.none {b p:Addr} {H H':Hp} (h:aR b H H') (n:H' p=none) (z:p≠b):H p=none:=by
 cases q:H p with
 | none=>rfl
 | some o=>rw[h p o q z]at n;cases n
theorem bH.ne {b p:Addr} {H:Hp} (h:bH H b) (n:H p=none):p≠b:=fun z=>by obtain ⟨x,y,e⟩:=h;rw[<-z,n]at e;cases e
theorem gw {c:Bool} {A B:Prop} (h:c=false) (hB:B):if c=true then A else B:=by rw[h];exact xk hB
theorem ir {c:Bool} {A B:Prop} (h:c=true) (hA:A):if c=true then A else B:=by rw[h];exact Rv hA
theorem cR (l:List Nat):(iq l).length=l.length:=by unfold iq;rw[Qa6,Xl]
theorem Jx {l:List Nat} (h: ∀c∈l,Lt c):iq (iq l)=l:=by
 unfold iq
 rw[Qda,List.reverse_reverse,Qb2]
 have: ∀c∈l,(aC ∘ aC) c=c:=fun c hc=>aN (h c hc)
 calc l.map (aC ∘ aC)=l.map id:=Qdf this
  _=l:=Qfr l
theorem Le {l:List Nat} (h: ∀c∈l,Lt c): ∀c∈l,c<128:=fun c hc=>(h c hc).lt
theorem jx (a:List Nat):a.take (bN a).length=a:=by rw[aY];exact Qar (Tz _)
theorem Jy (n:Nat):(List.replicate n true).all id=true:=by rw[Qb9];intro b hb;rw[List.eq_of_mem_replicate hb];rfl
theorem Ft (n:Nat):(List.replicate n true).map V.bl++[V.bl true]=(List.replicate (n+1) true).map V.bl:=by rw[List.replicate_succ',Qaa];rfl
theorem aR.after {p:Addr} {H H1 H2:Hp} (s:aR p H H1) (t:ar H1 H2):aR p H H2:=fun c o e z=>t c o (s c o e z)
noncomputable def cy (ws:List (List Nat)):List V:=ws.map fun l=>V.str (S l)
theorem bj (ws:List (List Nat)):(cy ws).length=ws.length:=by unfold cy;rw[Xl]
theorem gH (ws:List (List Nat)) (l:List Nat):cy ws++[V.str (S l)]=cy (ws++[l]):=by unfold cy;rw[Qaa];rfl
theorem gj {ws:List (List Nat)} {i:Nat} (h:i<ws.length):(cy ws)[i]? =some (V.str (S ws[i])):=by unfold cy;rw[Qak,Mt h];rfl
theorem i5 {s:TS} {D:Ends} {σ:L2.St} {H:Hp} (h: ∀D':Ends,(∀σ' H',D.nx σ' H'->D'.nx σ' H')->s D' σ H):s D σ H:=h D fun _ _ z=>z
theorem Fu {s:TS} {D:Ends} {σ:L2.St} {H:Hp} (h: ∀D':Ends,(∀σ' H',D.nx σ' H'->D'.nx σ' H')->(∀v H',D.rt v H'->D'.rt v H')->s D' σ H):s D σ H:=h D (fun _ _ z=>z) fun _ _ z=>z
theorem Jz {n k:Nat} (h:n<=k) (hk:k<=1000):n<=sizeLine:=by
 have:(100000:Nat)<sizeLine:=by decide
 omega
theorem XN {n k:Nat} (h:n<=k) (hk:k<=1000):(1:Int)<=(n:Int)+1/\(n:Int)+1<1000000:=by omega
theorem Z4 {n k:Nat} (h:n<=k) (hk:k<=1000) (h1:1<=n):(1:Int)<=(n:Int)/\(n:Int)<1000000:=by omega
theorem MU (z:List Nat) (k:Nat):(z.drop k++z.take k).length=z.length:=by rw[Oy,Qa2,Qae];omega
theorem Z5 {n r:Nat} (h:n=4+2*r) (hr:r<3):4<=n/\n<=8/\1<=n:=by omega
theorem V9 {z l:List Nat} {c d j i r:Nat} (p:z.Perm ([c,d].take j++l)) (h:l.length=4+2*i) (hi:i<r) (hr:r<3):z.length<=20:=by
 have:=p.length_eq
 rw[Oy,Qae]at this
 have h2:[c,d].length=2:=rfl
 omega
noncomputable def dS (st:List Nat) (c:Nat):List Nat:=if st.getLast? =some (aC c) then st.dropLast else st++[c]
noncomputable def red (l:List Nat):List Nat:=l.foldl dS []
def j9:List Nat->Prop
 | []=>True
 | [_]=>True
 | a::b::r=>a≠aC b/\j9 (b::r)
theorem j9.tail: ∀{a:Nat} {r:List Nat},j9 (a::r)->j9 r
 | _,[],_=>trivial
 | _,_::_,h=>h.2
theorem j9.snoc: ∀{l:List Nat} {c:Nat},j9 l->l.getLast?≠ some (aC c)->j9 (l++[c])
 | [],_,_,_=>trivial
 | [a],c,_,h=>⟨fun z=>h (by rw[z];rfl),trivial⟩
 | a::b::r,c,h,k=>⟨h.1,j9.snoc (l:=b::r) h.2 (by simpa using k)⟩
theorem j9.init: ∀{l:List Nat} {c:Nat},j9 (l++[c])->j9 l/\l.getLast?≠ some (aC c)
 | [],_,_=>⟨trivial,by simp⟩
 | [a],c,h=>⟨trivial,fun z=>h.1 (by simpa using z)⟩
 | a::b::r,c,h=>by
  have ih:=j9.init (l:=b::r) (c:=c) h.2
  exact ⟨⟨h.1,ih.1⟩,by simpa using ih.2⟩
theorem snoc_cases (l:List Nat):l=[]\/ ∃m a,l=m++[a]:=by
 by_cases h:l=[]
 ·exact .inl h
 ·exact .inr ⟨l.dropLast,l.getLast h,(List.dropLast_concat_getLast h).symm⟩
theorem j9.left: ∀{m l:List Nat},j9 (m++l)->j9 m
 | [],_,_=>trivial
 | [_],_,_=>trivial
 | a::b::r,l,h=>⟨h.1,j9.left (m:=b::r) (l:=l) h.2⟩
theorem Di {l:List Nat} {c:Nat} (h:l.getLast? =some c): ∃m,l=m++[c]:=by
 rcases snoc_cases l with rfl | ⟨m,a,rfl⟩
 ·simp at h
 ·refine ⟨m,?_⟩
  have:a=c:=by simpa using h
  rw[this]
theorem Dj {st:List Nat} {c:Nat} (h:j9 st):j9 (dS st c):=by
 unfold dS
 by_cases e:st.getLast? =some (aC c)
 ·rw[if_pos e]
  obtain ⟨m,rfl⟩:=Di e
  rw[Qc6]
  exact h.init.1
 ·rw[if_neg e]
  exact h.snoc e
theorem tI {st:List Nat} {c d:Nat} (h:d∈dS st c):d∈st\/d=c:=by
 unfold dS at h
 by_cases e:st.getLast? =some (aC c)
 ·rw[if_pos e]at h
  exact .inl (List.dropLast_subset _ h)
 ·rw[if_neg e]at h
  rcases Qaj.mp h with z | z
  ·exact .inl z
  ·exact .inr (Zt.mp z)
theorem xR: ∀(l st:List Nat),j9 st->j9 (l.foldl dS st)
 | [],_,h=>h
 | _::l,_,h=>xR l _ (Dj h)
theorem Bo (l:List Nat):j9 (red l):=xR l [] trivial
theorem fold_same: ∀(l st:List Nat),j9 (st++l)->l.foldl dS st=st++l
 | [],st,_=>by simp
 | c::l,st,h=>by
  have h':j9 ((st++[c])++l):=by rw[Qbw];exact h
  have h2:=(j9.left h').init.2
  rw[Qd2]
  have:dS st c=st++[c]:=by unfold dS;rw[if_neg h2]
  rw[this,fold_same l (st++[c]) h',Qbw]
  rfl
theorem Fv {l:List Nat} (h:j9 l):red l=l:=by
 exact fold_same l [] h
theorem fold_lt: ∀(l st:List Nat),(∀c∈l,Lt c)->(∀c∈st,Lt c)-> ∀c∈l.foldl dS st,Lt c
 | [],_,_,h=>h
 | a::l,st,h1,h2=>fold_lt l _ (fun c hc=>h1 c (Xn _ hc)) fun c hc=>(tI hc).elim (h2 c) fun z=>z▸h1 a Zu
theorem Fx {l:List Nat} (h: ∀c∈l,Lt c): ∀c∈red l,Lt c:=fold_lt l [] h fun _ h=>absurd h Qag
theorem Dk (st:List Nat) (c:Nat):(dS st c).length<=st.length+1:=by
 unfold dS
 by_cases e:st.getLast? =some (aC c)
 ·rw[if_pos e,List.length_dropLast];omega
 ·rw[if_neg e,Oy];exact Tz _
theorem xS: ∀(l st:List Nat),(l.foldl dS st).length<=st.length+l.length
 | [],_=>Tz _
 | c::l,st=>by
  have:=xS l (dS st c)
  have h2:=Dk st c
  rw[Qd2,Qay]
  omega
theorem gx (l:List Nat):(red l).length<=l.length:=by
 have:=xS l []
 rw[List.length_nil,Qeo]at this
 exact this
theorem xT {l:List Nat} {i c:Nat} (h:l[i]? =some c):red (l.take (i+1))=dS (red (l.take i)) c:=by
 unfold red
 rw[<-take_snoc h,List.foldl_append]
 rfl
theorem Fy: ∀{l:List Nat},(∀k a b,l[k]? =some a->l[k+1]? =some b->a≠aC b)->j9 l
 | [],_=>trivial
 | [_],_=>trivial
 | a::b::r,h=>⟨h 0 a b rfl rfl,Fy (l:=b::r) fun k x y h1 h2=>h (k+1) x y (by simpa using h1) (by simpa using h2)⟩
noncomputable def Ej (l:List Nat) (s e:Nat):List Nat:=(l.drop s).take (e - s)
noncomputable def strip:Nat->List Nat->List Nat
 | 0,l=>l
 | n+1,l=>match l with
  | []=>[]
  | [a]=>[a]
  | a::b::r=>if a=aC ((b::r).getLast (by simp)) then strip n (b::r).dropLast else a::b::r
theorem fW: ∀(n:Nat) {l:List Nat},l.length<2->strip n l=l
 | 0,_,_=>rfl
 | _+1,[],_=>rfl
 | _+1,[_],_=>rfl
 | _+1,_::_::_,h=>by simp at h;omega
theorem lX (l:List Nat) (y:Nat):(l++[y]).getLast (by simp)=y:=by simp
theorem strip_go (n:Nat) {a y:Nat} {m:List Nat} (h:a=aC y):strip (n+1) (a::(m++[y]))=strip n m:=by
 cases m with
 | nil=>
  show (if a=aC (([y]:List Nat).getLast (by simp)) then strip n ([y]:List Nat).dropLast else _)=strip n []
  rw[if_pos (by simpa using h)]
  rfl
 | cons b r=>
  show (if a=aC ((b::(r++[y])).getLast (by simp)) then strip n (b::(r++[y])).dropLast else _)=strip n (b::r)
  have e1:(b::(r++[y])).getLast (by simp)=y:=lX (b::r) y
  have e2:(b::(r++[y])).dropLast=b::r:=by
   have:b::(r++[y])=(b::r)++[y]:=rfl
   rw[this,Qc6]
  rw[if_pos (by rw[e1];exact h),e2]
theorem strip_stop (n:Nat) {a y:Nat} {m:List Nat} (h:a≠aC y):strip n (a::(m++[y]))=a::(m++[y]):=by
 cases n with
 | zero=>rfl
 | succ n=>
  cases m with
  | nil=>
   show (if a=aC (([y]:List Nat).getLast (by simp)) then _ else _)=_
   rw[if_neg (by simpa using h)]
   rfl
  | cons b r=>
   show (if a=aC ((b::(r++[y])).getLast (by simp)) then _ else _)=_
   have e1:(b::(r++[y])).getLast (by simp)=y:=lX (b::r) y
   rw[if_neg (by rw[e1];exact h)]
   rfl
theorem Bp {l:List Nat} (h:2<=l.length): ∃a m y,l=a::(m++[y]):=by
 cases l with
 | nil=>simp at h
 | cons a r=>
  rcases snoc_cases r with rfl | ⟨m,y,rfl⟩
  ·simp at h
  ·exact ⟨a,m,y,rfl⟩
theorem qk: ∀(n:Nat) (l:List Nat) (k:Nat),l.length<=n->strip (n+k) l=strip n l
 | 0,l,k,h=>by rw[fW _ (by omega),fW _ (by omega)]
 | n+1,l,k,h=>by
  by_cases h2:l.length<2
  ·rw[fW _ h2,fW _ h2]
  ·obtain ⟨a,m,y,rfl⟩:=Bp (l:=l) (by omega)
   have hm:m.length<=n:=by simp at h;omega
   by_cases e:a=aC y
   ·have:n+1+k=(n+k)+1:=by omega
    rw[this,strip_go _ e,strip_go _ e,qk n m k hm]
   ·rw[strip_stop _ e,strip_stop _ e]
noncomputable def core (l:List Nat):List Nat:=strip l.length l
theorem o_ {a y:Nat} {m:List Nat} (h:a=aC y):core (a::(m++[y]))=core m:=by
 unfold core
 have:(a::(m++[y])).length=(m.length+1)+1:=by simp
 rw[this,strip_go _ h,qk _ _ _ (Tz _)]
theorem iu {a y:Nat} {m:List Nat} (h:a≠aC y):core (a::(m++[y]))=a::(m++[y]):=strip_stop _ h
theorem fG {l:List Nat} (h:l.length<2):core l=l:=fW _ h
theorem jy {P:List Nat->List Nat->Prop} (h1: ∀l,l.length<2->P l l) (h2: ∀a m y,a≠aC y->P (a::(m++[y])) (a::(m++[y]))) (h3: ∀a m y r,a=aC y->P m r->P (a::(m++[y])) r): ∀(n:Nat) (l:List Nat),l.length<=n->P l (core l)
 | 0,l,h=>by rw[fG (by omega)];exact h1 l (by omega)
 | n+1,l,h=>by
  by_cases hl:l.length<2
  ·rw[fG hl];exact h1 l hl
  ·obtain ⟨a,m,y,rfl⟩:=Bp (l:=l) (by omega)
   by_cases e:a=aC y
   ·rw[o_ e]
    exact h3 a m y _ e (jy h1 h2 h3 n m (by simp at h;omega))
   ·rw[iu e];exact h2 a m y e
theorem Dm (l:List Nat):core (core l)=core l:=
 jy (P:=fun _ r=>core r=r) (fun l h=>fG h) (fun a m y h=>iu h) (fun _ _ _ _ _ h=>h) l.length l (Tz _)
theorem Fz {l:List Nat} (h:j9 l):j9 (core l):=
 jy (P:=fun l r=>j9 l->j9 r) (fun _ _ h=>h) (fun _ _ _ _ h=>h) (fun a m y r _ k h=>k (by
  have h':j9 (a::m++[y]):=h
  exact h'.init.1.tail)) l.length l (Tz _) h
theorem ql {l:List Nat} {c:Nat}:c∈core l->c∈l:=
 jy (P:=fun l r=>c∈r->c∈l) (fun _ _ h=>h) (fun _ _ _ _ h=>h) (fun a m y r _ k h=>Xn _ (Qbx _ (k h))) l.length l (Tz _)
theorem jz (l:List Nat):(core l).length<=l.length:=
 jy (P:=fun l r=>r.length<=l.length) (fun _ _=>Tz _) (fun _ _ _ _=>Tz _) (fun a m y r _ k=>by simp;omega) l.length l (Tz _)
theorem MV {l:List Nat} {s e:Nat} (h1:s+2<=e) (h2:e<=l.length):Ej l s e=l[s]::(Ej l (s+1) (e - 1)++[l[e - 1]]):=by
 unfold Ej
 rw[Qbj (by omega)]
 have e1:e - s=(e - 1 - (s+1))+1+1:=by omega
 rw[e1,List.take_succ_cons,Qea,Qc1]
 have e2:s+1+(e - 1 - (s+1))=e - 1:=by omega
 rw[e2,Mt (by omega)]
 rfl
theorem JA {l:List Nat} {s e:Nat} (h2:e<=l.length):(Ej l s e).length=e - s:=by unfold Ej;rw[Qae,Qa2];omega
theorem JB (l:List Nat):Ej l 0 l.length=l:=by unfold Ej;simp
def lY (_:PySem.W.Frag):Sp:=fun vs H Q _=> ∃l:List Nat,vs=[.str (S l)]/\(∀c∈l,Lt c)/\l.length<=1000/\ ∀H',ar H H'->Q (.str (S (red l))) H'
theorem rR {K:PySem.W.Frag} {vs:List V} {H:Hp} {Q:VK} {E:XK} (h:lY K vs H Q E):vs.length=1:=by obtain ⟨c,rfl,_⟩:=h;rfl
def oe (_:PySem.W.Frag):Sp:=fun vs H Q _=> ∃l:List Nat,vs=[.str (S l)]/\(∀c∈l,Lt c)/\l.length<=1000/\ ∀H',ar H H'->Q (.str (S (core (red l)))) H'
theorem vp {K:PySem.W.Frag} {vs:List V} {H:Hp} {Q:VK} {E:XK} (h:oe K vs H Q E):vs.length=1:=by obtain ⟨c,rfl,_⟩:=h;rfl
theorem cG {α:Type} (l:List α) (k:Nat):cut l none (some (k:Int))=l.take k:=by
 unfold cut
 rw[HT.jr,HT.gs,List.drop_zero,Nat.sub_zero]
 by_cases h:k<=l.length
 ·rw[Qbz h]
 ·rw[Qb1 (by omega),Qar (Tz _),Qar (by omega)]
theorem cM {α:Type} (l:List α) (k:Nat):cut l (some (k:Int)) none=l.drop k:=by
 unfold cut
 rw[HT.jr,HT.gs]
 by_cases h:k<=l.length
 ·rw[Qbz h,Qar (by rw[Qa2];exact Tz _)]
 ·rw[Qb1 (by omega),Qcm (Tz _),Qcm (by omega)]
  simp
noncomputable def yT (ks:List Nat):List V:=ks.map fun (k:Nat)=>V.int k
noncomputable def ids (ks:List Nat):List PyData:=ks.map fun (k:Nat)=>PyData.int k
theorem m7 {K:PySem.W.Frag} {H:Hp}: ∀ks:List Nat,mX K H (yT ks) (ids ks)
 | []=> .nil
 | k::ks=> .cons (.int _) (m7 ks)
theorem qm: ∀ks:List Nat,PyData.depthAll (ids ks)=0
 | []=>rfl
 | k::ks=>by show max (PyData.depth (.int _)) (PyData.depthAll (ids ks))=0;rw[qm ks];rfl
noncomputable def JC (ws:List (List Nat)):List PyData:=ws.map fun l=>PyData.str (S l)
theorem qp {K:PySem.W.Frag} {H:Hp}: ∀ws:List (List Nat),mX K H (cy ws) (JC ws)
 | []=> .nil
 | w::ws=> .cons (.str _) (qp ws)
theorem MW {l:List Nat} (h: ∀c∈l,c<128):PyData.strOk (S l)=true:=by
 unfold PyData.strOk
 rw[Array.all_eq_true_iff_forall_mem]
 intro c hc
 have:c∈l:=by simpa [S]using hc
 have:=h c this
 simp;omega
theorem vq: ∀{ws:List (List Nat)},(∀l∈ws, ∀c∈l,c<128)->PyData.canLayAll0 (JC ws)=true
 | [],_=>rfl
 | w::ws,h=>by
  show (PyData.strOk (S w)&&PyData.canLayAll0 (JC ws))=true
  rw[MW (h w Zu),vq fun l hl=>h l (Xn _ hl)]
  rfl
theorem m8: ∀ws:List (List Nat),PyData.depthAll (JC ws)=0
 | []=>rfl
 | k::ks=>by show max (PyData.depth (.str _)) (PyData.depthAll (JC ks))=0;rw[m8 ks];rfl
theorem JD (a y:Nat) (m:List Nat):cut (a::(m++[y])) (some 1) (some (((a::(m++[y])).length:Int) - 1))=m:=by
 have hl:(a::(m++[y])).length=m.length+2:=by simp
 have e:(((a::(m++[y])).length:Int) - 1)=((m.length+1:Nat):Int):=by rw[hl];omega
 rw[e]
 unfold cut
 have e1:HT.jq (a::(m++[y])).length 0 (some 1)=1:=by
  have:=HT.gs (a::(m++[y])).length 0 1
  rw[hl]at this ⊢
  rw[show ((1:Nat):Int)=1 from rfl]at this
  rw[this];omega
 rw[e1,HT.gs,hl]
 have e2:min (m.length+1) (m.length+2) - 1=m.length:=by omega
 rw[e2]
 show (m++[y]).take m.length=m
 simp
noncomputable def g9 (c:List Nat) (k:Nat):List Nat:=c.drop k++c.take k
noncomputable def lZ (c:List Nat) (n:Nat):List (List Nat):=(List.range n).map fun k=>g9 c (k+1)
noncomputable def gn (c:List Nat):List Nat:=cK c (lZ c (c.length - 1))
@[irreducible] noncomputable def eM (w:List Nat):List Nat:=gn (core (red w))
theorem tJ (c:List Nat) (n:Nat):lZ c (n+1)=lZ c n++[g9 c (n+1)]:=by unfold lZ;rw[Qbo,Qaa];rfl
theorem iO: ∀(r:List (List Nat)) (a b:List Nat),cK a (r++[b])=dF (cK a r) b
 | [],_,_=>rfl
 | _::r,_,_=>iO r _ _
theorem de (c:List Nat) (k:Nat):(g9 c k).length=c.length:=by unfold g9;rw[Oy,Qa2,Qae];omega
theorem kX: ∀(r:List (List Nat)) (a:List Nat),cK a r=a\/cK a r∈r
 | [],a=> .inl rfl
 | b::r,a=>by
  rcases kX r (dF a b) with h | h
  ·have hl:dF a b=a\/dF a b=b:=by unfold dF;split<;>simp
   rcases hl with e | e
   ·left;show cK (dF a b) r=a;rw[h,e]
   ·right;show cK (dF a b) r∈b::r;rw[h,e];exact Zu
  ·right;exact Xn _ h
theorem tK (c:List Nat): ∃k,gn c=g9 c k:=by
 rcases kX (lZ c (c.length - 1)) c with h | h
 ·exact ⟨0,by show cK _ _=_;rw[h];unfold g9;simp⟩
 ·unfold lZ at h
  obtain ⟨k,_,e⟩:=Qau.mp h
  exact ⟨k+1,e.symm⟩
theorem Dp (w:List Nat):(eM w).length<=w.length:=by
 obtain ⟨k,e⟩:=tK (core (red w))
 unfold eM
 rw[e,de]
 exact Qao (jz _) (gx w)
def Bq (_:PySem.W.Frag):Sp:=fun vs H Q _=> ∃l:List Nat,vs=[.str (S l)]/\(∀c∈l,Lt c)/\l.length<=1000/\ ∀H',ar H H'->Q (.str (S (eM l))) H'
theorem FA {K:PySem.W.Frag} {vs:List V} {H:Hp} {Q:VK} {E:XK} (h:Bq K vs H Q E):vs.length=1:=by obtain ⟨c,rfl,_⟩:=h;rfl
theorem zX (n d:Nat):HT.jq n d (some (-1))=n - 1:=by
 have e:HT.jq n d (some (-1))=(if (-1:Int)<0 then ((-1:Int)+(n:Int)).toNat else min (-1:Int).toNat n):=rfl
 rw[e,if_pos (by decide)]
 omega
theorem FC {α:Type} (m:List α) (a:α):cut (m++[a]) none (some (-1))=m:=by
 have hl:(m++[a]).length=m.length+1:=by simp
 unfold cut
 rw[HT.jr,zX,hl]
 simp
theorem FD (a y:Nat) (m:List Nat):cut (a::(m++[y])) (some 1) (some (-1))=m:=by
 have h:=JD a y m
 have hl:(a::(m++[y])).length=m.length+2:=by simp
 have e1:(((a::(m++[y])).length:Int) - 1)=((m.length+1:Nat):Int):=by rw[hl];omega
 unfold cut at h ⊢
 rw[e1,HT.gs]at h
 rw[zX]
 have e2:min (m.length+1) (a::(m++[y])).length=(a::(m++[y])).length - 1:=by rw[hl];omega
 rw[e2]at h
 exact h
theorem MX {α:Type} (l:List α):cut l (some (-2)) none=l.drop (l.length - 2):=by
 have e: ∀d,HT.jq l.length d (some (-2))=(if (-2:Int)<0 then ((-2:Int)+(l.length:Int)).toNat else min (-2:Int).toNat l.length):=fun _=>rfl
 have e2: ∀d,HT.jq l.length d (some (-2))=l.length - 2:=fun d=>by rw[e,if_pos (by decide)];omega
 unfold cut
 rw[HT.jr,e2]
 exact Qar (by rw[Qa2];exact Tz _)
def AllLt (l:List Nat):Prop:= ∀c∈l,Lt c
theorem qq (a b:List Nat): ¬a<dF a b:=by
 unfold dF
 split
 ·rename_i h;exact fun g=>Qdn a (List.lt_trans g h)
 ·exact Qdn a
theorem oK (a b:List Nat): ¬b<dF a b:=by
 unfold dF
 split
 ·exact Qdn b
 ·rename_i h;exact h
theorem Lf {a b c:List Nat} (h: ¬b<a) (g: ¬c<b): ¬c<a:=List.le_trans (show a<=b from h) (show b<=c from g)
theorem kY: ∀(r:List (List Nat)) (a:List Nat), ∀x∈a::r, ¬x<cK a r
 | [],a,x,hx=>by rw[Zt.mp hx];exact Qdn a
 | b::r,a,x,hx=>by
  show ¬x<cK (dF a b) r
  have h0:=kY r (dF a b) (dF a b) Zu
  rcases Zv.mp hx with e | hx
  ·rw[e];exact Lf h0 (qq a b)
  ·rcases Zv.mp hx with e | hx
   ·rw[e];exact Lf h0 (oK a b)
   ·exact kY r (dF a b) x (Xn _ hx)
theorem xU (c:List Nat):g9 c 0=c:=by unfold g9;simp
theorem JE (c:List Nat):g9 c c.length=c:=by unfold g9;simp
theorem l_ (u:List Nat): ∀(m i:Nat),i<m*u.length->(eG m u)[i]? =u[i%u.length]?
 | 0,i,h=>by simp at h
 | m+1,i,h=>by
  rw[fF,List.getElem?_append]
  by_cases z:i<u.length
  ·rw[if_pos z,Qb0 z]
  ·rw[if_neg z,l_ u m (i - u.length) (by rw[Qcy]at h;omega), <-Qfb (by omega)]
def iw (w:List Nat) (s:Nat):Prop:=eG (w.length / s) (w.take s)=w
def gI (w:List Nat) (k:Nat):Prop:=g9 w k=w
noncomputable instance (w:List Nat) (s:Nat):Decidable (iw w s):=by unfold iw;infer_instance
noncomputable instance (w:List Nat) (s:Nat):Decidable (gI w s):=by unfold gI;infer_instance
def b_ (w:List Nat) (s:Nat):Prop:=(w=[]/\s=0)\/(1<=s/\s<=w.length/\iw w s/\ ∀j,1<=j->j<s-> ¬iw w j)
def jA (w:List Nat) (s:Nat):Prop:=(w=[]/\s=0)\/(1<=s/\s<=w.length/\gI w s/\ ∀j,1<=j->j<s-> ¬gI w j)
theorem vv {w:List Nat} {s:Nat} (h1:1<=s) (h2:s<=w.length) (h:iw w s):gI w s:=by
 unfold iw at h
 have hm:1<=w.length / s:=Nat.div_pos h2 h1
 obtain ⟨m,e⟩: ∃m,w.length / s=m+1:=⟨w.length / s - 1,by omega⟩
 rw[e]at h
 have hu:(w.take s).length=s:=by rw[Qae];omega
 generalize w.take s=u at h hu
 unfold gI g9
 rw[<-h,fF,List.drop_left' hu,List.take_left' hu, <-zK,fF]
noncomputable def Fw (w:List Nat) (i:Nat):Option Nat:=w[i%w.length]?
theorem ph {w:List Nat} {k i:Nat} (hk:k<=w.length) (hi:i<w.length):(g9 w k)[i]? =Fw w (i+k):=by
 unfold g9 Fw
 rw[List.getElem?_append,Qa2]
 by_cases z:i<w.length - k
 ·rw[if_pos z,Qc1,Qb0 (by omega),Qfe]
 ·rw[if_neg z,Qdj,if_pos (by omega),Qfb (by omega),Qb0 (by omega)]
  congr 1
  omega
def yU (w:List Nat) (k:Nat):Prop:= ∀i,Fw w (i+k)=Fw w i
theorem FE (w:List Nat) (i k:Nat):Fw w (i%w.length+k)=Fw w (i+k):=by unfold Fw;rw[Nat.mod_add_mod]
theorem gX {w:List Nat} {k:Nat} (hn:w≠[]) (hk:k<=w.length):gI w k↔yU w k:=by
 have hl:0<w.length:=Zs.mpr hn
 constructor
 ·intro h i
  have hi:=Qcz i hl
  rw[<-FE, <-ph hk hi,h]
  rfl
 ·intro h
  refine Qfh fun i=>?_
  by_cases hi:i<w.length
  ·rw[ph hk hi,h i]
   unfold Fw
   rw[Qb0 hi]
  ·have hr:(g9 w k).length=w.length:=de w k
   rw[Qct (by omega),Qct (by omega)]
theorem yU.mul {w:List Nat} {k:Nat} (h:yU w k): ∀j i,Fw w (i+k*j)=Fw w i
 | 0,i=>rfl
 | j+1,i=>by rw[Nat.mul_succ, <-Nat.add_assoc,h,yU.mul h j]
theorem yU.whole (w:List Nat):yU w w.length:=fun i=>by unfold Fw;rw[Nat.add_mod_right]
theorem yU.rest {w:List Nat} {k:Nat} (h:yU w k):yU w (w.length%k):=fun i=>by
 rw[<-h.mul (w.length / k) (i+w.length%k),Nat.add_assoc,Qeu]
 exact yU.whole w i
theorem tL {w:List Nat} {k:Nat} (hn:w≠[]) (h1:1<=k) (h2:k<=w.length) (h:gI w k) (hl: ∀j,1<=j->j<k-> ¬gI w j):iw w k:=by
 have hp:=(gX hn h2).mp h
 have hr:w.length%k=0:=by
  by_cases z:w.length%k=0
  ·exact z
  ·have cZ:=Qcz w.length (show k>0 by omega)
   exact absurd ((gX hn (by omega)).mpr hp.rest) (hl _ (by omega) cZ)
 have hm:w.length / k*k=w.length:=by
  have:=Qeu w.length k
  rw[hr,Qeo,Qbu]at this
  exact this
 have hu:(w.take k).length=k:=by rw[Qae];omega
 unfold iw
 refine Qfh fun i=>?_
 by_cases hi:i<w.length
 ·rw[l_ _ _ _ (by rw[hu,hm];exact hi),hu,Qdj]
  have Z6:=Qcz i (show k>0 by omega)
  rw[if_pos Z6]
  have e:=hp.mul (i / k) (i%k)
  rw[Qeu]at e
  unfold Fw at e
  rw[Qb0 hi,Qb0 (by omega)]at e
  exact e.symm
 ·rw[Qct (by rw[xp,hu,hm];omega),Qct (by omega)]
theorem iA {w:List Nat} {s k:Nat} (h:b_ w s) (g:jA w k):s=k:=by
 rcases h with ⟨e,e2⟩ | ⟨h1,h2,h3,h4⟩
 ·rcases g with ⟨_,g2⟩ | ⟨g1,g2,_,_⟩
  ·rw[e2,g2]
  ·rw[e]at g2;simp at g2;omega
 ·rcases g with ⟨e,_⟩ | ⟨g1,g2,g3,g4⟩
  ·rw[e]at h2;simp at h2;omega
  ·have hn:w≠[]:=fun z=>by rw[z]at h2;simp at h2;omega
   by_cases z:s<k
   ·exact absurd (vv h1 h2 h3) (g4 s h1 z)
   ·by_cases z2:k<s
    ·exact absurd (tL hn g1 g2 g3 g4) (h4 k g1 z2)
    ·omega
theorem Dq (w:List Nat) (h:w≠[]):iw w w.length:=by
 have hl:0<w.length:=Zs.mpr h
 unfold iw
 rw[Nat.div_self hl,Qar (Tz _)]
 show eG (0+1) w=w
 rw[fF]
 simp[eG]
theorem Dr (w:List Nat):gI w w.length:=by
 unfold gI g9
 rw[Qcm (Tz _),Qar (Tz _)]
 rfl
noncomputable def JF (c:List Nat) (n:Nat):List Nat:=((List.range n).map (· +1)).filter fun k=>decide (gI c k)
theorem vw {c:List Nat} {n k:Nat}:k∈JF c n↔(1<=k/\k<=n)/\gI c k:=by
 unfold JF
 rw[Qa0,Qau]
 constructor
 ·rintro ⟨⟨j,hj,rfl⟩,h⟩
  have:=Qbl.mp hj
  exact ⟨by omega,of_decide_eq_true h⟩
 ·rintro ⟨h1,h2⟩
  exact ⟨⟨k - 1,Qbl.mpr (by omega),by omega⟩,decide_eq_true h2⟩
theorem zY (c:List Nat) (n:Nat):(JF c n).Pairwise (· < ·):=by
 unfold JF
 refine List.Pairwise.filter _ ?_
 rw[Qb3]
 exact (List.pairwise_lt_range (n:=n)).imp fun h=>Nat.succ_lt_succ h
theorem qr {c:List Nat} (h:c≠[]): ∃k r,JF c c.length=k::r/\jA c k:=by
 have hl:0<c.length:=Zs.mpr h
 have hm:c.length∈JF c c.length:=vw.mpr ⟨by omega,Dr c⟩
 rcases e:JF c c.length with _ | ⟨k,r⟩
 ·rw[e]at hm;exact absurd hm Qag
 ·refine ⟨k,r,rfl, .inr ?_⟩
  have hk:k∈JF c c.length:=by rw[e];exact Zu
  obtain ⟨⟨h1,h2⟩,h3⟩:=vw.mp hk
  refine ⟨h1,h2,h3,fun j j1 j2 z=>?_⟩
  have hj:j∈JF c c.length:=vw.mpr ⟨by omega,z⟩
  have hs:=zY c c.length
  rw[e]at hj hs
  rcases Zv.mp hj with w | w
  ·omega
  ·have:=List.rel_of_pairwise_cons hs w
   omega
noncomputable def Lg (w:List Nat) (s:Nat):List V:=[.str (S (w.take s)), .int ((w.length / s:Nat):Int)]
def Br (_:PySem.W.Frag):Sp:=fun vs H Q _=> ∃l:List Nat,vs=[.str (S l)]/\(∀c∈l,Lt c)/\l.length<=1000/\ ∀p s H',H p=none->H' p=some (.tup (Lg (eM l) s))->b_ (eM l) s->ar H H'->Q (.ref p) H'
theorem FF {K:PySem.W.Frag} {vs:List V} {H:Hp} {Q:VK} {E:XK} (h:Br K vs H Q E):vs.length=1:=by obtain ⟨c,rfl,_⟩:=h;rfl
theorem bJ: ∀c∈aP,aJ c=true/\PyProof.Rows.lo1 c=c/\aC c∈kW:=by decide+kernel
theorem cb: ∀c∈kW,aJ c=false/\PyProof.Rows.lo1 c=aC c/\c∉aP/\aC c∈aP:=by decide+kernel
theorem tM: ∀c∈kW,c∉aP:=by decide+kernel
theorem j_ {c:Nat} (h:Lt c):aJ c=decide (c∈aP):=by
 rcases h with h | h
 ·rw[(bJ c h).1,decide_eq_true h]
 ·rw[(cb c h).1,decide_eq_false (cb c h).2.2.1]
noncomputable def gr (y:List Nat) (a b c:Nat):Bool:=decide ((((y.idxOf b:Nat):Int) - ((y.idxOf a:Nat):Int))%(y.length:Int)<(((y.idxOf c:Nat):Int) - ((y.idxOf a:Nat):Int))%(y.length:Int))
def ka (i j k:Nat):Prop:=(i<j/\j<k)\/(j<k/\k<i)\/(k<i/\i<j)
noncomputable instance (i j k:Nat):Decidable (ka i j k):=by unfold ka;infer_instance
theorem jB {i j n:Nat} (hi:i<n) (hj:j<n):((j:Int) - (i:Int))%(n:Int)=if i<=j then (j:Int) - i else (j:Int) - i+n:=by
 split
 ·exact Qax (by omega) (by omega)
 ·rw[<-Qdl]
  exact Qax (by omega) (by omega)
theorem gk {y:List Nat} {a b c:Nat} (hn:y.Nodup) (ha:a∈y) (hb:b∈y) (hc:c∈y) (yV:a≠b) (Lh:a≠c) (Li:b≠c):gr y a b c=decide (ka (y.idxOf a) (y.idxOf b) (y.idxOf c)):=by
 have ia:=Zw ha
 have ib:=Zw hb
 have ic:=Zw hc
 have inj: ∀{u v:Nat},u∈y->v∈y->u≠v->y.idxOf u≠y.idxOf v:=fun {u v} hu hv h z=>h (by
  have e1:=Qby (Zw hu)
  have e2:=Qby (Zw hv)
  rw[<-e1, <-e2]
  congr 1)
 have n1:=inj ha hb yV
 have n2:=inj ha hc Lh
 have n3:=inj hb hc Li
 unfold gr
 rw[jB ia ib,jB ia ic]
 generalize y.idxOf a=i at*
 generalize y.idxOf b=j at*
 generalize y.idxOf c=k at*
 refine decide_eq_decide.mpr ?_
 unfold ka
 split<;>split<;>omega
theorem FG {i j k:Nat}:ka j k i↔ka i j k:=by unfold ka;omega
theorem JG {i j k:Nat} (h1:i≠j) (h2:i≠k) (h3:j≠k):ka i k j↔ ¬ka i j k:=by unfold ka;omega
theorem Bs {y:List Nat} {a b c:Nat} (hn:y.Nodup) (ha:a∈y) (hb:b∈y) (hc:c∈y) (yV:a≠b) (Lh:a≠c) (Li:b≠c):gr y b c a=gr y a b c:=by
 rw[gk hn ha hb hc yV Lh Li,gk hn hb hc ha Li (Ne.symm yV) (Ne.symm Lh)]
 exact decide_eq_decide.mpr FG
theorem cH {y:List Nat} {u v:Nat} (hu:u∈y) (hv:v∈y) (h:u≠v):y.idxOf u≠y.idxOf v:=fun z=>h (by
 have e1:=Qby (Zw hu)
 have e2:=Qby (Zw hv)
 rw[<-e1, <-e2]
 congr 1)
theorem FH {y:List Nat} {a b c:Nat} (hn:y.Nodup) (ha:a∈y) (hb:b∈y) (hc:c∈y) (yV:a≠b) (Lh:a≠c) (Li:b≠c):gr y a c b=!gr y a b c:=by
 rw[gk hn ha hb hc yV Lh Li,gk hn ha hc hb Lh yV (Ne.symm Li)]
 rw[<-decide_not]
 exact decide_eq_decide.mpr (JG (cH ha hb yV) (cH ha hc Lh) (cH hb hc Li))
theorem MY (d:Nat) (t:List Nat) (a:Nat):(d::t).idxOf a=if d=a then 0 else t.idxOf a+1:=by
 by_cases h:d=a
 ·subst h;rw[if_pos rfl,List.idxOf_cons_self]
 ·rw[if_neg h,List.idxOf_cons,show (d==a)=false by simp[h]];rfl
theorem Ds {a b:List Nat} (h:a.Perm b) (ha:a.Pairwise (· <= ·)) (hb:b.Pairwise (· <= ·)):a=b:=
 List.Perm.eq_of_pairwise (le:=fun x y=>x<=y) (fun _ _ _ _ h1 h2=>Qft h1 h2) ha hb h
def xV (_:PySem.W.Frag):Sp:=fun vs H Q _=> ∃l:List Nat,vs=[.str (S l)]/\(∀c∈l,c<128)/\l.length<64/\ ∀l' H',l'.Perm (l.filter aJ)->l'.Pairwise (· <= ·)->ar H H'->Q (.str (S l')) H'
theorem Dt {K:PySem.W.Frag} {vs:List V} {H:Hp} {Q:VK} {E:XK} (h:xV K vs H Q E):vs.length=1:=by obtain ⟨c,rfl,_⟩:=h;rfl
def jC (_:PySem.W.Frag):Sp:=fun vs H Q _=> ∃(y:List Nat) (a b:Nat),vs=[.str (S y), .str (S [a]), .str (S [b])]/\a∈y/\b∈y/\y.length<=1000/\Q (.int ((((y.idxOf b:Nat):Int) - ((y.idxOf a:Nat):Int))%(y.length:Int))) H
theorem oM {K:PySem.W.Frag} {vs:List V} {H:Hp} {Q:VK} {E:XK} (h:jC K vs H Q E):vs.length=3:=by obtain ⟨c,_,_,rfl,_⟩:=h;rfl
def tN (_:PySem.W.Frag):Sp:=fun vs H Q _=> ∃y:List Nat,vs=[.str (S y)]/\y.length<64/\ ∀q l' H',H q=none->H' q=some (.lst (bN l'))->l'.Perm (y.filter fun c=>decide (c∈aP))->l'.Pairwise (· <= ·)->ar H H'->Q (.ref q) H'
theorem zZ {K:PySem.W.Frag} {vs:List V} {H:Hp} {Q:VK} {E:XK} (h:tN K vs H Q E):vs.length=1:=by obtain ⟨c,rfl,_⟩:=h;rfl
theorem jD {p:Nat->Bool} {l:List Nat} {i c:Nat} (h:l[i]? =some c):(l.take (i+1)).filter p=(l.take i).filter p++if p c=true then [c] else []:=by
 rw[<-take_snoc h,Qcp]
 congr 1
 by_cases z:p c=true
 ·rw[if_pos z,Qbd z];rfl
 ·rw[if_neg z,Qa1 z];rfl
theorem FI {y:List Nat} (h:Yd y):2*(y.filter aJ).length=y.length:=by
 have key: ∀p q:Nat->Bool,(∀c∈y,p c=true->q (aC c)=true)->(y.filter p).length<=(y.filter q).length:=fun p q So=>by
  have hn:((y.filter p).map aC).Nodup:=by
   show ((y.filter p).map aC).Pairwise (· ≠ ·)
   rw[Qb3]
   refine (h.nd.filter p).imp_of_mem fun {a b} ha hb z e=>z ?_
   exact fP (h.lt a (Qa0.mp ha).1) (h.lt b (Qa0.mp hb).1) e
  have:=hn.length_le_of_subset (l₂:=y.filter q) fun c hc=>by
   obtain ⟨d,hd,rfl⟩:=Qau.mp hc
   obtain ⟨d1,d2⟩:=Qa0.mp hd
   exact Qa0.mpr ⟨h.cl d d1,So d d1 d2⟩
  rwa [Xl]at this
 have k1:=key aJ (fun c=>!aJ c) fun c hc z=>by
  rw[j_ (h.lt c hc)]at z
  have hs:=of_decide_eq_true z
  rw[(cb _ (bJ c hs).2.2).1];rfl
 have k2:=key (fun c=>!aJ c) aJ fun c hc z=>by
  rcases h.lt c hc with q | q
  ·rw[(bJ c q).1]at z;cases z
  ·exact (bJ _ (cb c q).2.2.2).1
 have k3:(y.filter aJ).length+(y.filter fun c=>!aJ c).length=y.length:=by
  clear k1 k2 key h
  induction y with
  | nil=>rfl
  | cons a r ih=>
   cases hq:aJ a
   ·rw[Qa1 (by simp[hq]),Qbd (by simp[hq]),Qay,Qay];omega
   ·rw[Qbd hq,Qa1 (by simp[hq]),Qay,Qay];omega
 omega
noncomputable def rd (w:List Nat) (k:Int):Nat:=w.getD (k%(w.length:Int)).toNat 0
theorem Sq {w:List Nat} (h:w≠[]) (k:Int):(k%(w.length:Int)).toNat<w.length:=by
 have:0<w.length:=Zs.mpr h
 have h1:=Qbt k (b:=(w.length:Int)) (by omega)
 have h2:=Qbm k (b:=(w.length:Int)) (by omega)
 omega
theorem gJ {w:List Nat} (h:w≠[]) (k:Int):w[(k%(w.length:Int)).toNat]? =some (rd w k):=by
 unfold rd
 rw[kb,Mt (Sq h k)]
 rfl
theorem fH {w:List Nat} (h:w≠[]) (k:Int):rd w k∈w:=Qah (gJ h k)
theorem iP (w:List Nat) (k:Int):rd w (k+w.length)=rd w k:=by unfold rd;rw[Qdl]
theorem gK (w:List Nat) (k:Int):rd w (k%w.length)=rd w k:=by unfold rd;rw[Qd0 _ (Int.dvd_refl _)]
theorem m9 {w:List Nat} {k:Nat} (h:k<w.length):w[k]? =some (rd w k):=by
 have dH:w≠[]:=fun z=>by rw[z]at h;exact absurd h (Qes _)
 have:=gJ dH (k:Int)
 rwa [Qax (by omega) (by omega),Xo]at this
theorem FJ {w:List Nat} {k:Int} {n:Nat} {c:Nat} (hn:n<w.length) (e:k%(w.length:Int)=n) (h:w[n]? =some c):rd w k=c:=by
 have:=m9 hn
 rw[h]at this
 rw[<-gK,e]
 exact (Qaf this).symm
theorem kE {w:List Nat} {k:Int} (h1: -(w.length:Int)<=k) (h2:k<w.length):jc w k=some (rd w k):=by
 have dH:w≠[]:=fun z=>by rw[z]at h1 h2;simp at h1 h2;omega
 unfold jc HX
 by_cases h0:0<=k
 ·rw[if_pos h0,if_pos h2]
  have:=gJ dH k
  rw[Qax h0 h2]at this
  exact this
 ·rw[if_neg h0,if_pos h1]
  have:=gJ dH (k+w.length)
  rw[iP,Qax (by omega) (by omega)]at this
  exact this
theorem iQ {f:Int->Nat} {p:Nat} (P: ∀k,f (k+p)=f k) (k:Int): ∀t:Nat,f (k+t*p)=f k
 | 0=>by simp
 | t+1=>by
  have:k+((t+1:Nat):Int)*p=k+t*p+p:=by rw[Qa8,Int.add_mul];simp;omega
  rw[this,P,iQ P k t]
theorem fw {f g:Int->Nat} {p q:Nat} (hp:0<p) (hq:0<q) (Pf: ∀k,f (k+p)=f k) (Pg: ∀k,g (k+q)=g k) (h: ∀n:Nat,n<p+q->f n=g n) (k:Int):f k=g k:=by
 have up: ∀N n:Nat,n<N->f n=g n:=by
  intro N
  induction N with
  | zero=>intro n hn;omega
  | succ N ih=>
   intro n hn
   by_cases z:n<p+q
   ·exact h n z
   ·have e1:f n=f ((n - p:Nat):Int):=by have:=Pf ((n - p:Nat):Int);rwa [show ((n - p:Nat):Int)+p=n by omega]at this
    have e2:g ((n - p:Nat):Int)=g ((n - p - q:Nat):Int):=by have:=Pg ((n - p - q:Nat):Int);rwa [show ((n - p - q:Nat):Int)+q=((n - p:Nat):Int) by omega]at this
    have e3:f ((n - q:Nat):Int)=f ((n - p - q:Nat):Int):=by have:=Pf ((n - p - q:Nat):Int);rwa [show ((n - p - q:Nat):Int)+p=((n - q:Nat):Int) by omega]at this
    have e4:g n=g ((n - q:Nat):Int):=by have:=Pg ((n - q:Nat):Int);rwa [show ((n - q:Nat):Int)+q=n by omega]at this
    rw[e1,ih (n - p) (by omega),e2, <-ih (n - p - q) (by omega), <-e3,ih (n - q) (by omega), <-e4]
 have m5: ∃m:Nat,k+((k.natAbs*q:Nat):Int)*p=m/\k+((k.natAbs*p:Nat):Int)*q=m:=by
  have e1:((k.natAbs*q:Nat):Int)*p=((k.natAbs*(q*p):Nat):Int):=by rw[Nat.mul_assoc k.natAbs q p |>.symm];simp
  have e2:((k.natAbs*p:Nat):Int)*q=((k.natAbs*(q*p):Nat):Int):=by rw[Qbu q p,Nat.mul_assoc k.natAbs p q |>.symm];simp
  have hle:k.natAbs<=k.natAbs*(q*p):=Nat.le_mul_of_pos_right _ (Nat.mul_pos hq hp)
  generalize k.natAbs*(q*p)=M at e1 e2 hle
  exact ⟨(k+M).toNat,by omega,by omega⟩
 obtain ⟨m,h1,h2⟩:=m5
 rw[<-iQ Pf k (k.natAbs*q),h1, <-iQ Pg k (k.natAbs*p),h2]
 exact up (m+1) m (Qci m)
noncomputable def gS (f g:Int->Nat):Nat->Nat->Nat
 | 0,i=>i
 | n+1,i=>if f i=g i then gS f g n (i+1) else i
theorem iB (f g:Int->Nat): ∀n i:Nat,i<=gS f g n i/\gS f g n i<=i+n/\(∀j:Nat,i<=j->j<gS f g n i->f j=g j)/\(gS f g n i<i+n->f (gS f g n i)≠g (gS f g n i))
 | 0,i=>⟨Tz _,Tz _,fun j h1 h2=>absurd (Qa4 h1 h2) (Qbb _),fun h=>absurd h (Qbb _)⟩
 | n+1,i=>by
  unfold gS
  by_cases z:f i=g i
  ·rw[if_pos z]
   obtain ⟨h1,h2,h3,h4⟩:=iB f g n (i+1)
   refine ⟨by omega,by omega,fun j g1 g2=>?_,fun g1=>h4 (by omega)⟩
   by_cases e:j=i
   ·rw[e];exact z
   ·exact h3 j (by omega) g2
  ·rw[if_neg z]
   exact ⟨Tz _,by omega,fun j g1 g2=>absurd (Qa4 g1 g2) (Qbb _),fun _=>z⟩
noncomputable def al (y:List Nat) (f g:Int->Nat) (n:Nat):Nat:=
 if f 0≠g 0\/f (-1)=g (-1) then 0 else
 if gr y (aC (f (-1))) (aC (g (-1))) (f 0)=gr y (f (gS f g n 0)) (g (gS f g n 0)) (aC (f ((gS f g n 0:Nat) - 1))) then gS f g n 0 else 0
noncomputable def ac (y:List Nat) (a b p q:Nat):Bool:=if p=a\/p=b\/q=a\/q=b then false else (gr y a p b != gr y a q b)
noncomputable def sq (w:List Nat) (i:Int):Int->Nat:=fun n=>rd w (i+n)
noncomputable def bq (v:List Nat) (j:Int):Int->Nat:=fun n=>aC (rd v (j - n))
theorem cq (w:List Nat) (i k:Int):sq w i (k+w.length)=sq w i k:=by unfold sq;rw[<-Int.add_assoc,iP]
theorem z5 (w:List Nat) (k:Int):rd w (k - w.length)=rd w k:=by rw[<-iP w (k - w.length)];congr 1;omega
theorem kZ (w:List Nat) (i k:Int):bq w i (k+w.length)=bq w i k:=by unfold bq;rw[show i - (k+(w.length:Int))=i - k - w.length by omega,z5]
theorem m_ {v:List Nat} (h:v≠[]) (k:Int):rd (iq v) k=aC (rd v (-1 - k)):=by
 have m5:0<v.length:=Zs.mpr h
 have h1:=Qbt k (b:=(v.length:Int)) (by omega)
 have h2:=Qbm k (b:=(v.length:Int)) (by omega)
 have e:(-1 - k)%(v.length:Int)=v.length - 1 - k%v.length:=by
  have e1:=Qey k v.length
  have: -1 - k=(v.length - 1 - k%v.length)+v.length*(-(k / v.length) - 1):=by rw[Int.mul_sub,Int.mul_neg];omega
  rw[this,Qc7,Qax (by omega) (by omega)]
 generalize hr:k%(v.length:Int)=r at h1 h2 e
 obtain ⟨n,rfl⟩: ∃n:Nat,r=n:=⟨r.toNat,by omega⟩
 have hn:n<v.length:=by omega
 have e2:rd v (-1 - k)=v[v.length - 1 - n]'(by omega):=FJ (n:=v.length - 1 - n) (by omega) (by rw[e];omega) (Mt (by omega))
 rw[e2]
 refine FJ (n:=n) (by rw[cR];exact hn) (by rw[cR];exact hr) ?_
 unfold iq
 rw[Qdt (by rw[Xl];exact hn),Xl,Qak,Mt (by omega)]
 rfl
theorem MZ {v:List Nat} (h:v≠[]) (j:Nat):sq (iq v) ((v.length:Int) - 1 - j)=bq v j:=by
 funext n
 unfold sq bq
 rw[m_ h,show -1 - ((v.length:Int) - 1 - j+n)=j - n - v.length by omega,z5]
structure SW (y w:List Nat):Prop where
 ne:w≠[]
 bW: ∀c∈w,c∈y
 red: ∀k:Int,rd w k≠aC (rd w (k - 1))
theorem SW.rd {y w:List Nat} (h:SW y w) (k:Int):rd w k∈y:=h.bW _ (fH h.ne k)
theorem eN {w v:List Nat} {f g:Int->Nat} (hw:w≠[]) (hv:v≠[]) (pf: ∀k,f (k+w.length)=f k) (pg: ∀k,g (k+v.length)=g k) (h:f (-1)≠g (-1)):gS f g (w.length+v.length) 0<w.length+v.length/\f (gS f g (w.length+v.length) 0)≠g (gS f g (w.length+v.length) 0):=by
 obtain ⟨_,b,c,d⟩:=iB f g (w.length+v.length) 0
 by_cases z:gS f g (w.length+v.length) 0<w.length+v.length
 ·exact ⟨z,d (by omega)⟩
 ·exact absurd (fw (Zs.mpr hw) (Zs.mpr hv) pf pg (fun n hn=>c n (Qad _) (by omega)) (-1)) h
noncomputable def rF (ws:List (List Nat)):Nat->List (Nat×Nat)
 | 0=>[]
 | n+1=>rF ws n++(List.range (ws.getD n []).length).map fun i=>(n,i)
noncomputable def places (ws:List (List Nat)):List (Nat×Nat):=rF ws ws.length
theorem vx {ws:List (List Nat)}: ∀{n:Nat} {o:Nat×Nat},o∈rF ws n↔o.1<n/\o.2<(ws.getD o.1 []).length
 | 0,o=>by simp[rF]
 | n+1,o=>by
  unfold rF
  rw[Qaj,vx (n:=n),Qau]
  constructor
  ·rintro (⟨h1,h2⟩ | ⟨i,hi,rfl⟩)
   ·exact ⟨by omega,h2⟩
   ·exact ⟨by simp,Qbl.mp hi⟩
  ·rintro ⟨h1,h2⟩
   by_cases z:o.1<n
   ·exact .inl ⟨z,h2⟩
   ·have e:o.1=n:=by omega
    exact .inr ⟨o.2,Qbl.mpr (by rw[<-e];exact h2),by rw[<-e]⟩
theorem Bt {ws:List (List Nat)}: ∀n:Nat,(rF ws n).Pairwise fun a b=>H_ a.1 a.2 b.1 b.2=true
 | 0=>List.Pairwise.nil
 | n+1=>by
  unfold rF
  rw[Qcw]
  refine ⟨Bt n,?_,fun a ha b hb=>?_⟩
  ·rw[Qb3]
   refine List.pairwise_lt_range.imp fun {a b} h=>?_
   unfold H_
   rw[if_pos rfl]
   exact decide_eq_true (by show (a:Int)<b;omega)
  ·obtain ⟨i,hi,rfl⟩:=Qau.mp hb
   have:=(vx.mp ha).1
   unfold H_
   rw[if_neg (by show ¬((a.1:Nat):Int)=(n:Nat);omega)]
   exact decide_eq_true (by show ((a.1:Nat):Int)<(n:Nat);omega)
theorem nc: ∀{a b:List Int},bV a b=true->bV b a=false/\a≠b
 | [],[],h=>by simp[bV]at h
 | [],_::_,h=>⟨rfl,by simp⟩
 | _::_,[],h=>by simp[bV]at h
 | x::r,z::t,h=>by
  simp only[bV]at h ⊢
  split at h
  ·rename_i e
   obtain ⟨h1,h2⟩:=nc h
   rw[if_pos e.symm]
   exact ⟨h1,fun q=>h2 (Qdx q).2⟩
  ·rename_i e
   have h':=of_decide_eq_true h
   rw[if_neg (fun q=>e q.symm)]
   exact ⟨decide_eq_false (by omega),fun q=>e (Qdx q).1⟩
noncomputable def jE (n:Nat) (l:List Nat):List Nat:=(List.replicate n l).flatten
def Ek (w:List Nat):Prop:= ∀(k a b:Nat),w[k]? =some a->w[k+1]? =some b->b≠aC a
theorem Ek.nil:Ek []:=fun k a b h=>by simp at h
theorem Ek.take {w:List Nat} (h:Ek w) (n:Nat):Ek (w.take n):=fun k a b h1 h2=>by
 rw[Qdj]at h1 h2
 split at h1
 ·split at h2
  ·exact h k a b h1 h2
  ·cases h2
 ·cases h1
theorem Ek.snoc {w:List Nat} {c:Nat} (h:Ek w) (hc: ∀a,w.getLast? =some a->c≠aC a):Ek (w++[c]):=fun k a b h1 h2=>by
 by_cases z:k+1<w.length
 ·rw[Qbr (by omega)]at h1
  rw[Qbr z]at h2
  exact h k a b h1 h2
 ·have u_:k+1<(w++[c]).length:=(Mu.mp h2).1
  rw[Oy]at u_
  have e:k+1=w.length:=by simp at u_;omega
  rw[Qbr (by omega)]at h1
  rw[e,Qcf (Tz _),Nat.sub_self]at h2
  have e2:c=b:=by simpa using h2
  rw[<-e2]
  refine hc a ?_
  rw[Qd9, show w.length - 1=k by omega]
  exact h1
theorem SW.of {y w:List Nat} (ne:w≠[]) (bW: ∀c∈w,c∈y) (M0:Ek w) (hd: ∀a b,w.head? =some a->w.getLast? =some b->a≠aC b):SW y w:=by
 refine ⟨ne,bW,fun k=>?_⟩
 have m5:0<w.length:=Zs.mpr ne
 have h1:=Qbt k (b:=(w.length:Int)) (by omega)
 have h2:=Qbm k (b:=(w.length:Int)) (by omega)
 have hk:=gJ ne k
 have Fo:=gJ ne (k - 1)
 by_cases z:k%(w.length:Int)=0
 ·have e:(k - 1)%(w.length:Int)=w.length - 1:=by
   rw[<-Int.emod_sub_emod,z]
   have:(0:Int) - 1=(w.length - 1)+w.length*(-1):=by omega
   rw[this,Qc7,Qax (by omega) (by omega)]
  rw[z]at hk
  rw[e]at Fo
  refine hd _ _ ?_ ?_
  ·rw[List.head?_eq_getElem?];exact hk
  ·rw[Qd9, show w.length - 1=((w.length:Int) - 1).toNat by omega];exact Fo
 ·have e:(k - 1)%(w.length:Int)=k%w.length - 1:=by
   rw[<-Int.emod_sub_emod,Qax (by omega) (by omega)]
  rw[e]at Fo
  refine M0 _ _ _ Fo ?_
  rw[show (k%(w.length:Int) - 1).toNat+1=(k%(w.length:Int)).toNat by omega]
  exact hk
theorem SW.M0 {y w:List Nat} (h:SW y w):Ek w:=fun k a b h1 h2=>by
 have hk:=(Mu.mp h2).1
 have e1:=m9 (w:=w) (k:=k) (by omega)
 have e2:=m9 (w:=w) (k:=k+1) hk
 rw[h1]at e1
 rw[h2]at e2
 rw[Qaf e1,Qaf e2]
 have:=h.red ((k+1:Nat):Int)
 rwa [show (((k+1:Nat):Int) - 1)=(k:Int) by omega]at this
theorem SW.iq {y w:List Nat} (hy:Yd y) (h:SW y w):SW y (iq w):=by
 refine ⟨fun z=>h.ne ?_,fun c hc=>?_,fun k=>?_⟩
 ·have:=cR w
  rw[z]at this
  exact Qb8.mp this.symm
 ·obtain ⟨d,hd,rfl⟩:=Qau.mp (Qdv.mp hc)
  exact hy.cl d (h.bW d hd)
 ·rw[m_ h.ne,m_ h.ne,show -1 - (k - 1)= -1 - k+1 by omega]
  intro q
  have l1:=hy.lt _ (h.rd (-1 - k))
  have l2:=hy.lt _ (h.rd (-1 - k+1))
  rw[aN l2]at q
  have:=h.red (-1 - k+1)
  rw[show -1 - k+1 - 1= -1 - k by omega]at this
  exact this q.symm
theorem md (n:Nat) (l:List Nat):jE (n+1) l=l++jE n l:=by unfold jE;rw[Qe2,Qc4]
theorem Bu (n:Nat) (l:List Nat):(jE n l).length=n*l.length:=by
 induction n with
 | zero=>simp[jE]
 | succ n ih=>rw[md,Oy,ih,Qcy,Qfe]
theorem Bv {l:List Nat}: ∀{n k:Nat},k<n*l.length->(jE n l)[k]? =l[k%l.length]?
 | 0,k,h=>by simp at h
 | n+1,k,h=>by
  rw[md]
  by_cases z:k<l.length
  ·rw[Qbr z,Qb0 z]
  ·rw[Qcf (by omega),Bv (by rw[Qcy]at h;omega),Qfb (by omega:l.length<=k)]
theorem Bw {w:List Nat} {n:Nat} (h:w≠[]) (hn:0<n) (k:Int):rd (jE n w) k=rd w k:=by
 have m5:0<w.length:=Zs.mpr h
 have hl:=Bu n w
 have XO:0<n*w.length:=Nat.mul_pos hn m5
 have h1:=Qbt k (b:=((n*w.length:Nat):Int)) (by omega)
 have h2:=Qbm k (b:=((n*w.length:Nat):Int)) (by omega)
 have e:k%(w.length:Int)=(k%((n*w.length:Nat):Int))%w.length:=(Qd0 k (by rw[Qfv];exact Int.dvd_mul_left _ _)).symm
 generalize hr:k%((n*w.length:Nat):Int)=r at h1 h2 e
 obtain ⟨m,rfl⟩: ∃m:Nat,r=m:=⟨r.toNat,by omega⟩
 have hm:m<n*w.length:=by omega
 refine FJ (n:=m) (by rw[hl];exact hm) (by rw[hl];exact hr) ?_
 rw[Bv hm]
 have:=gJ h k
 rwa [e,show (((m:Int)%w.length).toNat)=m%w.length by rw[<-Qei,Xo]]at this
theorem JH {w:List Nat} {n c:Nat} (h:c∈jE n w):c∈w:=by
 obtain ⟨l,hl,hc⟩:=List.mem_flatten.mp h
 rwa [List.eq_of_mem_replicate hl]at hc
theorem SW.eG {y w:List Nat} {n:Nat} (h:SW y w) (hn:0<n):SW y (jE n w):=by
 refine ⟨fun z=>?_,fun c hc=>h.bW c (JH hc),fun k=>by rw[Bw h.ne hn,Bw h.ne hn];exact h.red k⟩
 have:=Bu n w
 rw[z]at this
 have h2:0<n*w.length:=Nat.mul_pos hn (Zs.mpr h.ne)
 simp at this
 omega
theorem SW.twice {y w:List Nat} (h:SW y w):SW y (w++w):=by
 have:=h.eG (n:=2) (by decide)
 rwa [show jE 2 w=w++w by rw[md,md];simp[jE]]at this
theorem vy {w:List Nat} (h:w≠[]):w.getLast? =some (rd w (-1)):=by
 have m5:0<w.length:=Zs.mpr h
 have:=gJ h (-1)
 have e:(-1:Int)%(w.length:Int)=w.length - 1:=by
  have e2:(-1:Int)=((w.length:Int) - 1)+w.length*(-1):=by omega
  rw[e2,Qc7,Qax (by omega) (by omega)]
 rw[e]at this
 rw[Qd9, show w.length - 1=((w.length:Int) - 1).toNat by omega]
 exact this
theorem Bx {w:List Nat} (h:w≠[]):w.head? =some (rd w 0):=by
 have:=gJ h 0
 rw[List.head?_eq_getElem?]
 simpa using this
theorem Du (w:List Nat): ∃k,jA w k:=by
 by_cases h:w=[]
 ·exact ⟨0, .inl ⟨h,rfl⟩⟩
 ·obtain ⟨k,_,_,t⟩:=qr h
  exact ⟨k,t⟩
theorem b_.turn {w:List Nat} {s:Nat} (h:b_ w s):jA w s:=by
 obtain ⟨k,t⟩:=Du w
 rw[iA h t];exact t
theorem b_.least {w:List Nat} {s j:Nat} (h:b_ w s) (j1:1<=j) (j2:j<s) (hp:yU w j):False:=by
 rcases h.turn with ⟨_,e⟩ | ⟨h1,h2,h3,h4⟩
 ·omega
 ·have hn:w≠[]:=fun z=>by rw[z]at h2;simp at h2;omega
  exact h4 j j1 j2 ((gX hn (by omega)).mpr hp)
theorem SW.Z7 {y w:List Nat} (hy:Yd y) (h:SW y w):j9 w:=Fy fun k a b ha hb e=>by
 have Lj:b∈y:=h.bW b (Qah hb)
 have:=h.M0 k a b ha hb
 rw[e,aN (hy.lt b Lj)]at this
 exact this rfl
theorem SW.core {y w:List Nat} (hy:Yd y) (h:SW y w):My.core (My.red w)=w:=by
 rw[Fv (h.Z7 hy)]
 by_cases z:w.length<2
 ·exact fG z
 ·obtain ⟨a,m,e,hw⟩:=Bp (l:=w) (by omega)
  have h0:=Bx h.ne
  have h1:=vy h.ne
  have hr:=h.red 0
  rw[show (0:Int) - 1= -1 by omega]at hr
  rw[hw]at h0 h1 hr ⊢
  have e0:a=My.rd (a::(m++[e])) 0:=Qaf h0
  have e1:e=My.rd (a::(m++[e])) (-1):=by
   have:(a::(m++[e])).getLast? =some e:=by rw[<-Qfp,List.getLast?_append];rfl
   exact Qaf (this.symm.trans h1)
  exact iu (by rw[<-e0, <-e1]at hr;exact hr)
theorem vz {w:List Nat} {k:Nat} (hk:k<=w.length) (i:Nat):Fw (g9 w k) i=Fw w (i+k):=by
 by_cases z:w=[]
 ·subst z
  unfold Fw g9
  simp
 ·have hp:0<w.length:=Zs.mpr z
  have e:Fw (g9 w k) i=(g9 w k)[i%w.length]?:= by unfold Fw;rw[de]
  rw[e,ph hk (Qcz _ hp),FE]
theorem By {w:List Nat} {k s:Nat} (hk:k<=w.length) (hn:w≠[]):yU (g9 w k) s↔yU w s:=by
 constructor
 ·intro h i
  have h1:=h (i+(w.length - k))
  rw[vz hk,vz hk]at h1
  have e1:i+(w.length - k)+s+k=i+s+w.length:=by omega
  have e2:i+(w.length - k)+k=i+w.length:=by omega
  rw[e1,e2,yU.whole w,yU.whole w]at h1
  exact h1
 ·intro h i
  rw[vz hk,vz hk,show i+s+k=i+k+s by omega]
  exact h _
theorem tP {w:List Nat} (hn:w≠[]) {s:Nat} (h:b_ w s):jA w s:=by
 obtain ⟨k,r,_,g⟩:=qr hn
 rw[iA h g]
 exact g
theorem FK {w:List Nat} {k s:Nat} (hk:k<=w.length) (hn:w≠[]) (h:jA (g9 w k) s):jA w s:=by
 have zj:g9 w k≠[]:=fun z=>hn (Qb8.mp (by have:=de w k;rw[z]at this;exact this.symm))
 rcases h with ⟨z,_⟩ | ⟨h1,h2,h3,h4⟩
 ·exact absurd z zj
 ·rw[de]at h2
  refine .inr ⟨h1,h2,(gX hn h2).mpr ((By hk hn).mp ((gX zj (by rw[de];exact h2)).mp h3)),fun j j1 j2 j3=>h4 j j1 j2 ?_⟩
  exact (gX zj (by rw[de];omega)).mpr ((By hk hn).mpr ((gX hn (by omega)).mp j3))
theorem Dv {y w:List Nat} {s t:Nat} (hy:Yd y) (h:SW y w) (hr:b_ (eM w) s) (hw:b_ w t):s=t/\(eM w).length=w.length:=by
 have e:eM w=gn w:=by unfold eM;rw[h.core hy]
 obtain ⟨k,ek⟩:=tK w
 have u_: ∃k,k<=w.length/\gn w=g9 w k:=by
  by_cases z:k<=w.length
  ·exact ⟨k,z,ek⟩
  ·refine ⟨w.length,Tz _,?_⟩
   rw[ek]
   unfold g9
   rw[Qcm (by omega),Qar (by omega),List.drop_length,Qbp]
 obtain ⟨k,hk,ek⟩:=u_
 rw[e,ek]at hr ⊢
 have zj:g9 w k≠[]:=fun z=>h.ne (Qb8.mp (by have:=de w k;rw[z]at this;exact this.symm))
 refine ⟨?_,de w k⟩
 exact (iA hw (FK hk h.ne (tP zj hr))).symm
theorem Bz {w:List Nat} (hn:w≠[]): ∃s,b_ w s:=by
 obtain ⟨k,r,_,g⟩:=qr hn
 rcases g with ⟨z,_⟩ | ⟨h1,h2,h3,h4⟩
 ·exact absurd z hn
 ·exact ⟨k, .inr ⟨h1,h2,tL hn h1 h2 h3 h4,fun j j1 j2 j3=>h4 j j1 j2 (vv j1 (by omega) j3)⟩⟩
theorem FL {w:List Nat} {s t:Nat} (hn:w≠[]) (h:b_ w s) (g:b_ w t):s=t:=iA h (tP hn g)
theorem pj {a b:List Nat} {e:Nat} (hn:(a++b).Nodup) (he:e∈a++b):(b++a).idxOf e=if (a++b).idxOf e<a.length then (a++b).idxOf e+b.length else (a++b).idxOf e - a.length:=by
 rw[Qbv]at hn
 obtain ⟨na,nb,Z8⟩:=hn
 by_cases z:e∈a
 ·have zb:e∉b:=fun q=>Z8 e z e q rfl
  rw[Qeb,Qeb,if_pos z,if_neg zb,if_pos (Zw z)]
 ·have zb:e∈b:=(Qaj.mp he).resolve_left z
  rw[Qeb,Qeb,if_pos zb,if_neg z,if_neg (by omega)]
  omega
theorem tQ {y:List Nat} {k e:Nat} (hn:y.Nodup) (hk:k<=y.length) (he:e∈y):(((y.drop k++y.take k).idxOf e:Nat):Int)=((y.idxOf e:Int) - k)%y.length:=by
 have h1:=pj (a:=y.take k) (b:=y.drop k) (e:=e) (by rw[Qa7];exact hn) (by rw[Qa7];exact he)
 rw[Qa7,Qae,Qa2,Qbz hk]at h1
 have hi:=Zw he
 rw[h1]
 by_cases z:y.idxOf e<k
 ·rw[if_pos z]
  have:(y.idxOf e:Int) - k=((y.idxOf e+(y.length - k):Nat):Int)+y.length*(-1):=by omega
  rw[this,Qc7,Qax (by omega) (by omega)]
 ·rw[if_neg z,Qax (by omega) (by omega)]
  omega
theorem FN {y:List Nat} {a b c:Nat} (hn:y.Nodup) (ha:a∈y) (hb:b∈y) (hc:c∈y):decide ((((y.drop (y.idxOf a)++y.take (y.idxOf a)).idxOf b:Nat):Int)<(((y.drop (y.idxOf a)++y.take (y.idxOf a)).idxOf c:Nat):Int))=gr y a b c:=by
 have hk:=Qa5 (Zw ha)
 rw[tQ hn hk hb,tQ hn hk hc]
 rfl
structure Sr (y:List Nat) (ws:List (List Nat)):Prop where
 sw: ∀w∈ws,SW y w/\w.length<=12
 lV:ws.length<=4
 all:(places ws).length<=24
theorem getD_in {ws:List (List Nat)} {c:Nat} (h:c<ws.length):ws.getD c []∈ws:=by
 rw[kb,Mt h];exact Qas h
def jF (_:PySem.W.Frag):Sp:=fun vs H Q _=> ∃(w:List Nat) (i:Nat),vs=[.str (S w), .int i]/\(∀c∈w,Lt c)/\w.length<=1000/\i<w.length/\ ∀q H',H q=none->H' q=some (.tup [.str (S [aC (rd w ((i:Int) - 1))]), .str (S [rd w i])])->ar H H'->Q (.ref q) H'
theorem oN {K:PySem.W.Frag} {vs:List V} {H:Hp} {Q:VK} {E:XK} (h:jF K vs H Q E):vs.length=2:=by obtain ⟨_,_,rfl,_⟩:=h;rfl
def tR (_:PySem.W.Frag):Sp:=fun vs H Q _=> ∃(b:Addr) (y:List Nat) (top:Nat),vs=[.ref b, .str (S y), .int top]/\bH H b/\Yd y/\2<=y.length/\y.length<=8/\1<=top/\top<=100/\ ∀(w:List Nat) H',SW y w->w.length<=top->bH H' b->aR b H H'->Q (.str (S w)) H'
theorem z6 {K:PySem.W.Frag} {vs:List V} {H:Hp} {Q:VK} {E:XK} (h:tR K vs H Q E):vs.length=3:=by obtain ⟨_,_,_,rfl,_⟩:=h;rfl
def tT (_:PySem.W.Frag):Sp:=fun vs H Q _=> ∃(y:List Nat) (a b c:Nat),vs=[.str (S y), .str (S [a]), .str (S [b]), .str (S [c])]/\y.Nodup/\a∈y/\b∈y/\c∈y/\y.length<=1000/\Q (.bl (gr y a b c)) H
theorem z7 {K:PySem.W.Frag} {vs:List V} {H:Hp} {Q:VK} {E:XK} (h:tT K vs H Q E):vs.length=4:=by obtain ⟨c,_,_,_,rfl,_⟩:=h;rfl
theorem BA {ws:List (List Nat)} {m:Nat} (h: ∀w∈ws,w.length<=m): ∀n:Nat,n<=ws.length->(rF ws n).length<=n*m
 | 0,_=>Qad _
 | n+1,hn=>by
  unfold rF
  have:=BA h n (by omega)
  have h2:=h _ (getD_in (ws:=ws) (c:=n) (by omega))
  rw[Oy,Xl,Qce,Qcy]
  omega
theorem FO {α:Type} (w:List α):cut w none (some (-1))=w.take (w.length - 1):=by
 unfold cut
 rw[HT.jr,zX]
 simp
structure Wd (y w:List Nat):Prop where
 M0:Ek w
 bW: ∀c∈w,c∈y
theorem Wd.more {y w:List Nat} {c:Nat} (h:Wd y w) (hc:c∈y) (hn:w≠[]->c≠aC (rd w (-1))):Wd y (w++[c]):=
 ⟨h.M0.snoc fun a ha=>by
  have dH:w≠[]:=fun z=>by rw[z]at ha;simp at ha
  rw[vy dH]at ha
  rw[<-Qaf ha]
  exact hn dH,fun a ha=>by
  rcases Qaj.mp ha with g | g
  ·exact h.bW a g
  ·rw[Zt.mp g];exact hc⟩
theorem Wd.sw {y w:List Nat} (h:Wd y w) (dH:w≠[]) (he:rd w 0≠aC (rd w (-1))):SW y w:=
 SW.of dH h.bW h.M0 fun a b ha hb=>by
  rw[Bx dH]at ha
  rw[vy dH]at hb
  rw[<-Qaf ha, <-Qaf hb]
  exact he
theorem Wd.one {y w:List Nat} (hy:Yd y) (h:Wd y w) (h1:w.length=1):SW y w:=by
 have dH:w≠[]:=fun z=>by rw[z]at h1;simp at h1
 refine h.sw dH ?_
 have e:rd w 0=rd w (-1):=by
  have:=iP w (-1)
  rw[h1]at this
  exact this
 rw[<-e]
 exact fun q=>eI (hy.lt _ (h.bW _ (fH dH 0))) q.symm
noncomputable def xW (y:List Nat) (a b:Nat):Int:=((y.idxOf b:Int) - (y.idxOf a:Int))%(y.length:Int)
noncomputable def eQ (y:List Nat) (f:Int->Nat) (k:Int):Int:=xW y (aC (f (k - 1))) (f k)
structure i6 (y:List Nat) (f:Int->Nat):Prop where
 bW: ∀k,f k∈y
 red: ∀k,f k≠aC (f (k - 1))
structure Run (f g:Int->Nat) (a b:Nat):Prop where
 og: ∀k:Int, -(b:Int)<=k->k<=a->f k=g k
 hi:f (a+1)≠g (a+1)
 lo:f (-(b:Int) - 1)≠g (-(b:Int) - 1)
noncomputable def ku (f:Int->Nat):Int->Nat:=fun k=>aC (f (-k))
noncomputable def dU (f:Int->Nat):Int->Nat:=fun k=>f (k - 1)
noncomputable def gY (y:List Nat) (f g:Int->Nat) (a:Nat):Bool:=decide (eQ y f (a+1)<eQ y g (a+1))
noncomputable def g_ (y:List Nat) (f g:Int->Nat) (b:Nat):Bool:=decide (eQ y f (-(b:Int))<eQ y g (-(b:Int)))
noncomputable def wR (x a b:Nat):Bool:=decide (b<a\/(a=b/\aJ x=false))
noncomputable def z9 (y:List Nat) (f g:Int->Nat) (a b:Nat):Bool:=if wR (f 0) a b=true then g_ y f g b else gY y f g a
theorem Run.one {f g:Int->Nat} {a b a' b':Nat} (h:Run f g a b) (h':Run f g a' b'):a=a'/\b=b':=by
 constructor
 ·by_cases z:a<a'
  ·exact absurd (h'.og (a+1) (by omega) (by omega)) h.hi
  ·by_cases z2:a'<a
   ·exact absurd (h.og (a'+1) (by omega) (by omega)) h'.hi
   ·omega
 ·by_cases z:b<b'
  ·exact absurd (h'.og (-(b:Int) - 1) (by omega) (by omega)) h.lo
  ·by_cases z2:b'<b
   ·exact absurd (h.og (-(b':Int) - 1) (by omega) (by omega)) h'.lo
   ·omega
theorem Run.bk {f g:Int->Nat} {a b:Nat} (h:Run f g a (b+1)):Run (dU f) (dU g) (a+1) b:=
 ⟨fun k h1 h2=>h.og (k - 1) (by omega) (by omega),fun z=>h.hi (by
  unfold dU at z
  rwa [show ((a+1:Nat):Int)+1 - 1=a+1 by omega]at z),fun z=>h.lo (by
  unfold dU at z
  rwa [show -(b:Int) - 1 - 1= -((b+1:Nat):Int) - 1 by omega]at z)⟩
theorem Run.fd {f g:Int->Nat} {a b:Nat} (h:Run (dU f) (dU g) (a+1) b):Run f g a (b+1):=
 ⟨fun k h1 h2=>by
  have:=h.og (k+1) (by omega) (by omega)
  unfold dU at this
  rwa [show k+1 - 1=k by omega]at this,fun z=>h.hi (by
  unfold dU
  rwa [show ((a+1:Nat):Int)+1 - 1=a+1 by omega]),fun z=>h.lo (by
  unfold dU
  rwa [show -(b:Int) - 1 - 1= -((b+1:Nat):Int) - 1 by omega])⟩
theorem pq (y:List Nat) (f:Int->Nat) (k:Int):eQ y (dU f) k=eQ y f (k - 1):=rfl
theorem me (y:List Nat) (f g:Int->Nat) (a:Nat):gY y (dU f) (dU g) (a+1)=gY y f g a:=by
 unfold gY
 rw[pq,pq,show ((a+1:Nat):Int)+1 - 1=a+1 by omega]
theorem mf (y:List Nat) (f g:Int->Nat) (b:Nat):g_ y (dU f) (dU g) b=g_ y f g (b+1):=by
 unfold g_
 rw[pq,pq,show -(b:Int) - 1= -((b+1:Nat):Int) by omega]
theorem FP {x z a b:Nat} (h:wR x a (b+1)=true):wR z (a+1) b=true:=by
 unfold wR at h ⊢
 have:=of_decide_eq_true h
 exact decide_eq_true (by omega)
theorem fI {y:List Nat} {a b:Nat} (ha:a∈y) (hb:b∈y) (h:a≠b):0<xW y a b/\xW y a b<y.length/\xW y b a=y.length - xW y a b:=by
 have ia:=Zw ha
 have ib:=Zw hb
 have n:=cH ha hb h
 unfold xW
 rw[jB ia ib,jB ib ia]
 generalize y.idxOf a=i at*
 generalize y.idxOf b=j at*
 split<;>split<;>omega
theorem mh {y:List Nat} {a b c:Nat} (ha:a∈y) (hb:b∈y) (hc:c∈y) (h:xW y a b=xW y a c):b=c:=by
 have ia:=Zw ha
 have ib:=Zw hb
 have ic:=Zw hc
 refine Classical.byContradiction fun z=>cH hb hc z ?_
 unfold xW at h
 rw[jB ia ib,jB ia ic]at h
 split at h<;>split at h<;>omega
theorem i6.rv {y:List Nat} {f:Int->Nat} (hy:Yd y) (h:i6 y f):i6 y (ku f):=⟨fun k=>hy.cl _ (h.bW _),fun k z=>by
 unfold ku at z
 have e:=aN (hy.lt _ (h.bW (-(k - 1))))
 rw[e]at z
 have:=h.red (-(k - 1))
 rw[show -(k - 1) - 1= -k by omega]at this
 exact this z.symm⟩
theorem oh {y:List Nat} {f:Int->Nat} (hy:Yd y) (h:i6 y f):ku (ku f)=f:=by
 funext k
 unfold ku
 rw[aN (hy.lt _ (h.bW _)),Int.neg_neg]
theorem jG {y:List Nat} {f:Int->Nat} (hy:Yd y) (h:i6 y f) (k:Int):eQ y (ku f) (k+1)=y.length - eQ y f (-k):=by
 unfold eQ ku
 rw[show k+1 - 1=k by omega,aN (hy.lt _ (h.bW _)),show -(k+1)= -k - 1 by omega]
 exact (fI (hy.cl _ (h.bW _)) (h.bW _) (Ne.symm (h.red _))).2.2
theorem Run.rv {y:List Nat} {f g:Int->Nat} {a b:Nat} (hy:Yd y) (hf:i6 y f) (hg:i6 y g) (h:Run f g a b):Run (ku f) (ku g) b a:=
 ⟨fun k h1 h2=>by unfold ku;rw[h.og _ (by omega) (by omega)],fun z=>h.lo (by
  unfold ku at z
  have:=fP (hy.lt _ (hf.bW _)) (hy.lt _ (hg.bW _)) z
  rwa [show -((b:Int)+1)= -(b:Int) - 1 by omega]at this),fun z=>h.hi (by
  unfold ku at z
  have:=fP (hy.lt _ (hf.bW _)) (hy.lt _ (hg.bW _)) z
  rwa [show -(-(a:Int) - 1)=a+1 by omega]at this)⟩
theorem gz: ∀c∈aP++kW,aJ (aC c)=!aJ c:=by decide+kernel
theorem M1 {y:List Nat} {f g:Int->Nat} {a b:Nat} (hy:Yd y) (hf:i6 y f) (hg:i6 y g) (h0:f 0=g 0):z9 y (ku g) (ku f) b a=z9 y f g a b:=by
 have e1:g_ y (ku g) (ku f) a=gY y f g a:=by
  unfold g_ gY
  have h1:=jG hy hf (-(a:Int) - 1)
  have h2:=jG hy hg (-(a:Int) - 1)
  rw[show -(a:Int) - 1+1= -a by omega,show -(-(a:Int) - 1)=a+1 by omega]at h1 h2
  rw[h1,h2]
  exact decide_eq_decide.mpr (by omega)
 have e2:gY y (ku g) (ku f) b=g_ y f g b:=by
  unfold g_ gY
  rw[jG hy hf,jG hy hg]
  exact decide_eq_decide.mpr (by omega)
 unfold z9
 rw[e1,e2]
 have e3:wR (ku g 0) b a=!wR (f 0) a b:=by
  unfold wR ku
  rw[show (-0:Int)=0 from rfl, <-h0,gz _ (hy.lt _ (hf.bW 0)).mem]
  rw[<-decide_not]
  refine decide_eq_decide.mpr ?_
  cases aJ (f 0)
  ·simp;omega
  ·simp;omega
 rw[e3]
 cases wR (f 0) a b<;>rfl
def uB (y:List Nat) (f g:Int->Nat):Prop:= ∃a b,Run f g a b/\wR (f 0) a b=true/\gY y f g a≠g_ y f g b
def fz (y:List Nat) (f g:Int->Nat):Prop:= ∃a,Run f g a 0/\gY y f g a≠g_ y f g 0
open Classical in
noncomputable def one (p:Prop):Int:=if p then 1 else 0
theorem e_ {p:Prop} (h:p):one p=1:=by unfold one;rw[if_pos h]
theorem bg {p:Prop} (h: ¬p):one p=0:=by unfold one;rw[if_neg h]
theorem br {p q:Prop} (h:p↔q):one p=one q:=by rw[propext h]
theorem Run.zero {f g:Int->Nat} {a b:Nat} (h:Run f g a b):f 0=g 0:=h.og 0 (by omega) (by omega)
theorem FQ {y:List Nat} {f g:Int->Nat} {e0 e1:Bool} {m:Prop}
  (r0:f 0=g 0-> ∃a b,Run f g a b) (r1:f (-1)=g (-1)-> ∃a b,Run (dU f) (dU g) a b)
  (h0: ∀a b,Run f g a b->e0=z9 y f g a b) (h1: ∀a b,Run (dU f) (dU g) a b->e1=z9 y (dU f) (dU g) a b)
  (ma:f 0=g 0->f (-1)≠g (-1)->(m↔e0≠g_ y f g 0)) (mb:f (-1)=g (-1)->f 0≠g 0->(m↔e1≠gY y (dU f) (dU g) 0)) (mc:f (-1)=g (-1)->f 0=g 0->(m↔e1≠e0))
  (t:f 0=g 0\/f (-1)=g (-1)):one m=one (fz y f g)+one (uB y (dU f) (dU g)) - one (uB y f g):=by
 have hb: ∀{a b},Run (dU f) (dU g) a b->f (-1)=g (-1):=fun h=>h.zero
 by_cases z0:f 0=g 0
 ·obtain ⟨a,b,r⟩:=r0 z0
  have e:=h0 a b r
  unfold z9 at e
  have hu:uB y f g↔(wR (f 0) a b=true/\gY y f g a≠g_ y f g b):=⟨fun ⟨a',b',r',x⟩=>by obtain ⟨rfl,rfl⟩:=r.one r';exact x,fun x=>⟨a,b,r,x⟩⟩
  by_cases z1:f (-1)=g (-1)
  ·cases b with
   | zero=>exact absurd z1 r.lo
   | succ b=>
    have r2:=r.bk
    have e2:=h1 _ _ r2
    unfold z9 at e2
    have Ss:uB y (dU f) (dU g)↔(wR (dU f 0) (a+1) b=true/\gY y f g a≠g_ y f g (b+1)):=⟨fun ⟨a',b',r',x⟩=>by
     obtain ⟨rfl,rfl⟩:=r2.one r'
     rw[me,mf]at x;exact x,fun x=>⟨_,_,r2,by rw[me,mf];exact x⟩⟩
    rw[me,mf]at e2
    have Su: ¬fz y f g:=fun ⟨a',r',_⟩=>absurd (r.one r').2 (Qdu b)
    rw[bg Su,br hu,br Ss,br (mc z1 z0),e,e2]
    have mono:= @FP (f 0) (dU f 0) a b
    generalize wR (f 0) a (b+1)=B0 at*
    generalize wR (dU f 0) (a+1) b=B1 at*
    generalize gY y f g a=A at*
    generalize g_ y f g (b+1)=C at*
    revert mono
    cases B0<;>cases B1<;>cases A<;>cases C<;>simp[one]
  ·have b0:b=0:=by
    cases b with
    | zero=>rfl
    | succ b=>exact absurd (r.og (-1) (by omega) (by omega)) z1
   subst b0
   have Ss: ¬uB y (dU f) (dU g):=fun ⟨_,_,r',_⟩=>z1 (hb r')
   have Su:fz y f g↔gY y f g a≠g_ y f g 0:=⟨fun ⟨a',r',x⟩=>by obtain ⟨rfl,_⟩:=r.one r';exact x,fun x=>⟨a,r,x⟩⟩
   rw[bg Ss,br Su,br hu,br (ma z0 z1),e]
   generalize wR (f 0) a 0=B0 at*
   generalize gY y f g a=A at*
   generalize g_ y f g 0=C at*
   cases B0<;>cases A<;>cases C<;>simp[one]
 ·have z1:=t.resolve_left z0
  obtain ⟨a,b,r⟩:=r1 z1
  have a0:a=0:=by
   cases a with
   | zero=>rfl
   | succ a=>exact absurd (r.fd.zero) z0
  subst a0
  have e:=h1 _ _ r
  unfold z9 at e
  have Z9: ¬uB y f g:=fun ⟨_,_,r',_⟩=>z0 r'.zero
  have Su: ¬fz y f g:=fun ⟨_,r',_⟩=>z0 r'.zero
  have Ss:uB y (dU f) (dU g)↔(wR (dU f 0) 0 b=true/\gY y (dU f) (dU g) 0≠g_ y (dU f) (dU g) b):=⟨fun ⟨a',b',r',x⟩=>by
   obtain ⟨rfl,rfl⟩:=r.one r';exact x,fun x=>⟨_,_,r,x⟩⟩
  rw[bg Z9,bg Su,br Ss,br (mb z1 z0),e]
  generalize wR (dU f 0) 0 b=B0 at*
  generalize gY y (dU f) (dU g) 0=A at*
  generalize g_ y (dU f) (dU g) b=C at*
  cases B0<;>cases A<;>cases C<;>simp[one]
theorem d_ {f g:Int->Nat} {p q:Nat} (hp:0<p) (hq:0<q) (Pf: ∀k,f (k+p)=f k) (Pg: ∀k,g (k+q)=g k) (h0:f 0=g 0) (hn: ∃k,f k≠g k): ∃a b,Run f g a b/\a<p+q/\b<p+q:=by
 obtain ⟨k0,V_⟩:=hn
 have up: ∃a:Nat,a<p+q/\(∀j:Nat,j<a->f (j+1)=g (j+1))/\f (a+1)≠g (a+1):=by
  obtain ⟨_,b,c,d⟩:=iB (fun k=>f (k+1)) (fun k=>g (k+1)) (p+q) 0
  by_cases z:gS (fun k=>f (k+1)) (fun k=>g (k+1)) (p+q) 0<p+q
  ·exact ⟨_,z,fun j hj=>c j (Qad _) hj,d (by omega)⟩
  ·refine absurd ?_ V_
   have:=fw (f:=fun k=>f (k+1)) (g:=fun k=>g (k+1)) hp hq (fun k=>by rw[show k+(p:Int)+1=k+1+p by omega];exact Pf _) (fun k=>by rw[show k+(q:Int)+1=k+1+q by omega];exact Pg _) (fun n hn=>c n (Qad _) (by omega)) (k0 - 1)
   rwa [show k0 - 1+1=k0 by omega]at this
 have Z_: ∀k,f (-(k+p))=f (-k):=fun k=>by have:=Pf (-(k+p));rw[<-this];congr 1;omega
 have Pg': ∀k,g (-(k+q))=g (-k):=fun k=>by have:=Pg (-(k+q));rw[<-this];congr 1;omega
 have dn: ∃a:Nat,a<p+q/\(∀j:Nat,j<a->f (-(j:Int) - 1)=g (-(j:Int) - 1))/\f (-(a:Int) - 1)≠g (-(a:Int) - 1):=by
  obtain ⟨_,b,c,d⟩:=iB (fun k=>f (-k - 1)) (fun k=>g (-k - 1)) (p+q) 0
  by_cases z:gS (fun k=>f (-k - 1)) (fun k=>g (-k - 1)) (p+q) 0<p+q
  ·exact ⟨_,z,fun j hj=>c j (Qad _) hj,d (by omega)⟩
  ·refine absurd ?_ V_
   have:=fw (f:=fun k=>f (-k - 1)) (g:=fun k=>g (-k - 1)) hp hq (fun k=>by have:=Z_ (k+1);rw[show -(k+(p:Int)) - 1= -(k+1+p) by omega,this];congr 1;omega) (fun k=>by have:=Pg' (k+1);rw[show -(k+(q:Int)) - 1= -(k+1+q) by omega,this];congr 1;omega) (fun n hn=>c n (Qad _) (by omega)) (-k0 - 1)
   rwa [show -(-k0 - 1) - 1=k0 by omega]at this
 obtain ⟨a,ha,a1,a2⟩:=up
 obtain ⟨b,hb,b1,b2⟩:=dn
 refine ⟨a,b,⟨fun k h1 h2=>?_,a2,b2⟩,ha,hb⟩
 by_cases z:k=0
 ·rw[z];exact h0
 ·by_cases z2:0<k
  ·obtain ⟨j,rfl⟩: ∃j:Nat,k=j+1:=⟨(k - 1).toNat,by omega⟩
   exact a1 j (by omega)
  ·obtain ⟨j,rfl⟩: ∃j:Nat,k= -(j:Int) - 1:=⟨(-k - 1).toNat,by omega⟩
   exact b1 j (by omega)
theorem FR {y:List Nat} {p p' x:Nat} (hy:Yd y) (hp:p∈y) (z_:p'∈y) (hx:x∈y) (h1:p≠p') (h2:p≠x) (h3:p'≠x):decide (xW y p x<xW y p' x)=!gr y p p' x:=by
 have ip:=Zw hp
 have ip':=Zw z_
 have ix:=Zw hx
 have n1:=cH hp z_ h1
 have n2:=cH hp hx h2
 have n3:=cH z_ hx h3
 rw[gk hy.nd hp z_ hx h1 h2 h3]
 unfold xW
 rw[jB ip ix,jB ip' ix, <-decide_not]
 refine decide_eq_decide.mpr ?_
 unfold ka
 split<;>split<;>omega
theorem FT {y:List Nat} {f g:Int->Nat} (hy:Yd y) (hf:i6 y f) (hg:i6 y g) (h0:f 0=g 0) (h1:f (-1)≠g (-1)):g_ y f g 0=!gr y (aC (f (-1))) (aC (g (-1))) (f 0):=by
 have e:g_ y f g 0=decide (xW y (aC (f (-1))) (f 0)<xW y (aC (g (-1))) (g 0)):=rfl
 rw[e, <-h0]
 have r1:=hf.red 0
 have r2:=hg.red 0
 rw[show (0:Int) - 1= -1 by omega]at r1 r2
 exact FR hy (hy.cl _ (hf.bW _)) (hy.cl _ (hg.bW _)) (hf.bW 0) (fun z=>h1 (fP (hy.lt _ (hf.bW _)) (hy.lt _ (hg.bW _)) z)) (Ne.symm r1) (by rw[h0];exact Ne.symm r2)
theorem FU {y:List Nat} {f g:Int->Nat} {a:Nat} (h:f a=g a):gY y f g a=gr y (aC (f a)) (f (a+1)) (g (a+1)):=by
 unfold gY eQ
 rw[show (a:Int)+1 - 1=a by omega, <-h]
 rfl
theorem tU {y:List Nat} {f g:Int->Nat} {n:Nat} (hy:Yd y) (hf:i6 y f) (hg:i6 y g) (hd:f (-1)≠g (-1)->gS f g n 0<n/\f (gS f g n 0)≠g (gS f g n 0)):fz y f g↔0<al y f g n:=by
 unfold al
 by_cases z:f 0≠g 0\/f (-1)=g (-1)
 ·rw[if_pos z]
  refine ⟨fun ⟨a,r,_⟩=>?_,fun h=>absurd h (Qbb _)⟩
  rcases z with z | z
  ·exact absurd r.zero z
  ·exact absurd z r.lo
 ·rw[if_neg z]
  have z0:f 0=g 0:=Classical.byContradiction fun q=>z (.inl q)
  have z1:f (-1)≠g (-1):=fun q=>z (.inr q)
  obtain ⟨d1,d2⟩:=hd z1
  obtain ⟨_,_,d3,_⟩:=iB f g n 0
  generalize gS f g n 0=D at*
  cases D with
  | zero=>exact absurd z0 d2
  | succ a=>
   have r:Run f g a 0:=⟨fun k h1 h2=>by
    obtain ⟨j,rfl⟩: ∃j:Nat,k=j:=⟨k.toNat,by omega⟩
    exact d3 j (Qad _) (by omega),d2,z1⟩
   have e1:((a+1:Nat):Int)=(a:Int)+1:=by omega
   rw[e1,show (a:Int)+1 - 1=a by omega]
   have TQ:=d3 a (Qad _) (Qci a)
   have rf:=hf.red (a+1)
   have rg:=hg.red (a+1)
   rw[show (a:Int)+1 - 1=a by omega]at rf rg
   have d2':f (a+1)≠g (a+1):=d2
   have eg:=Bs hy.nd (hy.cl _ (hf.bW a)) (hf.bW (a+1)) (hg.bW (a+1)) (Ne.symm rf) (by rw[TQ];exact Ne.symm rg) d2'
   rw[eg, <-FU TQ]
   have eb:=FT hy hf hg z0 z1
   have key:fz y f g↔gY y f g a≠g_ y f g 0:=⟨fun ⟨a',r',x⟩=>by obtain ⟨rfl,_⟩:=r.one r';exact x,fun x=>⟨a,r,x⟩⟩
   rw[key,eb]
   generalize gr y (aC (f (-1))) (aC (g (-1))) (f 0)=G
   generalize gY y f g a=A
   cases G<;>cases A<;>simp
noncomputable def oO (a b a' b':Nat):Bool:=decide (ka a a' b) != decide (ka a b' b)
theorem jH (a b a' b':Nat):oO a b a' b'=oO a b b' a':=by unfold oO;generalize decide (ka a a' b)=p;generalize decide (ka a b' b)=q;cases p<;>cases q<;>rfl
theorem xX (a b:Nat):oO a b a b=false:=by
 unfold oO
 have h1: ¬ka a a b:=by unfold ka;omega
 have h2: ¬ka a b b:=by unfold ka;omega
 rw[decide_eq_false h1,decide_eq_false h2]
 rfl
theorem kc {a b:Nat} (h:a≠b):decide (b<a)=!decide (a<b):=by
 rcases Qc0 h with q | q
 ·rw[decide_eq_true q,decide_eq_false (Qd4 q)];rfl
 ·rw[decide_eq_true q,decide_eq_false (Qd4 q)];rfl
theorem Lk {a b c:Nat} (h1:a≠b) (h2:b≠c) (h3:a≠c):decide (ka a b c)=!(decide (a<b) ^^ (decide (b<c) ^^ decide (c<a))):=by
 have e:decide (ka a b c)=((decide (a<b)&&decide (b<c))||((decide (b<c)&&decide (c<a))||(decide (c<a)&&decide (a<b)))):=by
  rw[<-Qfw, <-Qfw, <-Qfw, <-Bool.decide_or, <-Bool.decide_or]
  exact decide_eq_decide.mpr Iff.rfl
 rw[e]
 have k1:decide (a<b)=true->decide (b<c)=true->decide (c<a)=true->False:=fun p q r=>Qd4 (Qc9 (of_decide_eq_true p) (of_decide_eq_true q)) (of_decide_eq_true r)
 have k2:decide (b<a)=true->decide (c<b)=true->decide (a<c)=true->False:=fun p q r=>Qd4 (Qc9 (of_decide_eq_true q) (of_decide_eq_true p)) (of_decide_eq_true r)
 rw[kc h1,kc h2,kc (Ne.symm h3)]at k2
 revert k1 k2
 generalize decide (a<b)=p
 generalize decide (b<c)=q
 generalize decide (c<a)=r
 revert p q r
 decide
theorem FV {a b a' b':Nat} (h1:a≠b) (h3:a≠a') (h4:a≠b') (h5:b≠a') (h6:b≠b'):oO a b a' b'=((decide (a<a') ^^ decide (a'<b)) ^^ (decide (a<b') ^^ decide (b'<b))):=by
 unfold oO
 rw[Lk h3 (Ne.symm h5) h1,Lk h4 (Ne.symm h6) h1]
 generalize decide (a<a')=p
 generalize decide (a'<b)=q
 generalize decide (a<b')=r
 generalize decide (b'<b)=s
 generalize decide (b<a)=t
 revert p q r s t
 decide
theorem mi {a b a' b':Nat} (h1:a≠b) (h2:a'≠b') (h3:a≠a') (h4:a≠b') (h5:b≠a') (h6:b≠b'):oO a b a' b'=oO a' b' a b:=by
 rw[FV h1 h3 h4 h5 h6,FV h2 (Ne.symm h3) (Ne.symm h5) (Ne.symm h4) (Ne.symm h6),kc h3,kc (Ne.symm h6)]
 generalize decide (a<a')=p
 generalize decide (a'<b)=q
 generalize decide (a<b')=r
 generalize decide (b'<b)=s
 revert p q r s
 decide
theorem xY {a b a' b':Nat} (h1:a≠b) (h2:a'≠b') (h3:a≠a') (h4:a≠b') (h5:b≠a') (h6:b≠b'):oO b a a' b'=oO a b a' b':=by
 rw[mi (Ne.symm h1) h2 h5 h6 h3 h4,jH,mi h2 h1 (Ne.symm h3) (Ne.symm h5) (Ne.symm h4) (Ne.symm h6)]
theorem JI {a b c i j k:Nat} (n1:i≠j) (n2:i≠k) (n3:j≠k) (h1:i<j->a<b) (h2:j<i->b<a) (h3:i<k->a<c) (h4:k<i->c<a) (h5:j<k->b<c) (h6:k<j->c<b):ka a b c↔ka i j k:=by
 have e: ∀{i j a b:Nat},i≠j->(i<j->a<b)->(j<i->b<a)->(i<j↔a<b):=fun {i j a b} n f g=>⟨f,fun q=>(Qc0 n).elim id fun r=>absurd (g r) (Qd4 q)⟩
 unfold ka
 rw[e n1 h1 h2,e n3 h5 h6,e (Ne.symm n2) h4 h3]
def Sep (y:List Nat) (ps:List (Nat×Nat)):Prop:= ∀p∈ps, ∀q∈ps,y.idxOf p.1<y.idxOf q.1->p.2<q.2
theorem Sep.ka {y:List Nat} {ps:List (Nat×Nat)} (h:Sep y ps) {a b c:Nat×Nat} (ha:a∈ps) (hb:b∈ps) (hc:c∈ps) (n1:y.idxOf a.1≠y.idxOf b.1) (n2:y.idxOf a.1≠y.idxOf c.1) (n3:y.idxOf b.1≠y.idxOf c.1):My.ka a.2 b.2 c.2↔My.ka (y.idxOf a.1) (y.idxOf b.1) (y.idxOf c.1):=JI n1 n2 n3 (h a ha b hb) (h b hb a ha) (h a ha c hc) (h c hc a ha) (h b hb c hc) (h c hc b hb)
theorem Sep.gr {y:List Nat} {ps:List (Nat×Nat)} (h:Sep y ps) (hn:y.Nodup) {a b c:Nat×Nat} (ha:a∈ps) (hb:b∈ps) (hc:c∈ps) (ya:a.1∈y) (yb:b.1∈y) (yc:c.1∈y) (n1:a.1≠b.1) (n2:a.1≠c.1) (n3:b.1≠c.1):decide (My.ka a.2 b.2 c.2)=My.gr y a.1 b.1 c.1:=by
 rw[gk hn ya yb yc n1 n2 n3]
 exact decide_eq_decide.mpr (h.ka ha hb hc (cH ya yb n1) (cH ya yc n2) (cH yb yc n3))
theorem Sep.same {y:List Nat} {ps:List (Nat×Nat)} (h:Sep y ps) {a b c:Nat×Nat} (ha:a∈ps) (hb:b∈ps) (hc:c∈ps) (e:b.1=c.1) (n:y.idxOf a.1≠y.idxOf c.1):My.ka a.2 b.2 c.2↔b.2<c.2:=by
 have h1:=h a ha b hb
 have h2:=h b hb a ha
 have h3:=h a ha c hc
 have h4:=h c hc a ha
 rw[e]at h1 h2
 unfold My.ka
 omega
theorem Sep.Ll {y:List Nat} {ps:List (Nat×Nat)} (h:Sep y ps) {a b c:Nat×Nat} (ha:a∈ps) (hb:b∈ps) (hc:c∈ps) (e:a.1=b.1) (n:y.idxOf a.1≠y.idxOf c.1):My.ka a.2 b.2 c.2↔a.2<b.2:=by
 have h1:=h b hb c hc
 have h2:=h c hc b hb
 have h3:=h a ha c hc
 have h4:=h c hc a ha
 rw[<-e]at h1 h2
 unfold My.ka
 omega
section
variable {y:List Nat} {f g:Int->Nat} {a b a' b':Nat}
theorem M3 (hy:Yd y) (hf:i6 y f) (hg:i6 y g) (h:Sep y [(aC (f (-1)),a),(f 0,b),(aC (g (-1)),a'),(g 0,b')]) (hb:b≠b') (z0:f 0=g 0) (z1:f (-1)≠g (-1)):oO a b a' b'=true↔decide (b<b')≠g_ y f g 0:=by
 have r1:=hf.red 0
 have r2:=hg.red 0
 rw[show (0:Int) - 1= -1 by omega]at r1 r2
 have ya:=hy.cl _ (hf.bW (-1))
 have TR:=hy.cl _ (hg.bW (-1))
 have n1:aC (f (-1))≠aC (g (-1)):=fun z=>z1 (fP (hy.lt _ (hf.bW _)) (hy.lt _ (hg.bW _)) z)
 have e1:=h.gr hy.nd (a:=(aC (f (-1)),a)) (b:=(aC (g (-1)),a')) (c:=(f 0,b)) (by simp) (by simp) (by simp) ya TR (hf.bW 0) n1 (Ne.symm r1) (by rw[z0];exact Ne.symm r2)
 have e2:=h.same (a:=(aC (f (-1)),a)) (b:=(g 0,b')) (c:=(f 0,b)) (by simp) (by simp) (by simp) z0.symm (cH ya (hf.bW 0) (Ne.symm r1))
 unfold oO
 rw[FT hy hf hg z0 z1]
 simp only at e1 e2
 rw[e1]
 generalize gr y (aC (f (-1))) (aC (g (-1))) (f 0)=G
 by_cases q:b<b'
 ·rw[decide_eq_true q,decide_eq_false (by rw[e2];omega)]
  cases G<;>simp
 ·rw[decide_eq_false q,decide_eq_true (by rw[e2];omega)]
  cases G<;>simp
theorem M4 (hy:Yd y) (hf:i6 y f) (hg:i6 y g) (h:Sep y [(aC (f (-1)),a),(f 0,b),(aC (g (-1)),a'),(g 0,b')]) (ha:a≠a') (z1:f (-1)=g (-1)) (z0:f 0≠g 0):oO a b a' b'=true↔decide (a'<a)≠gY y (dU f) (dU g) 0:=by
 have r1:=hf.red 0
 have r2:=hg.red 0
 rw[show (0:Int) - 1= -1 by omega]at r1 r2
 have ya:=hy.cl _ (hf.bW (-1))
 have TR:=hy.cl _ (hg.bW (-1))
 have e1:=h.Ll (a:=(aC (f (-1)),a)) (b:=(aC (g (-1)),a')) (c:=(f 0,b)) (by simp) (by simp) (by simp) (by show aC _=aC _;rw[z1]) (cH ya (hf.bW 0) (Ne.symm r1))
 have e2:=h.gr hy.nd (a:=(aC (f (-1)),a)) (b:=(g 0,b')) (c:=(f 0,b)) (by simp) (by simp) (by simp) ya (hg.bW 0) (hf.bW 0) (by show aC _≠_;rw[z1];exact Ne.symm r2) (Ne.symm r1) (Ne.symm z0)
 have e3:gY y (dU f) (dU g) 0=gr y (aC (f (-1))) (f 0) (g 0):=FU (f:=dU f) (g:=dU g) (a:=0) z1
 have e4:=FH hy.nd ya (hf.bW 0) (hg.bW 0) (Ne.symm r1) (by rw[z1];exact Ne.symm r2) z0
 unfold oO
 simp only at e1 e2
 rw[e3,e2,e4]
 generalize gr y (aC (f (-1))) (f 0) (g 0)=G
 by_cases q:a'<a
 ·rw[decide_eq_true q,decide_eq_false (by rw[e1];omega)]
  cases G<;>simp
 ·rw[decide_eq_false q,decide_eq_true (by rw[e1];omega)]
  cases G<;>simp
theorem vA (hy:Yd y) (hf:i6 y f) (hg:i6 y g) (h:Sep y [(aC (f (-1)),a),(f 0,b),(aC (g (-1)),a'),(g 0,b')]) (ha:a≠a') (hb:b≠b') (z1:f (-1)=g (-1)) (z0:f 0=g 0):oO a b a' b'=true↔decide (a'<a)≠decide (b<b'):=by
 have r1:=hf.red 0
 rw[show (0:Int) - 1= -1 by omega]at r1
 have ya:=hy.cl _ (hf.bW (-1))
 have e1:=h.Ll (a:=(aC (f (-1)),a)) (b:=(aC (g (-1)),a')) (c:=(f 0,b)) (by simp) (by simp) (by simp) (by show aC _=aC _;rw[z1]) (cH ya (hf.bW 0) (Ne.symm r1))
 have e2:=h.same (a:=(aC (f (-1)),a)) (b:=(g 0,b')) (c:=(f 0,b)) (by simp) (by simp) (by simp) z0.symm (cH ya (hf.bW 0) (Ne.symm r1))
 unfold oO
 simp only at e1 e2
 rw[decide_eq_decide.mpr e1,decide_eq_decide.mpr e2]
 by_cases q:a'<a<;>by_cases q2:b<b'
 ·rw[decide_eq_true q,decide_eq_true q2,decide_eq_false (show ¬a<a' by omega),decide_eq_false (show ¬b'<b by omega)];simp
 ·rw[decide_eq_true q,decide_eq_false q2,decide_eq_false (show ¬a<a' by omega),decide_eq_true (show b'<b by omega)];simp
 ·rw[decide_eq_false q,decide_eq_true q2,decide_eq_true (show a<a' by omega),decide_eq_false (show ¬b'<b by omega)];simp
 ·rw[decide_eq_false q,decide_eq_false q2,decide_eq_true (show a<a' by omega),decide_eq_true (show b'<b by omega)];simp
theorem M5 (hy:Yd y) (hf:i6 y f) (hg:i6 y g) (h:Sep y [(aC (f (-1)),a),(f 0,b),(aC (g (-1)),a'),(g 0,b')]) (z0:f 0≠g 0) (z1:f (-1)≠g (-1)) (z2:aC (f (-1))≠g 0) (z3:aC (g (-1))≠f 0):oO a b a' b'=ac y (aC (f (-1))) (f 0) (aC (g (-1))) (g 0):=by
 have r1:=hf.red 0
 have r2:=hg.red 0
 rw[show (0:Int) - 1= -1 by omega]at r1 r2
 have ya:=hy.cl _ (hf.bW (-1))
 have TR:=hy.cl _ (hg.bW (-1))
 have n1:aC (f (-1))≠aC (g (-1)):=fun z=>z1 (fP (hy.lt _ (hf.bW _)) (hy.lt _ (hg.bW _)) z)
 have e1:=h.gr hy.nd (a:=(aC (f (-1)),a)) (b:=(aC (g (-1)),a')) (c:=(f 0,b)) (by simp) (by simp) (by simp) ya TR (hf.bW 0) n1 (Ne.symm r1) z3
 have e2:=h.gr hy.nd (a:=(aC (f (-1)),a)) (b:=(g 0,b')) (c:=(f 0,b)) (by simp) (by simp) (by simp) ya (hg.bW 0) (hf.bW 0) z2 (Ne.symm r1) (Ne.symm z0)
 unfold oO ac
 simp only at e1 e2
 rw[e1,e2,if_neg (fun q=>q.elim (fun q=>n1 q.symm) fun q=>q.elim z3 fun q=>q.elim (fun q=>z2 q.symm) fun q=>z0 q.symm)]
end
noncomputable def sm:Nat->(Int->Int)->Int
 | 0,_=>0
 | n+1,h=>sm n h+h n
theorem aX {h g:Int->Int}: ∀{n:Nat},(∀i:Nat,i<n->h i=g i)->sm n h=sm n g
 | 0,_=>rfl
 | n+1,e=>by
  show sm n h+h n=sm n g+g n
  rw[aX fun i hi=>e i (by omega),e n (by omega)]
theorem qt (h g:Int->Int): ∀n:Nat,sm n (fun i=>h i+g i)=sm n h+sm n g
 | 0=>rfl
 | n+1=>by
  show sm n _+(h n+g n)=(sm n h+h n)+(sm n g+g n)
  rw[qt h g n];omega
theorem Aa (h g:Int->Int): ∀n:Nat,sm n (fun i=>h i - g i)=sm n h - sm n g
 | 0=>rfl
 | n+1=>by
  show sm n _+(h n - g n)=(sm n h+h n) - (sm n g+g n)
  rw[Aa h g n];omega
theorem fQ: ∀n:Nat,sm n (fun _=>0)=0
 | 0=>rfl
 | n+1=>by show sm n _+0=0;rw[fQ n];rfl
theorem BB (h:Int->Int): ∀n:Nat,sm n (fun i=>h (i - 1))+h ((n:Int) - 1)=sm n h+h (-1)
 | 0=>rfl
 | n+1=>by
  have:=BB h n
  show sm n _+h ((n:Int) - 1)+h (((n+1:Nat):Int) - 1)=(sm n h+h n)+h (-1)
  rw[show ((n+1:Nat):Int) - 1=n by omega]
  omega
theorem mj {h:Int->Int} {n:Nat} (P: ∀k,h (k+n)=h k):sm n (fun i=>h (i - 1))=sm n h:=by
 have h1:=BB h n
 have h2:=P (-1)
 rw[show (-1:Int)+n=(n:Int) - 1 by omega]at h2
 omega
theorem BC (h:Int->Int): ∀n:Nat,sm n (fun i=>h ((n:Int) - 1 - i))=sm n h
 | 0=>rfl
 | n+1=>by
  have e: ∀(m:Nat) (g:Int->Int),sm (m+1) g=g 0+sm m (fun i=>g (i+1)):=fun m=>by
   induction m with
   | zero=>intro g;show (0:Int)+g 0=g 0+0;omega
   | succ m ih=>intro g;show sm (m+1) g+g ((m+1:Nat):Int)=g 0+(sm m (fun i=>g (i+1))+g ((m:Int)+1));rw[ih];rw[show ((m+1:Nat):Int)=(m:Int)+1 by omega];omega
  rw[e]
  have:=BC h n
  show h (((n+1:Nat):Int) - 1 - 0)+sm n (fun i=>h (((n+1:Nat):Int) - 1 - (i+1)))=sm n h+h n
  rw[show ((n+1:Nat):Int) - 1 - 0=n by omega, <-this,Int.add_comm]
  congr 1
  exact aX fun i _=>by congr 1;omega
theorem BD {h:Int->Int} {n:Nat} (P: ∀k,h (k+n)=h k):sm n (fun i=>h (i+1))=sm n h:=by
 have:=mj (h:=fun i=>h (i+1)) (n:=n) (fun k=>by show h (k+n+1)=h (k+1);rw[<-P (k+1)];congr 1;omega)
 rw[<-this]
 exact aX fun i _=>by show h ((i:Int) - 1+1)=h i;congr 1;omega
theorem Ab {h:Int->Int} {n:Nat} (P: ∀k,h (k+n)=h k):sm n (fun i=>h (-i))=sm n h:=by
 rw[<-BC (fun i=>h (-i)) n, <-BD P]
 exact aX fun i _=>by
  show h (-((n:Int) - 1 - i))=h (i+1)
  rw[<-P (-((n:Int) - 1 - i))];congr 1;omega
theorem M6 {h:Int->Int} {n:Nat} (P: ∀k,h (k+n)=h k):sm n (fun i=>h (1 - i))=sm n h:=by
 rw[<-BD P, <-Ab (h:=fun i=>h (i+1)) (fun k=>by show h (k+n+1)=h (k+1);rw[<-P (k+1)];congr 1;omega)]
 exact aX fun i _=>by show h (1 - (i:Int))=h (-(i:Int)+1);congr 1;omega
noncomputable def cA (n m:Nat) (h:Int->Int->Int):Int:=sm n fun i=>sm m fun j=>h i j
theorem bO {n m:Nat} {h g:Int->Int->Int} (e: ∀i j:Nat,i<n->j<m->h i j=g i j):cA n m h=cA n m g:=aX fun i hi=>aX fun j hj=>e i j hi hj
theorem cx (n m:Nat) (h g:Int->Int->Int):cA n m (fun i j=>h i j+g i j)=cA n m h+cA n m g:=by
 unfold cA
 rw[<-qt]
 exact aX fun i _=>qt _ _ _
theorem JJ (n m:Nat) (h g:Int->Int->Int):cA n m (fun i j=>h i j - g i j)=cA n m h - cA n m g:=by
 unfold cA
 rw[<-Aa]
 exact aX fun i _=>Aa _ _ _
theorem tV {n m:Nat} {h:Int->Int->Int} (P: ∀i j,h (i+n) j=h i j) (Q: ∀i j,h i (j+m)=h i j):cA n m (fun i j=>h (i - 1) (j - 1))=cA n m h:=by
 unfold cA
 have e: ∀i:Int,sm m (fun j=>h i (j - 1))=sm m (h i):=fun i=>mj (Q i)
 rw[<-mj (h:=fun i=>sm m fun j=>h i j) (n:=n) (fun k=>aX fun j _=>P k j)]
 exact aX fun i _=>e _
structure OE (y:List Nat) (n:Nat) (F:Int->Int->Nat) (o i:Int->Nat):Prop where
 pos:0<n
 Ac: ∀k,i6 y (F k)
 bk: ∀k,dU (F k)=F (k - 1)
 Sv: ∀k,F (k+n)=F k
 own: ∀k x,F k (x+n)=F k x
 op: ∀k,o (k+n)=o k
 ip: ∀k,i (k+n)=i k
structure Lm (y:List Nat) (F:Int->Int->Nat) (o i:Int->Nat) (G:Int->Int->Nat) (o' i':Int->Nat):Prop where
 sep: ∀s t,Sep y [(aC (F s (-1)),i (s - 1)),(F s 0,o s),(aC (G t (-1)),i' (t - 1)),(G t 0,o' t)]
 on: ∀s t a b,Run (F s) (G t) a b->o s≠o' t/\i s≠i' t/\decide (o s<o' t)=z9 y (F s) (G t) a b/\decide (i' t<i s)=z9 y (F s) (G t) a b
def FW (F G:Int->Int->Nat) (s t:Int):Prop:=F s 0=G t 0\/F s (-1)=G t (-1)
def par (F G:Int->Int->Nat) (s t:Int):Prop:= ∀k,F s k=G t k
noncomputable def JK (o i o' i':Int->Nat) (s t:Int):Bool:=oO (i (s - 1)) (o s) (i' (t - 1)) (o' t)
theorem FX {y:List Nat} {n m:Nat} {F G:Int->Int->Nat} {o i o' i':Int->Nat} (hF:OE y n F o i) (hG:OE y m G o' i') {s t:Int}:par F G (s - 1) (t - 1)↔par F G s t:=by
 unfold par
 rw[<-hF.bk, <-hG.bk]
 unfold dU
 exact ⟨fun h k=>by have:=h (k+1);rwa [show k+1 - 1=k by omega]at this,fun h k=>h _⟩
theorem BE {y:List Nat} {n m:Nat} {F G:Int->Int->Nat} {o i o' i':Int->Nat} (hy:Yd y) (hF:OE y n F o i) (hG:OE y m G o' i') (h:Lm y F o i G o' i'):
  cA n m (fun s t=>one (FW F G s t/\JK o i o' i' s t=true/\ ¬par F G s t))=cA n m fun s t=>one (fz y (F s) (G t)):=by
 have pt: ∀s t:Int,one (FW F G s t/\JK o i o' i' s t=true/\ ¬par F G s t)=one (fz y (F s) (G t))+one (uB y (F (s - 1)) (G (t - 1))) - one (uB y (F s) (G t)):=fun s t=>by
  by_cases hp:par F G s t
  ·have nr: ∀{a b}, ¬Run (F s) (G t) a b:=fun r=>r.hi (hp _)
   have z_:=(FX hF hG).mpr hp
   have nr': ∀{a b}, ¬Run (F (s - 1)) (G (t - 1)) a b:=fun r=>r.hi (z_ _)
   rw[bg (fun z=>z.2.2 hp),bg (fun ⟨_,r,_⟩=>nr r),bg (fun ⟨_,_,r,_⟩=>nr' r),bg (fun ⟨_,_,r,_⟩=>nr r)]
   rfl
  ·by_cases ht:FW F G s t
   ·have dH: ∃k,F s k≠G t k:=Classical.byContradiction fun z=>hp fun k=>Classical.byContradiction fun q=>z ⟨k,q⟩
    have M7: ∃k,F (s - 1) k≠G (t - 1) k:=Classical.byContradiction fun z=>hp ((FX hF hG).mp fun k=>Classical.byContradiction fun q=>z ⟨k,q⟩)
    have e1: ∀s,F (s - 1) 0=F s (-1):=fun s=>by rw[<-hF.bk];rfl
    have e2: ∀t,G (t - 1) 0=G t (-1):=fun s=>by rw[<-hG.bk];rfl
    have ei:one (FW F G s t/\JK o i o' i' s t=true/\ ¬par F G s t)=one (JK o i o' i' s t=true):=br ⟨fun z=>z.2.1,fun z=>⟨ht,z,hp⟩⟩
    rw[ei, <-hF.bk, <-hG.bk]
    refine FQ (e0:=decide (o s<o' t)) (e1:=decide (i' (t - 1)<i (s - 1))) (fun z=>?_) (fun z=>?_) (fun a b r=>(h.on s t a b r).2.2.1) (fun a b r=>?_) (fun z0 z1=>?_) (fun z1 z0=>?_) (fun z1 z0=>?_) ht
    ·obtain ⟨a,b,r,_⟩:=d_ hF.pos hG.pos (hF.own s) (hG.own t) z dH
     exact ⟨a,b,r⟩
    ·obtain ⟨a,b,r,_⟩:=d_ hF.pos hG.pos (hF.own (s - 1)) (hG.own (t - 1)) (by rw[e1,e2];exact z) M7
     rw[hF.bk,hG.bk]
     exact ⟨a,b,r⟩
    ·rw[hF.bk,hG.bk]at r ⊢
     exact (h.on _ _ a b r).2.2.2
    ·obtain ⟨a,b,r,_⟩:=d_ hF.pos hG.pos (hF.own s) (hG.own t) z0 dH
     exact M3 hy (hF.Ac s) (hG.Ac t) (h.sep s t) (h.on s t a b r).1 z0 z1
    ·obtain ⟨a,b,r,_⟩:=d_ hF.pos hG.pos (hF.own (s - 1)) (hG.own (t - 1)) (by rw[e1,e2];exact z1) M7
     exact M4 hy (hF.Ac s) (hG.Ac t) (h.sep s t) (h.on _ _ a b r).2.1 z1 z0
    ·obtain ⟨a,b,r,_⟩:=d_ hF.pos hG.pos (hF.own s) (hG.own t) z0 dH
     obtain ⟨a2,b2,r2,_⟩:=d_ hF.pos hG.pos (hF.own (s - 1)) (hG.own (t - 1)) (by rw[e1,e2];exact z1) M7
     exact vA hy (hF.Ac s) (hG.Ac t) (h.sep s t) (h.on _ _ a2 b2 r2).2.1 (h.on s t a b r).1 z1 z0
   ·have t0:F s 0≠G t 0:=fun z=>ht (.inl z)
    have t1:F (s - 1) 0≠G (t - 1) 0:=by
     rw[<-hF.bk, <-hG.bk]
     exact fun z=>ht (.inr z)
    rw[bg (fun z=>ht z.1),bg (fun ⟨_,r,_⟩=>t0 r.zero),bg (fun ⟨_,_,r,_⟩=>t1 r.zero),bg (fun ⟨_,_,r,_⟩=>t0 r.zero)]
    rfl
 have e:cA n m (fun s t=>one (FW F G s t/\JK o i o' i' s t=true/\ ¬par F G s t))=cA n m (fun s t=>(one (fz y (F s) (G t))+one (uB y (F (s - 1)) (G (t - 1)))) - one (uB y (F s) (G t))):=bO fun s t _ _=>pt s t
 rw[e,JJ,cx,tV (h:=fun s t=>one (uB y (F s) (G t))) (fun s t=>by rw[hF.Sv]) (fun s t=>by rw[hG.Sv])]
 omega
theorem bE {y w:List Nat} (h:SW y w) (i:Int):i6 y (sq w i):=⟨fun k=>h.rd _,fun k=>by
 unfold sq
 have:=h.red (i+k)
 rwa [show i+k - 1=i+(k - 1) by omega]at this⟩
theorem ff (w:List Nat) (i:Int):ku (sq w i)=bq w i:=by
 funext k
 unfold ku sq bq
 rw[show i+ -k=i - k by omega]
theorem gL {y w:List Nat} (hy:Yd y) (h:SW y w) (i:Int):i6 y (bq w i):=by rw[<-ff];exact (bE h i).rv hy
theorem vB (w:List Nat) (i:Int):sq w (i+w.length)=sq w i:=by
 funext k
 unfold sq
 rw[show i+(w.length:Int)+k=i+k+w.length by omega,iP]
theorem k_ (w:List Nat) (i:Int):bq w (i+w.length)=bq w i:=by rw[<-ff, <-ff,vB]
theorem M8 (w:List Nat) (i:Int):bq w (i - w.length)=bq w i:=by rw[<-k_ w (i - w.length)];congr 1;omega
theorem FY {y w:List Nat} {po pi:Int->Nat} (h:SW y w) (P: ∀k,po (k+w.length)=po k) (Q: ∀k,pi (k+w.length)=pi k):OE y w.length (sq w) po pi:=
 ⟨Zs.mpr h.ne,bE h,fun k=>by funext x;unfold dU sq;congr 1;omega,vB w,fun k x=>cq w k x,P,Q⟩
theorem BF {n:Nat} {h:Int->Nat} (P: ∀k,h (k+n)=h k) (k:Int):h (-(k+n))=h (-k):=by rw[<-P (-(k+n))];congr 1;omega
theorem M9 {y w:List Nat} {po pi:Int->Nat} (hy:Yd y) (h:SW y w) (P: ∀k,po (k+w.length)=po k) (Q: ∀k,pi (k+w.length)=pi k):OE y w.length (fun k=>bq w (-k)) (fun k=>pi (-k)) (fun k=>po (-k)):=
 ⟨Zs.mpr h.ne,fun k=>gL hy h _,fun k=>by funext x;unfold dU bq;congr 2;omega,fun k=>by
  show bq w (-(k+w.length))=bq w (-k)
  rw[<-k_ w (-(k+w.length))];congr 1;omega,fun k x=>kZ w _ x,BF Q,BF P⟩
section
variable {y w v:List Nat} {po pi qo qi:Int->Nat}
noncomputable def jh (po pi qo qi:Int->Nat) (i j:Int):Bool:=oO (pi (i - 1)) (po i) (qi (j - 1)) (qo j)
def cX (w v:List Nat) (i j:Int):Prop:= ∀k,sq w i k=sq v j k
def lh (w v:List Nat) (i j:Int):Prop:= ∀k,sq w i k=bq v (j - 1) k
def OF (w v:List Nat) (i j:Int):Prop:=rd w i=rd v j\/rd w (i - 1)=rd v (j - 1)
def BG (w v:List Nat) (i j:Int):Prop:=rd w i=aC (rd v (j - 1))\/rd w (i - 1)=aC (rd v j)
theorem JL (w v:List Nat) (i j:Int):FW (sq w) (sq v) i j↔OF w v i j:=by
 unfold FW OF sq
 rw[show i+0=i by omega,show j+0=j by omega]
 rfl
theorem JM (w v:List Nat) (i k:Int):FW (sq w) (fun k=>bq v (-k)) i k↔BG w v i (1 - k):=by
 unfold FW BG sq bq
 show rd w (i+0)=aC (rd v (-k - 0))\/rd w (i+ -1)=aC (rd v (-k - -1))↔_
 rw[show i+0=i by omega,show -k - 0=1 - k - 1 by omega,show -k - -1=1 - k by omega]
 rfl
theorem Wa (hy:Yd y) (hw:SW y w) (hv:SW y v) {i j:Int} (h:OF w v i j) (g:BG w v i j):False:=by
 have rL:=hw.red i
 have XQ:=hv.red j
 have l1:=hy.lt _ (hw.rd (i - 1))
 have l2:=hy.lt _ (hv.rd (j - 1))
 have l3:=hy.lt _ (hv.rd j)
 rcases h with h | h<;>rcases g with g | g
 ·exact XQ (h.symm.trans g)
 ·rw[<-h]at g;exact rL (by rw[g,aN (hy.lt _ (hw.rd i))])
 ·rw[<-h]at g;exact rL g
 ·rw[h]at g;exact XQ (by rw[g,aN l3])
theorem xZ (hy:Yd y) (hw:SW y w) (hv:SW y v) (P1: ∀k,po (k+w.length)=po k) (P2: ∀k,pi (k+w.length)=pi k) (Q1: ∀k,qo (k+v.length)=qo k) (Q2: ∀k,qi (k+v.length)=qi k)
  (hS:Lm y (sq w) po pi (sq v) qo qi) (hO:Lm y (sq w) po pi (fun k=>bq v (-k)) (fun k=>qi (-k)) (fun k=>qo (-k))):
  cA w.length v.length (fun i j=>one (jh po pi qo qi i j=true))=
   cA w.length v.length (fun i j=>one (ac y (aC (rd w (i - 1))) (rd w i) (aC (rd v (j - 1))) (rd v j)=true))+cA w.length v.length (fun i j=>one (0<al y (sq w i) (sq v j) (w.length+v.length)))+cA w.length v.length (fun i j=>one (0<al y (sq w i) (bq v j) (w.length+v.length)))
   +cA w.length v.length (fun i j=>one (cX w v i j/\jh po pi qo qi i j=true))+cA w.length v.length (fun i j=>one (lh w v i j/\jh po pi qo qi i j=true)):=by
 have fw:=FY hw P1 P2
 have fv:=FY hv Q1 Q2
 have fo:=M9 hy hv Q1 Q2
 have s1:=BE hy fw fv hS
 have s2:=BE hy fw fo hO
 have e1:cA w.length v.length (fun s t=>one (fz y (sq w s) (sq v t)))=cA w.length v.length (fun i j=>one (0<al y (sq w i) (sq v j) (w.length+v.length))):=bO fun i j _ _=>br (tU hy (bE hw _) (bE hv _) fun z=>eN hw.ne hv.ne (fun k=>cq w i k) (fun k=>cq v j k) z)
 have e2:cA w.length v.length (fun s t=>one (fz y (sq w s) (bq v (-t))))=cA w.length v.length (fun i j=>one (0<al y (sq w i) (bq v j) (w.length+v.length))):=by
  have:cA w.length v.length (fun s t=>one (fz y (sq w s) (bq v (-t))))=cA w.length v.length (fun s t=>one (fz y (sq w s) (bq v t))):=aX fun i _=>Ab (h:=fun t=>one (fz y (sq w i) (bq v t))) fun k=>by rw[k_]
  rw[this]
  exact bO fun i j _ _=>br (tU hy (bE hw _) (gL hy hv _) fun z=>eN hw.ne hv.ne (fun k=>cq w i k) (fun k=>kZ v j k) z)
 have e3:cA w.length v.length (fun s t=>one (FW (sq w) (fun k=>bq v (-k)) s t/\JK po pi (fun k=>qi (-k)) (fun k=>qo (-k)) s t=true/\ ¬par (sq w) (fun k=>bq v (-k)) s t))=cA w.length v.length (fun i j=>one (BG w v i j/\jh po pi qo qi i j=true/\ ¬lh w v i j)):=by
  have P: ∀i:Int, ∀k:Int,(fun j=>one (BG w v i j/\jh po pi qo qi i j=true/\ ¬lh w v i j)) (k+v.length)=(fun j=>one (BG w v i j/\jh po pi qo qi i j=true/\ ¬lh w v i j)) k:=fun i k=>by
   show one (BG w v i (k+v.length)/\jh po pi qo qi i (k+v.length)=true/\ ¬lh w v i (k+v.length))=_
   unfold BG jh lh
   rw[show k+(v.length:Int) - 1=k - 1+v.length by omega,iP,iP,Q1,Q2,k_]
  refine aX fun i _=>(aX fun k _=>?_).trans (M6 (P i))
  refine br ?_
  rw[JM]
  have ec:JK po pi (fun k=>qi (-k)) (fun k=>qo (-k)) i k=jh po pi qo qi i (1 - k):=by
   unfold JK jh
   rw[jH]
   show oO (pi ((i:Int) - 1)) (po i) (qi (-(k:Int))) (qo (-((k:Int) - 1)))=_
   rw[show -((k:Int) - 1)=1 - k by omega,show (1:Int) - k - 1= -k by omega]
  have ep:par (sq w) (fun k=>bq v (-k)) i k↔lh w v i (1 - k):=by
   unfold par lh
   rw[show (1:Int) - k - 1= -k by omega]
  rw[ec,ep]
 rw[e1]at s1
 rw[e2,e3]at s2
 rw[<-s1, <-s2, <-cx, <-cx, <-cx, <-cx]
 refine bO fun i j _ _=>?_
 have hc:JK po pi qo qi i j=jh po pi qo qi i j:=rfl
 have et:=JL w v i j
 have pS:cX w v i j->OF w v i j:=fun z=> .inl (by have:=z 0;unfold sq at this;rwa [show (i:Int)+0=i by omega,show (j:Int)+0=j by omega]at this)
 have pO:lh w v i j->BG w v i j:=fun z=> .inl (by have:=z 0;unfold sq bq at this;rwa [show (i:Int)+0=i by omega,show (j:Int) - 1 - 0=j - 1 by omega]at this)
 have acS:OF w v i j-> ¬ac y (aC (rd w (i - 1))) (rd w i) (aC (rd v (j - 1))) (rd v j)=true:=fun z=>by
  unfold ac
  rw[if_pos (z.elim (fun z=> .inr (.inr (.inr z.symm))) fun z=> .inl (by rw[z]))]
  decide
 have acO:BG w v i j-> ¬ac y (aC (rd w (i - 1))) (rd w i) (aC (rd v (j - 1))) (rd v j)=true:=fun z=>by
  unfold ac
  rw[if_pos (z.elim (fun z=> .inr (.inl z.symm)) fun z=> .inr (.inr (.inl (by rw[z,aN (hy.lt _ (hv.rd _))]))))]
  decide
 have ep:par (sq w) (sq v) i j↔cX w v i j:=Iff.rfl
 by_cases tS:OF w v i j
 ·have nO: ¬BG w v i j:=fun z=>Wa hy hw hv tS z
  rw[bg (acS tS),bg (p:=BG w v i j/\_) (fun z=>nO z.1),bg (p:=lh w v i j/\_) (fun z=>nO (pO z.1))]
  by_cases c:jh po pi qo qi i j=true
  ·by_cases q:cX w v i j
   ·rw[e_ c,bg (fun z=>z.2.2 q),e_ ⟨q,c⟩];rfl
   ·rw[e_ c,e_ ⟨et.mpr tS,c,q⟩,bg (fun z=>q z.1)];rfl
  ·rw[bg c,bg (fun z=>c z.2.1),bg (fun z=>c z.2)];rfl
 ·rw[bg (p:=FW _ _ _ _/\_) (fun z=>tS (et.mp z.1)),bg (p:=cX w v i j/\_) (fun z=>tS (pS z.1))]
  by_cases tO:BG w v i j
  ·rw[bg (acO tO)]
   by_cases c:jh po pi qo qi i j=true
   ·by_cases q:lh w v i j
    ·rw[e_ c,bg (fun z=>z.2.2 q),e_ ⟨q,c⟩];rfl
    ·rw[e_ c,e_ ⟨tO,c,q⟩,bg (fun z=>q z.1)];rfl
   ·rw[bg c,bg (fun z=>c z.2.1),bg (fun z=>c z.2)];rfl
  ·rw[bg (p:=BG w v i j/\_) (fun z=>tO z.1),bg (p:=lh w v i j/\_) (fun z=>tO (pO z.1))]
   have l2:=hy.lt _ (hv.rd (j - 1))
   have l3:=hy.lt _ (hv.rd j)
   have l1:=hy.lt _ (hw.rd (i - 1))
   have f0: ∀(u:List Nat) (i:Int),sq u i 0=rd u i:=fun u i=>by unfold sq;rw[show i+0=i by omega]
   have f1: ∀(u:List Nat) (i:Int),sq u i (-1)=rd u (i - 1):=fun u i=>rfl
   have e:=M5 hy (bE hw i) (bE hv j) (hS.sep i j) (fun z=>tS (.inl (by rw[f0,f0]at z;exact z))) (fun z=>tS (.inr z)) (fun z=>tO (.inr (by rw[f0,f1]at z;rw[<-z,aN l1]))) (fun z=>tO (.inl (by rw[f0,f1]at z;exact z.symm)))
   rw[f0,f0,f1,f1]at e
   have e':jh po pi qo qi i j=ac y (aC (rd w (i - 1))) (rd w i) (aC (rd v (j - 1))) (rd v j):=e
   rw[e']
   omega
theorem JN (hy:Yd y) (hw:SW y w) (hv:SW y v) (hS:Lm y (sq w) po pi (sq v) qo qi) (D:Bool)
  (h: ∀i j,cX w v i j->po i≠qo j/\pi i≠qi j/\decide (po i<qo j)=D/\decide (qi j<pi i)=D):cA w.length v.length (fun i j=>one (cX w v i j/\jh po pi qo qi i j=true))=0:=by
 have: ∀i j:Int, ¬(cX w v i j/\jh po pi qo qi i j=true):=fun i j ⟨p,c⟩=>by
  have p1:cX w v (i - 1) (j - 1):=fun k=>by
   have:=p (k - 1)
   unfold sq at this ⊢
   rw[show i - 1+k=i+(k - 1) by omega,show j - 1+k=j+(k - 1) by omega]
   exact this
  have h0:=h i j p
  have h1:=h _ _ p1
  have:=(vA hy (bE hw i) (bE hv j) (hS.sep i j) h1.2.1 h0.1 (p (-1)) (p 0)).mp c
  exact this (h1.2.2.2.trans h0.2.2.1.symm)
 rw[show (0:Int)=cA w.length v.length (fun _ _=>0) by unfold cA;rw[show (fun _:Int=>sm v.length fun _=>0)=fun _=>0 from funext fun _=>fQ _,fQ]]
 exact bO fun i j _ _=>bg (this i j)
theorem JO (hy:Yd y) (hw:SW y w) (hv:SW y v) (hO:Lm y (sq w) po pi (fun k=>bq v (-k)) (fun k=>qi (-k)) (fun k=>qo (-k))) (D:Bool)
  (h: ∀i j,(∀k,sq w i k=bq v j k)->po i≠qi j/\pi i≠qo j/\decide (po i<qi j)=D/\decide (qo j<pi i)=D):cA w.length v.length (fun i j=>one (lh w v i j/\jh po pi qo qi i j=true))=0:=by
 have: ∀i j:Int, ¬(lh w v i j/\jh po pi qo qi i j=true):=fun i j ⟨p,c⟩=>by
  have p1: ∀k,sq w (i - 1) k=bq v j k:=fun k=>by
   have:=p (k - 1)
   unfold sq bq at this ⊢
   rw[show i - 1+k=i+(k - 1) by omega,this]
   congr 2;omega
  have h0:=h i (j - 1) p
  have h1:=h _ _ p1
  have s:=hO.sep i (1 - j)
  simp only[show -(1 - j)=j - 1 by omega,show -(1 - j - 1)=j by omega]at s
  unfold jh at c
  rw[jH]at c
  have:=(vA hy (bE hw i) (gL hy hv (j - 1)) s h1.2.1 h0.1 (p (-1)) (p 0)).mp c
  exact this (h1.2.2.2.trans h0.2.2.1.symm)
 rw[show (0:Int)=cA w.length v.length (fun _ _=>0) by unfold cA;rw[show (fun _:Int=>sm v.length fun _=>0)=fun _=>0 from funext fun _=>fQ _,fQ]]
 exact bO fun i j _ _=>bg (this i j)
theorem vC (hy:Yd y) (hw:SW y w) (i j:Int): ¬ ∀k,sq w i k=bq w j k:=fun h=>by
 unfold sq bq at h
 rcases (show (j - i)%2=0\/(j - i)%2=1 by omega) with z | z
 ·have:=h ((j - i) / 2)
  rw[show i+(j - i) / 2=j - (j - i) / 2 by omega]at this
  exact eI (hy.lt _ (hw.rd _)) this.symm
 ·have:=h ((j - i) / 2+1)
  rw[show j - ((j - i) / 2+1)=i+((j - i) / 2+1) - 1 by omega]at this
  exact hw.red _ this
theorem x3 (h:Int->Int) (n:Nat): ∀m:Nat,sm (n+m) h=sm n h+sm m (fun i=>h (n+i))
 | 0=>by show sm n h=sm n h+0;omega
 | m+1=>by
  show sm (n+m) h+h ((n+m:Nat):Int)=sm n h+(sm m (fun i=>h (n+i))+h (n+m))
  rw[x3 h n m,show ((n+m:Nat):Int)=(n:Int)+m by omega]
  omega
theorem jI {h:Int->Int}: ∀{s:Nat},0<s->(∀i:Nat,0<i->i<s->h i=0)->sm s h=h 0
 | 0,h0,_=>absurd h0 (Qbb _)
 | 1,_,_=>by show (0:Int)+h 0=h 0;omega
 | s+2,_,g=>by
  show sm (s+1) h+h ((s+1:Nat):Int)=h 0
  rw[jI (s:=s+1) (by omega) (fun i h1 h2=>g i h1 (by omega)),g (s+1) (by omega) (by omega)]
  omega
theorem BH {h:Int->Int} {s:Nat} (hs:0<s) (g: ∀i:Nat,h i=if i%s=0 then 1 else 0): ∀k:Nat,sm (k*s) h=k
 | 0=>by rw[Qfd];rfl
 | k+1=>by
  rw[Qcy,x3,BH hs g k,jI hs]
  ·have:=g (k*s)
   rw[if_pos (Nat.mul_mod_left k s)]at this
   show (k:Int)+h (((k*s:Nat):Int)+0)=((k+1:Nat):Int)
   rw[Qbs,this]
   omega
  ·intro i h1 h2
   have:=g (k*s+i)
   rw[if_neg (by rw[Qbu,Qet,Qb0 h2];omega)]at this
   rw[<-this]
   congr 1
theorem FZ (hy:Yd y) (hw:SW y w) (hS:Lm y (sq w) po pi (sq w) po pi) {s k:Nat} (hs:0<s) (hn:w.length=k*s) (hk:0<k) (hr: ∀j:Nat,j<w.length->(cX w w 0 j↔j%s=0))
  (h: ∀i j:Int,cX w w i j->i%w.length≠j%w.length->po i≠po j/\pi i≠pi j/\decide (po i<po j)=decide (i%w.length<j%w.length)/\decide (pi j<pi i)=decide (i%w.length<j%w.length)):
  cA w.length w.length (fun i j=>one (cX w w i j/\jh po pi po pi i j=true))=2*((k:Int) - 1):=by
 have pt: ∀i j:Nat,i<w.length->j<w.length->one (cX w w i j/\jh po pi po pi i j=true)=(if i=0 then one (j≠0/\cX w w 0 j) else 0)+(if j=0 then one (i≠0/\cX w w 0 i) else 0):=fun i j hi hj=>by
  have sym:cX w w 0 i↔cX w w i 0:=⟨fun q k=>(q k).symm,fun q k=>(q k).symm⟩
  by_cases e:i=j
  ·subst e
   rw[bg (fun q=>by have:=q.2;unfold jh at this;rw[xX]at this;cases this)]
   by_cases z:i=0
   ·rw[if_pos z,bg (fun q=>q.1 z)];rfl
   ·rw[if_neg z];rfl
  ·have key:cX w w i j->(jh po pi po pi i j=true↔(i=0\/j=0)):=fun p=>by
    have p1:cX w w ((i:Int) - 1) ((j:Int) - 1):=fun k=>by
     have:=p (k - 1)
     unfold sq at this ⊢
     rw[show (i:Int) - 1+k=i+(k - 1) by omega,show (j:Int) - 1+k=j+(k - 1) by omega]
     exact this
    have m0: ∀i:Nat,i<w.length->(i:Int)%w.length=i:=fun i hi=>Qax (by omega) (by omega)
    have m1: ∀i:Nat,i<w.length->((i:Int) - 1)%w.length=if i=0 then (w.length:Int) - 1 else i - 1:=fun i hi=>by
     split
     ·rename_i z
      rw[<-Qdl,Qax (by omega) (by omega)];omega
     ·exact Qax (by omega) (by omega)
    have h0:=h i j p (by rw[m0 i hi,m0 j hj];omega)
    have h1:=h _ _ p1 (by rw[m1 i hi,m1 j hj];split<;>split<;>omega)
    have c:=vA hy (bE hw i) (bE hw j) (hS.sep i j) h1.2.1 h0.1 (p (-1)) (p 0)
    rw[h0.2.2.1,h1.2.2.2,m0 i hi,m0 j hj,m1 i hi,m1 j hj]at c
    have c':jh po pi po pi i j=true↔_:=c
    rw[c',Ne,decide_eq_decide]
    split<;>split<;>omega
   by_cases z:i=0
   ·have j0:j≠0:=fun q=>e (z.trans q.symm)
    rw[if_pos z,if_neg j0]
    rw[z]at key ⊢
    have:one (cX w w ((0:Nat):Int) j/\jh po pi po pi ((0:Nat):Int) j=true)=one (j≠0/\cX w w 0 j):=br ⟨fun q=>⟨j0,q.1⟩,fun q=>⟨q.2,(key q.2).mpr (.inl rfl)⟩⟩
    rw[this];omega
   ·rw[if_neg z]
    by_cases j0:j=0
    ·rw[if_pos j0]
     rw[j0]at key ⊢
     have:one (cX w w i ((0:Nat):Int)/\jh po pi po pi i ((0:Nat):Int)=true)=one (i≠0/\cX w w 0 i):=br ⟨fun q=>⟨z,sym.mpr q.1⟩,fun q=>⟨sym.mp q.2,(key (sym.mp q.2)).mpr (.inr rfl)⟩⟩
     rw[this];omega
    ·rw[if_neg j0,bg (fun q=>by rcases (key q.1).mp q.2 with q | q<;>contradiction)];rfl
 have cnt:sm w.length (fun j=>one (j≠0/\cX w w 0 j))=(k:Int) - 1:=by
  have e1:sm w.length (fun j=>one (cX w w 0 j))=k:=by
   have:sm w.length (fun j=>one (cX w w 0 j))=sm w.length (fun j=>if j.toNat%s=0 then 1 else 0):=aX fun j hj=>by
    rw[br (hr j hj),Xo]
    by_cases z:j%s=0
    ·rw[e_ z,if_pos z]
    ·rw[bg z,if_neg z]
   rw[this,hn]
   exact BH hs (fun i=>by rw[Xo]) k
  have e2:sm w.length (fun j=>one (cX w w 0 j))=sm w.length (fun j=>one (j≠0/\cX w w 0 j))+sm w.length (fun j=>if j=0 then 1 else 0):=by
   rw[<-qt]
   refine aX fun j hj=>?_
   by_cases z:j=0
   ·subst z
    rw[e_ (show cX w w 0 ((0:Nat):Int) from fun k=>rfl),bg (fun q=>q.1 rfl)];rfl
   ·rw[if_neg (by omega),Qbs]
    exact br ⟨fun q=>⟨by omega,q⟩,fun q=>q.2⟩
  have e3:sm w.length (fun j=>if j=0 then (1:Int) else 0)=1:=by
   rw[jI (Zs.mpr hw.ne) (fun i h1 _=>by rw[if_neg (by omega)]),if_pos rfl]
  omega
 have lp:0<w.length:=Zs.mpr hw.ne
 have e:cA w.length w.length (fun i j=>one (cX w w i j/\jh po pi po pi i j=true))=cA w.length w.length (fun i j=>(if i=0 then one (j≠0/\cX w w 0 j) else 0)+(if j=0 then one (i≠0/\cX w w 0 i) else 0)):=bO fun i j hi hj=>by
  rw[pt i j hi hj]
  congr 1
  ·by_cases z:i=0
   ·rw[if_pos z,if_pos (by omega)]
    exact br ⟨fun q=>⟨by omega,q.2⟩,fun q=>⟨by omega,q.2⟩⟩
   ·rw[if_neg z,if_neg (by omega)]
  ·by_cases z:j=0
   ·rw[if_pos z,if_pos (by omega)]
    exact br ⟨fun q=>⟨by omega,q.2⟩,fun q=>⟨by omega,q.2⟩⟩
   ·rw[if_neg z,if_neg (by omega)]
 rw[e,cx]
 have a1:cA w.length w.length (fun i j=>if i=0 then one (j≠0/\cX w w 0 j) else 0)=(k:Int) - 1:=by
  unfold cA
  rw[jI lp]
  ·rw[<-cnt]
   exact aX fun j _=>if_pos rfl
  ·intro i h1 _
   refine Eq.trans (aX (g:=fun _=>0) fun j _=>?_) (fQ _)
   have: ¬((i:Int)=0):=by omega
   exact if_neg this
 have a2:cA w.length w.length (fun i j=>if j=0 then one (i≠0/\cX w w 0 i) else 0)=(k:Int) - 1:=by
  unfold cA
  rw[<-cnt]
  refine aX fun i _=>?_
  have: ∀j:Nat,0<j-> ¬((j:Int)=0):=fun j h=>by omega
  rw[jI lp (fun j h1 _=>if_neg (this j h1))]
  exact if_pos rfl
 omega
end
noncomputable def kk (y:List Nat) (f:Int->Nat):Nat->Nat->List Int
 | _,0=>[]
 | k,n+1=>eQ y f (k+1)::eQ y f (-(k:Int))::kk y f (k+1) n
theorem fX: ∀(l r t:List Int),bV (l++r) (l++t)=bV r t
 | [],_,_=>rfl
 | a::l,r,t=>by
  show (if a=a then bV (l++r) (l++t) else _)=_
  rw[if_pos rfl,fX l r t]
theorem ng {y:List Nat} {f g:Int->Nat} {a b:Nat} (hy:Yd y) (hf:i6 y f) (hg:i6 y g) (h:Run f g a b) (r t:List Int): ∀(n k:Nat),k<=a->k<=b->a<k+n->b<k+n->bV (kk y f k n++r) (kk y g k n++t)=if a<=b then gY y f g a else g_ y f g b
 | 0,k,h1,_,h3,_=>by omega
 | n+1,k,h1,h2,h3,h4=>by
  show (if eQ y f (k+1)=eQ y g (k+1) then (if eQ y f (-(k:Int))=eQ y g (-(k:Int)) then bV (kk y f (k+1) n++r) (kk y g (k+1) n++t) else decide (eQ y f (-(k:Int))<eQ y g (-(k:Int)))) else decide (eQ y f (k+1)<eQ y g (k+1)))=_
  have e0:=h.og k (by omega) (by omega)
  have e1:=h.og (-(k:Int)) (by omega) (by omega)
  by_cases z:k=a
  ·subst z
   rw[if_neg (fun q=>h.hi (by
    unfold eQ at q
    rw[show (k:Int)+1 - 1=k by omega, <-e0]at q
    exact mh (hy.cl _ (hf.bW _)) (hf.bW _) (hg.bW _) q)),if_pos h2]
   rfl
  ·have e2:=h.og (k+1) (by omega) (by omega)
   rw[if_pos (by unfold eQ;rw[show (k:Int)+1 - 1=k by omega,e0,e2])]
   by_cases z2:k=b
   ·subst z2
    rw[if_neg (fun q=>h.lo (by
     unfold eQ at q
     rw[<-e1]at q
     have r1:=hf.red (-(k:Int))
     have r2:=hg.red (-(k:Int))
     have c1:=(fI (hy.cl _ (hf.bW (-(k:Int) - 1))) (hf.bW (-(k:Int))) (Ne.symm r1)).2.2
     have c2:=(fI (hy.cl _ (hg.bW (-(k:Int) - 1))) (hf.bW (-(k:Int))) (by rw[e1];exact Ne.symm r2)).2.2
     have:=mh (hf.bW (-(k:Int))) (hy.cl _ (hf.bW (-(k:Int) - 1))) (hy.cl _ (hg.bW (-(k:Int) - 1))) (by rw[c1,c2,q])
     exact fP (hy.lt _ (hf.bW _)) (hy.lt _ (hg.bW _)) this)),if_neg (by omega)]
    rfl
   ·have e3:=h.og (-(k:Int) - 1) (by omega) (by omega)
    rw[if_pos (by unfold eQ;rw[e1,e3])]
    exact ng hy hf hg h r t n (k+1) (by omega) (by omega) (by omega) (by omega)
noncomputable def mN (w:List Nat) (i:Int):Int->Nat:=if aJ (rd w i)=true then sq w i else bq w i
noncomputable def Ia (n r:Nat) (l low:Bool) (c i:Nat):List Int:=if low=l then [(c:Int),(((if low=true then i else n - 1 - i) / r:Nat):Int)] else [-(c:Int), -(((if low=true then n - 1 - i else i) / r:Nat):Int)]
noncomputable def dh (y:List Nat) (ws:List (List Nat)) (L:Nat->Bool) (r:Nat->Nat) (M c i:Nat):List Int:=kk y (mN (ws.getD c []) i) 0 M++Ia (ws.getD c []).length (r c) (L c) (aJ (rd (ws.getD c []) i)) c i
def Dl (w:List Nat) (i:Int) (f:Int->Nat):Prop:=f=sq w i\/f=bq w i
theorem vD {y w:List Nat} {i:Int} {f:Int->Nat} (hy:Yd y) (hw:SW y w) (h:Dl w i f):mN w i=if aJ (f 0)=true then f else ku f:=by
 have s0:sq w i 0=rd w i:=by unfold sq;rw[show i+0=i by omega]
 have b0:bq w i 0=aC (rd w i):=by unfold bq;rw[show i - 0=i by omega]
 have lc:=gz _ (hy.lt _ (hw.rd i)).mem
 unfold mN
 rcases h with rfl | rfl
 ·rw[s0,ff]
 ·rw[b0,lc, <-ff,oh hy (bE hw i)]
  cases aJ (rd w i)<;>rfl
theorem Dl.Ac {y w:List Nat} {i:Int} {f:Int->Nat} (hy:Yd y) (hw:SW y w) (h:Dl w i f):i6 y f:=by
 rcases h with rfl | rfl
 ·exact bE hw i
 ·exact gL hy hw i
theorem Run.sy {f g:Int->Nat} {a b:Nat} (h:Run f g a b):Run g f a b:=⟨fun k h1 h2=>(h.og k h1 h2).symm,Ne.symm h.hi,Ne.symm h.lo⟩
section
variable {y:List Nat} {ws:List (List Nat)} {L:Nat->Bool} {r:Nat->Nat} {M:Nat} {N:Nat->Nat->Nat->Nat}
structure Lies (y:List Nat) (ws:List (List Nat)) (L:Nat->Bool) (r:Nat->Nat) (M:Nat) (N:Nat->Nat->Nat->Nat):Prop where
 sep: ∀c i d j e e',c<ws.length->d<ws.length->i<(ws.getD c []).length->j<(ws.getD d []).length->(e=rd (ws.getD c []) i\/e=aC (rd (ws.getD c []) i))->(e'=rd (ws.getD d []) j\/e'=aC (rd (ws.getD d []) j))->y.idxOf e<y.idxOf e'->N c i e<N d j e'
 low: ∀c i d j x,c<ws.length->d<ws.length->i<(ws.getD c []).length->j<(ws.getD d []).length->(c,i)≠(d,j)->aJ x=true->(rd (ws.getD c []) i=x\/rd (ws.getD c []) i=aC x)->(rd (ws.getD d []) j=x\/rd (ws.getD d []) j=aC x)->
  N c i x≠N d j x/\N c i (aC x)≠N d j (aC x)/\decide (N c i x<N d j x)=bV (dh y ws L r M c i) (dh y ws L r M d j)/\decide (N d j (aC x)<N c i (aC x))=bV (dh y ws L r M c i) (dh y ws L r M d j)
theorem Lies.at (hy:Yd y) (hN:Lies y ws L r M N) {c i d j:Nat} {f g:Int->Nat} (hc:c<ws.length) (hd:d<ws.length) (hi:i<(ws.getD c []).length) (hj:j<(ws.getD d []).length) (hw:SW y (ws.getD c [])) (hv:SW y (ws.getD d []))
  (hf:Dl (ws.getD c []) i f) (hg:Dl (ws.getD d []) j g) (h0:f 0=g 0) (dH:(c,i)≠(d,j)):
  N c i (f 0)≠N d j (f 0)/\N c i (aC (f 0))≠N d j (aC (f 0))/\decide (N c i (f 0)<N d j (f 0))=(if aJ (f 0)=true then bV (dh y ws L r M c i) (dh y ws L r M d j) else bV (dh y ws L r M d j) (dh y ws L r M c i))/\decide (N d j (aC (f 0))<N c i (aC (f 0)))=(if aJ (f 0)=true then bV (dh y ws L r M c i) (dh y ws L r M d j) else bV (dh y ws L r M d j) (dh y ws L r M c i)):=by
 have s0: ∀(w:List Nat) (i:Int),sq w i 0=rd w i:=fun w i=>by unfold sq;rw[show i+0=i by omega]
 have b0: ∀(w:List Nat) (i:Int),bq w i 0=aC (rd w i):=fun w i=>by unfold bq;rw[show i - 0=i by omega]
 have ly:Lt (f 0):=hy.lt _ ((hf.Ac hy hw).bW 0)
 have Oo:=aN ly
 have ef:rd (ws.getD c []) i=f 0\/rd (ws.getD c []) i=aC (f 0):=by
  rcases hf with rfl | rfl
  ·exact .inl (s0 _ _).symm
  ·exact .inr (by rw[b0,aN (hy.lt _ (hw.rd _))])
 have eg:rd (ws.getD d []) j=f 0\/rd (ws.getD d []) j=aC (f 0):=by
  rw[h0]
  rcases hg with rfl | rfl
  ·exact .inl (s0 _ _).symm
  ·exact .inr (by rw[b0,aN (hy.lt _ (hv.rd _))])
 by_cases z:aJ (f 0)=true
 ·rw[if_pos z]
  exact hN.low c i d j (f 0) hc hd hi hj dH z ef eg
 ·rw[if_neg z]
  have z':aJ (aC (f 0))=true:=by rw[gz _ ly.mem];simpa using z
  have:=hN.low d j c i (aC (f 0)) hd hc hj hi (Ne.symm dH) z' (by rw[Oo];exact eg.symm) (by rw[Oo];exact ef.symm)
  rw[Oo]at this
  exact ⟨Ne.symm this.2.1,Ne.symm this.1,this.2.2.2,this.2.2.1⟩
theorem Lies.run (hy:Yd y) (hN:Lies y ws L r M N) {c i d j:Nat} {f g:Int->Nat} {a b:Nat} (hc:c<ws.length) (hd:d<ws.length) (hi:i<(ws.getD c []).length) (hj:j<(ws.getD d []).length) (hw:SW y (ws.getD c [])) (hv:SW y (ws.getD d []))
  (hf:Dl (ws.getD c []) i f) (hg:Dl (ws.getD d []) j g) (hr:Run f g a b) (ha:a<M) (hb:b<M) (dH:(c,i)≠(d,j)):
  N c i (f 0)≠N d j (g 0)/\N c i (aC (f 0))≠N d j (aC (g 0))/\decide (N c i (f 0)<N d j (g 0))=z9 y f g a b/\decide (N d j (aC (g 0))<N c i (aC (f 0)))=z9 y f g a b:=by
 have h0:=hr.zero
 have lf:=hf.Ac hy hw
 have lg:=hg.Ac hy hv
 have e:(if aJ (f 0)=true then bV (dh y ws L r M c i) (dh y ws L r M d j) else bV (dh y ws L r M d j) (dh y ws L r M c i))=z9 y f g a b:=by
  unfold dh
  rw[vD hy hw hf,vD hy hv hg, <-h0]
  by_cases z:aJ (f 0)=true
  ·rw[if_pos z,if_pos z,if_pos z,ng hy lf lg hr _ _ M 0 (Qad _) (Qad _) (by omega) (by omega)]
   unfold z9 wR
   by_cases q:a<=b
   ·rw[if_pos q,if_neg (by simp[z];omega)]
   ·rw[if_neg q,if_pos (by simp;omega)]
  ·rw[if_neg z,if_neg z,if_neg z,ng hy (lg.rv hy) (lf.rv hy) (hr.rv hy lf lg).sy _ _ M 0 (Qad _) (Qad _) (by omega) (by omega), <-M1 hy lf lg h0]
   unfold z9 wR
   have z':aJ (ku g 0)=true:=by
    show aJ (aC (g 0))=true
    rw[<-h0,gz _ (hy.lt _ (lf.bW 0)).mem];simpa using z
   by_cases q:b<=a
   ·rw[if_pos q,if_neg (by simp[z'];omega)]
   ·rw[if_neg q,if_pos (by simp;omega)]
 have:=hN.at hy hc hd hi hj hw hv hf hg h0 dH
 rw[e]at this
 rw[<-h0]
 exact this
end
noncomputable def jJ (n:Nat) (k:Int):Nat:=(k%(n:Int)).toNat
theorem bX {n:Nat} (h:0<n) (k:Int):jJ n k<n:=by
 unfold jJ
 have h1:=Qbt k (b:=(n:Int)) (by omega)
 have h2:=Qbm k (b:=(n:Int)) (by omega)
 omega
theorem fg {n:Nat} (h:0<n) (k:Int):((jJ n k:Nat):Int)=k%n:=by
 unfold jJ
 have h1:=Qbt k (b:=(n:Int)) (by omega)
 omega
theorem BI {n:Nat} (k:Int):jJ n (k+n)=jJ n k:=by unfold jJ;rw[Qdl]
theorem cg {w:List Nat} (h:w≠[]) (k:Int):rd w (jJ w.length k:Nat)=rd w k:=by rw[fg (Zs.mpr h),gK]
theorem di {w:List Nat} (h:w≠[]) (k:Int):sq w (jJ w.length k:Nat)=sq w k:=by
 funext x
 unfold sq
 rw[fg (Zs.mpr h), <-gK w (k%w.length+x),Qc5,gK]
theorem vE {w:List Nat} (h:w≠[]) (k:Int):bq w (jJ w.length k:Nat)=bq w k:=by rw[<-ff, <-ff,di h]
noncomputable def pO (ws:List (List Nat)) (N:Nat->Nat->Nat->Nat) (c:Nat) (k:Int):Nat:=N c (jJ (ws.getD c []).length k) (rd (ws.getD c []) k)
noncomputable def pI (ws:List (List Nat)) (N:Nat->Nat->Nat->Nat) (c:Nat) (k:Int):Nat:=N c (jJ (ws.getD c []).length k) (aC (rd (ws.getD c []) k))
theorem M_ {x x' p p':Int} (h:x≠x'):bV [x,p] [x',p']=decide (x<x'):=by
 show (if x=x' then _ else decide (x<x'))=_
 rw[if_neg h]
theorem vF {x p p':Int} (h:p≠p'):bV [x,p] [x,p']=decide (p<p'):=by
 show (if x=x then (if p=p' then bV [] [] else decide (p<p')) else _)=_
 rw[if_pos rfl,if_neg h]
section
variable {y:List Nat} {ws:List (List Nat)} {L:Nat->Bool} {r:Nat->Nat} {M:Nat} {N:Nat->Nat->Nat->Nat}
structure fA (y:List Nat) (ws:List (List Nat)) (L:Nat->Bool) (r:Nat->Nat) (M:Nat):Prop where
 yd:Yd y
 sw: ∀c,c<ws.length->SW y (ws.getD c [])
 big: ∀c d,c<ws.length->d<ws.length->(ws.getD c []).length+(ws.getD d []).length<=M
 l1: ∀c d i j,c<ws.length->d<ws.length->cX (ws.getD c []) (ws.getD d []) i j->L c=L d
 l2: ∀c d i j,c<ws.length->d<ws.length->(∀k,sq (ws.getD c []) i k=bq (ws.getD d []) j k)->L d=!L c
 rp: ∀c,c<ws.length->0<r c
 rr: ∀c,c<ws.length-> ∀i j:Int,(cX (ws.getD c []) (ws.getD c []) i j↔(i - j)%(r c:Int)=0)
theorem Lies.two (h:fA y ws L r M) (hN:Lies y ws L r M N) {c d:Nat} (hc:c<ws.length) (hd:d<ws.length):Lm y (sq (ws.getD c [])) (pO ws N c) (pI ws N c) (sq (ws.getD d [])) (pO ws N d) (pI ws N d):=by
 have hw:=h.sw c hc
 have hv:=h.sw d hd
 have lw:=Zs.mpr hw.ne
 have lv:=Zs.mpr hv.ne
 have s0: ∀(w:List Nat) (i:Int),sq w i 0=rd w i:=fun w i=>by unfold sq;rw[show i+0=i by omega]
 refine ⟨fun s t=>?_,fun s t a b rn=>?_⟩
 ·have key: ∀p∈[(aC (sq (ws.getD c []) s (-1)),pI ws N c (s - 1)),(sq (ws.getD c []) s 0,pO ws N c s),(aC (sq (ws.getD d []) t (-1)),pI ws N d (t - 1)),(sq (ws.getD d []) t 0,pO ws N d t)], ∃e i:Nat,e<ws.length/\i<(ws.getD e []).length/\(p.1=rd (ws.getD e []) i\/p.1=aC (rd (ws.getD e []) i))/\p.2=N e i p.1:=by
   intro p hp
   simp only[Zv,Qag,or_false]at hp
   rcases hp with rfl | rfl | rfl | rfl
   ·exact ⟨c,_,hc,bX lw (s - 1), .inr (by rw[cg hw.ne];rfl),rfl⟩
   ·exact ⟨c,_,hc,bX lw s, .inl (by rw[cg hw.ne,s0]),by rw[s0];rfl⟩
   ·exact ⟨d,_,hd,bX lv (t - 1), .inr (by rw[cg hv.ne];rfl),rfl⟩
   ·exact ⟨d,_,hd,bX lv t, .inl (by rw[cg hv.ne,s0]),by rw[s0];rfl⟩
  intro p hp q hq cZ
  obtain ⟨e,i,he,hi,h1,h2⟩:=key p hp
  obtain ⟨e',j,El,hj,h3,h4⟩:=key q hq
  rw[h2,h4]
  exact hN.sep e i e' j _ _ he El hi hj h1 h3 cZ
 ·obtain ⟨a',b',Wb,ha,hb⟩:=d_ lw lv (fun k=>cq _ s k) (fun k=>cq _ t k) rn.zero ⟨_,rn.hi⟩
  obtain ⟨rfl,rfl⟩:=rn.one Wb
  have:=h.big c d hc hd
  have key:=hN.run h.yd hc hd (bX lw s) (bX lv t) hw hv (.inl (di hw.ne s).symm) (.inl (di hv.ne t).symm) rn (by omega) (by omega) (fun z=>rn.hi (by
   obtain ⟨z1,z2⟩:=Prod.mk.inj z
   subst z1
   rw[<-di hw.ne s, <-di hw.ne t,z2]))
  rw[s0,s0]at key
  exact key
theorem Lies.XR (h:fA y ws L r M) (hN:Lies y ws L r M N) {c d:Nat} (hc:c<ws.length) (hd:d<ws.length):Lm y (sq (ws.getD c [])) (pO ws N c) (pI ws N c) (fun k=>bq (ws.getD d []) (-k)) (fun k=>pI ws N d (-k)) (fun k=>pO ws N d (-k)):=by
 have hw:=h.sw c hc
 have hv:=h.sw d hd
 have lw:=Zs.mpr hw.ne
 have lv:=Zs.mpr hv.ne
 have s0: ∀(w:List Nat) (i:Int),sq w i 0=rd w i:=fun w i=>by unfold sq;rw[show i+0=i by omega]
 have b0: ∀(w:List Nat) (i:Int),bq w i 0=aC (rd w i):=fun w i=>by unfold bq;rw[show i - 0=i by omega]
 have bb: ∀t:Int,aC (bq (ws.getD d []) (-t) (-1))=rd (ws.getD d []) (-(t - 1)):=fun t=>by
  unfold bq
  rw[aN (h.yd.lt _ (hv.rd _))]
  congr 1;omega
 refine ⟨fun s t=>?_,fun s t a b rn=>?_⟩
 ·have key: ∀p∈[(aC (sq (ws.getD c []) s (-1)),pI ws N c (s - 1)),(sq (ws.getD c []) s 0,pO ws N c s),(aC (bq (ws.getD d []) (-t) (-1)),pO ws N d (-(t - 1))),(bq (ws.getD d []) (-t) 0,pI ws N d (-t))], ∃e i:Nat,e<ws.length/\i<(ws.getD e []).length/\(p.1=rd (ws.getD e []) i\/p.1=aC (rd (ws.getD e []) i))/\p.2=N e i p.1:=by
   intro p hp
   simp only[Zv,Qag,or_false]at hp
   rcases hp with rfl | rfl | rfl | rfl
   ·exact ⟨c,_,hc,bX lw (s - 1), .inr (by rw[cg hw.ne];rfl),rfl⟩
   ·exact ⟨c,_,hc,bX lw s, .inl (by rw[cg hw.ne,s0]),by rw[s0];rfl⟩
   ·exact ⟨d,_,hd,bX lv (-(t - 1)), .inl (by rw[cg hv.ne];exact bb t),by rw[bb t];rfl⟩
   ·exact ⟨d,_,hd,bX lv (-t), .inr (by rw[cg hv.ne,b0]),by rw[b0];rfl⟩
  intro p hp q hq cZ
  obtain ⟨e,i,he,hi,h1,h2⟩:=key p hp
  obtain ⟨e',j,El,hj,h3,h4⟩:=key q hq
  rw[h2,h4]
  exact hN.sep e i e' j _ _ he El hi hj h1 h3 cZ
 ·obtain ⟨a',b',Wb,ha,hb⟩:=d_ lw lv (fun k=>cq _ s k) (fun k=>kZ _ (-t) k) rn.zero ⟨_,rn.hi⟩
  obtain ⟨rfl,rfl⟩:=rn.one Wb
  have:=h.big c d hc hd
  have key:=hN.run h.yd hc hd (bX lw s) (bX lv (-t)) hw hv (.inl (di hw.ne s).symm) (.inr (vE hv.ne (-t)).symm) rn (by omega) (by omega) (fun z=>by
   obtain ⟨z1,z2⟩:=Prod.mk.inj z
   subst z1
   have z0:=rn.zero
   rw[s0,b0, <-cg hw.ne s, <-cg hw.ne (-t),z2]at z0
   exact eI (h.yd.lt _ (hw.rd _)) z0.symm)
  rw[s0,b0,aN (h.yd.lt _ (hv.rd _))]at key
  exact key
theorem vG {n n' r r' c d i j:Nat} {l low Na:Bool} (h:c≠d):bV (Ia n r l low c i) (Ia n' r' (if Na=low then l else !l) Na d j)=if low=l then decide (c<d) else decide (d<c):=by
 unfold Ia
 cases low<;>cases Na<;>cases l<;>simp only[Qe8,Bool.not_false,if_true,if_false,Bool.true_eq_false,Qcj]<;>rw[M_ (by omega)]<;>exact decide_eq_decide.mpr (by omega)
theorem Lies.F_ (h:fA y ws L r M) (hN:Lies y ws L r M N) {c d:Nat} (hc:c<ws.length) (hd:d<ws.length) (oE:c≠d) {i j:Nat} {f g:Int->Nat} (hi:i<(ws.getD c []).length) (hj:j<(ws.getD d []).length) (hf:Dl (ws.getD c []) i f) (hg:Dl (ws.getD d []) j g) (hp: ∀k,f k=g k)
  (hl:L d=if aJ (rd (ws.getD d []) j)=aJ (rd (ws.getD c []) i) then L c else !L c) (hs:f=sq (ws.getD c []) i):
  N c i (f 0)≠N d j (g 0)/\N c i (aC (f 0))≠N d j (aC (g 0))/\decide (N c i (f 0)<N d j (g 0))=(if L c=true then decide (c<d) else decide (d<c))/\decide (N d j (aC (g 0))<N c i (aC (f 0)))=(if L c=true then decide (c<d) else decide (d<c)):=by
 have hw:=h.sw c hc
 have hv:=h.sw d hd
 have e:(if aJ (f 0)=true then bV (dh y ws L r M c i) (dh y ws L r M d j) else bV (dh y ws L r M d j) (dh y ws L r M c i))=if L c=true then decide (c<d) else decide (d<c):=by
  have es:mN (ws.getD c []) i=mN (ws.getD d []) j:=by
   rw[vD h.yd hw hf,vD h.yd hv hg,show f=g from funext hp]
  have f0:f 0=rd (ws.getD c []) i:=by rw[hs];unfold sq;rw[show (i:Int)+0=i by omega]
  unfold dh
  rw[es,fX,fX,f0]
  have A1:L c=if aJ (rd (ws.getD c []) i)=aJ (rd (ws.getD d []) j) then L d else !L d:=by
   rw[hl]
   cases aJ (rd (ws.getD d []) j)<;>cases aJ (rd (ws.getD c []) i)<;>cases L c<;>rfl
  have e1:= @vG (ws.getD c []).length (ws.getD d []).length (r c) (r d) c d i j (L c) (aJ (rd (ws.getD c []) i)) (aJ (rd (ws.getD d []) j)) oE
  have e2:= @vG (ws.getD d []).length (ws.getD c []).length (r d) (r c) d c j i (L d) (aJ (rd (ws.getD d []) j)) (aJ (rd (ws.getD c []) i)) (Ne.symm oE)
  rw[<-hl]at e1
  rw[<-A1]at e2
  rw[e1,e2,hl]
  cases aJ (rd (ws.getD d []) j)<;>cases aJ (rd (ws.getD c []) i)<;>cases L c<;>rfl
 have:=hN.at h.yd hc hd hi hj hw hv hf hg (hp 0) (fun z=>oE (Prod.mk.inj z).1)
 rw[e]at this
 rw[<-hp 0]
 exact this
end
theorem x4 {n k r i:Nat} (hr:0<r) (hn:n=k*r) (hi:i<n):(n - 1 - i) / r=k - 1 - i / r:=by
 have h1:=Qdh i r
 have h2:=Qcz i hr
 have h3:i / r<k:=by
  rw[Qew hr];omega
 rw[Nat.div_eq_iff hr]
 obtain ⟨t,rfl⟩: ∃t,k=i / r+1+t:=⟨k - 1 - i / r,by omega⟩
 generalize hq:i / r=q at*
 rw[Nat.add_mul,Nat.add_mul,Nat.one_mul,Qbu q r]at hn
 have e:q+1+t - 1 - q=t:=by omega
 rw[e]
 generalize r*q=A at*
 generalize t*r=B at*
 omega
theorem Dw {r i j:Nat} (hr:0<r) (h:i%r=j%r) (dH:i≠j):(i / r<j / r↔i<j)/\i / r≠j / r:=by
 have h1:=Qdh i r
 have h2:=Qdh j r
 have vH:i / r≠j / r:=fun z=>dH (by rw[<-h1, <-h2,z,h])
 refine ⟨⟨fun q=>?_,fun q=>?_⟩,vH⟩
 ·have:r*(i / r+1)<=r*(j / r):=Nat.mul_le_mul_left r q
  rw[Nat.mul_add,Nat.mul_one]at this
  omega
 ·refine Classical.byContradiction fun z=>?_
  have h3:j / r+1<=i / r:=by omega
  have:r*(j / r+1)<=r*(i / r):=Nat.mul_le_mul_left r h3
  rw[Nat.mul_add,Nat.mul_one]at this
  omega
theorem Ad {n k r c i j:Nat} {l low:Bool} (hr:0<r) (hn:n=k*r) (hi:i<n) (hj:j<n) (h:i%r=j%r) (dH:i≠j):(if low=true then bV (Ia n r l low c i) (Ia n r l low c j) else bV (Ia n r l low c j) (Ia n r l low c i))=decide (i<j):=by
 obtain ⟨d1,d2⟩:=Dw hr h dH
 have e1:=x4 hr hn hi
 have e2:=x4 hr hn hj
 have b1:i / r<k:=by rw[Qew hr];omega
 have b2:j / r<k:=by rw[Qew hr];omega
 unfold Ia
 cases low<;>cases l<;>simp only[if_true,if_false,Bool.true_eq_false,Qcj]
 ·rw[e1,e2,vF (by omega)];exact decide_eq_decide.mpr (by omega)
 ·rw[vF (by omega)];exact decide_eq_decide.mpr (by omega)
 ·rw[e1,e2,vF (by omega)];exact decide_eq_decide.mpr (by omega)
 ·rw[vF (by omega)];exact decide_eq_decide.mpr (by omega)
noncomputable def fc (y w v:List Nat) (i j:Int):Int:=one (ac y (aC (rd w (i - 1))) (rd w i) (aC (rd v (j - 1))) (rd v j)=true)+one (0<al y (sq w i) (sq v j) (w.length+v.length))+one (0<al y (sq w i) (bq v j) (w.length+v.length))
section
variable {y:List Nat} {ws:List (List Nat)} {L:Nat->Bool} {r:Nat->Nat} {M:Nat} {N:Nat->Nat->Nat->Nat}
theorem vI (ws:List (List Nat)) (N:Nat->Nat->Nat->Nat) (c:Nat) (k:Int):pO ws N c (k+(ws.getD c []).length)=pO ws N c k:=by unfold pO;rw[BI,iP]
theorem vJ (ws:List (List Nat)) (N:Nat->Nat->Nat->Nat) (c:Nat) (k:Int):pI ws N c (k+(ws.getD c []).length)=pI ws N c k:=by unfold pI;rw[BI,iP]
theorem fA.root (h:fA y ws L r M) {c:Nat} (hc:c<ws.length):(ws.getD c []).length=(ws.getD c []).length / r c*r c/\0<(ws.getD c []).length / r c:=by
 have hp:=h.rp c hc
 have hl:=Zs.mpr (h.sw c hc).ne
 have h1:=(h.rr c hc (ws.getD c []).length 0).mp (fun k=>by
  have:=congrFun (vB (ws.getD c []) 0) k
  rwa [Qcg]at this)
 rw[Qdb]at h1
 have h2:(ws.getD c []).length%r c=0:=by
  have:((((ws.getD c []).length%r c:Nat)):Int)=0:=by rw[<-h1];rfl
  omega
 have h3:=Qdh (ws.getD c []).length (r c)
 rw[h2,Qeq,Qbu]at h3
 refine ⟨h3.symm,Qfa fun z=>?_⟩
 rw[z,Qfd]at h3
 omega
theorem Dz (h:fA y ws L r M) (hN:Lies y ws L r M N) {c d:Nat} (hc:c<ws.length) (hd:d<ws.length) (oE:c≠d):
  cA (ws.getD c []).length (ws.getD d []).length (fun i j=>one (jh (pO ws N c) (pI ws N c) (pO ws N d) (pI ws N d) i j=true))=cA (ws.getD c []).length (ws.getD d []).length (fc y (ws.getD c []) (ws.getD d [])):=by
 have hw:=h.sw c hc
 have hv:=h.sw d hd
 have lw:=Zs.mpr hw.ne
 have lv:=Zs.mpr hv.ne
 have s0: ∀(w:List Nat) (i:Int),sq w i 0=rd w i:=fun w i=>by unfold sq;rw[show i+0=i by omega]
 have b0: ∀(w:List Nat) (i:Int),bq w i 0=aC (rd w i):=fun w i=>by unfold bq;rw[show i - 0=i by omega]
 have hS:=hN.two h hc hd
 have hO:=hN.XR h hc hd
 rw[xZ h.yd hw hv (vI ws N c) (vJ ws N c) (vI ws N d) (vJ ws N d) hS hO,JN h.yd hw hv hS (if L c=true then decide (c<d) else decide (d<c)),JO h.yd hw hv hO (if L c=true then decide (c<d) else decide (d<c)), <-cx, <-cx]
 ·unfold fc
  omega
 ·intro i j p
  have p0:=p 0
  rw[s0,b0]at p0
  have lo:=gz _ (h.yd.lt _ (hv.rd j)).mem
  have:=hN.F_ h hc hd oE (bX lw i) (bX lv j) (f:=sq (ws.getD c []) i) (g:=bq (ws.getD d []) j) (.inl (di hw.ne i).symm) (.inr (vE hv.ne j).symm) p (by
   rw[cg hw.ne,cg hv.ne,p0,lo,h.l2 c d i j hc hd p]
   cases aJ (rd (ws.getD d []) j)<;>rfl) (di hw.ne i).symm
  rw[s0,b0,aN (h.yd.lt _ (hv.rd _))]at this
  exact this
 ·intro i j p
  have p0:=p 0
  rw[s0,s0]at p0
  have:=hN.F_ h hc hd oE (bX lw i) (bX lv j) (f:=sq (ws.getD c []) i) (g:=sq (ws.getD d []) j) (.inl (di hw.ne i).symm) (.inl (di hv.ne j).symm) p (by
   rw[cg hw.ne,cg hv.ne,p0,if_pos rfl]
   exact (h.l1 c d i j hc hd p).symm) (di hw.ne i).symm
  rw[s0,s0]at this
  exact this
theorem Ae (h:fA y ws L r M) (hN:Lies y ws L r M N) {c:Nat} (hc:c<ws.length):
  cA (ws.getD c []).length (ws.getD c []).length (fun i j=>one (jh (pO ws N c) (pI ws N c) (pO ws N c) (pI ws N c) i j=true))=cA (ws.getD c []).length (ws.getD c []).length (fc y (ws.getD c []) (ws.getD c []))+2*(((ws.getD c []).length / r c:Nat) - 1):=by
 have hw:=h.sw c hc
 have lw:=Zs.mpr hw.ne
 have s0: ∀(w:List Nat) (i:Int),sq w i 0=rd w i:=fun w i=>by unfold sq;rw[show i+0=i by omega]
 have hS:=hN.two h hc hc
 have hO:=hN.XR h hc hc
 obtain ⟨Fn,OC⟩:=h.root hc
 have XS:=h.rp c hc
 have e0:cA (ws.getD c []).length (ws.getD c []).length (fun i j=>one (lh (ws.getD c []) (ws.getD c []) i j/\jh (pO ws N c) (pI ws N c) (pO ws N c) (pI ws N c) i j=true))=0:=by
  rw[show (0:Int)=cA (ws.getD c []).length (ws.getD c []).length (fun _ _=>0) by unfold cA;rw[show (fun _:Int=>sm (ws.getD c []).length fun _=>0)=fun _=>0 from funext fun _=>fQ _,fQ]]
  exact bO fun i j _ _=>bg fun z=>vC h.yd hw _ _ z.1
 rw[xZ h.yd hw hw (vI ws N c) (vJ ws N c) (vI ws N c) (vJ ws N c) hS hO,e0,FZ h.yd hw hS XS Fn OC, <-cx, <-cx]
 ·unfold fc
  omega
 ·intro j hj
  rw[h.rr c hc]
  constructor
  ·intro q
   have:(j:Int)%(r c:Int)=0:=by
    rw[Int.zero_sub]at q
    exact Int.emod_eq_zero_of_dvd (Int.dvd_neg.mp (Int.dvd_of_emod_eq_zero q))
   have h2:((j%r c:Nat):Int)=0:=by rw[<-this];rfl
   omega
  ·intro q
   have:(j:Int)%(r c:Int)=0:=by
    have h2:((j%r c:Nat):Int)=(j:Int)%(r c:Int):=rfl
    rw[<-h2,q];rfl
   rw[Int.zero_sub]
   exact Int.emod_eq_zero_of_dvd (Int.dvd_neg.mpr (Int.dvd_of_emod_eq_zero this))
 ·intro i j p dH
  have p0:=p 0
  rw[s0,s0]at p0
  have vH:jJ (ws.getD c []).length i≠jJ (ws.getD c []).length j:=fun z=>dH (by rw[<-fg lw, <-fg lw,z])
  have:=hN.at h.yd hc hc (bX lw i) (bX lw j) hw hw (f:=sq (ws.getD c []) i) (g:=sq (ws.getD c []) j) (.inl (di hw.ne i).symm) (.inl (di hw.ne j).symm) (p 0) (fun z=>vH (Prod.mk.inj z).2)
  have JP:jJ (ws.getD c []).length i%r c=jJ (ws.getD c []).length j%r c:=by
   have p':cX (ws.getD c []) (ws.getD c []) (jJ (ws.getD c []).length i:Nat) (jJ (ws.getD c []).length j:Nat):=fun k=>by rw[di hw.ne,di hw.ne];exact p k
   have q:=(h.rr c hc _ _).mp p'
   have q2:=Int.emod_eq_emod_iff_emod_sub_eq_zero.mpr q
   have q3:((jJ (ws.getD c []).length i%r c:Nat):Int)=((jJ (ws.getD c []).length j%r c:Nat):Int):=q2
   omega
  have es:mN (ws.getD c []) (jJ (ws.getD c []).length i:Nat)=mN (ws.getD c []) (jJ (ws.getD c []).length j:Nat):=by
   unfold mN
   rw[cg hw.ne,cg hw.ne,p0,di hw.ne,di hw.ne,vE hw.ne,vE hw.ne,show sq (ws.getD c []) i=sq (ws.getD c []) j from funext p, <-ff, <-ff,show sq (ws.getD c []) i=sq (ws.getD c []) j from funext p]
  have e:= @Ad (ws.getD c []).length _ (r c) c _ _ (L c) (aJ (rd (ws.getD c []) j)) XS Fn (bX lw i) (bX lw j) JP vH
  unfold dh at this
  rw[es,fX,fX,s0,cg hw.ne,cg hw.ne,p0,e,decide_eq_decide.mpr (show jJ (ws.getD c []).length i<jJ (ws.getD c []).length j↔i%((ws.getD c []).length:Int)<j%((ws.getD c []).length:Int) by rw[<-fg lw, <-fg lw];omega)]at this
  unfold pO pI
  rw[p0]
  exact this
end
noncomputable def qu:Nat->(Int->Int->Int)->Int
 | 0,_=>0
 | n+1,h=>qu n h+sm n (fun j=>h j n)
theorem vK (n m:Nat) (h:Int->Int->Int):cA (n+1) m h=cA n m h+sm m (fun j=>h n j):=rfl
theorem vL (m:Nat) (h:Int->Int->Int): ∀n:Nat,cA n (m+1) h=cA n m h+sm n (fun i=>h i m)
 | 0=>rfl
 | n+1=>by
  rw[vK,vK,vL m h n]
  show cA n m h+sm n (fun i=>h i m)+(sm m (fun j=>h n j)+h n m)=cA n m h+sm m (fun j=>h n j)+(sm n (fun i=>h i m)+h n m)
  omega
theorem pA {h:Int->Int->Int}: ∀{n:Nat},(∀i j:Nat,i<n->j<n->h i j=h j i)->(∀i:Nat,i<n->h i i=0)->cA n n h=2*qu n h
 | 0,_,_=>rfl
 | n+1,sy,dg=>by
  rw[vL,vK,pA (n:=n) (fun i j hi hj=>sy i j (by omega) (by omega)) (fun i hi=>dg i (by omega))]
  show 2*qu n h+sm n (fun j=>h n j)+(sm n (fun i=>h i n)+h n n)=2*(qu n h+sm n (fun j=>h j n))
  rw[dg n (by omega),aX (h:=fun j=>h n j) (g:=fun j=>h j n) (fun j hj=>sy n j (by omega) (by omega))]
  omega
theorem ke {h g:Int->Int->Int}: ∀{n:Nat},(∀i j:Nat,i<j->j<n->h i j=g i j)->qu n h=qu n g
 | 0,_=>rfl
 | n+1,e=>by
  show qu n h+_=qu n g+_
  rw[ke (n:=n) fun i j h1 h2=>e i j h1 (by omega),aX (g:=fun j=>g j n) fun j hj=>e j n hj (by omega)]
section
variable {y:List Nat} {ws:List (List Nat)} {L:Nat->Bool} {r:Nat->Nat} {M:Nat} {N:Nat->Nat->Nat->Nat}
theorem Lies.inj (h:fA y ws L r M) (hN:Lies y ws L r M N) {c i d j e e':Nat} (hc:c<ws.length) (hd:d<ws.length) (hi:i<(ws.getD c []).length) (hj:j<(ws.getD d []).length) (he:e=rd (ws.getD c []) i\/e=aC (rd (ws.getD c []) i)) (El:e'=rd (ws.getD d []) j\/e'=aC (rd (ws.getD d []) j))
  (dH:(c,i,e)≠(d,j,e')):N c i e≠N d j e':=by
 have ly: ∀{c i e:Nat},c<ws.length->(e=rd (ws.getD c []) i\/e=aC (rd (ws.getD c []) i))->e∈y:=fun hc he=>he.elim (fun z=>z▸(h.sw _ hc).rd _) fun z=>z▸h.yd.cl _ ((h.sw _ hc).rd _)
 have ye:=ly hc he
 have ye':=ly hd El
 by_cases z:e=e'
 ·subst z
  have vH:(c,i)≠(d,j):=fun q=>dH (by rw[(Prod.mk.inj q).1,(Prod.mk.inj q).2])
  have le:=h.yd.lt _ ye
  have lc:=h.yd.lt _ ((h.sw c hc).rd i)
  have ld:=h.yd.lt _ ((h.sw d hd).rd j)
  by_cases l:aJ e=true
  ·exact (hN.low c i d j e hc hd hi hj vH l (he.elim (fun z=> .inl z.symm) fun z=> .inr (by rw[z,aN lc])) (El.elim (fun z=> .inl z.symm) fun z=> .inr (by rw[z,aN ld]))).1
  ·have:=(hN.low c i d j (aC e) hc hd hi hj vH (by rw[gz _ le.mem];simpa using l) (by rw[aN le];exact he.elim (fun z=> .inr z.symm) fun z=> .inl (by rw[z,aN lc])) (by rw[aN le];exact El.elim (fun z=> .inr z.symm) fun z=> .inl (by rw[z,aN ld]))).2.1
   rwa [aN le]at this
 ·have n:=cH ye ye' z
  rcases Qc0 n with q | q
  ·exact Qan (hN.sep c i d j e e' hc hd hi hj he El q)
  ·exact Qep (hN.sep d j c i e' e hd hc hj hi El he q)
theorem BJ {n i j:Nat} {k:Int} (hi:i<n) (hj:j<n) (q:jJ n ((i:Int) - k)=jJ n ((j:Int) - k)):i=j:=by
 have lw:0<n:=Qa4 (Qad _) hi
 have q2:((i:Int) - k)%n=((j:Int) - k)%n:=by rw[<-fg lw, <-fg lw,q]
 have q3:=(Int.emod_sub_cancel_right k).mp q2
 rw[Qax (Qdk _) (Qfk.mpr hi),Qax (Qdk _) (Qfk.mpr hj)]at q3
 exact Int.ofNat.inj q3
theorem fi (h:fA y ws L r M) (hN:Lies y ws L r M N) {c d i j:Nat} (hc:c<ws.length) (hd:d<ws.length) (hi:i<(ws.getD c []).length) (hj:j<(ws.getD d []).length):
  pI ws N c ((i:Int) - 1)≠pO ws N d j/\((c,i)≠(d,j)->pI ws N c ((i:Int) - 1)≠pI ws N d ((j:Int) - 1)/\pO ws N c i≠pO ws N d j):=by
 have hw:=h.sw c hc
 have hv:=h.sw d hd
 have lw:=Zs.mpr hw.ne
 have lv:=Zs.mpr hv.ne
 have vo: ∀{c:Nat} (hw:SW y (ws.getD c [])) (k:Int),rd (ws.getD c []) k=rd (ws.getD c []) (jJ (ws.getD c []).length k:Nat)\/rd (ws.getD c []) k=aC (rd (ws.getD c []) (jJ (ws.getD c []).length k:Nat)):=fun hw k=> .inl (cg hw.ne k).symm
 have vi: ∀{c:Nat} (hw:SW y (ws.getD c [])) (k:Int),aC (rd (ws.getD c []) k)=rd (ws.getD c []) (jJ (ws.getD c []).length k:Nat)\/aC (rd (ws.getD c []) k)=aC (rd (ws.getD c []) (jJ (ws.getD c []).length k:Nat)):=fun hw k=> .inr (by rw[cg hw.ne k])
 refine ⟨hN.inj h hc hd (bX lw _) (bX lv _) (vi hw _) (vo hv _) fun q=>?_,fun dH=>⟨hN.inj h hc hd (bX lw _) (bX lv _) (vi hw _) (vi hv _) fun q=>?_,hN.inj h hc hd (bX lw _) (bX lv _) (vo hw _) (vo hv _) fun q=>?_⟩⟩
 ·obtain ⟨q1,q⟩:=Prod.mk.inj q
  obtain ⟨q2,q3⟩:=Prod.mk.inj q
  subst q1
  rw[<-cg hw.ne ((i:Int) - 1), <-cg hw.ne (j:Int),q2]at q3
  exact eI (h.yd.lt _ (hw.rd _)) q3
 ·obtain ⟨q1,q⟩:=Prod.mk.inj q
  subst q1
  exact dH (by rw[BJ hi hj (Prod.mk.inj q).1])
 ·obtain ⟨q1,q⟩:=Prod.mk.inj q
  subst q1
  exact dH (by rw[BJ (k:=0) hi hj (by rw[Qdb,Qdb];exact (Prod.mk.inj q).1)])
theorem JQ (h:fA y ws L r M) (hN:Lies y ws L r M N) {c d:Nat} (hc:c<ws.length) (hd:d<ws.length) {i j:Nat} (hi:i<(ws.getD c []).length) (hj:j<(ws.getD d []).length):jh (pO ws N c) (pI ws N c) (pO ws N d) (pI ws N d) i j=jh (pO ws N d) (pI ws N d) (pO ws N c) (pI ws N c) j i:=by
 by_cases z:(c,i)=(d,j)
 ·obtain ⟨rfl,rfl⟩:=Prod.mk.inj z
  rfl
 have n:=fi h hN hc hd hi hj
 exact mi (fi h hN hc hc hi hi).1 (fi h hN hd hd hj hj).1 (n.2 z).1 n.1 (Ne.symm (fi h hN hd hc hj hi).1) (n.2 z).2
theorem Ga (h:fA y ws L r M) (hN:Lies y ws L r M N) {c:Nat} (hc:c<ws.length):
  2*qu (ws.getD c []).length (fun i j=>one (jh (pO ws N c) (pI ws N c) (pO ws N c) (pI ws N c) i j=true))=cA (ws.getD c []).length (ws.getD c []).length (fc y (ws.getD c []) (ws.getD c []))+2*(((ws.getD c []).length / r c:Nat) - 1):=by
 rw[<-Ae h hN hc]
 exact (pA (fun i j hi hj=>by rw[JQ h hN hc hc hi hj]) (fun i hi=>bg (by unfold jh;rw[xX];decide))).symm
end
theorem Gb {y:List Nat} {f g:Int->Nat} {a:Nat} (hy:Yd y) (hf:i6 y f) (hg:i6 y g) (h:f a=g a) (hn:f (a+1)≠g (a+1)):gY y g f a=!gY y f g a:=by
 have:eQ y f (a+1)≠eQ y g (a+1):=fun q=>hn (by
  unfold eQ at q
  rw[show (a:Int)+1 - 1=a by omega, <-h]at q
  exact mh (hy.cl _ (hf.bW _)) (hf.bW _) (hg.bW _) q)
 unfold gY
 rw[<-decide_not]
 exact decide_eq_decide.mpr (by omega)
theorem Af {y:List Nat} {f g:Int->Nat} {b:Nat} (hy:Yd y) (hf:i6 y f) (hg:i6 y g) (h:f (-(b:Int))=g (-(b:Int))) (hn:f (-(b:Int) - 1)≠g (-(b:Int) - 1)):g_ y g f b=!g_ y f g b:=by
 have:eQ y f (-(b:Int))≠eQ y g (-(b:Int)):=fun q=>hn (by
  unfold eQ at q
  rw[<-h]at q
  have r1:=hf.red (-(b:Int))
  have r2:=hg.red (-(b:Int))
  have c1:=(fI (hy.cl _ (hf.bW (-(b:Int) - 1))) (hf.bW (-(b:Int))) (Ne.symm r1)).2.2
  have c2:=(fI (hy.cl _ (hg.bW (-(b:Int) - 1))) (hf.bW (-(b:Int))) (by rw[h];exact Ne.symm r2)).2.2
  have:=mh (hf.bW (-(b:Int))) (hy.cl _ (hf.bW (-(b:Int) - 1))) (hy.cl _ (hg.bW (-(b:Int) - 1))) (by rw[c1,c2,q])
  exact fP (hy.lt _ (hf.bW _)) (hy.lt _ (hg.bW _)) this)
 unfold g_
 rw[<-decide_not]
 exact decide_eq_decide.mpr (by omega)
theorem Ln {y:List Nat} {f g:Int->Nat} (hy:Yd y) (hf:i6 y f) (hg:i6 y g):fz y f g->fz y g f:=fun ⟨a,r,x⟩=>⟨a,r.sy,by
 rw[Gb hy hf hg (r.og a (by omega) (by omega)) r.hi,Af hy hf hg (r.og _ (by omega) (by omega)) r.lo]
 exact fun q=>x (by simpa using q)⟩
theorem Gd {y:List Nat} {a b p q:Nat} (hy:Yd y) (ha:a∈y) (hb:b∈y) (hp:p∈y) (hq:q∈y) (yV:a≠b) (So:p≠q):ac y a b p q=ac y p q a b:=by
 unfold ac
 by_cases z:p=a\/p=b\/q=a\/q=b
 ·rw[if_pos z,if_pos (z.elim (fun z=> .inl z.symm) fun z=>z.elim (fun z=> .inr (.inr (.inl z.symm))) fun z=>z.elim (fun z=> .inr (.inl z.symm)) fun z=> .inr (.inr (.inr z.symm)))]
 ·have n1:a≠p:=fun q=>z (.inl q.symm)
  have n2:b≠p:=fun q=>z (.inr (.inl q.symm))
  have n3:a≠q:=fun q=>z (.inr (.inr (.inl q.symm)))
  have n4:b≠q:=fun q=>z (.inr (.inr (.inr q.symm)))
  rw[if_neg z,if_neg (fun z=>z.elim n1 fun z=>z.elim n3 fun z=>z.elim n2 n4)]
  rw[gk hy.nd ha hp hb n1 yV (Ne.symm n2),gk hy.nd ha hq hb n3 yV (Ne.symm n4),gk hy.nd hp ha hq (Ne.symm n1) So n3,gk hy.nd hp hb hq (Ne.symm n2) So n4]
  exact mi (cH ha hb yV) (cH hp hq So) (cH ha hp n1) (cH ha hq n3) (cH hb hp n2) (cH hb hq n4)
theorem Ge {Q:Int->Prop} {P:Nat->Bool}: ∀{m:Nat},(∀j:Nat,j<m->(Q j↔P j=true))->sm m (fun j=>one (Q j))=((List.range m).filter P).length
 | 0,_=>rfl
 | m+1,h=>by
  show sm m _+one (Q m)=_
  rw[Ge (m:=m) fun j hj=>h j (by omega),Qbo,Qcp,Oy,br (h m (by omega))]
  cases e:P m
  ·rw[Qa1 (by rw[e];decide),bg (by decide)];simp
  ·rw[Qbd e,e_ rfl];simp
theorem BK (n:Nat) (h:Int->Int->Int): ∀m:Nat,sm n (fun i=>sm m fun j=>h i j)=sm m fun j=>sm n fun i=>h i j
 | 0=>fQ n
 | m+1=>by
  show cA n (m+1) h=sm m (fun j=>sm n fun i=>h i j)+sm n (fun i=>h i m)
  rw[vL, <-BK n h m]
  rfl
theorem nh (h:Nat->Int): ∀n:Nat,((List.range n).map h).sum=sm n (fun i=>h i.toNat)
 | 0=>rfl
 | n+1=>by
  rw[Qbo,Qaa,Qev,nh h n]
  show _=sm n _+h (((n:Nat):Int).toNat)
  rw[Xo]
  simp
theorem BL (ws:List (List Nat)) (h:Nat×Nat->Int): ∀n:Nat,((rF ws n).map h).sum=sm n fun c=>sm (ws.getD c.toNat []).length fun i=>h (c.toNat,i.toNat)
 | 0=>rfl
 | n+1=>by
  unfold rF
  rw[Qaa,Qev,BL ws h n,Qb2]
  show _+((List.range _).map fun i=>h (n,i)).sum=_
  rw[nh]
  rfl
noncomputable def cl {α:Type} (p:α->α->Bool):List α->Nat
 | []=>0
 | x::r=>(r.filter (p x)).length+cl p r
theorem Ag {α:Type} (p:α->α->Bool) (m:List α): ∀l:List α,(cl p (l++m):Int)=cl p l+cl p m+(l.map fun x=>((m.filter (p x)).length:Int)).sum
 | []=>by show (cl p m:Int)=((0:Nat):Int)+cl p m+0;omega
 | a::l=>by
  show ((((l++m).filter (p a)).length+cl p (l++m):Nat):Int)=(((l.filter (p a)).length+cl p l:Nat):Int)+cl p m+(((a::l).map fun x=>((m.filter (p x)).length:Int)).sum)
  rw[Qcp,Oy,Qat,Qcx,Qa8,Qa8,Ag p m l,Qa8]
  omega
theorem Gf (p:Nat×Nat->Nat×Nat->Bool) (c:Nat): ∀n:Nat,(cl p ((List.range n).map fun i=>(c,i)):Int)=qu n (fun i j=>one (p (c,i.toNat) (c,j.toNat)=true))
 | 0=>rfl
 | n+1=>by
  rw[Qbo,Qaa,Ag,Gf p c n,Qb2]
  show _+((0:Nat):Int)+((List.range n).map fun i=>((([(c,n)]:List (Nat×Nat)).filter (p (c,i))).length:Int)).sum=qu n _+sm n _
  rw[nh,Int.add_assoc]
  congr 1
  rw[show ((0:Nat):Int)=0 from rfl,Qcg]
  refine aX fun i _=>?_
  show (((([(c,n)]:List (Nat×Nat)).filter (p (c,i))).length:Int))=one (p (c,((i:Nat):Int).toNat) (c,((n:Nat):Int).toNat)=true)
  rw[Xo,Xo]
  cases e:p (c,i) (c,n)
  ·rw[Qa1 (by rw[e];decide),bg (by decide)];rfl
  ·rw[Qbd e,e_ rfl];rfl
theorem JR (P:Nat×Nat->Bool) (c n:Nat):((((List.range n).map fun i=>(c,i)).filter P).length:Int)=sm n (fun j=>one (P (c,j.toNat)=true)):=by
 rw[List.filter_map,Xl,Ge (P:=fun j=>P (c,j)) fun j _=>by rw[Xo]]
 rfl
theorem Gg (ws:List (List Nat)) (p:Nat×Nat->Nat×Nat->Bool): ∀n:Nat,(cl p (rF ws n):Int)=sm n (fun c=>qu (ws.getD c.toNat []).length (fun i j=>one (p (c.toNat,i.toNat) (c.toNat,j.toNat)=true)))+qu n (fun c d=>cA (ws.getD c.toNat []).length (ws.getD d.toNat []).length fun i j=>one (p (c.toNat,i.toNat) (d.toNat,j.toNat)=true))
 | 0=>rfl
 | n+1=>by
  unfold rF
  rw[Ag,Gg ws p n,Gf,BL]
  have u:((n:Nat):Int).toNat=n:=Xo n
  show _+_+sm n _=(sm n _+qu (ws.getD ((n:Nat):Int).toNat []).length (fun i j=>one (p (((n:Nat):Int).toNat,i.toNat) (((n:Nat):Int).toNat,j.toNat)=true)))+(qu n _+sm n (fun c=>cA (ws.getD c.toNat []).length (ws.getD ((n:Nat):Int).toNat []).length fun i j=>one (p (c.toNat,i.toNat) (((n:Nat):Int).toNat,j.toNat)=true)))
  rw[u]
  have:sm n (fun c=>sm (ws.getD c.toNat []).length fun i=>(((((List.range (ws.getD n []).length).map fun i=>(n,i)).filter (p (c.toNat,i.toNat))).length:Nat):Int))=sm n (fun c=>cA (ws.getD c.toNat []).length (ws.getD n []).length fun i j=>one (p (c.toNat,i.toNat) (n,j.toNat)=true)):=aX fun c _=>aX fun i _=>JR _ _ _
  rw[this]
  omega
section
variable {y:List Nat} {ws:List (List Nat)} {L:Nat->Bool} {r:Nat->Nat} {M:Nat} {N:Nat->Nat->Nat->Nat}
noncomputable def OG (ws:List (List Nat)) (N:Nat->Nat->Nat->Nat) (o p:Nat×Nat):Bool:=jh (pO ws N o.1) (pI ws N o.1) (pO ws N p.1) (pI ws N p.1) o.2 p.2
end
def Lx (f g:Int->Nat):Prop:= ∃m:Nat,f m<g m/\ ∀l:Nat,l<m->f l=g l
theorem vM {w:List Nat} (hw:w≠[]) {i k:Nat} (hi:i<=w.length) (hk:k<w.length):(g9 w i)[k]? =some (rd w ((i:Int)+k)):=by
 rw[ph hi hk]
 unfold Fw
 have:=gJ hw ((i:Int)+k)
 rw[<-this]
 congr 1
 have e:(((k+i)%w.length:Nat):Int)=((i:Int)+k)%w.length:=by rw[Qei,Qa8,Int.add_comm]
 omega
theorem Gh {w u:List Nat} (hw:w≠[]) (hl:u.length=w.length) {i j:Nat} (hi:i<=w.length) (hj:j<=w.length):g9 w i<g9 u j↔Lx (sq w i) (sq u j):=by
 have hu:u≠[]:=fun z=>hw (by rw[z]at hl;exact Qb8.mp hl.symm)
 have g1: ∀{k:Nat} (hk:k<(g9 w i).length),(g9 w i)[k]=sq w i k:=fun {k} hk=>by
  have:=vM hw hi (k:=k) (by rw[de]at hk;exact hk)
  rw[Mt hk]at this
  exact Qaf this
 have g2: ∀{k:Nat} (hk:k<(g9 u j).length),(g9 u j)[k]=sq u j k:=fun {k} hk=>by
  have:=vM hu (i:=j) (k:=k) (by omega) (by rw[de]at hk;exact hk)
  rw[Mt hk]at this
  exact Qaf this
 rw[List.lt_iff_exists]
 constructor
 ·rintro (⟨_,h⟩ | ⟨m,h1,h2,h3,h4⟩)
  ·rw[de,de,hl]at h;omega
  ·refine ⟨m,by rw[<-g1 h1, <-g2 h2];exact h4,fun l A1=>?_⟩
   rw[<-g1 (by omega), <-g2 (by omega)]
   exact h3 l A1
 ·rintro ⟨m,h1,h2⟩
  have hp:=Zs.mpr hw
  have hm:m<w.length:=by
   refine Classical.byContradiction fun z=>?_
   have d:=Qeu m w.length
   have c1:=iQ (f:=sq w i) (p:=w.length) (fun k=>cq w i k) (m%w.length:Nat) (m / w.length)
   have c2:=iQ (f:=sq u j) (p:=w.length) (fun k=>by rw[<-hl];exact cq u j k) (m%w.length:Nat) (m / w.length)
   have e:((m%w.length:Nat):Int)+((m / w.length:Nat):Int)*(w.length:Nat)=m:=by
    rw[Int.mul_comm];exact_mod_cast d
   rw[e]at c1 c2
   rw[c1,c2,h2 (m%w.length) (by have:=Qcz m hp;omega)]at h1
   omega
  refine .inr ⟨m,by rw[de];exact hm,by rw[de,hl];exact hm,fun l A1=>?_,?_⟩
  ·rw[g1,g2];exact h2 l A1
  ·rw[g1,g2];exact h1
theorem mm {w:List Nat} (hw:w≠[]): ∃i:Nat,i<w.length/\gn w=g9 w i:=by
 have hp:=Zs.mpr hw
 rcases kX (lZ w (w.length - 1)) w with h | h
 ·exact ⟨0,hp,by unfold gn;rw[h,xU]⟩
 ·unfold lZ at h
  obtain ⟨k,hk,e⟩:=Qau.mp h
  have:=Qbl.mp hk
  exact ⟨k+1,by omega,by unfold gn;exact e.symm⟩
theorem oj {w:List Nat} {i:Nat} (hi:i<w.length): ¬g9 w i<gn w:=by
 unfold gn
 refine kY _ _ _ ?_
 cases i with
 | zero=>rw[xU];exact Zu
 | succ i=>exact Xn _ (Qau.mpr ⟨i,Qbl.mpr (by omega),rfl⟩)
noncomputable def leads (w:List Nat):Bool:=decide (gn w<gn (iq w))
theorem kf {v:List Nat} (h:v≠[]) (k:Int):sq (iq v) k=bq v (-1 - k):=by
 funext x
 unfold sq bq
 rw[m_ h]
 congr 2;omega
theorem qv {v:List Nat} (h:v≠[]):iq v≠[]:=fun z=>h (Qb8.mp (by rw[<-cR v,z];rfl))
theorem tW {w:List Nat} (hw:w≠[]):leads w=true↔ ∃i:Int, ∀j:Int,Lx (sq w i) (bq w j):=by
 have hp:=Zs.mpr hw
 have hl:=cR w
 have ht:=qv hw
 unfold leads
 rw[decide_eq_true_iff]
 constructor
 ·intro h
  obtain ⟨i,hi,ei⟩:=mm hw
  refine ⟨i,fun j=>?_⟩
  have hj:=bX (n:=(iq w).length) (by rw[hl];exact hp) (-1 - j)
  have h2:gn w<g9 (iq w) (jJ (iq w).length (-1 - j)):=List.not_le.mp fun z=>by
   have:=List.lt_of_le_of_lt z h
   exact oj hj this
  rw[ei]at h2
  have h3:=(Gh hw hl (by omega) (by omega)).mp h2
  rw[di ht,kf hw,show -1 - (-1 - j)=j by omega]at h3
  exact h3
 ·rintro ⟨i,h⟩
  obtain ⟨j,hj,ej⟩:=mm ht
  have h2:=h (-1 - j)
  rw[show (-1:Int) - (j:Int)= -1 - j by omega, <-kf hw, <-di hw]at h2
  have hi:=bX hp i
  have h3:=(Gh hw hl (by omega) (by omega)).mpr h2
  rw[<-ej]at h3
  exact List.lt_of_le_of_lt (List.not_lt.mp (oj hi)) h3
theorem tX {w v:List Nat} (hw:w≠[]) (hv:v≠[]) {i j:Int} (h:cX w v i j):leads w=leads v:=by
 have e1: ∀k,sq w k=sq v (k - i+j):=fun k=>by
  funext x
  have:=h (k - i+x)
  unfold sq at this ⊢
  rw[show k+x=i+(k - i+x) by omega,this]
  congr 1;omega
 have e2: ∀k,bq w k=bq v (k - i+j):=fun k=>by rw[<-ff, <-ff,e1]
 rw[Qdi,tW hw,tW hv]
 constructor
 ·rintro ⟨a,h⟩
  refine ⟨a - i+j,fun b=>?_⟩
  have:=h (b - j+i)
  rwa [e1,e2,show b - j+i - i+j=b by omega]at this
 ·rintro ⟨a,h⟩
  refine ⟨a - j+i,fun b=>?_⟩
  rw[e1,e2,show a - j+i - i+j=a by omega]
  exact h _
theorem tY {y w:List Nat} (hy:Yd y) (hw:SW y w):leads (iq w)=!leads w:=by
 have hl:AllLt w:=fun c hc=>hy.lt c (hw.bW c hc)
 have ne:gn w≠gn (iq w):=fun z=>by
  obtain ⟨i,hi,ei⟩:=mm hw.ne
  obtain ⟨j,hj,ej⟩:=mm (qv hw.ne)
  rw[cR]at hj
  have: ∀k:Nat,k<w.length->sq w i k=sq (iq w) j k:=fun k hk=>by
   have h1:=vM hw.ne (i:=i) (k:=k) (by omega) hk
   have h2:=vM (qv hw.ne) (i:=j) (k:=k) (by rw[cR];omega) (by rw[cR];exact hk)
   rw[<-ei,z,ej,h2]at h1
   exact (Qaf h1).symm
  refine vC hy hw i (-1 - j) ?_
  rw[<-kf hw.ne]
  have hp:=Zs.mpr hw.ne
  refine fw (p:=w.length) (q:=w.length) hp hp (fun k=>cq w i k) (fun k=>by rw[<-cR w];exact cq (iq w) j k) fun n hn=>?_
  by_cases q:n<w.length
  ·exact this n q
  ·have c1:=cq w i ((n - w.length:Nat):Int)
   have c2:=cq (iq w) j ((n - w.length:Nat):Int)
   rw[show ((n - w.length:Nat):Int)+w.length=n by omega]at c1
   rw[cR,show ((n - w.length:Nat):Int)+w.length=n by omega]at c2
   rw[c1,c2]
   exact this _ (by omega)
 unfold leads
 rw[Jx hl, <-decide_not]
 refine decide_eq_decide.mpr ⟨fun h z=>?_,fun h=>?_⟩
 ·exact Qdn _ (List.lt_trans h z)
 ·exact List.not_le.mp fun z=>ne (List.le_antisymm z (List.not_lt.mp h))
theorem DA {y w v:List Nat} (hy:Yd y) (hw:SW y w) (hv:SW y v) {i j:Int} (h: ∀k,sq w i k=bq v j k):leads v=!leads w:=by
 have:cX w (iq v) i (-1 - j):=fun k=>by rw[kf hv.ne,show -1 - (-1 - j)=j by omega];exact h k
 rw[tX hw.ne (qv hv.ne) this,tY hy hv,Bool.not_not]
theorem Gi {w:List Nat} (hw:w≠[]) {d:Nat}:yU w d↔ ∀k:Int,rd w (k+d)=rd w k:=by
 have hp:=Zs.mpr hw
 have fr: ∀i:Nat,Fw w i=some (rd w i):=fun i=>by
  unfold Fw
  rw[<-gJ hw (i:Int)]
  congr 1
 constructor
 ·intro h k
  have:=h (jJ w.length k)
  rw[fr,fr]at this
  have:=Qaf this
  rw[cg hw]at this
  rw[<-this, <-gK w (k+d), <-gK w (((jJ w.length k+d:Nat)):Int),Qa8,fg hp,Qc5]
 ·intro h i
  rw[fr,fr,Qa8,h]
theorem jK {w:List Nat} (hw:w≠[]) {s:Nat} (h:b_ w s):0<s/\ ∀i j:Int,cX w w i j↔(i - j)%(s:Int)=0:=by
 rcases h with ⟨z,_⟩ | h'
 ·exact absurd z hw
 have h:b_ w s:= .inr h'
 obtain ⟨h1,h2,h3,_⟩:=h'
 have ps: ∀k:Int,rd w (k+s)=rd w k:=(Gi hw).mp ((gX hw h2).mp (vv h1 h2 h3))
 have pm: ∀(k t:Int),rd w (k+t*s)=rd w k:=fun k t=>by
  rcases Int.le_total 0 t with q | q
  ·obtain ⟨n,rfl⟩: ∃n:Nat,t=n:=⟨t.toNat,by omega⟩
   exact iQ ps k n
  ·obtain ⟨n,rfl⟩: ∃n:Nat,t= -(n:Int):=⟨(-t).toNat,by omega⟩
   have:=iQ ps (k+ -(n:Int)*s) n
   rw[<-this]
   congr 1
   rw[Int.neg_mul];omega
 refine ⟨h1,fun i j=>⟨fun p=>?_,fun p k=>?_⟩⟩
 ·have pd: ∀k:Int,rd w (k+(i - j))=rd w k:=fun k=>by
   have:=p (k - j)
   unfold sq at this
   rw[show i+(k - j)=k+(i - j) by omega,show j+(k - j)=k by omega]at this
   exact this
  have e:=Qey (i - j) s
  have hn:=Qbt (i - j) (b:=(s:Int)) (by omega)
  have cZ:=Qbm (i - j) (b:=(s:Int)) (by omega)
  refine Classical.byContradiction fun z=>?_
  obtain ⟨d,hd⟩: ∃d:Nat,(i - j)%(s:Int)=d:=⟨((i - j)%(s:Int)).toNat,by omega⟩
  refine b_.least h (j:=d) (by omega) (by omega) ((Gi hw).mpr fun k=>?_)
  have q:=pd k
  rw[<-e,hd,Int.mul_comm, <-Int.add_assoc,pm]at q
  exact q
 ·unfold sq
  have e:=Qey (i - j) s
  rw[p,Qcg,Int.mul_comm]at e
  rw[show i+k=j+k+(i - j) by omega, <-e,pm]
theorem Gj {y:List Nat} {ws:List (List Nat)} {r:Nat->Nat} {M:Nat} (hy:Yd y) (hw: ∀c,c<ws.length->SW y (ws.getD c [])) (hr: ∀c,c<ws.length->b_ (ws.getD c []) (r c)) (hM: ∀c d,c<ws.length->d<ws.length->(ws.getD c []).length+(ws.getD d []).length<=M):fA y ws (fun c=>leads (ws.getD c [])) r M:=
 ⟨hy,hw,hM,fun c d i j hc hd h=>tX (hw c hc).ne (hw d hd).ne h,fun c d i j hc hd h=>DA hy (hw c hc) (hw d hd) h,fun c hc=>(jK (hw c hc).ne (hr c hc)).1,fun c hc=>(jK (hw c hc).ne (hr c hc)).2⟩
noncomputable def bs (y w v:List Nat) (i j:Int):Int:=one (ac y (aC (rd w (i - 1))) (rd w i) (aC (rd v (j - 1))) (rd v j)=true)+one (fz y (sq w i) (sq v j))+one (fz y (sq w i) (bq v j))
noncomputable def SS (y w v:List Nat):Int:=cA w.length v.length (bs y w v)
theorem Lo {y w v:List Nat} (hy:Yd y) (hw:SW y w) (hv:SW y v):cA w.length v.length (fc y w v)=SS y w v:=bO fun i j _ _=>by
 unfold fc bs
 rw[br (tU (n:=w.length+v.length) hy (bE hw i) (bE hv j) fun z=>eN hw.ne hv.ne (fun k=>cq w i k) (fun k=>cq v j k) z),br (tU (n:=w.length+v.length) hy (bE hw i) (gL hy hv j) fun z=>eN hw.ne hv.ne (fun k=>cq w i k) (fun k=>kZ v j k) z)]
def Nb (y:List Nat) (f g:Int->Nat):Prop:= ∃b,Run f g 0 b/\gY y f g 0≠g_ y f g b
theorem Nd {y:List Nat} {n m:Nat} {F G:Int->Int->Nat} (bF: ∀k,dU (F k)=F (k - 1)) (bG: ∀k,dU (G k)=G (k - 1)) (pF: ∀k,F (k+n)=F k) (pG: ∀k,G (k+m)=G k):cA n m (fun s t=>one (fz y (F s) (G t)))=cA n m fun s t=>one (Nb y (F s) (G t)):=by
 have key: ∀s t:Int,one (fz y (F s) (G t))+one (∃a b,Run (F (s - 1)) (G (t - 1)) (a+1) b/\gY y (F (s - 1)) (G (t - 1)) (a+1)≠g_ y (F (s - 1)) (G (t - 1)) b)=one (Nb y (F s) (G t))+one (∃a b,Run (F s) (G t) (a+1) b/\gY y (F s) (G t) (a+1)≠g_ y (F s) (G t) b):=fun s t=>by
  rw[<-bF, <-bG]
  generalize F s=f
  generalize G t=g
  by_cases X: ∃a b,Run f g a b/\gY y f g a≠g_ y f g b
  ·obtain ⟨a,b,r,x⟩:=X
   have u: ∀{a' b'},Run f g a' b'->a'=a/\b'=b:=fun r'=>r'.one r
   have e1:one (fz y f g)+one (∃a b,Run (dU f) (dU g) (a+1) b/\gY y (dU f) (dU g) (a+1)≠g_ y (dU f) (dU g) b)=1:=by
    cases b with
    | zero=>
     rw[e_ ⟨a,r,x⟩,bg (fun ⟨a',b',r',_⟩=>absurd (u r'.fd).2 (Qdu _))]
     rfl
    | succ b=>
     rw[bg (fun ⟨a',r',_⟩=>absurd (u r').2.symm (Qdu _)),e_ ⟨a,b,r.bk,by rw[me,mf];exact x⟩]
     rfl
   have e2:one (Nb y f g)+one (∃a b,Run f g (a+1) b/\gY y f g (a+1)≠g_ y f g b)=1:=by
    cases a with
    | zero=>
     rw[e_ ⟨b,r,x⟩,bg (fun ⟨a',b',r',_⟩=>absurd (u r').1 (Qdu _))]
     rfl
    | succ a=>
     rw[bg (fun ⟨b',r',_⟩=>absurd (u r').1.symm (Qdu _)),e_ ⟨a,b,r,x⟩]
     rfl
   rw[e1,e2]
  ·rw[bg (fun ⟨a,r,x⟩=>X ⟨a,0,r,x⟩),bg (fun ⟨a,b,r,x⟩=>X ⟨a,b+1,r.fd,by rw[me,mf]at x;exact x⟩),bg (fun ⟨b,r,x⟩=>X ⟨0,b,r,x⟩),bg (fun ⟨a,b,r,x⟩=>X ⟨a+1,b,r,x⟩)]
 have sh:=tV (n:=n) (m:=m) (h:=fun s t=>one (∃a b,Run (F s) (G t) (a+1) b/\gY y (F s) (G t) (a+1)≠g_ y (F s) (G t) b)) (fun i j=>by rw[pF]) (fun i j=>by rw[pG])
 refine (Int.add_left_inj (cA n m (fun s t=>one (∃a b,Run (F s) (G t) (a+1) b/\gY y (F s) (G t) (a+1)≠g_ y (F s) (G t) b)))).mp ?_
 rw[<-cx n m (fun s t=>one (Nb y (F s) (G t))), <-sh, <-cx]
 exact bO fun i j _ _=>key i j
theorem Lp {y:List Nat} {f g:Int->Nat} (hy:Yd y) (hf:i6 y f) (hg:i6 y g):Nb y f g↔fz y (ku g) (ku f):=by
 have a1: ∀b:Nat,gY y (ku g) (ku f) b=g_ y f g b:=fun b=>by
  unfold gY g_
  rw[jG hy hf,jG hy hg]
  exact decide_eq_decide.mpr ⟨fun q=>by omega,fun q=>by omega⟩
 have a2:g_ y (ku g) (ku f) 0=gY y f g 0:=by
  unfold gY g_
  have e1:=jG hy hf (-1)
  have e2:=jG hy hg (-1)
  rw[show (-1:Int)+1= -((0:Nat):Int) from rfl]at e1 e2
  rw[e1,e2]
  exact decide_eq_decide.mpr ⟨fun q=>by have:(y.length:Int) - eQ y g 1<y.length - eQ y f 1:=q;show eQ y f 1<eQ y g 1;omega,fun q=>by have:eQ y f 1<eQ y g 1:=q;show (y.length:Int) - eQ y g 1<y.length - eQ y f 1;omega⟩
 constructor
 ·rintro ⟨b,r,x⟩
  exact ⟨b,(r.rv hy hf hg).sy,by rw[a1,a2];exact Ne.symm x⟩
 ·rintro ⟨b,r,x⟩
  have r2:=r.rv hy (hg.rv hy) (hf.rv hy)
  rw[oh hy hf,oh hy hg]at r2
  rw[a1,a2]at x
  exact ⟨b,r2.sy,Ne.symm x⟩
theorem vN {y:List Nat} {f g:Int->Nat} (hy:Yd y) (hf:i6 y f) (hg:i6 y g):fz y f g↔fz y g f:=⟨Ln hy hf hg,Ln hy hg hf⟩
theorem Sw (w:List Nat) (k:Int):dU (sq w k)=sq w (k - 1):=by
 funext x
 unfold dU sq
 congr 1
 omega
theorem Gk {y w:List Nat} (hy:Yd y) (h:SW y w) (i:Int):ku (bq w i)=sq w i:=by rw[<-ff,oh hy (bE h i)]
theorem Nf {y w v:List Nat} (hy:Yd y) (hw:SW y w) (hv:SW y v):cA w.length v.length (fun i j=>one (fz y (bq w i) (sq v j)))=cA w.length v.length fun i j=>one (fz y (sq w i) (bq v j)):=by
 have fb: ∀k,dU (bq v (-k))=bq v (-(k - 1)):=fun k=>by
  funext x
  unfold dU bq
  congr 2
  omega
 have fp: ∀k:Int,bq v (-(k+v.length))=bq v (-k):=fun k=>by rw[show -(k+(v.length:Int))= -k - v.length by omega,M8]
 have e:=Nd (y:=y) (n:=w.length) (m:=v.length) (F:=sq w) (G:=fun k=>bq v (-k)) (Sw w) fb (vB w) fp
 have n1: ∀H:Int->Int->Int,(∀i j,H i (j+v.length)=H i j)->cA w.length v.length (fun i j=>H i (-j))=cA w.length v.length H:=fun H P=>aX fun i _=>Ab (h:=H i) fun k=>P i k
 rw[n1 (fun i j=>one (fz y (sq w i) (bq v j))) (fun i j=>by rw[k_]),n1 (fun i j=>one (Nb y (sq w i) (bq v j))) (fun i j=>by rw[k_])]at e
 rw[e]
 exact bO fun i j _ _=>br (by rw[Lp hy (bE hw i) (gL hy hv j),ff,Gk hy hv];exact vN hy (gL hy hw i) (bE hv j))
theorem JS {y w:List Nat} (hy:Yd y) (h:SW y w) (i:Int):aC (rd w (i - 1))∈y/\rd w i∈y/\aC (rd w (i - 1))≠rd w i:=⟨hy.cl _ (h.rd _),h.rd _,Ne.symm (h.red i)⟩
theorem Ng {y w v:List Nat} (hy:Yd y) (hw:SW y w) (hv:SW y v):SS y w v=SS y v w:=by
 have sw: ∀H:Int->Int->Int,cA v.length w.length (fun j i=>H i j)=cA w.length v.length H:=fun H=>BK _ _ _
 have e: ∀u z:List Nat,SS y u z=cA u.length z.length (fun i j=>one (ac y (aC (rd u (i - 1))) (rd u i) (aC (rd z (j - 1))) (rd z j)=true))+cA u.length z.length (fun i j=>one (fz y (sq u i) (sq z j)))+cA u.length z.length (fun i j=>one (fz y (sq u i) (bq z j))):=fun u z=>by
  unfold SS bs
  rw[cx,cx]
 rw[e w v,e v w, <-Nf hy hw hv, <-sw, <-sw, <-sw]
 congr 1
 ·congr 1
  ·exact bO fun j i _ _=>by
    obtain ⟨a1,a2,a3⟩:=JS hy hw i
    obtain ⟨b1,b2,b3⟩:=JS hy hv j
    rw[Gd hy a1 a2 b1 b2 a3 b3]
  ·exact bO fun j i _ _=>br (vN hy (bE hw i) (bE hv j))
 ·exact bO fun j i _ _=>br (vN hy (gL hy hw i) (bE hv j))
structure Tld (y z:List Nat) (σ:Nat->Nat) (neg:Bool):Prop where
 yd:Yd y
 zd:Yd z
 XT: ∀a∈y,σ a∈z
 inj: ∀a∈y, ∀b∈y,σ a=σ b->a=b
 com: ∀a∈y,σ (aC a)=aC (σ a)
 gr: ∀a∈y, ∀b∈y, ∀c∈y,a≠b->a≠c->b≠c->gr z (σ a) (σ b) (σ c)=(neg ^^ gr y a b c)
theorem Nh {a b:List Nat} {x y z:Nat} (hn:(a++b).Nodup) (hx:x∈a++b) (hy:y∈a++b) (hz:z∈a++b) (xy:x≠y) (xz:x≠z) (yz:y≠z):gr (b++a) x y z=gr (a++b) x y z:=by
 have pm: ∀{e:Nat},e∈a++b->e∈b++a:=fun {e} he=>Qds.mem_iff.mp he
 rw[gk hn hx hy hz xy xz yz,gk (Qds.nodup_iff.mp hn) (pm hx) (pm hy) (pm hz) xy xz yz]
 refine decide_eq_decide.mpr ?_
 rw[pj hn hx,pj hn hy,pj hn hz]
 have ix:=Zw hx
 have iy:=Zw hy
 have iz:=Zw hz
 rw[Oy]at ix iy iz
 unfold ka
 split<;>split<;>split<;>omega
noncomputable def gA (y:List Nat):List Nat:=(y.filter aJ).mergeSort fun a b=>decide (a<=b)
theorem kg (y:List Nat):(gA y).Perm (y.filter aJ):=List.mergeSort_perm _ _
theorem x5 (y:List Nat):(gA y).Pairwise (· <= ·):=
 (List.pairwise_mergeSort (le:=fun a b=>decide (a<=b)) (fun a b c h1 h2=>decide_eq_true (Qao (of_decide_eq_true h1) (of_decide_eq_true h2))) (fun a b=>by
  rcases Nat.le_total a b with z | z
  ·rw[decide_eq_true z];rfl
  ·rw[decide_eq_true z,Bool.or_true]) (y.filter aJ)).imp fun z=>of_decide_eq_true z
theorem BM {y l:List Nat} (h:l.Perm (y.filter aJ)) (p:l.Pairwise (· <= ·)):l=gA y:=Ds (h.trans (kg y).symm) p (x5 y)
theorem Gm {y:List Nat} (h:Yd y) {e:Nat} (he:e∈y):PyProof.Rows.lo1 e∈gA y:=by
 refine (kg y).mem_iff.mpr (Qa0.mpr ?_)
 rcases h.lt e he with z | z
 ·rw[(bJ e z).2.1];exact ⟨he,(bJ e z).1⟩
 ·rw[(cb e z).2.1];exact ⟨h.cl e he,(bJ _ (cb e z).2.2.2).1⟩
theorem jL {y:List Nat} (h:Yd y):2*(gA y).length=y.length:=by rw[(kg y).length_eq];exact FI h
structure Pr where
 t:Addr
 c:Nat
 i:Nat
noncomputable def tZ (ps:List Pr):List V:=ps.map fun p=>V.ref p.t
theorem vO (ps:List Pr):(tZ ps).length=ps.length:=by unfold tZ;rw[Xl]
theorem Gn (a:List Pr) (p:Pr):tZ a++[V.ref p.t]=tZ (a++[p]):=by unfold tZ;rw[Qaa];rfl
theorem JT (a:List Pr):(tZ a).reverse=tZ a.reverse:=by unfold tZ;rw[Qda]
theorem Gp {ps:List Pr} {i:Nat} {x:V} (h:(tZ ps)[i]? =some x): ∃p,ps[i]? =some p/\x=V.ref p.t:=by
 unfold tZ at h
 rw[Qak]at h
 cases e:ps[i]? with
 | none=>rw[e]at h;cases h
 | some p=>rw[e]at h;cases h;exact ⟨p,rfl,rfl⟩
structure oP (H:Hp) (p:Pr):Prop where
 tp:H p.t=some (.tup [.int p.c, .int p.i])
 cz:p.c<1000
 iz:p.i<1000
theorem oP.same {H H':Hp} {p:Pr} (h:oP H p) (s:ar H H'):oP H' p:=⟨s _ _ h.tp,h.cz,h.iz⟩
structure Od where
 o:Addr
 ps:List Pr
structure DB (H:Hp) (o:Od):Prop where
 tp:H o.o=some (.tup (tZ o.ps))
 pr: ∀p∈o.ps,oP H p
 fw:o.ps.length<=100
theorem DB.same {H H':Hp} {o:Od} (h:DB H o) (s:ar H H'):DB H' o:=⟨s _ _ h.tp,fun p hp=>(h.pr p hp).same s,h.fw⟩
noncomputable def JU (os:List Od):List V:=os.map fun o=>V.ref o.o
theorem Gq (a:List Od) (p:Od):JU a++[V.ref p.o]=JU (a++[p]):=by unfold JU;rw[Qaa];rfl
theorem Ni {os:List Od} {i:Nat} {o:Od} (h:os[i]? =some o):(JU os)[i]? =some (V.ref o.o):=by unfold JU;rw[Qak,h];rfl
structure Ah (H:Hp) (dr:Addr) (ws:List (List Nat)) (os:List Od):Prop where
 ex: ∃wt ot,H dr=some (.tup [.ref wt, .ref ot])/\H wt=some (.tup (cy ws))/\H ot=some (.tup (JU os))
 od: ∀o∈os,DB H o
theorem Ah.same {H H':Hp} {dr:Addr} {ws:List (List Nat)} {os:List Od} (h:Ah H dr ws os) (s:ar H H'):Ah H' dr ws os:=by
 obtain ⟨⟨wt,ot,h1,h2,h3⟩,g⟩:=h
 exact ⟨⟨wt,ot,s _ _ h1,s _ _ h2,s _ _ h3⟩,fun o ho=>(g o ho).same s⟩
noncomputable def Ai (y:List Nat) (os:List Od) (e:Nat):List Pr:=((os[(gA y).idxOf (PyProof.Rows.lo1 e)]?).map Od.ps).getD []
noncomputable def pB (y:List Nat) (os:List Od) (e:Nat):List Pr:=if isUp e=true then (Ai y os e).reverse else Ai y os e
theorem jM {y:List Nat} {os:List Od} {e:Nat} (h:Yd y) (he:e∈y) (ho:2*os.length=y.length): ∃o∈os,os[(gA y).idxOf (PyProof.Rows.lo1 e)]? =some o/\Ai y os e=o.ps:=by
 have hi:=Zw (Gm h he)
 have hl:=jL h
 have OH:(gA y).idxOf (PyProof.Rows.lo1 e)<os.length:=by omega
 exact ⟨os[(gA y).idxOf (PyProof.Rows.lo1 e)],Qas OH,Mt OH,by unfold Ai;rw[Mt OH];rfl⟩
structure Pt where
 t:Addr
 c:Nat
 i:Nat
 e:Nat
noncomputable def Ib (ps:List Pt):List V:=ps.map fun p=>V.ref p.t
theorem BN (ps:List Pt):(Ib ps).length=ps.length:=by unfold Ib;rw[Xl]
theorem Gr (a:List Pt) (p:Pt):Ib a++[V.ref p.t]=Ib (a++[p]):=by unfold Ib;rw[Qaa];rfl
noncomputable def Pt.is (p:Pt):Nat×Nat×Nat:=(p.c,p.i,p.e)
structure rS (H:Hp) (p:Pt):Prop where
 tp:H p.t=some (.tup [.int p.c, .int p.i, .str (S [p.e])])
 cz:p.c<1000
 iz:p.i<1000
 ez:p.e<128
theorem rS.same {H H':Hp} {p:Pt} (h:rS H p) (s:ar H H'):rS H' p:=⟨s _ _ h.tp,h.cz,h.iz,h.ez⟩
theorem rS.upd {H:Hp} {p:Pt} {q:Addr} {o:HO} (h:rS H p) (n:p.t≠q):rS (L2.upd H q o) p:=⟨by rw[aD n];exact h.tp,h.cz,h.iz,h.ez⟩
noncomputable def gp (y:List Nat) (os:List Od) (e:Nat):List (Nat×Nat×Nat):=(pB y os e).map fun p=>(p.c,p.i,e)
noncomputable def pE (y:List Nat) (os:List Od):List (Nat×Nat×Nat):=y.flatMap (gp y os)
noncomputable def Pr.pair (p:Pr):Nat×Nat:=(p.c,p.i)
noncomputable def Aj (band l:Nat):Bool:=decide (l=band)||decide (l=aC band)
noncomputable def i7 (band c:Nat) (w:List Nat) (n:Nat):List (Nat×Nat):=((List.range n).filter fun i=>Aj band (w.getD i 0)).map fun i=>(c,i)
noncomputable def dJ (band:Nat) (ws:List (List Nat)) (n:Nat):List (Nat×Nat):=(List.range n).flatMap fun c=>i7 band c (ws.getD c []) (ws.getD c []).length
theorem Ak {band c i l:Nat} {w:List Nat} (h:w[i]? =some l):i7 band c w (i+1)=i7 band c w i++if Aj band l=true then [(c,i)] else []:=by
 have e:w.getD i 0=l:=by rw[kb,h];rfl
 unfold i7
 rw[Qbo,Qcp,Qaa]
 congr 1
 by_cases z:Aj band l=true
 ·rw[if_pos z,Qbd (by rw[e];exact z)];rfl
 ·rw[if_neg z,Qa1 (by rw[e];exact z)];rfl
theorem x6 {band i:Nat} {ws:List (List Nat)} {w:List Nat} (h:ws[i]? =some w):dJ band ws (i+1)=dJ band ws i++i7 band i w w.length:=by
 have e:ws.getD i []=w:=by rw[kb,h];rfl
 unfold dJ
 rw[Qbo,Qbn]
 congr 1
 rw[Qbc,Qfo,Qbh,e]
structure Sx (y:List Nat) (ws:List (List Nat)):Prop where
 lV:ws.length<=4
 all: ∀w∈ws,(∀c∈w,c∈y)/\w.length<=12
def x8 (y:List Nat) (ws:List (List Nat)) (os:List Od):Prop:=os.length=(gA y).length/\ ∀(j:Nat) (o:Od) (b:Nat),os[j]? =some o->(gA y)[j]? =some b->(o.ps.map Pr.pair).Perm (dJ b ws ws.length)
def kF (_:PySem.W.Frag):Sp:=fun vs H Q _=> ∃(y:List Nat) (dr:Addr) (ws:List (List Nat)) (os:List Od) (e:Nat),vs=[.str (S y), .ref dr, .str (S [e])]/\Yd y/\y.length<=8/\e∈y/\2*os.length=y.length/\Ah H dr ws os/\ ∀(q:Addr) (H':Hp),H q=none->H' q=some (.lst (tZ (pB y os e)))->ar H H'->Q (.ref q) H'
theorem qw {K:PySem.W.Frag} {vs:List V} {H:Hp} {Q:VK} {E:XK} (h:kF K vs H Q E):vs.length=3:=by obtain ⟨c,_,_,_,_,rfl,_⟩:=h;rfl
def t5 (_:PySem.W.Frag):Sp:=fun vs H Q _=> ∃(y:List Nat) (dr:Addr) (ws:List (List Nat)) (os:List Od),vs=[.str (S y), .ref dr]/\Yd y/\y.length<=8/\2*os.length=y.length/\Ah H dr ws os/\ ∀(q:Addr) (ps:List Pt) (H':Hp),H q=none->H' q=some (.lst (Ib ps))->(∀p∈ps,rS H' p/\p.t≠q)->ps.map Pt.is=pE y os->ps.length<=800->ar H H'->Q (.ref q) H'
theorem Al {K:PySem.W.Frag} {vs:List V} {H:Hp} {Q:VK} {E:XK} (h:t5 K vs H Q E):vs.length=2:=by obtain ⟨c,_,_,_,rfl,_⟩:=h;rfl
theorem JV {y:List Nat} {os:List Od} {e:Nat} {p:Pr} (h:Yd y) (he:e∈y) (ho:2*os.length=y.length) (hp:p∈pB y os e): ∃o∈os,p∈o.ps:=by
 obtain ⟨o,h1,h2,h3⟩:=jM h he ho
 refine ⟨o,h1,?_⟩
 unfold pB at hp
 rw[h3]at hp
 split at hp
 ·exact Qdv.mp hp
 ·exact hp
theorem JW {H:Hp} {y:List Nat} {os:List Od} {e:Nat} (h:Yd y) (he:e∈y) (ho:2*os.length=y.length) (hd: ∀o∈os,DB H o):(pB y os e).length<=100:=by
 obtain ⟨o,h1,h2,h3⟩:=jM h he ho
 have:=(hd o h1).fw
 unfold pB
 rw[h3]
 split
 ·rw[Qa6];exact this
 ·exact this
theorem oP.ts {H H':Hp} {p:Pr} (h:oP H p) (s:dv H H'):oP H' p:=⟨s _ _ h.tp,h.cz,h.iz⟩
theorem Gs {band l:Nat} (hb:band∈aP) (hl:Lt l):decide (PyProof.Rows.lo1 l=band)=Aj band l:=by
 unfold Aj
 rcases hl with h | h
 ·have e:=(bJ l h).2.1
  have n:l≠aC band:=fun z=>tM _ (bJ band hb).2.2 (z▸h)
  rw[e,decide_eq_false n,Qdy]
 ·have e:=(cb l h).2.1
  have n:l≠band:=fun z=>tM l h (z▸hb)
  rw[e,decide_eq_false n,Qe9]
  refine decide_eq_decide.mpr ⟨fun z=>by rw[<-z,aN (.inr h)],fun z=>by rw[z,aN (.inl hb)]⟩
theorem gix {α:Type} {l:List α} (h:l.Nodup) {i j:Nat} (hi:i<l.length) (hj:j<l.length) (e:l[i]=l[j]):i=j:=by
 have hp:=Qdc.mp h
 rcases Nat.lt_trichotomy i j with z | z | z
 ·exact absurd e (hp i j hi hj z)
 ·exact z
 ·exact absurd e.symm (hp j i hj hi z)
theorem t6 {l:List (Nat×Nat×Nat)} (h:l.Nodup) {n:Nat} {p:Nat×Nat×Nat} (e:l[n]? =some p):l.idxOf p=n:=by
 obtain ⟨hn,e2⟩:=Mu.mp e
 have hm:p∈l:=Qah e
 have hi:=Zw hm
 exact gix h hi hn ((Qby hi).trans e2.symm)
theorem qx {α:Type} {f:Nat->List α} (g:α->Nat): ∀{l:List Nat},l.Nodup->(∀e∈l,(f e).Nodup)->(∀e∈l, ∀p∈f e,g p=e)->(l.flatMap f).Nodup
 | [],_,_,_=>Qd8
 | a::l,hn,h1,h2=>by
  obtain ⟨n1,n2⟩:=Qaz.mp hn
  rw[Qbc,Qbv]
  refine ⟨h1 a Zu,qx g n2 (fun e he=>h1 e (Xn _ he)) (fun e he=>h2 e (Xn _ he)),fun x hx y hy z=>?_⟩
  subst z
  obtain ⟨e,he,hxe⟩:=Qbf.mp hy
  have g1:=h2 a Zu x hx
  have g2:=h2 e (Xn _ he) x hxe
  exact n1 (by rw[<-g1,g2];exact he)
theorem Gu (band c:Nat) (w:List Nat) (n:Nat):(i7 band c w n).Nodup:=by
 unfold i7
 show (List.map _ _).Pairwise (· ≠ ·)
 rw[Qb3]
 exact (Qfn.filter _).imp fun {i j} h z=>h (by cases z;rfl)
theorem t9 (band:Nat) (ws:List (List Nat)) (n:Nat):(dJ band ws n).Nodup:=
 qx Prod.fst Qfn (fun c _=>Gu _ _ _ _) fun c _ p hp=>by
  unfold i7 at hp
  obtain ⟨i,_,rfl⟩:=Qau.mp hp
  rfl
theorem Am {band c i n:Nat} {ws:List (List Nat)} (hc:c<n) (hi:i<(ws.getD c []).length) (hb:Aj band ((ws.getD c []).getD i 0)=true):(c,i)∈dJ band ws n:=
 Qbf.mpr ⟨c,Qbl.mpr hc,Qau.mpr ⟨i,Qa0.mpr ⟨Qbl.mpr hi,hb⟩,rfl⟩⟩
theorem x8.at {y:List Nat} {ws:List (List Nat)} {os:List Od} {e:Nat} (h:Yd y) (ho:x8 y ws os) (he:e∈y):(((pB y os e).map Pr.pair)).Perm (dJ (PyProof.Rows.lo1 e) ws ws.length):=by
 have hl:=jL h
 have C1:=ho.1
 obtain ⟨o,o1,o2,o3⟩:=jM (os:=os) h he (by omega)
 have hm:=Gm h he
 have hb:(gA y)[(gA y).idxOf (PyProof.Rows.lo1 e)]? =some (PyProof.Rows.lo1 e):=by
  have hi:=Zw hm
  rw[Mt hi,Qby hi]
 have p:=ho.2 _ o _ o2 hb
 unfold pB
 rw[o3]
 split
 ·rw[Qda]
  exact (List.reverse_perm _).trans p
 ·exact p
theorem Gv {y:List Nat} {ws:List (List Nat)} {os:List Od} (h:Yd y) (ho:x8 y ws os):(pE y os).Nodup:=by
 refine qx (fun p=>p.2.2) h.nd (fun e he=>?_) fun e _ p hp=>?_
 ·have hn:=(ho.at h he).nodup_iff.mpr (t9 _ _ _)
  have e1:gp y os e=((pB y os e).map Pr.pair).map fun x=>(x.1,x.2,e):=by unfold gp;rw[Qb2];rfl
  rw[e1]
  show (List.map _ _).Pairwise (· ≠ ·)
  rw[Qb3]
  exact hn.imp fun {a b} g z=>g (by cases a;cases b;cases z;rfl)
 ·unfold gp at hp
  obtain ⟨x,_,rfl⟩:=Qau.mp hp
  rfl
theorem Gw {y:List Nat} {ws:List (List Nat)} {os:List Od} {c i l e:Nat} {w:List Nat} (h:Yd y) (ho:x8 y ws os) (hw:ws[c]? =some w) (hl:w[i]? =some l) (JX:l∈y) (he:e=l\/e=aC l):(c,i,e)∈pE y os:=by
 have cZ:=h.lt l JX
 have Ic:e∈y:=by rcases he with rfl | rfl;exact JX;exact h.cl l JX
 have e1:PyProof.Rows.lo1 e=PyProof.Rows.lo1 l:=by
  rcases he with rfl | rfl
  ·rfl
  ·rcases cZ with g | g
   ·rw[(cb _ (bJ l g).2.2).2.1,(bJ l g).2.1,aN (.inl g)]
   ·rw[(bJ _ (cb l g).2.2.2).2.1,(cb l g).2.1]
 have hb:PyProof.Rows.lo1 l∈aP:=by
  rcases cZ with g | g
  ·rw[(bJ l g).2.1];exact g
  ·rw[(cb l g).2.1];exact (cb l g).2.2.2
 have hon:Aj (PyProof.Rows.lo1 l) l=true:=by rw[<-Gs hb cZ];exact decide_eq_true rfl
 have d1:ws.getD c []=w:=by rw[kb,hw];rfl
 have d2:w.getD i 0=l:=by rw[kb,hl];rfl
 have hm:(c,i)∈(pB y os e).map Pr.pair:=by
  rw[(ho.at h Ic).mem_iff,e1]
  exact Am (Mu.mp hw).1 (by rw[d1];exact (Mu.mp hl).1) (by rw[d1,d2];exact hon)
 obtain ⟨p,hp,ep⟩:=Qau.mp hm
 refine Qbf.mpr ⟨e,Ic,Qau.mpr ⟨p,hp,?_⟩⟩
 have e2:p.c=c:=congrArg Prod.fst ep
 have e3:p.i=i:=congrArg Prod.snd ep
 rw[e2,e3]
noncomputable def vP (p:Nat×Nat×Nat):List Key:=[Sum.inl (p.1:Int),Sum.inl (p.2.1:Int),Sum.inr (S [p.2.2])]
theorem Gx {p q:Nat×Nat×Nat} (h:vP p=vP q):p=q:=by
 unfold vP at h
 injection h with h1 h2
 injection h2 with h2 h3
 injection h3 with h3 _
 have a1:(p.1:Int)=q.1:=Sum.inl.inj h1
 have a2:(p.2.1:Int)=q.2.1:=Sum.inl.inj h2
 have a3:[p.2.2]=[q.2.2]:=by
  have:=Sum.inr.inj h3
  rw[<-fD [p.2.2],this,fD]
 have a4:p.2.2=q.2.2:=by simpa using a3
 exact Prod.ext (by omega) (Prod.ext (by omega) a4)
def Nums (ps:List (Nat×Nat×Nat)) (aU:List (List Key×V)) (n:Nat):Prop:= ∀p∈ps.take n,dZ aU (vP p)=some (.int (ps.idxOf p:Nat))
theorem Nums.put {ps:List (Nat×Nat×Nat)} {aU:List (List Key×V)} {n:Nat} {p:Nat×Nat×Nat} (h:Nums ps aU n) (hn:ps.Nodup) (e:ps[n]? =some p):Nums ps (putK aU (vP p) (.int (n:Nat))) (n+1):=fun r hr=>by
 rw[E4]
 by_cases z:r=p
 ·rw[if_pos (by rw[z]),z,t6 hn e]
 ·rw[if_neg fun g=>z (Gx g)]
  rw[<-take_snoc e]at hr
  exact h r ((Qaj.mp hr).resolve_right fun g=>z (Zt.mp g))
noncomputable def yW (n i:Nat):Nat:=if i=0 then n - 1 else i - 1
theorem An {n i:Nat} (h:i<n):yW n i<n:=by unfold yW;split<;>omega
theorem BO {n i:Nat} (h:i<n):((i:Int) - 1)%(n:Int)=((yW n i:Nat):Int):=by
 unfold yW
 split
 ·rename_i z
  subst z
  have:((0:Nat):Int) - 1+(n:Int)=((n - 1:Nat):Int):=by omega
  rw[<-Qdl,this]
  exact Qax (by omega) (by omega)
 ·have:(i:Int) - 1=((i - 1:Nat):Int):=by omega
  rw[this]
  exact Qax (by omega) (by omega)
noncomputable abbrev C4:=Nat×Nat×Nat×Nat
noncomputable def kG (ps:List (Nat×Nat×Nat)) (c:Nat) (w:List Nat) (i:Nat):C4:=(c,i,ps.idxOf (c,yW w.length i,aC (w.getD (yW w.length i) 0)),ps.idxOf (c,i,w.getD i 0))
noncomputable def ni (ps:List (Nat×Nat×Nat)) (c:Nat) (w:List Nat) (n:Nat):List C4:=(List.range n).map (kG ps c w)
noncomputable def gZ (ps:List (Nat×Nat×Nat)) (ws:List (List Nat)) (n:Nat):List C4:=(List.range n).flatMap fun c=>ni ps c (ws.getD c []) (ws.getD c []).length
theorem x9 (ps:List (Nat×Nat×Nat)) (c:Nat) (w:List Nat) (n:Nat):ni ps c w (n+1)=ni ps c w n++[kG ps c w n]:=by unfold ni;rw[Qbo,Qaa];rfl
theorem vQ {ps:List (Nat×Nat×Nat)} {ws:List (List Nat)} {i:Nat} {w:List Nat} (h:ws[i]? =some w):gZ ps ws (i+1)=gZ ps ws i++ni ps i w w.length:=by
 have e:ws.getD i []=w:=by rw[kb,h];rfl
 unfold gZ
 rw[Qbo,Qbn]
 congr 1
 rw[Qbc,Qfo,Qbh,e]
structure Q4 where
 t:Addr
 v:C4
noncomputable def DC (qs:List Q4):List V:=qs.map fun q=>V.ref q.t
theorem BP (qs:List Q4):(DC qs).length=qs.length:=by unfold DC;rw[Xl]
theorem Gy (a:List Q4) (q:Q4):DC a++[V.ref q.t]=DC (a++[q]):=by unfold DC;rw[Qaa];rfl
theorem Nj {qs:List Q4} {i:Nat} {x:V} (h:(DC qs)[i]? =some x): ∃q,qs[i]? =some q/\x=V.ref q.t:=by
 unfold DC at h
 rw[Qak]at h
 cases e:qs[i]? with
 | none=>rw[e]at h;cases h
 | some p=>rw[e]at h;cases h;exact ⟨p,rfl,rfl⟩
def rT (H:Hp) (q:Q4):Prop:=H q.t=some (.tup [.int q.v.1, .int q.v.2.1, .int q.v.2.2.1, .int q.v.2.2.2])
theorem rT.ts {H H':Hp} {q:Q4} (h:rT H q) (s:dv H H'):rT H' q:=s _ _ h
noncomputable def t_ (y:List Nat) (ws:List (List Nat)) (os:List Od):List C4:=gZ (pE y os) ws ws.length
theorem Sy {y:List Nat} {os:List Od} {p:Pt} {ps:List Pt} (h:ps.map Pt.is=pE y os) {i:Nat} (hi:ps[i]? =some p):(pE y os)[i]? =some p.is:=by rw[<-h,Qak,hi];rfl
def iC (_:PySem.W.Frag):Sp:=fun vs H Q _=> ∃(w:List Nat) (c i:Nat),vs=[.str (S w), .int c, .int i]/\(∀l∈w,l<128)/\i<w.length/\w.length<=1000/\ ∀(t t1 t2:Addr) (H':Hp),H' t=some (.tup [.ref t1, .ref t2])->H' t1=some (.tup ((vP (c,yW w.length i,aC (w.getD (yW w.length i) 0))).map kV))->H' t2=some (.tup ((vP (c,i,w.getD i 0)).map kV))->ar H H'->Q (.ref t) H'
theorem mq {K:PySem.W.Frag} {vs:List V} {H:Hp} {Q:VK} {E:XK} (h:iC K vs H Q E):vs.length=3:=by obtain ⟨c,_,_,rfl,_⟩:=h;rfl
def qy (_:PySem.W.Frag):Sp:=fun vs H Q _=> ∃(y:List Nat) (dr:Addr) (ws:List (List Nat)) (os:List Od),vs=[.str (S y), .ref dr]/\Yd y/\y.length<=8/\Sx y ws/\x8 y ws os/\Ah H dr ws os/\ ∀(q:Addr) (qs:List Q4) (H':Hp),H q=none->H' q=some (.lst (DC qs))->(∀x∈qs,rT H' x)->qs.map Q4.v=t_ y ws os->ar H H'->Q (.ref q) H'
theorem x_ {K:PySem.W.Frag} {vs:List V} {H:Hp} {Q:VK} {E:XK} (h:qy K vs H Q E):vs.length=2:=by obtain ⟨c,_,_,_,rfl,_⟩:=h;rfl
theorem JY {y:List Nat} {os:List Od} {i m e:Nat} {p:Pr} (he:y[i]? =some e) (hp:(pB y os e)[m]? =some p):(pE y os)[((y.take i).flatMap (gp y os)).length+m]? =some (p.c,p.i,e):=by
 obtain ⟨hi,e1⟩:=Mu.mp he
 have hy:y=y.take i++e::y.drop (i+1):=by
  rw[<-e1, <-Qbj hi,Qa7]
 have h1:pE y os=(y.take i).flatMap (gp y os)++(gp y os e++(y.drop (i+1)).flatMap (gp y os)):=by
  unfold pE
  conv=>lhs;arg 2;rw[hy]
  rw[Qbn,Qbc]
 have h2:(gp y os e)[m]? =some (p.c,p.i,e):=by unfold gp;rw[Qak,hp];rfl
 rw[h1,Qcf (Nat.le_add_right _ _),Nat.add_sub_cancel_left,Qbr (Mu.mp h2).1]
 exact h2
structure Gz (y:List Nat) (ws:List (List Nat)) (L:Nat->Bool) (r:Nat->Nat) (M:Nat) (os:List Od):Prop where
 ok:x8 y ws os
 asc: ∀o∈os,(o.ps.map Pr.pair).Pairwise fun s t=>bV (dh y ws L r M s.1 s.2) (dh y ws L r M t.1 t.2)=true
theorem Ao: ∀c∈aP++kW,PyProof.Rows.lo1 (aC c)=PyProof.Rows.lo1 c/\isUp c=!aJ c:=by decide+kernel
theorem DD {α:Type} {y:List Nat} (F:Nat->List α) {k k' e:Nat} (he:y[k]? =some e) (h:k<k'):((y.take k).flatMap F).length+(F e).length<=((y.take k').flatMap F).length:=by
 have e1:(y.take k').take (k+1)=y.take (k+1):=by rw[List.take_take,Qbz (by omega)]
 have e2:y.take k'=y.take (k+1)++(y.take k').drop (k+1):=by rw[<-e1,Qa7]
 rw[e2,Qbn,Oy, <-take_snoc he,Qbn,Oy]
 simp
theorem nj {y:List Nat} {ws:List (List Nat)} {os:List Od} (hy:Yd y) (ho:x8 y ws os) (hs: ∀c,c<ws.length->SW y (ws.getD c [])) {c i e:Nat} (hc:c<ws.length) (hi:i<(ws.getD c []).length) (he:e=rd (ws.getD c []) i\/e=aC (rd (ws.getD c []) i)):
  e∈y/\ ∃(m:Nat) (p:Pr),(pB y os e)[m]? =some p/\p.pair=(c,i)/\(pE y os).idxOf (c,i,e)=((y.take (y.idxOf e)).flatMap (gp y os)).length+m:=by
 have hw:=hs c hc
 have ey:e∈y:=he.elim (fun z=>z▸hw.rd _) fun z=>z▸hy.cl _ (hw.rd _)
 have vR:=Gw hy ho (c:=c) (i:=i) (l:=rd (ws.getD c []) i) (e:=e) (w:=ws.getD c []) (by rw[kb,Mt hc];rfl) (m9 hi) (hw.rd _) he
 unfold pE at vR
 obtain ⟨e',El,hp⟩:=Qbf.mp vR
 unfold gp at hp
 obtain ⟨p,oQ,tw⟩:=Qau.mp hp
 obtain ⟨q1,XU⟩:=Prod.mk.inj tw
 obtain ⟨q2,q3⟩:=Prod.mk.inj XU
 clear XU
 subst q3
 obtain ⟨m,hm,em⟩:=Qdg oQ
 have OI:(pB y os e')[m]? =some p:=by rw[Mt hm,em]
 refine ⟨ey,m,p,OI,by unfold Pr.pair;rw[q1,q2],?_⟩
 have hk:y[y.idxOf e']? =some e':=by rw[Mt (Zw ey),Qby]
 have:=JY (os:=os) hk OI
 rw[q1,q2]at this
 exact t6 (Gv hy ho) this
theorem GA (y:List Nat) (os:List Od) (e:Nat):(gp y os e).length=(pB y os e).length:=by unfold gp;rw[Xl]
theorem GB {l:List Pr} {y:List Nat} {ws:List (List Nat)} {L:Nat->Bool} {r:Nat->Nat} {M:Nat} (h:(l.map Pr.pair).Pairwise fun s t=>bV (dh y ws L r M s.1 s.2) (dh y ws L r M t.1 t.2)=true) {m n c i d j:Nat} {p q:Pr} (hp:l[m]? =some p) (hq:l[n]? =some q) (ep:p.pair=(c,i)) (eq:q.pair=(d,j)) (dH:(c,i)≠(d,j)):
  m≠n/\decide (m<n)=bV (dh y ws L r M c i) (dh y ws L r M d j):=by
 have TU:m≠n:=fun z=>dH (by rw[z,hq]at hp;rw[<-ep, <-eq,Qaf hp])
 obtain ⟨hm,em⟩:=Mu.mp hp
 obtain ⟨hn,en⟩:=Mu.mp hq
 refine ⟨TU,?_⟩
 have key:=Qdc.mp h
 by_cases z:m<n
 ·have:=key m n (by rw[Xl];exact hm) (by rw[Xl];exact hn) z
  rw[Qeh,Qeh,em,en,ep,eq]at this
  rw[decide_eq_true z]
  exact this.symm
 ·have:=key n m (by rw[Xl];exact hn) (by rw[Xl];exact hm) (by omega)
  rw[Qeh,Qeh,em,en,ep,eq]at this
  rw[decide_eq_false z]
  exact (nc this).1.symm
theorem BQ {α:Type} {l:List α} {m:Nat} {p:α} (h:l.reverse[m]? =some p):m<l.length/\l[l.length - 1 - m]? =some p:=by
 obtain ⟨hm,_⟩:=Mu.mp h
 rw[Qa6]at hm
 rw[Qdt hm]at h
 exact ⟨hm,h⟩
theorem lies_of {y:List Nat} {ws:List (List Nat)} {L:Nat->Bool} {r:Nat->Nat} {M:Nat} {os:List Od} (hy:Yd y) (hs: ∀c,c<ws.length->SW y (ws.getD c [])) (h:Gz y ws L r M os):Lies y ws L r M fun c i e=>(pE y os).idxOf (c,i,e):=by
 have ol:2*os.length=y.length:=by rw[h.ok.1];exact jL hy
 refine ⟨fun c i d j e e' hc hd hi hj he El cZ=>?_,fun c i d j x hc hd hi hj dH hx RB hxj=>?_⟩
 ·obtain ⟨ey,m,p,hm,_,e1⟩:=nj hy h.ok hs hc hi he
  obtain ⟨ey',m',p',OI,_,e2⟩:=nj hy h.ok hs hd hj El
  rw[e1,e2]
  have hk:y[y.idxOf e]? =some e:=by rw[Mt (Zw ey),Qby]
  have:=DD (gp y os) hk cZ
  rw[GA]at this
  have Bi:=(Mu.mp hm).1
  omega
 ·have lc:Lt (rd (ws.getD c []) i):=hy.lt _ ((hs c hc).rd _)
  have ld:Lt (rd (ws.getD d []) j):=hy.lt _ ((hs d hd).rd _)
  have vi:(x=rd (ws.getD c []) i\/x=aC (rd (ws.getD c []) i))/\(aC x=rd (ws.getD c []) i\/aC x=aC (rd (ws.getD c []) i))/\Lt x:=by
   rcases RB with z | z
   ·exact ⟨.inl z.symm, .inr (by rw[z]),z▸lc⟩
   ·have hx0:x<128/\x∈aP:=by
     have h9:97<=x/\x<=122:=by unfold aJ at hx;simpa using hx
     refine ⟨by omega,?_⟩
     have: ∀k,k<26->k+97∈aP:=by decide
     have h8:=this (x - 97) (by omega)
     rwa [show x - 97+97=x by omega]at h8
    have lx:Lt x:= .inl hx0.2
    exact ⟨.inr (by rw[z,aN lx]), .inl z.symm,lx⟩
  have lx:=vi.2.2
  have vj:(x=rd (ws.getD d []) j\/x=aC (rd (ws.getD d []) j))/\(aC x=rd (ws.getD d []) j\/aC x=aC (rd (ws.getD d []) j)):=by
   rcases hxj with z | z
   ·exact ⟨.inl z.symm, .inr (by rw[z])⟩
   ·exact ⟨.inr (by rw[z,aN lx]), .inl z.symm⟩
  obtain ⟨xy,m,p,hm,ep,e1⟩:=nj hy h.ok hs hc hi vi.1
  obtain ⟨_,n,q,hn,eq,e2⟩:=nj hy h.ok hs hd hj vj.1
  obtain ⟨_,m',p',OI,QP,EV⟩:=nj hy h.ok hs hc hi vi.2.1
  obtain ⟨_,n',q',Tp,eq',Nk⟩:=nj hy h.ok hs hd hj vj.2
  obtain ⟨o,XW,_,eo⟩:=jM hy xy ol
  have up0:isUp x=false:=by rw[(Ao x lx.mem).2,hx];rfl
  have up1:isUp (aC x)=true:=by rw[(Ao _ lx.aC.mem).2,gz x lx.mem,hx];rfl
  have s0:pB y os x=o.ps:=by unfold pB;rw[up0,if_neg (by decide),eo]
  have s1:pB y os (aC x)=o.ps.reverse:=by
   unfold pB
   rw[up1,if_pos rfl]
   have:Ai y os (aC x)=Ai y os x:=by unfold Ai;rw[(Ao x lx.mem).1]
   rw[this,eo]
  rw[s0]at hm hn
  rw[s1]at OI Tp
  obtain ⟨b1,Bi⟩:=BQ OI
  obtain ⟨b2,zj⟩:=BQ Tp
  have k1:=GB (h.asc o XW) hm hn ep eq dH
  have k2:=GB (h.asc o XW) Bi zj QP eq' dH
  rw[e1,e2,EV,Nk]
  refine ⟨by omega,by omega,?_,?_⟩
  ·rw[<-k1.2];exact decide_eq_decide.mpr (by omega)
  ·rw[<-k2.2];exact decide_eq_decide.mpr (by omega)
noncomputable def pH (st:Nat->Nat) (T R:List Nat):List Nat:=T.filter fun x=>R.any fun e=>decide (st e=x)
noncomputable def DE (st:Nat->Nat) (T R:List Nat) (p:Nat):Nat:=if st p=p then 0 else ((pH st T (p::R)).filter fun x=>decide (st p<x)).length
noncomputable def Ie (st:Nat->Nat):List Nat->List Nat->Nat
 | _,[]=>0
 | T,p::R=>DE st T R p+Ie st (T++[p]) R
structure GC (ch:List (Nat×Nat)) (st:Nat->Nat) (P:List Nat):Prop where
 lt: ∀x∈ch,x.1<x.2
 nd:(ch.flatMap fun x=>[x.1,x.2]).Nodup
 pm:P.Perm (ch.flatMap fun x=>[x.1,x.2])
 up:P.Pairwise (· < ·)
 st: ∀x∈ch,st x.1=x.1/\st x.2=x.1
section
variable {ch:List (Nat×Nat)} {st:Nat->Nat} {P:List Nat}
theorem GC.pt (h:GC ch st P) {p:Nat} (hp:p∈P): ∃x∈ch,p=x.1\/p=x.2:=by
 obtain ⟨x,hx,e⟩:=Qbf.mp (h.pm.mem_iff.mp hp)
 exact ⟨x,hx,by simpa using e⟩
theorem GC.in1 (h:GC ch st P) {x:Nat×Nat} (hx:x∈ch):x.1∈P/\x.2∈P:=⟨h.pm.mem_iff.mpr (Qbf.mpr ⟨x,hx,by simp⟩),h.pm.mem_iff.mpr (Qbf.mpr ⟨x,hx,by simp⟩)⟩
theorem yf: ∀{ch:List (Nat×Nat)},(ch.flatMap fun x=>[x.1,x.2]).Nodup-> ∀x∈ch, ∀z∈ch,(x.1=z.1\/x.2=z.2\/x.1=z.2)->x=z
 | [],_,x,hx,_,_,_=>absurd hx Qag
 | a::r,nd,x,hx,z,hz,e=>by
  rw[Qbc,Qbv]at nd
  obtain ⟨n1,n2,n3⟩:=nd
  have inr: ∀z∈r,z.1∈r.flatMap (fun x=>[x.1,x.2])/\z.2∈r.flatMap (fun x=>[x.1,x.2]):=fun z hz=>⟨Qbf.mpr ⟨z,hz,by simp⟩,Qbf.mpr ⟨z,hz,by simp⟩⟩
  have a12:a.1≠a.2:=by
   rw[Qaz]at n1
   simpa using n1.1
  rcases Zv.mp hx with rfl | w9<;>rcases Zv.mp hz with rfl | Lq
  ·rfl
  ·exfalso
   rcases e with e | e | e
   ·exact n3 x.1 (by simp) z.1 (inr z Lq).1 e
   ·exact n3 x.2 (by simp) z.2 (inr z Lq).2 e
   ·exact n3 x.1 (by simp) z.2 (inr z Lq).2 e
  ·exfalso
   rcases e with e | e | e
   ·exact n3 z.1 (by simp) x.1 (inr x w9).1 e.symm
   ·exact n3 z.2 (by simp) x.2 (inr x w9).2 e.symm
   ·exact n3 z.2 (by simp) x.1 (inr x w9).1 e.symm
  ·exact yf n2 x w9 z Lq e
theorem GD (h:GC ch st P) {T R:List Nat} {p:Nat} (e:P=T++p::R) (hs:st p=p):pH st (T++[p]) R=pH st T (p::R)++[p]:=by
 obtain ⟨x,hx,hp⟩:=h.pt (p:=p) (by rw[e];simp)
 have Nl:p=x.1:=hp.elim id fun z=>by rw[z,(h.st x hx).2]at hs;rw[z, <-hs]
 have up:=h.up
 rw[e,Qcw,Qco]at up
 obtain ⟨u1,⟨u2,u3⟩,u4⟩:=up
 have hR:x.2∈R:=by
  have:=(h.in1 hx).2
  rw[e]at this
  rcases Qaj.mp this with q | q
  ·have:=u4 _ q p Zu
   have:=h.lt x hx
   omega
  ·rcases Zv.mp q with q | q
   ·have:=h.lt x hx
    omega
   ·exact q
 unfold pH
 rw[Qcp]
 congr 1
 ·refine Qfg fun z hz=>?_
  rw[Qck,decide_eq_false (fun q=>by have:=u4 z hz p Zu;omega),Qe9]
 ·have:(R.any fun e=>decide (st e=p))=true:=List.any_eq_true.mpr ⟨x.2,hR,decide_eq_true (by rw[(h.st x hx).2,Nl])⟩
  rw[Qbd (p:=fun x=>R.any fun e=>decide (st e=x)) this]
  rfl
theorem erase_filter {s:Nat} {p q:Nat->Bool}: ∀{T:List Nat},T.Nodup->q s=true->p s=false->(∀x,x≠s->q x=p x)->(T.filter q).erase s=T.filter p
 | [],_,_,_,_=>rfl
 | a::T,nd,hq,hp,h=>by
  rw[Qaz]at nd
  by_cases z:a=s
  ·subst z
   rw[Qbd hq,List.erase_cons_head,Qa1 (by rw[hp];decide)]
   exact Qfg fun x hx=>h x fun q=>nd.1 (q▸hx)
  ·have ih:=erase_filter nd.2 hq hp h
   cases e:p a
   ·rw[Qa1 (by rw[h a z,e];decide),Qa1 (by rw[e];decide)]
    exact ih
   ·rw[Qbd (by rw[h a z,e]),Qbd e,List.erase_cons_tail (by simpa using z),ih]
theorem Nm (h:GC ch st P) {T R:List Nat} {p:Nat} (e:P=T++p::R) (hs:st p≠p):pH st (T++[p]) R=(pH st T (p::R)).erase (st p)/\st p∈pH st T (p::R):=by
 obtain ⟨x,hx,hp⟩:=h.pt (p:=p) (by rw[e];simp)
 have Nl:p=x.2:=hp.elim (fun z=>absurd (by rw[z,(h.st x hx).1]) hs) id
 have ky:st p=x.1:=by rw[Nl,(h.st x hx).2]
 have up:=h.up
 rw[e,Qcw,Qco]at up
 obtain ⟨u1,⟨u2,u3⟩,u4⟩:=up
 have only: ∀z∈R,st z≠x.1:=fun z hz q=>by
  obtain ⟨v,hv,Ji⟩:=h.pt (p:=z) (by rw[e];simp[hz])
  have hzp:=u2 z hz
  rcases Ji with r | r
  ·rw[r,(h.st v hv).1]at q
   have:=yf h.nd v hv x hx (.inl q)
   subst this
   have:=h.lt v hv
   omega
  ·rw[r,(h.st v hv).2]at q
   have:=yf h.nd v hv x hx (.inl q)
   subst this
   omega
 have none: ∀z∈R,st z≠p:=fun z hz q=>by
  obtain ⟨v,hv,Ji⟩:=h.pt (p:=z) (by rw[e];simp[hz])
  have:st z=v.1:=Ji.elim (fun r=>by rw[r,(h.st v hv).1]) fun r=>by rw[r,(h.st v hv).2]
  rw[this,Nl]at q
  have:=yf h.nd v hv x hx (.inr (.inr q))
  subst this
  have:=h.lt v hv
  omega
 have hT:x.1∈T:=by
  have:=(h.in1 hx).1
  rw[e]at this
  have l:=h.lt x hx
  rcases Qaj.mp this with q | q
  ·exact q
  ·rcases Zv.mp q with q | q
   ·omega
   ·have:=u2 _ q
    omega
 have nd:T.Nodup:=Qfj (fun h=>Qan h) u1
 have hq:((p::R).any fun e=>decide (st e=x.1))=true:=by rw[Qck,decide_eq_true ky];rfl
 refine ⟨?_,?_⟩
 ·rw[ky]
  unfold pH
  rw[Qcp,Qa1 (by
   rw[Bool.not_eq_true,Qfi]
   exact fun z hz=>by simpa using none z hz),List.filter_nil,Qbh]
  refine (erase_filter nd hq ?_ fun z hz=>?_).symm
  ·rw[Qfi]
   exact fun z hz=>by simpa using only z hz
  ·rw[Qck,decide_eq_false (by rw[ky];exact Ne.symm hz),Qe9]
 ·rw[ky]
  exact Qa0.mpr ⟨hT,hq⟩
noncomputable def mO (x z:Nat×Nat):Bool:=decide (x.1<z.1)&&(decide (z.1<x.2)&&decide (x.2<z.2))
theorem GF (h:GC ch st P) {T R:List Nat} {x:Nat×Nat} (hx:x∈ch) (e:P=T++x.2::R):DE st T R x.2=(ch.filter (mO x)).length:=by
 have l:=h.lt x hx
 have ky:=(h.st x hx).2
 have up:=h.up
 rw[e,Qcw,Qco]at up
 obtain ⟨u1,⟨u2,u3⟩,u4⟩:=up
 unfold DE
 rw[if_neg (by omega),ky, <-Xl (as:=ch.filter (mO x)) (f:=Prod.fst)]
 refine List.Perm.length_eq ((List.perm_ext_iff_of_nodup ?_ ?_).mpr fun a=>?_)
 ·exact (Qfj (fun h=>Qan h) ((u1.filter _).filter _))
 ·have nd:(ch.map Prod.fst).Nodup:=by
   have: ∀{ch:List (Nat×Nat)},(ch.flatMap fun x=>[x.1,x.2]).Nodup->(ch.map Prod.fst).Nodup:=fun {ch}=>by
    induction ch with
    | nil=>exact fun _=>List.Pairwise.nil
    | cons a r ih=>
     intro nd
     rw[Qbc,Qbv]at nd
     rw[Qat,Qaz]
     refine ⟨fun q=>?_,ih nd.2.1⟩
     obtain ⟨z,hz,ez⟩:=Qau.mp q
     exact nd.2.2 a.1 (by simp) z.1 (Qbf.mpr ⟨z,hz,by simp⟩) ez.symm
   exact this h.nd
  exact List.Nodup.sublist (List.Sublist.map _ List.filter_sublist) nd
 ·rw[Qa0,Qau]
  unfold pH
  rw[Qa0,decide_eq_true_iff,List.any_eq_true]
  constructor
  ·rintro ⟨⟨a1,p,hp,ep⟩,a2⟩
   have ep:=of_decide_eq_true ep
   obtain ⟨z,hz,Wc⟩:=h.pt (p:=p) (by rw[e];exact Qav _ hp)
   have:st p=z.1:=Wc.elim (fun r=>by rw[r,(h.st z hz).1]) fun r=>by rw[r,(h.st z hz).2]
   rw[this]at ep
   have ax:=u4 a a1 x.2 Zu
   have pz:p=z.2:=Wc.elim (fun r=>by
    have:=u4 a a1 p hp
    omega) id
   have px:x.2<p:=by
    rcases Zv.mp hp with q | q
    ·rw[q]at pz
     have:=yf h.nd x hx z hz (.inr (.inl pz))
     subst this
     omega
    ·exact u2 p q
   refine ⟨z,Qa0.mpr ⟨hz,?_⟩,ep⟩
   unfold mO
   rw[Qbq,Qbq,decide_eq_true_iff,decide_eq_true_iff,decide_eq_true_iff]
   omega
  ·rintro ⟨z,hz,rfl⟩
   obtain ⟨hz,q⟩:=Qa0.mp hz
   unfold mO at q
   rw[Qbq,Qbq,decide_eq_true_iff,decide_eq_true_iff,decide_eq_true_iff]at q
   have i1:=(h.in1 hz).1
   have i2:=(h.in1 hz).2
   rw[e]at i1 i2
   refine ⟨⟨?_,z.2,?_,decide_eq_true (h.st z hz).2⟩,q.1⟩
   ·rcases Qaj.mp i1 with r | r
    ·exact r
    ·rcases Zv.mp r with r | r
     ·omega
     ·have:=u2 _ r;omega
   ·rcases Qaj.mp i2 with r | r
    ·have:=u4 _ r x.2 Zu;omega
    ·exact r
theorem GG (h:GC ch st P): ∀(R T:List Nat),P=T++R->Ie st T R=(R.map fun p=>if st p=p then 0 else (ch.filter (mO (st p,p))).length).sum
 | [],_,_=>rfl
 | p::R,T,e=>by
  rw[Qat,Qcx, <-GG h R (T++[p]) (by rw[e];simp)]
  show DE st T R p+_=_
  congr 1
  by_cases z:st p=p
  ·rw[if_pos z];unfold DE;rw[if_pos z]
  ·rw[if_neg z]
   obtain ⟨x,hx,hp⟩:=h.pt (p:=p) (by rw[e];simp)
   have Nl:p=x.2:=hp.elim (fun q=>absurd (by rw[q,(h.st x hx).1]) z) id
   have ky:st p=x.1:=by rw[Nl,(h.st x hx).2]
   rw[ky]
   subst Nl
   exact GF h hx e
theorem Nn (h:GC ch st P):Ie st [] P=(ch.map fun x=>(ch.filter (mO x)).length).sum:=by
 rw[GG h P [] rfl,(h.pm.map _).sum_nat]
 have: ∀l:List (Nat×Nat),(∀x∈l,x∈ch)->(((l.flatMap fun x=>[x.1,x.2]).map fun p=>if st p=p then 0 else (ch.filter (mO (st p,p))).length).sum)=(l.map fun x=>(ch.filter (mO x)).length).sum:=fun l hl=>by
  induction l with
  | nil=>rfl
  | cons a r ih=>
   have ha:=h.st a (hl a Zu)
   have la:=h.lt a (hl a Zu)
   rw[Qbc,Qaa,List.sum_append_nat,ih fun x hx=>hl x (Xn _ hx),Qat,Qcx]
   congr 1
   show (if st a.1=a.1 then 0 else _)+((if st a.2=a.2 then 0 else (ch.filter (mO (st a.2,a.2))).length)+0)=_
   rw[if_pos ha.1,if_neg (by omega),ha.2,Qeo,Qeq]
 exact this ch fun x hx=>hx
theorem DF {α:Type} (X:α->α->Bool) (hd: ∀x,X x x=false) (ha: ∀x z,X x z=true->X z x=false): ∀l:List α,(l.map fun x=>(l.filter (X x)).length).sum=cl (fun x z=>X x z||X z x) l:=fun l=>by
 have key: ∀(a:α) (l:List α),((l.filter fun z=>X a z||X z a)).length=(l.filter (X a)).length+(l.map fun z=>if X z a=true then 1 else 0).sum:=fun a l=>by
  induction l with
  | nil=>rfl
  | cons b r ih=>
   have:=ha a b
   simp only[List.filter_cons,Qat,Qcx]
   cases e1:X a b<;>cases e2:X b a
   ·simp[ih]
   ·simp[ih];omega
   ·simp[ih];omega
   ·rw[this e1]at e2;cases e2
 induction l with
 | nil=>rfl
 | cons a r ih=>
  show (((a::r).map fun x=>((a::r).filter (X x)).length).sum)=(r.filter fun z=>X a z||X z a).length+cl _ r
  rw[Qat,Qcx,Qa1 (by rw[hd a];decide),key a r, <-ih]
  have e: ∀l:List α,(l.map fun x=>((a::r).filter (X x)).length).sum=(l.map fun z=>if X z a=true then 1 else 0).sum+(l.map fun x=>(r.filter (X x)).length).sum:=fun l=>by
   induction l with
   | nil=>rfl
   | cons b l We=>
    rw[Qat,Qcx,We,Qat,Qcx,Qat,Qcx]
    cases e1:X b a
    ·rw[Qa1 (by rw[e1];decide)]
     simp;omega
    ·rw[Qbd e1]
     simp;omega
  rw[e r]
  omega
theorem Sz (h:GC ch st P):Ie st [] P=cl (fun x z=>mO x z||mO z x) ch:=by
 rw[Nn h,DF]
 ·intro x;unfold mO;rw[decide_eq_false (Qbb _)];rfl
 ·intro x z q
  unfold mO at q ⊢
  rw[Qbq,Qbq,decide_eq_true_iff,decide_eq_true_iff,decide_eq_true_iff]at q
  rw[decide_eq_false (by omega)]
  rfl
end
noncomputable def Lr (p q:Nat):Int:=if (q:Int)<p then q else p
noncomputable def fj (cs:List C4):List Nat:=cs.flatMap fun x=>[x.2.2.1,x.2.2.2]
noncomputable def gT (cs:List C4):List (Key×V):=cs.flatMap fun x=>[(Sum.inl (x.2.2.1:Int),V.int (Lr x.2.2.1 x.2.2.2)),(Sum.inl (x.2.2.2:Int),V.int (Lr x.2.2.1 x.2.2.2))]
noncomputable def qz (cs:List C4):List (Nat×Nat):=cs.map fun x=>(min x.2.2.1 x.2.2.2,max x.2.2.1 x.2.2.2)
theorem iD: ∀cs:List C4,(gT cs).map (·.1)=(fj cs).map fun n:Nat=>(Sum.inl (n:Int):Key)
 | []=>rfl
 | x::r=>by
  unfold gT fj
  rw[Qbc,Qbc,Qaa,Qaa]
  exact congrArg _ (iD r)
theorem yg {aU:List (Key×V)} {k:Key} (h:k∉aU.map (·.1)):dZ aU k=none:=by
 induction aU with
 | nil=>rfl
 | cons a r ih=>
  rw[Qat,Zv,not_or]at h
  rw[cW (fun e=>h.1 e.symm),ih h.2]
theorem GH {aU:List (Key×V)} (nd:(aU.map (·.1)).Nodup) {k:Key} {v:V} (h:(k,v)∈aU):dZ aU k=some v:=by
 induction aU with
 | nil=>exact absurd h Qag
 | cons a r ih=>
  rw[Qat,Qaz]at nd
  rcases Zv.mp h with e | e
  ·subst e;exact dz rfl
  ·rw[cW (fun z=>nd.1 (Qau.mpr ⟨_,e,z.symm⟩))]
   exact ih nd.2 e
theorem Np: ∀{l:List Nat},l.Nodup->(l.map fun n:Nat=>(Sum.inl (n:Int):Key)).Nodup:=fun {l} h=>Qb3.mpr (h.imp fun yV z=>yV (by have:=Sum.inl.inj z;omega))
noncomputable def ins (l:List Nat):List V:=l.map fun n=>V.int (n:Nat)
theorem mr (l:List Nat):(ins l).length=l.length:=by unfold ins;rw[Xl]
theorem GI (l:List Nat) (n:Nat):ins l++[V.int (n:Nat)]=ins (l++[n]):=by unfold ins;rw[Qaa];rfl
theorem GJ {l:List Nat} {i n:Nat} (h:l[i]? =some n):(ins l)[i]? =some (V.int (n:Nat)):=by unfold ins;rw[Qak,h];rfl
def i8 (_:PySem.W.Frag):Sp:=fun vs H Q _=> ∃(a:Addr) (qs:List Q4),vs=[.ref a]/\H a=some (.lst (DC qs))/\(∀x∈qs,rT H x)/\qs.length<=1000/\(fj (qs.map Q4.v)).Nodup/\ ∀d H',H d=none->H' d=some (.dK (gT (qs.map Q4.v)))->ar H H'->Q (.ref d) H'
theorem nk {K:PySem.W.Frag} {vs:List V} {H:Hp} {Q:VK} {E:XK} (h:i8 K vs H Q E):vs.length=1:=by obtain ⟨_,_,rfl,_⟩:=h;rfl
def mw (_:PySem.W.Frag):Sp:=fun vs H Q _=> ∃(a:Addr) (l:List Nat) (p:Nat),vs=[.ref a, .int p]/\H a=some (.lst (ins l))/\l.Pairwise (· < ·)/\p∈l/\l.length<=100000/\Q (.int (l.idxOf p:Nat)) H
theorem rV {K:PySem.W.Frag} {vs:List V} {H:Hp} {Q:VK} {E:XK} (h:mw K vs H Q E):vs.length=2:=by obtain ⟨_,_,_,rfl,_⟩:=h;rfl
def g6 (_:PySem.W.Frag):Sp:=fun vs H Q _=> ∃(a:Addr) (qs:List Q4),vs=[.ref a]/\H a=some (.lst (DC qs))/\(∀x∈qs,rT H x)/\qs.length<=24/\(fj (qs.map Q4.v)).Nodup/\ ∀H',ar H H'->Q (.int (cl (fun x z=>mO x z||mO z x) (qz (qs.map Q4.v)):Nat)) H'
theorem lj {K:PySem.W.Frag} {vs:List V} {H:Hp} {Q:VK} {E:XK} (h:g6 K vs H Q E):vs.length=1:=by obtain ⟨_,_,rfl,_⟩:=h;rfl
theorem DG (cs:List C4) (x:C4):fj (cs++[x])=fj cs++[x.2.2.1,x.2.2.2]:=by unfold fj;rw[Qbn,Qdo]
theorem DH (cs:List C4) (x:C4):gT (cs++[x])=gT cs++[(Sum.inl (x.2.2.1:Int),V.int (Lr x.2.2.1 x.2.2.2)),(Sum.inl (x.2.2.2:Int),V.int (Lr x.2.2.1 x.2.2.2))]:=by unfold gT;rw[Qbn,Qdo]
theorem yh (cs:List C4):(gT cs).length=2*cs.length:=by
 induction cs with
 | nil=>rfl
 | cons x r ih=>
  unfold gT at ih ⊢
  rw[Qbc,Oy,ih,Qay]
  show 2+2*r.length=2*(r.length+1)
  omega
theorem JZ {cs:List C4} {x:C4} (nd:(fj (cs++[x])).Nodup):putK (putK (gT cs) (Sum.inl (x.2.2.1:Int)) (V.int (Lr x.2.2.1 x.2.2.2))) (Sum.inl (x.2.2.2:Int)) (V.int (Lr x.2.2.1 x.2.2.2))=gT (cs++[x]):=by
 rw[DG,Qbv]at nd
 obtain ⟨n1,n2,n3⟩:=nd
 have k: ∀n:Nat,n∉fj cs->(Sum.inl (n:Int):Key)∉(gT cs).map (·.1):=fun n hn z=>by
  rw[iD]at z
  obtain ⟨m,hm,e⟩:=Qau.mp z
  have:m=n:=by have:=Sum.inl.inj e;omega
  exact hn (this▸hm)
 have h1:x.2.2.1∉fj cs:=fun z=>n3 _ z _ (by simp) rfl
 have h2:x.2.2.2∉fj cs:=fun z=>n3 _ z _ (by simp) rfl
 have h3:x.2.2.1≠x.2.2.2:=by
  rw[Qaz]at n2
  simpa using n2.1
 rw[xC _ (yg (k _ h1)),xC,DH,Qbw]
 ·rfl
 ·refine yg fun z=>?_
  rw[Qaa,Qaj]at z
  rcases z with z | z
  ·exact k _ h2 z
  ·have:=Sum.inl.inj (Zt.mp z)
   omega
noncomputable def dj (cs:List C4) (p:Nat):Nat:=(((dZ (gT cs) (Sum.inl (p:Int))).map fun v=>match v with | .int i=>i.toNat | _=>0).getD 0)
theorem GK (p q:Nat):Lr p q=(min p q:Nat):=by unfold Lr;split<;>omega
theorem Ls {cs:List C4} (nd:(fj cs).Nodup) {x:C4} (hx:x∈cs):(dZ (gT cs) (Sum.inl (x.2.2.1:Int))=some (.int (min x.2.2.1 x.2.2.2:Nat))/\dZ (gT cs) (Sum.inl (x.2.2.2:Int))=some (.int (min x.2.2.1 x.2.2.2:Nat)))/\dj cs x.2.2.1=min x.2.2.1 x.2.2.2/\dj cs x.2.2.2=min x.2.2.1 x.2.2.2:=by
 have kn:((gT cs).map (·.1)).Nodup:=by rw[iD];exact Np nd
 have e1:dZ (gT cs) (Sum.inl (x.2.2.1:Int))=some (.int (min x.2.2.1 x.2.2.2:Nat)):=by
  rw[<-GK]
  exact GH kn (Qbf.mpr ⟨x,hx,by simp⟩)
 have e2:dZ (gT cs) (Sum.inl (x.2.2.2:Int))=some (.int (min x.2.2.1 x.2.2.2:Nat)):=by
  rw[<-GK]
  exact GH kn (Qbf.mpr ⟨x,hx,by simp⟩)
 refine ⟨⟨e1,e2⟩,?_,?_⟩
 ·unfold dj;rw[e1];exact Xo _
 ·unfold dj;rw[e2];exact Xo _
theorem BR (cs:List C4):((qz cs).flatMap fun x=>[x.1,x.2]).Perm (fj cs):=by
 induction cs with
 | nil=>exact .nil
 | cons x r ih=>
  unfold qz fj at ih ⊢
  rw[Qat,Qbc,Qbc]
  refine List.Perm.append ?_ ih
  show [min x.2.2.1 x.2.2.2,max x.2.2.1 x.2.2.2].Perm [x.2.2.1,x.2.2.2]
  by_cases z:x.2.2.1<=x.2.2.2
  ·rw[Qbz z,Qc8 z]
  ·rw[Qb1 (by omega),Qc2 (by omega)]
   exact List.Perm.swap _ _ _
theorem Nq {cs:List C4} {P:List Nat} (nd:(fj cs).Nodup) (hp:P.Perm (fj cs)) (up:P.Pairwise (· < ·)):GC (qz cs) (dj cs) P:=by
 refine ⟨fun x hx=>?_,((BR cs).nodup_iff).mpr nd,hp.trans (BR cs).symm,up,fun x hx=>?_⟩
 ·obtain ⟨c,hc,rfl⟩:=Qau.mp hx
  have dH:c.2.2.1≠c.2.2.2:=fun z=>by
   have: ∀{cs:List C4},(fj cs).Nodup-> ∀c∈cs,c.2.2.1≠c.2.2.2:=fun {cs}=>by
    induction cs with
    | nil=>exact fun _ _ h=>absurd h Qag
    | cons a r ih=>
     intro nd c hc
     unfold fj at nd
     rw[Qbc,Qbv]at nd
     rcases Zv.mp hc with e | e
     ·subst e
      have:=nd.1
      rw[Qaz]at this
      simpa using this.1
     ·exact ih nd.2.1 c e
   exact this nd c hc z
  show min c.2.2.1 c.2.2.2<max c.2.2.1 c.2.2.2
  omega
 ·obtain ⟨c,hc,rfl⟩:=Qau.mp hx
  obtain ⟨_,e1,e2⟩:=Ls nd hc
  show dj cs (min c.2.2.1 c.2.2.2)=min c.2.2.1 c.2.2.2/\dj cs (max c.2.2.1 c.2.2.2)=min c.2.2.1 c.2.2.2
  by_cases z:c.2.2.1<=c.2.2.2
  ·rw[Qbz z,Qc8 z]at*
   exact ⟨e1,e2⟩
  ·rw[Qb1 (by omega),Qc2 (by omega)]at*
   exact ⟨e2,e1⟩
theorem GL {l:List Nat} {p:Nat} (h:p∈l):l.eraseIdx (l.idxOf p)=l.erase p:=(List.erase_eq_eraseIdx_of_idxOf rfl).symm
theorem behind {l:List Nat} (up:l.Pairwise (· < ·)) {p:Nat} (h:p∈l):(l.erase p).length - l.idxOf p=(l.filter fun x=>decide (p<x)).length:=by
 induction l with
 | nil=>exact absurd h Qag
 | cons a r ih=>
  rw[Qco]at up
  by_cases z:a=p
  ·subst z
   rw[List.erase_cons_head,List.idxOf_cons_self,Qa1 (by simp),List.filter_eq_self.mpr (fun x hx=>decide_eq_true (up.1 x hx))]
   rfl
  ·have hr:=(Zv.mp h).resolve_left (Ne.symm z)
   rw[List.erase_cons_tail (by simpa using z),MY,if_neg z,Qa1 (by
    have:=up.1 p hr
    simp;omega), <-ih up.2 hr,Qay]
   omega
theorem Nr {st:Nat->Nat} {P T R:List Nat} (h:P.Pairwise (· < ·)) (e:P=T++R) (R':List Nat):(pH st T R').Pairwise (· < ·):=by
 rw[e,Qcw]at h
 exact h.1.filter _
theorem J0 {st:Nat->Nat} {T R:List Nat}:(pH st T R).length<=T.length:=Qcs _ _
theorem Nt {cs:List C4} (nd:(fj cs).Nodup) {p:Nat} (hp:p∈fj cs):dZ (gT cs) (Sum.inl (p:Int))=some (.int (dj cs p:Nat)):=by
 unfold fj at hp
 obtain ⟨x,hx,e⟩:=Qbf.mp hp
 obtain ⟨⟨e1,e2⟩,e3,e4⟩:=Ls nd hx
 have e':p=x.2.2.1\/p=x.2.2.2:=by simpa using e
 rcases e' with rfl | rfl
 ·rw[e1,e3]
 ·rw[e2,e4]
theorem Ap {ms:List Int} {l:List Nat} (nd:l.Nodup) (hp:ms.Perm (l.map fun n:Nat=>(n:Int))) (hw:ms.Pairwise fun a b=> ¬b<a): ∃P:List Nat,ms.map V.int=ins P/\P.Perm l/\P.Pairwise (· < ·):=by
 have vR: ∀m∈ms, ∃n:Nat,m=n:=fun m hm=>by
  obtain ⟨n,_,rfl⟩:=Qau.mp (hp.mem_iff.mp hm)
  exact ⟨n,rfl⟩
 have e1:ms=(ms.map Int.toNat).map fun n:Nat=>(n:Int):=by
  rw[Qb2]
  refine (Qfr ms).symm.trans (Qdf fun m hm=>?_)
  obtain ⟨n,rfl⟩:=vR m hm
  exact (congrArg _ (Xo n)).symm
 have p1:(ms.map Int.toNat).Perm l:=by
  have:=hp.map Int.toNat
  rw[Qb2]at this
  have e2:l.map (Int.toNat ∘ fun n:Nat=>(n:Int))=l:=(Qdf fun n _=>Xo n).trans (Qfr l)
  rwa [e2]at this
 refine ⟨ms.map Int.toNat,?_,p1,?_⟩
 ·unfold ins
  conv=>lhs;rw[e1]
  rw[Qb2]
  rfl
 ·have TN:(ms.map Int.toNat).Nodup:=p1.nodup_iff.mpr nd
  have Lu:(ms.map Int.toNat).Pairwise fun a b=> ¬b<a:=by
   rw[e1,Qb3]at hw
   exact hw.imp fun h z=>h (by omega)
  refine Qfj (fun {a b} h=>?_) (List.Pairwise.and Lu TN)
  have:=h.1
  have:=h.2
  omega
theorem GN {st:Nat->Nat} {P:List Nat} {k p:Nat} (h:P[k]? =some p):Ie st (P.take k) (P.drop k)=DE st (P.take k) (P.drop (k+1)) p+Ie st (P.take (k+1)) (P.drop (k+1)):=by
 obtain ⟨hk,e⟩:=Mu.mp h
 rw[Qbj hk,e]
 show DE st _ _ p+Ie st (P.take k++[p]) _=_
 rw[take_snoc h]
theorem Lv {n k:Nat} (h:k<n):seqIndex? (k:Int) n=some k:=by
 unfold seqIndex?
 simp
 omega
theorem ua: ∀(l:List Nat) (k:Nat),(ins l).eraseIdx k=ins (l.eraseIdx k)
 | [],_=>rfl
 | _::_,0=>rfl
 | a::l,k+1=>congrArg (V.int (a:Nat):: ·) (ua l k)
noncomputable def cst (y w:List Nat) (i:Int):Int:=xW y (aC (rd w (i - 1))) (rd w i)
theorem GO (y w:List Nat) (p k:Int):eQ y (sq w p) k=cst y w (p+k):=by
 unfold eQ cst sq
 rw[show p+(k - 1)=p+k - 1 by omega]
noncomputable def yX (n:Int):Nat:=(48+n).toNat
noncomputable def stx (y w:List Nat):List Nat:=(List.range w.length).map fun i:Nat=>yX (cst y w i)
theorem dP (y w:List Nat):(stx y w).length=w.length:=by unfold stx;rw[Xl,Qce]
theorem Nu: ∀n:Nat,n<10->dg n=[48+n]:=by decide+kernel
noncomputable def jN (lg n:Nat):Nat:=3+lg / max n 1
noncomputable def ny (y u:List Nat) (lg r:Nat):List (Str×V):=eS "backward" (.str (S (eG (jN lg u.length) (stx y u).reverse))) (eS "onward" (.str (S (eG (jN lg u.length) (stx y u)))) (eS "leads" (.bl (leads u)) (eS "root_size" (.int r) (eS "size" (.int u.length) []))))
noncomputable def Lw (t w:Addr) (p:Nat):List (Str×V):=eS "place" (.int p) (eS "way" (.ref w) (eS "strand" (.ref t) []))
section
variable {y u:List Nat} {lg r:Nat} {t w:Addr} {p:Nat}
theorem BS:(ny y u lg r).lookup ("size":Str)=some (.int u.length):=by
 unfold ny
 rw[aT,if_neg (by decide+kernel),aT,if_neg (by decide+kernel),aT,if_neg (by decide+kernel),aT,if_neg (by decide+kernel),aT,if_pos rfl]
theorem pJ:(ny y u lg r).lookup ("root_size":Str)=some (.int r):=by
 unfold ny
 rw[aT,if_neg (by decide+kernel),aT,if_neg (by decide+kernel),aT,if_neg (by decide+kernel),aT,if_pos rfl]
theorem GP:(ny y u lg r).lookup ("leads":Str)=some (.bl (leads u)):=by
 unfold ny
 rw[aT,if_neg (by decide+kernel),aT,if_neg (by decide+kernel),aT,if_pos rfl]
theorem SA:(ny y u lg r).lookup ("onward":Str)=some (.str (S (eG (jN lg u.length) (stx y u)))):=by
 unfold ny
 rw[aT,if_neg (by decide+kernel),aT,if_pos rfl]
theorem J1:(ny y u lg r).lookup ("backward":Str)=some (.str (S (eG (jN lg u.length) (stx y u).reverse))):=by
 unfold ny
 rw[aT,if_pos rfl]
theorem mz:(Lw t w p).lookup ("place":Str)=some (.int p):=by unfold Lw;rw[aT,if_pos rfl]
theorem nz:(Lw t w p).lookup ("way":Str)=some (.ref w):=by unfold Lw;rw[aT,if_neg (by decide+kernel),aT,if_pos rfl]
theorem uc:(Lw t w p).lookup ("strand":Str)=some (.ref t):=by unfold Lw;rw[aT,if_neg (by decide+kernel),aT,if_neg (by decide+kernel),aT,if_pos rfl]
end
theorem dM (f:Str) (v:V): ∀fs:List (Str×V),(eS f v fs).length<=fs.length+1
 | []=>Tz _
 |(g,x)::r=>by
  unfold eS
  split
  ·exact Qcn _
  ·exact Qbk (dM f v r)
structure Sn where
 a:Addr
 t:Addr
 wy:Addr
 c:Nat
 i:Nat
 u:List Nat
 p:Nat
 r:Nat
structure DI (H:Hp) (C a:Addr) (y u:List Nat) (lg r:Nat):Prop where
 ob: ∃dx,H a=some (.ins C dx (ny y u lg r))
 sw:SW y u
 uz:u.length<=lg
 lz:lg<=1000
 rt:b_ u r
theorem DI.same {H H':Hp} {C a:Addr} {y u:List Nat} {lg r:Nat} (h:DI H C a y u lg r) (s:ar H H'):DI H' C a y u lg r:=by
 obtain ⟨dx,e⟩:=h.ob
 exact ⟨⟨dx,s _ _ e⟩,h.sw,h.uz,h.lz,h.rt⟩
structure jO (H:Hp) (CW CS:Addr) (y:List Nat) (lg:Nat) (s:Sn):Prop where
 ob: ∃dx,H s.a=some (.ins CS dx (Lw s.t s.wy s.p))
 st:H s.t=some (.tup [.int s.c, .int s.i])
 wy:DI H CW s.wy y s.u lg s.r
 pz:s.p<s.u.length
theorem jO.same {H H':Hp} {CW CS:Addr} {y:List Nat} {lg:Nat} {s:Sn} (h:jO H CW CS y lg s) (sm:ar H H'):jO H' CW CS y lg s:=by
 obtain ⟨dx,e⟩:=h.ob
 exact ⟨⟨dx,sm _ _ e⟩,sm _ _ h.st,h.wy.same sm,h.pz⟩
noncomputable def Em (y:List Nat) (lg:Nat) (s:Sn):List Nat:=(eG (jN lg s.u.length) (stx y s.u)).drop (s.p+1)
noncomputable def En (y:List Nat) (lg:Nat) (s:Sn):List Nat:=(eG (jN lg s.u.length) (stx y s.u).reverse).drop (s.u.length - 1 - s.p)
noncomputable def seg (l:List Nat) (x z:Nat):List Nat:=(l.drop x).take (z - x)
def i9 (_:PySem.W.Frag):Sp:=fun vs H Q _=> ∃(y w:List Nat) (i:Nat),vs=[.str (S y), .str (S w), .int i]/\Yd y/\y.length<=8/\SW y w/\w.length<=1000/\i<w.length/\ ∀(n:Nat) H',cst y w i=n->n<8->ar H H'->Q (.int n) H'
theorem nA {K:PySem.W.Frag} {vs:List V} {H:Hp} {Q:VK} {E:XK} (h:i9 K vs H Q E):vs.length=3:=by obtain ⟨_,_,_,rfl,_⟩:=h;rfl
def yi (_:PySem.W.Frag) (C:Addr):Sp:=fun vs H Q _=> ∃(x dx:Addr) (y w:List Nat) (lg:Nat),vs=[.ref x, .str (S y), .str (S w), .int lg]/\H x=some (.ins C dx [])/\Yd y/\y.length<=8/\SW y w/\w.length<=lg/\lg<=1000/\ ∀(r:Nat) H',b_ w r->H' x=some (.ins C dx (ny y w lg r))->aR x H H'->Q .fB H'
theorem DJ {K:PySem.W.Frag} {C:Addr} {vs:List V} {H:Hp} {Q:VK} {E:XK} (h:yi K C vs H Q E):vs.length=4:=by obtain ⟨_,_,_,_,_,rfl,_⟩:=h;rfl
def ud (_:PySem.W.Frag) (C:Addr):Sp:=fun vs H Q _=> ∃(x dx t w:Addr) (p:Nat),vs=[.ref x, .ref t, .ref w, .int p]/\H x=some (.ins C dx [])/\ ∀H',H' x=some (.ins C dx (Lw t w p))->aR x H H'->Q .fB H'
theorem Aq {K:PySem.W.Frag} {C:Addr} {vs:List V} {H:Hp} {Q:VK} {E:XK} (h:ud K C vs H Q E):vs.length=4:=by obtain ⟨_,_,_,_,_,rfl,_⟩:=h;rfl
def gM (_:PySem.W.Frag) (CW CS:Addr):Sp:=fun vs H Q _=> ∃(y:List Nat) (lg:Nat) (s:Sn) (x z:Nat),vs=[.ref s.a, .int x, .int z]/\y.length<=8/\jO H CW CS y lg s/\x<=z/\Q (.str (S (seg (Em y lg s) x z))) H
theorem oR {K:PySem.W.Frag} {CW CS:Addr} {vs:List V} {H:Hp} {Q:VK} {E:XK} (h:gM K CW CS vs H Q E):vs.length=3:=by obtain ⟨_,_,_,_,_,rfl,_⟩:=h;rfl
def hJ (_:PySem.W.Frag) (CW CS:Addr):Sp:=fun vs H Q _=> ∃(y:List Nat) (lg:Nat) (s:Sn) (x z:Nat),vs=[.ref s.a, .int x, .int z]/\y.length<=8/\jO H CW CS y lg s/\x<=z/\Q (.str (S (seg (En y lg s) x z))) H
theorem qA {K:PySem.W.Frag} {CW CS:Addr} {vs:List V} {H:Hp} {Q:VK} {E:XK} (h:hJ K CW CS vs H Q E):vs.length=3:=by obtain ⟨_,_,_,_,_,rfl,_⟩:=h;rfl
theorem J2 {l:List Nat} {a b:Nat} (h:a<=b):cut l (some (a:Int)) (some (b:Int))=(l.drop a).take (b - a):=by
 unfold cut
 rw[HT.gs,HT.gs]
 by_cases z:a<=l.length
 ·rw[Qbz z]
  by_cases z2:b<=l.length
  ·rw[Qbz z2]
  ·rw[Qb1 (by omega),Qar (by rw[Qa2];omega),Qar (by rw[Qa2];omega)]
 ·rw[Qb1 (by omega),Qb1 (by omega),Qcm (Tz _),Qcm (by omega)]
  simp
theorem BU {l:List Nat} {f x z:Nat} (h:x<=z):cut l (some ((f:Int)+x)) (some ((f:Int)+z))=seg (l.drop f) x z:=by
 rw[show (f:Int)+x=((f+x:Nat):Int) by omega,show (f:Int)+z=((f+z:Nat):Int) by omega,J2 (by omega)]
 unfold seg
 rw[List.drop_drop,show f+z - (f+x)=z - x by omega]
theorem mB {lg n:Nat} (h:1<=n):n*jN lg n<=3*n+lg/\2*n+lg<n*jN lg n:=by
 unfold jN
 rw[Qc2 h,Nat.mul_add]
 have h1:=Qdh lg n
 have h2:=Qcz lg (show 0<n by omega)
 omega
theorem ue (m:Nat) (l:List Nat):(eG m l).length=l.length*m:=by
 unfold eG
 rw[List.length_flatten,List.map_replicate,List.sum_replicate_nat,Qbu]
theorem SW.eM {y w:List Nat} (hy:Yd y) (h:SW y w):My.eM w=gn w:=by unfold My.eM;rw[h.core hy]
theorem vS (l:List Nat) (x z j:Nat):(seg l x z)[j]? =if j<z - x then l[x+j]? else none:=by
 unfold seg
 rw[Qdj]
 split
 ·rw[Qc1]
 ·rfl
theorem Ar {l m:List Nat} {x z:Nat}:seg l x (x+z)=seg m x (x+z)↔ ∀k,x<=k->k<x+z->l[k]? =m[k]?:= by
 constructor
 ·intro h k h1 h2
  have:=congrArg (·[k - x]?) h
  simp only[vS]at this
  rwa [if_pos (by omega),if_pos (by omega),show x+(k - x)=k by omega]at this
 ·intro h
  refine Qfh fun j=>?_
  rw[vS,vS]
  by_cases z':j<x+z - x
  ·rw[if_pos z',if_pos z',h (x+j) (by omega) (by omega)]
  ·rw[if_neg z',if_neg z']
noncomputable def Nv (b:Bool) (y:List Nat) (lg:Nat) (s:Sn):List Nat:=if b=true then Em y lg s else En y lg s
def jP (l m:List Nat) (n:Nat):Prop:= ∀k,k<n->l[k]? =m[k]?
def qB (_:PySem.W.Frag) (CW CS fa fb:Addr):Sp:=fun vs H Q _=> ∃(y:List Nat) (lg:Nat) (s t:Sn) (b:Bool) (en:Nat),vs=[.ref (if b=true then fa else fb), .ref s.a, .ref t.a, .int en]/\y.length<=8/\jO H CW CS y lg s/\jO H CW CS y lg t/\en<=100000/\ ∀m:Nat,jP (Nv b y lg s) (Nv b y lg t) m->(en<=m\/(Nv b y lg s)[m]?≠ (Nv b y lg t)[m]?)->Q (.int m) H
theorem yk {K:PySem.W.Frag} {CW CS fa fb:Addr} {vs:List V} {H:Hp} {Q:VK} {E:XK} (h:qB K CW CS fa fb vs H Q E):vs.length=4:=by obtain ⟨_,_,_,_,_,_,rfl,_⟩:=h;rfl
theorem jP.more {l m:List Nat} {x z:Nat} (h:jP l m x) (e:seg l x (x+z)=seg m x (x+z)):jP l m (x+z):=fun k hk=>by
 by_cases q:k<x
 ·exact h k q
 ·exact Ar.mp e k (by omega) hk
theorem GQ {l m:List Nat} {x z:Nat} (h:seg l x (x+z)≠seg m x (x+z)): ∃k,x<=k/\k<x+z/\l[k]?≠ m[k]?:= Classical.byContradiction fun q=>h (Ar.mpr fun k h1 h2=>Classical.byContradiction fun r=>q ⟨k,h1,h2,r⟩)
noncomputable def As (s:Sn):Int×Int:=if leads s.u=true then ((s.c:Int),((s.p / s.r:Nat):Int)) else (-(s.c:Int), -(((s.u.length - 1 - s.p) / s.r:Nat):Int))
def qC (_:PySem.W.Frag) (CW CS:Addr):Sp:=fun vs H Q _=> ∃(y:List Nat) (lg:Nat) (s:Sn),vs=[.ref s.a]/\jO H CW CS y lg s/\ ∀p H',H p=none->H' p=some (.tup [.int (As s).1, .int (As s).2])->ar H H'->Q (.ref p) H'
theorem yl {K:PySem.W.Frag} {CW CS:Addr} {vs:List V} {H:Hp} {Q:VK} {E:XK} (h:qC K CW CS vs H Q E):vs.length=1:=by obtain ⟨_,_,_,rfl,_⟩:=h;rfl
noncomputable def kx (y:List Nat) (M:Nat) (s:Sn):List Int:=kk y (sq s.u s.p) 0 M++[(As s).1,(As s).2]
def jQ (_:PySem.W.Frag) (CW CS:Addr):Sp:=fun vs H Q _=> ∃(y:List Nat) (lg:Nat) (s t:Sn),vs=[.ref s.a, .ref t.a]/\Yd y/\y.length<=8/\jO H CW CS y lg s/\jO H CW CS y lg t/\rd s.u s.p=rd t.u t.p/\ ∀H',ar H H'->Q (.bl (bV (kx y (2*lg) s) (kx y (2*lg) t))) H'
theorem oS {K:PySem.W.Frag} {CW CS:Addr} {vs:List V} {H:Hp} {Q:VK} {E:XK} (h:jQ K CW CS vs H Q E):vs.length=2:=by obtain ⟨_,_,_,_,rfl,_⟩:=h;rfl
theorem jR {u:List Nat} {r:Nat} (hn:u≠[]) (h:b_ u r):1<=r/\r<=u.length:=by
 rcases h with ⟨z,_⟩ | ⟨h1,h2,_⟩
 ·exact absurd z hn
 ·exact ⟨h1,h2⟩
theorem BV {y u:List Nat} {i:Nat} (h:i<u.length):(stx y u)[i]? =some (yX (cst y u i)):=by
 unfold stx
 rw[Qak,List.getElem?_range h]
 rfl
theorem vT (y u:List Nat) (i:Int):cst y u (i%u.length)=cst y u i:=by
 unfold cst
 rw[gK, <-gK u (i%u.length - 1),Qd5,Qd0 _ (Int.dvd_refl _), <-Qd5,gK]
theorem GR {y:List Nat} {lg:Nat} {s:Sn} (hn:s.u≠[]) {k:Nat} (h:s.p+1+k<s.u.length*jN lg s.u.length):(Em y lg s)[k]? =some (yX (eQ y (sq s.u s.p) (k+1))):=by
 have hp:=Zs.mpr hn
 unfold Em
 rw[Qc1,l_ _ _ _ (by rw[dP,Qbu];exact h),dP,BV (Qcz _ hp),GO,Qei,vT]
 congr 3
 omega
theorem GS {y:List Nat} {lg:Nat} {s:Sn} (hn:s.u≠[]) (hp:s.p<s.u.length) {k:Nat} (h:s.u.length - 1 - s.p+k<s.u.length*jN lg s.u.length):(En y lg s)[k]? =some (yX (eQ y (sq s.u s.p) (-(k:Int)))):=by
 have hl:=Zs.mpr hn
 unfold En
 rw[Qc1,l_ _ _ _ (by rw[Qa6,dP,Qbu];exact h),Qa6,dP]
 have hm:=Qcz (s.u.length - 1 - s.p+k) hl
 rw[Qdt (by rw[dP];exact hm),dP,BV (by omega),GO]
 congr 2
 rw[<-vT y s.u (s.p+ -(k:Int)), <-vT y s.u ((s.u.length - 1 - (s.u.length - 1 - s.p+k)%s.u.length:Nat):Int)]
 congr 1
 have e:((s.u.length - 1 - (s.u.length - 1 - s.p+k)%s.u.length:Nat):Int)=(s.u.length:Int) - 1 - ((s.u.length:Int) - 1 - s.p+k)%s.u.length:=by
  have:(((s.u.length - 1 - s.p+k)%s.u.length:Nat):Int)=((s.u.length:Int) - 1 - s.p+k)%s.u.length:=by
   rw[Qei];congr 1;omega
  omega
 rw[e,Qd5,Qd0 _ (Int.dvd_refl _), <-Qd5]
 congr 1
 omega
theorem uf {lg:Nat} {s:Sn} {en:Nat} (hp:s.p<s.u.length) (he:en<=s.u.length+lg):s.p+1+en<s.u.length*jN lg s.u.length+1/\s.u.length - 1 - s.p+en<s.u.length*jN lg s.u.length:=by
 have:=(mB (lg:=lg) (n:=s.u.length) (by omega)).2
 omega
theorem BW {u:List Nat} {r:Nat} (hn:u≠[]) (h:b_ u r) (p k:Int):sq u p (k+r)=sq u p k:=by
 have:=((jK hn h).2 (p+r) p).mpr (by rw[show p+(r:Int) - p=r by omega,Int.emod_self])
 have e:=this k
 unfold sq at e ⊢
 rw[show p+(k+r)=p+r+k by omega]
 exact e
theorem BX {a b:Int} (ha:0<=a) (hb:0<=b) (h:yX a=yX b):a=b:=by unfold yX at h;omega
theorem GU {a b:Int} (ha:0<=a) (hb:0<=b):yX a<yX b↔a<b:=by unfold yX;omega
theorem BY {y:List Nat} {f:Int->Nat} (hy:Yd y) (h:i6 y f) (k:Int):0<=eQ y f k:=by
 have:=(fI (hy.cl _ (h.bW (k - 1))) (h.bW k) (Ne.symm (h.red k))).1
 unfold eQ
 omega
theorem BZ {l m:List Nat} {en a n:Nat} (ha:a<en) (h1: ∀k,k<a->l[k]? =m[k]?) (h2:l[a]?≠ m[a]?) (g1:jP l m n) (g2:en<=n\/l[n]?≠ m[n]?):n=a:=by
 by_cases z:a<n
 ·exact absurd (g1 a z) h2
 ·by_cases z2:n<a
  ·rcases g2 with g2 | g2
   ·omega
   ·exact absurd (h1 n z2) g2
  ·omega
theorem B2 {l m:List Nat} {en n:Nat} (h1: ∀k,k<en->l[k]? =m[k]?) (g2:en<=n\/l[n]?≠ m[n]?):en<=n:=by
 rcases g2 with g2 | g2
 ·exact g2
 ·exact Classical.byContradiction fun z=>g2 (h1 n (by omega))
theorem pK {l:List Nat} {a x:Nat} (h:l[a]? =some x):seg l a (a+1)=[x]:=by
 obtain ⟨ha,e⟩:=Mu.mp h
 unfold seg
 rw[Qbj ha,e,show a+1 - a=1 by omega]
 rfl
theorem GV (x z:Nat):decide ([x]<[z])=decide (x<z):=decide_eq_decide.mpr ⟨fun h=>(Qex.mp h).elim id fun q=>absurd q.2 (Qdn _),fun h=>Qex.mpr (.inl h)⟩
theorem J3 (a b c d:Int):H_ a b c d=bV [a,b] [c,d]:=by
 unfold H_
 show _=if a=c then (if b=d then bV [] [] else decide (b<d)) else decide (a<c)
 by_cases z:a=c
 ·rw[if_pos z,if_pos z]
  by_cases q:b=d
  ·rw[if_pos q,q];simp[bV]
  ·rw[if_neg q]
 ·rw[if_neg z,if_neg z]
noncomputable def B3 (ss:List Sn):List V:=ss.map fun s=>V.ref s.a
theorem mC (ss:List Sn):(B3 ss).length=ss.length:=by unfold B3;rw[Xl]
theorem Nw {ss:List Sn} {i:Nat} {s:Sn} (h:ss[i]? =some s):(B3 ss)[i]? =some (V.ref s.a):=by unfold B3;rw[Qak,h];rfl
theorem J4 {ss:List Sn} {i:Nat} {x:V} (h:(B3 ss)[i]? =some x): ∃s,ss[i]? =some s/\x=V.ref s.a:=by
 unfold B3 at h
 rw[Qak]at h
 cases e:ss[i]? with
 | none=>rw[e]at h;cases h
 | some p=>rw[e]at h;cases h;exact ⟨p,rfl,rfl⟩
def DK (y:List Nat) (M:Nat) (ss:List Sn):Prop:=ss.Pairwise fun s t=>bV (kx y M t) (kx y M s)=false
def i_ (_:PySem.W.Frag) (CW CS:Addr):Sp:=fun vs H Q _=> ∃(y:List Nat) (lg:Nat) (a:Addr) (ss:List Sn) (t:Sn),vs=[.ref a, .ref t.a]/\Yd y/\y.length<=8/\H a=some (.lst (B3 ss))/\(∀s∈ss,jO H CW CS y lg s/\rd s.u s.p=rd t.u t.p)/\jO H CW CS y lg t/\DK y (2*lg) ss/\ss.length<=100000/\
 ∀(n:Nat) H',n<=ss.length->(∀k s,ss[k]? =some s->k<n->bV (kx y (2*lg) s) (kx y (2*lg) t)=true)->(∀k s,ss[k]? =some s->n<=k->bV (kx y (2*lg) s) (kx y (2*lg) t)=false)->ar H H'->Q (.int n) H'
theorem nB {K:PySem.W.Frag} {CW CS:Addr} {vs:List V} {H:Hp} {Q:VK} {E:XK} (h:i_ K CW CS vs H Q E):vs.length=2:=by obtain ⟨_,_,_,_,_,rfl,_⟩:=h;rfl
structure Wp where
 t:Addr
 a:Addr
 b:Addr
 r:Nat
 q:Nat
noncomputable def Ig (l:List Wp):List V:=l.map fun p=>V.ref p.t
theorem GW {l:List Wp} {i:Nat} {p:Wp} (h:l[i]? =some p):(Ig l)[i]? =some (V.ref p.t):=by unfold Ig;rw[Qak,h];rfl
theorem GX (l:List Wp) (p:Wp):Ig l++[V.ref p.t]=Ig (l++[p]):=by unfold Ig;rw[Qaa];rfl
structure vU (H:Hp) (C:Addr) (y:List Nat) (lg:Nat) (w:List Nat) (p:Wp):Prop where
 tp:H p.t=some (.tup [.ref p.a, .ref p.b])
 on:DI H C p.a y w lg p.r
 bk:DI H C p.b y (iq w) lg p.q
theorem vU.same {H H':Hp} {C:Addr} {y:List Nat} {lg:Nat} {w:List Nat} {p:Wp} (h:vU H C y lg w p) (s:ar H H'):vU H' C y lg w p:=⟨s _ _ h.tp,h.on.same s,h.bk.same s⟩
structure Au (w:List Nat) (c i:Nat) (s:Sn):Prop where
 ec:s.c=c
 ei:s.i=i
 eu:s.u=if aJ (rd w i)=true then w else iq w
 ep:s.p=if aJ (rd w i)=true then i else w.length - 1 - i
def jS (_:PySem.W.Frag) (CW CS:Addr):Sp:=fun vs H Q _=> ∃(y:List Nat) (lg:Nat) (wt vt st:Addr) (w:List Nat) (ws:List (List Nat)) (mP:List Wp) (p:Wp) (c i:Nat),vs=[.ref wt, .ref vt, .ref st]/\Yd y/\H wt=some (.tup (cy ws))/\H vt=some (.lst (Ig mP))/\H st=some (.tup [.int c, .int i])/\ws[c]? =some w/\mP[c]? =some p/\vU H CW y lg w p/\i<w.length/\
 ∀(s:Sn) H',Au w c i s->s.t=st->jO H' CW CS y lg s->H s.a=none->ar H H'->Q (.ref s.a) H'
theorem oT {K:PySem.W.Frag} {CW CS:Addr} {vs:List V} {H:Hp} {Q:VK} {E:XK} (h:jS K CW CS vs H Q E):vs.length=3:=by obtain ⟨_,_,_,_,_,_,_,_,_,_,_,rfl,_⟩:=h;rfl
def kH (_:PySem.W.Frag):Sp:=fun vs H Q _=> ∃(wt:Addr) (ws:List (List Nat)) (band:Nat),vs=[.ref wt, .str (S [band])]/\H wt=some (.tup (cy ws))/\ws.length<=4/\(∀w∈ws,(∀c∈w,Lt c)/\w.length<=12)/\band∈aP/\ ∀(q:Addr) (ps:List Pr) (H':Hp),H q=none->H' q=some (.lst (tZ ps))->(∀p∈ps,oP H' p)->ps.map Pr.pair=dJ band ws ws.length->ar H H'->Q (.ref q) H'
theorem qD {K:PySem.W.Frag} {vs:List V} {H:Hp} {Q:VK} {E:XK} (h:kH K vs H Q E):vs.length=2:=by obtain ⟨c,_,_,rfl,_⟩:=h;rfl
open Classical in
noncomputable def TV (w:List Nat):Nat:=if h: ∃s,b_ w s then choose h else 0
theorem vV {w:List Nat} (hn:w≠[]):b_ w (TV w):=by
 have h:=Bz hn
 unfold TV
 rw[dif_pos h]
 exact Classical.choose_spec h
theorem GY {y w:List Nat} {r q:Nat} (hy:Yd y) (hw:SW y w) (h:b_ w r) (g:b_ (iq w) q):q=r:=by
 have hn:=hw.ne
 have ht:=qv hn
 have p1:=jR hn h
 have p2:=jR ht g
 have key: ∀d:Nat,(d:Int)%(r:Int)=0↔(d:Int)%(q:Int)=0:=fun d=>by
  have a:=(jK hn h).2 d 0
  have b:=(jK ht g).2 d 0
  rw[Qdb]at a b
  rw[<-a, <-b]
  constructor
  ·intro p k
   rw[kf hn,kf hn]
   unfold bq
   have:=p (-1 - (d:Int) - k)
   unfold sq at this
   have e1:rd w (-1 - (0:Int) - k)=rd w ((d:Int)+(-1 - (d:Int) - k)):=by congr 1;omega
   have e2:rd w (-1 - (d:Int) - k)=rd w (0+(-1 - (d:Int) - k)):=by congr 1;omega
   rw[e1,e2,this]
  ·intro p k
   have e: ∀x:Int,rd w x=aC (rd (iq w) (-1 - x)):=fun x=>by
    rw[m_ hn,show -1 - (-1 - x)=x by omega,aN (hy.lt _ (hw.rd _))]
   unfold sq
   rw[e,e]
   have:=p (-1 - (d:Int) - k)
   unfold sq at this
   rw[show -1 - ((d:Int)+k)=0+(-1 - (d:Int) - k) by omega, <-this]
   congr 2
   omega
 have a:=(key r).mp (Int.emod_self)
 have b:=(key q).mpr (Int.emod_self)
 have a':r%q=0:=by
  have:((r%q:Nat):Int)=0:=by rw[<-a];rfl
  omega
 have b':q%r=0:=by
  have:((q%r:Nat):Int)=0:=by rw[<-b];rfl
  omega
 exact Qft (Nat.le_of_dvd (by omega) (Nat.dvd_of_mod_eq_zero a')) (Nat.le_of_dvd (by omega) (Nat.dvd_of_mod_eq_zero b'))
noncomputable def Ih (ws:List (List Nat)) (c:Nat):Bool:=leads (ws.getD c [])
noncomputable def Ii (ws:List (List Nat)) (c:Nat):Nat:=TV (ws.getD c [])
noncomputable def TX (y:List Nat) (ws:List (List Nat)) (M:Nat) (x:Nat×Nat):List Int:=dh y ws (Ih ws) (Ii ws) M x.1 x.2
theorem Au.line {y w:List Nat} {c i:Nat} {s:Sn} (hy:Yd y) (hw:SW y w) (hi:i<w.length) (h:Au w c i s):sq s.u s.p=mN w i:=by
 rw[h.eu,h.ep]
 unfold mN
 by_cases z:aJ (rd w i)=true
 ·rw[if_pos z,if_pos z,if_pos z]
 ·rw[if_neg z,if_neg z,if_neg z, <-MZ hw.ne,show ((w.length - 1 - i:Nat):Int)=(w.length:Int) - 1 - i by omega]
theorem B4 {y w:List Nat} {ws:List (List Nat)} {c i M:Nat} {s:Sn} (hy:Yd y) (hw:SW y w) (hi:i<w.length) (e:ws.getD c []=w) (h:Au w c i s) (rt:b_ s.u s.r):kx y M s=TX y ws M (c,i):=by
 unfold kx TX dh
 rw[h.line hy hw hi]
 simp only[e]
 congr 1
 unfold As Ia Ih Ii
 rw[e,h.ec]
 have rL:=vV hw.ne
 by_cases z:aJ (rd w i)=true
 ·have eu:s.u=w:=by rw[h.eu,if_pos z]
  have ep:s.p=i:=by rw[h.ep,if_pos z]
  rw[eu]at rt ⊢
  have er:=FL hw.ne rt rL
  rw[er,ep,z]
  by_cases l:leads w=true
  ·rw[if_pos l,l];rfl
  ·rw[if_neg l,if_neg (fun q=>l q.symm)];rfl
 ·have eu:s.u=iq w:=by rw[h.eu,if_neg z]
  have ep:s.p=w.length - 1 - i:=by rw[h.ep,if_neg z]
  rw[eu]at rt ⊢
  have er:=GY hy hw rL rt
  have z':aJ (rd w i)=false:=by simpa using z
  rw[er,ep,z',tY hy hw,cR]
  have ei:w.length - 1 - (w.length - 1 - i)=i:=by omega
  rw[ei]
  cases leads w<;>rfl
theorem Au.band {y w:List Nat} {c i band:Nat} {s:Sn} (hy:Yd y) (hw:SW y w) (hi:i<w.length) (hb:band∈aP) (ho:Aj band (rd w i)=true) (h:Au w c i s):rd s.u s.p=band:=by
 have lb:Lt band:= .inl hb
 have lo:aJ band=true:=by rw[j_ lb];exact decide_eq_true hb
 have Eu:rd w i=band\/rd w i=aC band:=by
  unfold Aj at ho
  simpa using ho
 rw[h.eu,h.ep]
 rcases Eu with e | e
 ·rw[if_pos (by rw[e];exact lo),if_pos (by rw[e];exact lo)]
  exact e
 ·have z: ¬aJ (rd w i)=true:=by rw[e,gz _ lb.mem,lo];decide
  rw[if_neg z,if_neg z,m_ hw.ne,show -1 - ((w.length - 1 - i:Nat):Int)=i - w.length by omega,z5,e,aN lb]
def GZ (y:List Nat) (ws:List (List Nat)) (M:Nat) (l:List (Nat×Nat)):Prop:=l.Pairwise fun s t=>bV (TX y ws M t) (TX y ws M s)=false
def kI (_:PySem.W.Frag) (CW CS:Addr):Sp:=fun vs H Q _=> ∃(y:List Nat) (lg:Nat) (wt vt:Addr) (ws:List (List Nat)) (mP:List Wp) (band:Nat),vs=[.ref wt, .ref vt, .str (S [band])]/\Yd y/\y.length<=8/\H wt=some (.tup (cy ws))/\ws.length<=4/\(∀w∈ws,SW y w/\w.length<=12)/\band∈aP/\H vt=some (.lst (Ig mP))/\mP.length=ws.length/\(∀(c:Nat) (w:List Nat) (p:Wp),ws[c]? =some w->mP[c]? =some p->vU H CW y lg w p)/\
 ∀(q:Addr) (ps:List Pr) (H':Hp),H q=none->H' q=some (.tup (tZ ps))->(∀p∈ps,oP H' p)->(ps.map Pr.pair).Perm (dJ band ws ws.length)->GZ y ws (2*lg) (ps.map Pr.pair)->ar H H'->Q (.ref q) H'
theorem qE {K:PySem.W.Frag} {CW CS:Addr} {vs:List V} {H:Hp} {Q:VK} {E:XK} (h:kI K CW CS vs H Q E):vs.length=3:=by obtain ⟨_,_,_,_,_,_,_,rfl,_⟩:=h;rfl
theorem Ny {y:List Nat} {M:Nat} {ss:List Sn} {t:Sn} {n:Nat} (up:DK y M ss) (h1: ∀k s,ss[k]? =some s->k<n->bV (kx y M s) (kx y M t)=true) (h2: ∀k s,ss[k]? =some s->n<=k->bV (kx y M s) (kx y M t)=false):DK y M (ss.take n++t::ss.drop n):=by
 have tk: ∀s∈ss.take n,bV (kx y M s) (kx y M t)=true:=fun s hs=>by
  obtain ⟨k,hk,e⟩:=Qdg hs
  rw[Qae]at hk
  rw[List.getElem_take]at e
  exact h1 k s (by rw[<-e];exact Mt (by omega)) (by omega)
 have dr: ∀s∈ss.drop n,bV (kx y M s) (kx y M t)=false:=fun s hs=>by
  obtain ⟨k,hk,e⟩:=Qdg hs
  rw[Qa2]at hk
  rw[List.getElem_drop]at e
  exact h2 (n+k) s (by rw[<-e];exact Mt (by omega)) (by omega)
 have Wf:DK y M (ss.take n++ss.drop n):=by rw[Qa7];exact up
 unfold DK at Wf ⊢
 rw[Qcw]at Wf ⊢
 rw[Qco]
 obtain ⟨u1,u2,u3⟩:=Wf
 refine ⟨u1,⟨fun s hs=>dr s hs,u2⟩,fun a ha b hb=>?_⟩
 rcases Zv.mp hb with e | e
 ·rw[e];exact (nc (tk a ha)).1
 ·exact u3 a ha b e
theorem jT (band:Nat) {ws:List (List Nat)} (hw: ∀w∈ws,w.length<=12): ∀n,n<=ws.length->(dJ band ws n).length<=12*n
 | 0,_=>Qad _
 | n+1,h=>by
  have ih:=jT band hw n (by omega)
  unfold dJ at ih ⊢
  rw[Qbo,Qbn,Oy,Qdo]
  have h1:(i7 band n (ws.getD n []) (ws.getD n []).length).length<=12:=by
   unfold i7
   rw[Xl]
   refine Qao (Qcs _ _) ?_
   rw[Qce]
   exact hw _ (getD_in (by omega))
  omega
theorem Av {band:Nat} {ws:List (List Nat)} {x:Nat×Nat} (h:x∈dJ band ws ws.length): ∃w,ws[x.1]? =some w/\x.2<w.length/\Aj band (rd w x.2)=true:=by
 unfold dJ at h
 obtain ⟨c,hc,h⟩:=Qbf.mp h
 have rJ:=Qbl.mp hc
 unfold i7 at h
 obtain ⟨i,hi,e⟩:=Qau.mp h
 obtain ⟨i1,i2⟩:=Qa0.mp hi
 have XX:=Qbl.mp i1
 subst e
 refine ⟨ws.getD c [],by rw[kb,Mt rJ];rfl,XX,?_⟩
 have:(ws.getD c []).getD i 0=rd (ws.getD c []) i:=by
  have:=m9 XX
  rw[kb,this];rfl
 show Aj band (rd (ws.getD c []) i)=true
 rw[<-this]
 exact i2
theorem ui {H H':Hp} {x dx C:Addr} (nx:H x=none) (Nz:H dx=none) (sm:aR x (L2.upd (L2.upd H dx (.own x)) x (.ins C dx [])) H'):ar H H':=fun a o e=>by
 refine sm a o ?_ (aE e nx)
 rw[aD (aE e nx),aD (aE e Nz)]
 exact e
noncomputable def J5 (ws:List (List Nat)):List Int:=ws.map fun w=>(w.length:Int)
theorem J6 (l:List Int): ∀a:Int,a<=l.foldl (fun x y=>if y>x then y else x) a/\(∀x∈l,x<=l.foldl (fun x y=>if y>x then y else x) a)/\(l.foldl (fun x y=>if y>x then y else x) a=a\/l.foldl (fun x y=>if y>x then y else x) a∈l):=by
 induction l with
 | nil=>exact fun a=>⟨Qe1 _,fun _ h=>absurd h Qag, .inl rfl⟩
 | cons b r ih=>
  intro a
  rw[Qd2]
  obtain ⟨h1,h2,h3⟩:=ih (if b>a then b else a)
  have h4:a<=(if b>a then b else a)/\b<=(if b>a then b else a):=by split<;>omega
  refine ⟨by omega,fun x hx=>?_,?_⟩
  ·rcases Zv.mp hx with e | e
   ·rw[e];omega
   ·exact h2 x e
  ·rcases h3 with e | e
   ·rw[e]
    split
    ·exact .inr Zu
    ·exact .inl rfl
   ·exact .inr (Xn _ e)
theorem Aw {ws:List (List Nat)} (h: ∀w∈ws,w.length<=12): ∃lg:Nat,MR 0 (J5 ws)=lg/\lg<=12/\ ∀w∈ws,w.length<=lg:=by
 cases ws with
 | nil=>exact ⟨0,rfl,by decide,fun _ h=>absurd h Qag⟩
 | cons v r=>
  obtain ⟨h1,h2,h3⟩:=J6 (J5 r) (v.length:Int)
  have e:MR 0 (J5 (v::r))=(J5 r).foldl (fun x y=>if y>x then y else x) (v.length:Int):=rfl
  rw[e]
  generalize (J5 r).foldl (fun x y=>if y>x then y else x) (v.length:Int)=m at*
  have hm: ∃w∈v::r,m=(w.length:Int):=by
   rcases h3 with q | q
   ·exact ⟨v,Zu,q⟩
   ·obtain ⟨w,hw,e'⟩:=Qau.mp q
    exact ⟨w,Xn _ hw,e'.symm⟩
  obtain ⟨w,hw,rfl⟩:=hm
  refine ⟨w.length,rfl,h w hw,fun u hu=>?_⟩
  rcases Zv.mp hu with q | q
  ·rw[q];omega
  ·have:=h2 _ (Qau.mpr ⟨u,q,rfl⟩)
   omega
def vW (y:List Nat) (ws:List (List Nat)) (os:List Od):Prop:= ∃M,(∀w∈ws, ∀v∈ws,w.length+v.length<=M)/\x8 y ws os/\ ∀o∈os,GZ y ws M (o.ps.map Pr.pair)
def B5 (_:PySem.W.Frag):Sp:=fun vs H Q _=> ∃(y:List Nat) (wt:Addr) (ws:List (List Nat)),vs=[.str (S y), .ref wt]/\Yd y/\y.length<=8/\H wt=some (.tup (cy ws))/\ws.length<=4/\(∀w∈ws,SW y w/\w.length<=12)/\ ∀(dr:Addr) (os:List Od) (H':Hp),Ah H' dr ws os->vW y ws os->ar H H'->Q (.ref dr) H'
theorem G0 {K:PySem.W.Frag} {vs:List V} {H:Hp} {Q:VK} {E:XK} (h:B5 K vs H Q E):vs.length=2:=by obtain ⟨_,_,_,rfl,_⟩:=h;rfl
theorem J9 {H:Hp} {C:Addr} {y:List Nat} {lg i:Nat} {ws:List (List Nat)} {mP:List Wp} {w:List Nat} {p:Wp} (hl:mP.length=i) (h: ∀(c:Nat) (w:List Nat) (p:Wp),ws[c]? =some w->mP[c]? =some p->vU H C y lg w p) (hw:ws[i]? =some w) (hp:vU H C y lg w p): ∀(c:Nat) (w:List Nat) (q:Wp),ws[c]? =some w->(mP++[p])[c]? =some q->vU H C y lg w q:=fun c v q hv hq=>by
 by_cases z:c<mP.length
 ·rw[Qbr z]at hq
  exact h c v q hv hq
 ·rw[Qcf (by omega)]at hq
  have:c=i:=by
   have:=(Mu.mp hq).1
   simp at this
   omega
  subst this
  rw[hl,Nat.sub_self]at hq
  rw[hw]at hv
  cases hv
  cases hq
  exact hp
theorem ym {y:List Nat} (h:Yd y) {b:Nat} (hb:b∈gA y):b∈aP:=by
 obtain ⟨h1,h2⟩:=Qa0.mp ((kg y).mem_iff.mp hb)
 rw[j_ (h.lt b h1)]at h2
 exact of_decide_eq_true h2
theorem G1 {y:List Nat} {ws:List (List Nat)} {L:Nat->Bool} {r:Nat->Nat} {M:Nat} (h:fA y ws L r M) {c i d j x:Nat} (hc:c<ws.length) (hd:d<ws.length) (hi:i<(ws.getD c []).length) (hj:j<(ws.getD d []).length) (dH:(c,i)≠(d,j)) (hx:aJ x=true) (e1:rd (ws.getD c []) i=x\/rd (ws.getD c []) i=aC x) (e2:rd (ws.getD d []) j=x\/rd (ws.getD d []) j=aC x):
  bV (dh y ws L r M c i) (dh y ws L r M d j)=true\/bV (dh y ws L r M d j) (dh y ws L r M c i)=true:=by
 have hw:=h.sw c hc
 have hv:=h.sw d hd
 have hy:=h.yd
 have lw:=Zs.mpr hw.ne
 have lv:=Zs.mpr hv.ne
 have xs: ∀{w:List Nat} {k:Nat},SW y w->(rd w k=x\/rd w k=aC x)->Lt x:=fun {w k} hw e=>by
  have h9:97<=x/\x<=122:=by unfold aJ at hx;simpa using hx
  refine .inl ?_
  have: ∀k,k<26->k+97∈aP:=by decide
  have h8:=this (x - 97) (by omega)
  rwa [show x - 97+97=x by omega]at h8
 have lx:=xs hw e1
 have Ac: ∀{w:List Nat} {k:Nat},SW y w->Dl w k (mN w k)/\((rd w k=x\/rd w k=aC x)->mN w k 0=x)/\(mN w k=if aJ (rd w k)=true then sq w k else bq w k):=fun {w k} hw=>by
  refine ⟨?_,fun e=>?_,rfl⟩
  ·unfold mN
   by_cases z:aJ (rd w k)=true
   ·rw[if_pos z];exact .inl rfl
   ·rw[if_neg z];exact .inr rfl
  ·unfold mN
   rcases e with e | e
   ·rw[if_pos (by rw[e];exact hx)]
    unfold sq
    rw[Qbs];exact e
   ·have z: ¬aJ (rd w k)=true:=by rw[e,gz _ lx.mem,hx];decide
    rw[if_neg z]
    unfold bq
    rw[Qdb,e,aN lx]
 obtain ⟨df,f0,fe⟩:=Ac (k:=i) hw
 obtain ⟨dg',g0,ge⟩:=Ac (k:=j) hv
 have lf:=df.Ac hy hw
 have lg:=dg'.Ac hy hv
 by_cases par: ∀k,mN (ws.getD c []) i k=mN (ws.getD d []) j k
 ·unfold dh
  rw[show mN (ws.getD c []) i=mN (ws.getD d []) j from funext par,fX,fX]
  by_cases cd:c=d
  ·subst cd
   have ij:i≠j:=fun z=>dH (by rw[z])
   obtain ⟨h1,h2⟩:=h.root hc
   have hr:=h.rp c hc
   -- one and HV same way
   have low:aJ (rd (ws.getD c []) i)=aJ (rd (ws.getD c []) j):=by
    by_cases z1:aJ (rd (ws.getD c []) i)=true<;>by_cases z2:aJ (rd (ws.getD c []) j)=true
    ·rw[z1,z2]
    ·exfalso
     rw[fe,ge,if_pos z1,if_neg z2]at par
     exact vC hy hw _ _ par
    ·exfalso
     rw[fe,ge,if_neg z1,if_pos z2]at par
     exact vC hy hw _ _ fun k=>(par k).symm
    ·rw[show aJ (rd (ws.getD c []) i)=false by simpa using z1,show aJ (rd (ws.getD c []) j)=false by simpa using z2]
   have ps:cX (ws.getD c []) (ws.getD c []) i j:=by
    by_cases z1:aJ (rd (ws.getD c []) i)=true
    ·have z2:aJ (rd (ws.getD c []) j)=true:=by rw[<-low];exact z1
     rw[fe,ge,if_pos z1,if_pos z2]at par
     exact par
    ·have z2: ¬aJ (rd (ws.getD c []) j)=true:=by rw[<-low];exact z1
     rw[fe,ge,if_neg z1,if_neg z2]at par
     have e:=congrArg ku (funext par)
     rw[<-ff, <-ff,oh hy (bE hw _),oh hy (bE hw _)]at e
     exact fun k=>congrFun e k
   have q:=(h.rr c hc _ _).mp ps
   have JP:i%r c=j%r c:=by
    have q2:=Int.emod_eq_emod_iff_emod_sub_eq_zero.mpr q
    have q3:((i%r c:Nat):Int)=((j%r c:Nat):Int):=q2
    omega
   have k1:= @Ad (ws.getD c []).length _ (r c) c i j (L c) (aJ (rd (ws.getD c []) j)) hr h1 hi hj JP ij
   have k2:= @Ad (ws.getD c []).length _ (r c) c j i (L c) (aJ (rd (ws.getD c []) j)) hr h1 hj hi JP.symm (Ne.symm ij)
   rw[low]
   by_cases z:aJ (rd (ws.getD c []) j)=true
   ·rw[if_pos z]at k1 k2
    rw[k1,k2,decide_eq_true_iff,decide_eq_true_iff]
    omega
   ·rw[if_neg z]at k1 k2
    rw[k1,k2,decide_eq_true_iff,decide_eq_true_iff]
    omega
  ·have hl:L d=if aJ (rd (ws.getD d []) j)=aJ (rd (ws.getD c []) i) then L c else !L c:=by
    by_cases z1:aJ (rd (ws.getD c []) i)=true<;>by_cases z2:aJ (rd (ws.getD d []) j)=true
    ·rw[z1,z2,if_pos rfl]
     rw[fe,ge,if_pos z1,if_pos z2]at par
     exact (h.l1 c d i j hc hd par).symm
    ·rw[if_neg (fun q=>z2 (q.trans z1))]
     rw[fe,ge,if_pos z1,if_neg z2]at par
     exact h.l2 c d i j hc hd par
    ·rw[if_neg (fun q=>z1 (q.symm.trans z2))]
     rw[fe,ge,if_neg z1,if_pos z2]at par
     have:=h.l2 d c j i hd hc fun k=>(par k).symm
     rw[this,Bool.not_not]
    ·rw[show aJ (rd (ws.getD c []) i)=false by simpa using z1,show aJ (rd (ws.getD d []) j)=false by simpa using z2,if_pos rfl]
     rw[fe,ge,if_neg z1,if_neg z2]at par
     have e:=congrArg ku (funext par)
     rw[<-ff, <-ff,oh hy (bE hw _),oh hy (bE hv _)]at e
     exact (h.l1 c d i j hc hd fun k=>congrFun e k).symm
   have EV:= @vG (ws.getD c []).length (ws.getD d []).length (r c) (r d) c d i j (L c) (aJ (rd (ws.getD c []) i)) (aJ (rd (ws.getD d []) j)) cd
   have A1:L c=if aJ (rd (ws.getD c []) i)=aJ (rd (ws.getD d []) j) then L d else !L d:=by
    rw[hl]
    cases aJ (rd (ws.getD d []) j)<;>cases aJ (rd (ws.getD c []) i)<;>cases L c<;>rfl
   have Nk:= @vG (ws.getD d []).length (ws.getD c []).length (r d) (r c) d c j i (L d) (aJ (rd (ws.getD d []) j)) (aJ (rd (ws.getD c []) i)) (Ne.symm cd)
   rw[<-hl]at EV
   rw[<-A1]at Nk
   rw[EV,Nk,hl]
   cases aJ (rd (ws.getD d []) j)<;>cases aJ (rd (ws.getD c []) i)<;>cases L c<;>simp<;>omega
 ·have vH: ∃k,mN (ws.getD c []) i k≠mN (ws.getD d []) j k:=Classical.byContradiction fun z=>par fun k=>Classical.byContradiction fun w=>z ⟨k,w⟩
  have Sv: ∀{w:List Nat} {k:Nat} (z:Int),mN w k (z+w.length)=mN w k z:=fun {w k} z=>by
   unfold mN
   split
   ·exact cq w k z
   ·exact kZ w k z
  obtain ⟨a,b,rn,ha,hb⟩:=d_ lw lv Sv Sv ((f0 e1).trans (g0 e2).symm) vH
  have big:=h.big c d hc hd
  unfold dh
  rw[ng hy lf lg rn _ _ M 0 (Qad _) (Qad _) (by omega) (by omega),ng hy lg lf rn.sy _ _ M 0 (Qad _) (Qad _) (by omega) (by omega),Gb hy lf lg (rn.og a (by omega) (by omega)) rn.hi,Af hy lf lg (rn.og _ (by omega) (by omega)) rn.lo]
  by_cases z:a<=b
  ·rw[if_pos z,if_pos z]
   cases gY y (mN (ws.getD c []) i) (mN (ws.getD d []) j) a
   ·exact .inr rfl
   ·exact .inl rfl
  ·rw[if_neg z,if_neg z]
   cases g_ y (mN (ws.getD c []) i) (mN (ws.getD d []) j) b
   ·exact .inr rfl
   ·exact .inl rfl
theorem NA {y:List Nat} {ws:List (List Nat)} {os:List Od} (hy:Yd y) (hw: ∀w∈ws,SW y w) (h:vW y ws os): ∃M,fA y ws (Ih ws) (Ii ws) M/\Gz y ws (Ih ws) (Ii ws) M os:=by
 obtain ⟨M,hM,ok,up⟩:=h
 have hs: ∀c,c<ws.length->SW y (ws.getD c []):=fun c hc=>hw _ (getD_in hc)
 have hC:fA y ws (Ih ws) (Ii ws) M:=Gj hy hs (fun c hc=>vV (hs c hc).ne) fun c d hc hd=>hM _ (getD_in hc) _ (getD_in hd)
 refine ⟨M,hC,ok,fun o ho=>?_⟩
 obtain ⟨j,hj,ej⟩:=Qdg ho
 have Ei:j<(gA y).length:=by rw[<-ok.1];exact hj
 have pm:=ok.2 j o (gA y)[j] (by rw[Mt hj,ej]) (Mt Ei)
 have bs:=ym hy (Qas Ei)
 have lb:Lt (gA y)[j]:= .inl bs
 have lo:aJ (gA y)[j]=true:=by rw[j_ lb];exact decide_eq_true bs
 have nd:(o.ps.map Pr.pair).Nodup:=pm.nodup_iff.mpr (t9 _ _ _)
 have u:=up o ho
 unfold GZ at u
 refine Qee (fun {s t} h1 h2 h=>?_) (List.Pairwise.and u nd)
 obtain ⟨w1,e1,i1,o1⟩:=Av (pm.mem_iff.mp h1)
 obtain ⟨w2,e2,i2,o2⟩:=Av (pm.mem_iff.mp h2)
 have c1:=(Mu.mp e1).1
 have c2:=(Mu.mp e2).1
 have g1:ws.getD s.1 []=w1:=by rw[kb,e1];rfl
 have g2:ws.getD t.1 []=w2:=by rw[kb,e2];rfl
 have on: ∀{l:Nat},Aj (gA y)[j] l=true->l=(gA y)[j]\/l=aC (gA y)[j]:=fun {l} q=>by unfold Aj at q;simpa using q
 have tr:=G1 hC (c:=s.1) (i:=s.2) (d:=t.1) (j:=t.2) c1 c2 (by rw[g1];exact i1) (by rw[g2];exact i2) h.2 lo (by rw[g1];exact on o1) (by rw[g2];exact on o2)
 rcases tr with q | q
 ·exact q
 ·have hf:bV (dh y ws (Ih ws) (Ii ws) M t.1 t.2) (dh y ws (Ih ws) (Ii ws) M s.1 s.2)=false:=h.1
  rw[hf]at q
  cases q
theorem G2 {α β:Type} (p:β->β->Bool) (f:α->β): ∀l:List α,cl p (l.map f)=cl (fun a b=>p (f a) (f b)) l
 | []=>rfl
 | a::l=>by
  show ((l.map f).filter (p (f a))).length+cl p (l.map f)=(l.filter fun b=>p (f a) (f b)).length+cl _ l
  rw[G2 p f l,List.filter_map,Xl]
  rfl
theorem yn {α:Type} {p q:α->α->Bool}: ∀{l:List α},l.Pairwise (fun a b=>p a b=q a b)->cl p l=cl q l
 | [],_=>rfl
 | a::l,h=>by
  rw[Qco]at h
  show (l.filter (p a)).length+cl p l=(l.filter (q a)).length+cl q l
  rw[yn h.2,Qfg fun b hb=>h.1 b hb]
theorem G3 {a b a' b':Nat} (h1:a<b) (h2:a'<b') (h4:a<a') (h5:b≠a') (h6:b≠b'):(mO (a,b) (a',b')||mO (a',b') (a,b))=oO a b a' b':=by
 have g4:=Qc9 h4 h2
 rw[FV (Qan h1) (Qan h4) (Qan g4) h5 h6]
 unfold mO
 rw[decide_eq_true h4,decide_eq_true g4,decide_eq_false (Qd4 h4),kc (Ne.symm h6)]
 have k:decide (b'<b)=true->decide (a'<b)=true:=fun q=>decide_eq_true (Qc9 h2 (of_decide_eq_true q))
 revert k
 generalize decide (a'<b)=p
 generalize decide (b'<b)=q
 revert p q
 decide
theorem vX {a b a' b':Nat} (h1:a<b) (h2:a'<b') (h3:a≠a') (h4:a≠b') (h5:b≠a') (h6:b≠b'):(mO (a,b) (a',b')||mO (a',b') (a,b))=oO a b a' b':=by
 rcases Qc0 h3 with q | q
 ·exact G3 h1 h2 q h5 h6
 ·rw[Bool.or_comm,G3 h2 h1 q (Ne.symm h4) (Ne.symm h6),mi (Qan h2) (Qan h1) (Ne.symm h3) (Ne.symm h5) (Ne.symm h4) (Ne.symm h6)]
theorem J_ {a b a' b':Nat} (h1:a≠b) (h2:a'≠b') (h3:a≠a') (h4:a≠b') (h5:b≠a') (h6:b≠b'):(mO (min a b,max a b) (min a' b',max a' b')||mO (min a' b',max a' b') (min a b,max a b))=oO a b a' b':=by
 rcases Qc0 h1 with q | q<;>rcases Qc0 h2 with r | r
 ·rw[Qbz (Qa5 q),Qc8 (Qa5 q),Qbz (Qa5 r),Qc8 (Qa5 r)]
  exact vX q r h3 h4 h5 h6
 ·rw[Qbz (Qa5 q),Qc8 (Qa5 q),Qb1 (Qa5 r),Qc2 (Qa5 r),jH]
  exact vX q r h4 h3 h6 h5
 ·rw[Qb1 (Qa5 q),Qc2 (Qa5 q),Qbz (Qa5 r),Qc8 (Qa5 r), <-xY h1 h2 h3 h4 h5 h6]
  exact vX q r h5 h6 h3 h4
 ·rw[Qb1 (Qa5 q),Qc2 (Qa5 q),Qb1 (Qa5 r),Qc2 (Qa5 r), <-xY h1 h2 h3 h4 h5 h6,jH]
  exact vX q r h6 h5 h4 h3
section
variable {y:List Nat} {ws:List (List Nat)} {L:Nat->Bool} {r:Nat->Nat} {M:Nat}
noncomputable def oU (ps:List (Nat×Nat×Nat)) (c i e:Nat):Nat:=ps.idxOf (c,i,e)
theorem Ka {n i:Nat} (h:i<n):jJ n ((i:Int) - 1)=yW n i/\jJ n (i:Int)=i:=by
 have h1:=fg (n:=n) (by omega) ((i:Int) - 1)
 have h2:=fg (n:=n) (by omega) (i:Int)
 rw[BO h]at h1
 rw[Qax (by omega) (by omega)]at h2
 omega
theorem mD {ps:List (Nat×Nat×Nat)} {c i:Nat} (hi:i<(ws.getD c []).length):(kG ps c (ws.getD c []) i).2.2.1=pI ws (oU ps) c ((i:Int) - 1)/\(kG ps c (ws.getD c []) i).2.2.2=pO ws (oU ps) c i:=by
 obtain ⟨e1,e2⟩:=Ka hi
 have g: ∀k,k<(ws.getD c []).length->(ws.getD c []).getD k 0=rd (ws.getD c []) k:=fun k hk=>by
  rw[kb,m9 hk];rfl
 have dH:ws.getD c []≠[]:=fun z=>by rw[z]at hi;exact absurd hi (Qes _)
 unfold kG pI pO oU
 rw[e1,e2,g _ (An hi),g _ hi]
 refine ⟨?_,rfl⟩
 have:rd (ws.getD c []) (yW (ws.getD c []).length i:Nat)=rd (ws.getD c []) ((i:Int) - 1):=by rw[<-e1,cg dH]
 rw[this]
theorem nC (ps:List (Nat×Nat×Nat)) (ws:List (List Nat)): ∀n,gZ ps ws n=(rF ws n).map fun x=>kG ps x.1 (ws.getD x.1 []) x.2
 | 0=>rfl
 | n+1=>by
  have ih:=nC ps ws n
  unfold gZ at ih ⊢
  unfold rF
  rw[Qbo,Qbn,ih,Qaa,Qdo,Qb2]
  rfl
theorem G4 (ws:List (List Nat)) (n:Nat):(rF ws n).Nodup:=(Bt n).imp fun {a b} h z=>by
 rw[z]at h
 unfold H_ at h
 simp at h
theorem G5 (h:fA y ws L r M) {ps:List (Nat×Nat×Nat)} (hN:Lies y ws L r M (oU ps)) (l:List (Nat×Nat)) (hl:l.Nodup) (vR: ∀x∈l,x.1<ws.length/\x.2<(ws.getD x.1 []).length):(fj (l.map fun x=>kG ps x.1 (ws.getD x.1 []) x.2)).Nodup:=by
 unfold fj
 induction l with
 | nil=>exact List.Pairwise.nil
 | cons x t ih=>
  rw[Qaz]at hl
  rw[Qat,Qbc,Qbv]
  obtain ⟨x1,x2⟩:=vR x Zu
  have ex:=mD (ps:=ps) (ws:=ws) (c:=x.1) x2
  refine ⟨?_,ih hl.2 fun z hz=>vR z (Xn _ hz),fun a ha b hb e=>?_⟩
  ·rw[ex.1,ex.2,Qaz]
   exact ⟨by simpa using (fi h hN x1 x1 x2 x2).1,by simp⟩
  ·obtain ⟨c4,hc4,Lj⟩:=Qbf.mp hb
   obtain ⟨z,hz,rfl⟩:=Qau.mp hc4
   obtain ⟨z1,z2⟩:=vR z (Xn _ hz)
   have ez:=mD (ps:=ps) (ws:=ws) (c:=z.1) z2
   have dH:(x.1,x.2)≠(z.1,z.2):=fun q=>hl.1 (by
    have:x=z:=Prod.ext (Prod.mk.inj q).1 (Prod.mk.inj q).2
    rw[this];exact hz)
   have n1:=fi h hN x1 z1 x2 z2
   have n2:=fi h hN z1 x1 z2 x2
   rw[ex.1,ex.2]at ha
   rw[ez.1,ez.2]at Lj
   have XY:a=pI ws (oU ps) x.1 ((x.2:Int) - 1)\/a=pO ws (oU ps) x.1 x.2:=by simpa using ha
   have iK:b=pI ws (oU ps) z.1 ((z.2:Int) - 1)\/b=pO ws (oU ps) z.1 z.2:=by simpa using Lj
   rw[e]at XY
   rcases XY with p | p<;>rcases iK with q | q<;>rw[p]at q
   ·exact (n1.2 dH).1 q
   ·exact n1.1 q
   ·exact n2.1 q.symm
   ·exact (n1.2 dH).2 q
theorem G6 (h:fA y ws L r M) {ps:List (Nat×Nat×Nat)} (hN:Lies y ws L r M (oU ps)) (l:List (Nat×Nat)) (hl:l.Nodup) (vR: ∀x∈l,x.1<ws.length/\x.2<(ws.getD x.1 []).length):cl (fun x z=>mO x z||mO z x) (qz (l.map fun x=>kG ps x.1 (ws.getD x.1 []) x.2))=cl (OG ws (oU ps)) l:=by
 unfold qz
 rw[Qb2,G2]
 refine yn (Qee (fun {a b} ha hb yV=>?_) hl)
 obtain ⟨a1,a2⟩:=vR a ha
 obtain ⟨b1,b2⟩:=vR b hb
 have ea:=mD (ps:=ps) (ws:=ws) (c:=a.1) a2
 have eb:=mD (ps:=ps) (ws:=ws) (c:=b.1) b2
 have dH:(a.1,a.2)≠(b.1,b.2):=yV
 have n1:=fi h hN a1 b1 a2 b2
 have n2:=fi h hN b1 a1 b2 a2
 have n3:=fi h hN a1 a1 a2 a2
 have n4:=fi h hN b1 b1 b2 b2
 show (mO (min _ _,max _ _) (min _ _,max _ _)||mO (min _ _,max _ _) (min _ _,max _ _))=OG ws (oU ps) a b
 rw[ea.1,ea.2,eb.1,eb.2,J_ n3.1 n4.1 (n1.2 dH).1 n1.1 (Ne.symm n2.1) (n1.2 dH).2]
 rfl
end
noncomputable def kr (w:List Nat):Int:=((w.length / TV w:Nat):Int)
noncomputable def jf (y w:List Nat):Int:=SS y w w+2*(kr w - 1)
noncomputable def nE (y:List Nat) (ws:List (List Nat)):Int:=sm ws.length (fun c=>jf y (ws.getD c.toNat []))+2*qu ws.length (fun c d=>SS y (ws.getD c.toNat []) (ws.getD d.toNat []))
theorem NB (h:Int->Int) (n:Nat):2*sm n h=sm n fun i=>2*h i:=by
 rw[show (fun i=>2*h i)=fun i=>h i+h i from funext fun i=>Int.two_mul _,qt,Int.two_mul]
theorem NC {y:List Nat} {ws:List (List Nat)} {M:Nat} {N:Nat->Nat->Nat->Nat} (h:fA y ws (Ih ws) (Ii ws) M) (hN:Lies y ws (Ih ws) (Ii ws) M N):2*(cl (OG ws N) (places ws):Int)=nE y ws:=by
 unfold places nE
 rw[Gg,Int.mul_add,NB]
 congr 1
 ·refine aX fun c hc=>?_
  rw[Xo]
  have a:=Ga h hN hc
  rw[Lo h.yd (h.sw c hc) (h.sw c hc)]at a
  rw[show qu (ws.getD c []).length (fun i j=>one (OG ws N (c,i.toNat) (c,j.toNat)=true))=qu (ws.getD c []).length (fun i j=>one (jh (pO ws N c) (pI ws N c) (pO ws N c) (pI ws N c) i j=true)) from ke fun i j _ _=>by
   unfold OG
   rw[Xo,Xo],a]
  rfl
 ·congr 1
  refine ke fun c d oE hd=>?_
  rw[Xo,Xo, <-Lo h.yd (h.sw c (Qc9 oE hd)) (h.sw d hd), <-Dz h hN (c:=c) (d:=d) (Qc9 oE hd) hd (Qan oE)]
  exact bO fun i j _ _=>by
   unfold OG
   rw[Xo,Xo]
theorem DL {y:List Nat} {ws:List (List Nat)} {os:List Od} (hy:Yd y) (hw: ∀w∈ws,SW y w) (h:vW y ws os):(fj (t_ y ws os)).Nodup/\2*(cl (fun x z=>mO x z||mO z x) (qz (t_ y ws os)):Int)=nE y ws:=by
 obtain ⟨M,hC,hT⟩:=NA hy hw h
 have hN:Lies y ws (Ih ws) (Ii ws) M (oU (pE y os)):=lies_of hy hC.sw hT
 have vR: ∀x∈places ws,x.1<ws.length/\x.2<(ws.getD x.1 []).length:=fun x hx=>vx.mp hx
 unfold t_
 rw[nC]
 refine ⟨G5 hC hN _ (G4 ws _) vR,?_⟩
 rw[G6 hC hN _ (G4 ws _) vR]
 exact NC hC hN
theorem Sr.ok {y:List Nat} {ws:List (List Nat)} (h:Sr y ws):Sx y ws:=⟨h.lV,fun w hw=>⟨(h.sw w hw).1.bW,(h.sw w hw).2⟩⟩
theorem DM {y:List Nat} {ws:List (List Nat)} {os:List Od} (h:Sr y ws):(t_ y ws os).length<=24:=by
 unfold t_
 rw[nC,Xl]
 exact h.all
def yo (_:PySem.W.Frag):Sp:=fun vs H Q _=> ∃(y:List Nat) (wt:Addr) (ws:List (List Nat)),vs=[.str (S y), .ref wt]/\Yd y/\y.length<=8/\Sr y ws/\H wt=some (.tup (cy ws))/\ ∀(n:Nat) H',ar H H'->2*(n:Int)=nE y ws->Q (.int n) H'
theorem DN {K:PySem.W.Frag} {vs:List V} {H:Hp} {Q:VK} {E:XK} (h:yo K vs H Q E):vs.length=2:=by obtain ⟨_,_,_,rfl,_⟩:=h;rfl
theorem one_le (p:Prop):0<=one p/\one p<=1:=by
 by_cases z:p
 ·rw[e_ z];decide
 ·rw[bg z];decide
theorem G7 {h:Int->Int} {b:Nat} (k: ∀i:Int,0<=h i/\h i<=b): ∀n:Nat,0<=sm n h/\sm n h<=(n*b:Nat)
 | 0=>by rw[Qfd];exact ⟨Qe1 _,Qe1 _⟩
 | n+1=>by
  have a:=G7 k n
  have c:=k n
  rw[Qcy]
  show 0<=sm n h+h n/\sm n h+h n<=_
  omega
theorem G8 (y w v:List Nat):0<=SS y w v/\SS y w v<=(w.length*(v.length*3):Nat):=G7 (fun i=>G7 (b:=3) (fun j=>by
 unfold bs
 have a:=one_le (ac y (aC (rd w (i - 1))) (rd w i) (aC (rd v (j - 1))) (rd v j)=true)
 have b:=one_le (fz y (sq w i) (sq v j))
 have c:=one_le (fz y (sq w i) (bq v j))
 omega) v.length) w.length
theorem Kb {y:List Nat} (hy:Yd y) (k:Nat):Tld y (y.drop k++y.take k) id false:=by
 have e:y.take k++y.drop k=y:=Qa7 k y
 have hz:Yd (y.drop k++y.take k):=hy.perm ((List.Perm.of_eq e.symm).trans Qds)
 refine ⟨hy,hz,fun a ha=>?_,fun a _ b _ q=>q,fun a _=>rfl,fun a ha b hb c hc ab ac bc=>?_⟩
 ·rw[<-e]at ha
  exact (Qaj.mp ha).elim (fun g=>Qav _ g) fun g=>Qbx _ g
 ·have g:=Nh (a:=y.take k) (b:=y.drop k) (x:=a) (y:=b) (z:=c) (by rw[e];exact hy.nd) (by rw[e];exact ha) (by rw[e];exact hb) (by rw[e];exact hc) ab ac bc
  rw[e]at g
  show My.gr _ a b c=_
  rw[g]
  cases My.gr y a b c<;>rfl
noncomputable def TY (y c:List Nat):Bool:=decide (jf y c=0)
noncomputable def TZ (y:List Nat) (cs:List (List Nat)):Bool:=decide (nE y cs=0)
theorem vY {y w:List Nat} (hw:w≠[]):0<=jf y w/\SS y w w<=jf y w:=by
 have k:1<=kr w:=by
  unfold kr
  have r:=vV hw
  rcases r with g | ⟨h1,h2,_⟩
  ·exact absurd g.1 hw
  ·have:=Nat.div_pos h2 h1
   omega
 have s:=(G8 y w w).1
 unfold jf
 omega
def om (_:PySem.W.Frag):Sp:=fun vs H Q _=> ∃(b:Addr),vs=[.ref b, .int 2, .int 4]/\bH H b/\ ∀(t:Addr) (z:List Nat) (x y:Nat) H',Yd z->4<=z.length->z.length<=8->x∈z->y∈z->x∈aP->y∈aP->x≠y->H' t=some (.tup [.str (S z), .str (S [x]), .str (S [y])])->t≠b->bH H' b->aR b H H'->Q (.ref t) H'
theorem vZ {K:PySem.W.Frag} {vs:List V} {H:Hp} {Q:VK} {E:XK} (h:om K vs H Q E):vs.length=3:=by obtain ⟨_,rfl,_⟩:=h;rfl
def yp (_:PySem.W.Frag):Sp:=fun vs H Q _=> ∃(b:Addr) (z:List Nat) (x y:Nat),vs=[.ref b, .str (S [x]), .str (S [y]), .int 12]/\bH H b/\Yd z/\x∈z/\y∈z/\x∈aP/\y∈aP/\x≠y/\ ∀(w:List Nat) H',SW z w->w.length<=12->bH H' b->aR b H H'->Q (.str (S w)) H'
theorem DO {K:PySem.W.Frag} {vs:List V} {H:Hp} {Q:VK} {E:XK} (h:yp K vs H Q E):vs.length=4:=by obtain ⟨_,_,_,_,rfl,_⟩:=h;rfl
theorem v_ (a:List Nat): ∀ls:List (List Nat),sO (.str (S a)) (cy ls)=decide (a∈ls)
 | []=>by simp[sO,cy]
 | l::ls=>by
  have ih:=v_ a ls
  have e:sO (.str (S a)) (cy (l::ls))=(A9 (.str (S l)) (.str (S a))||sO (.str (S a)) (cy ls)):=rfl
  rw[e,ih]
  have e2:A9 (.str (S l)) (.str (S a))=decide (a=l):=by
   show (S l==S a)=_
   by_cases z:a=l
   ·subst z;simp
   ·rw[decide_eq_false z]
    exact beq_eq_false_iff_ne.mpr fun q=>z (by rw[<-fD l,q,fD])
  rw[e2]
  by_cases z:a=l
  ·subst z;simp
  ·simp[z]
theorem G9 {y w:List Nat} {x u:Nat} (hy:Yd y) (hx:x∈y) (hu:u∈y) (n1:u≠aC x) (n2:x≠aC u) (hw:w≠[]) (h: ∀c∈w,c=x\/c=u):SW y w:=⟨hw,fun c hc=>(h c hc).elim (fun g=>by rw[g];exact hx) fun g=>by rw[g];exact hu,fun k q=>by
 rcases h _ (fH hw k) with a | a<;>rcases h _ (fH hw (k - 1)) with b | b<;>rw[a,b]at q
 ·exact eI (hy.lt x hx) q.symm
 ·exact n2 q
 ·exact n1 q
 ·exact eI (hy.lt u hu) q.symm⟩
noncomputable def Ly (y:List Nat) (f g:Int->Nat) (p n:Nat):Bool:=if f 0=g 0 then gr y (f (gS f g n 0)) (g (gS f g n 0)) (aC (f ((gS f g n 0:Nat) - 1))) else gr y (f 0) (g 0) p
noncomputable def G_ (y w v:List Nat) (i j:Int):Bool:=if aC (rd w (i - 1))=rd v j\/aC (rd w (i - 1))=aC (rd v (j - 1)) then false else (Ly y (sq w i) (sq v j) (aC (rd w (i - 1))) (w.length+v.length) != Ly y (sq w i) (bq v (j - 1)) (aC (rd w (i - 1))) (w.length+v.length))
theorem pL {y:List Nat} {p x b:Nat} (hy:Yd y) (hp:p∈y) (hx:x∈y) (hb:b∈y) (px:p≠x) (pb:p≠b) (xb:x≠b):gr y p b x=!gr y x b p:=by
 rw[Bs hy.nd hp hx hb px pb xb,FH hy.nd hp hx hb px pb xb]
theorem yq {y:List Nat} {f g:Int->Nat} {n:Nat} (h:f 0≠g 0\/f (-1)=g (-1)):one (0<al y f g n)=0:=bg (by unfold al;rw[if_pos h];exact Qbb 0)
theorem SD {y:List Nat} {f g:Int->Nat} {n:Nat} (h0:f 0=g 0) (h1:f (-1)≠g (-1)) (hd:f (gS f g n 0)≠g (gS f g n 0)):0<al y f g n↔gr y (aC (f (-1))) (aC (g (-1))) (f 0)=gr y (f (gS f g n 0)) (g (gS f g n 0)) (aC (f ((gS f g n 0:Nat) - 1))):=by
 unfold al
 rw[if_neg (fun z=>z.elim (fun q=>q h0) h1)]
 have hp:0<gS f g n 0:=Qfa fun z=>hd (by rw[z];exact h0)
 by_cases e:gr y (aC (f (-1))) (aC (g (-1))) (f 0)=gr y (f (gS f g n 0)) (g (gS f g n 0)) (aC (f ((gS f g n 0:Nat) - 1)))
 ·rw[if_pos e];exact ⟨fun _=>e,fun _=>hp⟩
 ·rw[if_neg e];exact ⟨fun z=>absurd z (Qbb 0),fun z=>absurd z e⟩
theorem ND {y w v:List Nat} (hy:Yd y) (hw:SW y w) (hv:SW y v) (i j:Int):one (G_ y w v i j=true)=one (ac y (aC (rd w (i - 1))) (rd w i) (aC (rd v (j - 1))) (rd v j)=true)+one (fz y (sq w i) (sq v j))+one (fz y (sq w i) (bq v (j - 1))):=by
 have ug:sq w i (-1)≠sq v j (-1)->_:=fun z=>eN (f:=sq w i) (g:=sq v j) hw.ne hv.ne (fun k=>cq w i k) (fun k=>cq v j k) z
 have uh:sq w i (-1)≠bq v (j - 1) (-1)->_:=fun z=>eN (f:=sq w i) (g:=bq v (j - 1)) hw.ne hv.ne (fun k=>cq w i k) (fun k=>kZ v (j - 1) k) z
 rw[br (tU (n:=w.length+v.length) hy (bE hw i) (bE hv j) ug),br (tU (n:=w.length+v.length) hy (bE hw i) (gL hy hv (j - 1)) uh)]
 have f0:sq w i 0=rd w i:=by unfold sq;rw[Qbs]
 have g0:sq v j 0=rd v j:=by unfold sq;rw[Qbs]
 have h0:bq v (j - 1) 0=aC (rd v (j - 1)):=by unfold bq;rw[Qdb]
 have f1:sq w i (-1)=rd w (i - 1):=rfl
 have g1:sq v j (-1)=rd v (j - 1):=rfl
 have h1:bq v (j - 1) (-1)=aC (rd v j):=by unfold bq;rw[show j - 1 - -1=j by omega]
 have lv:=hy.lt _ (hv.rd j)
 have lv1:=hy.lt _ (hv.rd (j - 1))
 have XZ:=hy.lt _ (hw.rd (i - 1))
 have hx:=hw.rd i
 have ha:=hv.rd j
 have hp:=hy.cl _ (hw.rd (i - 1))
 have hb:=hy.cl _ (hv.rd (j - 1))
 have px:aC (rd w (i - 1))≠rd w i:=Ne.symm (hw.red i)
 have ba:aC (rd v (j - 1))≠rd v j:=Ne.symm (hv.red j)
 unfold G_ ac
 by_cases pa:aC (rd w (i - 1))=rd v j
 ·rw[if_pos (.inl pa),if_pos (.inr (.inr (.inl pa.symm))),yq (.inl (by rw[f0,g0, <-pa];exact Ne.symm px)),yq (.inr (by rw[f1,h1, <-pa,aN XZ])),Qbs,Qbs]
 by_cases pb:aC (rd w (i - 1))=aC (rd v (j - 1))
 ·rw[if_pos (.inr pb),if_pos (.inl pb.symm),yq (.inr (by rw[f1,g1];exact fP XZ lv1 pb)),yq (.inl (by rw[f0,h0, <-pb];exact Ne.symm px)),Qbs,Qbs]
 rw[if_neg (fun z=>z.elim pa pb)]
 have X0:sq w i (-1)≠sq v j (-1):=fun z=>pb (by rw[f1,g1]at z;rw[z])
 have X1:sq w i (-1)≠bq v (j - 1) (-1):=fun z=>pa (by rw[f1,h1]at z;rw[z,aN lv])
 by_cases xa:rd w i=rd v j
 ·have xb:rd w i≠aC (rd v (j - 1)):=by rw[xa];exact Ne.symm ba
  have X2:sq w i 0=sq v j 0:=by rw[f0,g0,xa]
  rw[if_pos (.inr (.inr (.inr xa.symm))),yq (g:=bq v (j - 1)) (.inl (by rw[f0,h0];exact xb)),br (SD X2 X0 (ug X0).2)]
  unfold Ly
  rw[if_pos X2,if_neg (by rw[f0,h0];exact xb),f0,h0,f1,g1,pL hy hp hx hb px pb xb]
  generalize gr y (rd w i) (aC (rd v (j - 1))) (aC (rd w (i - 1)))=G
  generalize gr y (sq w i _) _ _=A
  rw[bg (p:=false=true) Qaq,Qcg,Qbs]
  exact br (by cases G<;>cases A<;>simp)
 by_cases xb:rd w i=aC (rd v (j - 1))
 ·have X3:sq w i 0=bq v (j - 1) 0:=by rw[f0,h0,xb]
  rw[if_pos (.inr (.inl xb.symm)),yq (g:=sq v j) (.inl (by rw[f0,g0];exact xa)),br (SD X3 X1 (uh X1).2)]
  unfold Ly
  rw[if_pos X3,if_neg (by rw[f0,g0];exact xa),f0,g0,f1,h1,aN lv,pL hy hp hx ha px pa xa]
  generalize gr y (rd w i) (rd v j) (aC (rd w (i - 1)))=G
  generalize gr y (sq w i _) _ _=A
  rw[bg (p:=false=true) Qaq,Qcg,Qcg]
  exact br (by cases G<;>cases A<;>simp)
 rw[if_neg (fun z=>by rcases z with z | z | z | z;exact pb z.symm;exact xb z.symm;exact pa z.symm;exact xa z.symm),yq (g:=sq v j) (.inl (by rw[f0,g0];exact xa)),yq (g:=bq v (j - 1)) (.inl (by rw[f0,h0];exact xb))]
 unfold Ly
 rw[if_neg (by rw[f0,g0];exact xa),if_neg (by rw[f0,h0];exact xb),f0,g0,h0,pL hy hp hx hb px pb xb,pL hy hp hx ha px pa xa,Qbs,Qbs]
 generalize gr y (rd w i) (aC (rd v (j - 1))) (aC (rd w (i - 1)))=G
 generalize gr y (rd w i) (rd v j) (aC (rd w (i - 1)))=A
 exact br (by cases G<;>cases A<;>simp)
theorem Kc {y w v:List Nat} (hy:Yd y) (hw:SW y w) (hv:SW y v):cA w.length v.length (fun i j=>one (G_ y w v i j=true))=SS y w v:=by
 rw[show cA w.length v.length (fun i j=>one (G_ y w v i j=true))=cA w.length v.length (fun i j=>(one (ac y (aC (rd w (i - 1))) (rd w i) (aC (rd v (j - 1))) (rd v j)=true)+one (fz y (sq w i) (sq v j)))+one (fz y (sq w i) (bq v (j - 1)))) from bO fun i j _ _=>ND hy hw hv i j,cx]
 rw[show cA w.length v.length (fun i j=>one (fz y (sq w i) (bq v (j - 1))))=cA w.length v.length (fun i j=>one (fz y (sq w i) (bq v j))) from aX fun i _=>mj (h:=fun j=>one (fz y (sq w i) (bq v j))) fun k=>by rw[k_], <-cx]
 rfl
def jU (H:Hp) (p:Addr) (w:List Nat) (f:Int->Nat):Prop:= ∃i d:Int,H p=some (.tup [.str (S []), .str (S w), .int i, .int d])/\((d=1/\f=sq w i)\/(d= -1/\f=bq w (i - 1)))
theorem jU.same {H H':Hp} {p:Addr} {w:List Nat} {f:Int->Nat} (h:jU H p w f) (s:ar H H'):jU H' p w f:=by
 obtain ⟨i,d,e,r⟩:=h
 exact ⟨i,d,s p _ e,r⟩
def Ij (w:List Nat):Prop:=w≠[]/\(∀c∈w,Lt c)/\w.length<=1000
theorem jU.lt {H:Hp} {p:Addr} {w:List Nat} {f:Int->Nat} (h:jU H p w f) (l:Ij w) (k:Int):Lt (f k):=by
 obtain ⟨i,d,_,r⟩:=h
 rcases r with ⟨_,rfl⟩ | ⟨_,rfl⟩
 ·exact l.2.1 _ (fH l.1 _)
 ·exact (l.2.1 _ (fH l.1 _)).aC
def B6 (_:PySem.W.Frag):Sp:=fun vs H Q _=> ∃(w:List Nat) (i d:Int),vs=[.str (S w), .int i, .int d]/\ ∀p,H p=none->Q (.ref p) (upd H p (.tup [.str (S []), .str (S w), .int i, .int d]))
theorem Ha {K:PySem.W.Frag} {vs:List V} {H:Hp} {Q:VK} {E:XK} (h:B6 K vs H Q E):vs.length=3:=by obtain ⟨_,_,_,rfl,_⟩:=h;rfl
def qF (_:PySem.W.Frag):Sp:=fun vs H Q _=> ∃(p:Addr) (w:List Nat) (f:Int->Nat) (k:Nat),vs=[.ref p, .int k]/\jU H p w f/\Ij w/\Q (.str (S [f k])) H
theorem yt {K:PySem.W.Frag} {vs:List V} {H:Hp} {Q:VK} {E:XK} (h:qF K vs H Q E):vs.length=2:=by obtain ⟨_,_,_,_,rfl,_⟩:=h;rfl
def qG (_:PySem.W.Frag):Sp:=fun vs H Q _=> ∃(p q:Addr) (w v:List Nat) (f g:Int->Nat) (n:Nat),vs=[.ref p, .ref q, .int 0]/\jU H p w f/\jU H q v g/\Ij w/\Ij v/\f 0=g 0/\f (gS f g n 0)≠g (gS f g n 0)/\ ∀t,H t=none->Q (.ref t) (upd H t (.tup [.int (gS f g n 0:Nat), .str (S [aC (f ((gS f g n 0:Nat) - 1))])]))
theorem yv {K:PySem.W.Frag} {vs:List V} {H:Hp} {Q:VK} {E:XK} (h:qG K vs H Q E):vs.length=3:=by obtain ⟨_,_,_,_,_,_,_,rfl,_⟩:=h;rfl
def uj (_:PySem.W.Frag):Sp:=fun vs H Q _=> ∃(y:List Nat) (p q r:Addr) (w v u:List Nat) (f g h:Int->Nat) (n:Nat),vs=[.str (S y), .ref p, .ref q, .ref r]/\Yd y/\y.length<=8/\jU H p w f/\jU H q v g/\jU H r u h/\Ij w/\Ij v/\Ij u/\(∀k,f k∈y)/\(∀k,g k∈y)/\(∀k,h k∈y)/\f 0≠h 0/\g 0≠h 0/\(f 0=g 0->f (gS f g n 0)≠g (gS f g n 0))/\ ∀H',ar H H'->Q (.bl (Ly y f g (h 0) n)) H'
theorem Ax {K:PySem.W.Frag} {vs:List V} {H:Hp} {Q:VK} {E:XK} (h:uj K vs H Q E):vs.length=4:=by obtain ⟨_,_,_,_,_,_,_,_,_,_,_,rfl,_⟩:=h;rfl
def uk (_:PySem.W.Frag):Sp:=fun vs H Q _=> ∃(y w v:List Nat) (i j:Nat),vs=[.str (S y), .str (S w), .int i, .str (S v), .int j]/\Yd y/\y.length<=8/\SW y w/\w.length<=12/\SW y v/\v.length<=12/\ ∀H',ar H H'->Q (.bl (G_ y w v i j)) H'
theorem Ay {K:PySem.W.Frag} {vs:List V} {H:Hp} {Q:VK} {E:XK} (h:uk K vs H Q E):vs.length=5:=by obtain ⟨_,_,_,_,_,rfl,_⟩:=h;rfl
def B7 (_:PySem.W.Frag):Sp:=fun vs H Q _=> ∃(y w:List Nat),vs=[.str (S y), .str (S w)]/\Yd y/\y.length<=8/\SW y w/\w.length<=12/\ ∀(n:Nat) H',ar H H'->(n:Int)=SS y w w / 2+kr w - 1->Q (.int n) H'
theorem Hb {K:PySem.W.Frag} {vs:List V} {H:Hp} {Q:VK} {E:XK} (h:B7 K vs H Q E):vs.length=2:=by obtain ⟨_,_,rfl,_⟩:=h;rfl
structure SE (y w c:List Nat):Prop where
 lt: ∀l∈w,Lt l
 lV:w.length<=100
 is:core (red w)=c
 sw:c=[]\/SW y c
 len:c.length<=12
noncomputable def NF (y c:List Nat):Bool:=!decide (c=[])&&TY y c
def qH (_:PySem.W.Frag):Sp:=fun vs H Q _=> ∃(y w c:List Nat),vs=[.str (S y), .str (S w)]/\Yd y/\y.length<=8/\SE y w c/\(SW y c-> ∃k:Nat,2*(k:Int)=jf y c)/\ ∀H',ar H H'->Q (.bl (NF y c)) H'
theorem yx {K:PySem.W.Frag} {vs:List V} {H:Hp} {Q:VK} {E:XK} (h:qH K vs H Q E):vs.length=2:=by obtain ⟨_,_,_,rfl,_⟩:=h;rfl
def kJ (_:PySem.W.Frag):Sp:=fun vs H Q _=> ∃l:List Nat,vs=[.str (S l)]/\(∀c∈l,Lt c)/\l.length<=10000/\ ∀H',ar H H'->Q (.str (S (red l))) H'
theorem qI {K:PySem.W.Frag} {vs:List V} {H:Hp} {Q:VK} {E:XK} (h:kJ K vs H Q E):vs.length=1:=by obtain ⟨_,rfl,_⟩:=h;rfl
def mE (_:PySem.W.Frag):Sp:=fun vs H Q _=> ∃l:List Nat,vs=[.str (S l)]/\(∀c∈l,Lt c)/\l.length<=1000/\ ∀H',ar H H'->Q (.str (S (core (red l)))) H'
theorem rW {K:PySem.W.Frag} {vs:List V} {H:Hp} {Q:VK} {E:XK} (h:mE K vs H Q E):vs.length=1:=by obtain ⟨_,rfl,_⟩:=h;rfl
theorem Hc (g:Int->Bool): ∀n:Nat,((((List.range n).map fun j:Nat=>g j).countP id:Nat):Int)=sm n fun b=>one (g b=true)
 | 0=>rfl
 | n+1=>by
  rw[Qbo,Qaa,List.countP_append,Qa8,Hc g n]
  show _=sm n _+one (g n=true)
  congr 1
  show ((List.countP id [g n]:Nat):Int)=_
  cases g n
  ·rw[bg (by decide)];rfl
  ·rw[e_ rfl];rfl
theorem Az {h:Int->Int} (p: ∀i,0<=h i): ∀n:Nat,0<=sm n h
 | 0=>Qe1 0
 | n+1=>Int.add_nonneg (Az p n) (p _)
theorem yy: ∀(l st:List Nat) {x:Nat},x∈l.foldl dS st->x∈st\/x∈l
 | [],_,_,h=> .inl h
 | a::l,st,x,h=>by
  rcases yy l (dS st a) h with g | g
  ·rcases tI g with g | g
   ·exact .inl g
   ·exact .inr (by rw[g];exact Zu)
  ·exact .inr (Xn _ g)
theorem B8 {w:List Nat} {x:Nat} (h:x∈red w):x∈w:=(yy w [] h).resolve_left Qag
theorem B9: ∀{l:List Nat},j9 l-> ∀k a b,l[k]? =some a->l[k+1]? =some b->a≠aC b
 | [],_,k,a,b,h1,_=>by simp at h1
 | [x],_,k,a,b,_,h2=>by simp at h2
 | x::z::r,h,0,a,b,h1,h2=>by
  cases Qaf h1
  cases Qaf h2
  exact h.1
 | x::z::r,h,k+1,a,b,h1,h2=>B9 (l:=z::r) h.2 k a b h1 h2
theorem B_ {y r:List Nat} (hy:Yd y) (hr:j9 r) (hl: ∀c∈r,c∈y):core r=[]\/SW y (core r):=by
 by_cases z:core r=[]
 ·exact .inl z
 refine .inr (SW.of z (fun c hc=>hl c (ql hc)) (fun k a b h1 h2 e=>?_) fun a b h1 h2 e=>?_)
 ·have ia:=hy.lt a (hl a (ql (Qah h1)))
  exact B9 (Fz hr) k a b h1 h2 (by rw[e,aN ia])
 ·have cc:=Dm r
  have lb:Lt b:=hy.lt b (hl b (ql (List.mem_of_getLast? h2)))
  by_cases q:(core r).length<2
  ·have ha:a=b:=by
    clear cc
    generalize core r=g at h1 h2 q
    rcases g with _ | ⟨x,_ | ⟨x2,t⟩⟩
    ·simp at h1
    ·simp at h1 h2;rw[<-h1, <-h2]
    ·simp at q;omega
   rw[ha]at e
   exact absurd e.symm (eI lb)
  ·obtain ⟨a',m,b',em⟩:=Bp (l:=core r) (by omega)
   rw[em]at h1 h2 cc
   have e1:a'=a:=by simpa using h1
   have e2:b'=b:=by
    have:(a'::(m++[b'])).getLast? =some b':=by rw[<-Qfp,List.getLast?_append];simp
    rw[this]at h2
    exact Qaf h2
   rw[o_ (by rw[e1,e2];exact e)]at cc
   have:=jz m
   rw[cc]at this
   simp at this
   omega
theorem Kd {y l:List Nat} (hy:Yd y) (hl: ∀c∈l,c∈y) (hz:l.length<=12):SE y l (core (red l)):=
 ⟨fun c hc=>hy.lt c (hl c hc),by omega,rfl,B_ hy (Bo l) fun c hc=>hl c (B8 hc),Qao (jz _) (Qao (gx l) hz)⟩
theorem NG {y w:List Nat} (hy:Yd y) (h:SW y w) (hz:w.length<=12):SE y w w:=⟨fun l hl=>hy.lt l (h.bW l hl),by omega,h.core hy, .inr h,hz⟩
theorem Yd.same {y z:List Nat} (h:Yd y) (p:List.Perm y z):Yd z:=⟨p.nodup_iff.mp h.nd,fun c hc=>h.lt c (p.mem_iff.mpr hc),fun c hc=>p.mem_iff.mp (h.cl c (p.mem_iff.mpr hc))⟩
theorem Ke {p q:Nat} {r:List Nat} (h:Yd (p::q::r)):Yd ([q]++[p]++r):=h.same (List.Perm.swap q p r)
theorem um {α:Type} [DecidableEq α] (φ:α->α): ∀(n:Nat) (l:List α),l.length<=n->l.Nodup->(∀x∈l,φ x∈l/\φ (φ x)=x/\φ x≠x)->l.length%2=0
 | _,[],_,_,_=>rfl
 | 0,x::t,h,_,_=>absurd h (by simp)
 | n+1,x::t,h,hn,hp=>by
  obtain ⟨h1,h2,h3⟩:=hp x Zu
  have m1:φ x∈t:=(Zv.mp h1).resolve_left h3
  have T1:=(Qaz.mp hn).2
  have hxt:=(Qaz.mp hn).1
  have len:(t.erase (φ x)).length=t.length - 1:=List.length_erase_of_mem m1
  have pos:=List.length_pos_of_mem m1
  have ih:=um φ n (t.erase (φ x)) (by rw[len];simp at h;omega) (T1.erase _) fun z hz=>by
   have z1:=List.mem_of_mem_erase hz
   have z2:z≠φ x:=fun e=>by rw[e]at hz;exact (T1.mem_erase_iff.mp hz).1 rfl
   have z3:z≠x:=fun e=>hxt (by rw[<-e];exact z1)
   obtain ⟨g1,g2,g3⟩:=hp z (Xn _ z1)
   have k1:φ z≠x:=fun e=>z2 (by rw[<-e,g2])
   have k2:φ z≠φ x:=fun e=>z3 (by rw[<-g2,e,h2])
   exact ⟨T1.mem_erase_iff.mpr ⟨k2,(Zv.mp g1).resolve_left k1⟩,g2,g3⟩
  rw[Qay]
  omega
theorem SF (w:List Nat) (x:Int):sq w (x%(w.length:Int))=sq w x:=by
 funext k
 unfold sq rd
 rw[Qc5]
theorem SG (w:List Nat) (x:Int):bq w (x%(w.length:Int))=bq w x:=by
 funext k
 unfold bq rd
 rw[Qfc,Qc5, <-Qfc]
theorem Kf {y w:List Nat} (hy:Yd y) (hw:SW y w) {i j:Int} {a:Nat} (r:Run (sq w i) (bq w j) a 0) (x:gY y (sq w i) (bq w j) a≠g_ y (sq w i) (bq w j) 0):fz y (sq w (j - a)) (bq w (i+a))/\Run (sq w (j - a)) (bq w (i+a)) a 0:=by
 have F: ∀k,sq w (i+a) k=sq w i (k+a):=fun k=>by unfold sq;congr 1;omega
 have G: ∀k,bq w (j - a) k=bq w j (k+a):=fun k=>by unfold bq;congr 2;omega
 have rE:Run (sq w (i+a)) (bq w (j - a)) 0 a:=⟨fun k h1 h2=>by
  rw[F,G]
  exact r.og _ (by omega) (by omega),by
  rw[F,G,show ((0:Nat):Int)+1+a=a+1 by omega]
  exact r.hi,by
  rw[F,G,show -(a:Int) - 1+a= -((0:Nat):Int) - 1 by omega]
  exact r.lo⟩
 have sF: ∀k,eQ y (sq w (i+a)) k=eQ y (sq w i) (k+a):=fun k=>by
  unfold eQ
  rw[F,F,show k - 1+(a:Int)=k+a - 1 by omega]
 have sG: ∀k,eQ y (bq w (j - a)) k=eQ y (bq w j) (k+a):=fun k=>by
  unfold eQ
  rw[G,G,show k - 1+(a:Int)=k+a - 1 by omega]
 have en:Nb y (sq w (i+a)) (bq w (j - a)):=⟨a,rE,by
  unfold gY g_
  rw[sF,sG,sF,sG,show ((0:Nat):Int)+1+a=a+1 by omega,show -(a:Int)+a= -((0:Nat):Int) by omega]
  exact x⟩
 have b:=(Lp hy (bE hw _) (gL hy hw _)).mp en
 rw[Gk hy hw,ff]at b
 have rr:=(rE.rv hy (bE hw _) (gL hy hw _)).sy
 rw[Gk hy hw,ff]at rr
 exact ⟨b,rr⟩
theorem Ca (h:Int->Int) (a:Nat): ∀b:Nat,sm (a+b) h=sm a h+sm b fun j=>h (a+j)
 | 0=>by show sm a h=sm a h+0;omega
 | b+1=>by
  show sm (a+b) h+h ((a+b:Nat):Int)=sm a h+(sm b (fun j=>h (a+j))+h (a+b))
  rw[Ca h a b,Qa8]
  omega
theorem Cb (n:Nat) (f:Nat->Nat->Int): ∀m:Nat,sm (m*n) (fun c=>f (c.toNat / n) (c.toNat%n))=sm m fun i=>sm n fun j=>f i.toNat j.toNat
 | 0=>by rw[Qfd];rfl
 | m+1=>by
  rw[Qcy,Ca,Cb n f m]
  show _=sm m _+sm n _
  congr 1
  refine aX fun j hj=>?_
  rw[show ((m*n:Nat):Int)+(j:Int)=((m*n+j:Nat):Int) by omega,Xo,Xo,Xo,Qbu m n,Qfs (by omega),Qfl hj,Qet,Qb0 hj]
  rfl
open Classical in
theorem Hd (p:Nat->Prop): ∀n:Nat,sm n (fun c=>one (p c.toNat))=(((List.range n).filter fun c=>decide (p c)).length:Int)
 | 0=>rfl
 | n+1=>by
  rw[Qbo,Qcp,Oy,Qa8, <-Hd p n]
  show sm n _+one (p ((n:Int)).toNat)=_
  rw[Xo]
  congr 1
  by_cases z:p n
  ·rw[e_ z];simp[z]
  ·rw[bg z];simp[z]
theorem He {y w:List Nat} (hy:Yd y) (hw:SW y w) {i j:Int} {a:Nat} (r:Run (sq w i) (bq w j) a 0) (e:j%(w.length:Int)=(i+a)%(w.length:Int)):False:=by
 have key: ∀k:Nat,k<=a->rd w (i+k)=aC (rd w (i+a - k)):=fun k hk=>by
  have h:=r.og k (by omega) (by omega)
  unfold sq bq at h
  rw[h, <-gK w (j - k), <-gK w (i+a - k)]
  congr 2
  rw[Qd5,e, <-Qd5]
 rcases Nat.mod_two_eq_zero_or_one a with z | z
 ·have k1:=key (a / 2) (by omega)
  rw[show i+(a:Int) - ((a / 2:Nat):Int)=i+((a / 2:Nat):Int) by omega]at k1
  exact eI (hy.lt _ (hw.rd _)) k1.symm
 ·have k1:=key (a / 2+1) (by omega)
  rw[show i+(a:Int) - ((a / 2+1:Nat):Int)=i+((a / 2+1:Nat):Int) - 1 by omega]at k1
  exact hw.red _ k1
open Classical in
noncomputable def jg (y w:List Nat) (i j:Int):Nat:=if h:fz y (sq w i) (bq w j) then h.choose else 0
theorem Cc {y w:List Nat} {i j:Int} (h:fz y (sq w i) (bq w j)):Run (sq w i) (bq w j) (jg y w i j) 0/\gY y (sq w i) (bq w j) (jg y w i j)≠g_ y (sq w i) (bq w j) 0:=by
 unfold jg
 rw[dif_pos h]
 exact h.choose_spec
noncomputable def mF (y w:List Nat) (c:Nat):Nat:=(((c%w.length:Nat) - jg y w (c / w.length:Nat) (c%w.length:Nat):Int)%(w.length:Int)).toNat*w.length+(((c / w.length:Nat)+jg y w (c / w.length:Nat) (c%w.length:Nat):Int)%(w.length:Int)).toNat
theorem Kg {y w:List Nat} (hy:Yd y) (hw:SW y w) {c:Nat} (hc:c<w.length*w.length) (h:fz y (sq w (c / w.length:Nat)) (bq w (c%w.length:Nat))):
  mF y w c<w.length*w.length/\fz y (sq w (mF y w c / w.length:Nat)) (bq w (mF y w c%w.length:Nat))/\mF y w (mF y w c)=c/\mF y w c≠c:=by
 have hn:=Zs.mpr hw.ne
 have key: ∀(i j:Nat),i<w.length->j<w.length->(hb:fz y (sq w i) (bq w j))-> ∃i' j':Nat,i'<w.length/\j'<w.length/\mF y w (i*w.length+j)=i'*w.length+j'/\fz y (sq w i') (bq w j')/\((i':Int)=(j - jg y w i j)%(w.length:Int))/\((j':Int)=(i+jg y w i j)%(w.length:Int))/\jg y w i' j'=jg y w i j/\(i',j')≠(i,j):=fun i j hi hj hb=>by
  obtain ⟨r,x⟩:=Cc hb
  obtain ⟨b2,r2⟩:=Kf hy hw r x
  have m1:=Qbt ((j:Int) - jg y w i j) (show (w.length:Int)≠0 by omega)
  have m2:=Qbm ((j:Int) - jg y w i j) (show (0:Int)<w.length by omega)
  have m3:=Qbt ((i:Int)+jg y w i j) (show (w.length:Int)≠0 by omega)
  have m4:=Qbm ((i:Int)+jg y w i j) (show (0:Int)<w.length by omega)
  obtain ⟨i',ei⟩: ∃i':Nat,(i':Int)=((j:Int) - jg y w i j)%(w.length:Int):=⟨_,Qd3 m1⟩
  obtain ⟨j',ej⟩: ∃j':Nat,(j':Int)=((i:Int)+jg y w i j)%(w.length:Int):=⟨_,Qd3 m3⟩
  have si:sq w i'=sq w (j - jg y w i j):=by rw[ei,SF]
  have sj:bq w j'=bq w (i+jg y w i j):=by rw[ej,SG]
  rw[<-si, <-sj]at b2 r2
  refine ⟨i',j',by omega,by omega,?_,b2,ei,ej,((Cc b2).1.one r2).1,fun e=>?_⟩
  ·unfold mF
   have d1:(i*w.length+j) / w.length=i:=by rw[Qbu,Qfs hn,Qfl hj,Qeq]
   have d2:(i*w.length+j)%w.length=j:=by rw[Qbu,Qet,Qb0 hj]
   rw[d1,d2, <-ei, <-ej,Xo,Xo]
  ·have e2:j'=j:=congrArg Prod.snd e
   refine He hy hw r ?_
   rw[<-ej,e2]
   exact Qax (by omega) (by omega)
 have hi:c / w.length<w.length:=Nat.div_lt_of_lt_mul hc
 have hj:=Qcz c hn
 have ec:c / w.length*w.length+c%w.length=c:=by rw[Qbu];exact Qdh c w.length
 obtain ⟨i',j',ko,Ei,e,b2,ei,ej,ea,ne⟩:=key _ _ hi hj h
 rw[ec]at e
 have d1:(i'*w.length+j') / w.length=i':=by rw[Qbu,Qfs hn,Qfl Ei,Qeq]
 have d2:(i'*w.length+j')%w.length=j':=by rw[Qbu,Qet,Qb0 Ei]
 obtain ⟨i2,j2,OH,hj2,e2,_,X4,X5,_,_⟩:=key i' j' ko Ei b2
 rw[e]
 refine ⟨?_,by rw[d1,d2];exact b2,?_,fun z=>ne ?_⟩
 ·have:i'*w.length+w.length<=w.length*w.length:=by
   rw[<-Qcy];exact Nat.mul_le_mul_right _ ko
  omega
 ·rw[e2]
  rw[ea]at X4 X5
  generalize jg y w _ _=a at*
  have q1:(i2:Int)=((c / w.length:Nat):Int):=by
   rw[X4,ej,Qfc,Qc5,show ((c / w.length:Nat):Int)+(a:Int)+ -(a:Int)=((c / w.length:Nat):Int) by omega]
   exact Qax (Qdk _) (Qfk.mpr hi)
  have q2:(j2:Int)=((c%w.length:Nat):Int):=by
   rw[X5,ei,Qc5,show ((c%w.length:Nat):Int) - (a:Int)+a=((c%w.length:Nat):Int) by omega]
   exact Qax (Qdk _) (Qfk.mpr hj)
  have q3:i2=c / w.length:=Int.ofNat.inj q1
  have q4:j2=c%w.length:=Int.ofNat.inj q2
  rw[q3,q4,ec]
 ·exact Prod.ext (d1.symm.trans (by rw[z])) (d2.symm.trans (by rw[z]))
open Classical in
theorem wa {y w:List Nat} (hy:Yd y) (hw:SW y w): ∃k:Int,cA w.length w.length (fun i j=>one (fz y (sq w i) (bq w j)))=2*k:=by
 have e1:cA w.length w.length (fun i j=>one (fz y (sq w i) (bq w j)))=sm w.length fun i=>sm w.length fun j=>(fun i j:Nat=>one (fz y (sq w i) (bq w j))) i.toNat j.toNat:=bO fun i j _ _=>by
  show _=one (fz y (sq w ((i:Int).toNat:Nat)) (bq w ((j:Int).toNat:Nat)))
  rw[Xo,Xo]
 rw[e1.trans (Cb w.length (fun i j:Nat=>one (fz y (sq w i) (bq w j))) w.length).symm]
 rw[Hd fun c=>fz y (sq w (c / w.length:Nat)) (bq w (c%w.length:Nat))]
 have ev:=um (mF y w) _ (Tz _) (Qfn.filter fun c=> @decide (fz y (sq w (c / w.length:Nat)) (bq w (c%w.length:Nat))) (Classical.propDecidable _)) (l:=(List.range (w.length*w.length)).filter fun c=> @decide (fz y (sq w (c / w.length:Nat)) (bq w (c%w.length:Nat))) (Classical.propDecidable _)) fun x hx=>by
  obtain ⟨h1,h2⟩:=Qa0.mp hx
  obtain ⟨t1,t2,t3,t4⟩:=Kg hy hw (Qbl.mp h1) (of_decide_eq_true h2)
  exact ⟨Qa0.mpr ⟨Qbl.mpr t1,decide_eq_true t2⟩,t3,t4⟩
 generalize List.length (List.filter _ _)=n at ev ⊢
 exact ⟨((n / 2:Nat):Int),by omega⟩
theorem Kh {y w:List Nat} (hy:Yd y) (hw:SW y w): ∃k:Int,SS y w w=2*k:=by
 obtain ⟨k,hk⟩:=wa hy hw
 have p1:cA w.length w.length (fun i j=>one (ac y (aC (rd w (i - 1))) (rd w i) (aC (rd w (j - 1))) (rd w j)=true))=2*qu w.length (fun i j=>one (ac y (aC (rd w (i - 1))) (rd w i) (aC (rd w (j - 1))) (rd w j)=true)):=pA (fun i j _ _=>by
  obtain ⟨a1,a2,a3⟩:=JS hy hw i
  obtain ⟨b1,b2,b3⟩:=JS hy hw j
  rw[Gd hy a1 a2 b1 b2 a3 b3]) (fun i _=>bg (by unfold ac;rw[if_pos (.inl rfl)];decide))
 have p2:cA w.length w.length (fun i j=>one (fz y (sq w i) (sq w j)))=2*qu w.length (fun i j=>one (fz y (sq w i) (sq w j))):=pA (fun i j _ _=>br (vN hy (bE hw _) (bE hw _))) (fun i _=>bg fun ⟨a,r,_⟩=>r.lo rfl)
 have e:SS y w w=cA w.length w.length (fun i j=>one (ac y (aC (rd w (i - 1))) (rd w i) (aC (rd w (j - 1))) (rd w j)=true))+cA w.length w.length (fun i j=>one (fz y (sq w i) (sq w j)))+cA w.length w.length (fun i j=>one (fz y (sq w i) (bq w j))):=by
  rw[<-cx, <-cx]
  rfl
 rw[e,p1,p2,hk]
 exact ⟨_,(by rw[<-Int.mul_add, <-Int.mul_add])⟩
theorem Hf {y w:List Nat} (hy:Yd y) (hw:SW y w): ∃k:Nat,2*(k:Int)=jf y w:=by
 obtain ⟨k,hk⟩:=Kh hy hw
 have h0:=(vY (y:=y) hw.ne).1
 refine ⟨(k+(kr w - 1)).toNat,?_⟩
 unfold jf at h0 ⊢
 omega
theorem uo {y:List Nat} {cs:List (List Nat)} {k:Nat} (h:k<cs.length):nE y (cs.take (k+1))=nE y (cs.take k)+jf y (cs.getD k [])+2*sm k (fun d=>SS y (cs.getD d.toNat []) (cs.getD k [])):=by
 have g: ∀(m i:Nat),i<m->(cs.take m).getD i []=cs.getD i []:=fun m i hi=>by
  rw[kb,kb,Qdj,if_pos hi]
 have e1:(cs.take (k+1)).length=k+1:=by rw[Qae];omega
 have e0:(cs.take k).length=k:=by rw[Qae];omega
 unfold nE
 rw[e1,e0]
 have a:sm (k+1) (fun c=>jf y ((cs.take (k+1)).getD c.toNat []))=sm k (fun c=>jf y ((cs.take k).getD c.toNat []))+jf y (cs.getD k []):=by
  show sm k _+jf y ((cs.take (k+1)).getD ((k:Int).toNat) [])=_
  rw[Xo,g (k+1) k (by omega)]
  congr 1
  exact aX fun i hi=>by
   show jf y ((cs.take (k+1)).getD ((i:Int).toNat) [])=jf y ((cs.take k).getD ((i:Int).toNat) [])
   rw[Xo,g (k+1) i (by omega),g k i hi]
 have b:qu (k+1) (fun c d=>SS y ((cs.take (k+1)).getD c.toNat []) ((cs.take (k+1)).getD d.toNat []))=qu k (fun c d=>SS y ((cs.take k).getD c.toNat []) ((cs.take k).getD d.toNat []))+sm k (fun d=>SS y (cs.getD d.toNat []) (cs.getD k [])):=by
  show qu k _+sm k (fun i=>SS y ((cs.take (k+1)).getD i.toNat []) ((cs.take (k+1)).getD ((k:Int).toNat) []))=_
  congr 1
  ·exact ke fun i j hi hj=>by
    show SS y ((cs.take (k+1)).getD ((i:Int).toNat) []) ((cs.take (k+1)).getD ((j:Int).toNat) [])=SS y ((cs.take k).getD ((i:Int).toNat) []) ((cs.take k).getD ((j:Int).toNat) [])
    rw[Xo,Xo,g (k+1) i (by omega),g k i (by omega),g (k+1) j (by omega),g k j (by omega)]
  ·exact aX fun i hi=>by
    show SS y ((cs.take (k+1)).getD ((i:Int).toNat) []) ((cs.take (k+1)).getD ((k:Int).toNat) [])=SS y (cs.getD ((i:Int).toNat) []) (cs.getD k [])
    rw[Xo,Xo,g (k+1) i (by omega),g (k+1) k (by omega)]
 rw[a,b]
 omega
noncomputable def yA (y:List Nat) (cs:List (List Nat)):Bool:=!decide ([]∈cs)&&TZ y cs
theorem uq {y:List Nat} {cs:List (List Nat)} (h: ∀c∈cs,SW y c): ∀{m k:Nat},k+m<=cs.length->nE y (cs.take k)<=nE y (cs.take (k+m))
 | 0,k,_=>Qe1 _
 | m+1,k,hk=>by
  have a:=uq h (m:=m) (k:=k) (by omega)
  have hx:k+m<cs.length:=by omega
  have e:=uo (y:=y) hx
  have ci:cs.getD (k+m) []∈cs:=getD_in hx
  have o:=(vY (y:=y) (h _ ci).ne).1
  have p:0<=sm (k+m) (fun d=>SS y (cs.getD d.toNat []) (cs.getD (k+m) [])):=Az (fun i=>(G8 y _ _).1) _
  rw[<-Nat.add_assoc,e]
  omega
theorem Hg {y:List Nat} {cs:List (List Nat)} {k:Nat} (h: ∀c∈cs,c=[]\/SW y c) (hk:k<=cs.length) (p:0<nE y (cs.take k)):yA y cs=false:=by
 unfold yA
 by_cases z:[]∈cs
 ·rw[decide_eq_true z];rfl
 ·have hs: ∀c∈cs,SW y c:=fun c hc=>(h c hc).resolve_left fun e=>z (by rw[<-e];exact hc)
  have m:=uq hs (k:=k) (m:=cs.length - k) (by omega)
  rw[show k+(cs.length - k)=cs.length by omega,Qbp]at m
  rw[decide_eq_false z]
  unfold TZ
  exact decide_eq_false (by omega)
theorem Cd {y:List Nat} {cs:List (List Nat)} (h:[]∈cs):yA y cs=false:=by
 unfold yA
 rw[decide_eq_true h]
 rfl
theorem Ce {y:List Nat} {cs:List (List Nat)} (h:[]∉cs) (p:nE y cs=0):yA y cs=true:=by
 unfold yA TZ
 rw[decide_eq_false h,decide_eq_true p]
 rfl
noncomputable def cr (w:List Nat):List Nat:=core (red w)
structure ur (y:List Nat) (ws:List (List Nat)):Prop where
 bW: ∀w∈ws,(∀c∈w,c∈y)/\w.length<=12
 lV:ws.length<=4
 all:(places ws).length<=24
theorem Hh {y w:List Nat} (hy:Yd y) (h: ∀c∈w,c∈y):cr w=[]\/SW y (cr w):=B_ hy (Bo w) fun c hc=>h c (B8 hc)
theorem wb (w:List Nat):(cr w).length<=w.length:=Qao (jz _) (gx w)
theorem NH (ws:List (List Nat)):(places (ws.map cr)).length<=(places ws).length:=by
 unfold places
 rw[Xl]
 suffices h: ∀n,(rF (ws.map cr) n).length<=(rF ws n).length from h _
 intro n
 induction n with
 | zero=>exact Tz _
 | succ n ih=>
  show (rF (ws.map cr) n++(List.range ((ws.map cr).getD n []).length).map fun i=>(n,i)).length<=(rF ws n++(List.range (ws.getD n []).length).map fun i=>(n,i)).length
  rw[Oy,Oy,Xl,Xl,Qce,Qce]
  have e:((ws.map cr).getD n []).length<=(ws.getD n []).length:=by
   rw[kb,kb,Qak]
   cases ws[n]? with
   | none=>exact Tz _
   | some w=>exact wb w
  omega
theorem ur.sh {y:List Nat} {ws:List (List Nat)} (hy:Yd y) (h:ur y ws): ∀w∈ws,SE y w (cr w):=fun w hw=>Kd hy (h.bW w hw).1 (h.bW w hw).2
theorem ur.wsk {y:List Nat} {ws:List (List Nat)} (hy:Yd y) (h:ur y ws) (n:[]∉ws.map cr):Sr y (ws.map cr):=⟨fun c hc=>by
  obtain ⟨w,hw,rfl⟩:=Qau.mp hc
  exact ⟨(Hh hy (h.bW w hw).1).resolve_left fun e=>n (by rw[<-e];exact hc),Qao (wb w) (h.bW w hw).2⟩,by rw[Xl];exact h.lV,Qao (NH ws) h.all⟩
theorem qJ (l:List Nat):(bN l).all i3=true:=by unfold bN;rw[List.all_map,Qb9];intro x _;rfl
theorem Hi (l:List Nat):(yT l).all i3=true:=by unfold yT;rw[List.all_map,Qb9];intro x _;rfl
theorem wc (e:Nat): ∀l:List Nat,sO (.int (e:Nat)) (yT l)=decide (e∈l)
 | []=>by simp[sO,yT]
 | c::l=>by
  have ih:=wc e l
  show (A9 (.int (c:Nat)) (.int (e:Nat))||sO (.int (e:Nat)) (yT l))=_
  rw[ih]
  have key:A9 (.int (c:Nat)) (.int (e:Nat))=decide (e=c):=by
   show decide ((c:Int)=(e:Int))=_
   exact decide_eq_decide.mpr ⟨fun z=>by omega,fun z=>by omega⟩
  rw[key]
  by_cases z:e=c
  ·subst z;simp
  ·simp[z]
theorem NI {l:List Nat} {j:Nat} {d:PyData} (h:(ids l)[j]? =some d): ∃c,l[j]? =some c/\d= .int c:=by
 unfold ids at h
 rw[Qak]at h
 obtain ⟨c,hc,rfl⟩:=Qen.mp h
 exact ⟨c,hc,rfl⟩
theorem yB (a b:Nat):PyData.eqv (.int a) (.int b)=decide (a=b):=by
 show ((a:Int)==(b:Int))=_
 by_cases z:a=b
 ·subst z;simp
 ·rw[decide_eq_false z];exact beq_eq_false_iff_ne.mpr fun q=>z (by omega)
theorem uu: ∀(l:List Nat) (j:Nat),(yT l).eraseIdx j=yT (l.eraseIdx j)
 | [],_=>rfl
 | _::_,0=>rfl
 | a::l,j+1=>by
  show V.int (a:Nat)::(yT l).eraseIdx j=V.int (a:Nat)::yT (l.eraseIdx j)
  rw[uu l j]
theorem wd: ∀l:List Nat,PyData.canLayAll0 (ids l)=true
 | []=>rfl
 | _::l=>wd l
theorem Hj {ws:List (List Nat)} (h:ws≠[]): ∃l∈ws,jc (cy ws) (-1)=some (V.str (S l)):=by
 refine ⟨ws.getLast h,List.getLast_mem h,?_⟩
 have e:cy ws=cy ws.dropLast++[V.str (S (ws.getLast h))]:=by rw[gH,List.dropLast_concat_getLast]
 rw[e]
 exact lI _ _
theorem Hk (ws:List (List Nat)): ∀n,n<=ws.length->(rF ws n).length=((ws.take n).map List.length).sum
 | 0,_=>rfl
 | n+1,h=>by
  have hn:n<ws.length:=by omega
  show (rF ws n++(List.range (ws.getD n []).length).map fun i=>(n,i)).length=_
  rw[Oy,Hk ws n (by omega),Xl,Qce,Qd7,Mt hn,Qaa,Qev,kb,Mt hn]
  simp
theorem nF (ws:List (List Nat)):(places ws).length=(ws.map List.length).sum:=by
 unfold places
 rw[Hk ws _ (Tz _),Qbp]
theorem ur.perm {y:List Nat} {ws vs:List (List Nat)} (h:ur y ws) (p:vs.Perm ws):ur y vs:=
 ⟨fun w hw=>h.bW w (p.mem_iff.mp hw),by rw[p.length_eq];exact h.lV,by rw[nF,(p.map _).sum_nat, <-nF];exact h.all⟩
theorem ur.yard {y z:List Nat} {ws:List (List Nat)} (h:ur y ws) (p:y.Perm z):ur z ws:=⟨fun w hw=>⟨fun c hc=>p.mem_iff.mp ((h.bW w hw).1 c hc),(h.bW w hw).2⟩,h.lV,h.all⟩
theorem Ki {y:List Nat} {ws:List (List Nat)} (h:ws.length<=4) (hw: ∀w∈ws,(∀c∈w,c∈y)/\w.length<=6):ur y ws:=⟨fun w AA=>⟨(hw w AA).1,by have:=(hw w AA).2;omega⟩,h,by
 have:=BA (ws:=ws) (m:=6) (fun w AA=>(hw w AA).2) ws.length (Tz _)
 unfold places
 omega⟩
theorem Kj {y w v:List Nat} (hw: ∀c∈w,c∈y) (hv: ∀c∈v,c∈y) (w2:w.length<=12) (v2:v.length<=12):ur y [w,v]:=⟨fun u hu=>by
  rcases Zv.mp hu with e | e
  ·rw[e];exact ⟨hw,w2⟩
  ·rw[Zt.mp e];exact ⟨hv,v2⟩,by show 2<=4;decide,by
 rw[nF]
 show w.length+(v.length+0)<=24
 omega⟩
theorem Hl {xs:List V} {ws:List (List Nat)} (p:xs.Perm (cy ws)): ∃vs,xs=cy vs/\vs.Perm ws:=by
 unfold cy at p ⊢
 have key: ∀{l:List V} {m:List V},l.Perm m-> ∀us:List (List Nat),m=us.map (fun w=>V.str (S w))-> ∃vs:List (List Nat),l=vs.map (fun w=>V.str (S w))/\vs.Perm us:=by
  intro l m h
  induction h with
  | nil=>intro us e;exact ⟨[],rfl,by cases us with | nil=>exact Qdq _ | cons a r=>cases e⟩
  | cons x h ih=>
   intro us e
   cases us with
   | nil=>cases e
   | cons a r=>
    obtain ⟨e1,e2⟩:=Qdx e
    obtain ⟨vs,rfl,p⟩:=ih r e2
    exact ⟨a::vs,by rw[e1];rfl,p.cons a⟩
  | swap x z l=>
   intro us e
   cases us with
   | nil=>cases e
   | cons a r=>
    cases r with
    | nil=>cases (Qdx e).2
    | cons b r=>
     obtain ⟨e1,e2⟩:=Qdx e
     obtain ⟨e3,e4⟩:=Qdx e2
     exact ⟨b::a::r,by rw[e1,e3,e4];rfl,List.Perm.swap a b r⟩
  | trans _ _ ih1 We=>
   intro us e
   obtain ⟨vs,e2,p2⟩:=We us e
   obtain ⟨vs',e3,p3⟩:=ih1 vs e2
   exact ⟨vs',e3,p3.trans p2⟩
 exact key p ws rfl
def Hm (H:Hp) (p:Addr):Prop:= ∃(y:List Nat) (t:Addr) (ws:List (List Nat)),H p=some (.tup [.str (S y), .ref t])/\H t=some (.tup (cy ws))/\Yd y/\y.length<=8/\ur y ws
theorem Hm.ts {H H':Hp} {p:Addr} (h:Hm H p) (s:dv H H'):Hm H' p:=by
 obtain ⟨y,t,ws,e,e2,r⟩:=h
 exact ⟨y,t,ws,s _ _ e,s _ _ e2,r⟩
structure ja (H:Hp) (L:Addr) (ps:List Addr):Prop where
 ls:H L=some (.lst (ps.map V.ref))
 ak: ∀p∈ps,Hm H p
theorem ja.same {H H':Hp} {L:Addr} {ps:List Addr} (h:ja H L ps) (s:ar H H'):ja H' L ps:=⟨s _ _ h.ls,fun p hp=>(h.ak p hp).ts (dv.of s)⟩
theorem X6 {H H':Hp} {b:Addr} (h:bH H b) (s:aR b H H'):dv H H':=fun c xs e=>s c _ e fun z=>by
 obtain ⟨x,y,g⟩:=h
 rw[z,g]at e
 cases e
theorem ja.sb {H H':Hp} {L b:Addr} {ps:List Addr} (h:ja H L ps) (s:aR b H H') (hb:bH H b) (n:L≠b):ja H' L ps:=⟨s _ _ h.ls n,fun p hp=>(h.ak p hp).ts (X6 hb s)⟩
theorem ja.add {H:Hp} {L t u:Addr} {ps:List Addr} {y:List Nat} {ws:List (List Nat)} (h:ja H L ps) (n:H t=none) (hu:H u=some (.tup (cy ws))) (hy:Yd y) (hz:y.length<=8) (hw:ur y ws):ja (upd (upd H t (.tup [.str (S y), .ref u])) L (.lst (ps.map V.ref++[.ref t]))) L (ps++[t]):=by
 have s:=ar.upd (o:= .tup [.str (S y), .ref u]) n
 have ts:dv (upd H t (.tup [.str (S y), .ref u])) (upd (upd H t (.tup [.str (S y), .ref u])) L (.lst (ps.map V.ref++[.ref t]))):=dv.CV (s _ _ h.ls)
 refine ⟨by rw[ah,Qaa];rfl,fun p hp=>?_⟩
 rcases Qaj.mp hp with q | q
 ·exact ((h.ak p q).ts (dv.of s)).ts ts
 ·rw[Zt.mp q]
  exact ⟨y,u,ws,ts _ _ ah,ts _ _ (s _ _ hu),hy,hz,hw⟩
def oq (_:PySem.W.Frag):Sp:=fun vs H Q _=> ∃(y w v:List Nat),vs=[.str (S y), .str (S w), .str (S v)]/\Yd y/\y.length<=8/\(w=[]\/SW y w)/\w.length<=12/\SW y v/\v.length<=12/\ ∀(n:Nat) H',ar H H'->(n:Int)=SS y w v->Q (.int n) H'
theorem we {K:PySem.W.Frag} {vs:List V} {H:Hp} {Q:VK} {E:XK} (h:oq K vs H Q E):vs.length=3:=by obtain ⟨_,_,_,rfl,_⟩:=h;rfl
def mG (K:PySem.W.Frag):Sp:=fun vs H Q _=> ∃(y:List Nat) (wt:Addr) (ws:List (List Nat)),vs=[.str (S y), .ref wt]/\Yd y/\y.length<=8/\H wt=some (.tup (cy ws))/\ur y ws/\ ∀H',ar H H'->Q (.bl (yA y (ws.map cr))) H'
theorem rX {K:PySem.W.Frag} {vs:List V} {H:Hp} {Q:VK} {E:XK} (h:mG K vs H Q E):vs.length=2:=by obtain ⟨_,_,_,rfl,_⟩:=h;rfl
def mH (K:PySem.W.Frag):Sp:=fun vs H Q _=> ∃(y:List Nat) (wt:Addr) (ws:List (List Nat)),vs=[.str (S y), .ref wt]/\Yd y/\y.length<=8/\H wt=some (.tup (cy ws))/\ur y ws/\ ∀H',ar H H'->Q (.bl (yA y (ws.map cr))) H'
theorem rY {K:PySem.W.Frag} {vs:List V} {H:Hp} {Q:VK} {E:XK} (h:mH K vs H Q E):vs.length=2:=by obtain ⟨_,_,_,rfl,_⟩:=h;rfl
def uv (K:PySem.W.Frag):Sp:=fun vs H Q _=> ∃(y:List Nat) (wt:Addr) (ws:List (List Nat)),vs=[.str (S y), .ref wt]/\Yd y/\y.length<=8/\H wt=some (.tup (cy ws))/\ur y ws/\ ∀H',ar H H'->Q (.bl true) H'
theorem AB {K:PySem.W.Frag} {vs:List V} {H:Hp} {Q:VK} {E:XK} (h:uv K vs H Q E):vs.length=2:=by obtain ⟨_,_,_,rfl,_⟩:=h;rfl
def yC (_:PySem.W.Frag):Sp:=fun vs H Q _=> ∃(b:Addr) (y w:List Nat) (top:Nat),vs=[.ref b, .str (S y), .str (S w), .int top]/\bH H b/\Yd y/\2<=y.length/\y.length<=8/\1<=top/\top<=100/\w≠[]/\(∀c∈w,c∈y)/\w.length<=top/\ ∀(u:List Nat) H',(∀c∈u,c∈y)->u.length<=top->bH H' b->aR b H H'->Q (.str (S u)) H'
theorem DP {K:PySem.W.Frag} {vs:List V} {H:Hp} {Q:VK} {E:XK} (h:yC K vs H Q E):vs.length=4:=by obtain ⟨_,_,_,_,rfl,_⟩:=h;rfl
def qK (K:PySem.W.Frag):Sp:=fun vs H Q _=> ∃(y:List Nat) (p:Addr) (l:List Nat),vs=[.str (S y), .ref p]/\Yd y/\y.length<=8/\bA K H p (bN l)/\l.length<=100/\ ∀z H',Yd z->z.length<=8->(∀c∈z,c∈y)->ar H H'->Q (.str (S z)) H'
theorem yD {K:PySem.W.Frag} {vs:List V} {H:Hp} {Q:VK} {E:XK} (h:qK K vs H Q E):vs.length=2:=by obtain ⟨_,_,_,rfl,_⟩:=h;rfl
def yE (_:PySem.W.Frag):Sp:=fun vs H Q _=> ∃(y:List Nat),vs=[.str (S y)]/\Yd y/\y.length<=8/\ ∀q (L:List (List Nat)) H',(∀w∈L,(∀c∈w,c∈y)/\w.length<=8)->L.length<=8->H q=none->H' q=some (.lst (cy L))->ar H H'->Q (.ref q) H'
theorem DQ {K:PySem.W.Frag} {vs:List V} {H:Hp} {Q:VK} {E:XK} (h:yE K vs H Q E):vs.length=1:=by obtain ⟨_,rfl,_⟩:=h;rfl
def yF (_:PySem.W.Frag):Sp:=fun vs H Q _=> ∃(b:Addr) (y:List Nat) (top:Nat),vs=[.ref b, .str (S y), .int top]/\bH H b/\Yd y/\2<=y.length/\y.length<=8/\1<=top/\top<=12/\ ∀(w:List Nat) H',SW y w->w.length<=top->bH H' b->aR b H H'->Q (.str (S w)) H'
theorem DR {K:PySem.W.Frag} {vs:List V} {H:Hp} {Q:VK} {E:XK} (h:yF K vs H Q E):vs.length=3:=by obtain ⟨_,_,_,rfl,_⟩:=h;rfl
def uw (K:PySem.W.Frag):Sp:=fun vs H Q _=> ∃(b:Addr) (y:List Nat),vs=[.ref b, .str (S y)]/\bH H b/\Yd y/\2<=y.length/\y.length<=8/\ ∀t (ws:List (List Nat)) H',t≠b->H' t=some (.tup (cy ws))->ws.length<=4->(∀w∈ws,(∀c∈w,c∈y)/\w.length<=6)->bH H' b->aR b H H'->Q (.ref t) H'
theorem AD {K:PySem.W.Frag} {vs:List V} {H:Hp} {Q:VK} {E:XK} (h:uw K vs H Q E):vs.length=2:=by obtain ⟨_,_,rfl,_⟩:=h;rfl
def ux (K:PySem.W.Frag):Sp:=fun vs H Q _=> ∃(b:Addr) (x:V) (ys:List V),vs=[.ref b,x]/\bH H b/\(∃p,x= .ref p/\(bA K H p ys\/cO K H p ys))/\ys.length<=1000/\ ∀q Wg H',H q=none->q≠b->H' q=some (.lst Wg)->Wg.Perm ys->bH H' b->aR b H H'->Q (.ref q) H'
theorem AE {K:PySem.W.Frag} {vs:List V} {H:Hp} {Q:VK} {E:XK} (h:ux K vs H Q E):vs.length=2:=by obtain ⟨c,_,_,rfl,_⟩:=h;rfl
structure Ik (H H':Hp) (L b t:Addr) (ws:List (List Nat)) (ps:List Addr):Prop where
 sm:ar H H'
 ak:ja H' L ps
 bx:bH H' b
 ht:H' t=some (.tup (cy ws))
theorem Ik.add {H H':Hp} {L b t p u:Addr} {ws vs:List (List Nat)} {ps:List Addr} {y:List Nat} (h:Ik H H' L b t ws ps) (nL:H L=none) (np:H' p=none) (Lb:L≠b) (hu:H' u=some (.tup (cy vs))) (hy:Yd y) (hz:y.length<=8) (hw:ur y vs):Ik H (upd (upd H' p (.tup [.str (S y), .ref u])) L (.lst (ps.map V.ref++[.ref p]))) L b t ws (ps++[p]):=by
 have s:=ar.upd (o:= .tup [.str (S y), .ref u]) np
 exact ⟨fun d o e=>by rw[aD (aE e nL)];exact s _ _ (h.sm _ _ e),h.ak.add np hu hy hz hw,(h.bx.same s).dc Lb,dv.CV (s _ _ h.ak.ls) _ _ (s _ _ h.ht)⟩
theorem Ik.sb {H H' H2:Hp} {L b t:Addr} {ws:List (List Nat)} {ps:List Addr} (h:Ik H H' L b t ws ps) (s:aR b H' H2) (bx:bH H2 b) (nb:H b=none) (Lb:L≠b):Ik H H2 L b t ws ps:=
 ⟨fun d o e=>s _ _ (h.sm _ _ e) (aE e nb),h.ak.sb s h.bx Lb,bx,X6 h.bx s _ _ h.ht⟩
theorem Ik.same {H H' H2:Hp} {L b t:Addr} {ws:List (List Nat)} {ps:List Addr} (h:Ik H H' L b t ws ps) (s:ar H' H2):Ik H H2 L b t ws ps:=⟨h.sm.trans s,h.ak.same s,h.bx.same s,s _ _ h.ht⟩
theorem Hn (y:List Nat):yA y []=true:=Ce Qag rfl
theorem Ho {ps:List Addr} {k:Nat} (h:ps.length<=k) (hk:k<=999):(ps.map V.ref).length<sizeLine:=by
 rw[Xl]
 exact Jz (Qbk h) (Qbk hk)
theorem Wh {n i:Nat} (h:n<=3*i) (hi:i<3):n<=6:=by omega
theorem iE {ps:List Addr} {k:Nat} (h:ps.length<=k) (t:Addr):(ps++[t]).length<=k+1:=by rw[Oy];exact Qbk h
local macro_rules | `(tactic| walk_at "rd") => `(tactic| repeat (first
 | refine ⟨_,rfl,?_⟩
 | refine ⟨_,_,rfl,rfl,?_⟩
 | refine ⟨rfl,?_⟩
 | refine And.intro (by first | decide | omega | assumption | exact Nat.le_of_ble_eq_true rfl | exact .inl ⟨by decide,by decide⟩ | exact .inr ⟨by decide,by decide⟩ | exact ⟨by decide,by decide⟩ | exact ⟨by omega,by omega⟩) ?_))
local macro_rules | `(tactic| walk_at "wk") => `(tactic| repeat (first
 | refine ⟨_,rfl,?_⟩
 | refine ⟨_,_,rfl,rfl,?_⟩
 | refine ⟨_,_,_,rfl,rfl,by first | assumption | omega,by assumption,?_⟩
 | refine ⟨rfl,?_⟩
 | refine And.intro (by first | decide | omega | assumption | exact Nat.le_of_ble_eq_true rfl | exact .inl ⟨by decide,by decide⟩ | exact .inr ⟨by decide,by decide⟩ | exact ⟨by decide,by decide⟩ | exact ⟨by omega,by omega⟩) ?_))
local macro_rules | `(tactic| walk_at "bd") => `(tactic| first | assumption | exact aaa _ | exact apl (by walk_at "bd") (by walk_at "bd"))
noncomputable def top (i:Nat):Stmt:=PySem.Challenge.pw_mustmeet_k41_apart_or_not.main.body.getD i (.Pass ⟨0,0,0,0⟩)
noncomputable abbrev lq:Stmt:=top 1
noncomputable abbrev qL:Stmt:=top 2
noncomputable abbrev wg:Stmt:=top 4
noncomputable abbrev hU:Stmt:=top 5
noncomputable abbrev iR:Stmt:=top 7
noncomputable abbrev qM:Stmt:=top 8
noncomputable abbrev gm:Stmt:=top 9
noncomputable abbrev nG:Stmt:=top 10
noncomputable abbrev gN:Stmt:=top 11
noncomputable abbrev jV:Stmt:=top 12
noncomputable abbrev fJ:Stmt:=top 13
noncomputable abbrev iS:Stmt:=top 15
noncomputable abbrev hV:Stmt:=top 17
noncomputable abbrev jW:Stmt:=top 19
noncomputable abbrev lr:Stmt:=top 20
noncomputable abbrev AF:Stmt:=top 21
noncomputable abbrev AG:Stmt:=top 22
noncomputable abbrev gO:Stmt:=top 24
noncomputable abbrev hW:Stmt:=top 27
noncomputable abbrev iT:Stmt:=top 28
noncomputable abbrev nH:Stmt:=top 29
noncomputable abbrev nI:Stmt:=top 30
noncomputable abbrev hX:Stmt:=top 31
noncomputable abbrev gP:Stmt:=top 32
noncomputable abbrev hZ:Stmt:=top 33
noncomputable abbrev iU:Stmt:=top 34
noncomputable abbrev AH:Stmt:=top 35
noncomputable abbrev wj:Stmt:=top 37
noncomputable abbrev jX:Stmt:=top 39
noncomputable abbrev AI:Stmt:=top 41
noncomputable abbrev wm:Stmt:=top 42
noncomputable abbrev qN:Stmt:=top 43
noncomputable abbrev wo:Stmt:=top 44
noncomputable abbrev lA:Stmt:=top 45
noncomputable abbrev wq:Stmt:=top 46
noncomputable abbrev wu:Stmt:=top 47
noncomputable abbrev qO:Stmt:=top 48
noncomputable abbrev wx:Stmt:=top 49
noncomputable abbrev qP:Stmt:=top 50
noncomputable abbrev qQ:Stmt:=top 51
noncomputable abbrev iV:Stmt:=top 52
noncomputable abbrev jY:Stmt:=top 53
noncomputable abbrev AJ:Stmt:=top 54
noncomputable abbrev nJ:Stmt:=top 55
noncomputable abbrev qR:Stmt:=top 56
noncomputable abbrev nK:Stmt:=top 57
noncomputable abbrev qS:Stmt:=top 58
noncomputable abbrev qT:Stmt:=top 59
noncomputable abbrev lB:Stmt:=top 60
noncomputable abbrev AK:Stmt:=top 61
noncomputable abbrev nM:Stmt:=top 62
noncomputable abbrev jZ:Stmt:=top 63
noncomputable abbrev wz:Stmt:=top 64
noncomputable abbrev nN:Stmt:=top 65
noncomputable abbrev wA:Stmt:=top 66
noncomputable abbrev qU:Stmt:=top 67
noncomputable abbrev qV:Stmt:=top 68
noncomputable abbrev Hq:Stmt:=top 69
structure aZ (K:PySem.W.Frag) (mg:Str->Option Value) (x:Str) (st:Stmt) (ps:List Str) (f:Addr) (fd:FuncData):Prop where
 fn:IU K x x st f fd
 mg:mg x=some (.ref f)
 bd:Binds K fd ps []
noncomputable abbrev kh:Stmt:=XE (top 25) 0
noncomputable abbrev iF:Stmt:=XE (top 26) 0
structure Txt (K:PySem.W.Frag) (mg:Str->Option Value) (f0 f1 f2 f3 f4 f5 f6 f7 f8 f9 OJ OK OL OM ON OO OP OQ Hr Hs OR OS OT OU OV OW OX OY OZ O0 O1 O2 O3 O4 O5 O6 O7 O8 O9 O_ Pa Pb Pc Pd Pe Ph Pj Pk Pl Pm Pn Po Pp Pq Pu Pw Px Py aV bu kK h7:Addr) (d0 d1 d2 d3 d4 d5 d6 d7 d8 d9 Pz PB PC PD PH PJ PK PL PM PN PQ PR PU PV PX PY PZ P0 P4 P5 P6 P7 P8 P9 P_ Qa Qb Qc Qd Qe Qf Qg Qh Qi Qj Ql Qm Qn Qo Qp Qq Qr Qs Qt Qu Qv Qw Qx yG qW:FuncData):Prop where
 F0:aZ K mg "contrary" lq ["letter"] f0 d0
 F1:aZ K mg "turned" qL ["word"] f1 d1
 F2:aZ K mg "bands" wg ["yard"] f2 d2
 F3:aZ K mg "steps_round" hU ["yard","start","end"] f3 d3
 F4:aZ K mg "strands_at" iR ["yard","drawing","end"] f4 d4
 F5:aZ K mg "points" qM ["yard","drawing"] f5 d5
 F6:aZ K mg "corner_points" gm ["word","cord","place"] f6 d6
 F7:aZ K mg "corners" nG ["yard","drawing"] f7 d7
 F8:aZ K mg "chord_starts" gN ["some"] f8 d8
 F9:aZ K mg "number_in" jV ["rising","point"] f9 d9
 T3:aZ K mg "count_meetings" fJ ["some"] OJ Pz
 T4:aZ K mg "strands_in" iS ["words","band"] OK PB
 T5:aZ K mg "corner_ends" hV ["word","place"] OL PC
 T6:aZ K mg "shortened" jW ["word"] OM PD
 NJ:aZ K mg "shortest" lr ["word"] ON PH
 Il:aZ K mg "ring" AF ["word"] OO PJ
 T7:aZ K mg "root" AG ["word"] OP PK
 T8:aZ K mg "corner_steps" gO ["yard","word","place"] OQ PL
 yY:aZ K mg "steps_ahead" hW ["seen","start","end"] Hr PM
 yZ:aZ K mg "steps_back" iT ["seen","start","end"] Hs PN
 NK:aZ K mg "parting" nH ["steps","one","other","enough"] OR PQ
 NL:aZ K mg "side_of" nI ["seen"] OS PR
 T9:aZ K mg "comes_ahead" hX ["one","other"] OT PU
 T_:aZ K mg "number_among" gP ["order","seen"] OU PV
 Ua:aZ K mg "seen_strand" hZ ["words","ways","strand"] OV PX
 Ub:aZ K mg "taut_order" iU ["words","ways","band"] OW PY
 Uc:aZ K mg "taut" AH ["yard","words"] OX PZ
 Ud:aZ K mg "least" wj ["yard","words"] OY P0
 NM:aZ K mg "lie_apart" jX ["yard","words"] OZ P4
 Ue:aZ K mg "_law_box" AI ["_law_script","_law_k"] O0 P5
 dk:aZ K mg "_law_take" wm ["_law_box_here","_law_many"] O1 P6
 gB:aZ K mg "_law_other" qN ["_law_letter_here"] O2 P7
 Ug:aZ K mg "_law_yard" wo ["_law_box_here","_law_few","_law_top"] O3 P8
 Uh:aZ K mg "_law_handled" lA ["_law_box_here","_law_few","_law_top"] O4 P9
 Ui:aZ K mg "_law_even" wq ["_law_box_here","_law_x","_law_y","_law_top"] O5 P_
 Uj:aZ K mg "_law_word" wu ["_law_box_here","_law_yard_here","_law_top"] O6 Qa
 NN:aZ K mg "_law_short" qO ["_law_box_here","_law_yard_here","_law_top"] O7 Qb
 NO:aZ K mg "_law_near" wx ["_law_box_here","_law_yard_here","_law_word_here","_law_top"] O8 Qc
 Uk:aZ K mg "_law_order" qP ["_law_box_here","_law_things"] O9 Qd
 Ul:aZ K mg "_law_bands" qQ ["_law_yard_here"] O_ Qe
 Um:aZ K mg "_law_shortened" iV ["_law_word_here"] Pa Qf
 Im:aZ K mg "_law_shortest" jY ["_law_word_here"] Pb Qg
 DS:aZ K mg "_law_ray" AJ ["_law_word_here","_law_at","_law_way"] Pc Qh
 iL:aZ K mg "_law_letter" nJ ["_law_ray_here","_law_k"] Pd Qi
 Uo:aZ K mg "_law_round" qR ["_law_yard_here","_law_x","_law_y","_law_z"] Pe Qj
 Io:aZ K mg "_law_parted" nK ["_law_one","_law_other_here","_law_k"] Ph Ql
 NP:aZ K mg "_law_sense" qS ["_law_yard_here","_law_one","_law_other_here","_law_third"] Pj Qm
 Up:aZ K mg "_law_meets" qT ["_law_yard_here","_law_w","_law_i","_law_v","_law_j"] Pk Qn
 NQ:aZ K mg "_law_between" lB ["_law_yard_here","_law_w","_law_v"] Pl Qo
 NR:aZ K mg "_law_own" AK ["_law_yard_here","_law_w"] Pm Qp
 Uq:aZ K mg "_law_is_lone" nM ["_law_yard_here","_law_word_here"] Pn Qq
 Ur:aZ K mg "_law_lie_apart" jZ ["_law_yard_here","_law_words_here"] Po Qr
 Us:aZ K mg "_law_rims" wz ["_law_yard_here"] Pp Qs
 Ut:aZ K mg "_law_within" nN ["_law_yard_here","_law_some"] Pq Qt
 Uu:aZ K mg "_law_lone" wA ["_law_box_here","_law_yard_here","_law_top"] Pu Qu
 Uv:aZ K mg "_law_words" qU ["_law_box_here","_law_yard_here"] Pw Qv
 Uw:aZ K mg "_law_right" qV ["_law_yard_here","_law_words_here"] Px Qw
 F57:aZ K mg "law" Hq ["_law_script"] Py Qx
 Ht:mg "Seen"=some (.ref aV)
 eJ:II K aV
 n_Seen_strand:eT K aV "strand"
 n_Seen_way:eT K aV "way"
 n_Seen_place:eT K aV "place"
 Lz:mg "Way"=some (.ref bu)
 g7:II K bu
 n_Way_size:eT K bu "size"
 n_Way_root_size:eT K bu "root_size"
 n_Way_leads:eT K bu "leads"
 n_Way_onward:eT K bu "onward"
 n_Way_backward:eT K bu "backward"
 LA:Mk K bu kK
 SH:IU K "__init__" "Way.__init__" kh kK yG
 LB:Binds K yG ["self","yard","word","longest"] []
 Hu:Mk K aV h7
 NS:IU K "__init__" "Seen.__init__" iF h7 qW
 Hv:Binds K qW ["self","strand","way","place"] []
 z_all:mg "all"=none
 z_bool:mg "bool"=none
 z_enumerate:mg "enumerate"=none
 z_int:mg "int"=none
 z_isinstance:mg "isinstance"=none
 z_len:mg "len"=none
 z_list:mg "list"=none
 z_max:mg "max"=none
 z_min:mg "min"=none
 z_range:mg "range"=none
 z_reversed:mg "reversed"=none
 z_set:mg "set"=none
 z_sorted:mg "sorted"=none
 z_str:mg "str"=none
 z_sum:mg "sum"=none
 z_tuple:mg "tuple"=none
theorem yH:aH ["letter"] ["letter"] (au lq):=⟨rfl,rfl,rfl,by decide+kernel,rfl,by decide+kernel,by decide+kernel⟩
theorem DT:aH ["word"] ["word"] (au qL):=⟨rfl,rfl,rfl,by decide+kernel,rfl,by decide+kernel,by decide+kernel⟩
theorem Hw:aH ["yard"] ["yard"] (au wg):=⟨rfl,rfl,rfl,by decide+kernel,rfl,by decide+kernel,by decide+kernel⟩
theorem qX:aH ["yard","start","end"] ["yard","start","end"] (au hU):=⟨rfl,rfl,rfl,by decide+kernel,rfl,by decide+kernel,by decide+kernel⟩
theorem kL:aH ["yard","drawing","end","order"] ["yard","drawing","end"] (au iR):=⟨rfl,rfl,rfl,by decide+kernel,rfl,by decide+kernel,by decide+kernel⟩
theorem ki:aH ["yard","drawing","told","end","strand"] ["yard","drawing"] (au qM):=⟨rfl,rfl,rfl,by decide+kernel,rfl,by decide+kernel,by decide+kernel⟩
theorem iG:aH ["word","cord","place","ahead"] ["word","cord","place"] (au gm):=⟨rfl,rfl,rfl,by decide+kernel,rfl,by decide+kernel,by decide+kernel⟩
theorem dm:aH ["yard","drawing","numbers","number","point","told","cord","word","place","pair"] ["yard","drawing"] (au nG):=⟨rfl,rfl,rfl,by decide+kernel,rfl,by decide+kernel,by decide+kernel⟩
theorem eE:aH ["some","starts","corner","first"] ["some"] (au gN):=⟨rfl,rfl,rfl,by decide+kernel,rfl,by decide+kernel,by decide+kernel⟩
theorem dQ:aH ["rising","point","low","high","middle"] ["rising","point"] (au jV):=⟨rfl,rfl,rfl,by decide+kernel,rfl,by decide+kernel,by decide+kernel⟩
theorem bU:aH ["some","starts","begun","many","point","number"] ["some"] (au fJ):=⟨rfl,rfl,rfl,by decide+kernel,rfl,by decide+kernel,by decide+kernel⟩
theorem dD:aH ["words","band","found","cord","word","place","letter"] ["words","band"] (au iS):=⟨rfl,rfl,rfl,by decide+kernel,rfl,by decide+kernel,by decide+kernel⟩
theorem qY:aH ["word","place"] ["word","place"] (au hV):=⟨rfl,rfl,rfl,by decide+kernel,rfl,by decide+kernel,by decide+kernel⟩
theorem iW:aH ["word","kept","letter"] ["word"] (au jW):=⟨rfl,rfl,rfl,by decide+kernel,rfl,by decide+kernel,by decide+kernel⟩
theorem eO:aH ["word","left","start","end"] ["word"] (au lr):=⟨rfl,rfl,rfl,by decide+kernel,rfl,by decide+kernel,by decide+kernel⟩
theorem kj:aH ["word","whole","least","start","begun"] ["word"] (au AF):=⟨rfl,rfl,rfl,by decide+kernel,rfl,by decide+kernel,by decide+kernel⟩
theorem pM:aH ["word","whole","size","times"] ["word"] (au AG):=⟨rfl,rfl,rfl,by decide+kernel,rfl,by decide+kernel,by decide+kernel⟩
theorem jb:aH ["yard","word","place","ends"] ["yard","word","place"] (au gO):=⟨rfl,rfl,rfl,by decide+kernel,rfl,by decide+kernel,by decide+kernel⟩
theorem j4:aH ["seen","start","end","first"] ["seen","start","end"] (au hW):=⟨rfl,rfl,rfl,by decide+kernel,rfl,by decide+kernel,by decide+kernel⟩
theorem kM:aH ["seen","start","end","first"] ["seen","start","end"] (au iT):=⟨rfl,rfl,rfl,by decide+kernel,rfl,by decide+kernel,by decide+kernel⟩
theorem eK:aH ["steps","one","other","enough","many","size"] ["steps","one","other","enough"] (au nH):=⟨rfl,rfl,rfl,by decide+kernel,rfl,by decide+kernel,by decide+kernel⟩
theorem lC:aH ["seen","way","cord"] ["seen"] (au nI):=⟨rfl,rfl,rfl,by decide+kernel,rfl,by decide+kernel,by decide+kernel⟩
theorem fk:aH ["one","other","enough","ahead","back"] ["one","other"] (au hX):=⟨rfl,rfl,rfl,by decide+kernel,rfl,by decide+kernel,by decide+kernel⟩
theorem cI:aH ["order","seen","low","high","middle"] ["order","seen"] (au gP):=⟨rfl,rfl,rfl,by decide+kernel,rfl,by decide+kernel,by decide+kernel⟩
theorem gQ:aH ["words","ways","strand","word","place"] ["words","ways","strand"] (au hZ):=⟨rfl,rfl,rfl,by decide+kernel,rfl,by decide+kernel,by decide+kernel⟩
theorem fR:aH ["words","ways","band","order","strand","seen"] ["words","ways","band"] (au iU):=⟨rfl,rfl,rfl,by decide+kernel,rfl,by decide+kernel,by decide+kernel⟩
theorem wB:aH ["yard","words","longest","ways"] ["yard","words"] (au AH):=⟨rfl,rfl,rfl,by decide+kernel,rfl,by decide+kernel,by decide+kernel⟩
theorem Hx:aH ["yard","words"] ["yard","words"] (au wj):=⟨rfl,rfl,rfl,by decide+kernel,rfl,by decide+kernel,by decide+kernel⟩
theorem mI:aH ["yard","words","shorts"] ["yard","words"] (au jX):=⟨rfl,rfl,rfl,by decide+kernel,rfl,by decide+kernel,by decide+kernel⟩
theorem mJ:aH ["_law_script","_law_k","_law_cell","_law_seed"] ["_law_script","_law_k"] (au AI):=⟨rfl,rfl,rfl,by decide+kernel,rfl,by decide+kernel,by decide+kernel⟩
theorem qZ:aH ["_law_box_here","_law_many","_law_digit","_law_one"] ["_law_box_here","_law_many"] (au wm):=⟨rfl,rfl,rfl,by decide+kernel,rfl,by decide+kernel,by decide+kernel⟩
theorem nP:aH ["_law_letter_here","_law_small","_law_capital"] ["_law_letter_here"] (au qN):=⟨rfl,rfl,rfl,by decide+kernel,rfl,by decide+kernel,by decide+kernel⟩
theorem fZ:aH ["_law_box_here","_law_few","_law_top","_law_left","_law_ends","_law_k","_law_letter_here","_law_found"] ["_law_box_here","_law_few","_law_top"] (au wo):=⟨rfl,rfl,rfl,by decide+kernel,rfl,by decide+kernel,by decide+kernel⟩
theorem ck:aH ["_law_box_here","_law_few","_law_top","_law_left","_law_names","_law_x","_law_y","_law_found","_law_name","_law_end","_law_at"] ["_law_box_here","_law_few","_law_top"] (au lA):=⟨rfl,rfl,rfl,by decide+kernel,rfl,by decide+kernel,by decide+kernel⟩
theorem mK:aH ["_law_box_here","_law_x","_law_y","_law_top","_law_many","_law_few","_law_one"] ["_law_box_here","_law_x","_law_y","_law_top"] (au wq):=⟨rfl,rfl,rfl,by decide+kernel,rfl,by decide+kernel,by decide+kernel⟩
theorem Hy:aH ["_law_box_here","_law_yard_here","_law_top"] ["_law_box_here","_law_yard_here","_law_top"] (au wu):=⟨rfl,rfl,rfl,by decide+kernel,rfl,by decide+kernel,by decide+kernel⟩
theorem dE:aH ["_law_box_here","_law_yard_here","_law_top","_law_many","_law_form","_law_word_here","_law_letter_here"] ["_law_box_here","_law_yard_here","_law_top"] (au qO):=⟨rfl,rfl,rfl,by decide+kernel,rfl,by decide+kernel,by decide+kernel⟩
theorem j5:aH ["_law_box_here","_law_yard_here","_law_word_here","_law_top","_law_form","_law_at","_law_letter_here","_law_some"] ["_law_box_here","_law_yard_here","_law_word_here","_law_top"] (au wx):=⟨rfl,rfl,rfl,by decide+kernel,rfl,by decide+kernel,by decide+kernel⟩
theorem nQ:aH ["_law_box_here","_law_things","_law_left","_law_found"] ["_law_box_here","_law_things"] (au qP):=⟨rfl,rfl,rfl,by decide+kernel,rfl,by decide+kernel,by decide+kernel⟩
theorem DU:aH ["_law_yard_here"] ["_law_yard_here"] (au qQ):=⟨rfl,rfl,rfl,by decide+kernel,rfl,by decide+kernel,by decide+kernel⟩
theorem eh:aH ["_law_word_here","_law_left","_law_letter_here"] ["_law_word_here"] (au iV):=⟨rfl,rfl,rfl,by decide+kernel,rfl,by decide+kernel,by decide+kernel⟩
theorem iX:aH ["_law_word_here","_law_left"] ["_law_word_here"] (au jY):=⟨rfl,rfl,rfl,by decide+kernel,rfl,by decide+kernel,by decide+kernel⟩
theorem Kk:aH ["_law_word_here","_law_at","_law_way"] ["_law_word_here","_law_at","_law_way"] (au AJ):=⟨rfl,rfl,rfl,by decide+kernel,rfl,by decide+kernel,by decide+kernel⟩
theorem fK:aH ["_law_ray_here","_law_k","_law_head","_law_word_here","_law_at","_law_way"] ["_law_ray_here","_law_k"] (au nJ):=⟨rfl,rfl,rfl,by decide+kernel,rfl,by decide+kernel,by decide+kernel⟩
theorem nR:aH ["_law_yard_here","_law_x","_law_y","_law_z","_law_at","_law_rest"] ["_law_yard_here","_law_x","_law_y","_law_z"] (au qR):=⟨rfl,rfl,rfl,by decide+kernel,rfl,by decide+kernel,by decide+kernel⟩
theorem q8:aH ["_law_one","_law_other_here","_law_k"] ["_law_one","_law_other_here","_law_k"] (au nK):=⟨rfl,rfl,rfl,by decide+kernel,rfl,by decide+kernel,by decide+kernel⟩
theorem bP:aH ["_law_yard_here","_law_one","_law_other_here","_law_third","_law_k","_law_some","_law_x","_law_y","_law_z","_law_at","_law_back"] ["_law_yard_here","_law_one","_law_other_here","_law_third"] (au qS):=⟨rfl,rfl,rfl,by decide+kernel,rfl,by decide+kernel,by decide+kernel⟩
theorem iH:aH ["_law_yard_here","_law_w","_law_i","_law_v","_law_j","_law_on","_law_back","_law_other_on","_law_other_back","_law_others","_law_one"] ["_law_yard_here","_law_w","_law_i","_law_v","_law_j"] (au qT):=⟨rfl,rfl,rfl,by decide+kernel,rfl,by decide+kernel,by decide+kernel⟩
theorem g8:aH ["_law_yard_here","_law_w","_law_v","_law_found","_law_i"] ["_law_yard_here","_law_w","_law_v"] (au lB):=⟨rfl,rfl,rfl,by decide+kernel,rfl,by decide+kernel,by decide+kernel⟩
theorem wC:aH ["_law_yard_here","_law_w","_law_size"] ["_law_yard_here","_law_w"] (au AK):=⟨rfl,rfl,rfl,by decide+kernel,rfl,by decide+kernel,by decide+kernel⟩
theorem q9:aH ["_law_yard_here","_law_word_here","_law_short_here"] ["_law_yard_here","_law_word_here"] (au nM):=⟨rfl,rfl,rfl,by decide+kernel,rfl,by decide+kernel,by decide+kernel⟩
theorem fq:aH ["_law_yard_here","_law_words_here","_law_some","_law_k","_law_word_here","_law_others"] ["_law_yard_here","_law_words_here"] (au jZ):=⟨rfl,rfl,rfl,by decide+kernel,rfl,by decide+kernel,by decide+kernel⟩
theorem f_:aH ["_law_yard_here","_law_left","_law_found","_law_at","_law_word_here","_law_end"] ["_law_yard_here"] (au wz):=⟨rfl,rfl,rfl,by decide+kernel,rfl,by decide+kernel,by decide+kernel⟩
theorem AL:aH ["_law_yard_here","_law_some"] ["_law_yard_here","_law_some"] (au nN):=⟨rfl,rfl,rfl,by decide+kernel,rfl,by decide+kernel,by decide+kernel⟩
theorem iI:aH ["_law_box_here","_law_yard_here","_law_top","_law_names","_law_some","_law_turn","_law_word_here"] ["_law_box_here","_law_yard_here","_law_top"] (au wA):=⟨rfl,rfl,rfl,by decide+kernel,rfl,by decide+kernel,by decide+kernel⟩
theorem fL:aH ["_law_box_here","_law_yard_here","_law_found","_law_k","_law_form","_law_word_here"] ["_law_box_here","_law_yard_here"] (au qU):=⟨rfl,rfl,rfl,by decide+kernel,rfl,by decide+kernel,by decide+kernel⟩
theorem uy:aH ["_law_yard_here","_law_words_here","_law_found"] ["_law_yard_here","_law_words_here"] (au qV):=⟨rfl,rfl,rfl,by decide+kernel,rfl,by decide+kernel,by decide+kernel⟩
theorem gR:aH ["_law_script","_law_asked","_law_k","_law_box_here","_law_yard_here","_law_words_here","_law_x","_law_y","_law_word_here"] ["_law_script"] (au Hq):=⟨rfl,rfl,rfl,by decide+kernel,rfl,by decide+kernel,by decide+kernel⟩
theorem q_:aH ["self","yard","word","longest","steps","rounds"] ["self","yard","word","longest"] (au kh):=⟨rfl,rfl,rfl,by decide+kernel,rfl,by decide+kernel,by decide+kernel⟩
theorem DV:aH ["self","strand","way","place"] ["self","strand","way","place"] (au iF):=⟨rfl,rfl,rfl,by decide+kernel,rfl,by decide+kernel,by decide+kernel⟩
section
variable {P:Program} {w:World} {K:PySem.W.Frag} {mg:Str->Option Value} {base:Heap} {f0 f1 f2 f3 f4 f5 f6 f7 f8 f9 OJ OK OL OM ON OO OP OQ Hr Hs OR OS OT OU OV OW OX OY OZ O0 O1 O2 O3 O4 O5 O6 O7 O8 O9 O_ Pa Pb Pc Pd Pe Ph Pj Pk Pl Pm Pn Po Pp Pq Pu Pw Px Py aV bu kK h7:Addr} {d0 d1 d2 d3 d4 d5 d6 d7 d8 d9 Pz PB PC PD PH PJ PK PL PM PN PQ PR PU PV PX PY PZ P0 P4 P5 P6 P7 P8 P9 P_ Qa Qb Qc Qd Qe Qf Qg Qh Qi Qj Ql Qm Qn Qo Qp Qq Qr Qs Qt Qu Qv Qw Qx yG qW:FuncData}
variable (T:Txt K mg f0 f1 f2 f3 f4 f5 f6 f7 f8 f9 OJ OK OL OM ON OO OP OQ Hr Hs OR OS OT OU OV OW OX OY OZ O0 O1 O2 O3 O4 O5 O6 O7 O8 O9 O_ Pa Pb Pc Pd Pe Ph Pj Pk Pl Pm Pn Po Pp Pq Pu Pw Px Py aV bu kK h7 d0 d1 d2 d3 d4 d5 d6 d7 d8 d9 Pz PB PC PD PH PJ PK PL PM PN PQ PR PU PV PX PY PZ P0 P4 P5 P6 P7 P8 P9 P_ Qa Qb Qc Qd Qe Qf Qg Qh Qi Qj Ql Qm Qn Qo Qp Qq Qr Qs Qt Qu Qv Qw Qx yG qW)
include T
theorem oV:bI P w K mg base dW 1 f8 d8 ["some"] (i8 K):=by
 refine T.F8.fn.ok eE (fun vs H Q E h=>nk h) (fun cC A outer s H vs Q E hr h=>?_)
 refine ⟨_,(ag (aq (i:=1) eE.nd rfl (Or.inl rfl) E_)
   (ag (cE PassesOwn.never rfl (dY K rfl (pv 0)) (aF (i:=2) eE.nd rfl (Or.inl rfl)) (ag (aq (i:=3) eE.nd rfl (Or.inl rfl) (aB (sH rfl) rfl T.z_min boot_min (aa (aQ (bT K rfl) (pv 2) ai (fun _ _=>rfl)) (aa (aQ (bT K rfl) (pv 2) ai (fun _ _=>rfl)) ae))))
   (ag (vb (pY hr) (pv 1) (aQ (bT K rfl) (pv 2) ai (fun _ _=>rfl)) (pv 3) rfl)
   (aj (vb (pY hr) (pv 1) (aQ (bT K rfl) (pv 2) ai (fun _ _=>rfl)) (pv 3) rfl)))))
   (aj (aI (pv 1))))),?_⟩
 obtain ⟨a,qs,rfl,ha,hq,hn,nd,q⟩:=h
 have hs:(100000:Nat)<sizeLine:=by decide
 walk_at "wk"
 intro d Ux
 have X7:a≠d:=aE ha Ux
 refine ⟨_,rfl,a,rfl,⟨_,bA.of (by rw[aD X7];exact ha)⟩,?_⟩
 refine jm (K:=K) (a:=a) (xs:=DC qs) (fun k σ H'=> ∃(cv fv:Option V),σ=[some (.ref a),some (.ref d),cv,fv]/\H' d=some (.dK (gT ((qs.take k).map Q4.v)))/\aR d H H')
  ⟨none,none,rfl,ah,fun b o e z=>by rw[aD z];exact e⟩ (fun k σ H' _ ⟨_,_,_,_,h⟩=>bA.of (h _ _ ha X7)) ?_ ?_
 ·rintro k x σ H1 hx ⟨cv,fv,rfl,hd,s1⟩
  obtain ⟨c,hc,rfl⟩:=Nj hx
  have hk:k<qs.length:=(Mu.mp hc).1
  have tc:=hq c (Qah hc)
  have oE:c.t≠d:=fun z=>by have h9:H c.t=_:=tc;rw[z,Ux]at h9;cases h9
  have Uy:rT H1 c:=s1 _ _ tc oE
  have lc:(gT ((qs.take k).map Q4.v)).length<=2000:=by rw[yh,Xl,Qae];omega
  have e:(qs.take (k+1)).map Q4.v=(qs.take k).map Q4.v++[c.v]:=by rw[<-take_snoc hc,Qaa];rfl
  have X8:(fj ((qs.take k).map Q4.v++[c.v])).Nodup:=by
   rw[<-e]
   have:qs.map Q4.v=(qs.take (k+1)).map Q4.v++(qs.drop (k+1)).map Q4.v:=by rw[<-Qaa,Qa7]
   rw[this]at nd
   unfold fj at nd ⊢
   rw[Qbn,Qbv]at nd
   exact nd.1
  refine ⟨_,rfl,c.t,_,2,_,rfl,rfl,cO.of Uy,rfl,_,rfl,c.t,_,3,_,rfl,rfl,cO.of Uy,rfl,_,_,rfl,?_⟩
  refine ⟨_,rfl,_,rfl,_,rfl,c.t,_,2,_,rfl,rfl,cO.of Uy,rfl,d,_,rfl,va.k (k:=Sum.inl (c.v.2.2.1:Int)) hd (by omega),?_⟩
  have tc2: ∀o,rT (L2.upd H1 d o) c:=fun o=>by show L2.upd H1 d o c.t=_;rw[aD oE];exact Uy
  refine ⟨_,rfl,_,rfl,_,rfl,c.t,_,3,_,rfl,rfl,cO.of (tc2 _),rfl,d,_,rfl,va.k (k:=Sum.inl (c.v.2.2.2:Int)) ah (Qa4 (gW _ _ _) (by omega)),?_⟩
  refine ⟨_,_,rfl,?_,fun b o eb z=>by rw[aD z,aD z];exact s1 b o eb z⟩
  rw[ah,e, <-JZ X8]
  rfl
 ·rintro σ H1 ⟨cv,fv,rfl,hd,s1⟩
  rw[BP,Qbp]at hd
  exact ⟨_,rfl,q d H1 Ux hd fun b o eb=>s1 b o eb (aE eb Ux)⟩
theorem wD:bI P w K mg base dW 1 f9 d9 ["rising","point"] (mw K):=by
 refine T.F9.fn.ok dQ (fun vs H Q E h=>rV h) (fun cC A outer s H vs Q E hr h=>?_)
 refine ⟨_,(ag (aq (i:=2) dQ.nd rfl (Or.inl rfl) ai)
   (ag (aq (i:=3) dQ.nd rfl (Or.inl rfl) (aA cF (aB (bC K rfl) rfl T.z_len Qab (aa (pv 0) ae)) ai))
   (ag (bZ PassesOwn.never (aG kz (pv 2) (pv 3) (aK _)) (ag (aq (i:=4) dQ.nd rfl (Or.inl rfl) (aA dA (aA aW (pv 2) (pv 3)) ai))
   (aj (bQ (aG kz (aQ (bK K rfl) (pv 0) (pv 4) (fun _ _=>rfl)) (pv 1) (aK _)) (aj (aq (i:=2) dQ.nd rfl (Or.inl rfl) (aA aW (pv 4) ai))) (aj (aq (i:=3) dQ.nd rfl (Or.inl rfl) (pv 4)))))))
   (aj (aI (pv 2)))))),?_⟩
 obtain ⟨a,l,p,rfl,ha,up,hp,hn,q⟩:=h
 have hs:(100000:Nat)<sizeLine:=by decide
 have hi:=Zw hp
 have Wi:l[l.idxOf p]=p:=Qby hi
 have key:=Qdc.mp up
 refine ⟨_,rfl,a,_,rfl, .inl (bA.of ha),?_⟩
 rw[mr]
 walk_at "wk"
 refine ⟨fun m σ H'=> ∃(lo hi:Nat) (mv:Option V),σ=[some (.ref a),some (.int p),some (.int lo),some (.int hi),mv]/\m=hi - lo/\lo<=l.idxOf p/\l.idxOf p<=hi/\hi<l.length/\H'=H,⟨_,0,l.length - 1,none,?_,rfl,Qad _,by omega,by omega,rfl⟩,?_⟩
 ·have:((l.length:Int) - 1)=((l.length - 1:Nat):Int):=by omega
  rw[<-this];rfl
 rintro m σ H2 ⟨lo,ko,mv,rfl,rfl,h1,h2,h3,rfl⟩
 walk_at "wk"
 refine bY (fun z=>?_) (fun z=>?_)
 ·have z1:(lo:Int)<ko:=of_decide_eq_true z
  have em:(((lo:Int)+ko) / 2)=(((lo+ko) / 2:Nat):Int):=by omega
  have hm:(lo+ko) / 2<l.length:=by omega
  walk_at "rd"
  refine ⟨a,_,((lo:Int)+ko) / 2,_,rfl,rfl,bA.of ha,by rw[em];exact bM (GJ (Mt hm)),?_⟩
  walk_at "rd"
  refine bY (fun y=>?_) (fun y=>?_)
  ·have y1:((l[(lo+ko) / 2]:Nat):Int)<p:=of_decide_eq_true y
   have lt:(lo+ko) / 2<l.idxOf p:=by
    refine Classical.byContradiction fun w=>?_
    by_cases e:(lo+ko) / 2=l.idxOf p
    ·have:l[(lo+ko) / 2]=p:=by simp only[e];exact Wi
     omega
    ·have:=key (l.idxOf p) ((lo+ko) / 2) hi hm (by omega)
     rw[Wi]at this
     omega
   walk_at "rd"
   have e1:((lo:Int)+ko) / 2+1=(((lo+ko) / 2+1:Nat):Int):=by omega
   refine ⟨ko - ((lo+ko) / 2+1),by omega,(lo+ko) / 2+1,ko,_,by rw[<-e1];rfl,rfl,by omega,h2,h3,rfl⟩
  ·have y1: ¬((l[(lo+ko) / 2]:Nat):Int)<p:=fun w=>y (decide_eq_true w)
   have le:l.idxOf p<=(lo+ko) / 2:=by
    refine Classical.byContradiction fun w=>?_
    have:=key ((lo+ko) / 2) (l.idxOf p) hm hi (by omega)
    rw[Wi]at this
    omega
   walk_at "rd"
   refine ⟨(lo+ko) / 2 - lo,by omega,lo,(lo+ko) / 2,_,by rw[<-em];rfl,rfl,h1,le,by omega,rfl⟩
 ·have z1: ¬(lo:Int)<ko:=fun w=>z (decide_eq_true w)
  have e:lo=l.idxOf p:=by omega
  walk_at "rd"
  rw[e]
  exact q
theorem mL:bI P w K mg base dW 2 OJ Pz ["some"] (g6 K):=by
 have rh:=oV (P:=P) (w:=w) (base:=base) T
 have yI:=wD (P:=P) (w:=w) (base:=base) T
 refine T.T3.fn.ok bU (fun vs H Q E h=>lj h) (fun cC A outer s H vs Q E hr h=>?_)
 refine ⟨_,(ag (aq (i:=1) bU.nd rfl (Or.inl rfl) (ao rh (hr.mono (by decide)) rfl T.F8.mg T.F8.fn.kp T.F8.bd .nil az (aa (pv 0) ae)))
   (ag (aq (i:=2) bU.nd rfl (Or.inl rfl) (cT ae))
   (ag (aq (i:=3) bU.nd rfl (Or.inl rfl) ai)
   (ag (cE PassesOwn.never rfl (dY K rfl (aB (rQ rfl) rfl T.z_sorted boot_sorted (aa (pv 1) ae))) (aF (i:=4) bU.nd rfl (Or.inl rfl)) (aj (bQ (aG eX (o9 (pY hr) (pv 1) (pv 4) (fun _ _=>rfl)) (pv 4) (aK _)) (aj (cQ (bD K rfl Qap Qba Qa9 cU (pv 2) (aa (pv 4) ae)))) (ag (aq (i:=5) bU.nd rfl (Or.inl rfl) (ao yI (hr.mono (by decide)) rfl T.F9.mg T.F9.fn.kp T.F9.bd .nil az (aa (pv 2) (aa (o9 (pY hr) (pv 1) (pv 4) (fun _ _=>rfl)) ae))))
   (ag (cQ (bD K rfl Qap Qcr Qcq js (pv 2) (aa (pv 5) ae)))
   (aj (kR (i:=3) bU.nd rfl (Or.inl rfl) (aA cF (aB (bC K rfl) rfl T.z_len Qab (aa (pv 2) ae)) (pv 5)) uJ)))))))
   (aj (aI (pv 3))))))),?_⟩
 obtain ⟨a,qs,rfl,ha,hq,hn,nd,q⟩:=h
 have hs:(100000:Nat)<sizeLine:=by decide
 refine ⟨_,rfl,a,qs,rfl,ha,hq,by omega,nd,fun d H1 X8 hd s1=>?_⟩
 have SI:(qs.map Q4.v).length<=24:=by rw[Xl];exact hn
 generalize qs.map Q4.v=cs at nd hd q SI
 have kl:=yh cs
 have cl':(fj cs).length=2*cs.length:=by
  have:=congrArg List.length (iD cs)
  rw[Xl,Xl]at this
  omega
 walk_at "wk"
 intro b nb
 have X9:d≠b:=aE hd nb
 have hd2:L2.upd H1 b (.lst []) d=some (.dK (gT cs)):=by rw[aD X9];exact hd
 have sb:=ar.upd (o:= .lst []) nb
 refine ⟨_,rfl,d,_,(fj cs).map fun n:Nat=>(n:Int),rfl,hd2,by rw[iD,Qb2];rfl,by rw[Xl];omega,fun p2 ms n2 lG LC=>?_⟩
 obtain ⟨P,eP,pP,uP⟩:=Ap nd lG LC
 rw[eP]
 have ch:=Nq nd pP uP
 have lP:P.length<=2000:=by rw[pP.length_eq];omega
 have X_:p2≠b:=fun z=>by rw[z,ah]at n2;cases n2
 have s2:=sb.trans (ar.upd (o:= .lst (ins P)) n2)
 refine ⟨p2,rfl,⟨_,bA.of ah⟩,?_⟩
 refine jm (K:=K) (a:=p2) (xs:=ins P) (fun k σ H'=> ∃(m:Nat) (pv nv:Option V),σ=[some (.ref a),some (.ref d),some (.ref b),some (.int m),pv,nv]/\H' b=some (.lst (ins (pH (dj cs) (P.take k) (P.drop k))))/\m+Ie (dj cs) (P.take k) (P.drop k)=Ie (dj cs) [] P/\aR b (L2.upd (L2.upd H1 b (.lst [])) p2 (.lst (ins P))) H')
  ⟨0,none,none,rfl,by rw[aD (Ne.symm X_),ah];rfl,by rw[Qeo];rfl,aR.refl _ _⟩ (fun k σ H' _ ⟨_,_,_,_,_,_,h⟩=>bA.of (h _ _ ah X_)) ?_ ?_
 ·rintro k x σ H3 hx ⟨m,pv,nv,rfl,hb,hm,s3⟩
  obtain ⟨p,hp,rfl⟩: ∃p,P[k]? =some p/\x=V.int (p:Nat):=by
   unfold ins at hx
   rw[Qak]at hx
   cases e:P[k]? with
   | none=>rw[e]at hx;cases hx
   | some p=>rw[e]at hx;cases hx;exact ⟨p,rfl,rfl⟩
  have hk:k<P.length:=(Mu.mp hp).1
  have hpc:p∈fj cs:=pP.mem_iff.mp (Qah hp)
  have Ya:=Nt nd hpc
  have Yb:H3 d=some (.dK (gT cs)):=s3 _ _ (s2 _ _ hd) X9
  have Yc:P=P.take k++p::P.drop (k+1):=by
   have:=Qa7 k P
   rw[Qbj hk,(Mu.mp hp).2]at this
   exact this.symm
  have Wj:P.drop k=p::P.drop (k+1):=by rw[Qbj hk,(Mu.mp hp).2]
  have SJ:P.take (k+1)=P.take k++[p]:=(take_snoc hp).symm
  have bl:(pH (dj cs) (P.take k) (P.drop k)).length<=2000:=Qao J0 (by rw[Qae];omega)
  have xW:=GN (st:=dj cs) hp
  refine ⟨_,rfl,_,rfl,d,_,rfl,by rw[<-Ya];exact qg.k (k:=Sum.inl (p:Int)) Yb,?_⟩
  walk_at "rd"
  refine bY (fun z=>?_) (fun z=>?_)
  ·have z1:dj cs p=p:=by have:=of_decide_eq_true z;omega
   refine ⟨_,rfl, .inl ⟨rfl,_,bA.of hb⟩,_,rfl,b,_,_,rfl,rfl,hb,by rw[mr];omega,?_⟩
   refine ⟨m,_,_,rfl,?_,?_,s3.trans (aR.upd _ _ _)⟩
   ·rw[ah,GI,SJ,GD ch Yc z1, <-Wj]
   ·have e0:DE (dj cs) (P.take k) (P.drop (k+1)) p=0:=by unfold DE;rw[if_pos z1]
    omega
  ·have z1:dj cs p≠p:=fun w=>z (decide_eq_true (by rw[w]))
   obtain ⟨en,em⟩:=Nm ch Yc z1
   rw[<-Wj]at en em
   have up:=Nr (st:=dj cs) uP (Qa7 k P).symm (P.drop k)
   have uV:=Zw em
   refine ⟨_,rfl,_,rfl,_,rfl,d,_,rfl,by rw[<-Ya];exact qg.k (k:=Sum.inl (p:Int)) Yb,b,_,dj cs p,rfl,hb,up,em,by omega,?_⟩
   refine ⟨_,rfl, .inl ⟨rfl,_,bA.of hb⟩,_,rfl,b,_,_,_,_,rfl,rfl,hb,by omega,by omega,?_,GJ (Mt uV),?_⟩
   ·rw[mr]
    exact Lv uV
   have ee:(ins (pH (dj cs) (P.take k) (P.drop k))).eraseIdx ((pH (dj cs) (P.take k) (P.drop k)).idxOf (dj cs p))=ins (pH (dj cs) (P.take (k+1)) (P.drop (k+1))):=by
    rw[SJ,en, <-GL em]
    exact ua _ _
   rw[ee]
   refine ⟨_,rfl,_,rfl,b,_,rfl, .inl (bA.of ah),?_⟩
   walk_at "rd"
   have bh:=behind up em
   have lb:(pH (dj cs) (P.take (k+1)) (P.drop (k+1))).length=((pH (dj cs) (P.take k) (P.drop k)).erase (dj cs p)).length:=by rw[SJ,en]
   have le:((pH (dj cs) (P.take k) (P.drop k)).erase (dj cs p)).length+1=(pH (dj cs) (P.take k) (P.drop k)).length:=by rw[List.length_erase_of_mem em];omega
   have ec:DE (dj cs) (P.take k) (P.drop (k+1)) p=((pH (dj cs) (P.take k) (P.drop k)).filter fun x=>decide (dj cs p<x)).length:=by unfold DE;rw[if_neg z1,Wj]
   have ei:(m:Int)+(((ins (pH (dj cs) (P.take (k+1)) (P.drop (k+1)))).length:Nat) - ((pH (dj cs) (P.take k) (P.drop k)).idxOf (dj cs p):Nat))=((m+DE (dj cs) (P.take k) (P.drop (k+1)) p:Nat):Int):=by rw[mr];omega
   exact ⟨m+DE (dj cs) (P.take k) (P.drop (k+1)) p,some (.int p),some (.int ((pH (dj cs) (P.take k) (P.drop k)).idxOf (dj cs p):Nat)),by rw[<-ei];rfl,ah,by omega,s3.trans (aR.upd _ _ _)⟩
 ·rintro σ H3 ⟨m,pv,nv,rfl,hb,hm,s3⟩
  rw[mr,List.drop_length,Qbp]at hm
  have Bi:m=Ie (dj cs) [] P:=hm
  refine ⟨_,rfl,?_⟩
  rw[Bi,Sz ch]
  exact q H3 fun c o e=>s3 c o (s2 c o (s1 c o e)) (aE e (ar.free s1 nb))
theorem yJ:bI P w K mg base dW 1 f2 d2 ["yard"] (xV K):=by
 refine T.F2.fn.ok Hw (fun vs H Q E h=>Dt h) (fun cC A outer s H vs Q E hr h=>?_)
 refine ⟨_,(aj (aI (bD K rfl Qai Qb5 Qb4 (fU K rfl) (gv [] (by decide+kernel)) (aa (aB (lR K rfl) rfl T.z_sorted boot_sorted (aa (cn ["letter"] [none] (kU (pv 0)) trivial (fun _ _ _ _=>(aF (i:=0) (by decide+kernel:List.Nodup (["letter"]:List Str)) rfl (Or.inl rfl))) (fun _ _ _ _=>(uW (kP (fO K rfl Qai Qed Qec kS (pv 0))))) (fun _ _ _ _=>(pv 0))) ae)) ae)))),?_⟩
 obtain ⟨l,rfl,hl,hz,q⟩:=h
 have hs:(1000:Nat)<sizeLine:=by decide
 refine ⟨rfl,_,rfl,l,rfl,?_⟩
 refine ig (xs:=bN l) (fun i acc H'=>ar H H'/\acc=bN ((l.take i).filter aJ)) (by rw[aY];omega) ⟨ar.refl H,rfl⟩ ?_ ?_
 ·rintro i x acc H1 Nx hi hx gC ⟨s1,rfl⟩ nx
  obtain ⟨c,hc,rfl⟩:=fN hx
  have e:=jD (p:=aJ) hc
  refine ⟨trivial,?_⟩
  refine ⟨_,rfl,rfl,c,rfl,rfl,hl c (Qah hc),_,rfl,?_⟩
  refine bY (fun z=>?_) (fun z=>?_)
  ·rw[if_pos z]at e
   exact ⟨_,rfl,nx _ _ (by simpa using gC) ⟨s1,by rw[e, <-cL]⟩⟩
  ·rw[if_neg z,Qbh]at e
   exact nx _ _ (Qcd gC) ⟨s1,by rw[e]⟩
 ·rintro acc H1 D gC ⟨s1,rfl⟩ hD
  rw[jx,dB]
  have Ye:(l.filter aJ).length<=l.length:=Qcs _ _
  refine ⟨D,(l.filter aJ).map fun c=>[c],rfl,bA.of ah,by rw[Xl];omega,fun p ls hp lG LC=>?_⟩
  obtain ⟨l',rfl,pl⟩:=Be lG
  have A1:=pl.length_eq
  refine ⟨p,l'.map fun c=>[c],rfl,rfl,bA.of ah,by rw[vn];omega,?_⟩
  rw[lW]
  exact q l' _ pl (Bf LC) ((s1.trans (ar.upd hD)).trans (ar.upd hp))
theorem rZ:bI P w K mg base dW 2 f4 d4 ["yard","drawing","end"] (kF K):=by
 have wF:=yJ (P:=P) (w:=w) (base:=base) T
 refine T.F4.fn.ok kL (fun vs H Q E h=>qw h) (fun cC A outer s H vs Q E hr h=>?_)
 refine ⟨_,(ag (aq (i:=3) kL.nd rfl (Or.inl rfl) (b7 (kD K rfl) rfl T.z_list boot_list (aa (aQ (bT K rfl) (aQ (bT K rfl) (pv 1) ai (fun _ _=>rfl)) (bD K rfl Qai Qcb Qca fE (ao wF (hr.mono (by decide)) rfl T.F2.mg T.F2.fn.kp T.F2.bd .nil az (aa (pv 0) ae)) (aa (fO K rfl Qai Qel Qek p8 (pv 2)) ae)) (fun _ _=>rfl)) ae)))
   (ag (bQ (kP (fO K rfl Qai PySem.F.slot_str_isupper PySem.F.type_str_isupper zG (pv 2))) (aj (cQ (fO K rfl Qap PySem.F.slot_list_reverse PySem.F.type_list_reverse zA (pv 3)))) bB)
   (aj (aI (pv 3))))),?_⟩
 obtain ⟨y,dr,ws,os,e,rfl,hy,hz,he,ho,hd,q⟩:=h
 have hs:(100000:Nat)<sizeLine:=by decide
 have DW: ∀c∈y,c<128:=Le hy.lt
 have Yf:=DW e he
 obtain ⟨⟨wt,ot,d1,d2,d3⟩,dO⟩:=hd
 obtain ⟨o,o1,o2,o3⟩:=jM hy he ho
 refine ⟨_,rfl,dr,_,1,_,rfl,rfl,cO.of d1,rfl,?_⟩
 refine ⟨_,rfl,y,rfl,DW,by omega,fun l' H1 A1 AA s1=>?_⟩
 have el:=BM A1 AA
 subst el
 refine ⟨rfl,_,rfl,rfl,e,rfl,rfl,Yf,?_⟩
 refine ⟨gA y,_,rfl,rfl,Gm hy he,?_⟩
 refine ⟨ot,_,_,_,rfl,rfl,cO.of (s1 _ _ d3),bM (Ni o2),?_⟩
 refine ⟨o.o,_,rfl, .inr (cO.of (s1 _ _ (dO o o1).tp)),fun p1 n1=>?_⟩
 refine ⟨_,rfl,rfl,e,rfl,rfl,Yf,_,rfl,bY (fun z=>?_) (fun z=>?_)⟩
 ·refine ⟨_,rfl, .inl ⟨rfl,_,bA.of ah⟩,p1,_,rfl,rfl,ah,?_⟩
  refine ⟨_,rfl,q p1 _ (ar.free s1 n1) ?_ ?_⟩
  ·rw[ah,JT]
   unfold pB
   rw[if_pos z,o3]
  ·exact fun a u ea=>by rw[aD (aE ea (ar.free s1 n1)),aD (aE ea (ar.free s1 n1))];exact s1 a u ea
 ·refine ⟨_,rfl,q p1 _ (ar.free s1 n1) ?_ (s1.trans (ar.upd n1))⟩
  rw[ah]
  unfold pB
  rw[if_neg z,o3]
theorem DX:bI P w K mg base dW 3 f5 d5 ["yard","drawing"] (t5 K):=by
 have wG:=rZ (P:=P) (w:=w) (base:=base) T
 refine T.F5.fn.ok ki (fun vs H Q E h=>Al h) (fun cC A outer s H vs Q E hr h=>?_)
 refine ⟨_,(ag (aq (i:=2) ki.nd rfl (Or.inl rfl) (cT ae))
   (ag (cE PassesOwn.never rfl (kU (pv 0)) (aF (i:=3) ki.nd rfl (Or.inl rfl)) (aj (cE PassesOwn.never rfl (dY K rfl (ao wG (hr.mono (by decide)) rfl T.F4.mg T.F4.fn.kp T.F4.bd .nil az (aa (pv 0) (aa (pv 1) (aa (pv 3) ae))))) (aF (i:=4) ki.nd rfl (Or.inl rfl)) (aj (cQ (bD K rfl Qap Qba Qa9 cU (pv 2) (aa (b8 (aa (aQ (bT K rfl) (pv 4) ai (fun _ _=>rfl)) (aa (aQ (bT K rfl) (pv 4) ai (fun _ _=>rfl)) (aa (pv 3) ae)))) ae)))))))
   (aj (aI (pv 2))))),?_⟩
 obtain ⟨y,dr,ws,os,rfl,hy,hz,ho,hd,q⟩:=h
 have hs:(100000:Nat)<sizeLine:=by decide
 walk_at "wk"
 intro p1 n1
 refine ⟨_,rfl,y,rfl,?_⟩
 refine uY (xs:=bN y) (fun i σ H'=> ∃(ps:List Pt) (ev sv:Option V),σ=[some (.str (S y)),some (.ref dr),some (.ref p1),ev,sv]/\H' p1=some (.lst (Ib ps))/\(∀p∈ps,rS H' p/\p.t≠p1)/\ps.map Pt.is=(y.take i).flatMap (gp y os)/\ps.length<=100*i/\aR p1 H H') ⟨[],none,none,rfl,ah,fun _ h=>absurd h Qag,rfl,Qad _,aR.of (ar.upd n1)⟩ ?_ ?_
 ·rintro i x σ H1 hx ⟨ps,ev,sv,rfl,hp,Cf,oW,j8,s1⟩
  obtain ⟨e,he,rfl⟩:=fN hx
  have Ic:=Qah he
  have hi:i<y.length:=(Mu.mp he).1
  have NT:ar H H1:=fun a u ea=>s1 a u ea (aE ea n1)
  refine ⟨_,rfl,_,rfl,_,rfl,y,dr,ws,os,e,rfl,hy,hz,Ic,ho,hd.same NT,fun p2 H2 n2 tw s2=>?_⟩
  have SK:=JW (H:=H) hy Ic ho hd.od
  refine ⟨p2,rfl,⟨_,bA.of tw⟩,?_⟩
  have h12:p2≠p1:=fun z=>by rw[z,hp]at n2;cases n2
  refine jm (K:=K) (a:=p2) (xs:=tZ (pB y os e)) (fun j σ H'=> ∃(us:List Pt) (sv:Option V),σ=[some (.str (S y)),some (.ref dr),some (.ref p1),some (.str (S [e])),sv]/\H' p1=some (.lst (Ib us))/\H' p2=some (.lst (tZ (pB y os e)))/\(∀p∈us,rS H' p/\p.t≠p1)/\us.map Pt.is=ps.map Pt.is++((pB y os e).take j).map (fun p=>(p.c,p.i,e))/\us.length<=100*i+j/\aR p1 H1 H')
   ⟨ps,sv,rfl,s2 _ _ hp,tw,fun p z_=>⟨(Cf p z_).1.same s2,(Cf p z_).2⟩,by simp,by omega,aR.of s2⟩ (fun j σ H' _ ⟨_,_,_,_,h,_⟩=>bA.of h) ?_ ?_
  ·rintro j x σ H3 Wl ⟨us,sv3,rfl,wU,SM,SN,DY,Eo,s3⟩
   obtain ⟨p,Wm,rfl⟩:=Gp Wl
   obtain ⟨o,oo,po⟩:=JV hy Ic ho (Qah Wm)
   have hj:j<(pB y os e).length:=(Mu.mp Wm).1
   have Hz:ar H H3:=fun a u ea=>s3 a u (NT a u ea) (aE ea n1)
   have pk:=(hd.od o oo).pr p po
   have tp:=Hz _ _ pk.tp
   refine ⟨_,rfl, .inl ⟨rfl,_,bA.of wU⟩,?_⟩
   refine ⟨_,rfl,p.t,_,0,_,rfl,rfl,cO.of tp,rfl,_,rfl,p.t,_,1,_,rfl,rfl,cO.of tp,rfl,?_⟩
   walk_at "wk"
   intro t nt
   have Ip:t≠p1:=fun z=>by rw[z,wU]at nt;cases nt
   refine ⟨p1,_,_,rfl,rfl,(ar.upd nt) _ _ wU,by rw[BN];omega,?_⟩
   refine ⟨us++[⟨t,p.c,p.i,e⟩],_,rfl,by rw[ah];exact congrArg (fun x=>some (HO.lst x)) (Gr us ⟨t,p.c,p.i,e⟩),by rw[aD h12];exact (ar.upd nt) _ _ SM,fun r hr=>?_,?_,by rw[Oy];show us.length+1<=_;omega,fun a u ea z=>by rw[aD z];exact (ar.upd nt) _ _ (s3 a u ea z)⟩
   ·rcases Qaj.mp hr with z | z
    ·exact ⟨((SN r z).1.same (ar.upd nt)).upd (SN r z).2,(SN r z).2⟩
    ·have e2:=Zt.mp z
     subst e2
     exact ⟨rS.upd ⟨ah,pk.cz,pk.iz,(hy.lt e Ic).lt⟩ Ip,Ip⟩
   ·rw[Qaa,DY, <-take_snoc Wm,Qaa,Qbw]
    rfl
  ·rintro σ H3 ⟨us,sv3,rfl,wU,SM,SN,DY,Eo,s3⟩
   rw[vO]at Eo DY
   refine ⟨us,_,_,rfl,wU,SN,?_,by omega,fun a u ea z=>s3 a u (s1 a u ea z) z⟩
   rw[DY,oW, <-take_snoc he,Qbn,Qbp,Qbc,Qfo,Qbh]
   rfl
 ·rintro σ H1 ⟨ps,ev,sv,rfl,hp,Cf,oW,j8,s1⟩
  rw[aY]at j8 oW
  rw[Qbp]at oW
  exact ⟨_,rfl,q p1 ps H1 n1 hp Cf oW (by omega) (fun a u ea=>s1 a u ea (aE ea n1))⟩
theorem gc:bI P w K mg base dW 1 f0 d0 ["letter"] (oa K):=by
 refine T.F0.fn.ok yH (fun vs H Q E h=>vm h) (fun cC A outer s H vs Q E hr h=>?_)
 refine ⟨_,(ag (bQ (kP (fO K rfl Qai Qed Qec kS (pv 0))) (aj (aI (fO K rfl Qai PySem.F.slot_str_upper PySem.F.type_str_upper EO (pv 0)))) bB)
   (aj (aI (fO K rfl Qai Qel Qek p8 (pv 0))))),?_⟩
 obtain ⟨c,rfl,hc,q⟩:=h
 refine ⟨_,rfl,rfl,c,rfl,rfl,hc,_,rfl,bY (fun e=>?_) (fun e=>?_)⟩
 ·refine ⟨_,rfl,rfl,c,rfl,rfl,hc,?_⟩
  have z:aC c=PyProof.Rows.up1 c:=if_pos e
  rw[<-z]
  exact q
 ·refine ⟨_,rfl,rfl,c,rfl,rfl,hc,?_⟩
  have z:aC c=PyProof.Rows.lo1 c:=if_neg e
  rw[<-z]
  exact q
theorem nS:bI P w K mg base dW 2 f6 d6 ["word","cord","place"] (iC K):=by
 have dq:=gc (P:=P) (w:=w) (base:=base) T
 refine T.F6.fn.ok iG (fun vs H Q E h=>mq h) (fun cC A outer s H vs Q E hr h=>?_)
 refine ⟨_,(ag (aq (i:=3) iG.nd rfl (Or.inl rfl) (aA eF (aA cF (pv 2) ai) (aB aM rfl T.z_len Qab (aa (pv 0) ae))))
   (aj (aI (b8 (aa (b8 (aa (pv 1) (aa (pv 3) (aa (ao dq (hr.mono (by decide)) rfl T.F0.mg T.F0.fn.kp T.F0.bd .nil az (aa (aQ eU (pv 0) (pv 3) (fun _ _=>rfl)) ae)) ae)))) (aa (b8 (aa (pv 1) (aa (pv 2) (aa (aQ eU (pv 0) (pv 2) (fun _ _=>rfl)) ae)))) ae)))))),?_⟩
 obtain ⟨w,c,i,rfl,Wn,hi,hz,q⟩:=h
 have hs:(100000:Nat)<sizeLine:=by decide
 have hp:(0:Int)<(w.length:Int):=by omega
 have hpr:=BO hi
 have j8:=An hi
 have e1:w.getD (yW w.length i) 0=w[yW w.length i]:=by rw[kb,Mt j8];rfl
 have e2:w.getD i 0=w[i]:=by rw[kb,Mt hi];rfl
 rw[e1,e2]at q
 refine ⟨_,rfl,_,_,rfl,rfl,_,rfl,w,rfl,by omega,_,_,rfl,rfl,hp,?_⟩
 show wZ 3 (V.int (((i:Int) - 1)%(w.length:Int))) _ _ _
 rw[hpr]
 refine ⟨_,rfl,_,rfl,_,rfl,_,rfl,w,_,_,rfl,rfl,by omega,bM (Mt j8),_,rfl,Wn _ (Qas j8),by show 3<=sizeLine;decide,fun t1 n1=>?_⟩
 refine ⟨_,rfl,_,rfl,_,rfl,_,rfl,w,_,_,rfl,rfl,by omega,bM (Mt hi),by show 3<=sizeLine;decide,fun t2 n2=>?_⟩
 refine ⟨by show 2<=sizeLine;decide,fun t nt=>?_⟩
 have Wo:=(ar.upd (o:= .tup [.ref t1, .ref t2]) nt)
 refine q t t1 t2 _ ah (Wo _ _ ((ar.upd n2) _ _ ah)) (Wo _ _ ah) ((ar.upd n1).trans ((ar.upd n2).trans Wo))
theorem AM:bI P w K mg base dW 4 f7 d7 ["yard","drawing"] (qy K):=by
 have HA:=DX (P:=P) (w:=w) (base:=base) T
 have oX:=nS (P:=P) (w:=w) (base:=base) T
 refine T.F7.fn.ok dm (fun vs H Q E h=>x_ h) (fun cC A outer s H vs Q E hr h=>?_)
 refine ⟨_,(ag (aq (i:=2) dm.nd rfl (Or.inl rfl) Fb)
   (ag (cE PassesOwn.never rfl (xA K rfl rfl T.z_enumerate (aa (ao HA (hr.mono (by decide)) rfl T.F5.mg T.F5.fn.kp T.F5.bd .nil az (aa (pv 0) (aa (pv 1) ae))) ae)) (eY (n:=2) K rfl rfl (bf (aF (i:=3) dm.nd rfl (Or.inl rfl)) (bf (aF (i:=4) dm.nd rfl (Or.inl rfl)) eB))) (aj (vb (pY hr) (pv 2) (pv 4) (pv 3) rfl)))
   (ag (aq (i:=5) dm.nd rfl (Or.inl rfl) (cT ae))
   (ag (cE PassesOwn.never rfl (xx K rfl rfl T.z_enumerate (aa (aQ (bT K rfl) (pv 1) ai (fun _ _=>rfl)) ae)) (eY (n:=2) K rfl rfl (bf (aF (i:=6) dm.nd rfl (Or.inl rfl)) (bf (aF (i:=7) dm.nd rfl (Or.inl rfl)) eB))) (aj (cE PassesOwn.never rfl (cS rfl T.z_range (aa (aB aM rfl T.z_len Qab (aa (pv 7) ae)) ae)) (aF (i:=8) dm.nd rfl (Or.inl rfl)) (ag (aq (i:=9) dm.nd rfl (Or.inl rfl) (ao oX (hr.mono (by decide)) rfl T.F6.mg T.F6.fn.kp T.F6.bd .nil az (aa (pv 7) (aa (pv 6) (aa (pv 8) ae)))))
   (aj (cQ (bD K rfl Qap Qba Qa9 cU (pv 5) (aa (b8 (aa (pv 6) (aa (pv 8) (aa (o9 (pY hr) (pv 2) (aQ (bT K rfl) (pv 9) ai (fun _ _=>rfl)) (fun _ _=>rfl)) (aa (o9 (pY hr) (pv 2) (aQ (bT K rfl) (pv 9) ai (fun _ _=>rfl)) (fun _ _=>rfl)) ae))))) ae))))))))
   (aj (aI (pv 5))))))),?_⟩
 obtain ⟨y,dr,ws,os,rfl,hy,hz,y7,Uz,hd,q⟩:=h
 have hs:(100000:Nat)<sizeLine:=by decide
 have Wq:=Gv hy Uz
 have hbl:=jL hy
 have C1:=Uz.1
 have hwf:=y7.lV
 obtain ⟨⟨wt,ot,d1,d2,d3⟩,dO⟩:=id hd
 walk_at "wk"
 intro d nd
 refine ⟨_,rfl,_,rfl,y,dr,ws,os,rfl,hy,hz,by omega,hd.same (ar.upd nd),fun p1 ps H1 n1 oQ Cf oW Wc s1=>?_⟩
 have Yg:=s1 _ _ (ah (H:=H) (a:=d) (o:=HO.dT []))
 have NT:ar H H1:=(ar.upd nd).trans s1
 have j8:ps.length=(pE y os).length:=by rw[<-oW,Xl]
 refine ⟨p1,rfl,⟨_,bA.of oQ⟩,?_⟩
 have h1d:p1≠d:=fun z=>by rw[z,ah]at n1;cases n1
 refine tf (K:=K) (a:=p1) (xs:=Ib ps) (fun i σ H'=> ∃(aU:List (List Key×V)) (nv pv:Option V),σ=[some (.str (S y)),some (.ref dr),some (.ref d),nv,pv,none,none,none,none,none]/\H' d=some (.dT aU)/\Nums (pE y os) aU i/\aU.length<=i/\aR d H1 H')
  ⟨[],none,none,rfl,Yg,fun p hp=>absurd hp (by simp),Qad _,aR.refl _ _⟩ (fun i σ H' _ ⟨_,_,_,_,_,_,_,h⟩=>bA.of (h _ _ oQ h1d)) ?_ ?_
 ·rintro i x σ H2 T hx ⟨aU,nv,pv,rfl,hd2,Kl,hkl,s2⟩ nT
  obtain ⟨p,hp,rfl⟩: ∃p,ps[i]? =some p/\x=V.ref p.t:=by
   unfold Ib at hx
   rw[Qak]at hx
   cases e:ps[i]? with
   | none=>rw[e]at hx;cases hx
   | some p=>rw[e]at hx;cases hx;exact ⟨p,rfl,rfl⟩
  have hi:i<ps.length:=(Mu.mp hp).1
  have pk:=(Cf p (Qah hp)).1.tp
  have hpd:p.t≠d:=fun z=>by rw[z,Yg]at pk;cases pk
  have hTd:d≠T:=aE hd2 nT
  refine ⟨T,_,rfl,cO.of ah,rfl,_,_,rfl,_,_,rfl,rfl,?_⟩
  refine ⟨_,rfl,_,rfl,_,rfl,d,_,rfl,va.t (k:=vP p.is) (by rw[aD hTd];exact hd2) ((ar.upd nT) _ _ (s2 _ _ pk hpd)) (by omega),?_⟩
  exact ⟨_,_,_,rfl,ah,Kl.put Wq (Sy oW hp),Qao (gW _ _ _) (by omega),fun a o ea z=>by rw[aD z];exact (ar.upd nT) _ _ (s2 a o ea z)⟩
 ·rintro σ H2 ⟨aU,nv,pv,rfl,hd2,Kl,hkl,s2⟩
  rw[BN,j8]at Kl
  have LD: ∀p∈pE y os,dZ aU (vP p)=some (.int ((pE y os).idxOf p:Nat)):=fun p hp=>Kl p (by rw[Qbp];exact hp)
  have uA:ar H H2:=fun a o ea=>s2 a o (NT a o ea) (aE ea nd)
  walk_at "wk"
  intro p2 n2
  have Wr:=ar.upd (o:= .lst []) n2
  have n20:H p2=none:=ar.free uA n2
  refine ⟨_,rfl,dr,_,0,_,rfl,rfl,cO.of (Wr _ _ (uA _ _ d1)),rfl,?_⟩
  refine ⟨wt,rfl,⟨_,cO.of (Wr _ _ (uA _ _ d2))⟩,?_⟩
  refine s_ (K:=K) (a:=wt) (xs:=cy ws) (fun j σ H'=> ∃(qs:List Q4) (cv wv iv av:Option V),σ=[some (.str (S y)),some (.ref dr),some (.ref d),nv,pv,some (.ref p2),cv,wv,iv,av]/\H' p2=some (.lst (DC qs))/\(∀x∈qs,rT H' x)/\qs.map Q4.v=gZ (pE y os) ws j/\qs.length<=12*j/\ar H2 H')
   ⟨[],none,none,none,none,rfl,ah,fun _ h=>absurd h Qag,rfl,Qad _,Wr⟩ (fun j σ H' _ ⟨_,_,_,_,_,_,_,_,_,_,h⟩=>cO.of (h _ _ (uA _ _ d2))) ?_ ?_
  ·rintro j x σ H3 T hx ⟨qs,cv,wv,iv,av,rfl,wU,SO,LF,Ws,s3⟩ nT
   have hj:j<ws.length:=by
    have:=(Mu.mp hx).1
    rwa [bj]at this
   rw[gj hj]at hx
   cases hx
   have NU:ws[j]? =some ws[j]:=Mt hj
   obtain ⟨UA,ou⟩:=y7.all _ (Qas hj)
   generalize ws[j]=w at NU UA ou ⊢
   have Wn: ∀l∈w,l<128:=fun l hl=>(hy.lt l (UA l hl)).lt
   have sT:=ar.upd (o:= .tup [.int j, .str (S w)]) nT
   refine ⟨T,_,rfl,cO.of ah,rfl,_,_,rfl,_,_,rfl,rfl,?_⟩
   refine ⟨_,rfl,w,rfl,by omega,_,rfl,by omega,by omega,?_⟩
   rw[Xo]
   refine eL (fun i σ H'=> ∃(us:List Q4) (iv av:Option V),σ=[some (.str (S y)),some (.ref dr),some (.ref d),nv,pv,some (.ref p2),some (.int j),some (.str (S w)),iv,av]/\H' p2=some (.lst (DC us))/\(∀x∈us,rT H' x)/\us.map Q4.v=gZ (pE y os) ws j++ni (pE y os) j w i/\us.length<=12*j+i/\ar H2 H')
    ⟨qs,iv,av,rfl,sT _ _ wU,fun x hx=>(SO x hx).ts (dv.of sT),by rw[LF];show _=_++[];rw[Qbh],by omega,s3.trans sT⟩ ?_ ?_
   ·rintro i σ H4 hi ⟨us,iv4,av4,rfl,UB,Ef,DY,Eo,s4⟩
    show kQ _ _ _ _ _
    refine i5 fun Dx Cg=>?_
    have e1:w[yW w.length i]? =some (w.getD (yW w.length i) 0):=by rw[kb,Mt (An hi)];rfl
    have e2:w[i]? =some (w.getD i 0):=by rw[kb,Mt hi];rfl
    have m1:=LD _ (Gw hy Uz NU e1 (UA _ (Qah e1)) (.inr rfl))
    have m2:=LD _ (Gw hy Uz NU e2 (UA _ (Qah e2)) (.inl rfl))
    refine ⟨_,rfl,_,rfl,_,rfl,w,j,i,by rw[Qcg];rfl,Wn,hi,by omega,fun t t1 t2 H5 ht Ip Qy s5=>?_⟩
    have hp5:=s5 _ _ UB
    have Yh:=s5 _ _ (s4 _ _ hd2)
    refine ⟨_,rfl, .inl ⟨rfl,_,bA.of hp5⟩,_,rfl,_,rfl,?_⟩
    refine ⟨_,rfl,_,rfl,t,_,0,_,rfl,rfl,cO.of ht,rfl,d,_,rfl,by rw[<-m1];exact qg.t Yh Ip,?_⟩
    refine ⟨_,rfl,_,rfl,t,_,1,_,rfl,rfl,cO.of ht,rfl,d,_,rfl,by rw[<-m2];exact qg.t Yh Qy,?_⟩
    rw[Qcg]
    refine ⟨by show 4<=sizeLine;decide,fun tq ntq=>?_⟩
    have s6:=s5.trans (ar.upd (o:= .tup [.int j, .int i, .int ((pE y os).idxOf (j,yW w.length i,aC (w.getD (yW w.length i) 0)):Nat), .int ((pE y os).idxOf (j,i,w.getD i 0):Nat)]) ntq)
    have Qz:=s6 _ _ UB
    refine ⟨p2,_,_,rfl,rfl,Qz,by rw[BP];omega,?_⟩
    refine Cg _ _ ⟨us++[⟨tq,kG (pE y os) j w i⟩],_,_,rfl,by rw[ah];exact congrArg (fun x=>some (HO.lst x)) (Gy us ⟨tq,kG (pE y os) j w i⟩),fun x hx=>?_,by rw[Qaa,DY,x9,Qbw];rfl,by rw[Oy];show us.length+1<=_;omega,fun a o ea=>by rw[aD (aE ea n2)];exact s6 _ _ (s4 a o ea)⟩
    rcases Qaj.mp hx with g | g
    ·exact (Ef x g).ts ((dv.of s6).trans (dv.CV Qz))
    ·have e3:=Zt.mp g
     subst e3
     exact (dv.CV Qz) _ _ ah
   ·rintro σ H4 ⟨us,iv4,av4,rfl,UB,Ef,DY,Eo,s4⟩
    exact ⟨us,_,_,_,_,rfl,UB,Ef,by rw[DY,vQ NU],by omega,s4⟩
  ·rintro σ H3 ⟨qs,cv,wv,iv,av,rfl,wU,SO,LF,Ws,s3⟩
   rw[bj]at LF
   exact ⟨_,rfl,q p2 qs H3 n20 wU SO LF (uA.trans s3)⟩
theorem Km:bI P w K mg base dW 1 Pc Qh ["_law_word_here","_law_at","_law_way"] (B6 K):=by
 refine T.DS.fn.ok Kk (fun vs H Q E h=>Ha h) (fun cC A outer s H vs Q E hr h=>?_)
 refine ⟨_,(aj (aI (b8 (aa (gv [] (by decide+kernel)) (aa (pv 0) (aa (pv 1) (aa (pv 2) ae))))))),?_⟩
 obtain ⟨w',i,d,rfl,q⟩:=h
 refine ⟨_,rfl,_,rfl,_,rfl,by show 4<=sizeLine;decide,fun p np=>q p np⟩
theorem cY:bI P w K mg base dW 1 O2 P7 ["_law_letter_here"] (tF K):=by
 refine T.gB.fn.ok nP (fun vs H Q E h=>zT h) (fun cC A outer s H vs Q E hr h=>?_)
 refine ⟨_,(ag (aq (i:=1) nP.nd rfl (Or.inl rfl) (gv [97,98,99,100,101,102,103,104,105,106,107,108,109,110,111,112,113,114,115,116,117,118,119,120,121,122] (by decide+kernel)))
   (ag (aq (i:=2) nP.nd rfl (Or.inl rfl) (gv [65,66,67,68,69,70,71,72,73,74,75,76,77,78,79,80,81,82,83,84,85,86,87,88,89,90] (by decide+kernel)))
   (ag (bQ (aG EN (pv 0) (pv 1) (by with_unfolding_all rfl)) (aj (aI (aQ eU (pv 2) (bD K rfl Qai Qcb Qca fE (pv 1) (aa (pv 0) ae)) (fun _ _=>rfl)))) bB)
   (aj (aI (aQ eU (pv 1) (bD K rfl Qai Qcb Qca fE (pv 2) (aa (pv 0) ae)) (fun _ _=>rfl))))))),?_⟩
 obtain ⟨c,rfl,hc,q⟩:=h
 refine ⟨_,rfl,_,rfl,c,aP,rfl,rfl,_,rfl,bY (fun e=>?_) (fun e=>?_)⟩
 ·have hm:c∈aP:=of_decide_eq_true e
  exact ⟨_,rfl,_,rfl,rfl,_,rfl,aP,c,rfl,rfl,hm,kW,_,aC c,rfl,rfl,by decide,xN c hm,q⟩
 ·have hm:c∈kW:=hc.resolve_left fun z=>e (decide_eq_true z)
  exact ⟨_,rfl,_,rfl,rfl,_,rfl,kW,c,rfl,rfl,hm,aP,_,aC c,rfl,rfl,by decide,Dd c hm,q⟩
theorem lD:bI P w K mg base dW 2 Pd Qi ["_law_ray_here","_law_k"] (qF K):=by
 have bz:=cY (P:=P) (w:=w) (base:=base) T
 refine T.iL.fn.ok fK (fun vs H Q E h=>yt h) (fun cC A outer s H vs Q E hr h=>?_)
 refine ⟨_,(ag (jk (pv 0) (eY (n:=4) K rfl rfl (bf (aF (i:=2) fK.nd rfl (Or.inl rfl)) (bf (aF (i:=3) fK.nd rfl (Or.inl rfl)) (bf (aF (i:=4) fK.nd rfl (Or.inl rfl)) (bf (aF (i:=5) fK.nd rfl (Or.inl rfl)) eB))))))
   (ag (bQ (aG kz (pv 1) (aB aM rfl T.z_len Qab (aa (pv 2) ae)) (aK _)) (aj (aI (aQ eU (pv 2) (pv 1) (fun _ _=>rfl)))) bB)
   (ag (aq (i:=1) fK.nd rfl (Or.inl rfl) (aA cF (pv 1) (aB aM rfl T.z_len Qab (aa (pv 2) ae))))
   (ag (bQ (aG jn (pv 5) ai (aK _)) (aj (aI (aQ eU (pv 3) (aA eF (aA aW (pv 4) (pv 1)) (aB aM rfl T.z_len Qab (aa (pv 3) ae))) (fun _ _=>rfl)))) bB)
   (aj (aI (ao bz (hr.mono (by decide)) rfl T.gB.mg T.gB.fn.kp T.gB.bd .nil az (aa (aQ eU (pv 3) (aA eF (aA cF (aA cF (pv 4) ai) (pv 1)) (aB aM rfl T.z_len Qab (aa (pv 3) ae))) (fun _ _=>rfl)) ae)))))))),?_⟩
 obtain ⟨p,w',f,k,rfl,⟨i,d,hp,r⟩,⟨dH,hl,hz⟩,q⟩:=h
 have hs:(100000:Nat)<sizeLine:=by decide
 have m5:=Zs.mpr dH
 have MQ: ∀x:Int,jc w' (x%(w'.length:Int))=some (rd w' x):=fun x=>by
  have h1:=Qbt x (show (w'.length:Int)≠0 by omega)
  have h2:=Qbm x (show (0:Int)<w'.length by omega)
  rw[kE (by omega) h2]
  unfold rd
  rw[Int.emod_emod]
 refine ⟨_,rfl,p,_,rfl,cO.of hp,rfl,_,_,rfl,_,_,rfl,_,_,rfl,_,_,rfl,rfl,?_⟩
 refine ⟨_,rfl,_,rfl,_,rfl,Qad _,_,_,rfl,rfl,_,rfl,gw ?_ ?_⟩
 ·exact decide_eq_false (by show ¬((k:Int)<0);omega)
 refine ⟨_,rfl,_,rfl,_,rfl,Qad _,_,_,rfl,rfl,?_⟩
 rcases r with ⟨rfl,rfl⟩ | ⟨rfl,rfl⟩
 ·refine ⟨_,rfl,_,_,rfl,rfl,_,rfl,ir (by decide) ?_⟩
  refine ⟨_,rfl,_,rfl,_,rfl,_,_,rfl,rfl,_,rfl,w',rfl,by omega,_,_,rfl,rfl,by omega,?_⟩
  refine ⟨w',_,_,rfl,rfl,by omega,MQ _,?_⟩
  have e:i+((k:Int) - (([]:List Nat).length:Int))=i+k:=by show i+((k:Int) - 0)=_;omega
  rw[e]
  exact q
 ·refine ⟨_,rfl,_,_,rfl,rfl,_,rfl,gw (by decide) ?_⟩
  refine ⟨_,rfl,_,rfl,_,_,rfl,rfl,_,rfl,_,_,rfl,rfl,_,rfl,w',rfl,by omega,_,_,rfl,rfl,by omega,?_⟩
  refine ⟨w',_,_,rfl,rfl,by omega,MQ _,_,rfl,hl _ (fH dH _),?_⟩
  have e:i - 1 - ((k:Int) - (([]:List Nat).length:Int))=i - 1 - k:=by show i - 1 - ((k:Int) - 0)=_;omega
  rw[e]
  exact q
theorem AN:bI P w K mg base dW 3 Ph Ql ["_law_one","_law_other_here","_law_k"] (qG K):=by
 have b5:=lD (P:=P) (w:=w) (base:=base) T
 have bz:=cY (P:=P) (w:=w) (base:=base) T
 refine T.Io.fn.ok q8 (fun vs H Q E h=>yv h) (fun cC A outer s H vs Q E hr h=>?_)
 refine ⟨_,(ag (bZ PassesOwn.never (aG eW (ao b5 (hr.mono (by decide)) rfl T.iL.mg T.iL.fn.kp T.iL.bd .nil az (aa (pv 0) (aa (pv 2) ae))) (ao b5 (hr.mono (by decide)) rfl T.iL.mg T.iL.fn.kp T.iL.bd .nil az (aa (pv 1) (aa (pv 2) ae))) (aK _)) (aj (aq (i:=2) q8.nd rfl (Or.inl rfl) (aA aW (pv 2) ai))))
   (aj (aI (b8 (aa (pv 2) (aa (ao bz (hr.mono (by decide)) rfl T.gB.mg T.gB.fn.kp T.gB.bd .nil az (aa (ao b5 (hr.mono (by decide)) rfl T.iL.mg T.iL.fn.kp T.iL.bd .nil az (aa (pv 0) (aa (aA cF (pv 2) ai) ae))) ae)) ae)))))),?_⟩
 obtain ⟨p,q,w',v,f,g,n,rfl,hp,hq,lw,lv,h0,hd,Qk⟩:=h
 have hs:(100000:Nat)<sizeLine:=by decide
 obtain ⟨_,_,d3,_⟩:=iB f g n 0
 have hd0:0<gS f g n 0:=Qfa fun z=>hd (by rw[z];exact h0)
 generalize gS f g n 0=D at*
 refine ⟨fun m σ H'=> ∃k:Nat,σ=[some (.ref p),some (.ref q),some (.int k)]/\m=D - k/\k<=D/\H'=H,⟨_,0,rfl,rfl,Qad _,rfl⟩,?_⟩
 rintro m σ H2 ⟨k,rfl,rfl,hk,rfl⟩
 refine ⟨_,rfl,_,rfl,p,w',f,k,rfl,hp,lw,_,rfl,_,rfl,q,v,g,k,rfl,hq,lv,_,_,rfl,rfl,_,rfl,?_⟩
 by_cases z:k<D
 ·refine ir (decide_eq_true (by rw[d3 k (Qad _) z])) ?_
  refine ⟨_,rfl,_,_,rfl,rfl,D - (k+1),by omega,k+1,rfl,rfl,z,rfl⟩
 ·have e:k=D:=by omega
  subst e
  refine gw (decide_eq_false fun x=>hd (by simpa using x)) ?_
  refine ⟨_,rfl,_,rfl,_,rfl,_,_,rfl,rfl,p,w',f,k - 1,?_,hp,lw,_,rfl,hp.lt lw _,by show 2<=sizeLine;decide,fun t nt=>?_⟩
  ·show [V.ref p,V.int ((k:Int) - 1)]=_
   rw[show (k:Int) - 1=((k - 1:Nat):Int) by omega]
  ·have:=Qk t nt
   rw[show (k:Int) - 1=((k - 1:Nat):Int) by omega]at this
   exact this
theorem DZ:bI P w K mg base dW 1 Pe Qj ["_law_yard_here","_law_x","_law_y","_law_z"] (tT K):=by
 refine T.Uo.fn.ok nR (fun vs H Q E h=>z7 h) (fun cC A outer s H vs Q E hr h=>?_)
 refine ⟨_,(ag (aq (i:=4) nR.nd rfl (Or.inl rfl) (bD K rfl Qai Qcb Qca fE (pv 0) (aa (pv 1) ae)))
   (ag (aq (i:=5) nR.nd rfl (Or.inl rfl) (aA cf (bo gF (pv 0) (bp (pv 4)) bS) (bo gF (pv 0) bS (bp (pv 4)))))
   (aj (aI (dN kz (bD K rfl Qai Qcb Qca fE (pv 5) (aa (pv 2) ae)) (bD K rfl Qai Qcb Qca fE (pv 5) (aa (pv 3) ae)) (aK _)))))),?_⟩
 obtain ⟨y,a,b,c,rfl,hn,ha,hb,hc,hz,q⟩:=h
 have hs:(100000:Nat)<sizeLine:=by decide
 have hlen:(cut y (some ((y.idxOf a:Nat):Int)) none).length+(cut y none (some ((y.idxOf a:Nat):Int))).length<=sizeLine:=by rw[cG,cM,Qa2,Qae];omega
 have AO:cut y (some ((y.idxOf a:Nat):Int)) none++cut y none (some ((y.idxOf a:Nat):Int))=y.drop (y.idxOf a)++y.take (y.idxOf a):=by rw[cG,cM]
 have hm: ∀e∈y,e∈y.drop (y.idxOf a)++y.take (y.idxOf a):=fun e he=>Qds.mem_iff.mp (by rw[Qa7];exact he)
 refine ⟨_,rfl,rfl,_,rfl,y,a,rfl,rfl,ha,?_⟩
 refine ⟨_,rfl,_,rfl,_,rfl,y,rfl,by omega,_,rfl,_,rfl,_,rfl,y,rfl,by omega,_,_,rfl,rfl,hlen,?_⟩
 rw[AO]
 refine ⟨_,rfl,rfl,_,rfl,_,b,rfl,rfl,hm b hb,_,rfl,rfl,_,rfl,_,c,rfl,rfl,hm c hc,_,_,rfl,rfl,?_⟩
 rw[<-FN hn ha hb hc]at q
 exact q
theorem D0:bI P w K mg base dW 4 Pj Qm ["_law_yard_here","_law_one","_law_other_here","_law_third"] (uj K):=by
 have b5:=lD (P:=P) (w:=w) (base:=base) T
 have nU:=AN (P:=P) (w:=w) (base:=base) T
 have HB:=DZ (P:=P) (w:=w) (base:=base) T
 refine T.NP.fn.ok bP (fun vs H Q E h=>Ax h) (fun cC A outer s H vs Q E hr h=>?_)
 refine ⟨_,(ag (aq (i:=4) bP.nd rfl (Or.inr rfl) ai)
   (ag (fT (i:=5) ["_law_ray_here","_law_k"] [none,some 4] bP.nd rfl (Or.inl rfl) (gU K rfl (b8 (aa (pv 1) (aa (pv 2) (aa (pv 3) ae))))) ⟨⟨rfl,rfl,by first | exact .inl rfl | exact .inr rfl⟩,trivial⟩ (fun _ _ _ _=>(aF (i:=0) (by decide+kernel:List.Nodup (["_law_ray_here","_law_k"]:List Str)) rfl (Or.inl rfl))) (fun _ _ _ _=>da) (fun _ _ _ _=>(ao b5 (hr.mono (by decide)) rfl T.iL.mg T.iL.fn.kp T.iL.bd .nil az (aa (pv 0) (aa (pv 1) ae)))))
   (ag (bZ PassesOwn.never (aG eX (aB xF rfl T.z_len Qab (aa (b7 (C3 K rfl rfl) rfl T.z_set boot_set (aa (pv 5) ae)) ae)) ai (aK _)) (ag (aq (i:=4) bP.nd rfl (Or.inr rfl) (aA aW (pv 4) ai))
   (aj (fT (i:=5) ["_law_ray_here","_law_k"] [none,some 4] bP.nd rfl (Or.inl rfl) (gU K rfl (b8 (aa (pv 1) (aa (pv 2) (aa (pv 3) ae))))) ⟨⟨rfl,rfl,by first | exact .inl rfl | exact .inr rfl⟩,trivial⟩ (fun _ _ _ _=>(aF (i:=0) (by decide+kernel:List.Nodup (["_law_ray_here","_law_k"]:List Str)) rfl (Or.inl rfl))) (fun _ _ _ _=>da) (fun _ _ _ _=>(ao b5 (hr.mono (by decide)) rfl T.iL.mg T.iL.fn.kp T.iL.bd .nil az (aa (pv 0) (aa (pv 1) ae))))))))
   (ag (jk (pv 5) (Jl (n:=3) K rfl rfl (bf (aF (i:=6) bP.nd rfl (Or.inl rfl)) (bf (aF (i:=7) bP.nd rfl (Or.inl rfl)) (bf (aF (i:=8) bP.nd rfl (Or.inl rfl)) eB)))))
   (ag (bQ (aG eW (pv 6) (pv 7) (aK _)) (ag (jk (ao nU (hr.mono (by decide)) rfl T.Io.mg T.Io.fn.kp T.Io.bd .nil az (aa (pv 1) (aa (pv 2) (aa (pv 4) ae)))) (eY (n:=2) K rfl rfl (bf (aF (i:=9) bP.nd rfl (Or.inl rfl)) (bf (aF (i:=10) bP.nd rfl (Or.inl rfl)) eB))))
   (aj (vg (i:=6) (j:=7) (k:=8) rfl bP.nd rfl rfl rfl (by decide) rfl rfl rfl (aa (ao b5 (hr.mono (by decide)) rfl T.iL.mg T.iL.fn.kp T.iL.bd .nil az (aa (pv 1) (aa (pv 9) ae))) (aa (ao b5 (hr.mono (by decide)) rfl T.iL.mg T.iL.fn.kp T.iL.bd .nil az (aa (pv 2) (aa (pv 9) ae))) (aa (pv 10) ae))) rfl))) (aj (bQ (aG eW (pv 7) (pv 8) (aK _)) (ag (jk (ao nU (hr.mono (by decide)) rfl T.Io.mg T.Io.fn.kp T.Io.bd .nil az (aa (pv 2) (aa (pv 3) (aa (pv 4) ae)))) (eY (n:=2) K rfl rfl (bf (aF (i:=9) bP.nd rfl (Or.inl rfl)) (bf (aF (i:=10) bP.nd rfl (Or.inl rfl)) eB))))
   (aj (vg (i:=6) (j:=7) (k:=8) rfl bP.nd rfl rfl rfl (by decide) rfl rfl rfl (aa (pv 10) (aa (ao b5 (hr.mono (by decide)) rfl T.iL.mg T.iL.fn.kp T.iL.bd .nil az (aa (pv 2) (aa (pv 9) ae))) (aa (ao b5 (hr.mono (by decide)) rfl T.iL.mg T.iL.fn.kp T.iL.bd .nil az (aa (pv 3) (aa (pv 9) ae))) ae))) rfl))) (aj (bQ (aG eW (pv 6) (pv 8) (aK _)) (ag (jk (ao nU (hr.mono (by decide)) rfl T.Io.mg T.Io.fn.kp T.Io.bd .nil az (aa (pv 1) (aa (pv 3) (aa (pv 4) ae)))) (eY (n:=2) K rfl rfl (bf (aF (i:=9) bP.nd rfl (Or.inl rfl)) (bf (aF (i:=10) bP.nd rfl (Or.inl rfl)) eB))))
   (aj (vg (i:=6) (j:=7) (k:=8) rfl bP.nd rfl rfl rfl (by decide) rfl rfl rfl (aa (ao b5 (hr.mono (by decide)) rfl T.iL.mg T.iL.fn.kp T.iL.bd .nil az (aa (pv 1) (aa (pv 9) ae))) (aa (pv 10) (aa (ao b5 (hr.mono (by decide)) rfl T.iL.mg T.iL.fn.kp T.iL.bd .nil az (aa (pv 3) (aa (pv 9) ae))) ae))) rfl))) bB)))))
   (aj (aI (ao HB (hr.mono (by decide)) rfl T.Uo.mg T.Uo.fn.kp T.Uo.bd .nil az (aa (pv 0) (aa (pv 6) (aa (pv 7) (aa (pv 8) ae)))))))))))),?_⟩
 obtain ⟨y,p,q,r,w',v,u,f,g,h,n,rfl,hy,hz,hp,hq,hr',lw,lv,lu,fy,gy,hhy,fh,gh,hd,Qk⟩:=h
 have hs:(100000:Nat)<sizeLine:=by decide
 refine ⟨_,rfl,_,rfl,_,rfl,by show 3<=sizeLine;decide,fun t nt=>?_⟩
 have ht:upd H t (.tup [.ref p, .ref q, .ref r]) t=some (.tup [.ref p, .ref q, .ref r]):=ah
 have s1:=ar.upd (o:= .tup [.ref p, .ref q, .ref r]) nt
 generalize upd H t (.tup [.ref p, .ref q, .ref r])=H1 at ht s1 ⊢
 refine ⟨t,rfl,⟨_,cO.of ht⟩,?_⟩
 refine il (K:=K) (a:=t) (xs:=[.ref p, .ref q, .ref r]) (fun n acc H'=>H'=H1/\acc=(bN [f 0,g 0,h 0]).take n) (by show 3<sizeLine;decide) (fun n acc H' h=>by rw[h.1];exact cO.of ht) ⟨rfl,rfl⟩ ?_ ?_
 ·rintro n x acc H5 Nx hn hx gC ⟨rfl,rfl⟩ nx
  refine ⟨⟨rfl,trivial⟩,cu ?_⟩
  have key: ∃(a:Addr) (l:List Nat) (F:Int->Nat),x= .ref a/\jU H5 a l F/\Ij l/\(bN [f 0,g 0,h 0])[n]? =some (.str (S [F 0])):=by
   rcases n with _ | _ | _ | n
   ·exact ⟨p,w',f,(Qaf hx).symm,hp.same s1,lw,rfl⟩
   ·exact ⟨q,v,g,(Qaf hx).symm,hq.same s1,lv,rfl⟩
   ·exact ⟨r,u,h,(Qaf hx).symm,hr'.same s1,lu,rfl⟩
   ·exact absurd hn (by show ¬n+1+1+1<3;omega)
  obtain ⟨a,l,F,rfl,ra,la,e⟩:=key
  refine ⟨_,rfl,_,rfl,a,l,F,0,rfl,ra,la,nx _ _ (by simpa using gC) ⟨rfl,?_⟩⟩
  exact take_snoc e
 rintro acc H5 D gC ⟨rfl,rfl⟩ hD
 rw[show (bN [f 0,g 0,h 0]).take [V.ref p,V.ref q,V.ref r].length=bN [f 0,g 0,h 0] from rfl]
 have QA:upd H5 D (.lst (bN [f 0,g 0,h 0])) D=some (.lst (bN [f 0,g 0,h 0])):=ah
 have s2:=s1.trans (ar.upd (o:= .lst (bN [f 0,g 0,h 0])) hD)
 generalize upd H5 D (.lst (bN [f 0,g 0,h 0]))=H6 at QA s2 ⊢
 have hdd:(dd [] ([[f 0],[g 0],[h 0]].map S)).length≠1:=fun z=>by
  have s0: ∀{a b:Nat},S [a]=S [b]->a=b:=fun {a b} e=>by
   have:=congrArg (fun x:Str=>x.cps.toList) e
   simpa [S]using this
  have e:dd [] ([[f 0],[g 0],[h 0]].map S)=dd [] [S [f 0],S [g 0],S [h 0]]:=rfl
  rw[e]at z
  unfold dd at z
  rw[if_neg (by simp)]at z
  unfold dd at z
  by_cases q1:g 0=f 0
  ·rw[if_pos (by rw[q1];simp)]at z
   unfold dd at z
   rw[if_neg (show ¬S [h 0]∈([]++[S [f 0]]:List Str) from fun q=>fh (s0 (Zt.mp q)).symm)]at z
   unfold dd at z
   simp at z
  ·rw[if_neg (show ¬S [g 0]∈([]++[S [f 0]]:List Str) from fun q=>q1 (s0 (Zt.mp q)))]at z
   unfold dd at z
   split at z
   ·unfold dd at z;simp at z
   ·unfold dd at z;simp at z
 refine ⟨fun m σ H'=>m=0/\σ=[some (.str (S y)),some (.ref p),some (.ref q),some (.ref r),some (.int 0),some (.ref D),none,none,none,none,none]/\H'=H6,⟨0,rfl,rfl,rfl⟩,?_⟩
 rintro m σ H7 ⟨rfl,rfl,rfl⟩
 refine ⟨_,rfl,D,[[f 0],[g 0],[h 0]],rfl,bA.of QA,by show 3<=20;decide,fun t2 UC=>?_⟩
 refine ⟨t2,_,rfl,ah,Qao (zR _ _) (by show 0+3<=1000;decide),_,_,rfl,rfl,_,rfl,gw (decide_eq_false (by omega)) ?_⟩
 have s3:=s2.trans (ar.upd (o:=zS t2 (dd [] ([[f 0],[g 0],[h 0]].map S)).length) UC)
 have Kn:upd H7 t2 (zS t2 (dd [] ([[f 0],[g 0],[h 0]].map S)).length) D=some (.lst (bN [f 0,g 0,h 0])):=(ar.upd UC) D _ QA
 generalize upd H7 t2 (zS t2 (dd [] ([[f 0],[g 0],[h 0]].map S)).length)=H8 at s3 Kn ⊢
 refine ⟨_,rfl,D,_,rfl,bA.of Kn,rfl,_,_,rfl,_,_,rfl,_,_,rfl,rfl,?_⟩
 by_cases z:f 0=g 0
 ·obtain hd:=hd z
  refine ⟨_,rfl,_,rfl,_,_,rfl,rfl,_,rfl,ir (decide_eq_true (by rw[z])) ?_⟩
  refine ⟨_,rfl,_,rfl,_,rfl,p,q,w',v,f,g,n,rfl,hp.same s3,hq.same s3,lw,lv,z,hd,fun t3 nt3=>?_⟩
  have s4:=s3.trans (ar.upd (o:= .tup [.int (gS f g n 0:Nat), .str (S [aC (f ((gS f g n 0:Nat) - 1))])]) nt3)
  refine ⟨t3,_,rfl,cO.of ah,rfl,_,_,rfl,_,_,rfl,rfl,?_⟩
  generalize upd H8 t3 (.tup [.int (gS f g n 0:Nat), .str (S [aC (f ((gS f g n 0:Nat) - 1))])])=H9 at s4 ⊢
  refine ⟨_,rfl,_,rfl,p,w',f,_,rfl,hp.same s4,lw,_,rfl,_,rfl,q,v,g,_,rfl,hq.same s4,lv,_,rfl,_,_,_,rfl,?_⟩
  refine ⟨_,rfl,_,rfl,_,rfl,_,rfl,y,_,_,_,rfl,hy.nd,fy _,gy _,hy.cl _ (fy _),by omega,?_⟩
  have:=Qk H9 s4
  unfold Ly at this
  rw[if_pos z]at this
  exact this
 ·refine ⟨_,rfl,_,rfl,_,_,rfl,rfl,_,rfl,gw (decide_eq_false fun q=>z (by simpa using q)) ?_⟩
  refine ⟨_,rfl,_,rfl,_,_,rfl,rfl,_,rfl,gw (decide_eq_false fun q=>gh (by simpa using q)) ?_⟩
  refine ⟨_,rfl,_,rfl,_,_,rfl,rfl,_,rfl,gw (decide_eq_false fun q=>fh (by simpa using q)) ?_⟩
  refine ⟨_,rfl,_,rfl,_,rfl,_,rfl,y,_,_,_,rfl,hy.nd,fy _,gy _,hhy _,by omega,?_⟩
  have:=Qk H8 s3
  unfold Ly at this
  rw[if_neg z]at this
  exact this
theorem D5:bI P w K mg base dW 5 Pk Qn ["_law_yard_here","_law_w","_law_i","_law_v","_law_j"] (uk K):=by
 have wH:=Km (P:=P) (w:=w) (base:=base) T
 have b5:=lD (P:=P) (w:=w) (base:=base) T
 have yK:=D0 (P:=P) (w:=w) (base:=base) T
 refine T.Up.fn.ok iH (fun vs H Q E h=>Ay h) (fun cC A outer s H vs Q E hr h=>?_)
 refine ⟨_,(ag (ze (i:=5) (j:=6) rfl iH.nd rfl rfl (by decide) rfl rfl (aa (ao wH (hr.mono (by decide)) rfl T.DS.mg T.DS.fn.kp T.DS.bd .nil az (aa (pv 1) (aa (pv 2) (aa ai ae)))) (aa (ao wH (hr.mono (by decide)) rfl T.DS.mg T.DS.fn.kp T.DS.bd .nil az (aa (pv 1) (aa (pv 2) (aa (fS dI ai) ae)))) ae)) rfl)
   (ag (ze (i:=7) (j:=8) rfl iH.nd rfl rfl (by decide) rfl rfl (aa (ao wH (hr.mono (by decide)) rfl T.DS.mg T.DS.fn.kp T.DS.bd .nil az (aa (pv 3) (aa (pv 4) (aa ai ae)))) (aa (ao wH (hr.mono (by decide)) rfl T.DS.mg T.DS.fn.kp T.DS.bd .nil az (aa (pv 3) (aa (pv 4) (aa (fS dI ai) ae)))) ae)) rfl)
   (ag (fT (i:=9) ["_law_ray_here"] [none] iH.nd rfl (Or.inl rfl) (gU K rfl (b8 (aa (pv 7) (aa (pv 8) ae)))) trivial (fun _ _ _ _=>(aF (i:=0) (by decide+kernel:List.Nodup (["_law_ray_here"]:List Str)) rfl (Or.inl rfl))) (fun _ _ _ _=>da) (fun _ _ _ _=>(ao b5 (hr.mono (by decide)) rfl T.iL.mg T.iL.fn.kp T.iL.bd .nil az (aa (pv 0) (aa ai ae)))))
   (ag (bQ (aG (u6 K rfl) (ao b5 (hr.mono (by decide)) rfl T.iL.mg T.iL.fn.kp T.iL.bd .nil az (aa (pv 6) (aa ai ae))) (pv 9) (by with_unfolding_all rfl)) (aj (aI sx)) bB)
   (ag (aq (i:=10) iH.nd rfl (Or.inl rfl) (ao yK (hr.mono (by decide)) rfl T.NP.mg T.NP.fn.kp T.NP.bd .nil az (aa (pv 0) (aa (pv 5) (aa (pv 7) (aa (pv 6) ae))))))
   (aj (aI (dN ME (pv 10) (ao yK (hr.mono (by decide)) rfl T.NP.mg T.NP.fn.kp T.NP.bd .nil az (aa (pv 0) (aa (pv 5) (aa (pv 8) (aa (pv 6) ae))))) (aK _))))))))),?_⟩
 obtain ⟨y,w',v,i,j,rfl,hy,hz,hw,ou,hv,Yi,Qk⟩:=h
 have hs:(100000:Nat)<sizeLine:=by decide
 have lw:Ij w':=⟨hw.ne,fun c hc=>hy.lt c (hw.bW c hc),by omega⟩
 have lv:Ij v:=⟨hv.ne,fun c hc=>hy.lt c (hv.bW c hc),by omega⟩
 refine ⟨_,rfl,_,rfl,w',i,1,rfl,fun p1 n1=>?_⟩
 have r1:jU (upd H p1 (.tup [.str (S []), .str (S w'), .int i, .int 1])) p1 w' (sq w' i):=⟨i,1,ah, .inl ⟨rfl,rfl⟩⟩
 have s1:=ar.upd (o:= .tup [.str (S []), .str (S w'), .int i, .int 1]) n1
 generalize upd H p1 (.tup [.str (S []), .str (S w'), .int i, .int 1])=H1 at r1 s1 ⊢
 refine ⟨_,rfl,_,rfl,_,rfl,w',i, -1,rfl,fun p2 n2=>?_⟩
 have r2:jU (upd H1 p2 (.tup [.str (S []), .str (S w'), .int i, .int (-1)])) p2 w' (bq w' (i - 1)):=⟨i, -1,ah, .inr ⟨rfl,rfl⟩⟩
 have t2:=ar.upd (o:= .tup [.str (S []), .str (S w'), .int i, .int (-1)]) n2
 generalize upd H1 p2 (.tup [.str (S []), .str (S w'), .int i, .int (-1)])=H2 at r2 t2 ⊢
 refine ⟨_,_,rfl,?_⟩
 refine ⟨_,rfl,_,rfl,v,j,1,rfl,fun p3 n3=>?_⟩
 have r3:jU (upd H2 p3 (.tup [.str (S []), .str (S v), .int j, .int 1])) p3 v (sq v j):=⟨j,1,ah, .inl ⟨rfl,rfl⟩⟩
 have t3:=ar.upd (o:= .tup [.str (S []), .str (S v), .int j, .int 1]) n3
 generalize upd H2 p3 (.tup [.str (S []), .str (S v), .int j, .int 1])=H3 at r3 t3 ⊢
 refine ⟨_,rfl,_,rfl,_,rfl,v,j, -1,rfl,fun p4 n4=>?_⟩
 have r4:jU (upd H3 p4 (.tup [.str (S []), .str (S v), .int j, .int (-1)])) p4 v (bq v (j - 1)):=⟨j, -1,ah, .inr ⟨rfl,rfl⟩⟩
 have t4:=ar.upd (o:= .tup [.str (S []), .str (S v), .int j, .int (-1)]) n4
 generalize upd H3 p4 (.tup [.str (S []), .str (S v), .int j, .int (-1)])=H4 at r4 t4 ⊢
 have s4:=((s1.trans t2).trans t3).trans t4
 replace r1:=((r1.same t2).same t3).same t4
 replace r2:=(r2.same t3).same t4
 replace r3:=r3.same t4
 clear t2 t3 t4 n1 n2 n3 n4
 refine ⟨_,_,rfl,?_⟩
 refine ⟨_,rfl,_,rfl,by show 2<=sizeLine;decide,fun t nt=>?_⟩
 have ht:upd H4 t (.tup [.ref p3, .ref p4]) t=some (.tup [.ref p3, .ref p4]):=ah
 have s5:=ar.upd (o:= .tup [.ref p3, .ref p4]) nt
 generalize upd H4 t (.tup [.ref p3, .ref p4])=H5 at ht s5 ⊢
 refine ⟨t,rfl,⟨_,cO.of ht⟩,?_⟩
 have e3:sq v j 0=rd v j:=by unfold sq;rw[Qbs]
 have e4:bq v (j - 1) 0=aC (rd v (j - 1)):=by unfold bq;rw[Qdb]
 have e1:sq w' i 0=rd w' i:=by unfold sq;rw[Qbs]
 have e2:bq w' (i - 1) 0=aC (rd w' (i - 1)):=by unfold bq;rw[Qdb]
 refine il (K:=K) (a:=t) (xs:=[.ref p3, .ref p4]) (fun n acc H'=>H'=H5/\acc=(bN [rd v j,aC (rd v (j - 1))]).take n) (by show 2<sizeLine;decide) (fun n acc H' h=>by rw[h.1];exact cO.of ht) ⟨rfl,rfl⟩ ?_ ?_
 ·rintro n x acc H5 Nx hn hx gC ⟨rfl,rfl⟩ nx
  refine ⟨trivial,cu ?_⟩
  have key: ∃(a:Addr) (F:Int->Nat),x= .ref a/\jU H5 a v F/\(bN [rd v j,aC (rd v (j - 1))])[n]? =some (.str (S [F 0])):=by
   rcases n with _ | _ | n
   ·exact ⟨p3,_,(Qaf hx).symm,r3.same s5,by rw[e3];rfl⟩
   ·exact ⟨p4,_,(Qaf hx).symm,r4.same s5,by rw[e4];rfl⟩
   ·exact absurd hn (by show ¬n+1+1<2;omega)
  obtain ⟨a,F,rfl,ra,e⟩:=key
  refine ⟨_,rfl,a,v,F,0,rfl,ra,lv,nx _ _ (by simpa using gC) ⟨rfl,?_⟩⟩
  exact take_snoc e
 rintro acc H5 D gC ⟨rfl,rfl⟩ hD
 rw[show (bN [rd v j,aC (rd v (j - 1))]).take [V.ref p3,V.ref p4].length=bN [rd v j,aC (rd v (j - 1))] from rfl]
 have QA:upd H5 D (.lst (bN [rd v j,aC (rd v (j - 1))])) D=some (.lst (bN [rd v j,aC (rd v (j - 1))])):=ah
 have s6:=(s4.trans s5).trans (ar.upd (o:= .lst (bN [rd v j,aC (rd v (j - 1))])) hD)
 have s7:=s5.trans (ar.upd (o:= .lst (bN [rd v j,aC (rd v (j - 1))])) hD)
 generalize upd H5 D (.lst (bN [rd v j,aC (rd v (j - 1))]))=H6 at QA s6 s7 ⊢
 replace r1:=r1.same s7
 replace r2:=r2.same s7
 replace r3:=r3.same s7
 replace r4:=r4.same s7
 have vR:sO (.str (S [bq w' (i - 1) 0])) (bN [rd v j,aC (rd v (j - 1))])=decide ([bq w' (i - 1) 0]∈[[rd v j],[aC (rd v (j - 1))]]):=v_ [bq w' (i - 1) 0] [[rd v j],[aC (rd v (j - 1))]]
 refine ⟨_,rfl,p2,w',_,0,rfl,r2,lw,_,rfl,D,_,rfl, .inl (bA.of QA),rfl,rfl,?_⟩
 refine ⟨_,rfl,?_⟩
 by_cases z:aC (rd w' (i - 1))=rd v j\/aC (rd w' (i - 1))=aC (rd v (j - 1))
 ·refine ir (by show sO _ _=true;exact vR.trans (decide_eq_true (by rw[e2];rcases z with z | z<;>rw[z]<;>simp))) ?_
  have:=Qk H6 s6
  unfold G_ at this
  rw[if_pos z]at this
  exact this
 ·refine gw (by show sO _ _=false;exact vR.trans (decide_eq_false (by rw[e2];intro q;exact z (by simpa using q)))) ?_
  have z1:aC (rd w' (i - 1))≠rd v j:=fun q=>z (.inl q)
  have z2:aC (rd w' (i - 1))≠aC (rd v (j - 1)):=fun q=>z (.inr q)
  have b1: ∀k,sq w' i k∈y:=fun k=>hw.rd _
  have b2: ∀k,bq w' (i - 1) k∈y:=fun k=>hy.cl _ (hw.rd _)
  have b3: ∀k,sq v j k∈y:=fun k=>hv.rd _
  have b4: ∀k,bq v (j - 1) k∈y:=fun k=>hy.cl _ (hv.rd _)
  have c1:sq w' i 0≠bq w' (i - 1) 0:=by rw[e1,e2];exact hw.red i
  have u3:=eN (f:=sq w' i) (g:=sq v j) hw.ne hv.ne (fun k=>cq w' i k) (fun k=>cq v j k) (fun q=>z2 (congrArg aC q))
  have u4:=eN (f:=sq w' i) (g:=bq v (j - 1)) hw.ne hv.ne (fun k=>cq w' i k) (fun k=>kZ v (j - 1) k) (fun q=>z1 (by
   have q1:rd w' (i - 1)=aC (rd v j):=q.trans (by unfold bq;rw[show (j:Int) - 1 - -1=j by omega])
   rw[q1,aN (hy.lt _ (hv.rd j))]))
  refine ⟨_,rfl,_,rfl,_,rfl,_,rfl,y,p1,p3,p2,w',v,w',_,_,_,w'.length+v.length,rfl,hy,hz,r1,r3,r2,lw,lv,lw,b1,b3,b2,c1,by rw[e3,e2];exact Ne.symm z1,fun _=>u3.2,fun H7 s8=>?_⟩
  refine ⟨_,rfl,_,rfl,_,rfl,_,rfl,_,rfl,y,p1,p4,p2,w',v,w',_,_,_,w'.length+v.length,rfl,hy,hz,r1.same s8,r4.same s8,r2.same s8,lw,lv,lw,b1,b4,b2,c1,by rw[e4,e2];exact Ne.symm z2,fun _=>u4.2,fun H8 s9=>?_⟩
  refine ⟨_,_,rfl,rfl,?_⟩
  have:=Qk H8 ((s6.trans s8).trans s9)
  unfold G_ at this
  rw[if_neg z,e2.symm]at this
  refine Eq.mp ?_ this
  congr 2
theorem ow:bI P w K mg base dW 6 Pl Qo ["_law_yard_here","_law_w","_law_v"] (oq K):=by
 have HC:=D5 (P:=P) (w:=w) (base:=base) T
 refine T.NQ.fn.ok g8 (fun vs H Q E h=>we h) (fun cC A outer s H vs Q E hr h=>?_)
 refine ⟨_,(ag (aq (i:=3) g8.nd rfl (Or.inl rfl) ai)
   (ag (cE PassesOwn.never rfl (cS rfl T.z_range (aa (aB aM rfl T.z_len Qab (aa (pv 1) ae)) ae)) (aF (i:=4) g8.nd rfl (Or.inr rfl)) (aj (aq (i:=3) g8.nd rfl (Or.inl rfl) (aA aW (pv 3) (bD K rfl Qap PySem.F.slot_list_count PySem.F.type_list_count (Dc K rfl) (cn ["_law_j","_law_yard_here","_law_w","_law_i","_law_v"] [none,some 0,some 1,some 4,some 2] (cS rfl T.z_range (aa (aB aM rfl T.z_len Qab (aa (pv 2) ae)) ae)) ⟨⟨rfl,rfl,by first | exact .inl rfl | exact .inr rfl⟩,⟨⟨rfl,rfl,by first | exact .inl rfl | exact .inr rfl⟩,⟨⟨rfl,rfl,by first | exact .inl rfl | exact .inr rfl⟩,⟨⟨rfl,rfl,by first | exact .inl rfl | exact .inr rfl⟩,trivial⟩⟩⟩⟩ (fun _ _ _ _=>(aF (i:=0) (by decide+kernel:List.Nodup (["_law_j","_law_yard_here","_law_w","_law_i","_law_v"]:List Str)) rfl (Or.inl rfl))) (fun _ _ _ _=>da) (fun _ _ _ _=>(ao HC (hr.mono (by decide)) rfl T.Up.mg T.Up.fn.kp T.Up.bd .nil az (aa (pv 1) (aa (pv 2) (aa (pv 3) (aa (pv 4) (aa (pv 0) ae)))))))) (aa sx ae))))))
   (aj (aI (pv 3))))),?_⟩
 obtain ⟨y,w',v,rfl,hy,hz,hw,ou,hv,Yi,Qk⟩:=h
 have hs:(100000:Nat)<sizeLine:=by decide
 refine ⟨_,rfl,w',rfl,by omega,_,rfl,by omega,by omega,?_⟩
 rw[Xo]
 refine eL (fun i σ H'=>ar H H'/\ ∃(F:Nat) (iv:Option V),(F:Int)=sm i (fun a=>sm v.length fun b=>one (G_ y w' v a b=true))/\σ=[some (.str (S y)),some (.str (S w')),some (.str (S v)),some (.int F),iv]) ⟨ar.refl H,0,none,rfl,rfl⟩ ?_ ?_
 ·rintro i σ H1 hi ⟨s1,F,iv,hF,rfl⟩
  have ko:i<w'.length:=by omega
  refine ⟨_,rfl,_,rfl,v,rfl,by omega,_,rfl,by omega,by omega,?_⟩
  rw[Xo]
  refine jv (fun n acc H'=>ar H H'/\acc=((List.range n).map fun j:Nat=>G_ y w' v i j).map V.bl) (by omega) ⟨s1,rfl⟩ ?_ ?_
  ·rintro n acc H2 Nx hn gC ⟨s2,rfl⟩ nx
   refine ⟨⟨rfl,rfl,rfl,rfl,trivial⟩,cu ?_⟩
   refine ⟨_,rfl,_,rfl,_,rfl,_,rfl,_,rfl,y,w',v,i,n,?_,hy,hz,hw.resolve_left (fun e=>by rw[e]at ko;simp at ko),ou,hv,Yi,fun H3 s3=>nx _ _ (by simp) ⟨s2.trans s3,?_⟩⟩
   ·show [V.str (S y),V.str (S w'),V.int (0+(i:Int)),V.str (S v),V.int (0+(n:Int))]=_
    rw[Qcg,Qcg]
   ·rw[Qbo,Qaa,Qaa]
    rfl
  rintro acc H2 D gC ⟨s2,rfl⟩ hD
  refine ⟨.inl ⟨rfl,_,bA.of ah⟩,D,_,rfl,rfl,ah,?_⟩
  refine ⟨_,_,rfl,rfl,?_⟩
  refine ⟨s2.trans (ar.upd hD),F+(((List.range v.length).map fun j:Nat=>G_ y w' v i j).countP id),_,?_,rfl⟩
  rw[Qa8,hF,Hc (fun j=>G_ y w' v i j)]
  rfl
 ·rintro σ H1 ⟨s1,F,iv,hF,rfl⟩
  refine ⟨_,rfl,?_⟩
  rcases hw with rfl | hw
  ·exact Qk F H1 s1 (hF.trans rfl)
  ·exact Qk F H1 s1 (hF.trans (Kc hy hw hv))
theorem AQ:bI P w K mg base dW 1 OS PR ["seen"] (qC K bu aV):=by
 refine T.NL.fn.ok lC (fun vs H Q E h=>yl h) (fun cC A outer s H vs Q E hr h=>?_)
 refine ⟨_,(ag (aq (i:=1) lC.nd rfl (Or.inl rfl) (b6 K rfl (pv 0) rfl))
   (ag (aq (i:=2) lC.nd rfl (Or.inl rfl) (aQ (bT K rfl) (b6 K rfl (pv 0) rfl) ai (fun _ _=>rfl)))
   (ag (bQ (kP (b6 K rfl (pv 1) rfl)) (aj (aI (b8 (aa (pv 2) (aa (aA dA (b6 K rfl (pv 0) rfl) (b6 K rfl (pv 1) rfl)) ae))))) bB)
   (aj (aI (b8 (aa (fS dI (pv 2)) (aa (fS dI (aA dA (aA cF (aA cF (b6 K rfl (pv 1) rfl) ai) (b6 K rfl (pv 0) rfl)) (b6 K rfl (pv 1) rfl))) ae)))))))),?_⟩
 obtain ⟨y,lg,s1,rfl,hs,q⟩:=h
 obtain ⟨d1,e1⟩:=hs.ob
 obtain ⟨d2,e2⟩:=hs.wy.ob
 have hp:=hs.pz
 have rp:=jR hs.wy.sw.ne hs.wy.rt
 have u1:=hs.wy.uz
 have u2:=hs.wy.lz
 refine ⟨_,rfl,s1.a,aV,d1,_,_,rfl,e1,T.eJ,T.n_Seen_way,nz,?_⟩
 refine ⟨_,rfl,s1.a,aV,d1,_,_,rfl,e1,T.eJ,T.n_Seen_strand,uc,s1.t,_,0,_,rfl,rfl,cO.of hs.st,rfl,?_⟩
 refine ⟨_,rfl,s1.wy,bu,d2,_,_,rfl,e2,T.g7,T.n_Way_leads,GP,?_⟩
 walk_at "rd"
 have ed1:(s1.p:Int) / (s1.r:Int)=((s1.p / s1.r:Nat):Int):=(Qdw _ _).symm
 have ed2:((s1.u.length:Int) - 1 - s1.p) / (s1.r:Int)=(((s1.u.length - 1 - s1.p) / s1.r:Nat):Int):=by
  rw[Qdw];congr 1;omega
 refine bY (fun z=>?_) (fun z=>?_)
 ·refine ⟨_,rfl,_,rfl,s1.a,aV,d1,_,_,rfl,e1,T.eJ,T.n_Seen_place,mz,_,rfl,s1.wy,bu,d2,_,_,rfl,e2,T.g7,T.n_Way_root_size,pJ,_,_,rfl,rfl,⟨by omega,by omega⟩,by show 2<=sizeLine;decide,fun p np=>?_⟩
  refine q p _ np ?_ (ar.upd np)
  rw[ah]
  unfold As
  rw[if_pos z, <-ed1]
 ·refine ⟨_,rfl,_,rfl,_,rfl,s1.wy,bu,d2,_,_,rfl,e2,T.g7,T.n_Way_size,BS,_,_,rfl,rfl,_,rfl,s1.a,aV,d1,_,_,rfl,e1,T.eJ,T.n_Seen_place,mz,_,_,rfl,rfl,_,rfl,s1.wy,bu,d2,_,_,rfl,e2,T.g7,T.n_Way_root_size,pJ,_,_,rfl,rfl,⟨by omega,by omega⟩,_,rfl,by show 2<=sizeLine;decide,fun p np=>?_⟩
  refine q p _ np ?_ (ar.upd np)
  rw[ah]
  unfold As
  rw[if_neg z, <-ed2]
theorem eA:bI P w K mg base dW 1 O1 P6 ["_law_box_here","_law_many"] (xO K):=by
 refine T.dk.fn.ok qZ (fun vs H Q E h=>De h) (fun cC A outer s H vs Q E hr h=>?_)
 refine ⟨_,(ag (bQ (aG jn (aQ (bK K rfl) (pv 0) ai (fun _ _=>rfl)) ai (aK _)) (ag (aq (i:=2) qZ.nd rfl (Or.inl rfl) (aA eF (aQ (bK K rfl) (pv 0) ai (fun _ _=>rfl)) (pv 1)))
   (ag (jk (aA dA (aQ (bK K rfl) (pv 0) ai (fun _ _=>rfl)) (pv 1)) (Ex (pv 0) ai set_list))
   (aj (aI (pv 2))))) bB)
   (ag (aq (i:=3) qZ.nd rfl (Or.inl rfl) (aA eF (aA iN (aQ (bK K rfl) (pv 0) ai (fun _ _=>rfl)) ai) ai))
   (ag (jk (aA aW (aA eF (aA aW (aA iN (pv 3) ai) ai) ai) ai) (Ex (pv 0) ai set_list))
   (aj (aI (aA eF (aA dA (aA aW (aA iN (pv 3) ai) (aQ (bK K rfl) (pv 0) ai (fun _ _=>rfl))) ai) (pv 1))))))),?_⟩
 obtain ⟨b,m,rfl,⟨x,y,hb⟩,h1,h2,q⟩:=h
 have fin: ∀(r x' y':Int),0<=r->r<m->Q (.int r) (upd H b (.lst [.int x', .int y'])):=fun r x' y' h3 h4=>by
  have e:r=((r.toNat:Nat):Int):=by omega
  rw[e]
  exact q r.toNat _ (by omega) ⟨x',y',ah⟩ (aR.upd b H _)
 refine ⟨_,rfl,b,_,0,_,rfl,rfl,bA.of hb,rfl,_,_,rfl,rfl,_,rfl,bY (fun e=>?_) (fun e=>?_)⟩
 ·refine ⟨_,rfl,b,_,0,_,rfl,rfl,bA.of hb,rfl,_,rfl,_,_,rfl,rfl,(by omega:0<m),?_⟩
  refine ⟨_,rfl,b,_,0,_,rfl,rfl,bA.of hb,rfl,_,rfl,_,_,rfl,rfl,⟨by omega,by omega⟩,_,rfl,b,_,0,0,rfl,rfl,hb,rfl,_,rfl,?_⟩
  exact fin (x%m) (x / m) y (Qbt _ (by omega)) (Qbm _ (by omega))
 ·refine ⟨_,rfl,b,_,1,_,rfl,rfl,bA.of hb,rfl,_,_,rfl,rfl, .inr ⟨by decide,by decide⟩,_,_,rfl,rfl,(by decide:(0:Int)<2147483647),?_⟩
  refine ⟨_,rfl,_,_,rfl,rfl, .inr ⟨by decide,by decide⟩,_,_,rfl,rfl,_,_,rfl,rfl,(by decide:(0:Int)<2147483629),_,_,rfl,rfl,_,rfl,b,_,1,1,rfl,rfl,hb,rfl,?_⟩
  refine ⟨_,rfl,_,_,rfl,rfl, .inr ⟨by decide,by decide⟩,_,rfl,b,_,1,_,rfl,rfl,bA.of ah,rfl,_,_,rfl,rfl,_,_,rfl,rfl,⟨by decide,by decide⟩,_,rfl,_,_,rfl,rfl,(by omega:0<m),?_⟩
  exact fin _ _ _ (Qbt _ (by omega)) (Qbm _ (by omega))
theorem uC:bI P w K mg base dW 2 O7 Qb ["_law_box_here","_law_yard_here","_law_top"] (tR K):=by
 have a_:=eA (P:=P) (w:=w) (base:=base) T
 have bz:=cY (P:=P) (w:=w) (base:=base) T
 refine T.NN.fn.ok dE (fun vs H Q E h=>z6 h) (fun cC A outer s H vs Q E hr h=>?_)
 refine ⟨_,(ag (aq (i:=3) dE.nd rfl (Or.inl rfl) (aA aW ai (ao a_ (hr.mono (by decide)) rfl T.dk.mg T.dk.fn.kp T.dk.bd .nil az (aa (pv 0) (aa (pv 2) ae)))))
   (ag (aq (i:=4) dE.nd rfl (Or.inl rfl) (ao a_ (hr.mono (by decide)) rfl T.dk.mg T.dk.fn.kp T.dk.bd .nil az (aa (pv 0) (aa ai ae))))
   (ag (aq (i:=5) dE.nd rfl (Or.inl rfl) (gv [] (by decide+kernel)))
   (eZ (bZ PassesOwn.never (aG kz (aB aM rfl T.z_len Qab (aa (pv 5) ae)) (pv 3) (aK _)) (ag (aq (i:=6) dE.nd rfl (Or.inl rfl) (aQ eU (pv 1) (ao a_ (hr.mono (by decide)) rfl T.dk.mg T.dk.fn.kp T.dk.bd .nil az (aa (pv 0) (aa (aB aM rfl T.z_len Qab (aa (pv 1) ae)) ae))) (fun _ _=>rfl)))
   (eZ (bQ (PW.pt (gD (aG eX (pv 4) ai (aK _)) (gD (aG jn (aB aM rfl T.z_len Qab (aa (pv 5) ae)) ai (aK _)) (gq (aG kz (aB aM rfl T.z_len Qab (aa (pv 5) ae)) ai (aK _)))))) (aj (aq (i:=6) dE.nd rfl (Or.inl rfl) (aQ eU (pv 5) (aA eF (aB aM rfl T.z_len Qab (aa (pv 5) ae)) ai) (fun _ _=>rfl)))) bB)
   (aj (bQ (PW.pt (Ew (aG eW (pv 5) (gv [] (by decide+kernel)) (aK _)) (y_ (aG qe (pv 6) (ao bz (hr.mono (by decide)) rfl T.gB.mg T.gB.fn.kp T.gB.bd .nil az (aa (aQ eU (pv 5) (fS dI ai) (fun _ _=>rfl)) ae)) (aK _))))) (aj (aq (i:=5) dE.nd rfl (Or.inl rfl) (aA cf (pv 5) (pv 6)))) (aj (aq (i:=5) dE.nd rfl (Or.inl rfl) (aA cf (pv 5) (aQ eU (pv 5) (fS dI ai) (fun _ _=>rfl))))))))))
   (eZ (bZ PassesOwn.never (PW.pt (gD (aG jn (aB aM rfl T.z_len Qab (aa (pv 5) ae)) ai (aK _)) (gq (aG eW (aQ eU (pv 5) ai (fun _ _=>rfl)) (ao bz (hr.mono (by decide)) rfl T.gB.mg T.gB.fn.kp T.gB.bd .nil az (aa (aQ eU (pv 5) (fS dI ai) (fun _ _=>rfl)) ae)) (aK _))))) (aj (aq (i:=5) dE.nd rfl (Or.inl rfl) (bo gF (pv 5) bS (bp (fS dI ai))))))
   (eZ (bQ (PW.pt (gD (aG eX (pv 4) ai (aK _)) (gq (aG EB (aA iN (aB aM rfl T.z_len Qab (aa (pv 5) ae)) ai) (pv 2) (aK _))))) (aj (aq (i:=5) dE.nd rfl (Or.inl rfl) (aA cf (pv 5) (pv 5)))) bB)
   (aj (aI (pv 5))))))))),?_⟩
 obtain ⟨b,y,top,rfl,hb,hy,Ko,Ci,Ip,Qy,q⟩:=h
 have hs:(100000:Nat)<sizeLine:=by decide
 have SQ:y.length<=sizeLine:=by omega
 refine ⟨_,rfl,_,rfl,b,_,rfl,hb,by omega,by omega,fun n H1 hn n_ s1=>?_⟩
 refine ⟨_,_,rfl,rfl,_,rfl,b,5,rfl,n_,by decide,by decide,fun fm H2 Yj iK s2=>?_⟩
 have T1:n+1<=top:=by omega
 have uA:=s1.trans s2
 walk_at "wk"
 refine ⟨fun σ' H'=> ∃(w:List Nat) (lv:Option V),σ'=[some (.ref b),some (.str (S y)),some (.int top),some (.int (1+(n:Int))),some (.int fm),some (.str (S w)),lv]/\Wd y w/\1<=w.length/\w.length<=n+1/\bH H' b/\aR b H H',?_,?_⟩
 ·refine ⟨fun k σ H'=> ∃(w:List Nat) (lv:Option V),σ=[some (.ref b),some (.str (S y)),some (.int top),some (.int (1+(n:Int))),some (.int fm),some (.str (S w)),lv]/\k=n+1 - w.length/\Wd y w/\w.length<=n+1/\bH H' b/\aR b H H',⟨_,[],none,rfl,rfl,⟨Ek.nil,fun _ h=>absurd h Qag⟩,Qad _,iK,uA⟩,?_⟩
  rintro k σ H3 ⟨w,lv,rfl,rfl,hw,ou,iY,s3⟩
  have oY:w.length<=sizeLine:=by omega
  refine ⟨_,rfl,w,rfl,oY,_,rfl,_,_,rfl,rfl,_,rfl,bY (fun z=>?_) (fun z=>?_)⟩
  ·have z1:(w.length:Int)<1+(n:Int):=of_decide_eq_true z
   refine ⟨_,rfl,_,rfl,_,rfl,y,rfl,SQ,b,_,rfl,iY,by omega,by omega,fun r H4 Iq oz s4=>?_⟩
   have hr:r<y.length:=by omega
   refine ⟨y,_,_,rfl,rfl,SQ,bM (Mt hr),?_⟩
   have mZ:y[r]∈y:=Qas hr
   generalize y[r]=c at mZ ⊢
   refine ⟨fun σ' H'=>H'=H4/\ ∃e,e∈y/\σ'=[some (.ref b),some (.str (S y)),some (.int top),some (.int (1+(n:Int))),some (.int fm),some (.str (S w)),some (.str (S [e]))],?_,?_⟩
   ·refine ⟨_,rfl,_,_,rfl,rfl,_,rfl,bY (fun f1=>?_) (fun f1=>?_)⟩
    ·refine ⟨_,rfl,w,rfl,oY,_,_,rfl,rfl,_,rfl,bY (fun f2=>?_) (fun f2=>?_)⟩
     ·have g2:(1:Int)<w.length:=of_decide_eq_true f2
      have dH:w≠[]:=fun g=>by rw[g]at g2;simp at g2
      refine ⟨_,rfl,w,rfl,oY,_,_,rfl,rfl,_,rfl,bY (fun f3=>?_) (fun f3=>?_)⟩
      ·refine ⟨_,rfl,_,rfl,w,rfl,oY,_,_,rfl,rfl,by show (0:Int)<2;decide,w,_,_,rfl,rfl,oY,kE (by show -(w.length:Int)<=(w.length:Int)%2;omega) (by show (w.length:Int)%2<_;omega),?_⟩
       exact ⟨rfl,_,hw.bW _ (fH dH _),rfl⟩
      ·exact ⟨rfl,c,mZ,rfl⟩
     ·refine xk ?_
      exact ⟨rfl,c,mZ,rfl⟩
    ·refine xk ?_
     exact ⟨rfl,c,mZ,rfl⟩
   rintro σ5 H5 ⟨rfl,e,Ic,rfl⟩
   have s5:=s3.trans s4
   refine ⟨_,rfl,w,[],rfl,rfl,_,rfl,bY (fun f=>?_) (fun f=>?_)⟩
   ·have hw0:w=[]:=of_decide_eq_true f
    refine Rv ?_
    refine ⟨_,rfl,_,rfl,w,[e],rfl,rfl,by show w.length+1<=_;omega,?_⟩
    exact ⟨n+1 - (w++[e]).length,by rw[Oy];show n+1 - (w.length+1)<_;omega,w++[e],_,rfl,rfl,hw.more Ic fun g=>absurd hw0 g,by rw[Oy];show w.length+1<=_;omega,oz,s5⟩
   ·have dH:w≠[]:=fun g=>f (decide_eq_true g)
    have m5:0<w.length:=Zs.mpr dH
    have JX:rd w (-1)∈y:=hw.bW _ (fH dH _)
    have Ir:jc w (-1)=some (rd w (-1)):=kE (by omega) (by omega)
    refine ⟨_,rfl,_,rfl,_,rfl,w,_,_,rfl,rfl,oY,Ir,_,rfl,hy.lt _ JX,[e],_,rfl,rfl,_,rfl,bY (fun f2=>?_) (fun f2=>?_)⟩
    ·have Wt:e≠aC (rd w (-1)):=fun g=>by rw[g]at f2;simp at f2
     refine ⟨_,rfl,_,rfl,w,[e],rfl,rfl,by show w.length+1<=_;omega,?_⟩
     exact ⟨n+1 - (w++[e]).length,by rw[Oy];show n+1 - (w.length+1)<_;omega,w++[e],_,rfl,rfl,hw.more Ic fun _=>Wt,by rw[Oy];show w.length+1<=_;omega,oz,s5⟩
    ·refine ⟨_,rfl,_,rfl,_,rfl,w,_,_,rfl,rfl,oY,Ir,w,[rd w (-1)],rfl,rfl,by show w.length+1<=_;omega,?_⟩
     exact ⟨n+1 - (w++[rd w (-1)]).length,by rw[Oy];show n+1 - (w.length+1)<_;omega,w++[rd w (-1)],_,rfl,rfl,hw.more JX fun _ g=>eI (hy.lt _ JX) g.symm,by rw[Oy];show w.length+1<=_;omega,oz,s5⟩
  ·have z1: ¬(w.length:Int)<1+(n:Int):=fun g=>z (decide_eq_true g)
   exact ⟨w,lv,rfl,hw,by omega,ou,iY,s3⟩
 rintro σ6 H3 ⟨w,lv,rfl,hw,QB,ou,iY,s3⟩
 refine ⟨fun σ' H'=>H'=H3/\ ∃w:List Nat,σ'=[some (.ref b),some (.str (S y)),some (.int top),some (.int (1+(n:Int))),some (.int fm),some (.str (S w)),lv]/\SW y w/\w.length<=n+1,?_,?_⟩
 ·refine ⟨fun k σ H'=>H'=H3/\ ∃w:List Nat,σ=[some (.ref b),some (.str (S y)),some (.int top),some (.int (1+(n:Int))),some (.int fm),some (.str (S w)),lv]/\k=w.length/\Wd y w/\1<=w.length/\w.length<=n+1,⟨_,rfl,w,rfl,rfl,hw,QB,ou⟩,?_⟩
  clear hw ou QB w
  rintro k σ H4 ⟨rfl,w,rfl,rfl,hw,QB,ou⟩
  have oY:w.length<=sizeLine:=by omega
  have dH:w≠[]:=fun g=>by rw[g]at QB;simp at QB
  have JX: ∀k,rd w k∈y:=fun k=>hw.bW _ (fH dH k)
  refine ⟨_,rfl,w,rfl,oY,_,_,rfl,rfl,_,rfl,bY (fun f=>?_) (fun f=>?_)⟩
  ·have g1:(1:Int)<w.length:=of_decide_eq_true f
   have Ir:jc w (-1)=some (rd w (-1)):=kE (by omega) (by omega)
   refine ⟨_,rfl,w,_,_,rfl,rfl,oY,kE (k:=0) (by omega) (by omega),_,rfl,_,rfl,w,_,_,rfl,rfl,oY,Ir,_,rfl,hy.lt _ (JX _),[rd w 0],_,rfl,rfl,_,rfl,bY (fun f2=>?_) (fun f2=>?_)⟩
   ·refine ⟨_,rfl,_,rfl,_,rfl,w,rfl,oY,?_⟩
    rw[FO]
    exact ⟨(w.take (w.length - 1)).length,by rw[Qae];omega,rfl,w.take (w.length - 1),rfl,rfl,⟨hw.M0.take _,fun c hc=>hw.bW c (Qcl hc)⟩,by rw[Qae];omega,by rw[Qae];omega⟩
   ·have Wt:rd w 0≠aC (rd w (-1)):=fun g=>f2 (by simp[g])
    exact ⟨rfl,w,rfl,hw.sw dH Wt,ou⟩
  ·have g1: ¬(1:Int)<w.length:=fun g=>f (decide_eq_true g)
   refine xk ?_
   exact ⟨rfl,w,rfl,hw.one hy (by omega),ou⟩
 rintro σ7 H7 ⟨rfl,w7,rfl,sw,aab⟩
 clear hw QB ou w
 refine ⟨fun σ' H'=>H'=H7/\ ∃w:List Nat,σ'=[some (.ref b),some (.str (S y)),some (.int top),some (.int (1+(n:Int))),some (.int fm),some (.str (S w)),lv]/\SW y w/\w.length<=top,?_,?_⟩
 ·refine ⟨_,rfl,_,_,rfl,rfl,_,rfl,bY (fun f=>?_) (fun f=>?_)⟩
  ·refine ⟨_,rfl,w7,rfl,by omega,_,_,rfl,rfl, .inl ⟨by omega,by omega⟩,_,rfl,_,_,rfl,rfl,_,rfl,bY (fun f2=>?_) (fun f2=>?_)⟩
   ·have g2:(w7.length:Int)*2<=top:=of_decide_eq_true f2
    refine ⟨_,rfl,_,rfl,w7,w7,rfl,rfl,by omega,?_⟩
    exact ⟨rfl,_,rfl,sw.twice,by rw[Oy];omega⟩
   ·exact ⟨rfl,_,rfl,sw,by omega⟩
  ·refine xk ?_
   exact ⟨rfl,_,rfl,sw,by omega⟩
 rintro σ8 H8 ⟨rfl,w8,rfl,SR,Wu⟩
 exact ⟨_,rfl,q w8 _ SR Wu iY s3⟩
theorem r6:bI P w K mg base dW 1 OK PB ["words","band"] (kH K):=by
 refine T.T4.fn.ok dD (fun vs H Q E h=>qD h) (fun cC A outer s H vs Q E hr h=>?_)
 refine ⟨_,(ag (aq (i:=2) dD.nd rfl (Or.inl rfl) (cT ae))
   (ag (cE PassesOwn.never rfl (xx K rfl rfl T.z_enumerate (aa (pv 0) ae)) (eY (n:=2) K rfl rfl (bf (aF (i:=3) dD.nd rfl (Or.inl rfl)) (bf (aF (i:=4) dD.nd rfl (Or.inl rfl)) eB))) (aj (cE PassesOwn.never rfl (EZ rfl T.z_enumerate (aa (pv 4) ae)) (eY (n:=2) K rfl rfl (bf (aF (i:=5) dD.nd rfl (Or.inl rfl)) (bf (aF (i:=6) dD.nd rfl (Or.inl rfl)) eB))) (aj (bQ (aG eW (fO K rfl Qai Qel Qek p8 (pv 6)) (pv 1) (aK _)) (aj (cQ (bD K rfl Qap Qba Qa9 cU (pv 2) (aa (b8 (aa (pv 3) (aa (pv 5) ae))) ae)))) bB)))))
   (aj (aI (pv 2))))),?_⟩
 obtain ⟨wt,ws,band,rfl,mQ,hf,hw,hb,q⟩:=h
 have hs:(100000:Nat)<sizeLine:=by decide
 walk_at "wk"
 intro p1 n1
 refine ⟨_,rfl,wt,rfl,⟨_,cO.of ((ar.upd n1) _ _ mQ)⟩,?_⟩
 refine s_ (K:=K) (a:=wt) (xs:=cy ws) (fun j σ H'=> ∃(ps:List Pr) (cv wv pv lv:Option V),σ=[some (.ref wt),some (.str (S [band])),some (.ref p1),cv,wv,pv,lv]/\H' p1=some (.lst (tZ ps))/\(∀p∈ps,oP H' p)/\ps.map Pr.pair=dJ band ws j/\ps.length<=12*j/\ar H H')
  ⟨[],none,none,none,none,rfl,ah,fun _ h=>absurd h Qag,rfl,Qad _,ar.upd n1⟩ (fun j σ H' _ ⟨_,_,_,_,_,_,_,_,_,_,h⟩=>cO.of (h _ _ mQ)) ?_ ?_
 ·rintro j x σ H1 T hx ⟨ps,cv,wv,pv,lv,rfl,hp,Cf,oW,j8,s1⟩ nT
  have hj:j<ws.length:=by
   have:=(Mu.mp hx).1
   rwa [bj]at this
  rw[gj hj]at hx
  cases hx
  have NU:ws[j]? =some ws[j]:=Mt hj
  obtain ⟨yR,ou⟩:=hw _ (Qas hj)
  generalize ws[j]=w at NU yR ou ⊢
  refine ⟨T,_,rfl,cO.of ah,rfl,_,_,rfl,_,_,rfl,rfl,?_⟩
  have sT:=ar.upd (o:= .tup [.int j, .str (S w)]) nT
  refine ⟨_,rfl,w,rfl,?_⟩
  refine E1 (l:=w) (fun m σ H'=> ∃(us:List Pr) (pv lv:Option V),σ=[some (.ref wt),some (.str (S [band])),some (.ref p1),some (.int j),some (.str (S w)),pv,lv]/\H' p1=some (.lst (tZ us))/\(∀p∈us,oP H' p)/\us.map Pr.pair=dJ band ws j++i7 band j w m/\us.length<=12*j+m/\ar H H')
   ⟨ps,pv,lv,rfl,sT _ _ hp,fun p z_=>(Cf p z_).same sT,by rw[oW];show _=_++[];rw[Qbh],by omega,s1.trans sT⟩ ?_ ?_
  ·rintro m l σ H2 T2 hm ⟨us,pv2,lv2,rfl,tw,Ef,DY,Eo,s2⟩ nT2
   have hmw:m<w.length:=(Mu.mp hm).1
   have QC:=yR l (Qah hm)
   have es:=Ak (band:=band) (c:=j) hm
   have UD:=ar.upd (o:= .tup [.int m, .str (S [l])]) nT2
   refine ⟨T2,_,rfl,cO.of ah,rfl,_,_,rfl,_,_,rfl,rfl,?_⟩
   refine ⟨_,rfl,rfl,l,rfl,rfl,QC.lt,_,rfl,[PyProof.Rows.lo1 l],[band],rfl,rfl,_,rfl,?_⟩
   have ev:decide ([PyProof.Rows.lo1 l]=[band])=Aj band l:=by rw[<-Gs hb QC];simp
   rw[ev]
   have NV:=UD _ _ tw
   refine bY (fun z=>?_) (fun z=>?_)
   ·rw[if_pos z]at es
    refine ⟨_,rfl, .inl ⟨rfl,_,bA.of NV⟩,_,rfl,_,rfl,by show 2<=sizeLine;decide,fun t nt=>?_⟩
    have wU:=(ar.upd (o:= .tup [.int j, .int m]) nt) _ _ NV
    have s3:=UD.trans (ar.upd (o:= .tup [.int j, .int m]) nt)
    refine ⟨p1,_,_,rfl,rfl,wU,by rw[vO];omega,?_⟩
    refine ⟨us++[⟨t,j,m⟩],_,_,rfl,by rw[ah];exact congrArg (fun x=>some (HO.lst x)) (Gn us ⟨t,j,m⟩),fun p z_=>?_,by rw[Qaa,DY,es,Qbw];rfl,by rw[Oy];show us.length+1<=_;omega,fun a o ea=>by rw[aD (aE ea n1)];exact s3 _ _ (s2 a o ea)⟩
    rcases Qaj.mp z_ with g | g
    ·exact ((Ef p g).same s3).ts (dv.CV wU)
    ·have e2:=Zt.mp g
     subst e2
     exact oP.ts (H:=upd (upd H2 T2 (.tup [.int m, .str (S [l])])) t (.tup [.int j, .int m])) ⟨ah,by show j<1000;omega,by show m<1000;omega⟩ (dv.CV wU)
   ·rw[if_neg z,Qbh]at es
    exact ⟨us,_,_,rfl,NV,fun p z_=>(Ef p z_).same UD,by rw[DY,es],by omega,s2.trans UD⟩
  ·rintro σ H2 ⟨us,pv2,lv2,rfl,tw,Ef,DY,Eo,s2⟩
   exact ⟨us,_,_,_,_,rfl,tw,Ef,by rw[DY,x6 NU],by omega,s2⟩
 ·rintro σ H1 ⟨ps,cv,wv,pv,lv,rfl,hp,Cf,oW,j8,s1⟩
  rw[bj]at oW
  exact ⟨_,rfl,q p1 ps H1 n1 hp Cf oW s1⟩
theorem D6:bI P w K mg base dW 1 O_ Qe ["_law_yard_here"] (tN K):=by
 refine T.Ul.fn.ok DU (fun vs H Q E h=>zZ h) (fun cC A outer s H vs Q E hr h=>?_)
 refine ⟨_,(aj (aI (aB (lR K rfl) rfl T.z_sorted boot_sorted (aa (cn ["_law_letter_here"] [none] (kU (pv 0)) trivial (fun _ _ _ _=>(aF (i:=0) (by decide+kernel:List.Nodup (["_law_letter_here"]:List Str)) rfl (Or.inl rfl))) (fun _ _ _ _=>(uW (aG EN (pv 0) (gv [97,98,99,100,101,102,103,104,105,106,107,108,109,110,111,112,113,114,115,116,117,118,119,120,121,122] (by decide+kernel)) (by with_unfolding_all rfl)))) (fun _ _ _ _=>(pv 0))) ae)))),?_⟩
 obtain ⟨y,rfl,hz,q⟩:=h
 have hs:(1000:Nat)<sizeLine:=by decide
 refine ⟨_,rfl,y,rfl,?_⟩
 refine ig (xs:=bN y) (fun i acc H'=>ar H H'/\acc=bN ((y.take i).filter fun c=>decide (c∈aP))) (by rw[aY];omega) ⟨ar.refl H,rfl⟩ ?_ ?_
 ·rintro i x acc H1 Nx hi hx gC ⟨s1,rfl⟩ nx
  obtain ⟨c,hc,rfl⟩:=fN hx
  have e:=jD (p:=fun c=>decide (c∈aP)) hc
  refine ⟨trivial,?_⟩
  refine ⟨_,rfl,c,aP,rfl,rfl,_,rfl,?_⟩
  refine bY (fun z=>?_) (fun z=>?_)
  ·rw[if_pos z]at e
   exact ⟨_,rfl,nx _ _ (by simpa using gC) ⟨s1,by rw[e, <-cL]⟩⟩
  ·rw[if_neg z,Qbh]at e
   exact nx _ _ (Qcd gC) ⟨s1,by rw[e]⟩
 ·rintro acc H1 D gC ⟨s1,rfl⟩ hD
  rw[jx,dB]
  have Ye:(y.filter fun c=>decide (c∈aP)).length<=y.length:=Qcs _ _
  refine ⟨D,(y.filter fun c=>decide (c∈aP)).map fun c=>[c],rfl,bA.of ah,by rw[Xl];omega,fun p ls hp lG LC=>?_⟩
  obtain ⟨l',rfl,pl⟩:=Be lG
  refine q p l' _ (ar.free (ar.trans s1 (ar.upd hD)) hp) (by rw[ah, <-dB]) pl (Bf LC) ((s1.trans (ar.upd hD)).trans (ar.upd hp))
theorem HD:bI P w K mg base dW 2 Pp Qs ["_law_yard_here"] (yE K):=by
 have bz:=cY (P:=P) (w:=w) (base:=base) T
 refine T.Us.fn.ok f_ (fun vs H Q E h=>DQ h) (fun cC A outer s H vs Q E hr h=>?_)
 refine ⟨_,(ag (aq (i:=1) f_.nd rfl (Or.inl rfl) (xJ rfl rfl T.z_list rfl T.z_range (aa (aB aM rfl T.z_len Qab (aa (pv 0) ae)) ae)))
   (ag (aq (i:=2) f_.nd rfl (Or.inl rfl) (cT ae))
   (ag (bZ PassesOwn.never (aG (zJ K rfl hr) (pv 1) (cT ae) (aK _)) (ag (aq (i:=3) f_.nd rfl (Or.inl rfl) (aQ (bK K rfl) (pv 1) ai (fun _ _=>rfl)))
   (ag (aq (i:=4) f_.nd rfl (Or.inl rfl) (gv [] (by decide+kernel)))
   (ag (bZ PassesOwn.never (aG (u6 K rfl) (pv 3) (pv 1) (by with_unfolding_all rfl)) (ag (cQ (bD K rfl Qap PySem.F.slot_list_remove PySem.F.type_list_remove (Jn K rfl hr) (pv 1) (aa (pv 3) ae)))
   (ag (aq (i:=5) f_.nd rfl (Or.inl rfl) (aQ eU (pv 0) (aA eF (aA aW (pv 3) ai) (aB aM rfl T.z_len Qab (aa (pv 0) ae))) (fun _ _=>rfl)))
   (ag (aq (i:=4) f_.nd rfl (Or.inl rfl) (aA cf (pv 4) (pv 5)))
   (aj (aq (i:=3) f_.nd rfl (Or.inl rfl) (bD K rfl Qai Qcb Qca fE (pv 0) (aa (ao bz (hr.mono (by decide)) rfl T.gB.mg T.gB.fn.kp T.gB.bd .nil az (aa (pv 5) ae)) ae))))))))
   (aj (cQ (bD K rfl Qap Qba Qa9 cU (pv 2) (aa (pv 4) ae))))))))
   (aj (aI (pv 2)))))),?_⟩
 obtain ⟨y,rfl,hy,hz,q⟩:=h
 have hs:(1000:Nat)<sizeLine:=by decide
 refine ⟨_,rfl,y,rfl,by omega,_,rfl,by omega,by omega,fun pl Yk=>?_⟩
 rw[Xo,show (List.range y.length).map (fun (k:Nat)=>V.int (0+(k:Int)))=yT (List.range y.length) from by unfold yT;exact Qdf fun k _=>by rw[Qcg]]
 refine ⟨Qad _,fun pf UE=>?_⟩
 have Wv:pl≠pf:=fun z=>by rw[<-z,ah]at UE;cases UE
 have Ww:H pf=none:=ar.free (ar.upd Yk) UE
 have s0:ar H (upd (upd H pl (.lst (yT (List.range y.length)))) pf (.lst [])):=(ar.upd Yk).trans (ar.upd UE)
 have pQ: ∀{H1:Hp} {xs:List V} {a:Addr},(a=pl\/a=pf)->ar H H1->ar H (upd H1 a (.lst xs)):=fun {H1 xs a} ha s c o e=>by
  rw[aD (fun z=>by rcases ha with g | g<;>rw[z,g]at e<;>simp_all)]
  exact s c o e
 refine ⟨fun m σ H'=> ∃(l:List Nat) (L:List (List Nat)) (v3 v4 v5:Option V),σ=[some (.str (S y)),some (.ref pl),some (.ref pf),v3,v4,v5]/\m=l.length/\(∀i∈l,i<y.length)/\L.length+l.length<=y.length/\(∀w∈L,(∀c∈w,c∈y)/\w.length<=8)/\H' pl=some (.lst (yT l))/\H' pf=some (.lst (cy L))/\ar H H',⟨_,List.range y.length,[],none,none,none,rfl,rfl,fun i hi=>Qbl.mp hi,by rw[Qce];simp,fun w hw=>absurd hw Qag,by rw[aD Wv,ah],ah,s0⟩,?_⟩
 rintro m σ H2 ⟨l,L,v3,v4,v5,rfl,rfl,hl,Wx,hL,j8,hpf,s2⟩
 refine ⟨_,rfl,Qad _,fun p0 n0=>?_⟩
 have s3:=s2.trans (ar.upd (o:= .lst []) n0)
 have Kp:=(ar.upd (o:= .lst []) n0) _ _ j8
 have NW:=(ar.upd (o:= .lst []) n0) _ _ hpf
 have Yl:upd H2 p0 (.lst []) p0=some (.lst []):=ah
 generalize upd H2 p0 (.lst [])=H3 at s3 Kp NW Yl ⊢
 refine ⟨.list (ids l), .list [], .lst (bA.of Kp) (m7 _), .lst (bA.of Yl) .nil,⟨wd l,rfl⟩,?_,?_⟩
 ·show PyData.depthAll (ids l)+1<=60
  rw[qm]
  decide
 cases l with
 | nil=>
  refine ⟨_,rfl,gw rfl ?_⟩
  exact ⟨_,rfl,q pf L H3 hL (by simp at Wx;omega) Ww NW s3⟩
 | cons i l=>
  refine ⟨_,rfl,ir rfl ?_⟩
  show kQ _ _ _ _ _
  refine i5 fun Dx Cg=>?_
  have hi:=hl i Zu
  refine ⟨_,rfl,pl,_,_,_,rfl,rfl,bA.of Kp,(bM rfl:jc (yT (i::l)) ((0:Nat):Int)=some (.int i)),?_⟩
  refine ⟨fun m σ H'=> ∃(k rG:Nat) (g w:List Nat) (v5:Option V),σ=[some (.str (S y)),some (.ref pl),some (.ref pf),some (.int rG),some (.str (S w)),v5]/\m=g.length/\(∀j∈g,j<y.length)/\rG<y.length/\((g=i::l/\rG=i/\w=[])\/g.length<l.length+1)/\w.length+g.length=l.length+1/\(∀c∈w,c∈y)/\H' pl=some (.lst (yT g))/\H' pf=some (.lst (cy L))/\ar H H',⟨_,0,i,i::l,[],_,rfl,rfl,hl,hi, .inl ⟨rfl,rfl,rfl⟩,by simp,fun c hc=>absurd hc Qag,Kp,NW,s3⟩,?_⟩
  rintro m σ H4 ⟨k,rG,g,w,v5,rfl,rfl,hg,MQ,VC,yR,hw,Kq,NX,s4⟩
  refine ⟨_,rfl,_,rfl,pl,_,rfl, .inl (bA.of Kq),rfl,Hi g,_,rfl,?_⟩
  by_cases z:rG∈g
  ·refine ir (by rw[wc,decide_eq_true z];rfl) ?_
   show kQ _ _ _ _ _
   refine i5 fun Dy SU=>?_
   have QC:L.length+(l.length+1)<=y.length:=Wx
   have hp:(0:Int)<(y.length:Int):=by omega
   have hk:(rG+1)%y.length<y.length:=Qcz _ (by omega)
   have NY:jc y (((rG:Int)+1)%(y.length:Int))=some y[(rG+1)%y.length]:=by
    have:(((rG:Int)+1)%(y.length:Int))=(((rG+1)%y.length:Nat):Int):=by push_cast;rfl
    rw[this]
    exact bM (Mt hk)
   have mZ:y[(rG+1)%y.length]∈y:=Qas hk
   generalize y[(rG+1)%y.length]=c at NY mZ
   have uV:g.idxOf rG<g.length:=List.idxOf_lt_length_iff.mpr z
   have hig:g[g.idxOf rG]? =some rG:=by rw[Mt uV];exact congrArg some (Qby uV)
   refine ⟨_,rfl, .inl ⟨rfl,_,bA.of Kq⟩,_,rfl,pl,_,_,ids g, .int rG,g.idxOf rG,rfl,rfl,Kq,m7 g, .int _,⟨wd g,rfl⟩,by show 0<=60;decide,⟨.int rG,by unfold ids;rw[Qak,hig];rfl,by rw[yB,decide_eq_true rfl]⟩,fun m e hm he=>?_,?_⟩
   ·obtain ⟨d,hd,rfl⟩:=NI he
    rw[yB]
    refine decide_eq_false fun q2=>?_
    have OB:=(Mu.mp hd)
    obtain ⟨OB,hmd⟩:=OB
    have:=List.not_of_lt_findIdx (p:=fun x=>x==rG) (xs:=g) (i:=m) hm
    rw[hmd,q2]at this
    simp at this
   rw[uu]
   have QD:(g.eraseIdx (g.idxOf rG)).length+1=g.length:=by rw[List.length_eraseIdx_of_lt uV];omega
   have Ym: ∀j∈g.eraseIdx (g.idxOf rG),j<y.length:=fun j hj=>hg j (List.mem_of_mem_eraseIdx hj)
   generalize g.eraseIdx (g.idxOf rG)=g2 at QD Ym ⊢
   refine ⟨_,rfl,_,rfl,_,_,rfl,rfl,_,rfl,y,rfl,by omega,_,_,rfl,rfl,hp,y,_,_,rfl,rfl,by omega,NY,?_⟩
   refine ⟨_,rfl,_,rfl,_,_,rfl,rfl,by show w.length+1<=sizeLine;omega,?_⟩
   refine ⟨_,rfl,rfl,_,rfl,c,rfl,hy.lt c mZ,y,aC c,rfl,rfl,hy.cl c mZ,?_⟩
   refine SU _ _ ⟨g2.length,by omega,0,_,g2,w++[c],_,rfl,rfl,Ym,List.idxOf_lt_length_iff.mpr (hy.cl c mZ), .inr (by omega),by rw[Oy];show w.length+1+g2.length=_;omega,fun d hd=>(Qaj.mp hd).elim (hw d) fun q2=>by rw[Zt.mp q2];exact mZ,ah,by rw[aD (Ne.symm Wv)];exact NX,pQ (.inl rfl) s4⟩
  ·refine gw (by rw[wc,decide_eq_false z];rfl) ?_
   have V7:g.length<l.length+1:=VC.resolve_left fun q2=>z (by rw[q2.1,q2.2.1];exact Zu)
   have QC:L.length+(l.length+1)<=y.length:=Wx
   refine ⟨_,rfl, .inl ⟨rfl,_,bA.of NX⟩,_,rfl,pf,_,_,rfl,rfl,NX,by rw[bj];omega,?_⟩
   refine Cg _ _ ⟨g.length,V7,g,L++[w],_,_,_,rfl,rfl,hg,by rw[Oy];show L.length+1+_<=_;omega,fun u hu=>?_,by rw[aD Wv];exact Kq,by rw[ah,gH],pQ (.inr rfl) s4⟩
   rcases Qaj.mp hu with q2 | q2
   ·exact hL u q2
   ·rw[Zt.mp q2]
    exact ⟨hw,by omega⟩
theorem AR:bI P w K mg base dW 2 Pq Qt ["_law_yard_here","_law_some"] (qK K):=by
 have bz:=cY (P:=P) (w:=w) (base:=base) T
 refine T.Ut.fn.ok AL (fun vs H Q E h=>yD h) (fun cC A outer s H vs Q E hr h=>?_)
 refine ⟨_,(aj (aI (bD K rfl Qai Qb5 Qb4 (fU K rfl) (gv [] (by decide+kernel)) (aa (cn ["_law_letter_here","_law_some"] [none,some 1] (kU (pv 0)) ⟨⟨rfl,rfl,by first | exact .inl rfl | exact .inr rfl⟩,trivial⟩ (fun _ _ _ _=>(aF (i:=0) (by decide+kernel:List.Nodup (["_law_letter_here","_law_some"]:List Str)) rfl (Or.inl rfl))) (fun _ _ _ _=>(uW (PW.pt (Ew (aG (u6 K rfl) (pv 0) (pv 1) (by with_unfolding_all rfl)) (y_ (aG (u6 K rfl) (ao bz (hr.mono (by decide)) rfl T.gB.mg T.gB.fn.kp T.gB.bd .nil az (aa (pv 0) ae)) (pv 1) (by with_unfolding_all rfl))))))) (fun _ _ _ _=>(pv 0))) ae)))),?_⟩
 obtain ⟨y,p,l,rfl,hy,hz,hp,hl,q⟩:=h
 have hs:(1000:Nat)<sizeLine:=by decide
 refine ⟨rfl,_,rfl,y,rfl,?_⟩
 refine ig (xs:=bN y) (fun i acc H'=>H'=H/\acc=bN ((y.take i).filter fun c=>decide (c∈l)||decide (aC c∈l))) (by rw[aY];omega) ⟨rfl,rfl⟩ ?_ ?_
 ·rintro i x acc H1 Nx hi hx gC ⟨rfl,rfl⟩ nx
  obtain ⟨c,hc,rfl⟩:=fN hx
  have e:=jD (p:=fun c=>decide (c∈l)||decide (aC c∈l)) hc
  refine ⟨⟨rfl,trivial⟩,?_⟩
  have mZ:=Qah hc
  by_cases z1:c∈l
  ·rw[if_pos (by rw[decide_eq_true z1];rfl)]at e
   refine ⟨_,rfl,_,rfl,p,_,rfl, .inl hp,rfl,qJ l,_,rfl,ir (by rw[o8,decide_eq_true z1];rfl) ?_⟩
   exact ir rfl ⟨_,rfl,nx _ _ (by simpa using gC) ⟨rfl,by rw[e, <-cL]⟩⟩
  ·refine ⟨_,rfl,_,rfl,p,_,rfl, .inl hp,rfl,qJ l,_,rfl,gw (by rw[o8,decide_eq_false z1];rfl) ?_⟩
   refine ⟨_,rfl,c,rfl,hy.lt c mZ,_,rfl,p,_,rfl, .inl hp,rfl,qJ l,_,rfl,?_⟩
   by_cases z2:aC c∈l
   ·rw[if_pos (by rw[decide_eq_true z2];exact Bool.or_true _)]at e
    exact ir (by rw[o8,decide_eq_true z2];rfl) ⟨_,rfl,nx _ _ (by simpa using gC) ⟨rfl,by rw[e, <-cL]⟩⟩
   ·rw[if_neg (by rw[decide_eq_false z1,decide_eq_false z2];decide),Qbh]at e
    exact gw (by rw[o8,decide_eq_false z2];rfl) (nx _ _ (Qcd gC) ⟨rfl,by rw[e]⟩)
 ·rintro acc H1 D gC ⟨rfl,rfl⟩ hD
  rw[jx,dB]
  have Ye:(y.filter fun c=>decide (c∈l)||decide (aC c∈l)).length<=y.length:=Qcs _ _
  refine ⟨D,(y.filter fun c=>decide (c∈l)||decide (aC c∈l)).map fun c=>[c],rfl,rfl,bA.of ah,by rw[vn];omega,?_⟩
  rw[lW]
  refine q _ _ ⟨hy.nd.filter _,fun c hc=>hy.lt c ((Qa0.mp hc).1),fun c hc=>?_⟩ (by omega) (fun c hc=>(Qa0.mp hc).1) (ar.upd hD)
  obtain ⟨h1,h2⟩:=Qa0.mp hc
  refine Qa0.mpr ⟨hy.cl c h1,?_⟩
  rw[aN (hy.lt c h1),Bool.or_comm]
  exact h2
theorem r9:bI P w K mg base dW 2 Pa Qf ["_law_word_here"] (kJ K):=by
 have bz:=cY (P:=P) (w:=w) (base:=base) T
 refine T.Um.fn.ok eh (fun vs H Q E h=>qI h) (fun cC A outer s H vs Q E hr h=>?_)
 refine ⟨_,(ag (aq (i:=1) eh.nd rfl (Or.inl rfl) (gv [] (by decide+kernel)))
   (ag (cE PassesOwn.never rfl (kU (pv 0)) (aF (i:=2) eh.nd rfl (Or.inl rfl)) (aj (bQ (PW.pt (gD (aG qe (pv 1) (gv [] (by decide+kernel)) (aK _)) (gq (aG eW (aQ eU (pv 1) (fS dI ai) (fun _ _=>rfl)) (ao bz (hr.mono (by decide)) rfl T.gB.mg T.gB.fn.kp T.gB.bd .nil az (aa (pv 2) ae)) (aK _))))) (aj (aq (i:=1) eh.nd rfl (Or.inl rfl) (bo gF (pv 1) bS (bp (fS dI ai))))) (aj (aq (i:=1) eh.nd rfl (Or.inl rfl) (aA cf (pv 1) (pv 2)))))))
   (aj (aI (pv 1))))),?_⟩
 obtain ⟨l,rfl,hl,hz,q⟩:=h
 have hs:(100000:Nat)<sizeLine:=by decide
 refine ⟨_,rfl,l,rfl,?_⟩
 refine uY (xs:=bN l) (fun i σ H'=> ∃lv,σ=[some (.str (S l)),some (.str (S (red (l.take i)))),lv]/\H'=H) ⟨none,rfl,rfl⟩ ?_ ?_
 ·rintro i x σ H1 hx ⟨lv,rfl,rfl⟩
  obtain ⟨c,hc,rfl⟩:=fN hx
  have lc:=hl c (Qah hc)
  have QE:(red (l.take i)).length<=10000:=Qao (gx _) (by rw[Qae];omega)
  have e:=xT hc
  unfold dS at e
  refine ⟨_,rfl,_,_,rfl,rfl,?_⟩
  rcases snoc_cases (red (l.take i)) with e0 | ⟨m,a,e0⟩
  ·rw[e0]at e QE ⊢
   refine ⟨_,rfl,gw rfl (xk ?_)⟩
   refine ⟨_,rfl,_,rfl,_,_,rfl,rfl,by show 0+1<=sizeLine;decide,some (.str (S [c])),?_,rfl⟩
   rw[e,if_neg (by simp)]
   rfl
  ·rw[e0]at e QE ⊢
   have OB:m.length<=10000:=by simp at QE;omega
   refine ⟨_,rfl,ir (by simp) ?_⟩
   refine ⟨_,rfl,_,rfl,_,_,_,rfl,rfl,by rw[Oy];show m.length+1<=sizeLine;omega,lI _ _,_,rfl,c,rfl,lc,[a],[aC c],rfl,rfl,_,rfl,bY (fun z=>?_) (fun z=>?_)⟩
   ·have ea:a=aC c:=by simpa using of_decide_eq_true z
    refine ⟨_,rfl,_,rfl,_,rfl,_,rfl,by rw[Oy];show m.length+1<=sizeLine;omega,some (.str (S [c])),?_,rfl⟩
    rw[e,if_pos (by simp[ea]),Qc6,FC]
    rfl
   ·have ea:a≠aC c:=fun w=>z (decide_eq_true (by rw[w]))
    refine ⟨_,rfl,_,rfl,_,_,rfl,rfl,by rw[Oy];show m.length+1+1<=sizeLine;omega,some (.str (S [c])),?_,rfl⟩
    rw[e,if_neg (by simpa using ea)]
    rfl
 ·rintro σ H1 ⟨lv,rfl,rfl⟩
  rw[jx]
  exact ⟨_,rfl,q _ (ar.refl _)⟩
theorem iZ:bI P w K mg base dW 3 Pb Qg ["_law_word_here"] (mE K):=by
 have wI:=r9 (P:=P) (w:=w) (base:=base) T
 have bz:=cY (P:=P) (w:=w) (base:=base) T
 refine T.Im.fn.ok iX (fun vs H Q E h=>rW h) (fun cC A outer s H vs Q E hr h=>?_)
 refine ⟨_,(ag (aq (i:=1) iX.nd rfl (Or.inl rfl) (ao wI (hr.mono (by decide)) rfl T.Um.mg T.Um.fn.kp T.Um.bd .nil az (aa (pv 0) ae)))
   (ag (bZ PassesOwn.never (PW.pt (gD (aG jn (aB aM rfl T.z_len Qab (aa (pv 1) ae)) ai (aK _)) (gq (aG eW (aQ eU (pv 1) ai (fun _ _=>rfl)) (ao bz (hr.mono (by decide)) rfl T.gB.mg T.gB.fn.kp T.gB.bd .nil az (aa (aQ eU (pv 1) (fS dI ai) (fun _ _=>rfl)) ae)) (aK _))))) (aj (aq (i:=1) iX.nd rfl (Or.inl rfl) (bo gF (pv 1) (bp ai) (bp (fS dI ai))))))
   (aj (aI (pv 1))))),?_⟩
 obtain ⟨l,rfl,hl,hz,q⟩:=h
 have hs:(100000:Nat)<sizeLine:=by decide
 refine ⟨_,rfl,l,rfl,hl,by omega,fun H1 s1=>?_⟩
 have Fn:=gx l
 have cZ:=Fx hl
 generalize red l=r at Fn cZ q ⊢
 refine ⟨fun m σ H'=> ∃c:List Nat,σ=[some (.str (S l)),some (.str (S c))]/\m=c.length/\c.length<=r.length/\(∀x∈c,Lt x)/\core c=core r/\H'=H1,⟨_,r,rfl,rfl,Tz _,cZ,rfl,rfl⟩,?_⟩
 rintro m σ H2 ⟨c,rfl,rfl,Yn,UG,Wy,rfl⟩
 refine ⟨_,rfl,_,rfl,by omega,_,_,rfl,rfl,?_⟩
 by_cases z:1<c.length
 ·obtain ⟨a,m,b,rfl⟩: ∃a m b,c=a::(m++[b]):=by
   rcases c with _ | ⟨a,c⟩
   ·exact absurd z (by decide)
   ·rcases snoc_cases c with e | ⟨m,b,e⟩
    ·rw[e]at z;exact absurd z (by show ¬1<1;decide)
    ·exact ⟨a,m,b,by rw[e]⟩
  have hlen:(a::(m++[b])).length=m.length+2:=by simp
  have Ji:(a::(m++[b])).length<=sizeLine:=by omega
  have lb:Lt b:=UG b (by simp)
  refine ⟨_,rfl,ir (decide_eq_true (by show (1:Int)<_;omega)) ?_⟩
  refine ⟨_,rfl,_,_,_,rfl,rfl,Ji,(bM rfl:jc (a::(m++[b])) ((0:Nat):Int)=some a),?_⟩
  refine ⟨_,rfl,_,rfl,_,_,_,rfl,rfl,Ji,lI (a::m) b,b,rfl,lb,_,_,rfl,rfl,_,rfl,bY (fun y=>?_) (fun y=>?_)⟩
  ·have ea:a=aC b:=by simpa using of_decide_eq_true y
   refine ⟨_,rfl,_,rfl,_,rfl,_,rfl,_,rfl,Ji,?_⟩
   rw[FD]
   exact ⟨m.length,by omega,m,rfl,rfl,by omega,fun x hx=>UG x (by simp[hx]),by rw[<-Wy,o_ ea],rfl⟩
  ·have ea:a≠aC b:=fun w=>y (decide_eq_true (by rw[w]))
   refine ⟨_,rfl,?_⟩
   have:=q H2 s1
   rw[<-Wy,iu ea]at this
   exact this
 ·refine ⟨_,rfl,gw (decide_eq_false (by show ¬(1:Int)<_;omega)) (xk ?_)⟩
  refine ⟨_,rfl,?_⟩
  have:=q H2 s1
  rw[<-Wy,fG (by omega)]at this
  exact this
theorem Cj:bI P w K mg base dW 7 Pm Qp ["_law_yard_here","_law_w"] (B7 K):=by
 have lE:=ow (P:=P) (w:=w) (base:=base) T
 refine T.NR.fn.ok wC (fun vs H Q E h=>Hb h) (fun cC A outer s H vs Q E hr h=>?_)
 refine ⟨_,(ag (aq (i:=2) wC.nd rfl (Or.inl rfl) ai)
   (ag (bZ PassesOwn.never (aG qe (aA cf (bo gF (pv 1) (bp (pv 2)) bS) (bo gF (pv 1) bS (bp (pv 2)))) (pv 1) (aK _)) (aj (aq (i:=2) wC.nd rfl (Or.inl rfl) (aA aW (pv 2) ai))))
   (aj (aI (aA cF (aA aW (aA dA (ao lE (hr.mono (by decide)) rfl T.NQ.mg T.NQ.fn.kp T.NQ.bd .nil az (aa (pv 0) (aa (pv 1) (aa (pv 1) ae)))) ai) (aA dA (aB aM rfl T.z_len Qab (aa (pv 1) ae)) (pv 2))) ai))))),?_⟩
 obtain ⟨y,w',rfl,hy,hz,hw,ou,Qk⟩:=h
 have hs:(100000:Nat)<sizeLine:=by decide
 have m5:=Zs.mpr hw.ne
 refine ⟨fun m σ H'=> ∃k:Nat,σ=[some (.str (S y)),some (.str (S w')),some (.int k)]/\m=w'.length - k/\1<=k/\k<=w'.length/\(∀d,1<=d->d<k-> ¬gI w' d)/\H'=H,⟨_,1,rfl,rfl,Tz _,m5,fun d h1 h2=>by omega,rfl⟩,?_⟩
 rintro m σ H2 ⟨k,rfl,rfl,Fo,u_,Kr,rfl⟩
 have SV:cut w' (some (k:Int)) none++cut w' none (some (k:Int))=g9 w' k:=by rw[cG,cM];rfl
 have hl:(cut w' (some (k:Int)) none).length+(cut w' none (some (k:Int))).length<=sizeLine:=by rw[cG,cM,Qa2,Qae];omega
 refine ⟨_,rfl,_,rfl,_,rfl,w',rfl,by omega,_,rfl,_,rfl,_,rfl,w',rfl,by omega,_,_,rfl,rfl,hl,?_⟩
 refine ⟨_,rfl,_,_,rfl,rfl,_,rfl,?_⟩
 by_cases z:gI w' k
 ·refine gw (by rw[SV,decide_eq_true (show g9 w' k=w' from z)];rfl) ?_
  have hr:=iA (vV hw.ne) (.inr ⟨Fo,u_,z,Kr⟩:jA w' k)
  have hkr:kr w'=((w'.length / k:Nat):Int):=by unfold kr;rw[hr]
  have hk:1<=w'.length / k:=Nat.div_pos u_ Fo
  refine ⟨_,rfl,_,rfl,_,rfl,y,w',w',rfl,hy,hz, .inr hw,ou,hw,ou,fun n H3 s3 e=>?_⟩
  refine ⟨_,_,rfl,rfl,⟨by decide,by omega⟩,?_⟩
  refine ⟨_,rfl,w',rfl,by omega,_,rfl,_,_,rfl,rfl,⟨by omega,by omega⟩,?_⟩
  refine ⟨_,_,rfl,rfl,_,_,rfl,rfl,?_⟩
  have:=Qk (n / 2+w'.length / k - 1) H3 s3 (by rw[<-e,hkr];omega)
  refine Eq.mp ?_ this
  congr 2
  show _=(n:Int) / 2+(w'.length:Int) / (k:Int) - 1
  rw[<-Qdw]
  omega
 ·refine ir (by rw[SV,decide_eq_false (show ¬g9 w' k=w' from z)];rfl) ?_
  have cZ:k<w'.length:=Nat.lt_of_le_of_ne u_ fun q=>z (by rw[q];exact JE w')
  refine ⟨_,rfl,_,_,rfl,rfl,w'.length - (k+1),by omega,k+1,rfl,rfl,by omega,cZ,fun d h1 h2=>?_,rfl⟩
  by_cases q:d=k
  ·rw[q];exact z
  ·exact Kr d h1 (by omega)
theorem HE:bI P w K mg base dW 8 Pu Qu ["_law_box_here","_law_yard_here","_law_top"] (yF K):=by
 have a_:=eA (P:=P) (w:=w) (base:=base) T
 have HF:=D6 (P:=P) (w:=w) (base:=base) T
 have Ks:=HD (P:=P) (w:=w) (base:=base) T
 have D7:=AR (P:=P) (w:=w) (base:=base) T
 have gf:=iZ (P:=P) (w:=w) (base:=base) T
 have rj:=uC (P:=P) (w:=w) (base:=base) T
 have AS:=Cj (P:=P) (w:=w) (base:=base) T
 refine T.Uu.fn.ok iI (fun vs H Q E h=>DR h) (fun cC A outer s H vs Q E hr h=>?_)
 refine ⟨_,(eZ (bQ (aG eX (ao a_ (hr.mono (by decide)) rfl T.dk.mg T.dk.fn.kp T.dk.bd .nil az (aa (pv 0) (aa ai ae))) ai (aK _)) (ag (aq (i:=3) iI.nd rfl (Or.inl rfl) (bo (lQ K rfl) (ao HF (hr.mono (by decide)) rfl T.Ul.mg T.Ul.fn.kp T.Ul.bd .nil az (aa (pv 1) ae)) bS (bp (aA aW ai (ao a_ (hr.mono (by decide)) rfl T.dk.mg T.dk.fn.kp T.dk.bd .nil az (aa (pv 0) (aa ai ae)))))))
   (ag (fT (i:=4) ["_law_word_here"] [none] iI.nd rfl (Or.inl rfl) (dY K rfl (ao Ks (hr.mono (by decide)) rfl T.Us.mg T.Us.fn.kp T.Us.bd .nil az (aa (ao D7 (hr.mono (by decide)) rfl T.Ut.mg T.Ut.fn.kp T.Ut.bd .nil az (aa (pv 1) (aa (pv 3) ae))) ae))) trivial (fun _ _ _ _=>(aF (i:=0) (by decide+kernel:List.Nodup (["_law_word_here"]:List Str)) rfl (Or.inl rfl))) (fun _ _ _ _=>da) (fun _ _ _ _=>(ao gf (hr.mono (by decide)) rfl T.Im.mg T.Im.fn.kp T.Im.bd .nil az (aa (pv 0) ae))))
   (ag (fT (i:=4) ["_law_word_here","_law_top"] [none,some 2] iI.nd rfl (Or.inl rfl) (dY K rfl (pv 4)) ⟨⟨rfl,rfl,by first | exact .inl rfl | exact .inr rfl⟩,trivial⟩ (fun _ _ _ _=>(aF (i:=0) (by decide+kernel:List.Nodup (["_law_word_here","_law_top"]:List Str)) rfl (Or.inl rfl))) (fun _ _ _ _=>(uW (ED kz EB ai (aB aM rfl T.z_len Qab (aa (pv 0) ae)) (pv 1)))) (fun _ _ _ _=>(pv 0)))
   (aj (bQ (aG (zJ K rfl hr) (pv 4) (cT ae) (aK _)) (aj (aI (aQ (bK K rfl) (pv 4) (ao a_ (hr.mono (by decide)) rfl T.dk.mg T.dk.fn.kp T.dk.bd .nil az (aa (pv 0) (aa (aB (bC K rfl) rfl T.z_len Qab (aa (pv 4) ae)) ae))) (fun _ _=>rfl)))) bB))))) bB)
   (ag (cE PassesOwn.never rfl (cS rfl T.z_range (aa ai ae)) (aF (i:=5) iI.nd rfl (Or.inl rfl)) (ag (aq (i:=6) iI.nd rfl (Or.inl rfl) (ao rj (hr.mono (by decide)) rfl T.NN.mg T.NN.fn.kp T.NN.bd .nil az (aa (pv 0) (aa (pv 1) (aa (pv 2) ae)))))
   (aj (bQ (aG eX (ao AS (hr.mono (by decide)) rfl T.NR.mg T.NR.fn.kp T.NR.bd .nil az (aa (pv 1) (aa (pv 6) ae))) ai (aK _)) (aj (aI (pv 6))) bB))))
   (aj (aI (aQ eU (pv 1) (ao a_ (hr.mono (by decide)) rfl T.dk.mg T.dk.fn.kp T.dk.bd .nil az (aa (pv 0) (aa (aB aM rfl T.z_len Qab (aa (pv 1) ae)) ae))) (fun _ _=>rfl)))))),?_⟩
 obtain ⟨b,y,top,rfl,hb,hy,Ci,DW,Ip,Qy,q⟩:=h
 have hs:(100000:Nat)<sizeLine:=by decide
 refine ⟨fun σ' H'=> ∃v3 v4:Option V,σ'=[some (.ref b),some (.str (S y)),some (.int top),v3,v4,none,none]/\bH H' b/\aR b H H',?_,?_⟩
 ·refine Fu fun Dx Cg UH=>?_
  refine ⟨_,rfl,b,4,rfl,hb,by decide,by decide,fun r H1 Fn n_ s1=>⟨_,_,rfl,rfl,_,rfl,bY (fun f=>?_) (fun f=>?_)⟩⟩
  ·refine ⟨_,rfl,y,rfl,by omega,fun p l' H2 np hp lG LC s2=>?_⟩
   have iK:=n_.same s2
   have uA:=s1.after s2
   have pb:p≠b:=n_.ne np
   have QC:l'.length<=8:=by rw[lG.length_eq];exact Qao (Qcs _ _) DW
   refine ⟨_,rfl,b,4,rfl,iK,by decide,by decide,fun r2 H3 OC iY s3=>⟨_,_,rfl,rfl,_,rfl,p,_,rfl,bA.of (s3 _ _ hp pb),fun p1 n1=>?_⟩⟩
   have ec:xg (bN l') none (some (1+(r2:Int)))=bN (l'.take (1+r2)):=by
    show cut (bN l') none (some (1+(r2:Int)))=_
    rw[show (1+(r2:Int))=((1+r2:Nat):Int) by push_cast;rfl,cG]
    unfold bN
    rw[Qe7]
   rw[ec]
   have Yo:p1≠b:=iY.ne n1
   have oz:=iY.dc (o:= .lst (bN (l'.take (1+r2)))) Yo
   have Hz:=uA.trans s3
   have NZ:=Hz.dc (o:= .lst (bN (l'.take (1+r2)))) (Hz.none n1 Yo)
   have oQ:upd H3 p1 (.lst (bN (l'.take (1+r2)))) p1=some (.lst (bN (l'.take (1+r2)))):=ah
   generalize upd H3 p1 (.lst (bN (l'.take (1+r2))))=H4 at oz NZ oQ ⊢
   refine ⟨_,rfl,_,rfl,y,p1,l'.take (1+r2),rfl,hy,DW,bA.of oQ,by rw[Qae];omega,fun z H5 yz z8 zy s5=>?_⟩
   refine ⟨z,rfl,yz,z8,fun q1 L H6 hL hL8 nq1 Yp s6=>?_⟩
   have s46:=s5.trans s6
   refine ⟨q1,rfl,⟨_,bA.of Yp⟩,?_⟩
   refine ik (K:=K) (a:=q1) (xs:=cy L) (fun i acc H'=>ar H6 H'/\acc=cy ((L.take i).map cr)) (by rw[bj];omega) (fun i acc H' h=>bA.of (h.1 _ _ Yp)) ⟨ar.refl _,rfl⟩ ?_ ?_
   ·rintro i x acc H7 Nx hi hx gC ⟨s7,rfl⟩ nx
    have hj:i<L.length:=by rw[bj]at hi;exact hi
    rw[gj hj]at hx
    cases hx
    have hw:=hL _ (Qas hj)
    refine ⟨trivial,cu ⟨_,rfl,_,rfl,fun c hc=>hy.lt c (zy c (hw.1 c hc)),by omega,fun H8 s8=>?_⟩⟩
    refine nx _ _ (by simpa using gC) ⟨s7.trans s8,?_⟩
    rw[Qd7,Mt hj,Qaa]
    exact gH _ _
   rintro acc H7 D gC ⟨s7,rfl⟩ hD
   rw[bj,Qar (Tz _)]
   have pN:upd H7 D (.lst (cy (L.map cr))) D=some (.lst (cy (L.map cr))):=ah
   have Wz:=s46.trans (s7.trans (ar.upd (o:= .lst (cy (L.map cr))) hD))
   generalize upd H7 D (.lst (cy (L.map cr)))=H8 at pN Wz ⊢
   have SI: ∀c∈L.map cr,c=[]\/SW y c:=fun c hc=>by
    obtain ⟨w',AA,rfl⟩:=Qau.mp hc
    exact Hh hy fun d hd=>zy d ((hL w' AA).1 d hd)
   have Fe:(L.map cr).length<=8:=by rw[Xl];exact hL8
   have UI: ∀c∈L.map cr,c.length<=8:=fun c hc=>by
    obtain ⟨w',AA,rfl⟩:=Qau.mp hc
    exact Qao (wb w') (hL w' AA).2
   have WA: ∀c∈L.map cr, ∀d∈c,d<128:=fun c hc d hd=>by
    rcases SI c hc with g | g
    ·rw[g]at hd;exact absurd hd Qag
    ·exact (hy.lt d (g.bW d hd)).lt
   generalize L.map cr=cs at SI Fe UI WA pN ⊢
   refine ⟨_,rfl,D,rfl,⟨_,bA.of pN⟩,?_⟩
   refine ik (K:=K) (a:=D) (xs:=cy cs) (fun i acc H'=>H'=H8/\ ∃L2:List (List Nat),acc=cy L2/\L2.length<=i/\ ∀c∈L2,SW y c/\c.length<=top) (by rw[bj];omega) (fun i acc H' h=>by rw[h.1];exact bA.of pN) ⟨rfl,[],rfl,Tz _,fun c hc=>absurd hc Qag⟩ ?_ ?_
   ·rintro i x acc H9 Nx hi hx gC ⟨rfl,L2,rfl,sP,Lu⟩ nx
    have hj:i<cs.length:=by rw[bj]at hi;exact hi
    rw[gj hj]at hx
    cases hx
    have hcj:=UI _ (Qas hj)
    have Yq:=SI _ (Qas hj)
    generalize cs[i]=c at hcj Yq ⊢
    refine ⟨⟨rfl,trivial⟩,?_⟩
    refine ⟨_,rfl,c,rfl,by omega,_,_,rfl,rfl,_,rfl,bY (fun z1=>?_) (fun z1=>?_)⟩
    ·have Yr:(0:Int)<(c.length:Nat):=of_decide_eq_true z1
     have cw:SW y c:=Yq.resolve_left fun e=>by rw[e]at Yr;simp at Yr
     refine ⟨_,rfl,_,_,rfl,rfl,_,rfl,bY (fun z2=>?_) (fun z2=>?_)⟩
     ·have z2':(c.length:Int)<=(top:Nat):=of_decide_eq_true z2
      refine ⟨_,rfl,nx _ _ (by simpa using gC) ⟨rfl,L2++[c],gH _ _,by rw[Oy];simpa using sP,fun d hd=>?_⟩⟩
      rcases Qaj.mp hd with g | g
      ·exact Lu d g
      ·rw[Zt.mp g];exact ⟨cw,by omega⟩
     ·exact nx _ _ (Qcd gC) ⟨rfl,L2,rfl,Qcd sP,Lu⟩
    ·exact ⟨_,rfl,gw rfl (nx _ _ (Qcd gC) ⟨rfl,L2,rfl,Qcd sP,Lu⟩)⟩
   ·rintro acc H9 D2 gC ⟨rfl,L2,rfl,sP,Lu⟩ Kn
    rw[bj]at sP
    have Ys:=Wz.trans (ar.upd (o:= .lst (cy L2)) Kn)
    have N0:upd H9 D2 (.lst (cy L2)) D2=some (.lst (cy L2)):=ah
    generalize upd H9 D2 (.lst (cy L2))=LG at Ys N0 ⊢
    refine ⟨_,rfl,Qad _,fun p0 n0=>?_⟩
    have Iu:=(ar.upd (o:= .lst []) n0) _ _ N0
    have WB:=Ys.trans (ar.upd (o:= .lst []) n0)
    have Yt:upd LG p0 (.lst []) p0=some (.lst []):=ah
    generalize upd LG p0 (.lst [])=Yu at Iu WB Yt ⊢
    have SX:=oz.same WB
    have SY:=NZ.after WB
    have Ff: ∀c∈L2, ∀d∈c,d<128:=fun c hc d hd=>(hy.lt d ((Lu c hc).1.bW d hd)).lt
    refine ⟨.list (JC L2), .list [], .lst (bA.of Iu) (qp _), .lst (bA.of Yt) .nil,⟨vq Ff,rfl⟩,by show PyData.depthAll (JC L2)+1<=60;rw[m8];decide,?_⟩
    cases L2 with
    | nil=>exact ⟨_,rfl,gw rfl (Cg _ _ ⟨_,_,rfl,SX,SY⟩)⟩
    | cons c L2=>
     refine ⟨_,rfl,ir rfl ?_⟩
     refine ⟨_,rfl,_,rfl,_,rfl,D2,_,rfl, .inl (bA.of Iu),b,_,rfl,SX,by rw[bj];show (1:Int)<=((L2.length+1:Nat):Int);omega,by rw[bj];omega,fun r3 WC Kt WD QF=>?_⟩
     have S0:r3<(c::L2).length:=by rw[bj]at Kt;omega
     have D2b:D2≠b:=(oz.same Wz).ne Kn
     refine ⟨D2,_,_,_,rfl,rfl,bA.of (QF _ _ Iu D2b),bM (gj S0),?_⟩
     obtain ⟨h1,h2⟩:=Lu _ (Qas S0)
     exact UH _ _ (q _ WC h1 h2 WD (SY.trans QF))
  ·exact Cg _ _ ⟨none,none,rfl,n_,s1⟩
 ·rintro σ H1 ⟨v3,v4,rfl,n_,s1⟩
  refine ⟨_,rfl,by decide,by decide,?_⟩
  refine eL (n:=6) (fun i σ H'=> ∃v5 v6:Option V,σ=[some (.ref b),some (.str (S y)),some (.int top),v3,v4,v5,v6]/\bH H' b/\aR b H H') ⟨none,none,rfl,n_,s1⟩ ?_ ?_
  ·rintro i σ H2 hi ⟨v5,v6,rfl,iK,s2⟩
   show kQ _ _ _ _ _
   refine Fu fun Dy SU hRy=>?_
   refine ⟨_,rfl,_,rfl,_,rfl,b,y,top,rfl,iK,hy,Ci,DW,Ip,by omega,fun w' H3 sw wl iY s3=>?_⟩
   refine ⟨_,rfl,_,rfl,y,w',rfl,hy,DW,sw,by omega,fun n H4 s4 e=>?_⟩
   refine ⟨_,_,rfl,rfl,_,rfl,bY (fun f=>?_) (fun f=>?_)⟩
   ·exact ⟨_,rfl,hRy _ _ (q w' H4 sw wl (iY.same s4) ((s2.trans s3).after s4))⟩
   ·exact SU _ _ ⟨_,_,rfl,iY.same s4,(s2.trans s3).after s4⟩
  ·rintro σ H2 ⟨v5,v6,rfl,iK,s2⟩
   refine ⟨_,rfl,_,rfl,_,rfl,y,rfl,by omega,b,_,rfl,iK,by omega,by omega,fun r H3 Kt iY s3=>?_⟩
   have hr:r<y.length:=by omega
   refine ⟨y,_,_,rfl,rfl,by omega,bM (Mt hr),?_⟩
   have mZ:y[r]∈y:=Qas hr
   generalize y[r]=c at mZ ⊢
   refine q [c] H3 (G9 hy mZ mZ (fun z=>eI (hy.lt c mZ) z.symm) (fun z=>eI (hy.lt c mZ) z.symm) (by simp) fun d hd=> .inl (Zt.mp hd)) (by simp;omega) iY (s2.trans s3)
theorem HG:bI P w K mg base dW 2 O6 Qa ["_law_box_here","_law_yard_here","_law_top"] (xQ K):=by
 have a_:=eA (P:=P) (w:=w) (base:=base) T
 refine T.Uj.fn.ok Hy (fun vs H Q E h=>Dg h) (fun cC A outer s H vs Q E hr h=>?_)
 refine ⟨_,(aj (aI (bD K rfl Qai Qb5 Qb4 (fU K rfl) (gv [] (by decide+kernel)) (aa (cn ["_law_k","_law_yard_here","_law_box_here"] [none,some 1,some 0] (cS rfl T.z_range (aa (ao a_ (hr.mono (by decide)) rfl T.dk.mg T.dk.fn.kp T.dk.bd .nil az (aa (pv 0) (aa (aA aW (pv 2) ai) ae))) ae)) ⟨⟨rfl,rfl,by first | exact .inl rfl | exact .inr rfl⟩,⟨⟨rfl,rfl,by first | exact .inl rfl | exact .inr rfl⟩,trivial⟩⟩ (fun _ _ _ _=>(aF (i:=0) (by decide+kernel:List.Nodup (["_law_k","_law_yard_here","_law_box_here"]:List Str)) rfl (Or.inl rfl))) (fun _ _ _ _=>da) (fun _ _ _ _=>(aQ eU (pv 1) (ao a_ (hr.mono (by decide)) rfl T.dk.mg T.dk.fn.kp T.dk.bd .nil az (aa (pv 2) (aa (aB aM rfl T.z_len Qab (aa (pv 1) ae)) ae))) (fun _ _=>rfl)))) ae)))),?_⟩
 obtain ⟨b,y,top,rfl,hb,hy,hyl,ht,q⟩:=h
 have hs:(100000:Nat)<sizeLine:=by decide
 walk_at "rd"
 refine ⟨b,_,rfl,hb,by omega,by omega,fun n H1 hn n_ s1=>?_⟩
 walk_at "rd"
 refine jv (fun i acc H'=>bH H' b/\aR b H H'/\ ∃l:List Nat,acc=bN l/\l.length=i/\ ∀c∈l,c∈y) (by simp;omega) ⟨n_,s1,[],rfl,rfl,by simp⟩ ?_ ?_
 ·rintro i acc H2 Nx hi hl ⟨iK,s2,l,rfl,sP,hm⟩ nx
  have m5:0<y.length:=Zs.mpr hy
  refine ⟨⟨rfl,rfl,trivial⟩,cu ?_⟩
  walk_at "rd"
  refine ⟨b,_,rfl,iK,by omega,by omega,fun r H3 Kt iY s3=>?_⟩
  have Iq:r<y.length:=by omega
  refine ⟨y,_,y[r],rfl,rfl,by omega,bM (Mt Iq),?_⟩
  refine nx _ _ (by simpa using hl) ⟨iY,s2.trans s3,l++[y[r]],cL _ _,by simp[sP],fun c hc=>?_⟩
  rcases Qaj.mp hc with z | z
  ·exact hm c z
  ·rw[Zt.mp z];exact Qas Iq
 ·rintro acc H2 D hl ⟨iK,s2,l,rfl,sP,hm⟩ hD
  have WE:l.length<=top:=by simp at sP;omega
  refine ⟨D,l.map fun c=>[c],rfl,rfl,bA.of ?_,?_,?_⟩
  ·rw[ah, <-dB]
  ·rw[vn];omega
  ·rw[lW]
   exact q l _ hm WE (iK.same (ar.upd hD)) (s2.trans (aR.of (ar.upd hD)))
theorem yL:bI P w K mg base dW 3 O8 Qc ["_law_box_here","_law_yard_here","_law_word_here","_law_top"] (yC K):=by
 have a_:=eA (P:=P) (w:=w) (base:=base) T
 have bz:=cY (P:=P) (w:=w) (base:=base) T
 have rj:=uC (P:=P) (w:=w) (base:=base) T
 refine T.NO.fn.ok j5 (fun vs H Q E h=>DP h) (fun cC A outer s H vs Q E hr h=>?_)
 refine ⟨_,(ag (aq (i:=4) j5.nd rfl (Or.inl rfl) (ao a_ (hr.mono (by decide)) rfl T.dk.mg T.dk.fn.kp T.dk.bd .nil az (aa (pv 0) (aa ai ae))))
   (ag (aq (i:=5) j5.nd rfl (Or.inl rfl) (ao a_ (hr.mono (by decide)) rfl T.dk.mg T.dk.fn.kp T.dk.bd .nil az (aa (pv 0) (aa (aB aM rfl T.z_len Qab (aa (pv 2) ae)) ae))))
   (ag (bQ (aG eX (pv 4) ai (aK _)) (aj (aI (aA cf (bo gF (pv 2) (bp (pv 5)) bS) (bo gF (pv 2) bS (bp (pv 5)))))) bB)
   (ag (bQ (aG eX (pv 4) ai (aK _)) (aj (aI (bD K rfl Qai Qb5 Qb4 (fU K rfl) (gv [] (by decide+kernel)) (aa (cn ["_law_letter_here"] [none] (EX rfl T.z_reversed (aa (pv 2) ae)) trivial (fun _ _ _ _=>(aF (i:=0) (by decide+kernel:List.Nodup (["_law_letter_here"]:List Str)) rfl (Or.inl rfl))) (fun _ _ _ _=>da) (fun _ _ _ _=>(ao bz (hr.mono (by decide)) rfl T.gB.mg T.gB.fn.kp T.gB.bd .nil az (aa (pv 0) ae)))) ae)))) bB)
   (ag (bQ (aG eX (pv 4) ai (aK _)) (ag (aq (i:=6) j5.nd rfl (Or.inl rfl) (aQ eU (pv 1) (ao a_ (hr.mono (by decide)) rfl T.dk.mg T.dk.fn.kp T.dk.bd .nil az (aa (pv 0) (aa (aB aM rfl T.z_len Qab (aa (pv 1) ae)) ae))) (fun _ _=>rfl)))
   (ag (aq (i:=7) j5.nd rfl (Or.inl rfl) (aA cf (bo gF (pv 2) bS (bp (pv 5))) (pv 6)))
   (aj (bQ (aG (Bb K rfl) (pv 6) (cT (aa (ao bz (hr.mono (by decide)) rfl T.gB.mg T.gB.fn.kp T.gB.bd .nil az (aa (aQ eU (pv 7) ai (fun _ _=>rfl)) ae)) (aa (ao bz (hr.mono (by decide)) rfl T.gB.mg T.gB.fn.kp T.gB.bd .nil az (aa (aQ eU (bo gF (pv 7) (bp (fS dI ai)) bS) ai (fun _ _=>rfl)) ae)) ae))) (by with_unfolding_all rfl)) (aj (aI (pv 7))) bB)))) bB)
   (aj (aI (ao rj (hr.mono (by decide)) rfl T.NN.mg T.NN.fn.kp T.NN.bd .nil az (aa (pv 0) (aa (pv 1) (aa (pv 3) ae))))))))))),?_⟩
 obtain ⟨b,y,w,top,rfl,hb,hy,Ko,Ci,Ip,Qy,wne,Ku,mQ,q⟩:=h
 have hs:(100000:Nat)<sizeLine:=by decide
 have SQ:y.length<=sizeLine:=by omega
 have ou:w.length<=sizeLine:=by omega
 have m5:0<w.length:=Zs.mpr wne
 have lw: ∀c∈w,Lt c:=fun c hc=>hy.lt c (Ku c hc)
 refine ⟨_,rfl,b,5,rfl,hb,by decide,by decide,fun fm H1 Yj n_ s1=>?_⟩
 refine ⟨_,rfl,_,rfl,w,rfl,ou,b,_,rfl,n_,by omega,by omega,fun at' H2 MQ iK s2=>?_⟩
 have uA:=s1.trans s2
 have NY:at'<w.length:=by omega
 refine ⟨_,rfl,_,_,rfl,rfl,_,rfl,bY (fun f0=>?_) (fun f0=>?_)⟩
 ·have hlen:(cut w (some (at':Int)) none).length+(cut w none (some (at':Int))).length<=sizeLine:=by rw[cG,cM,Qa2,Qae];omega
  have AO:cut w (some (at':Int)) none++cut w none (some (at':Int))=w.drop at'++w.take at':=by rw[cG,cM]
  refine ⟨_,rfl,_,rfl,_,rfl,w,rfl,ou,_,rfl,_,rfl,_,rfl,w,rfl,ou,_,_,rfl,rfl,hlen,?_⟩
  rw[AO]
  exact q _ _ (fun c hc=>Ku c ((Qaj.mp hc).elim Qe0 Qcl)) (by rw[Oy,Qa2,Qae];omega) iK uA
 ·refine ⟨_,rfl,_,_,rfl,rfl,_,rfl,bY (fun f1=>?_) (fun f1=>?_)⟩
  ·refine ⟨rfl,_,rfl,w,rfl,by omega,?_⟩
   rw[Bm]
   refine ig (xs:=bN w.reverse) (fun i acc H'=>ar H2 H'/\acc=bN ((w.reverse.take i).map aC)) (by rw[aY,Qa6];omega) ⟨ar.refl H2,rfl⟩ ?_ ?_
   ·rintro i x acc H3 Nx hi hx hl ⟨s3,rfl⟩ nx
    obtain ⟨c,rJ,rfl⟩:=fN hx
    refine ⟨trivial,cu ⟨_,rfl,c,rfl,lw c (Qdv.mp (Qah rJ)),nx _ _ (by simpa using hl) ⟨s3,?_⟩⟩⟩
    rw[cL, <-take_snoc rJ,Qaa]
    rfl
   ·rintro acc H3 D hl ⟨s3,rfl⟩ hD
    refine ⟨D,(iq w).map fun c=>[c],rfl,rfl,bA.of ?_,?_,?_⟩
    ·rw[ah, <-dB,aY,Qar (Tz _),Qda]
     rfl
    ·rw[vn]
     unfold iq
     rw[Qa6,Xl]
     omega
    ·rw[lW]
     exact q _ _ (fun c hc=>by
      obtain ⟨d,hd,rfl⟩:=Qau.mp (Qdv.mp hc)
      exact hy.cl d (Ku d hd)) (by rw[cR];omega) ((iK.same s3).same (ar.upd hD)) (uA.after (s3.trans (ar.upd hD)))
  ·refine ⟨_,rfl,_,_,rfl,rfl,_,rfl,bY (fun f2=>?_) (fun f2=>?_)⟩
   ·refine ⟨_,rfl,_,rfl,_,rfl,y,rfl,SQ,b,_,rfl,iK,by omega,by omega,fun r H3 Kt iY s3=>?_⟩
    have Hz:=uA.trans s3
    have hr:r<y.length:=by omega
    refine ⟨y,_,_,rfl,rfl,SQ,bM (Mt hr),?_⟩
    have mZ:y[r]∈y:=Qas hr
    generalize y[r]=c at mZ ⊢
    have hlc:=hy.lt c mZ
    have hlen:(cut w none (some (at':Int))).length+[c].length<=sizeLine:=by rw[cG,Qae];show _+1<=_;omega
    refine ⟨_,rfl,_,rfl,_,rfl,w,rfl,ou,_,rfl,_,_,rfl,rfl,hlen,?_⟩
    rw[cG]
    have Eo:(w.take at').length=at':=by rw[Qae];omega
    have S3: ∀a∈w.take at',a∈y:=fun a ha=>Ku a (Qcl ha)
    generalize w.take at'=u at Eo S3 ⊢
    have SK:(u++[c]).length=at'+1:=by rw[Oy,Eo];rfl
    have WG:u++[c]≠[]:=by simp
    have WH: ∀a∈u++[c],a∈y:=fun a ha=>(Qaj.mp ha).elim (S3 a) fun g=>by rw[Zt.mp g];exact mZ
    have g0:jc (u++[c]) (0:Int)=some (rd (u++[c]) 0):=kE (by omega) (by omega)
    have UG:cut (u++[c]) (some (-2)) none=(u++[c]).drop (at'+1 - 2):=by rw[MX,SK]
    have OA:((u++[c]).drop (at'+1 - 2)).length=at'+1 - (at'+1 - 2):=by rw[Qa2,SK]
    have WI:(u++[c]).drop (at'+1 - 2)≠[]:=fun z=>by rw[z]at OA;simp at OA;omega
    have g2:jc ((u++[c]).drop (at'+1 - 2)) (0:Int)=some (rd ((u++[c]).drop (at'+1 - 2)) 0):=kE (by omega) (by omega)
    have Yv:=WH _ (fH WG 0)
    have Yw:=WH _ (Qe0 (fH WI 0))
    generalize rd (u++[c]) 0=x0 at g0 Yv
    generalize rd ((u++[c]).drop (at'+1 - 2)) 0=x2 at g2 Yw
    refine ⟨_,rfl,_,rfl,_,_,_,rfl,rfl,by omega,g0,_,rfl,hy.lt _ Yv,?_⟩
    refine ⟨_,rfl,_,rfl,_,rfl,u++[c],rfl,by omega,?_⟩
    rw[UG]
    refine ⟨_,_,_,rfl,rfl,by rw[OA];omega,g2,_,rfl,hy.lt _ Yw,by show 2<=sizeLine;decide,fun p np=>?_⟩
    have WJ:=iY.ne np
    have Yx:=Hz.none np WJ
    refine ⟨p,_,rfl, .inl (bA.of ah),rfl,rfl,?_⟩
    have iv:=Jj c (aC x0) (aC x2)
    rw[show (if true=true then !sO (.str (S [c])) [.str (S [aC x0]), .str (S [aC x2])] else sO (.str (S [c])) [.str (S [aC x0]), .str (S [aC x2])])=!(decide (c=aC x0)||decide (c=aC x2)) by rw[if_pos rfl,iv]]
    refine ⟨_,rfl,bY (fun f3=>?_) (fun f3=>?_)⟩
    ·exact ⟨_,rfl,q (u++[c]) _ WH (by omega) (iY.dc WJ) (Hz.dc Yx)⟩
    ·exact ⟨_,rfl,_,rfl,_,rfl,b,y,top,rfl,iY.dc WJ,hy,Ko,Ci,Ip,Qy,fun l H4 hl Ir oz s4=>q l H4 hl.bW Ir oz ((Hz.dc Yx).trans s4)⟩
   ·exact ⟨_,rfl,_,rfl,_,rfl,b,y,top,rfl,iK,hy,Ko,Ci,Ip,Qy,fun l H3 hl Ir iY s3=>q l H3 hl.bW Ir iY (uA.trans s3)⟩
theorem D8:bI P w K mg base dW 9 Pw Qv ["_law_box_here","_law_yard_here"] (uw K):=by
 have a_:=eA (P:=P) (w:=w) (base:=base) T
 have Kv:=HE (P:=P) (w:=w) (base:=base) T
 have Kw:=HG (P:=P) (w:=w) (base:=base) T
 have wJ:=yL (P:=P) (w:=w) (base:=base) T
 refine T.Uv.fn.ok fL (fun vs H Q E h=>AD h) (fun cC A outer s H vs Q E hr h=>?_)
 refine ⟨_,(ag (aq (i:=2) fL.nd rfl (Or.inl rfl) (cT ae))
   (ag (cE PassesOwn.never rfl (cS rfl T.z_range (aa (ao a_ (hr.mono (by decide)) rfl T.dk.mg T.dk.fn.kp T.dk.bd .nil az (aa (pv 0) (aa ai ae))) ae)) (aF (i:=3) fL.nd rfl (Or.inl rfl)) (ag (aq (i:=4) fL.nd rfl (Or.inl rfl) (ao a_ (hr.mono (by decide)) rfl T.dk.mg T.dk.fn.kp T.dk.bd .nil az (aa (pv 0) (aa ai ae))))
   (ag (aq (i:=5) fL.nd rfl (Or.inl rfl) (ao Kv (hr.mono (by decide)) rfl T.Uu.mg T.Uu.fn.kp T.Uu.bd .nil az (aa (pv 0) (aa (pv 1) (aa ai ae)))))
   (eZ (bQ (aG eX (pv 4) ai (aK _)) (aj (aq (i:=5) fL.nd rfl (Or.inl rfl) (ao Kw (hr.mono (by decide)) rfl T.Uj.mg T.Uj.fn.kp T.Uj.bd .nil az (aa (pv 0) (aa (pv 1) (aa ai ae)))))) bB)
   (eZ (bQ (PW.pt (gD (aG eX (pv 4) ai (aK _)) (gD (aG (zJ K rfl hr) (pv 2) (cT ae) (aK _)) (gq (aG qe (aQ (bK K rfl) (pv 2) (fS dI ai) (fun _ _=>rfl)) (gv [] (by decide+kernel)) (aK _)))))) (aj (aq (i:=5) fL.nd rfl (Or.inl rfl) (ao wJ (hr.mono (by decide)) rfl T.NO.mg T.NO.fn.kp T.NO.bd .nil az (aa (pv 0) (aa (pv 1) (aa (aQ (bK K rfl) (pv 2) (fS dI ai) (fun _ _=>rfl)) (aa ai ae))))))) bB)
   (aj (cQ (bD K rfl Qap Qba Qa9 cU (pv 2) (aa (pv 5) ae)))))))))
   (aj (aI (b7 (cV K rfl) rfl T.z_tuple boot_tuple (aa (pv 2) ae)))))),?_⟩
 obtain ⟨b,y,rfl,hb,hy,Ci,DW,q⟩:=h
 have hs:(100000:Nat)<sizeLine:=by decide
 refine ⟨by show 0<=sizeLine;decide,fun t nt=>?_⟩
 have tb:=hb.ne nt
 have Yy:upd H t (.lst []) t=some (.lst (cy [])):=ah
 have n_:=hb.dc (o:= .lst []) tb
 have s1:aR b H (upd H t (.lst [])):=aR.of (ar.upd nt)
 generalize upd H t (.lst [])=H1 at Yy n_ s1 ⊢
 refine ⟨_,rfl,b,5,rfl,n_,by decide,by decide,fun r H2 hr iK s2=>?_⟩
 refine ⟨_,rfl,by omega,by omega,?_⟩
 rw[Xo]
 refine eL (fun i σ H'=> ∃(ws:List (List Nat)) (v3 v4 v5:Option V),σ=[some (.ref b),some (.str (S y)),some (.ref t),v3,v4,v5]/\H' t=some (.lst (cy ws))/\ws.length=i/\(∀w∈ws,(∀c∈w,c∈y)/\w.length<=6)/\bH H' b/\aR b H H')
  ⟨[],none,none,none,rfl,s2 _ _ Yy tb,rfl,fun w hw=>absurd hw Qag,iK,s1.trans s2⟩ ?_ ?_
 ·rintro i σ H3 hi ⟨ws,v3,v4,v5,rfl,ht3,WE,WK,iY,s3⟩
  show kQ _ _ _ _ _
  refine i5 fun D hD=>?_
  refine ⟨_,rfl,b,8,rfl,iY,by decide,by decide,fun fm H4 Yj oz s4=>?_⟩
  refine ⟨_,rfl,_,rfl,b,y,6,rfl,oz,hy,Ci,DW,by decide,by decide,fun w4 H5 sw4 wl4 S4 s5=>?_⟩
  have S5:=s5 _ _ (s4 _ _ ht3 tb) tb
  have Yz:=s3.trans (s4.trans s5)
  have WL:y≠[]:=fun z=>by rw[z]at Ci;simp at Ci
  refine ⟨fun σ' H'=> ∃w5:List Nat,σ'=[some (.ref b),some (.str (S y)),some (.ref t),some (.int (0+(i:Int))),some (.int fm),some (.str (S w5))]/\(∀c∈w5,c∈y)/\w5.length<=6/\H' t=some (.lst (cy ws))/\bH H' b/\aR b H H',?_,?_⟩
  ·refine i5 fun D1 pN=>?_
   refine ⟨_,rfl,_,_,rfl,rfl,_,rfl,bY (fun f0=>?_) (fun f0=>?_)⟩
   ·refine ⟨_,rfl,_,rfl,b,y,6,rfl,S4,WL,Qao DW (by decide),by decide,fun w6 H6 h6 l6 Iv s6=>?_⟩
    exact pN _ _ ⟨w6,rfl,h6,l6,s6 _ _ S5 tb,Iv,Yz.trans s6⟩
   ·exact pN _ _ ⟨w4,rfl,sw4.bW,wl4,S5,S4,Yz⟩
  ·rintro σ6 H6 ⟨w5,rfl,h5,l5,N1,Iv,s6⟩
   refine ⟨fun σ' H'=> ∃w5:List Nat,σ'=[some (.ref b),some (.str (S y)),some (.ref t),some (.int (0+(i:Int))),some (.int fm),some (.str (S w5))]/\(∀c∈w5,c∈y)/\w5.length<=6/\H' t=some (.lst (cy ws))/\bH H' b/\aR b H H',?_,?_⟩
   ·refine i5 fun D1 pN=>?_
    refine ⟨_,rfl,_,_,rfl,rfl,_,rfl,bY (fun f1=>?_) (fun f1=>?_)⟩
    ·refine ⟨_,rfl,Qad _,fun p0 n0=>?_⟩
     have YA:p0≠b:=Iv.ne n0
     have Ep:=Iv.dc (o:= .lst []) YA
     have s7:=s6.dc (o:= .lst []) (s6.none n0 YA)
     have Er:=(ar.upd (o:= .lst []) n0) _ _ N1
     have YB:upd H6 p0 (.lst []) p0=some (.lst []):=ah
     generalize upd H6 p0 (.lst [])=H7 at Ep s7 Er YB ⊢
     have Ff: ∀c∈ws, ∀d∈c,d<128:=fun c hc d hd=>(hy.lt d ((WK c hc).1 d hd)).lt
     refine ⟨.list (JC ws), .list [], .lst (bA.of Er) (qp _), .lst (bA.of YB) .nil,⟨vq Ff,rfl⟩,by show PyData.depthAll (JC ws)+1<=60;rw[m8];decide,?_⟩
     by_cases z:ws=[]
     ·subst z
      exact ⟨_,rfl,gw rfl (gw rfl (pN _ _ ⟨w5,rfl,h5,l5,Er,Ep,s7⟩))⟩
     ·obtain ⟨l,hl,el⟩:=Hj z
      obtain ⟨l1,l2⟩:=WK l hl
      refine ⟨_,rfl,ir (by cases ws with | nil=>exact absurd rfl z | cons c r=>rfl) ?_⟩
      refine ⟨_,rfl,_,rfl,t,_,_,_,rfl,rfl,bA.of Er,el,?_⟩
      refine ⟨_,_,rfl,rfl,_,rfl,bY (fun f2=>?_) (fun f2=>?_)⟩
      ·have lne:l≠[]:=fun e=>by rw[e]at f2;revert f2;decide
       refine ⟨_,rfl,_,rfl,_,rfl,_,rfl,t,_,_,_,rfl,rfl,bA.of Er,el,?_⟩
       refine ⟨b,y,l,6,rfl,Ep,hy,Ci,DW,by decide,by decide,lne,l1,l2,fun u H8 hu ul S6 s8=>?_⟩
       exact pN _ _ ⟨u,rfl,hu,ul,s8 _ _ Er tb,S6,s7.trans s8⟩
      ·exact pN _ _ ⟨w5,rfl,h5,l5,Er,Ep,s7⟩
    ·exact pN _ _ ⟨w5,rfl,h5,l5,N1,Iv,s6⟩
   ·rintro σ7 H7 ⟨w5,rfl,h5,l5,Er,Ep,s7⟩
    refine ⟨_,rfl, .inl ⟨rfl,_,bA.of Er⟩,_,rfl,t,cy ws,_,rfl,rfl,Er,by rw[bj];omega,?_⟩
    refine hD _ _ ⟨ws++[w5],_,_,_,rfl,by rw[ah,gH],by rw[Oy,WE];rfl,fun u hu=>?_,Ep.dc tb,s7.dc nt⟩
    rcases Qaj.mp hu with g | g
    ·exact WK u g
    ·rw[Zt.mp g];exact ⟨h5,l5⟩
 ·rintro σ H4 ⟨ws,v3,v4,v5,rfl,ht4,hl4,hw4,oz,s4⟩
  refine ⟨_,rfl,t,_,rfl, .inl ⟨bA.of ht4,fun u nu=>?_⟩⟩
  have ub:u≠b:=oz.ne nu
  have nu0:=s4.none nu ub
  exact q u ws _ ub ah (by omega) hw4 (oz.dc ub) (s4.dc nu0)
theorem AU:bI P w K mg base dW 8 Pn Qq ["_law_yard_here","_law_word_here"] (qH K):=by
 have gf:=iZ (P:=P) (w:=w) (base:=base) T
 have AS:=Cj (P:=P) (w:=w) (base:=base) T
 refine T.Uq.fn.ok q9 (fun vs H Q E h=>yx h) (fun cC A outer s H vs Q E hr h=>?_)
 refine ⟨_,(ag (aq (i:=2) q9.nd rfl (Or.inl rfl) (ao gf (hr.mono (by decide)) rfl T.Im.mg T.Im.fn.kp T.Im.bd .nil az (aa (pv 1) ae)))
   (aj (aI (zc (dN qe (pv 2) (gv [] (by decide+kernel)) (aK _)) (za (dN eX (ao AS (hr.mono (by decide)) rfl T.NR.mg T.NR.fn.kp T.NR.bd .nil az (aa (pv 0) (aa (pv 2) ae))) ai (aK _))))))),?_⟩
 obtain ⟨y,w',c,rfl,hy,hz,hc,ev,q⟩:=h
 have hs:(100000:Nat)<sizeLine:=by decide
 have lV:=hc.lV
 refine ⟨_,rfl,w',rfl,hc.lt,by omega,fun H1 s1=>?_⟩
 rw[hc.is]
 refine ⟨_,rfl,_,_,rfl,rfl,_,rfl,?_⟩
 rcases hc.sw with e | zE
 ·refine gw (by rw[decide_eq_true e];rfl) ?_
  have:=q H1 s1
  unfold NF at this
  rw[decide_eq_true e]at this
  exact this
 ·have hn:=zE.ne
  refine ir (by rw[decide_eq_false (show ¬c=[] from hn)];rfl) ?_
  refine ⟨_,rfl,_,rfl,y,c,rfl,hy,hz,zE,hc.len,fun n H2 s2 e=>?_⟩
  refine ⟨_,_,rfl,rfl,?_⟩
  have ed:decide ((n:Int)=0)=NF y c:=by
   unfold NF TY
   rw[decide_eq_false (show ¬c=[] from hn)]
   obtain ⟨k,hk⟩:=ev zE
   have D9:=(vY (y:=y) hn).1
   unfold jf at hk D9 ⊢
   exact decide_eq_decide.mpr ⟨fun z=>by omega,fun z=>by omega⟩
  show Q (.bl (decide ((n:Int)=0))) H2
  rw[ed]
  exact q H2 (s1.trans s2)
theorem wK:bI P w K mg base dW 9 Po Qr ["_law_yard_here","_law_words_here"] (mH K):=by
 have gf:=iZ (P:=P) (w:=w) (base:=base) T
 have lE:=ow (P:=P) (w:=w) (base:=base) T
 have D_:=AU (P:=P) (w:=w) (base:=base) T
 refine T.Ur.fn.ok fq (fun vs H Q E h=>rY h) (fun cC A outer s H vs Q E hr h=>?_)
 refine ⟨_,(ag (fT (i:=2) ["_law_word_here"] [none] fq.nd rfl (Or.inl rfl) (gU K rfl (pv 1)) trivial (fun _ _ _ _=>(aF (i:=0) (by decide+kernel:List.Nodup (["_law_word_here"]:List Str)) rfl (Or.inl rfl))) (fun _ _ _ _=>da) (fun _ _ _ _=>(ao gf (hr.mono (by decide)) rfl T.Im.mg T.Im.fn.kp T.Im.bd .nil az (aa (pv 0) ae))))
   (ag (cE PassesOwn.never rfl (xA K rfl rfl T.z_enumerate (aa (pv 2) ae)) (eY (n:=2) K rfl rfl (bf (aF (i:=3) fq.nd rfl (Or.inl rfl)) (bf (aF (i:=4) fq.nd rfl (Or.inr rfl)) eB))) (ag (fT (i:=5) ["_law_other_here","_law_yard_here","_law_word_here"] [none,some 0,some 4] fq.nd rfl (Or.inl rfl) (dY K rfl (bo (lQ K rfl) (pv 2) bS (bp (pv 3)))) ⟨⟨rfl,rfl,by first | exact .inl rfl | exact .inr rfl⟩,⟨⟨rfl,rfl,by first | exact .inl rfl | exact .inr rfl⟩,trivial⟩⟩ (fun _ _ _ _=>(aF (i:=0) (by decide+kernel:List.Nodup (["_law_other_here","_law_yard_here","_law_word_here"]:List Str)) rfl (Or.inl rfl))) (fun _ _ _ _=>da) (fun _ _ _ _=>(ao lE (hr.mono (by decide)) rfl T.NQ.mg T.NQ.fn.kp T.NQ.bd .nil az (aa (pv 1) (aa (pv 2) (aa (pv 0) ae))))))
   (aj (bQ (PW.pt (Ew (LX (kP (ao D_ (hr.mono (by decide)) rfl T.Uq.mg T.Uq.fn.kp T.Uq.bd .nil az (aa (pv 0) (aa (pv 4) ae))))) (y_ (aG jn (aB (C5 K rfl rfl) rfl T.z_sum boot_sum (aa (pv 5) ae)) ai (aK _))))) (aj (aI sx)) bB))))
   (aj (aI sx)))),?_⟩
 obtain ⟨y,wt,ws,rfl,hy,hz,mQ,hk,q⟩:=h
 have hs:(100000:Nat)<sizeLine:=by decide
 have lV:=hk.lV
 refine ⟨_,rfl,wt,rfl,⟨_,cO.of mQ⟩,?_⟩
 refine il (K:=K) (a:=wt) (xs:=cy ws) (fun i acc H'=>ar H H'/\acc=cy ((ws.take i).map cr)) (by rw[bj];omega) (fun i acc H' h=>cO.of (h.1 _ _ mQ)) ⟨ar.refl _,rfl⟩ ?_ ?_
 ·rintro i x acc H1 Nx hi hx gC ⟨s1,rfl⟩ nx
  have hj:i<ws.length:=by rw[bj]at hi;exact hi
  rw[gj hj]at hx
  cases hx
  have sh:=hk.sh hy _ (Qas hj)
  have fw:=sh.lV
  refine ⟨trivial,cu ⟨_,rfl,_,rfl,sh.lt,by omega,fun H2 s2=>?_⟩⟩
  rw[sh.is]
  refine nx _ _ (by simpa using gC) ⟨s1.trans s2,?_⟩
  rw[Qd7,Mt hj,Qaa]
  exact gH _ _
 ·rintro acc H1 D gC ⟨s1,rfl⟩ hD
  rw[bj,Qar (Tz _)]
  have pN:upd H1 D (.lst (cy (ws.map cr))) D=some (.lst (cy (ws.map cr))):=ah
  have s2:=s1.trans (ar.upd (o:= .lst (cy (ws.map cr))) hD)
  generalize upd H1 D (.lst (cy (ws.map cr)))=H2 at pN s2 ⊢
  have Fe:(ws.map cr).length=ws.length:=Xl _
  have Ox: ∀c∈ws.map cr,(c=[]\/SW y c)/\c.length<=12:=fun c hc=>by
   obtain ⟨w',AA,rfl⟩:=Qau.mp hc
   exact ⟨Hh hy (hk.bW w' AA).1,Qao (wb w') (hk.bW w' AA).2⟩
  have hq: ∀H',ar H2 H'->Q (.bl (yA y (ws.map cr))) H':=fun H' s=>q H' (s2.trans s)
  clear q s1 s2 gC mQ
  generalize ws.map cr=cs at Fe Ox hq pN ⊢
  have aac:cs.length<=4:=by omega
  refine ⟨_,rfl,D,rfl,⟨_,bA.of pN⟩,?_⟩
  refine tf (K:=K) (a:=D) (xs:=cy cs) (fun i σ H'=> ∃v3 v4 v5:Option V,σ=[some (.str (S y)),some (.ref wt),some (.ref D),v3,v4,v5]/\ar H2 H'/\(∀c∈cs.take i,SW y c)/\nE y (cs.take i)=0) ⟨none,none,none,rfl,ar.refl _,fun c hc=>absurd hc (by simp),rfl⟩ (fun i σ H' _ ⟨_,_,_,_,h,_⟩=>bA.of (h _ _ pN)) ?_ ?_
  ·rintro i x' σ H3 T w9 ⟨v3,v4,v5,rfl,s3,zE,h0⟩ nT
   have hi:i<cs.length:=by
    have:=(Mu.mp w9).1
    rwa [bj]at this
   rw[gj hi]at w9
   cases w9
   have hr:=Qas hi
   have hgd:cs.getD i []=cs[i]:=by rw[kb,Mt hi];rfl
   have Ov:=uo (y:=y) hi
   rw[hgd]at Ov
   have YC:cs.take (i+1)=cs.take i++[cs[i]]:=by rw[Qd7,Mt hi];rfl
   generalize cs[i]=r at hr Ov YC ⊢
   have s4:=s3.trans (ar.upd (o:= .tup [.int i, .str (S r)]) nT)
   refine ⟨T,_,rfl,cO.of ah,rfl,_,_,rfl,_,_,rfl,rfl,?_⟩
   show kQ _ _ _ _ _
   refine Fu fun Dx Cg UH=>?_
   generalize upd H3 T (.tup [.int i, .str (S r)])=H4 at s4 ⊢
   have sr:=Ox r hr
   refine ⟨_,rfl,_,rfl,_,rfl,D,_,rfl,bA.of (s4 _ _ pN),fun p1 n1=>?_⟩
   have ec:xg (cy cs) none (some (i:Int))=cy (cs.take i):=by
    show cut (cy cs) none (some (i:Int))=_
    rw[cG]
    unfold cy
    rw[Qe7]
   rw[ec]
   have s5:=s4.trans (ar.upd (o:= .lst (cy (cs.take i))) n1)
   have oQ:upd H4 p1 (.lst (cy (cs.take i))) p1=some (.lst (cy (cs.take i))):=ah
   generalize upd H4 p1 (.lst (cy (cs.take i)))=H5 at s5 oQ ⊢
   have WM:(cs.take i).length=i:=by rw[Qae];omega
   refine ⟨p1,rfl,⟨_,bA.of oQ⟩,?_⟩
   refine ik (K:=K) (a:=p1) (xs:=cy (cs.take i)) (fun j acc H'=>ar H5 H'/\ ∃ns:List Int,acc=ns.map V.int/\ns.length=j/\ns.sum=sm j (fun d=>SS y (cs.getD d.toNat []) r)) (by rw[bj];omega) (fun j acc H' h=>bA.of (h.1 _ _ oQ)) ⟨ar.refl _,[],rfl,rfl,rfl⟩ ?_ ?_
   ·rintro j x' acc H6 Nx hj w9 gC ⟨s6,ns,rfl,UJ,HY⟩ nx
    have Ei:j<(cs.take i).length:=by rw[bj]at hj;exact hj
    rw[gj Ei]at w9
    cases w9
    have hv:=zE _ (Qas Ei)
    have hvl:=(Ox _ (Qcl (Qas Ei))).2
    have hvd:cs.getD j []=(cs.take i)[j]:=by
     rw[List.getElem_take,kb,Mt (by omega)]
     rfl
    refine ⟨⟨rfl,rfl,trivial⟩,cu ?_⟩
    refine ⟨_,rfl,_,rfl,_,rfl,y,r,_,rfl,hy,hz,sr.1,sr.2,hv,hvl,fun n H7 s7 e=>?_⟩
    refine nx _ _ (by simp[UJ]) ⟨s6.trans s7,ns++[(n:Int)],by rw[Qaa];rfl,by rw[Oy,UJ];rfl,?_⟩
    rw[Qev,HY]
    show sm j _+(n+0:Int)=sm j _+SS y (cs.getD ((j:Int).toNat) []) r
    rw[Xo,hvd,e,Qbs]
    rcases sr.1 with g | g
    ·rw[g]
     congr 1
     show (0:Int)=_
     unfold SS cA
     exact (fQ _).symm
    ·exact congrArg _ (Ng hy g hv)
   ·rintro acc H6 D2 gC ⟨s6,ns,rfl,UJ,HY⟩ Kn
    rw[bj,WM]at UJ HY
    have s7:=s5.trans (s6.trans (ar.upd (o:= .lst (ns.map V.int)) Kn))
    have N0:upd H6 D2 (.lst (ns.map V.int)) D2=some (.lst (ns.map V.int)):=ah
    generalize upd H6 D2 (.lst (ns.map V.int))=H7 at s7 N0 ⊢
    have hnn:0<=ns.sum:=by rw[HY];exact Az (fun _=>(G8 y _ _).1) _
    have sh:SE y r r:=by
     rcases sr.1 with g | g
     ·subst g;exact ⟨fun _ h=>absurd h Qag,Qad _,rfl, .inl rfl,Qad _⟩
     ·exact NG hy g sr.2
    refine ⟨_,rfl,_,rfl,y,r,r,rfl,hy,hz,sh,fun g=>Hf hy g,fun H8 s8=>?_⟩
    have s9:=s7.trans s8
    refine ⟨_,rfl,?_⟩
    have CK: ∀c∈cs,c=[]\/SW y c:=fun c hc=>(Ox c hc).1
    have Kx:=hq H8 s9
    rw[h0, <-HY]at Ov
    by_cases z:NF y r=true
    ·refine gw (by rw[z];rfl) ?_
     have Lq:SW y r/\jf y r=0:=by
      unfold NF TY at z
      rcases sr.1 with g | g
      ·rw[decide_eq_true g]at z;cases z
      ·exact ⟨g,by rw[decide_eq_false (show ¬r=[] from g.ne)]at z;exact of_decide_eq_true z⟩
     refine ⟨_,rfl,D2,ns,rfl,bA.of (s8 _ _ N0),_,_,rfl,rfl,_,rfl,bY (fun f=>?_) (fun f=>?_)⟩
     ·have f':(0:Int)<ns.sum:=of_decide_eq_true f
      rw[Hg CK (k:=i+1) (by omega) (by omega)]at Kx
      exact UH _ _ Kx
     ·have f': ¬(0:Int)<ns.sum:=fun g=>f (decide_eq_true g)
      refine Cg _ _ ⟨_,_,_,rfl,s9,fun c hc=>?_,by omega⟩
      rw[YC]at hc
      rcases Qaj.mp hc with g | g
      ·exact zE c g
      ·rw[Zt.mp g];exact Lq.1
    ·refine ir (by rw[Bool.not_eq_true _ |>.mp z];rfl) (ir rfl ?_)
     have Kr:yA y cs=false:=by
      rcases sr.1 with g | g
      ·exact Cd (by rw[<-g];exact hr)
      ·have hp:=(vY (y:=y) g.ne).1
       have:jf y r≠0:=fun e=>z (by unfold NF TY;rw[decide_eq_false (show ¬r=[] from g.ne),decide_eq_true e];rfl)
       exact Hg CK (k:=i+1) (by omega) (by omega)
     rw[Kr]at Kx
     exact UH _ _ Kx
  ·rintro σ H3 ⟨v3,v4,v5,rfl,s3,zE,h0⟩
   rw[bj,Qar (Tz _)]at zE h0
   have:=hq H3 s3
   rw[Ce (fun g=>(zE _ g).ne rfl) h0]at this
   exact this
theorem wL:bI P w K mg base dW 2 OM PD ["word"] (lY K):=by
 have dq:=gc (P:=P) (w:=w) (base:=base) T
 refine T.T6.fn.ok iW (fun vs H Q E h=>rR h) (fun cC A outer s H vs Q E hr h=>?_)
 refine ⟨_,(ag (aq (i:=1) iW.nd rfl (Or.inl rfl) (cT ae))
   (ag (cE PassesOwn.never rfl (kU (pv 0)) (aF (i:=2) iW.nd rfl (Or.inl rfl)) (aj (bQ (PW.pt (gD (Jf K rfl (pv 1)) (gq (aG eW (aQ (bK K rfl) (pv 1) (fS dI ai) (fun _ _=>rfl)) (ao dq (hr.mono (by decide)) rfl T.F0.mg T.F0.fn.kp T.F0.bd .nil az (aa (pv 2) ae)) (aK _))))) (aj (cQ (fO K rfl Qap Qcr Qcq Mp (pv 1)))) (aj (cQ (bD K rfl Qap Qba Qa9 cU (pv 1) (aa (pv 2) ae)))))))
   (aj (aI (bD K rfl Qai Qb5 Qb4 (fU K rfl) (gv [] (by decide+kernel)) (aa (pv 1) ae)))))),?_⟩
 obtain ⟨l,rfl,hl,hz,q⟩:=h
 have hs:(100000:Nat)<sizeLine:=by decide
 walk_at "rd"
 intro p1 n1
 refine ⟨_,rfl,l,rfl,?_⟩
 refine uY (xs:=bN l) (fun i σ H'=> ∃lv,σ=[some (.str (S l)),some (.ref p1),lv]/\H' p1=some (.lst (bN (red (l.take i))))/\aR p1 H H') ⟨none,rfl,ah,aR.of (ar.upd n1)⟩ ?_ ?_
 ·rintro i x σ H1 hx ⟨lv,rfl,hp,s1⟩
  obtain ⟨c,hc,rfl⟩:=fN hx
  have hi:i<l.length:=(Mu.mp hc).1
  have h8:c<128:=(hl c (Qah hc)).lt
  have QE:(red (l.take i)).length<=1000:=Qao (gx _) (by rw[Qae];omega)
  have fin: ∀st,st=dS (red (l.take i)) c-> ∃lv,[some (V.str (S l)),some (V.ref p1),some (V.str (S [c]))]=[some (V.str (S l)),some (.ref p1),lv]/\(upd H1 p1 (.lst (bN st))) p1=some (.lst (bN (red (l.take (i+1)))))/\aR p1 H (upd H1 p1 (.lst (bN st))):=fun st e=>
   ⟨_,rfl,by rw[ah,xT hc,e],fun b o e z=>by rw[aD z];exact s1 b o e z⟩
  refine ⟨_,rfl,p1,_,rfl,bA.of hp,?_⟩
  rcases snoc_cases (red (l.take i)) with e | ⟨m,a,e⟩
  ·rw[e]at hp ⊢
   refine gw rfl ?_
   refine xk ?_
   refine ⟨_,rfl, .inl ⟨rfl,_,bA.of hp⟩,_,rfl,p1,_,_,rfl,rfl,hp,by rw[aY];exact (by decide:(0:Nat)<sizeLine),?_⟩
   rw[cL]
   refine fin _ ?_
   rw[e]
   unfold dS
   rw[if_neg (by simp)]
  ·rw[e]at hp QE ⊢
   have OB:m.length<=1000:=by simp at QE;omega
   rw[<-cL]at hp ⊢
   refine ir (by simp) ?_
   refine ⟨_,rfl,_,rfl,p1,_,_,_,rfl,rfl,bA.of hp,lI _ _,_,rfl,c,rfl,h8,[a],[aC c],rfl,rfl,_,rfl,bY (fun z=>?_) (fun z=>?_)⟩
   ·have ea:a=aC c:=by simpa using of_decide_eq_true z
    refine ⟨_,rfl, .inl ⟨rfl,_,bA.of hp⟩,p1,_,V.str (S [a]),rfl,rfl,hp,by simp,?_⟩
    rw[Qc6]
    refine fin _ ?_
    rw[e]
    unfold dS
    rw[if_pos (by simp[ea]),Qc6]
   ·have ea:a≠aC c:=fun w=>z (decide_eq_true (by rw[w]))
    refine ⟨_,rfl, .inl ⟨rfl,_,bA.of hp⟩,_,rfl,p1,_,_,rfl,rfl,hp,by rw[Oy,aY];show m.length+1<sizeLine;omega,?_⟩
    rw[cL,cL]
    refine fin _ ?_
    rw[e]
    unfold dS
    rw[if_neg (by simpa using ea)]
 ·rintro σ H1 ⟨lv,rfl,hp,s1⟩
  rw[jx]at hp
  refine ⟨rfl,_,rfl,p1,(red l).map fun c=>[c],rfl,rfl,bA.of (by rw[<-dB];exact hp),?_,?_⟩
  ·rw[vn]
   have:=gx l
   omega
  ·rw[lW]
   exact q _ (fun b o e=>s1 b o e (aE e n1))
theorem oA:bI P w K mg base dW 3 ON PH ["word"] (oe K):=by
 have yM:=wL (P:=P) (w:=w) (base:=base) T
 have dq:=gc (P:=P) (w:=w) (base:=base) T
 refine T.NJ.fn.ok eO (fun vs H Q E h=>vp h) (fun cC A outer s H vs Q E hr h=>?_)
 refine ⟨_,(ag (aq (i:=1) eO.nd rfl (Or.inl rfl) (ao yM (hr.mono (by decide)) rfl T.T6.mg T.T6.fn.kp T.T6.bd .nil az (aa (pv 0) ae)))
   (ag (aq (i:=2) eO.nd rfl (Or.inl rfl) ai)
   (ag (aq (i:=3) eO.nd rfl (Or.inl rfl) (aB aM rfl T.z_len Qab (aa (pv 1) ae)))
   (ag (bZ PassesOwn.never (PW.pt (gD (aG EC (aA cF (pv 3) (pv 2)) ai (aK _)) (gq (aG eW (aQ eU (pv 1) (pv 2) (fun _ _=>rfl)) (ao dq (hr.mono (by decide)) rfl T.F0.mg T.F0.fn.kp T.F0.bd .nil az (aa (aQ eU (pv 1) (aA cF (pv 3) ai) (fun _ _=>rfl)) ae)) (aK _))))) (ag (kR (i:=2) eO.nd rfl (Or.inl rfl) ai uJ)
   (aj (kR (i:=3) eO.nd rfl (Or.inl rfl) ai L4))))
   (aj (aI (bo gF (pv 1) (bp (pv 2)) (bp (pv 3))))))))),?_⟩
 obtain ⟨l,rfl,hl,hz,q⟩:=h
 have hs:(100000:Nat)<sizeLine:=by decide
 refine ⟨_,rfl,l,rfl,hl,hz,fun H1 s1=>?_⟩
 have Fn:=gx l
 have cZ:=Fx hl
 generalize red l=r at Fn cZ q ⊢
 have YD:r.length<=sizeLine:=by omega
 walk_at "rd"
 refine ⟨fun m σ H'=> ∃(a e:Nat),σ=[some (.str (S l)),some (.str (S r)),some (.int a),some (.int e)]/\m=e - a/\a<=e/\e<=r.length/\core (Ej r a e)=core r/\H'=H1,⟨_,0,r.length,rfl,rfl,Qad _,Tz _,by rw[JB],rfl⟩,?_⟩
 rintro m σ H2 ⟨a,e,rfl,rfl,h1,h2,hc,rfl⟩
 have fin:core (Ej r a e)=Ej r a e->Q (.str (S (cut r (some (a:Int)) (some (e:Int))))) H2:=fun z=>by
  have e1:cut r (some (a:Int)) (some (e:Int))=Ej r a e:=by
   unfold cut Ej
   rw[HT.gs,HT.gs]
   have e1:min a r.length=a:=by omega
   have e2:min e r.length=e:=by omega
   rw[e1,e2]
  rw[e1, <-z,hc]
  exact q H2 s1
 walk_at "rd"
 refine bY (fun z=>?_) (fun z=>?_)
 ·have z1:(2:Int)<=(e:Int) - (a:Int):=of_decide_eq_true z
  have ha:a<r.length:=by omega
  have he:e - 1<r.length:=by omega
  have g0:jc r (a:Int)=some r[a]:=bM (Mt ha)
  have g1:jc r ((e:Int) - 1)=some r[e - 1]:=by
   have:(e:Int) - 1=((e - 1:Nat):Int):=by omega
   rw[this];exact bM (Mt he)
  have h8:r[e - 1]<128:=(cZ _ (Qas he)).lt
  have hw:=MV (l:=r) (s:=a) (e:=e) (by omega) h2
  refine ⟨_,rfl,_,rfl,r,_,_,rfl,rfl,YD,g0,?_⟩
  walk_at "rd"
  refine ⟨r,_,_,rfl,rfl,YD,g1,?_⟩
  walk_at "rd"
  refine bY (fun y=>?_) (fun y=>?_)
  ·have ey:r[a]=aC r[e - 1]:=by simpa using of_decide_eq_true y
   walk_at "rd"
   refine ⟨(e - 1) - (a+1),by omega,a+1,e - 1,?_,rfl,by omega,by omega,?_,rfl⟩
   ·have e1:(a:Int)+1=((a+1:Nat):Int):=by omega
    have e2:(e:Int) - 1=((e - 1:Nat):Int):=by omega
    rw[<-e1, <-e2]
    rfl
   ·rw[<-hc,hw,o_ ey]
  ·have ey:r[a]≠aC r[e - 1]:=fun w=>y (decide_eq_true (by rw[w]))
   walk_at "rd"
   exact fin (by rw[hw,iu ey])
 ·have z1: ¬(2:Int)<=(e:Int) - (a:Int):=fun w=>z (decide_eq_true w)
  walk_at "rd"
  exact fin (fG (by rw[JA h2];omega))
theorem Ck:bI P w K mg base dW 4 OO PJ ["word"] (Bq K):=by
 have lF:=oA (P:=P) (w:=w) (base:=base) T
 refine T.Il.fn.ok kj (fun vs H Q E h=>FA h) (fun cC A outer s H vs Q E hr h=>?_)
 refine ⟨_,(ag (aq (i:=1) kj.nd rfl (Or.inl rfl) (ao lF (hr.mono (by decide)) rfl T.NJ.mg T.NJ.fn.kp T.NJ.bd .nil az (aa (pv 0) ae)))
   (ag (aq (i:=2) kj.nd rfl (Or.inl rfl) (pv 1))
   (ag (cE PassesOwn.never rfl (sE rfl T.z_range (aa ai (aa (aB aM rfl T.z_len Qab (aa (pv 1) ae)) ae))) (aF (i:=3) kj.nd rfl (Or.inl rfl)) (ag (aq (i:=4) kj.nd rfl (Or.inl rfl) (aA cf (bo gF (pv 1) (bp (pv 3)) bS) (bo gF (pv 1) bS (bp (pv 3)))))
   (aj (bQ (aG u5 (pv 4) (pv 2) (aK _)) (aj (aq (i:=2) kj.nd rfl (Or.inl rfl) (pv 4))) bB))))
   (aj (aI (pv 2)))))),?_⟩
 obtain ⟨l,rfl,hl,hz,q⟩:=h
 have hs:(100000:Nat)<sizeLine:=by decide
 refine ⟨_,rfl,l,rfl,hl,hz,fun H1 s1=>?_⟩
 have Yn:(core (red l)).length<=1000:=Qao (jz _) (Qao (gx l) hz)
 unfold eM gn at q
 generalize core (red l)=c at Yn q ⊢
 have UI:c.length<=sizeLine:=by omega
 walk_at "rd"
 refine ⟨_,_,rfl,⟨by decide,by decide,by omega,by omega⟩,?_⟩
 refine eL (fun i σ H'=>H'=H1/\ ∃sv bv,σ=[some (.str (S l)),some (.str (S c)),some (.str (S (cK c (lZ c i)))),sv,bv]) ⟨rfl,none,none,rfl⟩ ?_ ?_
 ·rintro i σ H2 hi ⟨rfl,sv,bv,rfl⟩
  have e1:(1:Int)+(i:Int)=((i+1:Nat):Int):=by omega
  rw[e1]
  have hlen:(cut c (some ((i+1:Nat):Int)) none).length+(cut c none (some ((i+1:Nat):Int))).length<=sizeLine:=by rw[cG,cM,Qa2,Qae];omega
  have AO:cut c (some ((i+1:Nat):Int)) none++cut c none (some ((i+1:Nat):Int))=g9 c (i+1):=by rw[cG,cM];rfl
  walk_at "rd"
  rw[AO]
  refine bY (fun z=>?_) (fun z=>?_)
  ·have z':g9 c (i+1)<cK c (lZ c i):=of_decide_eq_true z
   have hle:cK c (lZ c (i+1))=g9 c (i+1):=by rw[tJ,iO];unfold dF;rw[if_pos z']
   refine ⟨_,rfl,?_⟩
   rw[hle]
   exact ⟨rfl,_,_,rfl⟩
  ·have z': ¬g9 c (i+1)<cK c (lZ c i):=fun y=>z (decide_eq_true y)
   have hle:cK c (lZ c (i+1))=cK c (lZ c i):=by rw[tJ,iO];unfold dF;rw[if_neg z']
   rw[hle]
   exact ⟨rfl,_,_,rfl⟩
 ·rintro σ H2 ⟨rfl,sv,bv,rfl⟩
  have e:((c.length:Int) - 1).toNat=c.length - 1:=by omega
  rw[e]
  exact ⟨_,rfl,q _ s1⟩
theorem rk:bI P w K mg base dW 2 OL PC ["word","place"] (jF K):=by
 have dq:=gc (P:=P) (w:=w) (base:=base) T
 refine T.T5.fn.ok qY (fun vs H Q E h=>oN h) (fun cC A outer s H vs Q E hr h=>?_)
 refine ⟨_,(aj (aI (b8 (aa (ao dq (hr.mono (by decide)) rfl T.F0.mg T.F0.fn.kp T.F0.bd .nil az (aa (aQ eU (pv 0) (aA cF (pv 1) ai) (fun _ _=>rfl)) ae)) (aa (aQ eU (pv 0) (pv 1) (fun _ _=>rfl)) ae))))),?_⟩
 obtain ⟨w,i,rfl,hl,hz,hi,q⟩:=h
 have hs:(100000:Nat)<sizeLine:=by decide
 have dH:w≠[]:=fun z=>by rw[z]at hi;simp at hi
 refine ⟨_,rfl,_,rfl,_,_,rfl,rfl,w,_,_,rfl,rfl,by omega,kE (by omega) (by omega),_,rfl,(hl _ (fH dH _)).lt,?_⟩
 refine ⟨_,rfl,_,rfl,w,_,_,rfl,rfl,by omega,kE (by omega) (by omega),by show 2<=sizeLine;decide,fun t nt=>?_⟩
 exact q t _ nt ah (ar.upd nt)
theorem Ky:bI P w K mg base dW 5 OP PK ["word"] (Br K):=by
 have wM:=Ck (P:=P) (w:=w) (base:=base) T
 refine T.T7.fn.ok pM (fun vs H Q E h=>FF h) (fun cC A outer s H vs Q E hr h=>?_)
 refine ⟨_,(ag (aq (i:=1) pM.nd rfl (Or.inl rfl) (ao wM (hr.mono (by decide)) rfl T.Il.mg T.Il.fn.kp T.Il.bd .nil az (aa (pv 0) ae)))
   (ag (cE PassesOwn.never rfl (sE rfl T.z_range (aa ai (aa (aA aW (aB aM rfl T.z_len Qab (aa (pv 1) ae)) ai) ae))) (aF (i:=2) pM.nd rfl (Or.inl rfl)) (ag (aq (i:=3) pM.nd rfl (Or.inl rfl) (aA dA (aB aM rfl T.z_len Qab (aa (pv 1) ae)) (pv 2)))
   (aj (bQ (aG eW (aA u7 (bo gF (pv 1) bS (bp (pv 2))) (pv 3)) (pv 1) (aK _)) (aj (aI (b8 (aa (bo gF (pv 1) bS (bp (pv 2))) (aa (pv 3) ae))))) bB))))
   (aj (aI (b8 (aa (gv [] (by decide+kernel)) (aa ai ae))))))),?_⟩
 obtain ⟨l,rfl,hl,hz,q⟩:=h
 have hs:(100000:Nat)<sizeLine:=by decide
 walk_at "wk"
 intro H1 s1
 have hw:(eM l).length<=1000:=Qao (Dp l) hz
 generalize eM l=c at hw q ⊢
 have UI:c.length<=sizeLine:=by omega
 walk_at "wk"
 refine ⟨_,_,rfl,⟨by decide,by decide,by omega,by omega⟩,?_⟩
 refine eL (fun i σ H'=>H'=H1/\(∀j,1<=j->j<=i-> ¬iw c j)/\ ∃sv tv,σ=[some (.str (S l)),some (.str (S c)),sv,tv]) ⟨rfl,fun j h1 h2=>by omega,none,none,rfl⟩ ?_ ?_
 ·rintro i σ H2 hi ⟨rfl,Kr,sv,tv,rfl⟩
  have e1:(1:Int)+(i:Int)=((i+1:Nat):Int):=by omega
  rw[e1]
  have e2:(c.length:Int) / ((i+1:Nat):Int)=((c.length / (i+1):Nat):Int):=(Qdw _ _).symm
  have hd:=Nat.div_le_self c.length (i+1)
  have hmul:(c.take (i+1)).length*(c.length / (i+1))<=sizeLine:=by
   have h1:(c.take (i+1)).length<=i+1:=by rw[Qae];omega
   have h2:=Nat.mul_div_le c.length (i+1)
   have h3:=Nat.mul_le_mul_right (c.length / (i+1)) h1
   omega
  walk_at "wk"
  refine ⟨⟨by rw[e2];exact Qdk _,by rw[e2];exact Int.ofNat_le.mpr (Qao hd (by omega:c.length<=1000000))⟩,by rw[e2,cG,Xo];exact hmul,?_⟩
  walk_at "wk"
  refine bY (fun z=>?_) (fun z=>?_)
  ·have z1:iw c (i+1):=by
    have:=of_decide_eq_true z
    rw[e2,cG,Xo]at this
    exact this
   walk_at "wk"
   intro p np
   refine q p (i+1) _ (ar.free s1 np) ?_ (.inr ⟨by omega,by omega,z1,fun j j1 j2=>Kr j j1 (by omega)⟩) (s1.trans (ar.upd np))
   rw[ah]
   unfold Lg
   rw[<-cG, <-e2]
  ·have z1: ¬iw c (i+1):=fun y=>z (decide_eq_true (by
    rw[e2,cG,Xo]
    exact y))
   refine ⟨rfl,fun j j1 j2=>?_,_,_,rfl⟩
   by_cases y:j=i+1
   ·rw[y];exact z1
   ·exact Kr j j1 (by omega)
 ·rintro σ H2 ⟨rfl,Kr,sv,tv,rfl⟩
  have hc:c=[]:=by
   by_cases z:c=[]
   ·exact z
   ·have hl:0<c.length:=Zs.mpr z
    exact absurd (Dq c z) (Kr _ hl (by omega))
  subst hc
  walk_at "wk"
  intro p np
  exact q p 0 _ (ar.free s1 np) (by rw[ah];rfl) (.inl ⟨rfl,rfl⟩) (s1.trans (ar.upd np))
theorem uD:bI P w K mg base dW 2 f1 d1 ["word"] (tG K):=by
 have dq:=gc (P:=P) (w:=w) (base:=base) T
 refine T.F1.fn.ok DT (fun vs H Q E h=>zU h) (fun cC A outer s H vs Q E hr h=>?_)
 refine ⟨_,(aj (aI (bD K rfl Qai Qb5 Qb4 (fU K rfl) (gv [] (by decide+kernel)) (aa (cn ["letter"] [none] (EX rfl T.z_reversed (aa (pv 0) ae)) trivial (fun _ _ _ _=>(aF (i:=0) (by decide+kernel:List.Nodup (["letter"]:List Str)) rfl (Or.inl rfl))) (fun _ _ _ _=>da) (fun _ _ _ _=>(ao dq (hr.mono (by decide)) rfl T.F0.mg T.F0.fn.kp T.F0.bd .nil az (aa (pv 0) ae)))) ae)))),?_⟩
 obtain ⟨l,rfl,hc,hz,q⟩:=h
 have hs:(1000:Nat)<sizeLine:=by decide
 refine ⟨rfl,_,rfl,l,rfl,by omega,?_⟩
 rw[Bm]
 refine ig (xs:=bN l.reverse) (fun i acc H'=>ar H H'/\acc=bN ((l.reverse.take i).map aC)) (by rw[aY,Qa6];omega) ⟨ar.refl H,rfl⟩ ?_ ?_
 ·rintro i x acc H1 Nx hi hx hl ⟨s1,rfl⟩ nx
  obtain ⟨c,rJ,rfl⟩:=fN hx
  refine ⟨trivial,cu ⟨_,rfl,c,rfl,hc c (Qdv.mp (Qah rJ)),nx _ _ (by simpa using hl) ⟨s1,?_⟩⟩⟩
  rw[cL, <-take_snoc rJ,Qaa]
  rfl
 ·rintro acc H1 D hl ⟨s1,rfl⟩ hD
  refine ⟨D,(iq l).map fun c=>[c],rfl,rfl,bA.of ?_,?_,?_⟩
  ·rw[ah, <-dB,aY,Qar (Tz _),Qda]
   rfl
  ·rw[vn]
   unfold iq
   rw[Qa6,Xl]
   omega
  ·rw[lW]
   exact q _ (s1.trans (ar.upd hD))
theorem rm:bI P w K mg base dW 1 f3 d3 ["yard","start","end"] (jC K):=by
 refine T.F3.fn.ok qX (fun vs H Q E h=>oM h) (fun cC A outer s H vs Q E hr h=>?_)
 refine ⟨_,(aj (aI (aA eF (aA cF (bD K rfl Qai PySem.F.slot_str_find PySem.F.type_str_find xo (pv 0) (aa (pv 2) ae)) (bD K rfl Qai PySem.F.slot_str_find PySem.F.type_str_find xo (pv 0) (aa (pv 1) ae))) (aB aM rfl T.z_len Qab (aa (pv 0) ae))))),?_⟩
 obtain ⟨y,a,b,rfl,ha,hb,hz,q⟩:=h
 have hs:(1000:Nat)<sizeLine:=by decide
 have hp:(0:Int)<(y.length:Int):=by have:=List.length_pos_of_mem ha;omega
 refine ⟨_,rfl,rfl,_,rfl,y,b,rfl,rfl,?_⟩
 rw[if_pos hb]
 refine ⟨_,rfl,rfl,_,rfl,y,a,rfl,rfl,?_⟩
 rw[if_pos ha]
 exact ⟨_,_,rfl,rfl,_,rfl,y,rfl,by omega,_,_,rfl,rfl,hp,q⟩
theorem oZ:bI P w K mg base dW 3 OQ PL ["yard","word","place"] (i9 K):=by
 have r_:=rk (P:=P) (w:=w) (base:=base) T
 have sd:=rm (P:=P) (w:=w) (base:=base) T
 refine T.T8.fn.ok jb (fun vs H Q E h=>nA h) (fun cC A outer s H vs Q E hr h=>?_)
 refine ⟨_,(ag (aq (i:=3) jb.nd rfl (Or.inl rfl) (ao r_ (hr.mono (by decide)) rfl T.T5.mg T.T5.fn.kp T.T5.bd .nil az (aa (pv 1) (aa (pv 2) ae))))
   (aj (aI (ao sd (hr.mono (by decide)) rfl T.F3.mg T.F3.fn.kp T.F3.bd .nil az (aa (pv 0) (aa (aQ (bT K rfl) (pv 3) ai (fun _ _=>rfl)) (aa (aQ (bT K rfl) (pv 3) ai (fun _ _=>rfl)) ae))))))),?_⟩
 obtain ⟨y,w,i,rfl,hy,hz,hw,ou,hi,q⟩:=h
 refine ⟨_,rfl,_,rfl,w,i,rfl,fun c hc=>hy.lt c (hw.bW c hc),ou,hi,fun p H1 np hp s1=>?_⟩
 refine ⟨_,rfl,_,rfl,p,_,0,_,rfl,rfl,cO.of hp,rfl,_,rfl,p,_,1,_,rfl,rfl,cO.of hp,rfl,y,_,_,rfl,hy.cl _ (hw.rd _),hw.rd _,by omega,?_⟩
 have rg:=fI (hy.cl _ (hw.rd ((i:Int) - 1))) (hw.rd i) (Ne.symm (hw.red i))
 obtain ⟨n,hn⟩: ∃n:Nat,cst y w i=n:=⟨(cst y w i).toNat,by have:=rg.1;unfold cst;omega⟩
 have:=rg.2.1
 have e:xW y (aC (rd w ((i:Int) - 1))) (rd w i)=n:=hn
 have key:=q n H1 hn (by omega) s1
 rw[<-e]at key
 exact key
theorem HH:bI P w K mg base dW 6 kK yG ["self","yard","word","longest"] (yi K bu):=by
 have N2:=Ky (P:=P) (w:=w) (base:=base) T
 have wM:=Ck (P:=P) (w:=w) (base:=base) T
 have rz:=uD (P:=P) (w:=w) (base:=base) T
 have rA:=oZ (P:=P) (w:=w) (base:=base) T
 refine T.SH.ok q_ (fun vs H Q E h=>DJ h) (fun cC A outer s H vs Q E hr h=>?_)
 refine ⟨_,(ag (jo (pv 0) (aB aM rfl T.z_len Qab (aa (pv 2) ae)) rfl)
   (ag (jo (pv 0) (aB aM rfl T.z_len Qab (aa (aQ (bT K rfl) (ao N2 (hr.mono (by decide)) rfl T.T7.mg T.T7.fn.kp T.T7.bd .nil az (aa (pv 2) ae)) ai (fun _ _=>rfl)) ae)) rfl)
   (ag (jo (pv 0) (dN u5 (ao wM (hr.mono (by decide)) rfl T.Il.mg T.Il.fn.kp T.Il.bd .nil az (aa (pv 2) ae)) (ao wM (hr.mono (by decide)) rfl T.Il.mg T.Il.fn.kp T.Il.bd .nil az (aa (ao rz (hr.mono (by decide)) rfl T.F1.mg T.F1.fn.kp T.F1.bd .nil az (aa (pv 2) ae)) ae)) (aK _)) rfl)
   (ag (aq (i:=4) q_.nd rfl (Or.inl rfl) (bD K rfl Qai Qb5 Qb4 (fU K rfl) (gv [] (by decide+kernel)) (aa (cn ["place","yard","word"] [none,some 1,some 2] (cS rfl T.z_range (aa (aB aM rfl T.z_len Qab (aa (pv 2) ae)) ae)) ⟨⟨rfl,rfl,by first | exact .inl rfl | exact .inr rfl⟩,⟨⟨rfl,rfl,by first | exact .inl rfl | exact .inr rfl⟩,trivial⟩⟩ (fun _ _ _ _=>(aF (i:=0) (by decide+kernel:List.Nodup (["place","yard","word"]:List Str)) rfl (Or.inl rfl))) (fun _ _ _ _=>da) (fun _ _ _ _=>(b7 C7 rfl T.z_str boot_str (aa (ao rA (hr.mono (by decide)) rfl T.T8.mg T.T8.fn.kp T.T8.bd .nil az (aa (pv 1) (aa (pv 2) (aa (pv 0) ae)))) ae)))) ae)))
   (ag (aq (i:=5) q_.nd rfl (Or.inl rfl) (aA aW ai (aA dA (pv 3) (aB (Cy rfl) rfl T.z_max boot_max (aa (aB aM rfl T.z_len Qab (aa (pv 2) ae)) (aa ai ae))))))
   (ag (jo (pv 0) (aA u7 (pv 4) (pv 5)) rfl)
   (aj (jo (pv 0) (aA u7 (Jp (pv 4) (bp (fS dI ai))) (pv 5)) rfl)))))))),?_⟩
 obtain ⟨x,dx,y,w',lg,rfl,hx,hy,hz,hw,yR,UK,q⟩:=h
 have hs:(100000:Nat)<sizeLine:=by decide
 have cZ: ∀c∈w',Lt c:=fun c hc=>hy.lt c (hw.bW c hc)
 have h8: ∀c∈w',c<128:=fun c hc=>(cZ c hc).lt
 have ht:=hw.iq hy
 have WM: ∀c∈iq w',Lt c:=fun c hc=>hy.lt c (ht.bW c hc)
 have h1:1<=w'.length:=Zs.mpr hw.ne
 have rl:=mB (lg:=lg) h1
 obtain ⟨rt,UL⟩:=Bz hw.ne
 refine ⟨_,rfl,w',rfl,by omega,_,rfl,x,bu,dx,_,rfl,hx,T.g7,T.n_Way_size,by show 0<1000;decide,?_⟩
 refine ⟨_,rfl,w',rfl,cZ,by omega,fun p1 s1 H1 n1 oQ Fn S7=>?_⟩
 obtain ⟨er,el⟩:=Dv hy hw Fn UL
 subst er
 have et:((eM w').take s1).length=s1:=by
  rw[Qae,el]
  rcases UL with ⟨z,_⟩ | ⟨_,h2,_⟩
  ·exact absurd z hw.ne
  ·omega
 have aad:s1<=w'.length:=by
  rcases UL with ⟨z,_⟩ | ⟨_,h2,_⟩
  ·exact absurd z hw.ne
  ·exact h2
 have hx1:=S7 _ _ (ah (H:=H) (a:=x))
 refine ⟨p1,_,0,_,rfl,rfl,cO.of oQ,rfl,_,rfl,by rw[et];omega,_,rfl,x,bu,dx,_,rfl,hx1,T.g7,T.n_Way_root_size,Qa4 (dM _ _ _) (by show 0+1<1000;decide),?_⟩
 rw[et]
 refine ⟨_,rfl,w',rfl,cZ,by omega,fun H2 s2=>⟨_,rfl,w',rfl,h8,by omega,fun H3 s3=>⟨iq w',rfl,WM,by rw[cR];omega,fun H4 s4=>?_⟩⟩⟩
 have YE:=s2.trans (s3.trans s4)
 have hx4:=YE _ _ (ah (a:=x))
 refine ⟨_,_,rfl,rfl,_,rfl,x,bu,dx,_,rfl,hx4,T.g7,T.n_Way_leads,Qa4 (dM _ _ _) (Qa4 (Qbk (dM _ _ _)) (by show 0+1+1<1000;decide)),?_⟩
 have eld:decide (eM w'<eM (iq w'))=leads w':=by
  unfold leads
  rw[hw.eM hy,ht.eM hy]
 refine ⟨rfl,_,rfl,w',rfl,by omega,_,rfl,by omega,by omega,?_⟩
 rw[Xo]
 refine jv (fun i acc H'=>ar _ H'/\acc=bN ((stx y w').take i)) (by omega) ⟨ar.refl _,rfl⟩ ?_ ?_
 ·rintro i acc H5 Nx hi hl ⟨s5,rfl⟩ nx
  refine ⟨⟨rfl,rfl,trivial⟩,cu ⟨_,rfl,_,rfl,_,rfl,y,w',i,by rw[Qcg];rfl,hy,hz,hw,by omega,hi,fun n H6 hn h8' s6=>⟨n,rfl,by omega,nx _ _ (by simpa using hl) ⟨s5.trans s6,?_⟩⟩⟩⟩
  have eg:(stx y w')[i]? =some (48+n):=by
   unfold stx
   rw[Qak,List.getElem?_range hi]
   show some (yX (cst y w' i))=_
   rw[hn]
   unfold yX
   congr 1
  rw[Nu n (by omega),cL,take_snoc eg]
 ·rintro acc H5 D hl ⟨s5,rfl⟩ hD
  have SJ:(stx y w').take w'.length=stx y w':=Qar (by rw[dP];exact Tz _)
  rw[SJ]at hl ⊢
  refine ⟨D,(stx y w').map fun c=>[c],rfl,rfl,bA.of (by rw[ah, <-dB]),by rw[vn,dP];omega,?_⟩
  rw[lW]
  have YF:=s5.trans (ar.upd (o:= .lst (bN (stx y w'))) hD)
  have WN:=YF _ _ (ah (a:=x))
  have WO:(if (1:Int)>(w'.length:Int) then (1:Int) else (w'.length:Int))=(max w'.length 1:Nat):=by split<;>omega
  have N3:(3:Int)+(lg:Int) / (if (1:Int)>(w'.length:Int) then (1:Int) else (w'.length:Int))=(jN lg w'.length:Nat):=by
   rw[WO]
   unfold jN
   rw[Qa8,Qdw]
   rfl
  have rb:jN lg w'.length<=1003:=by unfold jN;have:=Nat.div_le_self lg (max w'.length 1);omega
  refine ⟨_,rfl,_,rfl,w',rfl,by omega,_,_,rfl,_,_,rfl,rfl,⟨by rw[WO];omega,by rw[WO];omega⟩,_,_,rfl,rfl,?_⟩
  have l3: ∀(a b c:V),(eS "leads" a (eS "root_size" b (eS "size" c []))).length<=3:=fun a b c=>Qao (dM _ _ _) (Qbk (Qao (dM _ _ _) (Qbk (dM _ _ _))))
  refine ⟨_,rfl,_,rfl,stx y w',_,rfl,rfl,⟨by rw[N3];omega,by rw[N3];omega⟩,by rw[N3,Xo,dP];omega,_,rfl,x,bu,dx,_,rfl,WN,T.g7,T.n_Way_onward,Qa4 (l3 _ _ _) (by decide),?_⟩
  refine ⟨_,rfl,1,rfl,_,rfl,rfl,stx y w',rfl,by rw[dP];omega,_,rfl,(stx y w').reverse,_,rfl,rfl,⟨by rw[N3];omega,by rw[N3];omega⟩,by rw[N3,Xo,Qa6,dP];omega,_,rfl,x,bu,dx,_,rfl,ah,T.g7,T.n_Way_backward,Qa4 (dM _ _ _) (Qa4 (Qbk (l3 _ _ _)) (by decide)),?_⟩
  refine q s1 _ UL ?_ fun b o eb zb=>?_
  ·rw[ah]
   unfold ny
   rw[<-eld,N3,Xo]
  ·rw[aD zb,aD zb]
   refine YF _ _ ?_
   rw[aD zb]
   refine YE _ _ ?_
   rw[aD zb]
   refine S7 _ _ ?_
   rw[aD zb]
   exact eb
theorem Ea:bI P w K mg base dW 1 h7 qW ["self","strand","way","place"] (ud K aV):=by
 refine T.NS.ok DV (fun vs H Q E h=>Aq h) (fun cC A outer s H vs Q E hr h=>?_)
 refine ⟨_,(ag (jo (pv 0) (pv 1) rfl)
   (ag (jo (pv 0) (pv 2) rfl)
   (aj (jo (pv 0) (pv 3) rfl)))),?_⟩
 obtain ⟨x,dx,t,w',p,rfl,hx,q⟩:=h
 refine ⟨_,rfl,_,rfl,x,aV,dx,_,rfl,hx,T.eJ,T.n_Seen_strand,by show 0<1000;decide,?_⟩
 refine ⟨_,rfl,_,rfl,x,aV,dx,_,rfl,ah,T.eJ,T.n_Seen_way,Qa4 (dM _ _ _) (by show 0+1<1000;decide),?_⟩
 refine ⟨_,rfl,_,rfl,x,aV,dx,_,rfl,ah,T.eJ,T.n_Seen_place,Qa4 (dM _ _ _) (Qa4 (Qbk (dM _ _ _)) (by show 0+1+1<1000;decide)),?_⟩
 exact q _ ah fun b o e z=>by rw[aD z,aD z,aD z];exact e
theorem rB:bI P w K mg base dW 3 OV PX ["words","ways","strand"] (jS K bu aV):=by
 have yN:=Ea (P:=P) (w:=w) (base:=base) T
 refine T.Ua.fn.ok gQ (fun vs H Q E h=>oT h) (fun cC A outer s H vs Q E hr h=>?_)
 refine ⟨_,(ag (aq (i:=3) gQ.nd rfl (Or.inl rfl) (aQ (bT K rfl) (pv 0) (aQ (bT K rfl) (pv 2) ai (fun _ _=>rfl)) (fun _ _=>rfl)))
   (ag (aq (i:=4) gQ.nd rfl (Or.inl rfl) (aQ (bT K rfl) (pv 2) ai (fun _ _=>rfl)))
   (ag (bQ (kP (fO K rfl Qai Qed Qec kS (aQ eU (pv 3) (pv 4) (fun _ _=>rfl)))) (aj (aI (o6 T.Hu yN (hr.mono (by decide)) rfl T.Ht T.Hv .nil az (aa (pv 2) (aa (aQ (bT K rfl) (aQ (bK K rfl) (pv 1) (aQ (bT K rfl) (pv 2) ai (fun _ _=>rfl)) (fun _ _=>rfl)) ai (fun _ _=>rfl)) (aa (pv 4) ae)))))) bB)
   (aj (aI (o6 T.Hu yN (hr.mono (by decide)) rfl T.Ht T.Hv .nil az (aa (pv 2) (aa (aQ (bT K rfl) (aQ (bK K rfl) (pv 1) (aQ (bT K rfl) (pv 2) ai (fun _ _=>rfl)) (fun _ _=>rfl)) ai (fun _ _=>rfl)) (aa (aA cF (aA cF (aB aM rfl T.z_len Qab (aa (pv 3) ae)) ai) (pv 4)) ae))))))))),?_⟩
 obtain ⟨y,lg,wt,vt,st,w',ws,mP,p,c,i,rfl,hy,mQ,UM,ky,hw,hp,ok,hi,q⟩:=h
 have hs:(100000:Nat)<sizeLine:=by decide
 have ou:=ok.on.uz
 have YG:=ok.on.lz
 have zE:=ok.on.sw
 have h8:(rd w' i)<128:=(hy.lt _ (zE.rd _)).lt
 have hc:(cy ws)[c]? =some (V.str (S w')):=by
  have hl:=(Mu.mp hw).1
  rw[gj hl,(Mu.mp hw).2]
 refine ⟨_,rfl,_,rfl,st,_,0,_,rfl,rfl,cO.of ky,rfl,wt,_,_,_,rfl,rfl,cO.of mQ,bM hc,?_⟩
 refine ⟨_,rfl,st,_,1,_,rfl,rfl,cO.of ky,rfl,?_⟩
 refine ⟨_,rfl,_,rfl,w',_,_,rfl,rfl,by omega,by rw[kE (by omega) (by omega)],?_⟩
 have made: ∀(x dx:Addr) (H':Hp) (t w2:Addr) (pl:Nat),H x=none->H dx=none->dx≠x->aR x (L2.upd (L2.upd H dx (.own x)) x (.ins aV dx [])) H'->ar H H':=fun x dx H' t w2 pl nx Nz ne sm a o e=>by
  refine sm a o ?_ (aE e nx)
  rw[aD (aE e nx),aD (aE e Nz)]
  exact e
 refine ⟨rfl,_,rfl,rfl,h8,?_⟩
 walk_at "rd"
 refine bY (fun z=>?_) (fun z=>?_)
 ·refine ⟨_,rfl,_,rfl,_,rfl,st,_,0,_,rfl,rfl,cO.of ky,rfl,vt,_,_,_,rfl,rfl,bA.of UM,bM (GW hp),p.t,_,0,_,rfl,rfl,cO.of ok.tp,rfl,_,rfl,fun x dx nx Nz ne=>⟨x,dx,st,p.a,i,rfl,ah,fun H' hx sm=>⟨rfl,?_⟩⟩⟩
  have N4:=made x dx H' st p.a i nx Nz ne sm
  exact q ⟨x,st,p.a,c,i,w',i,p.r⟩ H' ⟨rfl,rfl,by rw[if_pos z],by rw[if_pos z]⟩ rfl ⟨⟨dx,hx⟩,N4 _ _ ky,ok.on.same N4,hi⟩ nx N4
 ·have ei:(w'.length:Int) - 1 - i=((w'.length - 1 - i:Nat):Int):=by omega
  refine ⟨_,rfl,_,rfl,_,rfl,st,_,0,_,rfl,rfl,cO.of ky,rfl,vt,_,_,_,rfl,rfl,bA.of UM,bM (GW hp),p.t,_,1,_,rfl,rfl,cO.of ok.tp,rfl,_,rfl,w',rfl,by omega,_,_,rfl,rfl,_,rfl,_,_,rfl,rfl,fun x dx nx Nz ne=>⟨x,dx,st,p.b,w'.length - 1 - i,by rw[<-ei];rfl,ah,fun H' hx sm=>⟨rfl,?_⟩⟩⟩
  have N4:=made x dx H' st p.b 0 nx Nz ne sm
  exact q ⟨x,st,p.b,c,i,iq w',w'.length - 1 - i,p.q⟩ H' ⟨rfl,rfl,by rw[if_neg z],by rw[if_neg z]⟩ rfl ⟨⟨dx,hx⟩,N4 _ _ ky,ok.bk.same N4,by show w'.length - 1 - i<(iq w').length;rw[cR];omega⟩ nx N4
theorem j6:bI P w K mg base dW 1 Hr PM ["seen","start","end"] (gM K bu aV):=by
 refine T.yY.fn.ok j4 (fun vs H Q E h=>oR h) (fun cC A outer s H vs Q E hr h=>?_)
 refine ⟨_,(ag (aq (i:=3) j4.nd rfl (Or.inl rfl) (aA aW (b6 K rfl (pv 0) rfl) ai))
   (aj (aI (bo gF (b6 K rfl (b6 K rfl (pv 0) rfl) rfl) (bp (aA aW (pv 3) (pv 1))) (bp (aA aW (pv 3) (pv 2))))))),?_⟩
 obtain ⟨y,lg,s,x,z,rfl,hz,hs,WQ,q⟩:=h
 obtain ⟨d1,e1⟩:=hs.ob
 obtain ⟨d2,e2⟩:=hs.wy.ob
 have:=hs.wy.uz
 have:=hs.wy.lz
 have h1:1<=s.u.length:=Qa4 (Qad _) hs.pz
 have rl:=mB (lg:=lg) h1
 have SK:(100000:Nat)<sizeLine:=by decide
 refine ⟨_,rfl,s.a,aV,d1,_,_,rfl,e1,T.eJ,T.n_Seen_place,mz,?_⟩
 walk_at "rd"
 refine ⟨s.a,aV,d1,_,_,rfl,e1,T.eJ,T.n_Seen_way,nz,s.wy,bu,d2,_,_,rfl,e2,T.g7,T.n_Way_onward,SA,?_⟩
 walk_at "rd"
 refine ⟨by rw[ue,dP];omega,?_⟩
 rw[show (s.p:Int)+1=((s.p+1:Nat):Int) by omega,BU WQ]
 exact q
theorem kN:bI P w K mg base dW 1 Hs PN ["seen","start","end"] (hJ K bu aV):=by
 refine T.yZ.fn.ok kM (fun vs H Q E h=>qA h) (fun cC A outer s H vs Q E hr h=>?_)
 refine ⟨_,(ag (aq (i:=3) kM.nd rfl (Or.inl rfl) (aA cF (aA cF (b6 K rfl (b6 K rfl (pv 0) rfl) rfl) ai) (b6 K rfl (pv 0) rfl)))
   (aj (aI (bo gF (b6 K rfl (b6 K rfl (pv 0) rfl) rfl) (bp (aA aW (pv 3) (pv 1))) (bp (aA aW (pv 3) (pv 2))))))),?_⟩
 obtain ⟨y,lg,s,x,z,rfl,hz,hs,WQ,q⟩:=h
 obtain ⟨d1,e1⟩:=hs.ob
 obtain ⟨d2,e2⟩:=hs.wy.ob
 have:=hs.wy.uz
 have:=hs.wy.lz
 have hp:=hs.pz
 have h1:1<=s.u.length:=Qa4 (Qad _) hs.pz
 have rl:=mB (lg:=lg) h1
 have SK:(100000:Nat)<sizeLine:=by decide
 refine ⟨_,rfl,s.a,aV,d1,_,_,rfl,e1,T.eJ,T.n_Seen_way,nz,s.wy,bu,d2,_,_,rfl,e2,T.g7,T.n_Way_size,BS,?_⟩
 walk_at "rd"
 refine ⟨s.a,aV,d1,_,_,rfl,e1,T.eJ,T.n_Seen_place,mz,?_⟩
 walk_at "rd"
 refine ⟨s.a,aV,d1,_,_,rfl,e1,T.eJ,T.n_Seen_way,nz,s.wy,bu,d2,_,_,rfl,e2,T.g7,T.n_Way_backward,J1,?_⟩
 walk_at "rd"
 refine ⟨by rw[ue,Qa6,dP];omega,?_⟩
 rw[show (s.u.length:Int) - 1 - s.p=((s.u.length - 1 - s.p:Nat):Int) by omega,BU WQ]
 exact q
theorem AV:bI P w K mg base dW 2 OR PQ ["steps","one","other","enough"] (qB K bu aV Hr Hs):=by
 have cP:=j6 (P:=P) (w:=w) (base:=base) T
 have du:=kN (P:=P) (w:=w) (base:=base) T
 refine T.NK.fn.ok eK (fun vs H Q E h=>yk h) (fun cC A outer s H vs Q E hr h=>?_)
 refine ⟨_,(ag (aq (i:=4) eK.nd rfl (Or.inl rfl) ai)
   (ag (aq (i:=5) eK.nd rfl (Or.inl rfl) ai)
   (eZ (bZ PassesOwn.never (PW.pt (gD (aG kz (pv 4) (pv 3) (aK _)) (gq (aG eW (lT (pv 0) cP (hr.mono (by decide)) T.yY.fn.kp T.yY.bd du (hr.mono (by decide)) T.yZ.fn.kp T.yZ.bd az (aa (pv 1) (aa (pv 4) (aa (aA aW (pv 4) (pv 5)) ae)))) (lT (pv 0) cP (hr.mono (by decide)) T.yY.fn.kp T.yY.bd du (hr.mono (by decide)) T.yZ.fn.kp T.yZ.bd az (aa (pv 2) (aa (pv 4) (aa (aA aW (pv 4) (pv 5)) ae)))) (aK _))))) (ag (kR (i:=4) eK.nd rfl (Or.inl rfl) (pv 5) uJ)
   (aj (kR (i:=5) eK.nd rfl (Or.inl rfl) ai MS))))
   (eZ (bZ PassesOwn.never (aG jn (pv 5) ai (aK _)) (ag (kR (i:=5) eK.nd rfl (Or.inl rfl) ai Js)
   (aj (bQ (aG eW (lT (pv 0) cP (hr.mono (by decide)) T.yY.fn.kp T.yY.bd du (hr.mono (by decide)) T.yZ.fn.kp T.yZ.bd az (aa (pv 1) (aa (pv 4) (aa (aA aW (pv 4) (pv 5)) ae)))) (lT (pv 0) cP (hr.mono (by decide)) T.yY.fn.kp T.yY.bd du (hr.mono (by decide)) T.yZ.fn.kp T.yZ.bd az (aa (pv 2) (aa (pv 4) (aa (aA aW (pv 4) (pv 5)) ae)))) (aK _)) (aj (kR (i:=4) eK.nd rfl (Or.inl rfl) (pv 5) uJ)) bB))))
   (aj (aI (pv 4))))))),?_⟩
 obtain ⟨y,lg,s1,t1,b,en,rfl,hz,hs,ht,hen,q⟩:=h
 have call: ∀(u:Sn) (x d:Nat) (t:TA) (σ:L2.St) (Q':VK),σ[0]? =some (some (V.ref (if b=true then Hr else Hs)))->jO H bu aV y lg u->(∀R:List V->Hp->Prop,R [V.ref u.a,V.int x,V.int ((x:Int)+d)] H->t σ H R)->Q' (V.str (S (seg (Nv b y lg u) x (x+d)))) H->Fm Hr Hs (gM K bu aV) (hJ K bu aV) E0 (LU 0) t σ H Q':=by
  intro u x d t σ Q' h0 hu YH hq
  refine ⟨_,h0,?_⟩
  cases b
  ·exact .inr ⟨rfl,YH _ ⟨y,lg,u,x,x+d,by rw[Qa8],hz,hu,by omega,hq⟩⟩
  ·exact .inl ⟨rfl,YH _ ⟨y,lg,u,x,x+d,by rw[Qa8],hz,hu,by omega,hq⟩⟩
 generalize (if b=true then Hr else Hs)=fx at call ⊢
 generalize el:Nv b y lg s1=l at q
 generalize em:Nv b y lg t1=m at q
 walk_at "rd"
 refine ⟨fun σ H'=> ∃(mn sz e:Nat),σ=[some (.ref fx),some (.ref s1.a),some (.ref t1.a),some (.int en),some (.int mn),some (.int sz)]/\H'=H/\sz=2 ^ e/\sz<=1000000/\mn<=1000000/\jP l m mn/\(en<=mn\/ ∃k,mn<=k/\k<mn+sz/\l[k]?≠ m[k]?),?_,?_⟩
 ·refine ⟨fun w σ H'=> ∃(mn sz e:Nat),σ=[some (.ref fx),some (.ref s1.a),some (.ref t1.a),some (.int en),some (.int mn),some (.int sz)]/\H'=H/\w=en - mn/\sz=2 ^ e/\mn+1=sz/\mn<=2*en/\jP l m mn,⟨_,0,1,0,rfl,rfl,rfl,rfl,rfl,Qad _,fun k hk=>absurd hk (Qes _)⟩,?_⟩
  rintro w' σ H2 ⟨mn,sz,e,rfl,rfl,rfl,he,hms,TU,ha⟩
  walk_at "rd"
  refine bY (fun z=>?_) (fun z=>?_)
  ·have z1:(mn:Int)<en:=of_decide_eq_true z
   refine call s1 mn sz _ _ _ rfl hs (fun R hR=>⟨_,rfl,_,rfl,_,rfl,_,rfl,_,_,rfl,rfl,hR⟩) ?_
   refine call t1 mn sz _ _ _ rfl ht (fun R hR=>⟨_,rfl,_,rfl,_,rfl,_,rfl,_,_,rfl,rfl,hR⟩) ?_
   rw[el,em]
   walk_at "rd"
   refine bY (fun y1=>?_) (fun y1=>?_)
   ·have y2:seg l mn (mn+sz)=seg m mn (mn+sz):=by simpa using of_decide_eq_true y1
    refine ⟨_,rfl,_,rfl,_,_,rfl,rfl,_,rfl,_,_,rfl,rfl, .inl ⟨by omega,by omega⟩,?_⟩
    refine ⟨en - (mn+sz),by omega,mn+sz,sz*2,e+1,by rw[Qa8,Qfv];rfl,rfl,rfl,by rw[he,Nat.pow_succ],by omega,by omega,ha.more y2⟩
   ·have y2:seg l mn (mn+sz)≠seg m mn (mn+sz):=fun w=>y1 (decide_eq_true (by rw[w]))
    exact ⟨mn,sz,e,rfl,rfl,he,by omega,by omega,ha, .inr (GQ y2)⟩
  ·have z1: ¬(mn:Int)<en:=fun w=>z (decide_eq_true w)
   exact ⟨mn,sz,e,rfl,rfl,he,by omega,by omega,ha, .inl (by omega)⟩
 ·rintro σ H2 ⟨mn,sz,e,rfl,rfl,he,hsz,TU,ha,hb⟩
  refine ⟨fun σ H'=> ∃mn:Nat,σ=[some (.ref fx),some (.ref s1.a),some (.ref t1.a),some (.int en),some (.int mn),some (.int 1)]/\H'=H2/\jP l m mn/\(en<=mn\/l[mn]?≠ m[mn]?),?_,?_⟩
  ·refine ⟨fun w σ H'=> ∃(mn sz e:Nat),σ=[some (.ref fx),some (.ref s1.a),some (.ref t1.a),some (.int en),some (.int mn),some (.int sz)]/\H'=H2/\sz=w/\sz=2 ^ e/\sz<=1000000/\mn<=3000000 - 2*sz/\jP l m mn/\(en<=mn\/ ∃k,mn<=k/\k<mn+sz/\l[k]?≠ m[k]?),⟨_,mn,sz,e,rfl,rfl,rfl,he,hsz,by omega,ha,hb⟩,?_⟩
   rintro w' σ H3 ⟨mn,sz,e,rfl,rfl,rfl,he,hsz,TU,ha,hb⟩
   walk_at "rd"
   refine bY (fun z=>?_) (fun z=>?_)
   ·have z1:(1:Int)<sz:=of_decide_eq_true z
    obtain ⟨e',rfl⟩: ∃e',e=e'+1:=⟨e - 1,by
     cases e with
     | zero=>rw[he]at z1;simp at z1
     | succ e=>rfl⟩
    have hh:sz=2*2 ^ e':=by rw[he,Nat.pow_succ,Qbu]
    have hp:0<2 ^ e':=Nat.pow_pos (by decide)
    generalize S8:2 ^ e'=h2 at hh hp
    have WR:=S8.symm
    have ed:(sz:Int) / 2=(h2:Nat):=by omega
    refine ⟨_,rfl,_,_,rfl,rfl,⟨by decide,by decide⟩,?_⟩
    refine call s1 mn h2 _ _ _ rfl hs (fun R hR=>⟨_,rfl,_,rfl,_,rfl,_,rfl,_,_,rfl,rfl,by rw[ed];exact hR⟩) ?_
    refine call t1 mn h2 _ _ _ rfl ht (fun R hR=>⟨_,rfl,_,rfl,_,rfl,_,rfl,_,_,rfl,rfl,by rw[ed];exact hR⟩) ?_
    rw[el,em]
    walk_at "rd"
    have LC: ∃e2,h2=2 ^ e2:=⟨e',WR⟩
    obtain ⟨e2,YI⟩:=LC
    refine bY (fun y1=>?_) (fun y1=>?_)
    ·have y2:seg l mn (mn+h2)=seg m mn (mn+h2):=by simpa using of_decide_eq_true y1
     refine ⟨_,rfl,_,rfl,_,_,rfl,rfl,?_⟩
     refine ⟨h2,by omega,mn+h2,h2,e2,by rw[Qa8, <-ed];rfl,rfl,rfl,YI,by omega,by omega,ha.more y2,?_⟩
     rcases hb with hb | ⟨k,k1,k2,k3⟩
     ·exact .inl (by omega)
     ·refine .inr ⟨k,Classical.byContradiction fun w=>k3 (Ar.mp y2 k k1 (by omega)),by omega,k3⟩
    ·have y2:seg l mn (mn+h2)≠seg m mn (mn+h2):=fun w=>y1 (decide_eq_true (by rw[w]))
     exact ⟨h2,by omega,mn,h2,e2,by rw[<-ed];rfl,rfl,rfl,YI,by omega,by omega,ha, .inr (GQ y2)⟩
   ·have z1: ¬(1:Int)<sz:=fun w=>z (decide_eq_true w)
    have hp:0<2 ^ e:=Nat.pow_pos (by decide)
    have e1:sz=1:=by omega
    subst e1
    exact ⟨mn,rfl,rfl,ha,hb.imp id fun ⟨k,k1,k2,k3⟩=>by rwa [show k=mn by omega]at k3⟩
  ·rintro σ H3 ⟨mn,rfl,rfl,ha,hb⟩
   exact ⟨_,rfl,q mn ha hb⟩
theorem rC:bI P w K mg base dW 3 OT PU ["one","other"] (jQ K bu aV):=by
 have uE:=AV (P:=P) (w:=w) (base:=base) T
 have uF:=AQ (P:=P) (w:=w) (base:=base) T
 have cP:=j6 (P:=P) (w:=w) (base:=base) T
 have du:=kN (P:=P) (w:=w) (base:=base) T
 refine T.T9.fn.ok fk (fun vs H Q E h=>oS h) (fun cC A outer s H vs Q E hr h=>?_)
 refine ⟨_,(ag (aq (i:=2) fk.nd rfl (Or.inl rfl) (aA aW (b6 K rfl (b6 K rfl (pv 0) rfl) rfl) (b6 K rfl (b6 K rfl (pv 1) rfl) rfl)))
   (ag (aq (i:=3) fk.nd rfl (Or.inl rfl) (ao uE (hr.mono (by decide)) rfl T.NK.mg T.NK.fn.kp T.NK.bd .nil az (aa (A3 (v:= .ref Hr) rfl T.yY.mg rfl) (aa (pv 0) (aa (pv 1) (aa (pv 2) ae))))))
   (ag (aq (i:=4) fk.nd rfl (Or.inl rfl) (ao uE (hr.mono (by decide)) rfl T.NK.mg T.NK.fn.kp T.NK.bd .nil az (aa (A3 (v:= .ref Hs) rfl T.yZ.mg rfl) (aa (pv 0) (aa (pv 1) (aa (pv 2) ae))))))
   (ag (bQ (aG EC (aB (sH rfl) rfl T.z_min boot_min (aa (pv 3) (aa (pv 4) ae))) (pv 2) (aK _)) (aj (aI (dN (MP K rfl hr) (ao uF (hr.mono (by decide)) rfl T.NL.mg T.NL.fn.kp T.NL.bd .nil az (aa (pv 0) ae)) (ao uF (hr.mono (by decide)) rfl T.NL.mg T.NL.fn.kp T.NL.bd .nil az (aa (pv 1) ae)) (aK _)))) bB)
   (ag (bQ (aG EB (pv 3) (pv 4) (aK _)) (aj (aI (dN u5 (ao cP (hr.mono (by decide)) rfl T.yY.mg T.yY.fn.kp T.yY.bd .nil az (aa (pv 0) (aa (pv 3) (aa (aA aW (pv 3) ai) ae)))) (ao cP (hr.mono (by decide)) rfl T.yY.mg T.yY.fn.kp T.yY.bd .nil az (aa (pv 1) (aa (pv 3) (aa (aA aW (pv 3) ai) ae)))) (aK _)))) bB)
   (aj (aI (dN u5 (ao du (hr.mono (by decide)) rfl T.yZ.mg T.yZ.fn.kp T.yZ.bd .nil az (aa (pv 0) (aa (pv 4) (aa (aA aW (pv 4) ai) ae)))) (ao du (hr.mono (by decide)) rfl T.yZ.mg T.yZ.fn.kp T.yZ.bd .nil az (aa (pv 1) (aa (pv 4) (aa (aA aW (pv 4) ai) ae)))) (aK _))))))))),?_⟩
 obtain ⟨y,lg,s1,t1,rfl,hy,hz,hs,ht,h0,q⟩:=h
 obtain ⟨d1,e1⟩:=hs.ob
 obtain ⟨d2,e2⟩:=hs.wy.ob
 obtain ⟨d3,e3⟩:=ht.ob
 obtain ⟨d4,e4⟩:=ht.wy.ob
 have rp:=jR hs.wy.sw.ne hs.wy.rt
 have rp':=jR ht.wy.sw.ne ht.wy.rt
 have u1:=hs.wy.uz
 have u1':=ht.wy.uz
 have u2:=hs.wy.lz
 have ns:=hs.wy.sw.ne
 have nt:=ht.wy.sw.ne
 have lf:=bE hs.wy.sw (s1.p:Int)
 have UN:=bE ht.wy.sw (t1.p:Int)
 have as:=uf (lg:=lg) (s:=s1) (en:=s1.r+t1.r) hs.pz (by omega)
 have at':=uf (lg:=lg) (s:=t1) (en:=s1.r+t1.r) ht.pz (by omega)
 refine ⟨_,rfl,s1.a,aV,d1,_,_,rfl,e1,T.eJ,T.n_Seen_way,nz,s1.wy,bu,d2,_,_,rfl,e2,T.g7,T.n_Way_root_size,pJ,_,rfl,t1.a,aV,d3,_,_,rfl,e3,T.eJ,T.n_Seen_way,nz,t1.wy,bu,d4,_,_,rfl,e4,T.g7,T.n_Way_root_size,pJ,_,_,rfl,rfl,?_⟩
 refine ⟨_,rfl,_,rfl,_,rfl,y,lg,s1,t1,true,s1.r+t1.r,by rw[Qa8];rfl,hz,hs,ht,by omega,fun m Sf Bi=>?_⟩
 refine ⟨_,rfl,_,rfl,_,rfl,y,lg,s1,t1,false,s1.r+t1.r,by rw[Qa8];rfl,hz,hs,ht,by omega,fun n hn1 zj=>?_⟩
 have WS:jP (Em y lg s1) (Em y lg t1) m:=Sf
 have S9:s1.r+t1.r<=m\/(Em y lg s1)[m]?≠ (Em y lg t1)[m]?:= Bi
 have WT:jP (En y lg s1) (En y lg t1) n:=hn1
 have S_:s1.r+t1.r<=n\/(En y lg s1)[n]?≠ (En y lg t1)[n]?:= zj
 have ga: ∀k,k<s1.r+t1.r->(Em y lg s1)[k]? =some (yX (eQ y (sq s1.u s1.p) (k+1)))/\(Em y lg t1)[k]? =some (yX (eQ y (sq t1.u t1.p) (k+1))):=fun k hk=>⟨GR ns (by omega),GR nt (by omega)⟩
 have gb: ∀k,k<s1.r+t1.r->(En y lg s1)[k]? =some (yX (eQ y (sq s1.u s1.p) (-(k:Int))))/\(En y lg t1)[k]? =some (yX (eQ y (sq t1.u t1.p) (-(k:Int)))):=fun k hk=>⟨GS ns hs.pz (by omega),GS nt ht.pz (by omega)⟩
 refine ⟨_,rfl,_,rfl,_,_,rfl,?_⟩
 walk_at "rd"
 by_cases par: ∀k,sq s1.u s1.p k=sq t1.u t1.p k
 ·have ef:sq s1.u s1.p=sq t1.u t1.p:=funext par
  have m1:s1.r+t1.r<=m:=B2 (fun k hk=>by rw[(ga k hk).1,(ga k hk).2,ef]) S9
  have n1:s1.r+t1.r<=n:=B2 (fun k hk=>by rw[(gb k hk).1,(gb k hk).2,ef]) S_
  refine bY (fun z=>?_) (fun z=>absurd (decide_eq_true (show ((s1.r:Int)+t1.r)<=(if (n:Int)<m then (n:Int) else m) by split<;>omega)) z)
  refine ⟨_,rfl,y,lg,s1,rfl,hs,fun p1 H1 np1 oQ S7=>⟨_,rfl,y,lg,t1,rfl,ht.same S7,fun p2 H2 N5 tw cA=>?_⟩⟩
  refine ⟨p1,p2,_,_,_,_,rfl,rfl,cO.of (cA _ _ oQ),cO.of tw,?_⟩
  have e:H_ (As s1).1 (As s1).2 (As t1).1 (As t1).2=bV (kx y (2*lg) s1) (kx y (2*lg) t1):=by
   unfold kx
   rw[ef,fX,J3]
  have kq:=q H2 (S7.trans cA)
  rw[<-e]at kq
  exact kq
 ·have dH: ∃k,sq s1.u s1.p k≠sq t1.u t1.p k:=Classical.byContradiction fun z=>par fun k=>Classical.byContradiction fun w=>z ⟨k,w⟩
  have z0:sq s1.u s1.p 0=sq t1.u t1.p 0:=by unfold sq;rw[Qbs,Qbs];exact h0
  obtain ⟨a,b,rn,ha,hb⟩:=d_ (p:=s1.r) (q:=t1.r) (by omega) (by omega) (BW ns hs.wy.rt s1.p) (BW nt ht.wy.rt t1.p) z0 dH
  have pf:=BY hy lf
  have pg:=BY hy UN
  have key:=ng hy lf UN rn [(As s1).1,(As s1).2] [(As t1).1,(As t1).2] (2*lg) 0 (Qad _) (Qad _) (by omega) (by omega)
  have sa:eQ y (sq s1.u s1.p) (a+1)≠eQ y (sq t1.u t1.p) (a+1):=fun w=>rn.hi (by
   unfold eQ at w
   rw[show (a:Int)+1 - 1=a by omega, <-rn.og a (by omega) (by omega)]at w
   exact mh (hy.cl _ (lf.bW _)) (lf.bW _) (UN.bW _) w)
  have sb:eQ y (sq s1.u s1.p) (-(b:Int))≠eQ y (sq t1.u t1.p) (-(b:Int)):=fun w=>by
   have c:=Af hy lf UN (rn.og (-(b:Int)) (by omega) (by omega)) rn.lo
   unfold g_ at c
   rw[w]at c
   simp at c
  have em:m=a:=BZ ha (fun k hk=>by
   rw[(ga k (by omega)).1,(ga k (by omega)).2]
   unfold eQ
   rw[show (k:Int)+1 - 1=k by omega,rn.og k (by omega) (by omega),rn.og (k+1) (by omega) (by omega)]) (fun w=>sa (BX (pf _) (pg _) (by rw[(ga a ha).1,(ga a ha).2]at w;exact Qaf w))) WS S9
  have en:n=b:=BZ hb (fun k hk=>by
   rw[(gb k (by omega)).1,(gb k (by omega)).2]
   unfold eQ
   rw[rn.og (-(k:Int)) (by omega) (by omega),rn.og (-(k:Int) - 1) (by omega) (by omega)]) (fun w=>sb (BX (pf _) (pg _) (by rw[(gb b hb).1,(gb b hb).2]at w;exact Qaf w))) WT S_
  subst em
  subst en
  refine bY (fun z=>absurd (show ((s1.r:Int)+t1.r)<=(if (n:Int)<m then (n:Int) else m) from of_decide_eq_true z) (by split<;>omega)) (fun z=>?_)
  walk_at "rd"
  have EV:(m:Int)+1=((m+1:Nat):Int):=by omega
  have Nk:(n:Int)+1=((n+1:Nat):Int):=by omega
  refine bY (fun z2=>?_) (fun z2=>?_)
  ·have z3:m<=n:=by have:=of_decide_eq_true z2;omega
   refine ⟨_,rfl,_,rfl,_,rfl,_,_,rfl,rfl,y,lg,s1,m,m+1,by rw[<-EV];rfl,hz,hs,by omega,?_⟩
   refine ⟨_,rfl,_,rfl,_,rfl,_,_,rfl,rfl,y,lg,t1,m,m+1,by rw[<-EV];rfl,hz,ht,by omega,?_⟩
   refine ⟨_,_,rfl,rfl,?_⟩
   rw[if_pos z3]at key
   have e:decide (seg (Em y lg s1) m (m+1)<seg (Em y lg t1) m (m+1))=bV (kx y (2*lg) s1) (kx y (2*lg) t1):=by
    rw[pK (ga m ha).1,pK (ga m ha).2,GV]
    exact (decide_eq_decide.mpr (GU (pf _) (pg _))).trans key.symm
   have kq:=q H (ar.refl H)
   rw[<-e]at kq
   exact kq
  ·have z3: ¬m<=n:=fun w=>z2 (decide_eq_true (by omega))
   refine ⟨_,rfl,_,rfl,_,rfl,_,_,rfl,rfl,y,lg,s1,n,n+1,by rw[<-Nk];rfl,hz,hs,by omega,?_⟩
   refine ⟨_,rfl,_,rfl,_,rfl,_,_,rfl,rfl,y,lg,t1,n,n+1,by rw[<-Nk];rfl,hz,ht,by omega,?_⟩
   refine ⟨_,_,rfl,rfl,?_⟩
   rw[if_neg z3]at key
   have e:decide (seg (En y lg s1) n (n+1)<seg (En y lg t1) n (n+1))=bV (kx y (2*lg) s1) (kx y (2*lg) t1):=by
    rw[pK (gb n hb).1,pK (gb n hb).2,GV]
    exact (decide_eq_decide.mpr (GU (pf _) (pg _))).trans key.symm
   have kq:=q H (ar.refl H)
   rw[<-e]at kq
   exact kq
theorem o4:bI P w K mg base dW 4 OU PV ["order","seen"] (i_ K bu aV):=by
 have se:=rC (P:=P) (w:=w) (base:=base) T
 refine T.T_.fn.ok cI (fun vs H Q E h=>nB h) (fun cC A outer s H vs Q E hr h=>?_)
 refine ⟨_,(ag (aq (i:=2) cI.nd rfl (Or.inl rfl) ai)
   (ag (aq (i:=3) cI.nd rfl (Or.inl rfl) (aB (bC K rfl) rfl T.z_len Qab (aa (pv 0) ae)))
   (ag (bZ PassesOwn.never (aG kz (pv 2) (pv 3) (aK _)) (ag (aq (i:=4) cI.nd rfl (Or.inl rfl) (aA dA (aA aW (pv 2) (pv 3)) ai))
   (aj (bQ (kP (ao se (hr.mono (by decide)) rfl T.T9.mg T.T9.fn.kp T.T9.bd .nil az (aa (aQ (bK K rfl) (pv 0) (pv 4) (fun _ _=>rfl)) (aa (pv 1) ae)))) (aj (aq (i:=2) cI.nd rfl (Or.inl rfl) (aA aW (pv 4) ai))) (aj (aq (i:=3) cI.nd rfl (Or.inl rfl) (pv 4)))))))
   (aj (aI (pv 2)))))),?_⟩
 obtain ⟨y,lg,a,ss,t1,rfl,hy,hz,ha,D9,ht,up,hn,q⟩:=h
 have hs:(100000:Nat)<sizeLine:=by decide
 have key:=Qdc.mp up
 refine ⟨_,rfl,a,_,rfl, .inl (bA.of ha),?_⟩
 walk_at "rd"
 refine ⟨fun m σ H'=> ∃(lo hi:Nat) (mv:Option V),σ=[some (.ref a),some (.ref t1.a),some (.int lo),some (.int hi),mv]/\m=hi - lo/\lo<=hi/\hi<=ss.length/\(∀k s,ss[k]? =some s->k<lo->bV (kx y (2*lg) s) (kx y (2*lg) t1)=true)/\(∀k s,ss[k]? =some s->hi<=k->bV (kx y (2*lg) s) (kx y (2*lg) t1)=false)/\ar H H',⟨_,0,ss.length,none,by rw[mC];rfl,rfl,Qad _,Tz _,fun k s _ hk=>absurd hk (Qes _),(fun k s e hk=>by rw[Qct hk]at e;cases e),ar.refl H⟩,?_⟩
 rintro m σ H2 ⟨lo,hi,mv,rfl,rfl,h1,h2,h3,h4,s2⟩
 walk_at "rd"
 refine bY (fun z=>?_) (fun z=>?_)
 ·have z1:(lo:Int)<hi:=of_decide_eq_true z
  have em:(((lo:Int)+hi) / 2)=(((lo+hi) / 2:Nat):Int):=by omega
  have hm:(lo+hi) / 2<ss.length:=by omega
  have hg:ss[(lo+hi) / 2]? =some ss[(lo+hi) / 2]:=Mt hm
  obtain ⟨ok,e0⟩:=D9 _ (Qas hm)
  walk_at "rd"
  refine ⟨a,_,((lo:Int)+hi) / 2,_,rfl,rfl,bA.of (s2 _ _ ha),by rw[em];exact bM (Nw hg),_,rfl,y,lg,ss[(lo+hi) / 2],t1,rfl,hy,hz,ok.same s2,ht.same s2,e0,fun H3 s3=>?_⟩
  walk_at "rd"
  refine bY (fun y1=>?_) (fun y1=>?_)
  ·walk_at "rd"
   have e1:((lo:Int)+hi) / 2+1=(((lo+hi) / 2+1:Nat):Int):=by omega
   refine ⟨hi - ((lo+hi) / 2+1),by omega,(lo+hi) / 2+1,hi,_,by rw[<-e1];rfl,rfl,by omega,h2,fun k s e hk=>?_,h4,s2.trans s3⟩
   by_cases q1:k=(lo+hi) / 2
   ·subst q1
    rw[hg]at e
    cases e
    exact y1
   ·obtain ⟨Eg,ek⟩:=Mu.mp e
    have Ta:=key k ((lo+hi) / 2) Eg hm (by omega)
    rw[ek]at Ta
    cases r:bV (kx y (2*lg) s) (kx y (2*lg) t1)
    ·have:=L2.ve _ _ _ r Ta
     rw[this]at y1
     cases y1
    ·rfl
  ·walk_at "rd"
   have y2:bV (kx y (2*lg) ss[(lo+hi) / 2]) (kx y (2*lg) t1)=false:=by simpa using y1
   refine ⟨(lo+hi) / 2 - lo,by omega,lo,(lo+hi) / 2,_,by rw[<-em];rfl,rfl,by omega,by omega,h3,fun k s e hk=>?_,s2.trans s3⟩
   by_cases q1:k=(lo+hi) / 2
   ·subst q1
    rw[hg]at e
    cases e
    exact y2
   ·obtain ⟨Eg,ek⟩:=Mu.mp e
    have Ta:=key ((lo+hi) / 2) k hm Eg (by omega)
    rw[ek]at Ta
    exact L2.ve _ _ _ y2 Ta
 ·have z1: ¬(lo:Int)<hi:=fun w=>z (decide_eq_true w)
  walk_at "rd"
  have e:hi=lo:=by omega
  subst e
  exact q hi H2 h2 h3 h4 s2
theorem sg:bI P w K mg base dW 5 OW PY ["words","ways","band"] (kI K bu aV):=by
 have wN:=r6 (P:=P) (w:=w) (base:=base) T
 have sk:=rB (P:=P) (w:=w) (base:=base) T
 have rD:=o4 (P:=P) (w:=w) (base:=base) T
 refine T.Ub.fn.ok fR (fun vs H Q E h=>qE h) (fun cC A outer s H vs Q E hr h=>?_)
 refine ⟨_,(ag (aq (i:=3) fR.nd rfl (Or.inl rfl) (cT ae))
   (ag (cE PassesOwn.never rfl (dY K rfl (ao wN (hr.mono (by decide)) rfl T.T4.mg T.T4.fn.kp T.T4.bd .nil az (aa (pv 0) (aa (pv 2) ae)))) (aF (i:=4) fR.nd rfl (Or.inl rfl)) (ag (aq (i:=5) fR.nd rfl (Or.inl rfl) (ao sk (hr.mono (by decide)) rfl T.Ua.mg T.Ua.fn.kp T.Ua.bd .nil az (aa (pv 0) (aa (pv 1) (aa (pv 4) ae)))))
   (aj (cQ (bD K rfl Qap PySem.F.slot_list_insert PySem.F.type_list_insert C8 (pv 3) (aa (ao rD (hr.mono (by decide)) rfl T.T_.mg T.T_.fn.kp T.T_.bd .nil az (aa (pv 3) (aa (pv 5) ae))) (aa (pv 5) ae)))))))
   (aj (aI (b7 (cV K rfl) rfl T.z_tuple boot_tuple (aa (cn ["seen"] [none] (dY K rfl (pv 3)) trivial (fun _ _ _ _=>(aF (i:=0) (by decide+kernel:List.Nodup (["seen"]:List Str)) rfl (Or.inl rfl))) (fun _ _ _ _=>da) (fun _ _ _ _=>(b6 K rfl (pv 0) rfl))) ae)))))),?_⟩
 obtain ⟨y,lg,wt,vt,ws,mP,band,rfl,hy,hz,mQ,WU,y7,hb,UM,yR,Tc,q⟩:=h
 have hs:(100000:Nat)<sizeLine:=by decide
 walk_at "rd"
 intro a na
 have s0:=ar.upd (o:= .lst []) na
 refine ⟨_,rfl,_,rfl,wt,ws,band,rfl,s0 _ _ mQ,WU,fun w hw=>⟨fun c hc=>hy.lt c ((y7 w hw).1.bW c hc),(y7 w hw).2⟩,hb,fun b ps H1 nb n_ Cf oW s1=>?_⟩
 have NT:=s0.trans s1
 have hba:b≠a:=fun z=>by rw[z,ah]at nb;cases nb
 have aae:ps.length<=48:=by
  have h1:(ps.map Pr.pair).length<=48:=by
   rw[oW]
   have:=jT band (fun w hw=>(y7 w hw).2) ws.length (Tz _)
   omega
  rwa [Xl]at h1
 have pin: ∀p∈ps, ∃w,ws[p.c]? =some w/\p.i<w.length/\Aj band (rd w p.i)=true:=fun p hp=>by
  have hm:p.pair∈dJ band ws ws.length:=by rw[<-oW];exact Qau.mpr ⟨p,hp,rfl⟩
  exact Av hm
 refine ⟨b,rfl,⟨_,bA.of n_⟩,?_⟩
 refine jm (K:=K) (a:=b) (xs:=tZ ps) (fun k σ H'=> ∃(ss:List Sn) (sv nv:Option V),σ=[some (.ref wt),some (.ref vt),some (.str (S [band])),some (.ref a),sv,nv]/\H' a=some (.lst (B3 ss))/\(∀s∈ss,jO H' bu aV y lg s/\rd s.u s.p=band/\ ∃w,ws[s.c]? =some w/\Au w s.c s.i s/\s.i<w.length)/\(ss.map fun s=>(s.c,s.i)).Perm ((ps.take k).map Pr.pair)/\DK y (2*lg) ss/\aR a H1 H')
  ⟨[],none,none,rfl,s1 _ _ ah,fun _ h=>absurd h Qag, .nil,List.Pairwise.nil,aR.refl _ _⟩ (fun k σ H' _ ⟨_,_,_,_,_,_,_,_,h⟩=>bA.of (h _ _ n_ hba)) ?_ ?_
 ·rintro k x σ H2 hx ⟨ss,sv,nv,rfl,ha,D9,lG,QG,s2⟩
  show kQ _ _ _ _ _
  refine i5 fun Dx Cg=>?_
  obtain ⟨p,hp,rfl⟩:=Gp hx
  have hk:k<ps.length:=(Mu.mp hp).1
  have Td:=Qah hp
  obtain ⟨w,hw,hi,ho⟩:=pin p Td
  have hwm:=Qah hw
  have Fe:p.c<mP.length:=by rw[yR];exact (Mu.mp hw).1
  have cj:=Tc p.c w mP[p.c] hw (Mt Fe)
  have go: ∀c o,H c=some o->H2 c=some o:=fun c o e=>s2 _ _ (NT c o e) (aE e na)
  have WV:=(Cf p Td).tp
  have hpa:p.t≠a:=fun z=>by rw[z,s1 _ _ ah]at WV;cases WV
  have WW:=s2 _ _ WV hpa
  have ssl:ss.length=k:=by
   have:=lG.length_eq
   rw[Xl,Xl,Qae]at this
   omega
  refine ⟨_,rfl,_,rfl,_,rfl,y,lg,wt,vt,p.t,w,ws,mP,mP[p.c],p.c,p.i,rfl,hy,go _ _ mQ,go _ _ UM,WW,hw,Mt Fe,cj.same go,hi,fun s H3 LH ky YJ hnn s3=>?_⟩
  have R4:=LH.band hy (y7 w hwm).1 hi hb ho
  refine ⟨_,rfl, .inl ⟨rfl,_,bA.of (s3 _ _ ha)⟩,_,rfl,_,rfl,y,lg,a,ss,s,rfl,hy,hz,s3 _ _ ha,fun t ht=>⟨(D9 t ht).1.same s3,by rw[(D9 t ht).2.1,R4]⟩,YJ,QG,by omega,fun n H4 hn h1 h2 s4=>?_⟩
  have YK:=s4 _ _ (s3 _ _ ha)
  refine ⟨_,rfl,a,_,n,_,rfl,rfl,YK,by rw[mC];exact hn,by rw[mC];omega,?_⟩
  have e1:(B3 ss).take n++V.ref s.a::(B3 ss).drop n=B3 (ss.take n++s::ss.drop n):=by
   unfold B3
   rw[Qaa,Qe7,Qat,List.map_drop]
  rw[e1]
  have su: ∀t,jO H4 bu aV y lg t->jO (L2.upd H4 a (.lst (B3 (ss.take n++s::ss.drop n)))) bu aV y lg t:=fun t ot=>by
   have ne: ∀{c:Addr} {o:HO},H4 c=some o->(∀l,o≠ .lst l)->c≠a:=fun {c o} e no z=>by rw[z,YK]at e;exact no _ (Qaf e).symm
   obtain ⟨dx,eo⟩:=ot.ob
   obtain ⟨dw,ew⟩:=ot.wy.ob
   exact ⟨⟨dx,by rw[aD (ne eo (fun l z=>by cases z))];exact eo⟩,by rw[aD (ne ot.st (fun l z=>by cases z))];exact ot.st,⟨⟨dw,by rw[aD (ne ew (fun l z=>by cases z))];exact ew⟩,ot.wy.sw,ot.wy.uz,ot.wy.lz,ot.wy.rt⟩,ot.pz⟩
  refine Cg _ _ ⟨ss.take n++s::ss.drop n,_,_,rfl,ah,fun t ht=>?_,?_,Ny QG h1 h2,fun c o e z=>by rw[aD z];exact s4 _ _ (s3 _ _ (s2 c o e z))⟩
  ·have:t=s\/t∈ss:=by
    rcases Qaj.mp ht with r | r
    ·exact .inr (Qcl r)
    ·rcases Zv.mp r with r | r
     ·exact .inl r
     ·exact .inr (Qe0 r)
   rcases this with r | r
   ·subst r
    refine ⟨su _ (YJ.same s4),R4,w,?_,?_,?_⟩
    ·rw[LH.ec];exact hw
    ·rw[LH.ec,LH.ei];exact LH
    ·rw[LH.ei];exact hi
   ·exact ⟨su _ (((D9 t r).1.same s3).same s4),(D9 t r).2⟩
  ·rw[Qaa,Qat, <-take_snoc hp,Qaa,LH.ec,LH.ei]
   have p1:(ss.take n).map (fun s=>(s.c,s.i))++(p.c,p.i)::(ss.drop n).map (fun s=>(s.c,s.i)) |>.Perm ((p.c,p.i)::ss.map fun s=>(s.c,s.i)):=by
    refine Qfm.trans (List.Perm.cons _ ?_)
    rw[<-Qaa,Qa7]
   exact p1.trans ((List.Perm.cons _ lG).trans (List.perm_append_singleton _ _).symm)
 ·rintro σ H2 ⟨ss,sv,nv,rfl,ha,D9,lG,QG,s2⟩
  rw[vO,Qbp,oW]at lG
  have ssl:ss.length<=48:=by
   have:=lG.length_eq
   rw[Xl, <-oW,Xl]at this
   omega
  have uA:ar H H2:=fun c o e=>s2 _ _ (NT c o e) (aE e na)
  refine ⟨_,rfl,a,rfl,⟨_,bA.of ha⟩,?_⟩
  refine ik (K:=K) (a:=a) (xs:=B3 ss) (fun i acc H'=>H'=H2/\acc=(ss.take i).map fun s=>V.ref s.t) (by rw[mC];omega) (fun i acc H' h=>by rw[h.1];exact bA.of ha) ⟨rfl,rfl⟩ ?_ ?_
  ·rintro i x acc H3 Nx hi hx hl ⟨rfl,rfl⟩ nx
   obtain ⟨t,ht,rfl⟩:=J4 hx
   obtain ⟨dx,e⟩:=(D9 t (Qah ht)).1.ob
   refine ⟨trivial,cu ⟨_,rfl,t.a,aV,dx,_,_,rfl,e,T.eJ,T.n_Seen_strand,uc,nx _ _ (by simpa using hl) ⟨rfl,?_⟩⟩⟩
   rw[<-take_snoc ht,Qaa]
   rfl
  ·rintro acc H3 D hl ⟨rfl,rfl⟩ hD
   rw[mC,Qbp]
   refine ⟨D,_,rfl, .inl ⟨bA.of ah,fun t nt=>?_⟩⟩
   have sA:=(ar.upd (o:= .lst (ss.map fun s=>V.ref s.t)) hD).trans (ar.upd (o:= .tup (ss.map fun s=>V.ref s.t)) nt)
   have ep:(ss.map fun s=>(⟨s.t,s.c,s.i⟩:Pr)).map Pr.pair=ss.map fun s=>(s.c,s.i):=by rw[Qb2];rfl
   refine q t (ss.map fun s=>(⟨s.t,s.c,s.i⟩:Pr)) _ (ar.free (uA.trans (ar.upd hD)) nt) (by rw[ah];unfold tZ;rw[Qb2];rfl) (fun p hp=>?_) (by rw[ep];exact lG) ?_ (uA.trans sA)
   ·obtain ⟨s,RA,rfl⟩:=Qau.mp hp
    obtain ⟨ok,_,w,hw,_,hi⟩:=D9 s RA
    have h1:=(Mu.mp hw).1
    have h2:=(y7 w (Qah hw)).2
    exact ⟨sA _ _ ok.st,by show s.c<1000;omega,by show s.i<1000;omega⟩
   ·rw[ep]
    unfold GZ
    rw[Qb3]
    refine Qee (fun {s t} h1 h2 h=>?_) QG
    obtain ⟨o1,_,w1,e1,i1,l1⟩:=D9 s h1
    obtain ⟨o2,_,w2,e2,i2,l2⟩:=D9 t h2
    have g1:ws.getD s.c []=w1:=by rw[kb,e1];rfl
    have g2:ws.getD t.c []=w2:=by rw[kb,e2];rfl
    rw[<-B4 hy (y7 w1 (Qah e1)).1 l1 g1 i1 o1.wy.rt, <-B4 hy (y7 w2 (Qah e2)).1 l2 g2 i2 o2.wy.rt]
    exact h
theorem Kz:bI P w K mg base dW 8 OX PZ ["yard","words"] (B5 K):=by
 have rz:=uD (P:=P) (w:=w) (base:=base) T
 have wF:=yJ (P:=P) (w:=w) (base:=base) T
 have wO:=sg (P:=P) (w:=w) (base:=base) T
 have Cm:=HH (P:=P) (w:=w) (base:=base) T
 refine T.Uc.fn.ok wB (fun vs H Q E h=>G0 h) (fun cC A outer s H vs Q E hr h=>?_)
 refine ⟨_,(ag (aq (i:=2) wB.nd rfl (Or.inr rfl) (Jr K rfl rfl rfl T.z_max (aa (cn ["word"] [none] (gU K rfl (pv 1)) trivial (fun _ _ _ _=>(aF (i:=0) (by decide+kernel:List.Nodup (["word"]:List Str)) rfl (Or.inl rfl))) (fun _ _ _ _=>da) (fun _ _ _ _=>(aB aM rfl T.z_len Qab (aa (pv 0) ae)))) ae)))
   (ag (aq (i:=3) wB.nd rfl (Or.inr rfl) (cn ["word","yard","longest"] [none,some 0,some 2] (gU K rfl (pv 1)) ⟨⟨rfl,rfl,by first | exact .inl rfl | exact .inr rfl⟩,⟨⟨rfl,rfl,by first | exact .inl rfl | exact .inr rfl⟩,trivial⟩⟩ (fun _ _ _ _=>(aF (i:=0) (by decide+kernel:List.Nodup (["word","yard","longest"]:List Str)) rfl (Or.inl rfl))) (fun _ _ _ _=>da) (fun _ _ _ _=>(b8 (aa (o6 T.LA Cm (hr.mono (by decide)) rfl T.Lz T.LB .nil az (aa (pv 1) (aa (pv 0) (aa (pv 2) ae)))) (aa (o6 T.LA Cm (hr.mono (by decide)) rfl T.Lz T.LB .nil az (aa (pv 1) (aa (ao rz (hr.mono (by decide)) rfl T.F1.mg T.F1.fn.kp T.F1.bd .nil az (aa (pv 0) ae)) (aa (pv 2) ae)))) ae))))))
   (aj (aI (b8 (aa (b7 (cV K rfl) rfl T.z_tuple boot_tuple (aa (pv 1) ae)) (aa (b7 (cV K rfl) rfl T.z_tuple boot_tuple (aa (cn ["band","words","ways"] [none,some 1,some 3] (kU (ao wF (hr.mono (by decide)) rfl T.F2.mg T.F2.fn.kp T.F2.bd .nil az (aa (pv 0) ae))) ⟨⟨rfl,rfl,by first | exact .inl rfl | exact .inr rfl⟩,⟨⟨rfl,rfl,by first | exact .inl rfl | exact .inr rfl⟩,trivial⟩⟩ (fun _ _ _ _=>(aF (i:=0) (by decide+kernel:List.Nodup (["band","words","ways"]:List Str)) rfl (Or.inl rfl))) (fun _ _ _ _=>da) (fun _ _ _ _=>(ao wO (hr.mono (by decide)) rfl T.Ub.mg T.Ub.fn.kp T.Ub.bd .nil az (aa (pv 1) (aa (pv 2) (aa (pv 0) ae)))))) ae)) ae))))))),?_⟩
 obtain ⟨y,wt,ws,rfl,hy,hz,mQ,WU,y7,q⟩:=h
 have hs:(100000:Nat)<sizeLine:=by decide
 have DW: ∀c∈y,c<128:=Le hy.lt
 have hbl:=jL hy
 obtain ⟨lg,elg,aaf,UK⟩:=Aw fun w hw=>(y7 w hw).2
 refine ⟨_,rfl,wt,rfl,⟨_,cO.of mQ⟩,?_⟩
 refine il (K:=K) (a:=wt) (xs:=cy ws) (fun i acc H'=>H'=H/\acc=(J5 (ws.take i)).map V.int) (by rw[bj];omega) (fun i acc H' h=>by rw[h.1];exact cO.of mQ) ⟨rfl,rfl⟩ ?_ ?_
 ·rintro i x acc H1 Nx hi hx hl ⟨rfl,rfl⟩ nx
  rw[bj]at hi
  rw[gj hi]at hx
  cases hx
  have N6:=y7 ws[i] (Qas hi)
  refine ⟨trivial,cu ⟨_,rfl,ws[i],rfl,by omega,nx _ _ (by simpa using hl) ⟨rfl,?_⟩⟩⟩
  rw[<-take_snoc (Mt hi)]
  unfold J5
  rw[Qaa,Qaa]
  rfl
 ·rintro acc H1 D hl ⟨rfl,rfl⟩ hD
  rw[bj,Qbp]
  refine ⟨D,J5 ws,rfl,bA.of ah,?_⟩
  rw[elg]
  have sD:=ar.upd (o:= .lst ((J5 ws).map V.int)) hD
  refine ⟨_,rfl,wt,rfl,⟨_,cO.of (sD _ _ mQ)⟩,?_⟩
  refine il (K:=K) (a:=wt) (xs:=cy ws) (fun i acc H'=>ar H1 H'/\ ∃mP:List Wp,acc=Ig mP/\mP.length=i/\ ∀(c:Nat) (w:List Nat) (p:Wp),ws[c]? =some w->mP[c]? =some p->vU H' bu y lg w p) (by rw[bj];omega) (fun i acc H' h=>cO.of (h.1 _ _ mQ)) ⟨sD,[],rfl,rfl,fun c w p _ h=>by simp at h⟩ ?_ ?_
  ·rintro i x acc H2 Nx hi hx sP ⟨s2,mP,rfl,yR,Tc⟩ nx
   rw[bj]at hi
   rw[gj hi]at hx
   cases hx
   have N6:=y7 ws[i] (Qas hi)
   have YL:ws[i]? =some ws[i]:=Mt hi
   have Te:=UK ws[i] (Qas hi)
   generalize ws[i]=w' at N6 YL Te ⊢
   have h8: ∀c∈w',c<128:=fun c hc=>(hy.lt c (N6.1.bW c hc)).lt
   refine ⟨⟨rfl,rfl,trivial⟩,cu ?_⟩
   refine ⟨_,rfl,_,rfl,_,rfl,fun x1 YM nx1 WX ne1=>⟨x1,YM,y,w',lg,rfl,ah,hy,hz,N6.1,Te,by omega,fun r H3 hr Wl sm3=>⟨rfl,?_⟩⟩⟩
   have s23:=ui nx1 WX sm3
   refine ⟨_,rfl,_,rfl,w',rfl,h8,by omega,fun H4 s34=>⟨_,rfl,fun x2 YN nx2 WY ne2=>⟨x2,YN,y,iq w',lg,rfl,ah,hy,hz,N6.1.iq hy,by rw[cR];exact Te,by omega,fun r2 H5 OC WN sm5=>⟨rfl,?_⟩⟩⟩⟩
   have s45:=ui nx2 WY sm5
   refine ⟨by show 2<=sizeLine;decide,fun t nt=>?_⟩
   have YO:=ar.upd (o:= .tup [.ref x1, .ref x2]) nt
   have YQ:=s34.trans (s45.trans YO)
   have all:=s23.trans YQ
   refine nx _ _ (by simpa using sP) ⟨s2.trans all,mP++[⟨t,x1,x2,r,r2⟩],GX mP ⟨t,x1,x2,r,r2⟩,by rw[Oy,yR];rfl,J9 yR (fun c w p a b=>(Tc c w p a b).same all) YL ⟨ah,⟨⟨YM,YQ _ _ Wl⟩,N6.1,Te,by omega,hr⟩,⟨⟨YN,YO _ _ WN⟩,N6.1.iq hy,by rw[cR];exact Te,by omega,OC⟩⟩⟩
  ·rintro acc H2 D2 sP ⟨s2,mP,rfl,yR,Tc⟩ Kn
   rw[bj]at yR
   have YR:=ar.upd (o:= .lst (Ig mP)) Kn
   have uA:=s2.trans YR
   refine ⟨_,rfl,wt,_,rfl, .inr ⟨cO.of (uA _ _ mQ),?_⟩⟩
   refine ⟨_,rfl,y,rfl,DW,by omega,fun l' H3 A1 AA s3=>?_⟩
   have el:=BM A1 AA
   subst el
   refine ⟨_,rfl,?_⟩
   have Hz:=uA.trans s3
   have hv3:=s3 _ _ (ah (H:=H2) (a:=D2) (o:=HO.lst (Ig mP)))
   refine ig (xs:=bN (gA y)) (fun i acc H'=>ar H3 H'/\ ∃os:List Od,acc=JU os/\(∀o∈os,DB H' o)/\os.length=i/\(∀(j:Nat) (o:Od) (b:Nat),os[j]? =some o->(gA y)[j]? =some b->(o.ps.map Pr.pair).Perm (dJ b ws ws.length))/\ ∀o∈os,GZ y ws (2*lg) (o.ps.map Pr.pair)) (by rw[aY];omega) ⟨ar.refl _,[],rfl,fun _ h=>absurd h Qag,rfl,fun j o b h=>by simp at h,fun _ h=>absurd h Qag⟩ ?_ ?_
   ·rintro i x acc H4 Nx hi hx gC ⟨s4,os,rfl,Sd,C1,WZ,W0⟩ nx
    obtain ⟨b,hb,rfl⟩:=fN hx
    have hbs:=ym hy (Qah hb)
    refine ⟨⟨rfl,rfl,trivial⟩,cu ?_⟩
    refine ⟨_,rfl,_,rfl,_,rfl,y,lg,wt,D2,ws,mP,b,rfl,hy,hz,s4 _ _ (Hz _ _ mQ),WU,y7,hbs,s4 _ _ hv3,yR,fun c w p a1 a2=>(Tc c w p a1 a2).same (YR.trans (s3.trans s4)),fun t ps H5 nt ht Cf lG QG s5=>?_⟩
    have YG:ps.length<=100:=by
     have h1:=lG.length_eq
     have h2:=jT b (fun w hw=>(y7 w hw).2) ws.length (Tz _)
     rw[Xl]at h1
     omega
    refine nx _ _ (by simpa using gC) ⟨s4.trans s5,os++[⟨t,ps⟩],Gq os ⟨t,ps⟩,fun o ho=>?_,by rw[Oy,C1];rfl,fun j o b' ho Lj=>?_,fun o ho=>?_⟩
    ·rcases Qaj.mp ho with g | g
     ·exact (Sd o g).same s5
     ·rw[Zt.mp g]
      exact ⟨ht,Cf,YG⟩
    ·by_cases z:j<os.length
     ·rw[Qbr z]at ho
      exact WZ j o b' ho Lj
     ·rw[Qcf (by omega)]at ho
      have:j=i:=by
       have:=(Mu.mp ho).1
       simp at this
       omega
      subst this
      rw[C1,Nat.sub_self]at ho
      cases ho
      rw[hb]at Lj
      cases Lj
      exact lG
    ·rcases Qaj.mp ho with g | g
     ·exact W0 o g
     ·rw[Zt.mp g]
      exact QG
   ·rintro acc H4 D3 gC ⟨s4,os,rfl,Sd,C1,WZ,W0⟩ N0
    rw[aY]at C1
    refine ⟨D3,_,rfl, .inl ⟨bA.of ah,fun t nt=>?_⟩⟩
    refine ⟨by show 2<=sizeLine;decide,fun dr W2=>?_⟩
    have sA:=(ar.upd (o:= .lst (JU os)) N0).trans ((ar.upd (o:= .tup (JU os)) nt).trans (ar.upd (o:= .tup [.ref wt, .ref t]) W2))
    have htd:t≠dr:=fun z=>by rw[<-z,ah]at W2;cases W2
    have NZ:=Hz.trans s4
    exact q dr os _ ⟨⟨wt,t,ah,sA _ _ (NZ _ _ mQ),by rw[aD htd,ah]⟩,fun o ho=>(Sd o ho).same sA⟩ ⟨2*lg,fun w hw v hv=>by have:=UK w hw;have:=UK v hv;omega,⟨C1,WZ⟩,W0⟩ (NZ.trans sA)
theorem HI:bI P w K mg base dW 9 OY P0 ["yard","words"] (yo K):=by
 have nV:=mL (P:=P) (w:=w) (base:=base) T
 have Eb:=AM (P:=P) (w:=w) (base:=base) T
 have N7:=Kz (P:=P) (w:=w) (base:=base) T
 refine T.Ud.fn.ok Hx (fun vs H Q E h=>DN h) (fun cC A outer s H vs Q E hr h=>?_)
 refine ⟨_,(aj (aI (ao nV (hr.mono (by decide)) rfl T.T3.mg T.T3.fn.kp T.T3.bd .nil az (aa (ao Eb (hr.mono (by decide)) rfl T.F7.mg T.F7.fn.kp T.F7.bd .nil az (aa (pv 0) (aa (ao N7 (hr.mono (by decide)) rfl T.Uc.mg T.Uc.fn.kp T.Uc.bd .nil az (aa (pv 0) (aa (pv 1) ae))) ae))) ae)))),?_⟩
 obtain ⟨y,wt,ws,rfl,hy,hz,hk,mQ,q⟩:=h
 refine ⟨_,rfl,_,rfl,_,rfl,y,wt,ws,rfl,hy,hz,mQ,hk.lV,hk.sw,fun dr os H1 TM ht s1=>?_⟩
 obtain ⟨nd,e⟩:=DL hy (fun w hw=>(hk.sw w hw).1) ht
 obtain ⟨M,_,ok,_⟩:=id ht
 refine ⟨y,dr,ws,os,rfl,hy,hz,hk.ok,ok,TM,fun p qs H2 np hp SO LF s2=>?_⟩
 have hl:=DM (os:=os) hk
 have Ws:qs.length<=24:=by rw[<-LF,Xl]at hl;omega
 refine ⟨p,qs,rfl,hp,SO,Ws,by rw[LF];exact nd,fun H3 s3=>?_⟩
 rw[LF]
 exact q _ H3 (s1.trans (s2.trans s3)) e
theorem mM:bI P w K mg base dW 10 OZ P4 ["yard","words"] (mG K):=by
 have lF:=oA (P:=P) (w:=w) (base:=base) T
 have KA:=HI (P:=P) (w:=w) (base:=base) T
 refine T.NM.fn.ok mI (fun vs H Q E h=>rX h) (fun cC A outer s H vs Q E hr h=>?_)
 refine ⟨_,(ag (aq (i:=2) mI.nd rfl (Or.inl rfl) (b7 (cV K rfl) rfl T.z_tuple boot_tuple (aa (cn ["word"] [none] (gU K rfl (pv 1)) trivial (fun _ _ _ _=>(aF (i:=0) (by decide+kernel:List.Nodup (["word"]:List Str)) rfl (Or.inl rfl))) (fun _ _ _ _=>da) (fun _ _ _ _=>(ao lF (hr.mono (by decide)) rfl T.NJ.mg T.NJ.fn.kp T.NJ.bd .nil az (aa (pv 0) ae)))) ae)))
   (aj (aI (zc (dN (Bb K rfl) (gv [] (by decide+kernel)) (pv 2) (by with_unfolding_all rfl)) (za (dN eX (ao KA (hr.mono (by decide)) rfl T.Ud.mg T.Ud.fn.kp T.Ud.bd .nil az (aa (pv 0) (aa (pv 2) ae))) ai (aK _))))))),?_⟩
 obtain ⟨y,wt,ws,rfl,hy,hz,mQ,hk,q⟩:=h
 have hs:(100000:Nat)<sizeLine:=by decide
 have lV:=hk.lV
 refine ⟨_,rfl,wt,rfl,⟨_,cO.of mQ⟩,?_⟩
 refine il (K:=K) (a:=wt) (xs:=cy ws) (fun i acc H'=>ar H H'/\acc=cy ((ws.take i).map cr)) (by rw[bj];omega) (fun i acc H' h=>cO.of (h.1 _ _ mQ)) ⟨ar.refl _,rfl⟩ ?_ ?_
 ·rintro i x acc H1 Nx hi hx gC ⟨s1,rfl⟩ nx
  have hj:i<ws.length:=by rw[bj]at hi;exact hi
  rw[gj hj]at hx
  cases hx
  have sh:=hk.sh hy _ (Qas hj)
  have fw:=sh.lV
  refine ⟨trivial,cu ⟨_,rfl,_,rfl,sh.lt,by omega,fun H2 s2=>?_⟩⟩
  rw[sh.is]
  refine nx _ _ (by simpa using gC) ⟨s1.trans s2,?_⟩
  rw[Qd7,Mt hj,Qaa]
  exact gH _ _
 ·rintro acc H1 D gC ⟨s1,rfl⟩ hD
  rw[bj,Qar (Tz _)]
  have pN:upd H1 D (.lst (cy (ws.map cr))) D=some (.lst (cy (ws.map cr))):=ah
  have s2:=s1.trans (ar.upd (o:= .lst (cy (ws.map cr))) hD)
  generalize upd H1 D (.lst (cy (ws.map cr)))=H2 at pN s2 ⊢
  refine ⟨D,cy (ws.map cr),rfl, .inl ⟨bA.of pN,fun u nu=>?_⟩⟩
  have hu:upd H2 u (.tup (cy (ws.map cr))) u=some (.tup (cy (ws.map cr))):=ah
  have s3:=s2.trans (ar.upd (o:= .tup (cy (ws.map cr))) nu)
  generalize upd H2 u (.tup (cy (ws.map cr)))=H3 at hu s3 ⊢
  have fl:(cy (ws.map cr)).all i3=true:=Qb9.mpr fun x hx=>by
   obtain ⟨z,_,rfl⟩:=Qau.mp hx
   rfl
  by_cases em:[]∈ws.map cr
  ·have no:sO (.str (S [])) (cy (ws.map cr))=true:=by rw[v_];exact decide_eq_true em
   refine ⟨_,rfl,u,_,rfl, .inr (cO.of hu),rfl,fl,_,rfl,gw (by rw[no];rfl) ?_⟩
   have:=q H3 s3
   rw[Cd em]at this
   simp only[no]
   exact this
  ·have no:sO (.str (S [])) (cy (ws.map cr))=false:=by
    rw[v_]
    exact decide_eq_false em
   refine ⟨_,rfl,u,_,rfl, .inr (cO.of hu),rfl,fl,_,rfl,ir (by rw[no];rfl) ?_⟩
   refine ⟨_,rfl,_,rfl,y,u,ws.map cr,rfl,hy,hz,hk.wsk hy em,hu,fun n H4 s4 e=>?_⟩
   refine ⟨_,_,rfl,rfl,?_⟩
   have ed:decide ((n:Int)=0)=yA y (ws.map cr):=by
    unfold yA TZ
    rw[decide_eq_false em]
    exact decide_eq_decide.mpr ⟨fun z=>by omega,fun z=>by omega⟩
   show Q (.bl (decide ((n:Int)=0))) H4
   rw[ed]
   exact q H4 (s3.trans s4)
theorem Ec:bI P w K mg base dW 11 Px Qw ["_law_yard_here","_law_words_here"] (uv K):=by
 have j7:=mM (P:=P) (w:=w) (base:=base) T
 have yO:=wK (P:=P) (w:=w) (base:=base) T
 refine T.Uw.fn.ok uy (fun vs H Q E h=>AB h) (fun cC A outer s H vs Q E hr h=>?_)
 refine ⟨_,(ag (aq (i:=2) uy.nd rfl (Or.inl rfl) (ao j7 (hr.mono (by decide)) rfl T.NM.mg T.NM.fn.kp T.NM.bd .nil az (aa (pv 0) (aa (pv 1) ae))))
   (aj (aI (zc (aB xG rfl T.z_isinstance boot_isinstance (aa (pv 2) (aa (IA (v:= .ty "bool") rfl T.z_bool boot_bool rfl) ae))) (za (dN MD (pv 2) (ao yO (hr.mono (by decide)) rfl T.Ur.mg T.Ur.fn.kp T.Ur.bd .nil az (aa (pv 0) (aa (pv 1) ae))) (aK _))))))),?_⟩
 obtain ⟨y,wt,ws,rfl,hy,hz,mQ,hk,q⟩:=h
 refine ⟨_,rfl,_,rfl,y,wt,ws,rfl,hy,hz,mQ,hk,fun H1 s1=>?_⟩
 refine ⟨_,rfl,yA y (ws.map cr),rfl,_,rfl,ir rfl ?_⟩
 refine ⟨_,rfl,_,rfl,_,rfl,y,wt,ws,rfl,hy,hz,s1 _ _ mQ,hk,fun H2 s2=>?_⟩
 refine ⟨_,_,rfl,rfl,?_⟩
 have:=q H2 (s1.trans s2)
 rw[show true=decide (yA y (ws.map cr)=yA y (ws.map cr)) from (decide_eq_true rfl).symm]at this
 exact this
theorem KC:bI P w K mg base dW 1 O0 P5 ["_law_script","_law_k"] (Bl K):=by
 refine T.Ue.fn.ok mJ (fun vs H Q E h=>Fs h) (fun cC A outer s H vs Q E hr h=>?_)
 refine ⟨_,(ag (aq (i:=2) mJ.nd rfl (Or.inl rfl) (aA aW (aA iN ai (pv 1)) ai))
   (ag (bQ (aG kz (pv 1) (aB (bC K rfl) rfl T.z_len Qab (aa (pv 0) ae)) (aK _)) (aj (aq (i:=2) mJ.nd rfl (Or.inl rfl) (aQ (bK K rfl) (pv 0) (pv 1) (fun _ _=>rfl)))) (aj (bQ (aG jn (aB (bC K rfl) rfl T.z_len Qab (aa (pv 0) ae)) ai (aK _)) (aj (aq (i:=2) mJ.nd rfl (Or.inl rfl) (aA aW (pv 2) (aA iN (aA eF (aQ (bK K rfl) (pv 0) (aA eF (pv 1) (aB (bC K rfl) rfl T.z_len Qab (aa (pv 0) ae))) (fun _ _=>rfl)) ai) ai)))) bB)))
   (ag (aq (i:=3) mJ.nd rfl (Or.inl rfl) (aA eF (aA Ey (aA aW (aA aW (aA eF (pv 2) ai) (aA iN ai (pv 1))) ai) ai) ai))
   (aj (aI (cT (aa (aQ (bK K rfl) (cT (aa ai (aa (pv 2) ae))) (b7 sI rfl T.z_int boot_int (aa (dN EC (pv 2) (aA Ey ai ai) (aK _)) ae)) (fun _ _=>rfl)) (aa (aA aW (aA eF (pv 3) ai) ai) ae)))))))),?_⟩
 obtain ⟨a,ns,k,rfl,hS,hk,q⟩:=h
 have hp:(0:Int)<2147483629:=by decide
 walk_at "rd"
 refine ⟨a,_,rfl, .inl hS,?_⟩
 walk_at "rd"
 refine bY (fun e=>?_) (fun e=>?_)
 ·have e':(k:Int)<((ns.map V.int).length:Nat):=of_decide_eq_true e
  rw[Xl]at e'
  obtain ⟨z,hz⟩:=Bn (ns:=ns) (i:=k) (by omega)
  walk_at "rd"
  refine ⟨a,_,k,_,rfl,rfl,hS,bM hz,?_⟩
  walk_at "rd"
  refine fun p1 n1=>?_
  walk_at "rd"
  refine .inr ⟨_,rfl,?_⟩
  obtain ⟨y,hy⟩:=zV _ z
  refine ⟨p1,_,_,_,rfl,rfl,bA.of ah,hy,?_⟩
  walk_at "rd"
  exact fun p2 n2=>q p2 _ (ar.free (ar.upd n1) n2) ⟨_,_,ah⟩ ((ar.upd n1).trans (ar.upd n2))
 ·walk_at "rd"
  refine ⟨a,_,rfl, .inl hS,?_⟩
  walk_at "rd"
  refine bY (fun e2=>?_) (fun e2=>?_)
  ·have e':(0:Int)<((ns.map V.int).length:Nat):=of_decide_eq_true e2
   have hl:(0:Int)<(ns.length:Int):=by rw[Xl]at e';exact e'
   have m1:0<=(k:Int)%(ns.length:Int):=Qbt _ (by omega)
   have m2:(k:Int)%(ns.length:Int)<(ns.length:Int):=Qbm _ hl
   obtain ⟨z,hz⟩:=Bn (ns:=ns) (i:=((k:Int)%(ns.length:Int)).toNat) (by omega)
   have Lq:jc (ns.map V.int) ((k:Int)%((ns.map V.int).length:Nat))=some (V.int z):=by
    have:=bM hz
    rw[Qd3 m1]at this
    rw[Xl]
    exact this
   walk_at "rd"
   refine ⟨a,_,rfl, .inl hS,?_⟩
   walk_at "rd"
   refine ⟨a,_,_,_,rfl,rfl,hS,Lq,?_⟩
   walk_at "rd"
   refine fun p1 n1=>?_
   walk_at "rd"
   refine .inr ⟨_,rfl,?_⟩
   obtain ⟨y,hy⟩:=zV _ _
   refine ⟨p1,_,_,_,rfl,rfl,bA.of ah,hy,?_⟩
   walk_at "rd"
   exact fun p2 n2=>q p2 _ (ar.free (ar.upd n1) n2) ⟨_,_,ah⟩ ((ar.upd n1).trans (ar.upd n2))
  ·walk_at "rd"
   refine fun p1 n1=>?_
   walk_at "rd"
   refine .inr ⟨_,rfl,?_⟩
   obtain ⟨y,hy⟩:=zV _ _
   refine ⟨p1,_,_,_,rfl,rfl,bA.of ah,hy,?_⟩
   walk_at "rd"
   exact fun p2 n2=>q p2 _ (ar.free (ar.upd n1) n2) ⟨_,_,ah⟩ ((ar.upd n1).trans (ar.upd n2))
theorem HJ:bI P w K mg base dW 2 O3 P8 ["_law_box_here","_law_few","_law_top"] (xP K):=by
 have a_:=eA (P:=P) (w:=w) (base:=base) T
 have bz:=cY (P:=P) (w:=w) (base:=base) T
 refine T.Ug.fn.ok fZ (fun vs H Q E h=>Df h) (fun cC A outer s H vs Q E hr h=>?_)
 refine ⟨_,(ag (aq (i:=3) fZ.nd rfl (Or.inl rfl) (b7 (p5 rfl) rfl T.z_list boot_list (aa (gv [97,98,99,100,101,102,103,104,105,106,107,108,109,110,111,112,113,114,115,116,117,118,119,120,121,122] (by decide+kernel)) ae)))
   (ag (aq (i:=4) fZ.nd rfl (Or.inl rfl) (cT ae))
   (ag (cE PassesOwn.never rfl (cS rfl T.z_range (aa (aA aW (pv 1) (ao a_ (hr.mono (by decide)) rfl T.dk.mg T.dk.fn.kp T.dk.bd .nil az (aa (pv 0) (aa (aA aW (aA cF (pv 2) (pv 1)) ai) ae)))) ae)) (aF (i:=5) fZ.nd rfl (Or.inl rfl)) (ag (aq (i:=6) fZ.nd rfl (Or.inl rfl) (bD K rfl Qap Qcr Qcq js (pv 3) (aa (ao a_ (hr.mono (by decide)) rfl T.dk.mg T.dk.fn.kp T.dk.bd .nil az (aa (pv 0) (aa (aB (bC K rfl) rfl T.z_len Qab (aa (pv 3) ae)) ae))) ae)))
   (aj (aq (i:=4) fZ.nd rfl (Or.inl rfl) (aA EK (pv 4) (cT (aa (pv 6) (aa (ao bz (hr.mono (by decide)) rfl T.gB.mg T.gB.fn.kp T.gB.bd .nil az (aa (pv 6) ae)) ae))))))))
   (ag (aq (i:=7) fZ.nd rfl (Or.inl rfl) (gv [] (by decide+kernel)))
   (ag (bZ PassesOwn.never (aG jn (aB (bC K rfl) rfl T.z_len Qab (aa (pv 4) ae)) ai (aK _)) (aj (aq (i:=7) fZ.nd rfl (Or.inl rfl) (aA cf (pv 7) (bD K rfl Qap Qcr Qcq js (pv 4) (aa (ao a_ (hr.mono (by decide)) rfl T.dk.mg T.dk.fn.kp T.dk.bd .nil az (aa (pv 0) (aa (aB (bC K rfl) rfl T.z_len Qab (aa (pv 4) ae)) ae))) ae))))))
   (aj (aI (pv 7)))))))),?_⟩
 obtain ⟨b,lV,top,rfl,hb,h1,h2,h3,q⟩:=h
 have hs:(100000:Nat)<sizeLine:=by decide
 walk_at "rd"
 intro p1 n1
 walk_at "rd"
 intro p2 n2
 have s1:ar H (upd (upd H p1 (.lst (bN aP))) p2 (.lst [])):=(ar.upd n1).trans (ar.upd n2)
 have N8:p1≠b:=hb.ne n1
 have N5:H p2=none:=ar.free (ar.upd n1) n2
 have Tf:p2≠b:=hb.ne N5
 have QH:p1≠p2:=fun z=>by rw[<-z,ah]at n2;cases n2
 walk_at "rd"
 refine ⟨b,_,rfl,hb.same s1,by omega,by omega,fun n H1 hn n_ s2=>?_⟩
 walk_at "rd"
 refine eL (fun i σ H'=> ∃(pe:Addr) (L E:List Nat) (kv lv:Option V),σ=[some (.ref b),some (.int lV),some (.int top),some (.ref p1),some (.ref pe),kv,lv,none]/\MT i L E/\H' p1=some (.lst (bN L))/\H' pe=some (.lst (bN E))/\p1≠pe/\H pe=none/\bH H' b/\aR b H H')
  ⟨p2,aP,[],none,none,rfl,MT.start,s2 _ _ (by rw[aD QH,ah];rfl) N8,s2 _ _ ah Tf,QH,N5,n_,(aR.of s1).trans s2⟩ ?_ ?_
 ·rintro i σ H2 hi ⟨pe,L,E,kv,lv,rfl,yw,oQ,oW,YS,UO,iK,s3⟩
  show kQ _ _ _ _ _
  refine i5 fun Dx Cg=>?_
  have OH:i<26:=by simp at hi;omega
  have QC:=yw.ll
  have QD:=yw.el
  refine ⟨_,rfl, .inl ⟨rfl,_,bA.of oQ⟩,?_⟩
  walk_at "rd"
  refine ⟨p1,_,rfl, .inl (bA.of oQ),b,_,rfl,iK,by rw[aY];omega,by rw[aY];omega,fun r H3 Kt iY s4=>?_⟩
  rw[aY]at Kt
  have Iq:r<L.length:=by omega
  have W3:=s4 _ _ oQ N8
  have W4:=s4 _ _ oW (hb.ne UO)
  refine ⟨p1,_,_,r,_,rfl,rfl,W3,by omega,by omega,by rw[aY,seqIndex_of (by omega) (by omega),Xo],zW Iq,?_⟩
  rw[m6]
  have cZ:Lt L[r]:= .inl (yw.sm _ (Qas Iq))
  have Tg:(upd H3 p1 (.lst (bN (L.eraseIdx r)))) pe=some (.lst (bN E)):=by rw[aD (Ne.symm YS)];exact W4
  walk_at "rd"
  intro p3 n3
  have e3:pe≠p3:=aE Tg n3
  refine ⟨pe,p3,_,_,rfl,rfl,by rw[aD e3];exact Tg,ah,by rw[aY];show E.length+2<=_;omega,fun p4 n4=>?_⟩
  have YT:H p3=none:=((s3.trans s4).dc n1).none n3 (iY.dc N8 |>.ne n3)
  have YU:=(iY.dc (o:= .lst (bN (L.eraseIdx r))) N8).dc (o:= .lst [V.str (S [L[r]]),V.str (S [aC L[r]])]) (hb.ne YT)
  have YV:=((s3.trans s4).dc (o:= .lst (bN (L.eraseIdx r))) n1).dc (o:= .lst [V.str (S [L[r]]),V.str (S [aC L[r]])]) YT
  have W5:H p4=none:=YV.none n4 (YU.ne n4)
  have YW:p1≠p4:=fun z=>by rw[<-z]at n4;by_cases z3:p1=p3<;>simp[upd,z3]at n4
  have h13:p1≠p3:=fun z=>by rw[<-z,ah]at n3;cases n3
  refine Cg _ _ ⟨p4,L.eraseIdx r,E++[L[r],aC L[r]],_,_,rfl,yw.turn OH Iq,by rw[aD YW,aD h13,ah],?_,YW,W5,YU.dc (hb.ne W5),YV.dc W5⟩
  rw[ah, <-Jw]
  rfl
 ·rintro σ H2 ⟨pe,L,E,kv,lv,rfl,yw,oQ,oW,YS,UO,iK,s3⟩
  have QD:=yw.el
  have HR:=hb.ne UO
  walk_at "rd"
  refine ⟨fun m σ H'=> ∃F E':List Nat,σ=[some (.ref b),some (.int lV),some (.int top),some (.ref p1),some (.ref pe),kv,lv,some (.str (S F))]/\m=E'.length/\(F++E').Perm E/\H' pe=some (.lst (bN E'))/\bH H' b/\aR b H H',⟨_,[],E,rfl,rfl,Qdq _,oW,iK,s3⟩,?_⟩
  rintro m σ H3 ⟨F,E',rfl,rfl,lG,KD,iY,s4⟩
  have hlen:=lG.length_eq
  rw[Oy]at hlen
  have zj:(lV:Int)+n<=9:=by omega
  have aag:E.length<=100:=by rw[QD];omega
  walk_at "rd"
  refine ⟨pe,_,rfl, .inl (bA.of KD),_,_,rfl,rfl,_,rfl,bY (fun e=>?_) (fun e=>?_)⟩
  ·have e':(0:Int)<((bN E').length:Nat):=of_decide_eq_true e
   rw[aY]at e'
   refine ⟨_,rfl,_,rfl, .inl ⟨rfl,_,bA.of KD⟩,?_⟩
   walk_at "rd"
   refine ⟨pe,_,rfl, .inl (bA.of KD),b,_,rfl,iY,by rw[aY];omega,by rw[aY];omega,fun r H4 Iq oz s5=>?_⟩
   rw[aY]at Iq
   have Th:r<E'.length:=by omega
   refine ⟨pe,_,_,r,_,rfl,rfl,s5 _ _ KD HR,by omega,by omega,by rw[aY,seqIndex_of (by omega) (by omega),Xo],zW Th,?_⟩
   rw[m6]
   have hp:=gG (Mt Th)
   have j8:=hp.length_eq
   rw[Qay]at j8
   refine ⟨F,_,rfl,rfl,by show F.length+1<=_;omega,(E'.eraseIdx r).length,by omega,F++[E'[r]],E'.eraseIdx r,rfl,rfl,?_,ah,oz.dc HR,(s4.trans s5).dc UO⟩
   rw[Qbw]
   exact (List.Perm.append_left F hp).trans lG
  ·have e':E'=[]:=by
    cases E' with
    | nil=>rfl
    | cons c r=>exact absurd (decide_eq_true (by rw[aY];show (0:Int)<((r.length+1:Nat):Int);omega)) e
   subst e'
   rw[Qbh]at lG
   have sP:=lG.length_eq
   refine ⟨_,rfl,q F H3 (yw.yd.perm lG.symm) ?_ ?_ iY s4⟩
   ·rw[sP,QD];omega
   ·rw[sP,QD];omega
theorem yP:bI P w K mg base dW 2 O4 P9 ["_law_box_here","_law_few","_law_top"] (om K):=by
 have a_:=eA (P:=P) (w:=w) (base:=base) T
 have bz:=cY (P:=P) (w:=w) (base:=base) T
 refine T.Uh.fn.ok ck (fun vs H Q E h=>vZ h) (fun cC A outer s H vs Q E hr h=>?_)
 refine ⟨_,(ag (aq (i:=3) ck.nd rfl (Or.inr rfl) (b7 (p5 rfl) rfl T.z_list boot_list (aa (gv [97,98,99,100,101,102,103,104,105,106,107,108,109,110,111,112,113,114,115,116,117,118,119,120,121,122] (by decide+kernel)) ae)))
   (ag (fT (i:=4) ["_law_k","_law_left","_law_box_here"] [none,some 3,some 0] ck.nd rfl (Or.inl rfl) (cS rfl T.z_range (aa (aA aW (pv 1) (ao a_ (hr.mono (by decide)) rfl T.dk.mg T.dk.fn.kp T.dk.bd .nil az (aa (pv 0) (aa (aA aW (aA cF (pv 2) (pv 1)) ai) ae)))) ae)) ⟨⟨rfl,rfl,by first | exact .inl rfl | exact .inr rfl⟩,⟨⟨rfl,rfl,by first | exact .inl rfl | exact .inr rfl⟩,trivial⟩⟩ (fun _ _ _ _=>(aF (i:=0) (by decide+kernel:List.Nodup (["_law_k","_law_left","_law_box_here"]:List Str)) rfl (Or.inl rfl))) (fun _ _ _ _=>da) (fun _ _ _ _=>(bD K rfl Qap Qcr Qcq js (pv 1) (aa (ao a_ (hr.mono (by decide)) rfl T.dk.mg T.dk.fn.kp T.dk.bd .nil az (aa (pv 2) (aa (aB (bC K rfl) rfl T.z_len Qab (aa (pv 1) ae)) ae))) ae))))
   (ag (ze (i:=5) (j:=6) rfl ck.nd rfl rfl (by decide) rfl rfl (aa (aQ (bK K rfl) (pv 4) ai (fun _ _=>rfl)) (aa (aQ (bK K rfl) (pv 4) ai (fun _ _=>rfl)) ae)) rfl)
   (ag (aq (i:=7) ck.nd rfl (Or.inl rfl) (aA cf (aA cf (aA cf (pv 5) (pv 6)) (ao bz (hr.mono (by decide)) rfl T.gB.mg T.gB.fn.kp T.gB.bd .nil az (aa (pv 5) ae))) (ao bz (hr.mono (by decide)) rfl T.gB.mg T.gB.fn.kp T.gB.bd .nil az (aa (pv 6) ae))))
   (ag (cE PassesOwn.never rfl (dY K rfl (bo (lQ K rfl) (pv 4) (bp ai) bS)) (aF (i:=8) ck.nd rfl (Or.inl rfl)) (aj (cE PassesOwn.never rfl (gU K rfl (b8 (aa (pv 8) (aa (ao bz (hr.mono (by decide)) rfl T.gB.mg T.gB.fn.kp T.gB.bd .nil az (aa (pv 8) ae)) ae)))) (aF (i:=9) ck.nd rfl (Or.inl rfl)) (ag (aq (i:=10) ck.nd rfl (Or.inl rfl) (ao a_ (hr.mono (by decide)) rfl T.dk.mg T.dk.fn.kp T.dk.bd .nil az (aa (pv 0) (aa (aA aW (aB aM rfl T.z_len Qab (aa (pv 7) ae)) ai) ae))))
   (aj (aq (i:=7) ck.nd rfl (Or.inl rfl) (aA cf (aA cf (bo gF (pv 7) bS (bp (pv 10))) (pv 9)) (bo gF (pv 7) (bp (pv 10)) bS))))))))
   (ag (aq (i:=10) ck.nd rfl (Or.inl rfl) (ao a_ (hr.mono (by decide)) rfl T.dk.mg T.dk.fn.kp T.dk.bd .nil az (aa (pv 0) (aa (aB aM rfl T.z_len Qab (aa (pv 7) ae)) ae))))
   (aj (aI (b8 (aa (aA cf (bo gF (pv 7) (bp (pv 10)) bS) (bo gF (pv 7) bS (bp (pv 10)))) (aa (pv 5) (aa (pv 6) ae)))))))))))),?_⟩
 obtain ⟨b,rfl,hb,q⟩:=h
 have hs:(100000:Nat)<sizeLine:=by decide
 have h26:aP.length=26:=rfl
 have sc: ∀a∈aP,aC a∉aP:=by decide+kernel
 refine ⟨aP,rfl,by rw[h26];omega,fun L0 nL=>?_⟩
 have Lb:=hb.ne nL
 have n_:=hb.dc (o:= .lst (bN aP)) Lb
 have YX:upd H L0 (.lst (bN aP)) L0=some (.lst (bN aP)):=ah
 have s1:aR b H (upd H L0 (.lst (bN aP))):=aR.of (ar.upd nL)
 generalize upd H L0 (.lst (bN aP))=H1 at n_ YX s1 ⊢
 refine ⟨_,rfl,_,rfl,_,rfl,_,rfl,_,_,rfl,rfl,_,_,rfl,rfl,b,_,rfl,n_,by decide,by decide,fun r H2 hr iK s2=>?_⟩
 have Kt:r<3:=by omega
 refine ⟨_,_,rfl,rfl,_,rfl,by omega,by omega,?_⟩
 rw[show ((2:Int)+(r:Int)).toNat=r+2 by omega]
 refine jv (fun i acc H'=> ∃(L M:List Nat),acc=bN M/\M.length=i/\H' L0=some (.lst (bN L))/\L.length+i=26/\(M++L).Perm aP/\bH H' b/\aR b H H') (by omega) ⟨aP,[],rfl,rfl,s2 _ _ YX Lb,rfl,Qdq _,iK,s1.trans s2⟩ ?_ ?_
 ·rintro i acc H3 Nx hi gC ⟨L,M,rfl,ml,UP,ll,pm,iY,s3⟩ nx
  refine ⟨⟨rfl,rfl,trivial⟩,cu ?_⟩
  refine ⟨_,rfl, .inl ⟨rfl,_,bA.of UP⟩,_,rfl,_,rfl,L0,_,rfl, .inl (bA.of UP),b,_,rfl,iY,by rw[aY];omega,by rw[aY];omega,fun k H4 hk oz s4=>?_⟩
  rw[aY]at hk
  have Eg:k<L.length:=by omega
  have hL4:=s4 _ _ UP Lb
  refine ⟨L0,_,_,k,_,rfl,rfl,hL4,by omega,by omega,Lv (by rw[aY];exact Eg),zW Eg,?_⟩
  rw[m6]
  refine nx _ _ (by rw[Oy];simpa using gC) ⟨L.eraseIdx k,M++[L[k]],by rw[cL],by rw[Oy,ml];rfl,ah,by rw[List.length_eraseIdx_of_lt Eg];omega,?_,oz.dc Lb,(s3.trans s4).dc nL⟩
  rw[Qbw]
  exact ((gG (Mt Eg)).append_left M).trans pm
 ·rintro acc H3 D gC ⟨L,M,rfl,ml,UP,ll,pm,iY,s3⟩ hD
  have Db:=iY.ne hD
  have nd:M.Nodup:=(Qbv.mp (pm.nodup_iff.mpr tH)).1
  have sm: ∀c∈M,c∈aP:=fun c hc=>pm.mem_iff.mp (Qbx _ hc)
  have Iu:upd H3 D (.lst (bN M)) D=some (.lst (bN M)):=ah
  have oz:=iY.dc (o:= .lst (bN M)) Db
  have s4:=s3.after (ar.upd (o:= .lst (bN M)) hD)
  generalize upd H3 D (.lst (bN M))=H4 at Iu oz s4 ⊢
  obtain ⟨x,y,N,rfl⟩: ∃x y N,M=x::y::N:=by
   match M,ml with
   | x::y::N,_=>exact ⟨x,y,N,rfl⟩
  have nl:N.length=r:=by simp at ml;exact ml
  have x1:=sm x Zu
  have y1:=sm y (Xn _ Zu)
  have lx:Lt x:= .inl x1
  have ly:Lt y:= .inl y1
  have xy:x≠y:=fun g=>by
   have:=(Qaz.mp nd).1
   exact this (by rw[g];exact Zu)
  have ax:jc (bN (x::y::N)) (0:Int)=some (.str (S [x])):=bM (j:=0) rfl
  have ay:jc (bN (x::y::N)) (1:Int)=some (.str (S [y])):=bM (j:=1) rfl
  refine ⟨_,rfl,D,_,_,_,rfl,rfl,bA.of Iu,ax,_,rfl,D,_,_,_,rfl,rfl,bA.of Iu,ay,_,_,rfl,?_⟩
  refine ⟨_,rfl,_,rfl,_,_,rfl,rfl,by show 1+1<=sizeLine;decide,_,rfl,x,rfl,lx,_,_,rfl,rfl,by show 2+1<=sizeLine;decide,_,rfl,y,rfl,ly,_,_,rfl,rfl,by show 3+1<=sizeLine;decide,?_⟩
  have y4:Yd [x,y,aC x,aC y]:=by
   have n2:x≠aC y:=fun g=>sc y y1 (by rw[<-g];exact x1)
   have n3:y≠aC x:=fun g=>sc x x1 (by rw[<-g];exact y1)
   have n4:aC x≠aC y:=fun g=>xy (fP lx ly g)
   have n5:=eI lx
   have n6:=eI ly
   refine ⟨?_,fun a ha=>?_,fun a ha=>?_⟩
   ·simp only[Qaz,Zv,Qag,or_false,not_or,Qd8,and_true,not_false_eq_true]
    exact ⟨⟨xy,Ne.symm n5,n2⟩,⟨n3,Ne.symm n6⟩,n4⟩
   ·simp only[Zv,Qag,or_false]at ha
    rcases ha with g | g | g | g<;>rw[g]
    ·exact lx
    ·exact ly
    ·exact lx.aC
    ·exact ly.aC
   ·simp only[Zv,Qag,or_false]at ha ⊢
    rcases ha with g | g | g | g<;>rw[g]
    ·exact .inr (.inr (.inl rfl))
    ·exact .inr (.inr (.inr rfl))
    ·exact .inl (aN lx)
    ·exact .inr (.inl (aN ly))
  show kQ _ _ _ [some (.ref b),some (.int 2),some (.int 4),some (.ref L0),some (.ref D),some (.str (S [x])),some (.str (S [y])),some (.str (S [x,y,aC x,aC y])),none,none,none] H4
  refine ⟨_,rfl,_,rfl,D,_,rfl,bA.of Iu,fun p2 n2=>?_⟩
  have ec:xg (bN (x::y::N)) (some 2) none=bN N:=by
   show cut (bN (x::y::N)) (some ((2:Nat):Int)) none=_
   rw[cM]
   rfl
  rw[ec]
  have YY:=oz.ne n2
  have tw:upd H4 p2 (.lst (bN N)) p2=some (.lst (bN N)):=ah
  have S4:=oz.dc (o:= .lst (bN N)) YY
  have s5:=s4.after (ar.upd (o:= .lst (bN N)) n2)
  generalize upd H4 p2 (.lst (bN N))=H5 at tw S4 s5 ⊢
  refine ⟨p2,rfl,⟨_,bA.of tw⟩,?_⟩
  refine jm (K:=K) (a:=p2) (xs:=bN N) (fun i σ H'=> ∃(z:List Nat) (v8 v9 v10:Option V),σ=[some (.ref b),some (.int 2),some (.int 4),some (.ref L0),some (.ref D),some (.str (S [x])),some (.str (S [y])),some (.str (S z)),v8,v9,v10]/\Yd z/\z.length=4+2*i/\x∈z/\y∈z/\(∀c∈z,c∈x::y::N.take i\/aC c∈x::y::N.take i)/\H' p2=some (.lst (bN N))/\bH H' b/\aR b H H') ⟨[x,y,aC x,aC y],none,none,none,rfl,y4,rfl,Zu,Xn _ Zu,fun c hc=>?_,tw,S4,s5⟩ (fun i σ H' _ h=>by obtain ⟨_,_,_,_,_,_,_,_,_,_,g,_⟩:=h;exact bA.of g) ?_ ?_
  ·simp only[Zv,Qag,or_false]at hc
   rcases hc with g | g | g | g<;>rw[g]
   ·exact .inl Zu
   ·exact .inl (Xn _ Zu)
   ·right;rw[aN lx];exact Zu
   ·right;rw[aN ly];exact Xn _ Zu
  ·rintro i e σ H6 he ⟨z,v8,v9,v10,rfl,hz,zl,xz,yz,W6,Qz,Iv,s6⟩
   obtain ⟨c,hc,rfl⟩:=fN he
   show Q5 _ _ _ _ _ _
   refine i5 fun Dy SU=>?_
   have vR:=(Mu.mp hc).1
   have c1:=sm c (Xn _ (Xn _ (Qah hc)))
   have lc:Lt c:= .inl c1
   have cN:c∉x::y::N.take i:=by
    have hp:(x::y::N.take i).Sublist (x::y::N):=((Qff i N).cons₂ y).cons₂ x
    have Wq:(x::y::N.take i++[c]).Nodup:=by
     refine nd.sublist ?_
     have:x::y::N.take i++[c]=x::y::N.take (i+1):=by rw[<-take_snoc hc];rfl
     rw[this]
     exact ((Qff _ N).cons₂ y).cons₂ x
    intro g
    exact (Qbv.mp Wq).2.2 c g c Zu rfl
   have c2:c∉z:=fun g=>(W6 c g).elim cN fun k=>by
    have:aC c∈aP:=sm _ (by
     rcases Zv.mp k with k | k
     ·rw[k];exact Zu
     ·rcases Zv.mp k with k | k
      ·rw[k];exact Xn _ Zu
      ·exact Xn _ (Xn _ (Qcl k)))
    exact sc c c1 this
   have c3:aC c∉z:=fun g=>c2 (by have:=hz.cl _ g;rwa [aN lc]at this)
   refine ⟨_,rfl,_,rfl,c,rfl,lc,by show 2<=sizeLine;decide,fun T nT=>?_⟩
   have Tb:=Iv.ne nT
   have hT:upd H6 T (.tup [.str (S [c]), .str (S [aC c])]) T=some (.tup [.str (S [c]), .str (S [aC c])]):=ah
   have Ep:=Iv.dc (o:= .tup [.str (S [c]), .str (S [aC c])]) Tb
   have s7:=s6.after (ar.upd (o:= .tup [.str (S [c]), .str (S [aC c])]) nT)
   have YZ:=(ar.upd (o:= .tup [.str (S [c]), .str (S [aC c])]) nT) _ _ Qz
   generalize upd H6 T (.tup [.str (S [c]), .str (S [aC c])])=H7 at hT Ep s7 YZ ⊢
   refine ⟨T,rfl,⟨_,cO.of hT⟩,?_⟩
   refine ID (K:=K) (a:=T) (xs:=[.str (S [c]), .str (S [aC c])]) (fun j σ H'=> ∃(z':List Nat) (v9 v10:Option V),σ=[some (.ref b),some (.int 2),some (.int 4),some (.ref L0),some (.ref D),some (.str (S [x])),some (.str (S [y])),some (.str (S z')),some (.str (S [c])),v9,v10]/\z'.Perm ([c,aC c].take j++z)/\H' T=some (.tup [.str (S [c]), .str (S [aC c])])/\H' p2=some (.lst (bN N))/\bH H' b/\aR b H H') ⟨z,_,_,rfl,Qdq _,hT,YZ,Ep,s7⟩ (fun i σ H' _ h=>by obtain ⟨_,_,_,_,_,g,_⟩:=h;exact cO.of g) ?_ ?_
   ·rintro j e σ H8 he ⟨z',v9,v10,rfl,pz,Y0,W7,S6,s8⟩
    show kQ _ _ _ _ _
    refine i5 fun Dx Cg=>?_
    obtain ⟨e,rfl,et⟩: ∃d,e= .str (S [d])/\[c,aC c].take (j+1)=[c,aC c].take j++[d]:=by
     match j,he with
     | 0,he=>cases he;exact ⟨c,rfl,rfl⟩
     | 1,he=>cases he;exact ⟨aC c,rfl,rfl⟩
    have QI:z'.length<=20:=V9 pz zl (by rw[<-nl];exact vR) Kt
    have zz:=Jz QI (by decide)
    refine ⟨_,rfl,_,rfl,z',rfl,zz,_,_,rfl,rfl,b,_,rfl,S6,(XN QI (by decide)).1,(XN QI (by decide)).2,fun k H9 hk hb9 s9=>?_⟩
    have Ir:(cut z' none (some (k:Int))).length+[e].length<=sizeLine:=by rw[cG,Qae];exact Jz (Qbk (Qao (Qeg _ _) QI)) (by decide)
    have sP:(cut z' none (some (k:Int))++[e]).length+(cut z' (some (k:Int)) none).length<=sizeLine:=by rw[cG,cM,Oy,Qa2,Qae];exact Jz (Nat.add_le_add (Qbk (Qao (Qeg _ _) QI)) (Qao (Nat.sub_le _ _) QI)) (by decide)
    refine ⟨_,rfl,_,rfl,_,rfl,z',rfl,zz,_,rfl,_,_,rfl,rfl,Ir,_,rfl,_,rfl,_,rfl,z',rfl,zz,_,_,rfl,rfl,sP,?_⟩
    rw[cG,cM]
    refine Cg _ _ ⟨z'.take k++[e]++z'.drop k,_,_,rfl,?_,s9 _ _ Y0 Tb,s9 _ _ W7 YY,hb9,s8.trans s9⟩
    rw[et]
    have p1:(z'.take k++[e]++z'.drop k).Perm (e::z'):=by
     rw[Qbw]
     show (z'.take k++e::z'.drop k).Perm (e::z')
     refine Qfm.trans ?_
     rw[Qa7]
    refine p1.trans ((pz.cons e).trans ?_)
    rw[Qbw]
    exact Qfm.symm
   ·rintro σ H8 ⟨z',v9,v10,rfl,pz,Y0,W7,S6,s8⟩
    have Ti:z'.Perm (c::aC c::z):=pz
    have hyd:Yd (c::aC c::z):=⟨by
     refine Qaz.mpr ⟨fun g=>?_,Qaz.mpr ⟨c3,hz.nd⟩⟩
     rcases Zv.mp g with g | g
     ·exact eI lc g.symm
     ·exact c2 g,fun a ha=>by
     rcases Zv.mp ha with g | g
     ·rw[g];exact lc
     ·rcases Zv.mp g with g | g
      ·rw[g];exact lc.aC
      ·exact hz.lt a g,fun a ha=>by
     rcases Zv.mp ha with g | g
     ·rw[g];simp
     ·rcases Zv.mp g with g | g
      ·rw[g,aN lc];simp
      ·exact Xn _ (Xn _ (hz.cl a g))⟩
    have Y1: ∀{d},d∈x::y::N.take i->d∈x::y::N.take (i+1):=fun {d} hd=>by
     rcases Zv.mp hd with g | g
     ·rw[g];exact Zu
     ·rcases Zv.mp g with g | g
      ·rw[g];exact Xn _ Zu
      ·refine Xn _ (Xn _ ?_)
       rw[<-take_snoc hc]
       exact Qbx _ g
    have cin:c∈x::y::N.take (i+1):=Xn _ (Xn _ (by rw[<-take_snoc hc];simp))
    refine SU _ _ ⟨z',_,_,_,rfl,hyd.perm Ti.symm,by rw[Ti.length_eq,Qay,Qay,zl];rfl,Ti.mem_iff.mpr (Xn _ (Xn _ xz)),Ti.mem_iff.mpr (Xn _ (Xn _ yz)),fun d hd=>?_,W7,S6,s8⟩
    rcases Zv.mp (Ti.mem_iff.mp hd) with g | g
    ·rw[g];exact .inl cin
    ·rcases Zv.mp g with g | g
     ·rw[g,aN lc];exact .inr cin
     ·exact (W6 d g).imp Y1 Y1
  ·rintro σ H6 ⟨z,v8,v9,v10,rfl,hz,zl,xz,yz,W6,Qz,Iv,s6⟩
   rw[aY,nl]at zl
   have z8:=Z5 zl Kt
   have zz:=Jz z8.2.1 (by decide)
   have tk:=Z4 z8.2.1 (by decide) z8.2.2
   refine ⟨_,rfl,_,rfl,z,rfl,zz,b,_,rfl,Iv,tk.1,tk.2,fun k H7 hk Ep s7=>?_⟩
   have ul:=MU z k
   have hlen:(cut z (some (k:Int)) none).length+(cut z none (some (k:Int))).length<=sizeLine:=by rw[cG,cM, <-Oy,ul];exact zz
   have AO:cut z (some (k:Int)) none++cut z none (some (k:Int))=z.drop k++z.take k:=by rw[cG,cM]
   refine ⟨_,rfl,_,rfl,_,rfl,z,rfl,zz,_,rfl,_,rfl,_,rfl,z,rfl,zz,_,_,rfl,rfl,hlen,?_⟩
   rw[AO]
   have T:=Kb hz k
   have xu:=T.XT x xz
   have yu:=T.XT y yz
   have hu:=T.zd
   show K3 _ _ _ _ _
   refine ⟨_,rfl,_,rfl,by show 3<=sizeLine;decide,fun t nt=>?_⟩
   have tb:=Ep.ne nt
   exact q t _ x y _ hu (by rw[ul];exact z8.1) (by rw[ul];exact z8.2.1) xu yu x1 y1 xy ah tb (Ep.dc tb) ((s6.trans s7).after (ar.upd nt))
theorem HK:bI P w K mg base dW 2 O5 P_ ["_law_box_here","_law_x","_law_y","_law_top"] (yp K):=by
 have a_:=eA (P:=P) (w:=w) (base:=base) T
 have bz:=cY (P:=P) (w:=w) (base:=base) T
 refine T.Ui.fn.ok mK (fun vs H Q E h=>DO h) (fun cC A outer s H vs Q E hr h=>?_)
 refine ⟨_,(ag (aq (i:=4) mK.nd rfl (Or.inr rfl) (aA aW ai (ao a_ (hr.mono (by decide)) rfl T.dk.mg T.dk.fn.kp T.dk.bd .nil az (aa (pv 0) (aa (aA cF (pv 3) ai) ae)))))
   (ag (aq (i:=5) mK.nd rfl (Or.inr rfl) (aA aW ai (ao a_ (hr.mono (by decide)) rfl T.dk.mg T.dk.fn.kp T.dk.bd .nil az (aa (pv 0) (aa (aA cF (pv 4) ai) ae)))))
   (ag (aq (i:=6) mK.nd rfl (Or.inr rfl) (aQ (bK K rfl) (cT (aa (pv 1) (aa (ao bz (hr.mono (by decide)) rfl T.gB.mg T.gB.fn.kp T.gB.bd .nil az (aa (pv 1) ae)) ae))) (ao a_ (hr.mono (by decide)) rfl T.dk.mg T.dk.fn.kp T.dk.bd .nil az (aa (pv 0) (aa ai ae))) (fun _ _=>rfl)))
   (aj (aI (bD K rfl Qai Qb5 Qb4 (fU K rfl) (gv [] (by decide+kernel)) (aa (cn ["_law_i","_law_one","_law_y","_law_few","_law_many"] [none,some 6,some 2,some 5,some 4] (cS rfl T.z_range (aa (pv 4) ae)) ⟨⟨rfl,rfl,by first | exact .inl rfl | exact .inr rfl⟩,⟨⟨rfl,rfl,by first | exact .inl rfl | exact .inr rfl⟩,⟨⟨rfl,rfl,by first | exact .inl rfl | exact .inr rfl⟩,⟨⟨rfl,rfl,by first | exact .inl rfl | exact .inr rfl⟩,trivial⟩⟩⟩⟩ (fun _ _ _ _=>(aF (i:=0) (by decide+kernel:List.Nodup (["_law_i","_law_one","_law_y","_law_few","_law_many"]:List Str)) rfl (Or.inl rfl))) (fun _ _ _ _=>da) (fun _ _ _ _=>(aQ (bK K rfl) (cT (aa (pv 1) (aa (pv 2) ae))) (b7 sI rfl T.z_int boot_int (aa (dN jn (aA dA (aA iN (aA aW (pv 0) ai) (pv 3)) (pv 4)) (aA dA (aA iN (pv 0) (pv 3)) (pv 4)) (aK _)) ae)) (fun _ _=>rfl)))) ae))))))),?_⟩
 obtain ⟨b,z,x,y,rfl,hb,hz,hx,hy,x1,y1,ne,q⟩:=h
 have hs:(100000:Nat)<sizeLine:=by decide
 have lx:Lt x:= .inl x1
 have ly:Lt y:= .inl y1
 have sc: ∀a∈aP,aC a∉aP:=by decide+kernel
 refine ⟨_,rfl,_,rfl,_,_,rfl,rfl,b,_,rfl,hb,by decide,by decide,fun m0 H1 hm0 n_ s1=>?_⟩
 have aah:m0<11:=by omega
 refine ⟨_,_,rfl,rfl,?_⟩
 refine ⟨_,rfl,_,rfl,_,_,rfl,rfl,b,_,rfl,n_,by omega,by omega,fun f0 H2 hf0 iK s2=>?_⟩
 refine ⟨_,_,rfl,rfl,?_⟩
 refine ⟨_,rfl,_,rfl,x,rfl,lx,by show 2<=sizeLine;decide,fun t nt=>?_⟩
 have tb:=iK.ne nt
 have ht:upd H2 t (.lst [.str (S [x]), .str (S [aC x])]) t=some (.lst [.str (S [x]), .str (S [aC x])]):=ah
 have iY:=iK.dc (o:= .lst [.str (S [x]), .str (S [aC x])]) tb
 have s3:=(s1.trans s2).after (ar.upd (o:= .lst [.str (S [x]), .str (S [aC x])]) nt)
 generalize upd H2 t (.lst [.str (S [x]), .str (S [aC x])])=H3 at ht iY s3 ⊢
 refine ⟨_,rfl,b,2,rfl,iY,by decide,by decide,fun g H4 hg oz s4=>?_⟩
 obtain ⟨u,hu,eu⟩: ∃u,(u=x\/u=aC x)/\jc [V.str (S [x]), .str (S [aC x])] (g:Int)=some (.str (S [u])):=by
  rcases (show g=0\/g=1 by omega) with rfl | rfl
  ·exact ⟨x, .inl rfl,rfl⟩
  ·exact ⟨aC x, .inr rfl,rfl⟩
 refine ⟨t,_,_,_,rfl,rfl,bA.of (s4 _ _ ht tb),eu,?_⟩
 have NZ:=s3.trans s4
 have hu2:u∈z:=hu.elim (fun g=>by rw[g];exact hx) fun g=>by rw[g];exact hz.cl x hx
 have n1:y≠aC u:=fun g=>by
  rcases hu with a | a<;>rw[a]at g
  ·exact sc x x1 (by rw[<-g];exact y1)
  ·rw[aN lx]at g;exact ne g.symm
 have n2:u≠aC y:=fun g=>n1 (by rw[g,aN ly])
 refine ⟨rfl,_,rfl,_,rfl,by omega,by omega,?_⟩
 rw[show ((2:Int)+(m0:Int)).toNat=m0+2 by omega]
 refine jv (fun i acc H'=>ar H4 H'/\ ∃l:List Nat,acc=bN l/\l.length=i/\ ∀c∈l,c=u\/c=y) (by omega) ⟨ar.refl _,[],rfl,rfl,fun _ h=>absurd h Qag⟩ ?_ ?_
 ·rintro i acc H5 Nx hi gC ⟨s5,l,rfl,ll,hl⟩ nx
  refine ⟨⟨rfl,rfl,rfl,rfl,trivial⟩,cu ?_⟩
  refine ⟨_,rfl,_,rfl,by show 2<=sizeLine;decide,fun t2 UC=>?_⟩
  refine ⟨_,rfl,_,_,rfl,rfl,_,rfl,_,_,rfl,rfl, .inl ⟨by omega,by omega⟩,_,rfl,_,_,rfl,rfl,⟨by omega,by omega⟩,_,rfl,_,rfl,_,_,rfl,rfl, .inl ⟨by omega,by omega⟩,_,rfl,_,_,rfl,rfl,⟨by omega,by omega⟩,_,_,rfl,rfl, .inr ⟨_,rfl,?_⟩⟩
  have pick: ∀c:Bool, ∃e,(e=u\/e=y)/\jc [V.str (S [u]), .str (S [y])] (if c=true then 1 else 0)=some (.str (S [e])):=fun c=>by
   cases c with
   | true=>exact ⟨y, .inr rfl,rfl⟩
   | false=>exact ⟨u, .inl rfl,rfl⟩
  obtain ⟨e,he,ee⟩:=pick _
  refine ⟨t2,_,_,_,rfl,rfl,bA.of ah,ee,nx _ _ (by rw[Oy];simpa using gC) ⟨s5.trans (ar.upd UC),l++[e],by rw[cL],by rw[Oy,ll];rfl,fun c hc=>?_⟩⟩
  rcases Qaj.mp hc with k | k
  ·exact hl c k
  ·rw[Zt.mp k];exact he
 ·rintro acc H5 D gC ⟨s5,l,rfl,ll,hl⟩ hD
  refine ⟨D,l.map fun c=>[c],rfl,rfl,bA.of (by rw[ah, <-dB]),by rw[vn];omega,?_⟩
  rw[lW]
  have a5:=s5.trans (ar.upd (o:= .lst (bN l)) hD)
  exact q l _ (G9 hz hu2 hy n1 n2 (fun e=>by rw[e]at ll;exact absurd ll (by simp)) hl) (by omega) (oz.same a5) (NZ.after a5)
theorem Ed:bI P w K mg base dW 2 O9 Qd ["_law_box_here","_law_things"] (ux K):=by
 have a_:=eA (P:=P) (w:=w) (base:=base) T
 refine T.Uk.fn.ok nQ (fun vs H Q E h=>AE h) (fun cC A outer s H vs Q E hr h=>?_)
 refine ⟨_,(ag (aq (i:=2) nQ.nd rfl (Or.inl rfl) (b7 (kD K rfl) rfl T.z_list boot_list (aa (pv 1) ae)))
   (ag (aq (i:=3) nQ.nd rfl (Or.inl rfl) (cT ae))
   (ag (bZ PassesOwn.never (aG jn (aB (bC K rfl) rfl T.z_len Qab (aa (pv 2) ae)) ai (aK _)) (aj (cQ (bD K rfl Qap Qba Qa9 cU (pv 3) (aa (bD K rfl Qap Qcr Qcq js (pv 2) (aa (ao a_ (hr.mono (by decide)) rfl T.dk.mg T.dk.fn.kp T.dk.bd .nil az (aa (pv 0) (aa (aB (bC K rfl) rfl T.z_len Qab (aa (pv 2) ae)) ae))) ae)) ae)))))
   (aj (aI (pv 3)))))),?_⟩
 obtain ⟨b,x,ys,rfl,hb,hx,hz,q⟩:=h
 have hs:(100000:Nat)<sizeLine:=by decide
 obtain ⟨p,rfl,hp⟩:=hx
 ·refine ⟨_,rfl,p,_,rfl,hp,fun p1 n1=>?_⟩
  walk_at "wk"
  intro p2 n2
  have s1:ar H (upd (upd H p1 (.lst ys)) p2 (.lst [])):=(ar.upd n1).trans (ar.upd n2)
  have N8:p1≠b:=hb.ne n1
  have N5:H p2=none:=ar.free (ar.upd n1) n2
  have Tf:p2≠b:=hb.ne N5
  have QH:p1≠p2:=fun z=>by rw[<-z,ah]at n2;cases n2
  refine ⟨fun m σ H'=> ∃F E':List V,σ=[some (.ref b),some (.ref p),some (.ref p1),some (.ref p2)]/\m=E'.length/\(F++E').Perm ys/\H' p1=some (.lst E')/\H' p2=some (.lst F)/\bH H' b/\aR b H H',⟨_,[],ys,rfl,rfl,Qdq _,by rw[aD QH,ah],ah,hb.same s1,aR.of s1⟩,?_⟩
  rintro m σ H3 ⟨F,E',rfl,rfl,lG,oQ,tw,iY,s4⟩
  have hlen:=lG.length_eq
  rw[Oy]at hlen
  walk_at "wk"
  refine ⟨p1,_,rfl, .inl (bA.of oQ),_,_,rfl,rfl,_,rfl,bY (fun e=>?_) (fun e=>?_)⟩
  ·have e':(0:Int)<(E'.length:Nat):=of_decide_eq_true e
   refine ⟨_,rfl, .inl ⟨rfl,_,bA.of tw⟩,_,rfl, .inl ⟨rfl,_,bA.of oQ⟩,?_⟩
   walk_at "wk"
   refine ⟨p1,_,rfl, .inl (bA.of oQ),b,_,rfl,iY,by omega,by omega,fun r H4 Iq oz s5=>?_⟩
   have Th:r<E'.length:=by omega
   refine ⟨p1,_,_,r,_,rfl,rfl,s5 _ _ oQ N8,by omega,by omega,by rw[seqIndex_of (by omega) (by omega),Xo],Mt Th,?_⟩
   have oW:=gG (Mt Th)
   have j8:=oW.length_eq
   rw[Qay]at j8
   refine ⟨p2,_,_,rfl,rfl,by rw[aD (Ne.symm QH)];exact s5 _ _ tw Tf,by omega,?_⟩
   refine ⟨(E'.eraseIdx r).length,by omega,F++[E'[r]],E'.eraseIdx r,rfl,rfl,?_,by rw[aD QH,ah],ah,(oz.dc N8).dc Tf,((s4.trans s5).dc n1).dc N5⟩
   rw[Qbw]
   exact (List.Perm.append_left F oW).trans lG
  ·have e':E'=[]:=by
    cases E' with
    | nil=>rfl
    | cons c r=>exact absurd (decide_eq_true (by show (0:Int)<((r.length+1:Nat):Int);omega)) e
   subst e'
   rw[Qbh]at lG
   exact ⟨_,rfl,q p2 F H3 N5 Tf tw lG iY s4⟩
theorem N9:bI P w K mg base dW 12 Py Qx ["_law_script"] (mU K):=by
 have N_:=KC (P:=P) (w:=w) (base:=base) T
 have KG:=HJ (P:=P) (w:=w) (base:=base) T
 have HL:=D8 (P:=P) (w:=w) (base:=base) T
 have a_:=eA (P:=P) (w:=w) (base:=base) T
 have AW:=yP (P:=P) (w:=w) (base:=base) T
 have KH:=HK (P:=P) (w:=w) (base:=base) T
 have wJ:=yL (P:=P) (w:=w) (base:=base) T
 have HM:=Ed (P:=P) (w:=w) (base:=base) T
 have j7:=mM (P:=P) (w:=w) (base:=base) T
 have HN:=Ec (P:=P) (w:=w) (base:=base) T
 refine T.F57.fn.ok gR (fun vs H Q E h=>Jv h) (fun cC A outer s H vs Q E hr h=>?_)
 refine ⟨_,(ag (aq (i:=1) gR.nd rfl (Or.inl rfl) (cT ae))
   (ag (cE PassesOwn.never rfl (cS rfl T.z_range (aa ai ae)) (aF (i:=2) gR.nd rfl (Or.inl rfl)) (ag (aq (i:=3) gR.nd rfl (Or.inl rfl) (ao N_ (hr.mono (by decide)) rfl T.Ue.mg T.Ue.fn.kp T.Ue.bd .nil az (aa (pv 0) (aa (pv 2) ae))))
   (ag (aq (i:=4) gR.nd rfl (Or.inl rfl) (ao KG (hr.mono (by decide)) rfl T.Ug.mg T.Ug.fn.kp T.Ug.bd .nil az (aa (pv 3) (aa ai (aa ai ae)))))
   (ag (aq (i:=5) gR.nd rfl (Or.inl rfl) (ao HL (hr.mono (by decide)) rfl T.Uv.mg T.Uv.fn.kp T.Uv.bd .nil az (aa (pv 3) (aa (pv 4) ae))))
   (eZ (bQ (aG eX (ao a_ (hr.mono (by decide)) rfl T.dk.mg T.dk.fn.kp T.dk.bd .nil az (aa (pv 3) (aa ai ae))) ai (aK _)) (ag (jk (ao AW (hr.mono (by decide)) rfl T.Uh.mg T.Uh.fn.kp T.Uh.bd .nil az (aa (pv 3) (aa ai (aa ai ae)))) (eY (n:=3) K rfl rfl (bf (aF (i:=4) gR.nd rfl (Or.inl rfl)) (bf (aF (i:=6) gR.nd rfl (Or.inl rfl)) (bf (aF (i:=7) gR.nd rfl (Or.inl rfl)) eB)))))
   (ag (aq (i:=8) gR.nd rfl (Or.inl rfl) (ao KH (hr.mono (by decide)) rfl T.Ui.mg T.Ui.fn.kp T.Ui.bd .nil az (aa (pv 3) (aa (pv 6) (aa (pv 7) (aa ai ae))))))
   (aj (aq (i:=5) gR.nd rfl (Or.inl rfl) (b8 (aa (pv 8) (aa (ao wJ (hr.mono (by decide)) rfl T.NO.mg T.NO.fn.kp T.NO.bd .nil az (aa (pv 3) (aa (pv 4) (aa (pv 8) (aa ai ae))))) ae))))))) bB)
   (ag (cQ (bD K rfl Qap Qba Qa9 cU (pv 1) (aa (b8 (aa (pv 4) (aa (pv 5) ae))) ae)))
   (ag (cQ (bD K rfl Qap Qba Qa9 cU (pv 1) (aa (b8 (aa (pv 4) (aa (b7 (cV K rfl) rfl T.z_tuple boot_tuple (aa (ao HM (hr.mono (by decide)) rfl T.Uk.mg T.Uk.fn.kp T.Uk.bd .nil az (aa (pv 3) (aa (pv 5) ae))) ae)) ae))) ae)))
   (aj (cQ (bD K rfl Qap Qba Qa9 cU (pv 1) (aa (b8 (aa (aA cf (aA cf (aQ eU (pv 4) ai (fun _ _=>rfl)) (aQ eU (pv 4) ai (fun _ _=>rfl))) (bo gF (pv 4) (bp ai) bS)) (aa (pv 5) ae))) ae)))))))))))
   (eZ (bQ (aG Jg (ao j7 (hr.mono (by decide)) rfl T.NM.mg T.NM.fn.kp T.NM.bd .nil az (aa (aQ (bT K rfl) (aQ (bK K rfl) (pv 1) ai (fun _ _=>rfl)) ai (fun _ _=>rfl)) (aa (b8 ae) ae))) sx (aK _)) (aj (aI sx)) bB)
   (aj (aI (aB (CP K rfl rfl) rfl T.z_all boot_all (aa (cn ["_law_yard_here","_law_words_here"] [none,none] (dY K rfl (aA EK (pv 1) (bo (lQ K rfl) (pv 1) bS (bp ai)))) trivial (fun _ _ _ _=>(eY (n:=2) K rfl rfl (bf (aF (i:=0) (by decide+kernel:List.Nodup (["_law_yard_here","_law_words_here"]:List Str)) rfl (Or.inl rfl)) (bf (aF (i:=1) (by decide+kernel:List.Nodup (["_law_yard_here","_law_words_here"]:List Str)) rfl (Or.inl rfl)) eB)))) (fun _ _ _ _=>da) (fun _ _ _ _=>(ao HN (hr.mono (by decide)) rfl T.Uw.mg T.Uw.fn.kp T.Uw.bd .nil az (aa (pv 0) (aa (pv 1) ae))))) ae))))))),?_⟩
 obtain ⟨a,ns,rfl,hS,hl,q⟩:=h
 refine ⟨by show 0<=sizeLine;decide,fun L nL=>?_⟩
 have a0:ja (upd H L (.lst [])) L []:=⟨ah,fun p hp=>absurd hp Qag⟩
 have s0:=ar.upd (o:= .lst []) nL
 generalize upd H L (.lst [])=H1 at a0 s0 ⊢
 refine ⟨_,rfl,by decide,by decide,?_⟩
 refine eL (n:=3) (fun i σ H'=> ∃(ps:List Addr) (v2 v3 v4 v5 v6 v7 v8:Option V),σ=[some (.ref a),some (.ref L),v2,v3,v4,v5,v6,v7,v8]/\ar H H'/\ja H' L ps/\ps.length<=3*i/\(0<i->ps≠[])) ⟨[],none,none,none,none,none,none,none,rfl,s0,a0,Tz _,fun z=>absurd z (Qbb 0)⟩ ?_ ?_
 ·rintro i σ H2 hi ⟨ps,v2,v3,v4,v5,v6,v7,v8,rfl,s2,a2,pl,pn⟩
  show kQ _ _ _ _ _
  refine i5 fun D hD=>?_
  refine ⟨_,rfl,_,rfl,a,ns,i,by rw[Qcg];rfl,s2.seq hS,Qao (Qa5 hi) (by decide),fun b H3 nb bx s3=>?_⟩
  have Lb:L≠b:=fun z=>by rw[<-z,a2.ls]at nb;cases nb
  show kQ _ _ _ [some (.ref a),some (.ref L),some (.int (0+(i:Int))),some (.ref b),v4,v5,v6,v7,v8] _
  have Y2:H b=none:=ar.free s2 nb
  refine ⟨_,rfl,b,1,4,rfl,bx,by decide,by decide,by decide,fun y H4 hy Ko Ci Y3 s4=>?_⟩
  show kQ _ _ _ [some (.ref a),some (.ref L),some (.int (0+(i:Int))),some (.ref b),some (.str (S y)),v5,v6,v7,v8] _
  refine ⟨_,rfl,_,rfl,b,y,rfl,Y3,hy,Ko,Ci,fun t ws H5 tb S5 Y4 Y5 Y6 s5=>?_⟩
  show kQ _ _ _ [some (.ref a),some (.ref L),some (.int (0+(i:Int))),some (.ref b),some (.str (S y)),some (.ref t),v6,v7,v8] _
  have k5:ur y ws:=Ki Y4 Y5
  refine ⟨fun σ' H'=> ∃(y:List Nat) (t:Addr) (ws:List (List Nat)) (v6 v7 v8:Option V),σ'=[some (.ref a),some (.ref L),some (.int (0+(i:Int))),some (.ref b),some (.str (S y)),some (.ref t),v6,v7,v8]/\Yd y/\2<=y.length/\y.length<=8/\H' t=some (.tup (cy ws))/\ur y ws/\bH H' b/\aR b H3 H',?_,?_⟩
  ·refine i5 fun D1 pN=>?_
   refine ⟨_,rfl,b,3,rfl,Y6,by decide,by decide,fun r H6 hr Tj s6=>?_⟩
   have N1:=s6 _ _ S5 tb
   have Y7:=s4.trans (s5.trans s6)
   refine ⟨_,_,rfl,rfl,_,rfl,bY (fun z=>?_) (fun z=>?_)⟩
   ·refine ⟨_,rfl,b,rfl,Tj,fun t2 z2 x x' H7 hz z4 z8 xz yz x1 y1 xy Er tb7 bx7 s7=>?_⟩
    refine ⟨t2,_,rfl,cO.of Er,rfl,_,_,rfl,_,_,rfl,_,_,rfl,rfl,?_⟩
    refine ⟨_,rfl,_,rfl,_,rfl,b,z2,x,x',rfl,bx7,hz,xz,yz,x1,y1,xy,fun w8 H8 SR Y8 W8 s8=>?_⟩
    refine ⟨_,rfl,_,rfl,_,rfl,_,rfl,b,z2,w8,12,rfl,W8,hz,Qao (by decide) z4,z8,by decide,by decide,SR.ne,SR.bW,Y8,fun u H9 hu ul Y9 s9=>?_⟩
    refine ⟨by show 2<=sizeLine;decide,fun T nT=>?_⟩
    have Tb:=Y9.ne nT
    have Y_:=Y7.trans (s7.trans (s8.trans s9))
    exact pN _ _ ⟨z2,T,[w8,u],_,_,_,rfl,hz,Qao (by decide) z4,z8,ah,Kj SR.bW hu Y8 ul,Y9.dc Tb,Y_.dc (Y_.none nT Tb)⟩
   ·exact pN _ _ ⟨y,t,ws,_,_,_,rfl,hy,Ko,Ci,N1,k5,Tj,Y7⟩
  ·clear hy Ko Ci S5 Y4 Y5 k5 tb Y3 Y6 s4 s5 y t ws v6 v7 v8
   rintro σ' H6 ⟨y,t,ws,v6,v7,v8,rfl,hy,y2,y8,N1,k6,Tj,s6⟩
   have lV:=k6.lV
   have p6:=Wh pl hi
   have yz:=Jz y8 (by decide)
   have st:Ik H H6 L b t ws ps:=⟨fun d o e=>s6 _ _ (s3 _ _ (s2 _ _ e)) (aE e Y2),(a2.same s3).sb s6 bx Lb,Tj,N1⟩
   refine ⟨_,rfl, .inl ⟨rfl,_,bA.of st.ak.ls⟩,_,rfl,_,rfl,by show 2<=sizeLine;decide,fun t1 n1=>?_⟩
   refine ⟨L,_,_,rfl,rfl,ar.upd n1 _ _ st.ak.ls,Ho p6 (by decide),?_⟩
   replace st:=st.add nL n1 Lb st.ht hy y8 k6
   generalize upd (upd H6 t1 (.tup [.str (S y), .ref t])) L (.lst (ps.map V.ref++[.ref t1]))=H7 at st ⊢
   clear s6 Tj N1 n1
   refine ⟨_,rfl, .inl ⟨rfl,_,bA.of st.ak.ls⟩,_,rfl,_,rfl,_,rfl,b, .ref t,cy ws,rfl,st.bx,⟨t,rfl, .inr (cO.of st.ht)⟩,by rw[bj];exact Qao lV (by decide),fun q2 Wg H8 nq qb hq lG W8 s8=>?_⟩
   obtain ⟨vs,rfl,pv⟩:=Hl lG
   replace st:=st.sb s8 W8 Y2 Lb
   refine ⟨q2,_,rfl, .inl ⟨bA.of hq,fun u nu=>?_⟩⟩
   replace st:=st.same (ar.upd (o:= .tup (cy vs)) nu)
   have hu:upd H8 u (.tup (cy vs)) u=some (.tup (cy vs)):=ah
   generalize upd H8 u (.tup (cy vs))=H9 at st hu ⊢
   refine ⟨by show 2<=sizeLine;decide,fun t2 n2=>?_⟩
   refine ⟨L,_,_,rfl,rfl,ar.upd n2 _ _ st.ak.ls,Ho (iE p6 t1) (by decide),?_⟩
   replace st:=st.add nL n2 Lb hu hy y8 (k6.perm pv)
   generalize upd (upd H9 t2 (.tup [.str (S y), .ref u])) L (.lst ((ps++[t1]).map V.ref++[.ref t2]))=LG at st ⊢
   obtain ⟨p0,q0,yr,ey⟩: ∃p q r,y=p::q::r:=by
    rcases y with _ | ⟨p,_ | ⟨q,r⟩⟩
    ·simp at y2
    ·simp at y2
    ·exact ⟨p,q,r,rfl⟩
   have e0:jc y 0=some p0:=by rw[ey];exact (bM rfl:jc (p0::q0::yr) ((0:Nat):Int)=some p0)
   have e1:jc y 1=some q0:=by rw[ey];exact (bM rfl:jc (p0::q0::yr) ((1:Nat):Int)=some q0)
   have e2:cut y (some 2) none=yr:=by rw[ey];exact cM (p0::q0::yr) 2
   have y6:yr.length+2<=8:=by rw[ey]at y8;exact y8
   refine ⟨_,rfl, .inl ⟨rfl,_,bA.of st.ak.ls⟩,?_⟩
   refine ⟨_,rfl,y,_,_,rfl,rfl,yz,e1,_,rfl,y,_,_,rfl,rfl,yz,e0,_,_,rfl,rfl,by show 1+1<=sizeLine;decide,_,rfl,_,rfl,y,rfl,yz,_,_,rfl,rfl,by rw[e2,Qfe];exact Jz y6 (by decide),?_⟩
   rw[e2]
   refine ⟨_,rfl,by show 2<=sizeLine;decide,fun t3 n3=>?_⟩
   refine ⟨L,_,_,rfl,rfl,ar.upd n3 _ _ st.ak.ls,Ho (iE (iE p6 t1) t2) (by decide),?_⟩
   have hys:Yd ([q0]++[p0]++yr):=Ke (by rw[<-ey];exact hy)
   replace st:=st.add nL n3 Lb st.ht hys y6 (k6.yard (by rw[ey];exact List.Perm.swap q0 p0 yr))
   exact hD _ _ ⟨_,_,_,_,_,_,_,_,rfl,st.sm,st.ak,iE (iE (iE pl t1) t2) t3,fun _=>by simp⟩
 ·rintro σ H2 ⟨rs,v2,v3,v4,v5,v6,v7,v8,rfl,s2,a9,pl,pn⟩
  have dH:=pn (by decide)
  obtain ⟨p0,rt,er⟩: ∃p r,rs=p::r:=by
   rcases rs with _ | ⟨p,r⟩
   ·exact absurd rfl dH
   ·exact ⟨p,r,rfl⟩
  obtain ⟨y0,t0,ws0,ep,et,hy0,hz0,V_⟩:=a9.ak p0 (by rw[er];exact Zu)
  have e9:jc (rs.map V.ref) 0=some (.ref p0):=by rw[er];exact (bM rfl:jc ((p0::rt).map V.ref) ((0:Nat):Int)=some (.ref p0))
  refine ⟨fun σ' H'=>σ'=[some (.ref a),some (.ref L),v2,v3,v4,v5,v6,v7,v8]/\ar H2 H',?_,?_⟩
  ·refine ⟨_,rfl,L,_,_,_,rfl,rfl,bA.of a9.ls,e9,p0,_,_,_,rfl,rfl,cO.of ep,rfl,?_⟩
   refine ⟨Qad _,fun te nte=>?_⟩
   refine ⟨y0,te,[],rfl,hy0,hz0,ah,⟨fun w h=>absurd h Qag,Qad _,Qad _⟩,fun LG W9=>?_⟩
   show tC _ _ _ _
   rw[show yA y0 ([].map cr)=true from Hn y0]
   exact ⟨_,_,rfl,rfl,_,rfl,gw rfl ⟨rfl,(ar.upd nte).trans W9⟩⟩
  rintro σ' LG ⟨rfl,W9⟩
  have a10:=a9.same W9
  have ec:xg (rs.map V.ref) none (some 1)=(rs.take 1).map V.ref:=by
   rw[Qe7]
   exact cG (rs.map V.ref) 1
  refine ⟨_,rfl,_,rfl,_,rfl,L,_,rfl,bA.of a10.ls,fun p2 n2=>?_⟩
  rw[ec]
  have u2:=ar.upd (o:= .lst ((rs.take 1).map V.ref)) n2
  refine ⟨L,p2,_,_,rfl,rfl,u2 _ _ a10.ls,ah,by rw[Xl,Xl,Qae];exact Jz (Nat.add_le_add pl (Nat.min_le_left _ _)) (by decide),fun p3 n3=>?_⟩
  rw[<-Qaa]
  have k3: ∀p∈rs++rs.take 1,Hm (upd (upd LG p2 (.lst ((rs.take 1).map V.ref))) p3 (.lst ((rs++rs.take 1).map V.ref))) p:=fun p hp=>(a10.ak p ((Qaj.mp hp).elim id Qcl)).ts (dv.of (u2.trans (ar.upd n3)))
  have wU:upd (upd LG p2 (.lst ((rs.take 1).map V.ref))) p3 (.lst ((rs++rs.take 1).map V.ref)) p3=some (.lst ((rs++rs.take 1).map V.ref)):=ah
  have Eo:(rs++rs.take 1).length<=100:=by rw[Oy,Qae];exact Qao (Nat.add_le_add pl (Nat.min_le_left _ _)) (by decide)
  generalize upd (upd LG p2 (.lst ((rs.take 1).map V.ref))) p3 (.lst ((rs++rs.take 1).map V.ref))=Yu at k3 wU ⊢
  generalize rs++rs.take 1=us at k3 wU Eo ⊢
  refine ⟨p3,rfl,⟨_,bA.of wU⟩,?_⟩
  refine ik (K:=K) (a:=p3) (xs:=us.map V.ref) (fun i acc H'=>ar Yu H'/\acc=(List.replicate i true).map V.bl) (by rw[Xl];exact Jz (Qbk Eo) (by decide)) (fun i acc H' h=>bA.of (h.1 _ _ wU)) ⟨ar.refl _,rfl⟩ ?_ ?_
  ·rintro i x acc WC Nx hi hx gC ⟨QF,rfl⟩ nx
   rw[Qak]at hx
   obtain ⟨k,Eg,rfl⟩:=Qen.mp hx
   obtain ⟨y1,t1,ws1,ep1,et1,Ko,hz1,Fo⟩:=(k3 k (Qah Eg)).ts (dv.of QF)
   refine ⟨k,_,rfl,cO.of ep1,rfl,_,_,rfl,_,_,rfl,rfl,trivial,cu ?_⟩
   refine ⟨_,rfl,_,rfl,y1,t1,ws1,rfl,Ko,hz1,et1,Fo,fun H13 s13=>?_⟩
   exact nx _ _ (by simpa using gC) ⟨QF.trans s13,Ft _⟩
  ·rintro acc WC D4 gC ⟨QF,rfl⟩ Iu
   refine ⟨D4,_,rfl,bA.of ah,?_⟩
   rw[Jy]
   exact q _
end
theorem bR {M:List Value->Prop} (h:M []): ∀us:List Value,us.length=0->M us
 | [],_=>h
theorem aL {M:List Value->Prop} {n:Nat} (h: ∀(a:Value) (us:List Value),us.length=n->M (a::us)): ∀us:List Value,us.length=n+1->M us
 | a::us,e=>h a us (Nat.succ.inj e)
def Dn (K:PySem.W.Frag) (x:Str) (st:Stmt) (f:Addr) (fd:FuncData):Prop:=PySem.W.nsIn K mainGlobals x=some (some (.ref f))/\IU K x x st f fd
theorem dn {K:PySem.W.Frag} {x:Str} {st:Stmt} {f:Addr} {oc:Value} {od an:Option Addr} {HW:Array (Option Value)} {kV doc pm cC ct:Value} (a:PySem.W.nsIn K mainGlobals x=some (some (.ref f))) (l:K.lookup f=some ⟨oc,od, .func (PySem.W.fnOf x x (gu st) (fM st) (au st) .none kV doc pm an cC ct),HW⟩) (c:PySem.W.codeIn K cC x=true) (k:PySem.W.keepIn K (.ref f)=true):Dn K x st f (PySem.W.fnOf x x (gu st) (fM st) (au st) .none kV doc pm an cC ct):=⟨a,zB l c k⟩
theorem ft {K:PySem.W.Frag} {h:Heap} {mg:Str->Option Value} {x:Str} {st:Stmt} {f:Addr} {fd:FuncData} {ps:List Str} (X:K.In h) (G:h.Ns mainGlobals mg) (a:Dn K x st f fd) (b: ∀(kV doc pm:Value) (an:Option Addr) (cC ct:Value) (us:List Value),us.length=ps.length->bindArgs (PySem.W.fnOf x x (gu st) (fM st) (au st) .none kV doc pm an cC ct) ⟨us,[]⟩=pure (ps.zip us)):aZ K mg x st ps f fd:=⟨a.2,Qe5 X G a.1,a.2.binds b⟩
theorem all_mk {l:PySem.W.OpenLaw} {w:World} {K:PySem.W.Frag} {h:Heap} {mg:Str->Option Value} {fa f0 f1 f2 f3 f4 f5 f6 f7 f8 f9 OJ OK OL OM ON OO OP OQ Hr Hs OR OS OT OU OV OW OX OY OZ O0 O1 O2 O3 O4 O5 O6 O7 O8 O9 O_ Pa Pb Pc Pd Pe Ph Pj Pk Pl Pm Pn Po Pp Pq Pu Pw Px Py aV bu kK h7:Addr} (X:K.In h) (G:h.Ns mainGlobals mg) (TQ:mg "law"=some (.ref fa))
  {d0 d1 d2 d3 d4 d5 d6 d7 d8 d9 Pz PB PC PD PH PJ PK PL PM PN PQ PR PU PV PX PY PZ P0 P4 P5 P6 P7 P8 P9 P_ Qa Qb Qc Qd Qe Qf Qg Qh Qi Qj Ql Qm Qn Qo Qp Qq Qr Qs Qt Qu Qv Qw Qx:FuncData}
  {Oa Ob KI KJ:Option Addr} {Oc KL:Array (Option Value)} {Oe Of Og Oh HP Oi KN KO KP KQ Cn KR:Value}
  (a0:Dn K "contrary" lq f0 d0)
  (a1:Dn K "turned" qL f1 d1)
  (a2:Dn K "bands" wg f2 d2)
  (a3:Dn K "steps_round" hU f3 d3)
  (a4:Dn K "strands_at" iR f4 d4)
  (a5:Dn K "points" qM f5 d5)
  (a6:Dn K "corner_points" gm f6 d6)
  (a7:Dn K "corners" nG f7 d7)
  (a8:Dn K "chord_starts" gN f8 d8)
  (a9:Dn K "number_in" jV f9 d9)
  (a10:Dn K "count_meetings" fJ OJ Pz)
  (a11:Dn K "strands_in" iS OK PB)
  (a12:Dn K "corner_ends" hV OL PC)
  (a13:Dn K "shortened" jW OM PD)
  (a14:Dn K "shortest" lr ON PH)
  (a15:Dn K "ring" AF OO PJ)
  (a16:Dn K "root" AG OP PK)
  (a17:Dn K "corner_steps" gO OQ PL)
  (a18:Dn K "steps_ahead" hW Hr PM)
  (a19:Dn K "steps_back" iT Hs PN)
  (a20:Dn K "parting" nH OR PQ)
  (a21:Dn K "side_of" nI OS PR)
  (a22:Dn K "comes_ahead" hX OT PU)
  (a23:Dn K "number_among" gP OU PV)
  (a24:Dn K "seen_strand" hZ OV PX)
  (a25:Dn K "taut_order" iU OW PY)
  (a26:Dn K "taut" AH OX PZ)
  (a27:Dn K "least" wj OY P0)
  (a28:Dn K "lie_apart" jX OZ P4)
  (a29:Dn K "_law_box" AI O0 P5)
  (a30:Dn K "_law_take" wm O1 P6)
  (a31:Dn K "_law_other" qN O2 P7)
  (a32:Dn K "_law_yard" wo O3 P8)
  (a33:Dn K "_law_handled" lA O4 P9)
  (a34:Dn K "_law_even" wq O5 P_)
  (a35:Dn K "_law_word" wu O6 Qa)
  (a36:Dn K "_law_short" qO O7 Qb)
  (a37:Dn K "_law_near" wx O8 Qc)
  (a38:Dn K "_law_order" qP O9 Qd)
  (a39:Dn K "_law_bands" qQ O_ Qe)
  (a40:Dn K "_law_shortened" iV Pa Qf)
  (a41:Dn K "_law_shortest" jY Pb Qg)
  (a42:Dn K "_law_ray" AJ Pc Qh)
  (a43:Dn K "_law_letter" nJ Pd Qi)
  (a44:Dn K "_law_round" qR Pe Qj)
  (a45:Dn K "_law_parted" nK Ph Ql)
  (a46:Dn K "_law_sense" qS Pj Qm)
  (a47:Dn K "_law_meets" qT Pk Qn)
  (a48:Dn K "_law_between" lB Pl Qo)
  (a49:Dn K "_law_own" AK Pm Qp)
  (a50:Dn K "_law_is_lone" nM Pn Qq)
  (a51:Dn K "_law_lie_apart" jZ Po Qr)
  (a52:Dn K "_law_rims" wz Pp Qs)
  (a53:Dn K "_law_within" nN Pq Qt)
  (a54:Dn K "_law_lone" wA Pu Qu)
  (a55:Dn K "_law_words" qU Pw Qv)
  (a56:Dn K "_law_right" qV Px Qw)
  (a57:Dn K "law" Hq Py Qx)
  (q_Seen:PySem.W.nsIn K mainGlobals "Seen"=some (some (.ref aV)))
  (pg_Seen:PySem.W.plainGet K aV Str.empty=true)
  (hd_Seen:PySem.W.hasDictIn K aV=true)
  (po_Seen:PySem.W.plainOver K aV=true)
  (sa_Seen:PySem.W.findIn K (.ref aV) "__setattr__"=some (some (.builtin "object.__setattr__")))
  (n_Seen_strand:PySem.W.findIn K (.ref aV) "strand"=some none)
  (n_Seen_way:PySem.W.findIn K (.ref aV) "way"=some none)
  (n_Seen_place:PySem.W.findIn K (.ref aV) "place"=some none)
  (q_Way:PySem.W.nsIn K mainGlobals "Way"=some (some (.ref bu)))
  (pg_Way:PySem.W.plainGet K bu Str.empty=true)
  (hd_Way:PySem.W.hasDictIn K bu=true)
  (po_Way:PySem.W.plainOver K bu=true)
  (sa_Way:PySem.W.findIn K (.ref bu) "__setattr__"=some (some (.builtin "object.__setattr__")))
  (n_Way_size:PySem.W.findIn K (.ref bu) "size"=some none)
  (n_Way_root_size:PySem.W.findIn K (.ref bu) "root_size"=some none)
  (n_Way_leads:PySem.W.findIn K (.ref bu) "leads"=some none)
  (n_Way_onward:PySem.W.findIn K (.ref bu) "onward"=some none)
  (n_Way_backward:PySem.W.findIn K (.ref bu) "backward"=some none)
  (mk_Way:PySem.W.makesIn K bu=true)
  (qi_Way:PySem.W.findIn K (.ref bu) "__init__"=some (some (.ref kK)))
  (fi_Way:PySem.W.isFn K (.ref kK)=true)
  (kc_Way:PySem.W.keepIn K (.ref bu)=true)
  (li_Way:K.lookup kK=some ⟨Oe,Oa, .func (PySem.W.fnOf "__init__" "Way.__init__" (gu kh) (fM kh) (au kh) .none Of Og Oh Ob HP Oi),Oc⟩)
  (ci_Way:PySem.W.codeIn K HP "Way.__init__"=true)
  (ki_Way:PySem.W.keepIn K (.ref kK)=true)
  (mk_Seen:PySem.W.makesIn K aV=true)
  (qi_Seen:PySem.W.findIn K (.ref aV) "__init__"=some (some (.ref h7)))
  (fi_Seen:PySem.W.isFn K (.ref h7)=true)
  (kc_Seen:PySem.W.keepIn K (.ref aV)=true)
  (li_Seen:K.lookup h7=some ⟨KN,KI, .func (PySem.W.fnOf "__init__" "Seen.__init__" (gu iF) (fM iF) (au iF) .none KO KP KQ KJ Cn KR),KL⟩)
  (ci_Seen:PySem.W.codeIn K Cn "Seen.__init__"=true)
  (ki_Seen:PySem.W.keepIn K (.ref h7)=true)
  (z_all:PySem.W.nsIn K mainGlobals "all"=some none)
  (z_bool:PySem.W.nsIn K mainGlobals "bool"=some none)
  (z_enumerate:PySem.W.nsIn K mainGlobals "enumerate"=some none)
  (z_int:PySem.W.nsIn K mainGlobals "int"=some none)
  (z_isinstance:PySem.W.nsIn K mainGlobals "isinstance"=some none)
  (z_len:PySem.W.nsIn K mainGlobals "len"=some none)
  (z_list:PySem.W.nsIn K mainGlobals "list"=some none)
  (z_max:PySem.W.nsIn K mainGlobals "max"=some none)
  (z_min:PySem.W.nsIn K mainGlobals "min"=some none)
  (z_range:PySem.W.nsIn K mainGlobals "range"=some none)
  (z_reversed:PySem.W.nsIn K mainGlobals "reversed"=some none)
  (z_set:PySem.W.nsIn K mainGlobals "set"=some none)
  (z_sorted:PySem.W.nsIn K mainGlobals "sorted"=some none)
  (z_str:PySem.W.nsIn K mainGlobals "str"=some none)
  (z_sum:PySem.W.nsIn K mainGlobals "sum"=some none)
  (z_tuple:PySem.W.nsIn K mainGlobals "tuple"=some none):
  ∃fd:FuncData,(∀(s:Shared) (v:Value),BindsTo s fd ⟨[v],[]⟩ [("_law_script",v)])/\ ∀base:Heap,K.In base->base.Ns mainGlobals mg->bI l.prog w K mg base dW 12 fa fd ["_law_script"] (mU K):=by
 have e:=TQ.symm.trans (Qe5 X G a57.1)
 cases e
 obtain ⟨_,_,_,_,_,_,_,_,_,rfl,_⟩:=a57.2.ex
 have HQ:=zB (st:=kh) li_Way ci_Way ki_Way
 have Oj:=HQ.binds (ps:=["self","yard","word","longest"]) fun _ _ _ _ _ _=>aL fun _=>aL fun _=>aL fun _=>aL fun _=>bR rfl
 have Co:=zB (st:=iF) li_Seen ci_Seen ki_Seen
 have KS:=Co.binds (ps:=["self","strand","way","place"]) fun _ _ _ _ _ _=>aL fun _=>aL fun _=>aL fun _=>aL fun _=>bR rfl
 have T:Txt K mg _ _ _ _ _ _ _ _ _ _ _ _ _ _ _ _ _ _ _ _ _ _ _ _ _ _ _ _ _ _ _ _ _ _ _ _ _ _ _ _ _ _ _ _ _ _ _ _ _ _ _ _ _ _ _ _ _ _ _ _ _ _ _ _ _ _ _ _ _ _ _ _ _ _ _ _ _ _ _ _ _ _ _ _ _ _ _ _ _ _ _ _ _ _ _ _ _ _ _ _ _ _ _ _ _ _ _ _ _ _ _ _ _ _ _ _ _ _ _ _ _ _:=⟨ft X G a0 fun _ _ _ _ _ _=>aL fun _=>bR rfl,ft X G a1 fun _ _ _ _ _ _=>aL fun _=>bR rfl,ft X G a2 fun _ _ _ _ _ _=>aL fun _=>bR rfl,ft X G a3 fun _ _ _ _ _ _=>aL fun _=>aL fun _=>aL fun _=>bR rfl,ft X G a4 fun _ _ _ _ _ _=>aL fun _=>aL fun _=>aL fun _=>bR rfl,ft X G a5 fun _ _ _ _ _ _=>aL fun _=>aL fun _=>bR rfl,ft X G a6 fun _ _ _ _ _ _=>aL fun _=>aL fun _=>aL fun _=>bR rfl,ft X G a7 fun _ _ _ _ _ _=>aL fun _=>aL fun _=>bR rfl,ft X G a8 fun _ _ _ _ _ _=>aL fun _=>bR rfl,ft X G a9 fun _ _ _ _ _ _=>aL fun _=>aL fun _=>bR rfl,ft X G a10 fun _ _ _ _ _ _=>aL fun _=>bR rfl,ft X G a11 fun _ _ _ _ _ _=>aL fun _=>aL fun _=>bR rfl,ft X G a12 fun _ _ _ _ _ _=>aL fun _=>aL fun _=>bR rfl,ft X G a13 fun _ _ _ _ _ _=>aL fun _=>bR rfl,ft X G a14 fun _ _ _ _ _ _=>aL fun _=>bR rfl,ft X G a15 fun _ _ _ _ _ _=>aL fun _=>bR rfl,ft X G a16 fun _ _ _ _ _ _=>aL fun _=>bR rfl,ft X G a17 fun _ _ _ _ _ _=>aL fun _=>aL fun _=>aL fun _=>bR rfl,ft X G a18 fun _ _ _ _ _ _=>aL fun _=>aL fun _=>aL fun _=>bR rfl,ft X G a19 fun _ _ _ _ _ _=>aL fun _=>aL fun _=>aL fun _=>bR rfl,ft X G a20 fun _ _ _ _ _ _=>aL fun _=>aL fun _=>aL fun _=>aL fun _=>bR rfl,ft X G a21 fun _ _ _ _ _ _=>aL fun _=>bR rfl,ft X G a22 fun _ _ _ _ _ _=>aL fun _=>aL fun _=>bR rfl,ft X G a23 fun _ _ _ _ _ _=>aL fun _=>aL fun _=>bR rfl,ft X G a24 fun _ _ _ _ _ _=>aL fun _=>aL fun _=>aL fun _=>bR rfl,ft X G a25 fun _ _ _ _ _ _=>aL fun _=>aL fun _=>aL fun _=>bR rfl,ft X G a26 fun _ _ _ _ _ _=>aL fun _=>aL fun _=>bR rfl,ft X G a27 fun _ _ _ _ _ _=>aL fun _=>aL fun _=>bR rfl,ft X G a28 fun _ _ _ _ _ _=>aL fun _=>aL fun _=>bR rfl,ft X G a29 fun _ _ _ _ _ _=>aL fun _=>aL fun _=>bR rfl,ft X G a30 fun _ _ _ _ _ _=>aL fun _=>aL fun _=>bR rfl,ft X G a31 fun _ _ _ _ _ _=>aL fun _=>bR rfl,ft X G a32 fun _ _ _ _ _ _=>aL fun _=>aL fun _=>aL fun _=>bR rfl,ft X G a33 fun _ _ _ _ _ _=>aL fun _=>aL fun _=>aL fun _=>bR rfl,ft X G a34 fun _ _ _ _ _ _=>aL fun _=>aL fun _=>aL fun _=>aL fun _=>bR rfl,ft X G a35 fun _ _ _ _ _ _=>aL fun _=>aL fun _=>aL fun _=>bR rfl,ft X G a36 fun _ _ _ _ _ _=>aL fun _=>aL fun _=>aL fun _=>bR rfl,ft X G a37 fun _ _ _ _ _ _=>aL fun _=>aL fun _=>aL fun _=>aL fun _=>bR rfl,ft X G a38 fun _ _ _ _ _ _=>aL fun _=>aL fun _=>bR rfl,ft X G a39 fun _ _ _ _ _ _=>aL fun _=>bR rfl,ft X G a40 fun _ _ _ _ _ _=>aL fun _=>bR rfl,ft X G a41 fun _ _ _ _ _ _=>aL fun _=>bR rfl,ft X G a42 fun _ _ _ _ _ _=>aL fun _=>aL fun _=>aL fun _=>bR rfl,ft X G a43 fun _ _ _ _ _ _=>aL fun _=>aL fun _=>bR rfl,ft X G a44 fun _ _ _ _ _ _=>aL fun _=>aL fun _=>aL fun _=>aL fun _=>bR rfl,ft X G a45 fun _ _ _ _ _ _=>aL fun _=>aL fun _=>aL fun _=>bR rfl,ft X G a46 fun _ _ _ _ _ _=>aL fun _=>aL fun _=>aL fun _=>aL fun _=>bR rfl,ft X G a47 fun _ _ _ _ _ _=>aL fun _=>aL fun _=>aL fun _=>aL fun _=>aL fun _=>bR rfl,ft X G a48 fun _ _ _ _ _ _=>aL fun _=>aL fun _=>aL fun _=>bR rfl,ft X G a49 fun _ _ _ _ _ _=>aL fun _=>aL fun _=>bR rfl,ft X G a50 fun _ _ _ _ _ _=>aL fun _=>aL fun _=>bR rfl,ft X G a51 fun _ _ _ _ _ _=>aL fun _=>aL fun _=>bR rfl,ft X G a52 fun _ _ _ _ _ _=>aL fun _=>bR rfl,ft X G a53 fun _ _ _ _ _ _=>aL fun _=>aL fun _=>bR rfl,ft X G a54 fun _ _ _ _ _ _=>aL fun _=>aL fun _=>aL fun _=>bR rfl,ft X G a55 fun _ _ _ _ _ _=>aL fun _=>aL fun _=>bR rfl,ft X G a56 fun _ _ _ _ _ _=>aL fun _=>aL fun _=>bR rfl,ft X G a57 fun _ _ _ _ _ _=>aL fun _=>bR rfl,Qe5 X G q_Seen,⟨pg_Seen,hd_Seen,po_Seen,sa_Seen⟩,n_Seen_strand,n_Seen_way,n_Seen_place,Qe5 X G q_Way,⟨pg_Way,hd_Way,po_Way,sa_Way⟩,n_Way_size,n_Way_root_size,n_Way_leads,n_Way_onward,n_Way_backward,⟨mk_Way,qi_Way,fi_Way,kc_Way⟩,HQ,Oj,⟨mk_Seen,qi_Seen,fi_Seen,kc_Seen⟩,Co,KS,Qa3 X G z_all,Qa3 X G z_bool,Qa3 X G z_enumerate,Qa3 X G z_int,Qa3 X G z_isinstance,Qa3 X G z_len,Qa3 X G z_list,Qa3 X G z_max,Qa3 X G z_min,Qa3 X G z_range,Qa3 X G z_reversed,Qa3 X G z_set,Qa3 X G z_sorted,Qa3 X G z_str,Qa3 X G z_sum,Qa3 X G z_tuple⟩
 exact ⟨_,fun s v=> .of_eq rfl,fun base _ _=>N9 T⟩
theorem walk {l:PySem.W.OpenLaw} {q:Program} {loose:List Str} {XP:(Str->Option Value)->Heap->Prop} {YP:World->Heap->Prop} {d:DefRec} {K:Params->PySem.W.Frag} (hn:l.most=some 63) (Rt:d.params.defaults=[])
  (hY: ∀(w:World) (h:Heap),YP w h->(K w.params).In h)
  (F: ∀(w:World) (mg:Str->Option Value) (fa:Addr) (h:Heap),(K w.params).In h->h.Ns mainGlobals mg->mg d.name=some (.ref fa)->
   ∃fd:FuncData,(∀(s:Shared) (u:Value),BindsTo s fd ⟨[u],[]⟩ [("_law_script",u)])/\ ∀base:Heap,(K w.params).In base->base.Ns mainGlobals mg->bI l.prog w (K w.params) mg base dW 12 fa fd ["_law_script"] (mU (K w.params))):
  PySem.W.WalkO q loose XP YP l.row.toRowW d [] (fun f vs=>PySem.call f vs):=
 L2.Ba (n:=63) (k:=12) (x:="_law_script") (CX:=fun _=>dW) (sp:=fun w=>mU (K w.params)) hn (by decide) Rt ⟨rfl,by decide,by decide,rfl⟩ hY F (fun _ _ a ns hl _ hS=>⟨a,ns,rfl,hS,hl,fun _=>rfl⟩) fun _ _ _ _ _ z=>z
end My
namespace PySem.W.Fast
def tw10079898450672825257:=Nat
def tw10196412790307479426:=Nat
def tw10250202411603144828:=Nat
def tw10401922485596612417:=Nat
def tw10613631482487786226:=Nat
def tw10697853231877053277:=Nat
def tw10848806941349286472:=Nat
def tw10953028772138521423:=Nat
def tw10954156271240965295:=Nat
def tw10956559138624896131:=Nat
def tw11033660170593302019:=Nat
def tw11111581991452462117:=Nat
def tw11155216503701913660:=Nat
def tw11237593828517402354:=Nat
def tw11319790543040241582:=Nat
def tw11363613246456682610:=Nat
def tw11385840959332319857:=Nat
def tw11435467567869401569:=Nat
def tw11478949067711317722:=Nat
def tw11641186355493484467:=Nat
def tw11906334351731193096:=Nat
def tw1192273794125038500:=Nat
def tw12166467534330530857:=Nat
def tw12173559365217446260:=Nat
def tw12377640092961624130:=Nat
def tw12390286082950452744:=Nat
def tw12455636643162932676:=Nat
def tw12502656541368616274:=Nat
def tw1253484477145194382:=Nat
def tw1260612497325774280:=Nat
def tw12678721252483471953:=Nat
def tw12705879555413349461:=Nat
def tw12763603487518050239:=Nat
def tw12829625666071620051:=Nat
def tw12878134667716005690:=Nat
def tw12898815663299737756:=Nat
def tw13055996484308097328:=Nat
def tw13124650327737895023:=Nat
def tw13137506917211103753:=Nat
def tw13162086136655197170:=Nat
def tw13255475186449068755:=Nat
def tw13323285152828137072:=Nat
def tw1333650990838281652:=Nat
def tw13389056445250636043:=Nat
def tw13561591803997919016:=Nat
def tw13711682722628403100:=Nat
def tw13860377568950809770:=Nat
def tw14064483354578084673:=Nat
def tw14093146209923770059:=Nat
def tw1421410724026304411:=Nat
def tw14278648331922100617:=Nat
def tw1444049928310819307:=Nat
def tw1477615858602543043:=Nat
def tw148288928361057409:=Nat
def tw14832293289252834651:=Nat
def tw14893073991308398507:=Nat
def tw1501447402897585653:=Nat
def tw15130384571398404419:=Nat
def tw15142033521408265652:=Nat
def tw1519104698284001194:=Nat
def tw15264836884248476913:=Nat
def tw15265135327674939751:=Nat
def tw15295141790497893347:=Nat
def tw15319857055379103116:=Nat
def tw15327065618059029466:=Nat
def tw15369583742814047790:=Nat
def tw15384353063658872863:=Nat
def tw15443765681141896002:=Nat
def tw15584918883003885286:=Nat
def tw15791742879384861176:=Nat
def tw15824637564392151793:=Nat
def tw15829186922291527322:=Nat
def tw15866539827914613594:=Nat
def tw16054654962906379038:=Nat
def tw1620529267272404750:=Nat
def tw16410601356480300367:=Nat
def tw16545882643138247335:=Nat
def tw16637163601305754389:=Nat
def tw16758962739139951143:=Nat
def tw16794487907802269590:=Nat
def tw16819302349409248163:=Nat
def tw17010122489171960170:=Nat
def tw17063826681862722430:=Nat
def tw17116745450448114900:=Nat
def tw17610594074578145078:=Nat
def tw17694894205880640369:=Nat
def tw17755886547147708018:=Nat
def tw17851589415777519795:=Nat
def tw1785612894835799345:=Nat
def tw17941322826161855476:=Nat
def tw17990048190106078777:=Nat
def tw18042349973922889178:=Nat
def tw1810393580985299559:=Nat
def tw1815590225621655413:=Nat
def tw18425140330737613152:=Nat
def tw1958736028248952016:=Nat
def tw1983062485716379946:=Nat
def tw2039005121088879040:=Nat
def tw2047633475772518951:=Nat
def tw2129423749314867837:=Nat
def tw2202751629806160074:=Nat
def tw2262970273344182874:=Nat
def tw229668861822698569:=Nat
def tw2410143442125962346:=Nat
def tw2482929495414621886:=Nat
def tw2561369174975600773:=Nat
def tw262774941318483904:=Nat
def tw2725946255477016773:=Nat
def tw2888558715724733770:=Nat
def tw2999113807948767888:=Nat
def tw3284322587265468014:=Nat
def tw3317095165908414336:=Nat
def tw3343017677127888421:=Nat
def tw3369284458661672164:=Nat
def tw345236870181943799:=Nat
def tw3619407039166158692:=Nat
def tw3788048060634912762:=Nat
def tw3861488962329109013:=Nat
def tw4154578253602778608:=Nat
def tw4221003654531189328:=Nat
def tw4309835177800087387:=Nat
def tw4656025327669187692:=Nat
def tw4819256062803387420:=Nat
def tw4852440475618974630:=Nat
def tw4875438901716011949:=Nat
def tw4920343808920861619:=Nat
def tw5009785571169509543:=Nat
def tw5221564953744765297:=Nat
def tw5348806809796591916:=Nat
def tw5352449607231265790:=Nat
def tw5358729565038333448:=Nat
def tw5412299797434339171:=Nat
def tw5453043644426680399:=Nat
def tw5518237883739438208:=Nat
def tw5583394606053128080:=Nat
def tw558885434938615876:=Nat
def tw5741446858414394384:=Nat
def tw575070328744865580:=Nat
def tw5865493210389582452:=Nat
def tw5876296608839446264:=Nat
def tw5952252407245357713:=Nat
def tw6008978347137609536:=Nat
def tw606650791720054734:=Nat
def tw6082138878913416815:=Nat
def tw6116254560462314939:=Nat
def tw6195397553341754286:=Nat
def tw6307072970239727253:=Nat
def tw6307320324083115725:=Nat
def tw6343226521036250581:=Nat
def tw6386069525911858645:=Nat
def tw6423348973812549443:=Nat
def tw6454395796275097940:=Nat
def tw6663398153310181219:=Nat
def tw6796432834427959247:=Nat
def tw6920983475857028051:=Nat
def tw6933157030515590597:=Nat
def tw6988955602000372947:=Nat
def tw712152776220606382:=Nat
def tw717370996032895235:=Nat
def tw7235164113607957406:=Nat
def tw7263544118132659430:=Nat
def tw7315639786421950081:=Nat
def tw7319181657172789220:=Nat
def tw7319731533042502058:=Nat
def tw7368363588668506321:=Nat
def tw7374193743762127109:=Nat
def tw7383934484763121370:=Nat
def tw7565221419664280913:=Nat
def tw7597590538916492786:=Nat
def tw762019684747466617:=Nat
def tw7752114750218152269:=Nat
def tw792231148310919958:=Nat
def tw799193327681920044:=Nat
def tw8144239750830935630:=Nat
def tw8174418796137911355:=Nat
def tw8341978867882538384:=Nat
def tw8360559625963814594:=Nat
def tw8382327646010939282:=Nat
def tw8417796176520448278:=Nat
def tw8539975210343408763:=Nat
def tw8555156971331424904:=Nat
def tw8615418987928994998:=Nat
def tw8706450913415876809:=Nat
def tw8781274171110933318:=Nat
def tw8856195712644355088:=Nat
def tw8915173974314339814:=Nat
def tw8956324822030949990:=Nat
def tw9000261648105796325:=Nat
def tw911605021914998063:=Nat
def tw9191599679477550545:=Nat
def tw9378183639049164197:=Nat
def tw9395016472889399046:=Nat
def tw9400493580865939591:=Nat
def tw956406401319980247:=Nat
def tw9586803489930512911:=Nat
def tw9744295168309387308:=Nat
def tw974627647054931919:=Nat
def tw9760326358212549475:=Nat
def tw9856133330804918242:=Nat
def tw9923256828636168492:=Nat
end PySem.W.Fast
open PySem PySem.W PyProof.Rows
set_option maxRecDepth 100000 in
set_option maxHeartbeats 0 in
theorem PySem.Challenge.cw_mustmeet_k41_apart_or_not_holds : PySem.Challenge.rw_mustmeet_k41_apart_or_not.Holds := by
 w_on;o_law;k_head;(case hw=>w_witness2)
 k_fill
 refine My.walk (l:=PySem.Challenge.rw_mustmeet_k41_apart_or_not) rfl rfl (fun w h Y=>PySem.W.kIn_of Y) ?F
 case F=>
  intro w mg fa h KX G hmg
  refine' My.all_mk KX G hmg (My.dn ?a0 ?l0 ?c0 ?k0) (My.dn ?a1 ?l1 ?c1 ?k1) (My.dn ?a2 ?l2 ?c2 ?k2) (My.dn ?a3 ?l3 ?c3 ?k3) (My.dn ?a4 ?l4 ?c4 ?k4) (My.dn ?a5 ?l5 ?c5 ?k5) (My.dn ?a6 ?l6 ?c6 ?k6) (My.dn ?a7 ?l7 ?c7 ?k7) (My.dn ?a8 ?l8 ?c8 ?k8) (My.dn ?a9 ?l9 ?c9 ?k9) (My.dn ?a10 ?l10 ?c10 ?k10) (My.dn ?a11 ?l11 ?c11 ?k11) (My.dn ?a12 ?l12 ?c12 ?k12) (My.dn ?a13 ?l13 ?c13 ?k13) (My.dn ?a14 ?l14 ?c14 ?k14) (My.dn ?a15 ?l15 ?c15 ?k15) (My.dn ?a16 ?l16 ?c16 ?k16) (My.dn ?a17 ?l17 ?c17 ?k17) (My.dn ?a18 ?l18 ?c18 ?k18) (My.dn ?a19 ?l19 ?c19 ?k19) (My.dn ?a20 ?l20 ?c20 ?k20) (My.dn ?a21 ?l21 ?c21 ?k21) (My.dn ?a22 ?l22 ?c22 ?k22) (My.dn ?a23 ?l23 ?c23 ?k23) (My.dn ?a24 ?l24 ?c24 ?k24) (My.dn ?a25 ?l25 ?c25 ?k25) (My.dn ?a26 ?l26 ?c26 ?k26) (My.dn ?a27 ?l27 ?c27 ?k27) (My.dn ?a28 ?l28 ?c28 ?k28) (My.dn ?a29 ?l29 ?c29 ?k29) (My.dn ?a30 ?l30 ?c30 ?k30) (My.dn ?a31 ?l31 ?c31 ?k31) (My.dn ?a32 ?l32 ?c32 ?k32) (My.dn ?a33 ?l33 ?c33 ?k33) (My.dn ?a34 ?l34 ?c34 ?k34) (My.dn ?a35 ?l35 ?c35 ?k35) (My.dn ?a36 ?l36 ?c36 ?k36) (My.dn ?a37 ?l37 ?c37 ?k37) (My.dn ?a38 ?l38 ?c38 ?k38) (My.dn ?a39 ?l39 ?c39 ?k39) (My.dn ?a40 ?l40 ?c40 ?k40) (My.dn ?a41 ?l41 ?c41 ?k41) (My.dn ?a42 ?l42 ?c42 ?k42) (My.dn ?a43 ?l43 ?c43 ?k43) (My.dn ?a44 ?l44 ?c44 ?k44) (My.dn ?a45 ?l45 ?c45 ?k45) (My.dn ?a46 ?l46 ?c46 ?k46) (My.dn ?a47 ?l47 ?c47 ?k47) (My.dn ?a48 ?l48 ?c48 ?k48) (My.dn ?a49 ?l49 ?c49 ?k49) (My.dn ?a50 ?l50 ?c50 ?k50) (My.dn ?a51 ?l51 ?c51 ?k51) (My.dn ?a52 ?l52 ?c52 ?k52) (My.dn ?a53 ?l53 ?c53 ?k53) (My.dn ?a54 ?l54 ?c54 ?k54) (My.dn ?a55 ?l55 ?c55 ?k55) (My.dn ?a56 ?l56 ?c56 ?k56) (My.dn ?a57 ?l57 ?c57 ?k57) ?q_Seen ?pg_Seen ?hd_Seen ?po_Seen ?sa_Seen ?n_Seen_strand ?n_Seen_way ?n_Seen_place ?q_Way ?pg_Way ?hd_Way ?po_Way ?sa_Way ?n_Way_size ?n_Way_root_size ?n_Way_leads ?n_Way_onward ?n_Way_backward ?mk_Way ?qi_Way ?fi_Way ?kc_Way ?li_Way ?ci_Way ?ki_Way ?mk_Seen ?qi_Seen ?fi_Seen ?kc_Seen ?li_Seen ?ci_Seen ?ki_Seen ?z_all ?z_bool ?z_enumerate ?z_int ?z_isinstance ?z_len ?z_list ?z_max ?z_min ?z_range ?z_reversed ?z_set ?z_sorted ?z_str ?z_sum ?z_tuple
  case a0|l0|c0|k0|a1|l1|c1|k1|a2|l2|c2|k2|a3|l3|c3|k3|a4|l4|c4|k4|a5|l5|c5|k5|a6|l6|c6|k6|a7|l7|c7|k7|a8|l8|c8|k8|a9|l9|c9|k9|a10|l10|c10|k10|a11|l11|c11|k11|a12|l12|c12|k12|a13|l13|c13|k13|a14|l14|c14|k14|a15|l15|c15|k15|a16|l16|c16|k16|a17|l17|c17|k17|a18|l18|c18|k18|a19|l19|c19|k19|a20|l20|c20|k20|a21|l21|c21|k21|a22|l22|c22|k22|a23|l23|c23|k23|a24|l24|c24|k24|a25|l25|c25|k25|a26|l26|c26|k26|a27|l27|c27|k27|a28|l28|c28|k28|a29|l29|c29|k29|a30|l30|c30|k30|a31|l31|c31|k31|a32|l32|c32|k32|a33|l33|c33|k33|a34|l34|c34|k34|a35|l35|c35|k35|a36|l36|c36|k36|a37|l37|c37|k37|a38|l38|c38|k38|a39|l39|c39|k39|a40|l40|c40|k40|a41|l41|c41|k41|a42|l42|c42|k42|a43|l43|c43|k43|a44|l44|c44|k44|a45|l45|c45|k45|a46|l46|c46|k46|a47|l47|c47|k47|a48|l48|c48|k48|a49|l49|c49|k49|a50|l50|c50|k50|a51|l51|c51|k51|a52|l52|c52|k52|a53|l53|c53|k53|a54|l54|c54|k54|a55|l55|c55|k55|a56|l56|c56|k56|a57|l57|c57|k57|q_Seen|pg_Seen|hd_Seen|po_Seen|sa_Seen|n_Seen_strand|n_Seen_way|n_Seen_place|q_Way|pg_Way|hd_Way|po_Way|sa_Way|n_Way_size|n_Way_root_size|n_Way_leads|n_Way_onward|n_Way_backward|mk_Way|qi_Way|fi_Way|kc_Way|li_Way|ci_Way|ki_Way|mk_Seen|qi_Seen|fi_Seen|kc_Seen|li_Seen|ci_Seen|ki_Seen|z_all|z_bool|z_enumerate|z_int|z_isinstance|z_len|z_list|z_max|z_min|z_range|z_reversed|z_set|z_sorted|z_str|z_sum|z_tuple=>k_is
