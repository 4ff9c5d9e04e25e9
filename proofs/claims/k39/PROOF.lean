import PyProof.Rows.All
import Wide.All
import OpenK.AllK
import Wide.FinOn
import Lean
import PyProof.EqAt
import PyProof.EqKinds
import PyProof.TupleCall
import PySem.Challenge.RW_mustmeet_k39_what_is_lone
set_option Elab.async false
set_option linter.all false
set_option maxRecDepth 100000
open List renaming getElem?_eq_getElem→J0,getElem?_eq_some_iff→J1,length_append→L5,mem_cons_of_mem→Uq,length_map→Us,length_pos_iff→Ut,mem_singleton→Wg,idxOf_lt_length_of_mem→Wh,mem_cons_self→Wi,mem_cons→Wj,size_toArray→Wl,map_append→Zn,length_take→Zo,getD_eq_getElem?_getD→Zp,mem_of_getElem?→Zs,getElem?_map→Zv,mem_append→Zx,not_mem_nil→Zy,length_drop→Zz,map_cons→ZC,mem_append_right→ZD,length_reverse→ZF,take_of_length_le→ZG,mem_map→ZJ,filter_cons_of_neg→ZK,take_append_drop→ZL,length_cons→ZM,nodup_cons→ZN,getElem_mem→ZR,flatMap_cons→ZU,filter_cons_of_pos→ZV,getElem?_append_left→ZW,mem_flatMap→ZX,lookup_cons→ZY,mem_filter→ZZ,drop_eq_getElem_cons→Z1,flatMap_append→Z6,append_nil→Z7,map_map→Z_,nodup_append→Qaa,append_assoc→Qab,mem_range→Qad,mem_append_left→Qae,getElem?_append_right→Qaf,range_succ→Qah,pairwise_map→Qak,getElem?_eq_none→Qam,getElem_idxOf→Qao,take_length→Qaq,length_eq_zero_iff→Qar,getElem?_drop→Qau,drop_of_length_le→Qaz,any_cons→Qa1,pairwise_cons→Qa3,perm_append_comm→Qa4,find?_cons→Qa5,pairwise_append→Qa8,mem_of_mem_take→Qa9,sum_cons→Qba,all_eq_true→Qbc,filter_append→Qbe,getElem?_reverse→Qbj,flatten_cons→Qbk,dropLast_concat→Qbl,map_reverse→Qbp,pairwise_iff_getElem→Qbr,getLast?_eq_getElem?→Qbs,getElem_of_mem→Qbv,getElem?_take→Qbz,eraseIdx_cons_succ→Qb1,lt_irrefl→Qb3,flatMap_singleton→Qb4,drop_eq_nil_of_le→Qb5,eq_nil_of_length_eq_zero→Qb8,forIn_cons→Qcb,foldl_cons→Qcc,map_congr_left→Qcd,nodup_nil→Qcg,take_add_one→Qch,length_range→Qci,idxOf_append→Qcj,ext_getElem?→Qck,mem_reverse→Qcp,getElem_map→Qcq,sum_replicate_nat→Qcy,head?_eq_getElem?→Qcz,length_filter_le→Qc4,cons_lt_cons_iff→Qc5,mem_of_mem_drop→Qc8,replicate_succ→Qda,filterMap_cons→Qdb,set_comm→Qdf,take_sublist→Qdn,reverse_perm→Qdo,filter_congr→Qdp,any_eq_false→Qdq,perm_middle→Qdv,flatMap_nil→Qdw,cons_append→Qdx,map_id→Qdz,of_mem_zip→Qd1
open PySem.Heap renaming get?_push_of_some→QC,get?_push_size→Zq,lt_size→Zr,get?_update_other→ZP,get?_update_self→Z9,size_push→Qbw
open Nat renaming le_refl→Ur,zero_le→YU,ne_of_lt→Zu,lt_of_lt_of_le→ZE,le_trans→ZI,lt_of_le_of_lt→ZO,lt_irrefl→ZS,le_of_lt→ZT,min_eq_left→Qag,min_eq_right→Qaj,succ_le_succ→Qap,le_succ→Qa0,mod_eq_of_lt→Qa2,mul_comm→Qa6,lt_succ_of_lt→Qa7,lt_succ_self→Qbb,lt_or_gt_of_ne→Qbd,max_eq_left→Qbg,max_eq_right→Qbn,lt_trans→Qbo,mod_lt→Qby,succ_mul→Qb2,div_add_mod→Qca,lt_asymm→Qce,succ_ne_self→Qco,zero_add→Qcw,ne_of_gt→Qcx,not_lt_zero→Qc1,mod_add_div→Qc2,div_lt_iff_lt_mul→Qc3,pos_of_ne_zero→Qdi,mod_eq_sub_mod→Qdj,add_zero→Qdl,add_comm→Qdm,le_of_not_lt→Qdu,le_antisymm→Qd0
open Option.some renaming inj→YS
open Int renaming toNat_natCast→YT,emod_eq_of_lt→ZH,natCast_add→Z0,emod_lt_of_pos→kb,add_zero→Qac,emod_nonneg→Qai,zero_add→Qaw,add_emod_right→Qbf,add_mul_emod_self_left→Qbm,sub_zero→Qbq,natCast_ediv→Qb6,emod_emod_of_dvd→Qb9,natCast_emod→Qcr,emod_add_mul_ediv→Qc6,natCast_nonneg→Qdk,sub_emod→Qds,emod_add_emod→Qdt,natCast_mul→Qd2
open PySem renaming boot_len→YV,mem_of_lookup→Qbt
open PySem.F renaming plainAttrs_str→Zt,plainAttrs_list→ZA,type_list_append→Z2,slot_list_append→Z3,slot_str_join→Z5,type_str_join→Qal,plain_max_loop→Qas,called_set→Qat,type_str_index→Qax,slot_str_index→Qay,type_list_pop→Qbh,slot_list_pop→Qbi,plain_list_iadd→Qb0,type_str_islower→Qcl,slot_str_islower→Qcm,type_str_lower→Qct,slot_str_lower→Qcu,entry_max_loop→Qcv
open Bool renaming false_ne_true→Zw,and_eq_true→Z8,false_eq_true→Qav,eq_iff_iff→Qbx,or_false→Qb7,not_true→Qdg,false_or→Qdh,decide_and→Qd3
open PySem.W renaming mg_none_of→ZQ,kia_one→Qan,callWith_K→Qcf,mg_of→Qde
open PyProof.Rows renaming callWith_type1→Z4
open PyProof.Rows.F renaming plain_set_update_loop→Qbu
open List.Pairwise renaming imp_of_mem→Qcn,imp→Qdr
open Array renaming toList_inj→Qcs,getElem?_toList→Qc7,length_toList→Qdd
open Option renaming map_some→Qc0
open List.Perm renaming refl→Qc9
open PySem.Calls renaming callWith_builtin→Qdc
open PySem.Heap.SameBut renaming update→Qdy
namespace L2
open PySem PySem.Spec PyProof.Rows
abbrev Key:=Sum Int Str
noncomputable def qL:Key->Value->Bool
 | .inl k,v=>Value.isInt k v
 | .inr x,v=>Value.isStrOf x v
noncomputable def RM (w:World):Key->Int
 | .inl k=>hashInt k
 | .inr x=>hashStr w x
theorem cn: ∀{k:Key} {v:Value},qL k v=true->(∃i t,k=Sum.inl i/\v=Value.int i t)\/(∃x t,k=Sum.inr x/\v=Value.str x t)
 | .inl i,v,h=>by
  obtain ⟨t,e⟩:=Value.isInt_shape (k:=i) (v:=v) h
  exact .inl ⟨i,t,rfl,e⟩
 | .inr x,v,h=>by
  obtain ⟨t,e⟩:=Value.isStrOf_shape (x:=x) (v:=v) h
  exact .inr ⟨x,t,rfl,e⟩
theorem AK (i:Int) (t:Tok):qL (.inl i) (.int i t)=true:=by simp[qL,Value.isInt]
theorem AL (x:Str) (t:Tok):qL (.inr x) (.str x t)=true:=by simp[qL,Value.isStrOf]
theorem Ji (a b:Int):decide ((Sum.inl a:Key)=Sum.inl b)=(a==b):=by
 by_cases e:a=b
 ·subst e;simp
 ·have h: ¬(Sum.inl a:Key)=Sum.inl b:=fun q=>e (Sum.inl.inj q)
  rw[decide_eq_false h]
  exact (beq_eq_false_iff_ne.mpr e).symm
theorem Jj (a b:Str):decide ((Sum.inr a:Key)=Sum.inr b)=decide (a=b):=by
 by_cases e:a=b
 ·subst e;simp
 ·have h: ¬(Sum.inr a:Key)=Sum.inr b:=fun q=>e (Sum.inr.inj q)
  rw[decide_eq_false h,decide_eq_false e]
theorem Jk (a:Int) (b:Str):decide ((Sum.inl a:Key)=Sum.inr b)=false:=decide_eq_false (fun q=>nomatch q)
theorem Jl (a:Str) (b:Int):decide ((Sum.inr a:Key)=Sum.inl b)=false:=decide_eq_false (fun q=>nomatch q)
noncomputable def cI (prog:Program) (w:World):PySem.KeyKind prog w Key where
 is:=qL
 hash:=RM w
 inj:=fun v a b ha hb=>by
  rcases cn ha with ⟨i,t,rfl,rfl⟩ | ⟨x,t,rfl,rfl⟩
  ·rcases cn hb with ⟨j,u,rfl,e⟩ | ⟨y,u,rfl,e⟩
   ·injection e with e1 _;rw[e1]
   ·exact nomatch e
  ·rcases cn hb with ⟨j,u,rfl,e⟩ | ⟨y,u,rfl,e⟩
   ·exact nomatch e
   ·injection e with e1 _;rw[e1]
 byValue:=fun k v h=>by
  rcases cn h with ⟨i,t,rfl,rfl⟩ | ⟨x,t,rfl,rfl⟩<;>rfl
 pyHash:=fun hv h=>by
  rcases cn hv with ⟨i,t,rfl,rfl⟩ | ⟨x,t,rfl,rfl⟩
  ·exact wpAny_pyHash_int h
  ·exact wpAny_pyHash_str h
 eqBool:=fun hu hv h=>by
  rcases cn hu with ⟨i,t,rfl,rfl⟩ | ⟨x,t,rfl,rfl⟩
  ·rcases cn hv with ⟨j,u,rfl,rfl⟩ | ⟨y,u,rfl,rfl⟩
   ·rw[Ji]at h;exact wpAny_eqBool_int h
   ·rw[Jk]at h;exact SeqAt.EqAt.int_str i t y u _ _ _ _ h
  ·rcases cn hv with ⟨j,u,rfl,rfl⟩ | ⟨y,u,rfl,rfl⟩
   ·rw[Jl]at h;exact SeqAt.EqAt.str_int x t j u _ _ _ _ h
   ·rw[Jj]at h;exact wpAny_eqBool_str h
 «strs» :=fun k x t v h=>by
  rcases cn h with ⟨i,u,rfl,e⟩ | ⟨y,u,rfl,e⟩
  ·exact nomatch e
  ·injection e with e1 _
   subst e1
   cases v<;>rfl
theorem uV (prog:Program) (w:World) (i:Int) (t:Tok):(cI prog w).is (.inl i) (.int i t)=true:=AK i t
theorem uW (prog:Program) (w:World) (x:Str) (t:Tok):(cI prog w).is (.inr x) (.str x t)=true:=AL x t
inductive V where
 | fH | bl (b:Bool) | int (i:Int) | str (x:Str) | zk (b:Array UInt8) | Jm (b:UInt64) | ref (a:Addr) | ty (n:String)
 deriving DecidableEq
def RelV:V->Value->Prop
 | .fH,u=>u=Value.none
 | .bl b,u=>u=Value.bool b
 | .int i,u=> ∃t,u=Value.int i t
 | .str x,u=> ∃t,u=Value.str x t
 | .zk b,u=> ∃t,u=Value.bytes b t
 | .Jm b,u=> ∃t,u=Value.float b t
 | .ref a,u=>u=Value.ref a
 | .ty n,u=>u=Value.type n
abbrev Vals:List V->List Value->Prop:=Paired RelV
theorem Vals.length {xs:List V} {us:List Value} (r:Vals xs us):xs.length=us.length:=Paired.length r
theorem Vals.get: ∀{xs:List V} {us:List Value} {i:Nat} {x:V},Vals xs us->xs[i]? =some x-> ∃u,us[i]? =some u/\RelV x u
 | _,_,_,_, .nil,e=>by simp at e
 | _,_,0,_, .cons r _,e=>by simp at e;subst e;exact ⟨_,rfl,r⟩
 | _,_,i+1,x, .cons _ t,e=>by
  obtain ⟨u,h1,h2⟩:=Vals.get (i:=i) (x:=x) t (by simpa using e)
  exact ⟨u,by simpa using h1,h2⟩
theorem Vals.set {x:V} {u:Value} (r:RelV x u): ∀{xs:List V} {us:List Value} (i:Nat),Vals xs us->Vals (xs.set i x) (us.set i u)
 | _,_,_, .nil=> .nil
 | _,_,0, .cons _ t=> .cons r t
 | _,_,i+1, .cons q t=> .cons q (Vals.set r i t)
theorem Vals.append: ∀{xs ys:List V} {us ws:List Value},Vals xs us->Vals ys ws->Vals (xs++ys) (us++ws)
 | _,_,_,_, .nil,s=>s
 | _,_,_,_, .cons r t,s=> .cons r (Vals.append t s)
theorem Vals.take: ∀{xs:List V} {us:List Value} (n:Nat),Vals xs us->Vals (xs.take n) (us.take n)
 | _,_,0,_=> .nil
 | _,_,_+1, .nil=> .nil
 | _,_,n+1, .cons r t=> .cons r (Vals.take n t)
theorem Vals.drop: ∀{xs:List V} {us:List Value} (n:Nat),Vals xs us->Vals (xs.drop n) (us.drop n)
 | _,_,0,r=>r
 | _,_,_+1, .nil=> .nil
 | _,_,n+1, .cons _ t=>Vals.drop n t
def lR:Option V->Option Value->Prop
 | some v,some u=>RelV v u
 | none,none=>True
 | _,_=>False
def KV {κ:Type}:List (κ×V)->List (κ×Value)->Prop:=Paired fun (p:κ×V) (q:κ×Value)=>p.1=q.1/\RelV p.2 q.2
noncomputable def kV:Key->V
 | .inl i=> .int i
 | .inr x=> .str x
inductive HO where
  | lst (xs:List V)
  | tup (xs:List V)
  | dK (aT:List (Key×V)) | dT (aT:List (List Key×V))
  | set (S:Int->Bool) (n:Nat)
  | ins (C dx:Addr) (fs:List (Str×V))
  | own (x:Addr)
  | xd (fs:List (Str×V))
  | met (f x:Addr)
  | RN (lo hi:Int)
  | zm (o:Obj) (u:HO)
  | Jn (ps:Array Value)
  | ext (φ:Heap->Prop)
abbrev Hp:=Addr->Option HO
noncomputable def upd (H:Hp) (a:Addr) (o:HO):Hp:=fun b=>if b=a then some o else H b
theorem ah {H:Hp} {a:Addr} {o:HO}:upd H a o a=some o:=by unfold upd;rw[if_pos rfl]
theorem aD {H:Hp} {a b:Addr} {o:HO} (h:b≠a):upd H a o b=H b:=by unfold upd;rw[if_neg h]
theorem NM {H:Hp} {a b:Addr} {o u:HO} (h:H a=some o) (h':H b=some u) (d:o≠u):a≠b:=by
 intro e;subst e;rw[h]at h';exact d (YS h')
theorem aB {H:Hp} {a b:Addr} {o:HO} (h:H a=some o) (h':H b=none):a≠b:=by
 intro e;subst e;rw[h]at h';cases h'
section
variable (P:Program) (w:World)
def cb (H:Hp) (h:Heap) (a:Addr):HO->Prop
 | .lst xs=>xs.length<=sizeLine/\ ∃(aO:List Value) (n:Nat),Vals xs aO/\h.get? a=some { cls:= .type "list",data:= .seq aO.toArray n }
 | .tup xs=>xs.length<=sizeLine/\ ∃aO:List Value,Vals xs aO/\IsTup h a aO.toArray
 | .dK aT=>aT.length<=sizeLine/\(a==sysModules)=false/\ ∃vs,KV aT vs/\h.DictOf (cI P w) a vs
 | .dT aT=>aT.length<=sizeLine/\(a==sysModules)=false/\ ∃xs:List (List Key×Addr×Value),
   Paired (fun (p:List Key×V) (q:List Key×Addr×Value)=>p.1=q.1/\H q.2.1=some (.tup (p.1.map kV))/\RelV p.2 q.2.2) aT xs/\
   ∃o es ep,h.get? a=some o/\o.ExactDict/\o.data= .dict es ep/\es.toList=xs.map (entryOfKey (tupleKind (cI P w)))/\(xs.map (·.1)).Nodup
 | .set S n=>h.SetOf (intKind P w) a S n
 | .ins C dx fs=>H dx=some (.own a)/\fs.length<=1000/\dx≠a/\h.get? a=some (PySem.W.instObj C dx)/\
   ∃mA,h.Ns1 dx mA/\(∀f,lR (fs.lookup f) (mA f))/\PySem.Within mA (fs.map (·.1))
 | .own _=> ∃o,h.get? a=some o
 | .xd fs=> ∃mA,h.Ns1 a mA/\ ∀f,lR (fs.lookup f) (mA f)
 | .RN lo hi=> ∃t u v,h.get? a=some { cls:= .type "range",data:= .fields #[.int lo t, .int hi u, .int 1 v] }
 | .zm o u=>h.get? a=some o/\cb H h a u
 | .Jn ps=>h.get? a=some { cls:= .none,data:= .fields ps }
 | .met f x=>h.get? a=some (PySem.W.methodObj (.ref f) (.ref x))
 | .ext φ=>φ h/\(∃o,h.get? a=some o)/\ ∀h1 h2:Heap,φ h1->(∀o,h1.get? a=some o->h2.get? a=some o)->φ h2
def j4 (H:Hp) (h:Heap):Prop:= ∀a o,H a=some o->cb P w H h a o
end
section
variable {P:Program} {w:World} {H H':Hp} {h h':Heap} {a:Addr} {o:HO}
theorem cb.lt (x:cb P w H h a o):a<h.objs.size:=by
 cases o with
 | lst xs=>obtain ⟨_,_,_,_,e⟩:=x;exact Zr e
 | tup xs=>obtain ⟨_,_,_,p⟩:=x;exact p.lt
 | dK aT=>obtain ⟨_,_,_,_,o,_,_,e,_⟩:=x;exact Zr e
 | dT aT=>obtain ⟨_,_,_,_,o,_,_,e,_⟩:=x;exact Zr e
 | set S n=>obtain ⟨o,_,_,_,e,_⟩:=x;exact Zr e
 | ins C dx fs=>obtain ⟨_,_,_,e,_⟩:=x;exact Zr e
 | own y=>obtain ⟨_,e⟩:=x;exact Zr e
 | xd fs=>obtain ⟨_,⟨_,_,_,e,_⟩,_⟩:=x;exact Zr e
 | RN lo hi=>obtain ⟨_,_,_,e⟩:=x;exact Zr e
 | zm ob u=>obtain ⟨e,_⟩:=x;exact Zr e
 | Jn ps=>exact Zr (show h.get? a=some _ from x)
 | met f y=>exact Zr (show h.get? a=some _ from x)
 | ext φ=>obtain ⟨_,⟨_,e⟩,_⟩:=x;exact Zr e
theorem Paired.Jo {α β:Type} {F G:α->β->Prop}: ∀{l₁:List α} {l₂:List β},Paired F l₁ l₂->(∀a b,F a b->G a b)->Paired G l₁ l₂
 | _,_, .nil,_=> .nil
 | _,_, .cons r t,f=> .cons (f _ _ r) (Paired.Jo t f)
theorem cb.uX (x:cb P w H h a o) (k: ∀b u,(b=a\/H b=some (.own a))->h.get? b=some u->h'.get? b=some u)
  (ho: ∀b,H b=some (.own a)->H' b=some (.own a)) (ht: ∀b xs,H b=some (.tup xs)->H' b=some (.tup xs)):cb P w H' h' a o:=by
 induction o with
 | lst xs=>obtain ⟨z,aO,n,r,e⟩:=x;exact ⟨z,aO,n,r,k _ _ (.inl rfl) e⟩
 | tup xs=>obtain ⟨z,aO,r,ob,e,c⟩:=x;exact ⟨z,aO,r,ob,k _ _ (.inl rfl) e,c⟩
 | dK aT=>obtain ⟨z,y,vs,r,ob,es,ep,e,c⟩:=x;exact ⟨z,y,vs,r,ob,es,ep,k _ _ (.inl rfl) e,c⟩
 | dT aT=>
  obtain ⟨z,y,xs,r,ob,es,ep,e,c⟩:=x
  exact ⟨z,y,xs,Paired.Jo r fun p q z=>⟨z.1,ht _ _ z.2.1,z.2.2⟩,ob,es,ep,k _ _ (.inl rfl) e,c⟩
 | set S n=>obtain ⟨ob,es,ep,t,e,c⟩:=x;exact ⟨ob,es,ep,t,k _ _ (.inl rfl) e,c⟩
 | ins C dx fs=>
  obtain ⟨d,z,ne,e,mA,⟨od,es,ep,e2,c⟩,r⟩:=x
  exact ⟨ho _ d,z,ne,k _ _ (.inl rfl) e,mA,⟨od,es,ep,k _ _ (.inr d) e2,c⟩,r⟩
 | own y=>obtain ⟨ob,e⟩:=x;exact ⟨ob,k _ _ (.inl rfl) e⟩
 | xd fs=>obtain ⟨mA,⟨od,es,ep,e,c⟩,r⟩:=x;exact ⟨mA,⟨od,es,ep,k _ _ (.inl rfl) e,c⟩,r⟩
 | RN lo hi=>obtain ⟨t,u,v,e⟩:=x;exact ⟨t,u,v,k _ _ (.inl rfl) e⟩
 | zm ob u ih=>obtain ⟨e,q⟩:=x;exact ⟨k _ _ (.inl rfl) e,ih q⟩
 | Jn ps=>
  have e:h.get? a=some { cls:= .none,data:= .fields ps }:=x
  show h'.get? a=some { cls:= .none,data:= .fields ps }
  exact k a _ (.inl rfl) e
 | met f y=>
  have e:h.get? a=some (PySem.W.methodObj (.ref f) (.ref y)):=x
  show h'.get? a=some (PySem.W.methodObj (.ref f) (.ref y))
  exact k a _ (.inl rfl) e
 | ext φ=>obtain ⟨p,⟨o,e⟩,st⟩:=x;exact ⟨st _ _ p fun o q=>k _ _ (.inl rfl) q,⟨o,k _ _ (.inl rfl) e⟩,st⟩
theorem j4.lt (x:j4 P w H h) (e:H a=some o):a<h.objs.size:=(x a o e).lt
theorem j4.fresh (x:j4 P w H h) (e:h.objs.size<=a):H a=none:=by
 cases q:H a with
 | none=>rfl
 | some u=>exact absurd (ZE (x.lt q) e) (ZS _)
theorem j4.kept (x:j4 P w H h) (k: ∀b u,h.get? b=some u->h'.get? b=some u):j4 P w H h':=fun a o e=>
 (x a o e).uX (fun b u _ q=>k b u q) (fun _ q=>q) fun _ _ q=>q
theorem j4.laid (x:j4 P w H h) (k: ∀b u,h.get? b=some u->h'.get? b=some u) (hp:h.objs.size<=a) (new:cb P w (upd H a o) h' a o):j4 P w (upd H a o) h':=fun b u e=>by
 have hn:=x.fresh hp
 by_cases hb:b=a
 ·subst hb;rw[ah]at e;cases e;exact new
 ·rw[aD hb]at e
  exact (x b u e).uX (fun c v _ q=>k c v q) (fun c q=>by rw[aD (aB q hn)];exact q) fun c xs q=>by rw[aD (aB q hn)];exact q
end
def Rd (H:Hp) (a:Addr) (u:HO):Prop:=H a=some u\/ ∃o,H a=some (.zm o u)
theorem Rd.ok {P:Program} {w:World} {H:Hp} {h:Heap} {a:Addr} {u:HO} (r:Rd H a u) (x:j4 P w H h):cb P w H h a u:=by
 rcases r with r | ⟨o,r⟩
 ·exact x a u r
 ·obtain ⟨_,q⟩:=x a _ r
  exact q
def NN:Option HO->Prop
 | some (.lst _)=>True
 | some (.dK _)=>True
 | some (.dT _)=>True
 | some (.set _ _)=>True
 | some (.ins _ _ _)=>True
 | some (.ext _)=>True
 | _=>False
section
variable {P:Program} {w:World} {H:Hp} {h h':Heap} {x e:Addr} {o':HO}
theorem j4.write (ok:j4 P w H h) (mu:NN (H x)) (he:e=x\/H e=some (.own x)) (k: ∀b u,b≠e->h.get? b=some u->h'.get? b=some u) (LU: ∃u,h'.get? e=some u)
  (new:cb P w (upd H x o') h' x o'):j4 P w (upd H x o') h':=fun b u q=>by
 have NO: ∀c y,H c=some (.own y)->c≠x:=fun c y r z=>by subst z;rw[r]at mu;exact mu
 have RO: ∀c xs,H c=some (.tup xs)->c≠x:=fun c xs r z=>by subst z;rw[r]at mu;exact mu
 by_cases hb:b=x
 ·subst hb;rw[ah]at q;cases q;exact new
 ·rw[aD hb]at q
  by_cases Fp:b=e
  ·have q':H b=some (.own x):=by
    rcases he with z | z
    ·exact absurd (Fp.trans z) hb
    ·rw[Fp];exact z
   rw[q]at q';cases q'
   obtain ⟨v,hv⟩:=LU
   exact ⟨v,by rw[Fp];exact hv⟩
  ·refine (ok b u q).uX (fun c v hc r=>k c v ?_ r) (fun c r=>by rw[aD (NO c b r)];exact r) fun c xs r=>by rw[aD (RO c xs r)];exact r
   rcases hc with rfl | hc
   ·exact Fp
   ·rintro rfl
    rcases he with z | z
    ·exact NO c b hc z
    ·rw[hc]at z;cases z;exact hb rfl
end
structure Un (fs ex:List Addr) (H H':Hp) (h h':Heap):Prop where
 keep: ∀b o,h.get? b=some o->H b=none->b∉fs->b∉ex->h'.get? b=some o
 slot: ∀b o,h.get? b=some o->H b=none->b∈fs->b∉ex-> ∃sl,h'.get? b=some { o with slots:=sl }
 free: ∀b o,h.get? b=some o->H b=none->b∉ex->H' b=none
 there: ∀b o,h.get? b=some o->b∉ex-> ∃o',h'.get? b=some o'
 qj: ∀b xs,H b=some (.tup xs)->H' b=some (.tup xs)
 oj: ∀b o u,H b=some (.zm o u)->H' b=some (.zm o u)
 sr: ∀b ps,H b=some (.Jn ps)-> ∃more,H' b=some (.Jn (ps++more))
section
variable {fs VW ex YL:List Addr} {H H1 H2:Hp} {h h1 h2 h':Heap} {a x e:Addr} {o:HO}
theorem Un.any (u:Un fs ex H H1 h h1) {b:Addr} {ob:Obj} (q:h.get? b=some ob) (n:H b=none) (hx:b∉ex): ∃sl,h1.get? b=some { ob with slots:=sl }:=by
 by_cases hb:b∈fs
 ·exact u.slot b ob q n hb hx
 ·exact ⟨ob.slots,u.keep b ob q n hb hx⟩
theorem Un.kept (k: ∀b u,h.get? b=some u->h'.get? b=some u):Un fs ex H H h h':=
 ⟨fun b ob q _ _ _=>k b ob q,fun b ob q _ _ _=>⟨ob.slots,k b ob q⟩,fun _ _ _ n _=>n,fun b ob q _=>⟨ob,k b ob q⟩,fun _ _ q=>q,fun _ _ _ q=>q,fun _ ps q=>⟨#[],by rw[q];simp⟩⟩
theorem Un.refl:Un fs ex H H h h:=Un.kept fun _ _ q=>q
theorem Un.laid (k: ∀b u,h.get? b=some u->h'.get? b=some u) (hp:h.objs.size<=a) (hn:H a=none):Un fs ex H (upd H a o) h h' where
 keep:=fun b u q _ _ _=>k b u q
 slot:=fun b u q _ _ _=>⟨u.slots,k b u q⟩
 free:=fun b u q n _=>by rw[aD (Zu (ZE (Zr q) hp))];exact n
 there:=fun b u q _=>⟨u,k b u q⟩
 qj:=fun b xs q=>by rw[aD (aB q hn)];exact q
 oj:=fun b u xs q=>by rw[aD (aB q hn)];exact q
 sr:=fun b ps q=>⟨#[],by rw[aD (aB q hn),q];simp⟩
theorem Un.write (mu:NN (H x)) (he:e=x\/H e=some (.own x)) (k: ∀b u,b≠e->h.get? b=some u->h'.get? b=some u) (LU: ∃u,h'.get? e=some u):Un fs ex H (upd H x o) h h':=by
 have hx: ∀b,H b=none->b≠x:=fun b n z=>by subst z;rw[n]at mu;exact mu
 have hb: ∀b,H b=none->b≠e:=fun b n z=>by
  subst z
  rcases he with r | r
  ·exact hx b n r
  ·rw[n]at r;cases r
 have hm: ∀b u,H b=some u-> ¬NN (some u)->b≠x:=fun b u q nm z=>by subst z;rw[q]at mu;exact nm mu
 refine ⟨fun b u q n _ _=>k b u (hb b n) q,fun b u q n _ _=>⟨u.slots,k b u (hb b n) q⟩,fun b u q n _=>by rw[aD (hx b n)];exact n,fun b u q _=>?_,
  fun b xs q=>by rw[aD (hm b _ q fun z=>z)];exact q,fun b u xs q=>by rw[aD (hm b _ q fun z=>z)];exact q,fun b ps q=>⟨#[],by rw[aD (hm b _ q fun z=>z),q];simp⟩⟩
 by_cases Fp:b=e
 ·subst Fp;exact LU
 ·exact ⟨u,k b u Fp q⟩
end
noncomputable def Qp (h:Heap) (H:Hp):List Addr:=(List.range h.objs.size).filter fun a=>(H a).isSome
noncomputable def sx (h:Heap) (H:Hp):Heap:=PySem.W.hideAll h (Qp h H)
theorem AM (h:Heap) (H:Hp):(sx h H).objs.size=h.objs.size:=PySem.W.hideAll_size _ _
theorem Cs {h:Heap} {H:Hp} {b:Addr} {o:Obj} (e:h.get? b=some o) (n:H b=none):(sx h H).get? b=some o:=
 PySem.W.hideAll_get _ e fun hm=>by
  have q:(H b).isSome=true:=(ZZ.mp hm).2
  rw[n]at q;simp at q
theorem FR {h:Heap} {H:Hp} {b:Addr} {o:Obj} (e:(sx h H).get? b=some o):h.get? b=some o/\H b=none:=by
 have e':h.get? b=some o:=PySem.W.of_hideAll (Qp h H) e
 refine ⟨e',?_⟩
 cases q:H b with
 | none=>rfl
 | some x=>
  have hm:b∈Qp h H:=ZZ.mpr ⟨Qad.mpr (Zr e'),by simp[q]⟩
  have z:(sx h H).get? b=none:=PySem.W.hideAll_none (Qp h H) hm
  rw[z]at e;cases e
structure Mod (K:PySem.W.Frag) (mg:Str->Option Value) (base:Heap):Prop where
 LV:K.In base
 glob:base.Ns mainGlobals mg
 blt: ∃mb,base.Ns builtinsNs mb/\ ∀x:Str,x≠"__name__"->mb x=bootBuiltins x
 nolimit:base.NoLimit
structure Cx where
 prog:Program
 w:World
 K:PySem.W.Frag
 mg:Str->Option Value
 base:Heap
 A:Around
 N:List Str
 s₀:Shared
 H₀:Hp
 env:Env
 outer:List Env
 stack:List Env
 ex:List Addr
 fn:Str->Bool
 calm:Bool
 pn:List (Addr×Obj)
 xe:Value->Shared->Prop
noncomputable def zo (l:List Env):List Addr:=l.filterMap (·.frame)
noncomputable abbrev Cx.fs (X:Cx):List Addr:=zo X.outer
def NP (sc:Scope) (x:Str):Prop:=sc.names.lookup x=some .local\/sc.names.lookup x=some .cell\/sc.names.lookup x=some .free
def Loc (sc:Scope) (x:Str):Prop:=sc.names.lookup x=some .local\/sc.names.lookup x=some .cell
def Look (env:Env) (h:Heap) (m:Str->Option Value) (x:Str) (u:Value):Prop:=
 (env.kindOf x=some .local/\m x=some u)\/((env.kindOf x=some .cell\/env.kindOf x=some .free)/\ ∃c,env.cells.lookup x=some c/\h.IsCell c (some u))
structure Cx.Ok (X:Cx):Prop where
 mod:Mod X.K X.mg X.base
 kind:X.env.scope.kind= .function
 glob:X.env.globals=mainGlobals
 blt:X.env.builtins=builtinsNs
 above:X.s₀.heap.objs.size<=X.env.locals
 inj: ∀x y c,X.env.cells.lookup x=some c->X.env.cells.lookup y=some c->x=y
 has: ∀x,(X.env.kindOf x=some .cell\/X.env.kindOf x=some .free)-> ∃c,X.env.cells.lookup x=some c
 NQ: ∀x c,X.fn x=true->X.env.cells.lookup x=some c->X.s₀.heap.objs.size<=c
 hd:X.calm=true->X.A.handled=none
 frames:X.A.frames=some X.stack
 Qq:X.stack=X.outer\/(X.stack=X.env::X.outer/\X.env.frame=some X.env.locals)
 Ub: ∀b∈X.ex,b≠X.env.locals/\ ∀x c,X.env.cells.lookup x=some c->c≠b
 bs: ∀b o,X.base.get? b=some o->X.s₀.heap.get? b=some o/\X.H₀ b=none
 FT:X.base.objs.size<=X.s₀.heap.objs.size
 Ct: ∀b o,X.base.get? b=some o->b∉X.ex
 FU: ∀b∈X.ex,b∉X.fs
 m7:X.s₀.heap.FunFrames X.base X.outer
 Jp: ∀b∈X.fs,X.H₀ b=none
structure Inv (X:Cx) (pins:List (Addr×Obj)) (σ:List (Option V)) (H:Hp) (s:Shared):Prop where
 ok:X.Ok
 os:s.os=X.s₀.os
 bare:AllBare s.gens
 base:Un X.fs X.ex X.H₀ H X.s₀.heap s.heap
 loc: ∃m,s.heap.Ns X.env.locals m/\ ∀(i:Nat) (x:Str) (v:V),X.N[i]? =some x->σ[i]? =some (some v)->NP X.env.scope x-> ∃u,RelV v u/\Look X.env s.heap m x u
 cell: ∀x c,X.env.cells.lookup x=some c-> ∃v,s.heap.IsCell c v
 free:H X.env.locals=none
 iP: ∀x c,X.env.cells.lookup x=some c->H c=none
 pin: ∀p∈X.pn++pins,s.heap.get? p.1=some p.2/\H p.1=none/\p.1≠X.env.locals/\p.1∉X.fs/\ ∀v,p.2.data≠ .cell v
 b6:j4 X.prog X.w H s.heap
 len:σ.length=X.N.length
section
variable {X:Cx} {pins:List (Addr×Obj)} {σ:List (Option V)} {H H':Hp} {s:Shared} {h':Heap}
theorem Cx.Ok.RP (ok:X.Ok) {b:Addr} {o:Obj} (e:X.base.get? b=some o):b∉X.fs:=fun hb=>by
 have:=(ok.m7.mem hb).1
 rw[e]at this;cases this
theorem Inv.bs (I:Inv X pins σ H s): ∀b o,X.base.get? b=some o->s.heap.get? b=some o/\H b=none:=fun b o e=>
 ⟨I.base.keep b o (I.ok.bs b o e).1 (I.ok.bs b o e).2 (I.ok.RP e) (I.ok.Ct b o e),I.base.free b o (I.ok.bs b o e).1 (I.ok.bs b o e).2 (I.ok.Ct b o e)⟩
theorem Inv.bk (I:Inv X pins σ H s): ∀b o,X.base.get? b=some o->s.heap.get? b=some o:=fun b o e=>(I.bs b o e).1
theorem Inv.mod (I:Inv X pins σ H s):Mod X.K X.mg X.base:=I.ok.mod
theorem Inv.nJ (I:Inv X pins σ H s):X.K.In s.heap:=I.ok.mod.LV.keeps I.bk
theorem Inv.lt (I:Inv X pins σ H s):X.env.locals<s.heap.objs.size:=let ⟨_,hn,_⟩:=I.loc;hn.lt
theorem Inv.sz (I:Inv X pins σ H s):X.s₀.heap.objs.size<=s.heap.objs.size:=ZI I.ok.above (ZT I.lt)
theorem Inv.Jq (I:Inv X pins σ H s) {a:Addr} (h:s.heap.objs.size<=a):a∉X.fs:=fun hb=>by
 obtain ⟨_,o,ho,_⟩:=I.ok.m7.mem hb
 exact absurd (ZE (Zr ho) (ZI I.sz h)) (ZS _)
theorem Inv.Jr (I:Inv X pins σ H s): ∀x c,X.env.cells.lookup x=some c->c≠X.env.locals:=fun x c e z=>by
 obtain ⟨v,o,ho,hd⟩:=I.cell x c e
 obtain ⟨m,⟨o',es,ep,FV,RQ,_⟩,_⟩:=I.loc
 rw[z,FV]at ho;cases ho;rw[RQ]at hd;cases hd
theorem Inv.m7 (I:Inv X pins σ H s):s.heap.FunFrames X.base X.outer:=by
 have all: ∀(l:List Env),(∀b∈zo l,b∈X.fs)->X.s₀.heap.FunFrames X.base l->s.heap.FunFrames X.base l:=by
  intro l
  induction l with
  | nil=>intro _ _;trivial
  | cons env r ih=>
   intro hs hl
   obtain ⟨hk,⟨L,o,hf,hn,ho,hd⟩,hr⟩:=hl
   have hL:L∈X.fs:=hs L (by unfold zo;rw[Qdb,hf];exact Wi)
   obtain ⟨sl,e⟩:=I.base.slot L o ho (I.ok.Jp L hL) hL fun z=>I.ok.FU L z hL
   exact ⟨hk,⟨L,_,hf,hn,e,hd⟩,ih (fun b hb=>hs b (by unfold zo;rw[Qdb,hf];exact Uq _ hb)) hr⟩
 exact all X.outer (fun _ hb=>hb) I.ok.m7
theorem Inv.stack (I:Inv X pins σ H s):s.heap.FunFrames X.base X.stack:=by
 rcases I.ok.Qq with e | ⟨e,hf⟩
 ·rw[e];exact I.m7
 ·rw[e]
  obtain ⟨m,hn,_⟩:=I.loc
  refine .cons (by rw[I.ok.kind];decide) hf hn ?_ I.m7
  exact Heap.get?_none_of_le (ZI I.ok.FT I.ok.above)
theorem Inv.om (I:Inv X pins σ H s): ∀b∈zo X.stack,b∈X.env.locals::X.fs:=fun b hb=>by
 rcases I.ok.Qq with e | ⟨e,hf⟩
 ·rw[e]at hb;exact Uq _ hb
 ·rw[e]at hb
  unfold zo at hb
  rw[Qdb,hf]at hb
  exact hb
theorem Inv.zp (I:Inv X pins σ H s): ∀b∈zo X.stack,H b=none:=fun b hb=>by
 rcases Wj.mp (I.om b hb) with e | hb
 ·rw[e];exact I.free
 ·obtain ⟨_,o,ho,_⟩:=I.ok.m7.mem hb
  exact I.base.free b o ho (I.ok.Jp b hb) fun z=>I.ok.FU b z hb
theorem Inv.step {g':Array GenState} {t':Nat} {d':Drawn} {ch:List Addr} (I:Inv X pins σ H s)
  (Fq: ∀b∈ch,(b∈X.ex\/X.s₀.heap.objs.size<=b)/\b≠X.env.locals/\(∀x c,X.env.cells.lookup x=some c->c≠b)/\ ∀p∈X.pn++pins,p.1≠b)
  (keep: ∀b o,b≠X.env.locals->b∉X.fs->b∉ch->s.heap.get? b=some o->H b=none->h'.get? b=some o)
  (slot: ∀b o,b≠X.env.locals->b∈X.fs->b∉ch->s.heap.get? b=some o->H b=none-> ∃sl,h'.get? b=some { o with slots:=sl }) (free: ∀b o,b∉ch->s.heap.get? b=some o->H b=none->H' b=none)
  (there: ∀b o,b∉ch->s.heap.get? b=some o-> ∃o',h'.get? b=some o')
  (qj: ∀b xs,H b=some (.tup xs)->H' b=some (.tup xs)) (oj: ∀b o u,H b=some (.zm o u)->H' b=some (.zm o u)) (sr: ∀b ps,H b=some (.Jn ps)-> ∃more,H' b=some (.Jn (ps++more)))
  (ns: ∀m,s.heap.Ns X.env.locals m->h'.Ns X.env.locals m) (b6:j4 X.prog X.w H' h') (hg:AllBare g'):
  Inv X pins σ H' { s with heap:=h',gens:=g',drawn:=d',toks:=t' }:=by
 have Uc: ∀b o,X.s₀.heap.get? b=some o->b≠X.env.locals:=fun b o e=>Zu (ZE (Zr e) I.ok.above)
 have Js: ∀b o,X.s₀.heap.get? b=some o->b∉X.ex->b∉ch:=fun b o e hx hb=>by
  rcases (Fq b hb).1 with z | z
  ·exact hx z
  ·exact absurd (ZE (Zr e) z) (ZS _)
 have cellK: ∀x c,X.env.cells.lookup x=some c-> ∀v,s.heap.IsCell c v->h'.IsCell c v:=fun x c e v ⟨o,ho,hd⟩=>by
  have NR:c∉ch:=fun z=>(Fq c z).2.2.1 x c e rfl
  by_cases hc:c∈X.fs
  ·obtain ⟨sl,q⟩:=slot c o (I.Jr x c e) hc NR ho (I.iP x c e)
   exact ⟨_,q,hd⟩
  ·exact ⟨o,keep c o (I.Jr x c e) hc NR ho (I.iP x c e),hd⟩
 refine ⟨I.ok,I.os,hg,⟨fun b o e n hb hx=>?_,fun b o e n hb hx=>?_,fun b o e n hx=>?_,fun b o e hx=>?_,fun b xs e=>qj b xs (I.base.qj b xs e),fun b o xs e=>oj b o xs (I.base.oj b o xs e),fun b ps e=>?_⟩,?_,fun x c e=>?_,?_,fun x c e=>?_,fun p hp=>?_,b6,I.len⟩
 ·exact keep b o (Uc b o e) hb (Js b o e hx) (I.base.keep b o e n hb hx) (I.base.free b o e n hx)
 ·obtain ⟨sl,e1⟩:=I.base.slot b o e n hb hx
  obtain ⟨VX,e2⟩:=slot b _ (Uc b o e) hb (Js b o e hx) e1 (I.base.free b o e n hx)
  exact ⟨VX,e2⟩
 ·obtain ⟨o',e1⟩:=I.base.there b o e hx
  exact free b o' (Js b o e hx) e1 (I.base.free b o e n hx)
 ·obtain ⟨o',e1⟩:=I.base.there b o e hx
  exact there b o' (Js b o e hx) e1
 ·obtain ⟨m1,e1⟩:=I.base.sr b ps e
  obtain ⟨m2,e2⟩:=sr b _ e1
  exact ⟨m1++m2,by rw[e2,Array.append_assoc]⟩
 ·obtain ⟨m,hn,hl⟩:=I.loc
  refine ⟨m,ns m hn,fun i x v e1 e2 e3=>?_⟩
  obtain ⟨u,r,l⟩:=hl i x v e1 e2 e3
  refine ⟨u,r,?_⟩
  rcases l with l | ⟨k,c,e,z⟩
  ·exact .inl l
  ·exact .inr ⟨k,c,e,cellK x c e _ z⟩
 ·obtain ⟨v,z⟩:=I.cell x c e
  exact ⟨v,cellK x c e v z⟩
 ·obtain ⟨m,⟨o,_,_,ho,_⟩,_⟩:=I.loc
  exact free _ o (fun z=>(Fq _ z).2.1 rfl) ho I.free
 ·obtain ⟨v,o,ho,hd⟩:=I.cell x c e
  exact free c o (fun z=>(Fq c z).2.2.1 x c e rfl) ho (I.iP x c e)
 ·obtain ⟨e,n,ne,nf,d⟩:=I.pin p hp
  have NR:p.1∉ch:=fun z=>(Fq p.1 z).2.2.2 p hp rfl
  exact ⟨keep p.1 p.2 ne nf NR e n,free p.1 p.2 NR e n,ne,nf,d⟩
theorem Inv.un {t':Nat} (I:Inv X pins σ H s) (u:Un X.fs [] H H' s.heap h') (b6:j4 X.prog X.w H' h'):Inv X pins σ H' { s with heap:=h',toks:=t' }:=by
 obtain ⟨m,⟨o,es,ep,ho,r⟩,_⟩:=id I.loc
 obtain ⟨sl,hL⟩:=u.any ho I.free (by simp)
 exact I.step (g':=s.gens) (d':=s.drawn) (ch:=[]) (fun _ z=>nomatch z) (fun b o _ hb _ e n=>u.keep b o e n hb (by simp)) (fun b o _ hb _ e n=>u.slot b o e n hb (by simp)) (fun b o _ e n=>u.free b o e n (by simp)) (fun b o _ e=>u.there b o e (by simp)) u.qj u.oj u.sr (fun m' hm=>by
  obtain ⟨o',RS,NS,FV,r'⟩:=hm
  rw[ho]at FV;cases FV
  exact ⟨_,RS,NS,hL,r'⟩) b6 I.bare
theorem Inv.call {g':Array GenState} {t':Nat} {d':Drawn} {ch:List Addr} (I:Inv X pins σ H s) (u:Un (zo X.stack) ch H H' s.heap h') (b6:j4 X.prog X.w H' h') (hg:AllBare g')
  (Fq: ∀b∈ch,(b∈X.ex\/X.s₀.heap.objs.size<=b)/\b≠X.env.locals/\(∀x c,X.env.cells.lookup x=some c->c≠b)/\ ∀p∈X.pn++pins,p.1≠b):
  Inv X pins σ H' { s with heap:=h',gens:=g',drawn:=d',toks:=t' }:=by
 obtain ⟨m,⟨o,es,ep,ho,r⟩,_⟩:=id I.loc
 obtain ⟨sl,hL⟩:=u.any ho I.free fun z=>(Fq _ z).2.1 rfl
 exact I.step (ch:=ch) Fq (fun b o hL hb hc e n=>u.keep b o e n (fun z=>(Wj.mp (I.om b z)).elim hL hb) hc) (fun b o _ _ hc e n=>u.any e n hc) (fun b o hc e n=>u.free b o e n hc) (fun b o hc e=>u.there b o e hc) u.qj u.oj u.sr (fun m' hm=>by
  obtain ⟨o',RS,NS,FV,r'⟩:=hm
  rw[ho]at FV;cases FV
  exact ⟨_,RS,NS,hL,r'⟩) b6 hg
theorem Inv.turned {t':Nat} {it:Addr} (I:Inv X pins σ H s) (k: ∀b o,b≠it->s.heap.get? b=some o->h'.get? b=some o) (hn:H it=none) (hL:it≠X.env.locals)
  (h1:it∈X.ex\/X.s₀.heap.objs.size<=it) (h2: ∀x c,X.env.cells.lookup x=some c->c≠it) (h3: ∀p∈X.pn++pins,p.1≠it):Inv X pins σ H { s with heap:=h',toks:=t' }:=by
 have Il: ∀b u,H b=some u->b≠it:=fun b u e z=>by rw[z,hn]at e;cases e
 refine I.step (g':=s.gens) (d':=s.drawn) (ch:=[it]) (fun b hb=>?_) (fun b o _ _ hc e _=>k b o (fun z=>hc (by simp[z])) e) (fun b o _ _ hc e _=>⟨o.slots,k b o (fun z=>hc (by simp[z])) e⟩) (fun _ _ _ _ n=>n)
  (fun b o hc e=>⟨o,k b o (fun z=>hc (by simp[z])) e⟩) (fun _ _ e=>e) (fun _ _ _ e=>e) (fun b ps e=>⟨#[],by rw[e];simp⟩) (fun m hm=>?_) (fun b u e=>?_) I.bare
 ·have e:b=it:=by simpa using hb
  subst e
  exact ⟨h1,hL,h2,h3⟩
 ·obtain ⟨o,es,ep,ho,r⟩:=hm
  exact ⟨o,es,ep,k _ o (Ne.symm hL) ho,r⟩
 ·refine (I.b6 b u e).uX (fun c v hc q=>k c v ?_ q) (fun _ q=>q) fun _ _ q=>q
  rcases hc with z | z
  ·rw[z];exact Il b u e
  ·exact Il c _ z
theorem Inv.tok (I:Inv X pins σ H s) (t:Nat):Inv X pins σ H { s with toks:=t }:=I.un (h':=s.heap) (t':=t) Un.refl I.b6
theorem Inv.kept {t':Nat} (I:Inv X pins σ H s) (k: ∀b u,s.heap.get? b=some u->h'.get? b=some u):Inv X pins σ H { s with heap:=h',toks:=t' }:=I.un (Un.kept k) (I.b6.kept k)
theorem Inv.laid {a:Addr} {o:HO} {t':Nat} (I:Inv X pins σ H s) (k: ∀b u,s.heap.get? b=some u->h'.get? b=some u) (hp:s.heap.objs.size<=a) (new:cb X.prog X.w (upd H a o) h' a o):
  Inv X pins σ (upd H a o) { s with heap:=h',toks:=t' }:=I.un (Un.laid k hp (I.b6.fresh hp)) (I.b6.laid k hp new)
theorem Inv.write {x e:Addr} {o:HO} {t':Nat} (I:Inv X pins σ H s) (mu:NN (H x)) (he:e=x\/H e=some (.own x)) (k: ∀b u,b≠e->s.heap.get? b=some u->h'.get? b=some u) (LU: ∃u,h'.get? e=some u)
  (new:cb X.prog X.w (upd H x o) h' x o):Inv X pins σ (upd H x o) { s with heap:=h',toks:=t' }:=I.un (Un.write mu he k LU) (I.b6.write mu he k LU new)
theorem Inv.weak {σ':List (Option V)} (I:Inv X pins σ H s) (hl:σ'.length=σ.length) (w: ∀(i:Nat) v,σ'[i]? =some (some v)->σ[i]? =some (some v)):Inv X pins σ' H s:=
 ⟨I.ok,I.os,I.bare,I.base,let ⟨m,hn,zq⟩:=I.loc;⟨m,hn,fun i x v e1 e2 e3=>zq i x v e1 (w i v e2) e3⟩,I.cell,I.free,I.iP,I.pin,I.b6,hl.trans I.len⟩
theorem Inv.kz {zr:List (Addr×Obj)} (I:Inv X pins σ H s) (h: ∀p∈zr,s.heap.get? p.1=some p.2/\H p.1=none/\p.1≠X.env.locals/\p.1∉X.fs/\ ∀v,p.2.data≠ .cell v):Inv X zr σ H s:=
 ⟨I.ok,I.os,I.bare,I.base,I.loc,I.cell,I.free,I.iP,fun p hp=>(Zx.mp hp).elim (fun z=>I.pin p (Qae _ z)) (h p),I.b6,I.len⟩
theorem uY {N:List Str} (hN:N.Nodup) {i j:Nat} {x:Str} (a:N[i]? =some x) (b:N[j]? =some x):i=j:=by
 obtain ⟨h1,e1⟩:=J1.mp a
 obtain ⟨h2,e2⟩:=J1.mp b
 exact (List.getElem_inj hN).mp (e1.trans e2.symm)
theorem AN {M:Model} {A:Around} {E:Value->Shared->Prop} {i:Nat} {x:Str} {v:V} {u:Value} {Q:Unit->Shared->Prop} (I:Inv X pins σ H s) (hN:X.N.Nodup) (hi:X.N[i]? =some x) (hx:Loc X.env.scope x) (r:RelV v u)
  (h: ∀s',Inv X pins (σ.set i (some v)) H s'->(∃a,Heap.SameBut a s.heap s'.heap/\(a=X.env.locals\/X.env.cells.lookup x=some a))->Q () s') (hf:X.fn x=true\/X.env.scope.names.lookup x=some .local:=by first | exact .inl rfl | exact .inr rfl | assumption):wpAny M A (storeName X.env x u) Q E s:=by
 obtain ⟨m,hn,hl⟩:=id I.loc
 have RT:(X.env.scope.kind== .class||(X.env.scope.kind== .module&&X.env.locals != X.env.globals))=false:=by rw[I.ok.kind];rfl
 have Ud:i<σ.length:=by rw[I.len];exact (J1.mp hi).1
 have Jr:=I.Jr
 have tracked: ∀{a:Addr} {h':Heap},(∃o,s.heap.get? a=some o/\H a=none)->Heap.SameBut a s.heap h'->j4 X.prog X.w H h':=fun {a h'} ha hs b ob e=>by
  obtain ⟨_,_,Im⟩:=ha
  refine (I.b6 b ob e).uX (fun c w' hc q=>(hs.2 c ?_).trans q) (fun _ q=>q) fun _ _ q=>q
  rintro rfl
  rcases hc with rfl | hc
  ·rw[Im]at e;cases e
  ·rw[Im]at hc;cases hc
 rcases hx with hk | hk
 ·refine wpAny_storeName_local hk hn (fun h' Qr hs=>?_) RT
  obtain ⟨oL,_,_,NT,_⟩:=id hn
  refine h _ ⟨I.ok,I.os,I.bare,⟨fun b o e n hb hx=>?_,fun b o e n hb hx=>?_,I.base.free,fun b o e hx=>?_,I.base.qj,I.base.oj,I.base.sr⟩,⟨_,Qr,fun j y v' e1 e2 e3=>?_⟩,fun y c e=>?_,I.free,I.iP,fun p hp=>?_,tracked ⟨oL,NT,I.free⟩ hs,by simpa using I.len⟩ ⟨_,hs, .inl rfl⟩
  ·exact (hs.2 b (Zu (ZE (Zr e) I.ok.above))).trans (I.base.keep b o e n hb hx)
  ·obtain ⟨sl,e1⟩:=I.base.slot b o e n hb hx
   exact ⟨sl,(hs.2 b (Zu (ZE (Zr e) I.ok.above))).trans e1⟩
  ·obtain ⟨o',e1⟩:=I.base.there b o e hx
   exact ⟨o',(hs.2 b (Zu (ZE (Zr e) I.ok.above))).trans e1⟩
  ·by_cases hj:j=i
   ·subst hj
    rw[hi]at e1;cases e1
    rw[List.getElem?_set_self Ud]at e2
    cases e2
    exact ⟨u,r, .inl ⟨hk,by simp⟩⟩
   ·rw[List.getElem?_set_ne (Ne.symm hj)]at e2
    obtain ⟨u',r',q⟩:=hl j y v' e1 e2 e3
    refine ⟨u',r',?_⟩
    rcases q with ⟨k,e⟩ | ⟨k,c,e,z⟩
    ·refine .inl ⟨k,?_⟩
     have:y≠x:=fun e=>hj (uY hN e1 (e▸hi))
     simp[this,e]
    ·exact .inr ⟨k,c,e,z.sameBut hs (Jr y c e)⟩
  ·obtain ⟨w',z⟩:=I.cell y c e
   exact ⟨w',z.sameBut hs (Jr y c e)⟩
  ·obtain ⟨e,n,ne,nf,d⟩:=I.pin p hp
   exact ⟨(hs.2 p.1 ne).trans e,n,ne,nf,d⟩
 ·have RU:X.fn x=true:=by
   rcases hf with z | z
   ·exact z
   ·rw[z]at hk;cases hk
  obtain ⟨c,hc⟩:=I.ok.has x (.inl hk)
  obtain ⟨w',z⟩:=I.cell x c hc
  refine wpAny_storeName_cell I.ok.kind hk hc z (fun h' qk hs=>?_)
  obtain ⟨oc,Ue,RV⟩:=id z
  refine h { s with heap:=h' } ⟨I.ok,I.os,I.bare,⟨fun b o e n hb hx=>?_,fun b o e n hb hx=>?_,I.base.free,fun b o e hx=>?_,I.base.qj,I.base.oj,I.base.sr⟩,⟨m,hn.sameBut hs (Ne.symm (Jr x c hc)),fun j y v' e1 e2 e3=>?_⟩,fun y c' e=>?_,I.free,I.iP,fun p hp=>?_,tracked ⟨oc,Ue,I.iP x c hc⟩ hs,by simpa using I.len⟩ ⟨c,hs, .inr hc⟩
  ·exact (hs.2 b (Zu (ZE (Zr e) (I.ok.NQ x c RU hc)))).trans (I.base.keep b o e n hb hx)
  ·obtain ⟨sl,e1⟩:=I.base.slot b o e n hb hx
   exact ⟨sl,(hs.2 b (Zu (ZE (Zr e) (I.ok.NQ x c RU hc)))).trans e1⟩
  ·obtain ⟨o',e1⟩:=I.base.there b o e hx
   exact ⟨o',(hs.2 b (Zu (ZE (Zr e) (I.ok.NQ x c RU hc)))).trans e1⟩
  ·by_cases hj:j=i
   ·subst hj
    rw[hi]at e1;cases e1
    rw[List.getElem?_set_self Ud]at e2
    cases e2
    exact ⟨u,r, .inr ⟨.inl hk,c,hc,qk⟩⟩
   ·rw[List.getElem?_set_ne (Ne.symm hj)]at e2
    obtain ⟨u',r',q⟩:=hl j y v' e1 e2 e3
    refine ⟨u',r',?_⟩
    rcases q with q | ⟨k,c',e,z'⟩
    ·exact .inl q
    ·refine .inr ⟨k,c',e,z'.sameBut hs ?_⟩
     rintro rfl
     exact hj (uY hN e1 (I.ok.inj _ _ _ e hc▸hi))
  ·by_cases LX:c'=c
   ·subst LX;exact ⟨_,qk⟩
   ·obtain ⟨w2,z2⟩:=I.cell y c' e
    exact ⟨w2,z2.sameBut hs LX⟩
  ·obtain ⟨e,n,ne,nf,d⟩:=I.pin p hp
   refine ⟨(hs.2 p.1 ?_).trans e,n,ne,nf,d⟩
   intro q
   rw[q,Ue]at e
   have q':oc=p.2:=YS e
   exact d w' (by rw[<-q'];exact RV)
theorem eh {M:Model} {A:Around} {E:Value->Shared->Prop} {i:Nat} {x:Str} {v:V} {u:Value} {Q:Unit->Shared->Prop} (I:Inv X pins σ H s) (hN:X.N.Nodup) (hi:X.N[i]? =some x) (hx:Loc X.env.scope x) (r:RelV v u)
  (h: ∀s',Inv X pins (σ.set i (some v)) H s'->Q () s') (hf:X.fn x=true\/X.env.scope.names.lookup x=some .local:=by first | exact .inl rfl | exact .inr rfl | assumption):wpAny M A (storeName X.env x u) Q E s:=
 AN I hN hi hx r (fun s' I' _=>h s' I') hf
theorem Inv.NU {s':Shared} {ch:List Addr} (I:Inv X pins σ H s) (ho:s'.os=s.os) (u:Un (zo X.stack) ch H H' s.heap s'.heap) (b6:j4 X.prog X.w H' s'.heap) (hg:AllBare s'.gens)
  (Fq: ∀b∈ch,(b∈X.ex\/X.s₀.heap.objs.size<=b)/\b≠X.env.locals/\(∀x c,X.env.cells.lookup x=some c->c≠b)/\ ∀p∈X.pn++pins,p.1≠b):Inv X pins σ H' s':=by
 obtain ⟨h',g',d',t',o'⟩:=s'
 have e:o'=s.os:=ho
 subst e
 exact I.call (g':=g') (t':=t') (d':=d') u b6 hg Fq
end
abbrev XK:=Value->Option Addr->Hp->Prop
abbrev St:=List (Option V)
abbrev VK:=V->Hp->Prop
abbrev TE:=St->Hp->VK->Prop
abbrev TT:=St->Hp->(Bool->Hp->Prop)->Prop
abbrev TA:=St->Hp->(List V->Hp->Prop)->Prop
structure Ends where
 nx:St->Hp->Prop
 rt:VK
 bk:St->Hp->Prop:=fun _ _=>False
 ct:St->Hp->Prop:=fun _ _=>False
abbrev TS:=Ends->St->Hp->Prop
def EP (X:Cx) (pins:List (Addr×Obj)) (σ:St) (Q:VK) (u:Value) (s':Shared):Prop:= ∃v H',Inv X pins σ H' s'/\RelV v u/\Q v H'
def TP (X:Cx) (pins:List (Addr×Obj)) (σ:St) (Q:Bool->Hp->Prop) (b:Bool) (s':Shared):Prop:= ∃H',Inv X pins σ H' s'/\Q b H'
def AP (X:Cx) (pins:List (Addr×Obj)) (σ:St) (Q:List V->Hp->Prop) (us:List Value) (s':Shared):Prop:= ∃vs H',Inv X pins σ H' s'/\Vals vs us/\Q vs H'
def SP (X:Cx) (pins:List (Addr×Obj)) (D:Ends) (f:Flow) (s':Shared):Prop:=
 match f with
 | .next=> ∃σ' H',Inv X pins σ' H' s'/\D.nx σ' H'
 | .brk=> ∃σ' H',Inv X pins σ' H' s'/\D.bk σ' H'
 | .cont=> ∃σ' H',Inv X pins σ' H' s'/\D.ct σ' H'
 | .ret u=> ∃v σ' H',Inv X pins σ' H' s'/\RelV v u/\D.rt v H'
def PE (X:Cx) (e:Expr) (t:TE):Prop:=
 ∀(pins:List (Addr×Obj)) (s:Shared) (σ:St) (H:Hp) (Q:VK),Inv X pins σ H s->t σ H Q->wpAny (model X.prog X.w) X.A (eval e X.env) (EP X pins σ Q) X.xe s
def PT (X:Cx) (e:Expr) (t:TT):Prop:=
 ∀(pins:List (Addr×Obj)) (s:Shared) (σ:St) (H:Hp) (Q:Bool->Hp->Prop),Inv X pins σ H s->t σ H Q->wpAny (model X.prog X.w) X.A (isTrue e X.env (eval e X.env)) (TP X pins σ Q) X.xe s
def PW (X:Cx) (e:Expr) (t:TT):Prop:=
 ∀(whole:Sem Value) (pins:List (Addr×Obj)) (s:Shared) (σ:St) (H:Hp) (Q:Bool->Hp->Prop),Inv X pins σ H s->t σ H Q->wpAny (model X.prog X.w) X.A (isTrue e X.env whole) (TP X pins σ Q) X.xe s
theorem PW.pt {X:Cx} {e:Expr} {t:TT} (h:PW X e t):PT X e t:=h _
def PA (X:Cx) (es:List Expr) (t:TA):Prop:=
 ∀(pos:Pos) (pins:List (Addr×Obj)) (s:Shared) (σ:St) (H:Hp) (Q:List V->Hp->Prop),Inv X pins σ H s->t σ H Q->wpAny (model X.prog X.w) X.A (spliced (backTo pos (starEach es X.env))) (AP X pins σ Q) X.xe s
def PS (X:Cx) (st:Stmt) (t:TS):Prop:=
 ∀(pins:List (Addr×Obj)) (s:Shared) (σ:St) (H:Hp) (D:Ends),Inv X pins σ H s->t D σ H->wpAny (model X.prog X.w) X.A (exec st X.env) (SP X pins D) X.xe s
def xn (X:Cx) (st:List Stmt) (t:TS):Prop:=
 ∀(pins:List (Addr×Obj)) (s:Shared) (σ:St) (H:Hp) (D:Ends),Inv X pins σ H s->t D σ H->wpAny (model X.prog X.w) X.A (execs st X.env) (SP X pins D) X.xe s
theorem cx {α:Type} {t:Sem α} {Q Q':α->Shared->Prop} {M:Model} {A:Around} {E:Value->Shared->Prop} {s:Shared} (h:wpAny M A t Q E s) (hQ: ∀a s,Q a s->Q' a s):wpAny M A t Q' E s:=wpAny_mono h hQ fun _ _ x=>x
section
variable {X:Cx}
def Jt (i:Nat):TE:=fun σ H Q=> ∃v,σ[i]? =some (some v)/\Q v H
def tC (v:V):TE:=fun _ H Q=>Q v H
theorem Ju {i:Nat} {x:Str} {pos:Pos} (hN:X.N[i]? =some x) (hv:NP X.env.scope x) (hd:(x==("__debug__":Str))=false:=by decide) (m8:(x==("__classdict__":Str))=false:=by decide):PE X (.Name x pos) (Jt i):=by
 intro pins s σ H Q I h
 obtain ⟨v,e,h⟩:=h
 obtain ⟨m,hn,hl⟩:=I.loc
 obtain ⟨u,r,l⟩:=hl i x v hN e hv
 have fin:EP X pins σ Q u s:=⟨v,H,I,r,h⟩
 rcases l with ⟨hk,hm⟩ | ⟨hk,c,hc,gS⟩
 ·exact wpAny_Name (wpAny_loadName_local I.ok.kind hk hn hm fin) hd
 ·rcases hk with hk | hk
  ·exact wpAny_Name (wpAny_loadName_cell I.ok.kind hk hc gS fin) hd
  ·exact wpAny_Name (wpAny_loadName_free I.ok.kind hk hc gS fin m8) hd
theorem ai {i j pos}:PE X (.Constant (.int i) j pos) (tC (.int i)):=fun _ _ _ H _ I h=>wpAny_Constant_int ⟨.int i,H,I.tok _,⟨_,rfl⟩,h⟩
theorem zt {b j pos}:PE X (.Constant (.bool b) j pos) (tC (.bl b)):=fun _ _ _ H _ I h=>Constant_bool ⟨.bl b,H,I,rfl,h⟩
theorem Jv {x j pos}:PE X (.Constant (.str x) j pos) (tC (.str x)):=fun _ _ _ H _ I h=>Calls.Constant_str ⟨.str x,H,I.tok _,⟨_,rfl⟩,h⟩
def Gl (X:Cx) (x:Str):Prop:=X.env.kindOf x=some .globalImplicit
theorem sC {E:Value->Shared->Prop} {pins:List (Addr×Obj)} {s:Shared} {σ:St} {H:Hp} {x:Str} {u:Value} {pos:Pos} {Q:Value->Shared->Prop} (I:Inv X pins σ H s) (hg:Gl X x) (hm:X.mg x=some u) (h:Q u s)
  (hd:(x==("__debug__":Str))=false:=by decide):wpAny (model X.prog X.w) X.A (eval (.Name x pos) X.env) Q E s:=
 Calls.Name_function_global I.ok.kind hg (Calls.loadGlobal_global (by rw[I.ok.glob];exact I.mod.glob.keeps I.bk) hm h) hd
theorem fV {E:Value->Shared->Prop} {pins:List (Addr×Obj)} {s:Shared} {σ:St} {H:Hp} {x:Str} {u:Value} {pos:Pos} {Q:Value->Shared->Prop} (I:Inv X pins σ H s) (hg:Gl X x) (hm:X.mg x=none) (hv:bootBuiltins x=some u) (h:Q u s)
  (hn:x≠"__name__":=by decide) (hd:(x==("__debug__":Str))=false:=by decide):wpAny (model X.prog X.w) X.A (eval (.Name x pos) X.env) Q E s:=by
 obtain ⟨mb,h1,h2⟩:=I.mod.blt
 exact Calls.Name_function_global I.ok.kind hg (Calls.loadGlobal_builtin (by rw[I.ok.glob];exact I.mod.glob.keeps I.bk) hm (by rw[I.ok.blt];exact h1.keeps I.bk) ((h2 x hn).trans hv) h) hd
theorem zu {x:Str} {v:V} {u:Value} {pos:Pos} (hg:Gl X x) (hm:X.mg x=some u) (r:RelV v u) (hd:(x==("__debug__":Str))=false:=by decide):PE X (.Name x pos) (tC v):=
 fun _ _ _ H _ I h=>sC I hg hm ⟨v,H,I,r,h⟩ hd
theorem FW {x:Str} {v:V} {u:Value} {pos:Pos} (hg:Gl X x) (hm:X.mg x=none) (hv:bootBuiltins x=some u) (r:RelV v u) (hn:x≠"__name__":=by decide) (hd:(x==("__debug__":Str))=false:=by decide):PE X (.Name x pos) (tC v):=
 fun _ _ _ H _ I h=>fV I hg hm hv ⟨v,H,I,r,h⟩ hn hd
variable {a b:Expr} {ta tb:TE} {pos:Pos}
def tB (t:TE):TT:=fun σ H Q=>t σ H fun x H1=> ∃c,x= .bl c/\Q c H1
theorem lS {e:Expr} {t:TE} (h:PE X e t) (he: ∀whole,isTrue e X.env whole=(do let v <-whole;standAt e.pos;holding [v] (truthy v)):=by intro _;rfl):PT X e (tB t):=by
 intro pins s σ H Q I hw
 refine isTrue_plain (cx (h pins s σ H _ I hw) fun v s1 ⟨x,H1,I1,r1,q1⟩=>?_) (he _)
 obtain ⟨d,rfl,q⟩:=q1
 cases r1
 exact wpAny_truthy_bool ⟨H1,I1,q⟩
variable {tA Qs:TT} {rest:List Expr}
def RW (t u:TT):TT:=fun σ H Q=>t σ H fun c H1=>if c=true then u σ H1 Q else Q false H1
def VY (t u:TT):TT:=fun σ H Q=>t σ H fun c H1=>if c=true then Q true H1 else u σ H1 Q
theorem gx (ha:PT X a tA):PW X (.BoolOp .And [a] pos) tA:=by
 intro wh pins s σ H Q I h
 refine isTrue_and (cx (ha pins s σ H Q I h) fun c s1 e=>?_)
 cases c with
 | true=>exact isTrue_and_nil e
 | false=>exact e
theorem Jw (ha:PT X a tA):PW X (.BoolOp .Or [a] pos) tA:=by
 intro wh pins s σ H Q I h
 refine isTrue_or (cx (ha pins s σ H Q I h) fun c s1 e=>?_)
 cases c with
 | false=>exact isTrue_or_nil e
 | true=>exact e
theorem hU (ha:PT X a tA) (hb:PW X (.BoolOp .And (b::rest) pos) Qs):PW X (.BoolOp .And (a::b::rest) pos) (RW tA Qs):=by
 intro wh pins s σ H Q I h
 refine isTrue_and (cx (ha pins s σ H _ I h) fun c s1 ⟨H1,I1,q1⟩=>?_)
 cases c with
 | true=>exact hb wh pins s1 σ H1 Q I1 q1
 | false=>exact ⟨H1,I1,q1⟩
theorem NV (ha:PT X a tA) (hb:PW X (.BoolOp .Or (b::rest) pos) Qs):PW X (.BoolOp .Or (a::b::rest) pos) (VY tA Qs):=by
 intro wh pins s σ H Q I h
 refine isTrue_or (cx (ha pins s σ H _ I h) fun c s1 ⟨H1,I1,q1⟩=>?_)
 cases c with
 | true=>exact ⟨H1,I1,q1⟩
 | false=>exact hb wh pins s1 σ H1 Q I1 q1
def NW (ta tb:TE):TE:=fun σ H Q=>ta σ H fun x H1=> ∃c,x= .bl c/\if c=true then tb σ H1 Q else Q (.bl false) H1
theorem xo {op} {t:TE} (h:PE X a t):PE X (.BoolOp op [a] pos) t:=fun pins s σ H Q I hw=>BoolOp_one (h pins s σ H Q I hw)
theorem xp (ha:PE X a ta) (hb:PE X (.BoolOp .And (b::rest) pos) tb):PE X (.BoolOp .And (a::b::rest) pos) (NW ta tb):=by
 intro pins s σ H Q I h
 refine BoolOp_and (cx (ha pins s σ H _ I h) fun v s1 ⟨x,H1,I1,r1,q1⟩=>?_)
 obtain ⟨c,rfl,q1⟩:=q1
 cases r1
 refine wpAny_truthy_bool ?_
 cases c with
 | true=>exact hb pins s1 σ H1 Q I1 q1
 | false=>exact ⟨.bl false,H1,I1,rfl,q1⟩
end
def bD (K:PySem.W.Frag) (H:Hp) (a:Addr) (xs:List V):Prop:=
 Rd H a (.lst xs)\/
  ∃(o:Obj) (aO:Array Value) (n:Nat),K.lookup a=some o/\o.cls= .type "list"/\o.dict=none/\o.data= .seq aO n/\aO.size<=sizeLine/\Vals xs aO.toList
def cR (K:PySem.W.Frag) (H:Hp) (a:Addr) (xs:List V):Prop:=
 Rd H a (.tup xs)\/
  ∃(o:Obj) (aO:Array Value) (n:Nat),K.lookup a=some o/\o.cls= .type "tuple"/\o.data= .seq aO n/\aO.size<=sizeLine/\Vals xs aO.toList
noncomputable def RX:Value->Option V
 | .none=>some .fH
 | .bool b=>some (.bl b)
 | .int i _=>some (.int i)
 | .str x _=>some (.str x)
 | .bytes b _=>some (.zk b)
 | .float b _=>some (.Jm b)
 | .ref a=>some (.ref a)
 | .type n=>some (.ty n)
 | _=>none
theorem RelV.abs {x:V} {u:Value} (r:RelV x u):RX u=some x:=by
 cases x with
 | fH=>cases r;rfl
 | bl _=>cases r;rfl
 | int _=>obtain ⟨t,rfl⟩:=r;rfl
 | str _=>obtain ⟨t,rfl⟩:=r;rfl
 | zk _=>obtain ⟨t,rfl⟩:=r;rfl
 | Jm _=>obtain ⟨t,rfl⟩:=r;rfl
 | ref _=>cases r;rfl
 | ty _=>cases r;rfl
theorem RelV.inj {x y:V} {u:Value} (r:RelV x u) (q:RelV y u):x=y:=YS (r.abs.symm.trans q.abs)
theorem Vals.inj: ∀{xs ys:List V} {us:List Value},Vals xs us->Vals ys us->xs=ys
 | _,_,_, .nil, .nil=>rfl
 | _,_,_, .cons r t, .cons r' t'=>by rw[r.inj r',Vals.inj t t']
section
variable {X:Cx} {pins:List (Addr×Obj)} {σ:St} {H:Hp} {s:Shared} {a:Addr} {xs ys:List V}
theorem bD.of {K:PySem.W.Frag} (h:H a=some (.lst xs)):bD K H a xs:= .inl (.inl h)
theorem cR.of {K:PySem.W.Frag} (h:H a=some (.tup xs)):cR K H a xs:= .inl (.inl h)
theorem Inv.list (I:Inv X pins σ H s) (h:bD X.K H a xs): ∃aO:List Value,Vals xs aO/\PlainL s.heap a aO.toArray/\xs.length<=sizeLine:=by
 rcases h with h | ⟨o,aO,n,hk,hc,hd,hs,hz,r⟩
 ·obtain ⟨z,aO,n,r,e⟩:=h.ok I.b6
  exact ⟨aO,r,⟨_,n,e,rfl,rfl,rfl⟩,z⟩
 ·refine ⟨aO.toList,r,⟨o,n,I.nJ a o hk,hc,hd,by simpa using hs⟩,?_⟩
  have e:=r.length
  simp only[Qdd]at e
  omega
theorem Inv.tuple (I:Inv X pins σ H s) (h:cR X.K H a xs): ∃aO:List Value,Vals xs aO/\IsTup s.heap a aO.toArray/\xs.length<=sizeLine:=by
 rcases h with h | ⟨o,aO,n,hk,hc,hs,hz,r⟩
 ·obtain ⟨z,aO,r,p⟩:=h.ok I.b6
  exact ⟨aO,r,p,z⟩
 ·refine ⟨aO.toList,r,⟨o,I.nJ a o hk,hc,n,by simpa using hs⟩,?_⟩
  have e:=r.length
  simp only[Qdd]at e
  omega
theorem Inv.uZ (I:Inv X pins σ H s) (h:bD X.K H a xs) (h':bD X.K H a ys):xs=ys:=by
 obtain ⟨aO,r,⟨o,n,e,_,_,d⟩,_⟩:=I.list h
 obtain ⟨its',r',⟨o',n',e',_,_,d'⟩,_⟩:=I.list h'
 rw[e]at e';cases e'
 rw[d]at d'
 injection d' with d1 _
 have:aO=its':=by simpa using congrArg Array.toList d1
 subst this
 exact r.inj r'
theorem Inv.qM (I:Inv X pins σ H s) (h:cR X.K H a xs) (h':cR X.K H a ys):xs=ys:=by
 obtain ⟨aO,r,⟨o,e,_,n,d⟩,_⟩:=I.tuple h
 obtain ⟨its',r',⟨o',e',_,n',d'⟩,_⟩:=I.tuple h'
 rw[e]at e';cases e'
 rw[d]at d'
 injection d' with d1 _
 have:aO=its':=by simpa using congrArg Array.toList d1
 subst this
 exact r.inj r'
end
noncomputable abbrev Cx.ql (X:Cx) (E:Value->Shared->Prop):Cx:={ X with xe:=E }
noncomputable abbrev Cx.Qt (X:Cx):Cx:=X.ql fun _ _=>False
theorem Cx.Ok.ql {X:Cx} (ok:X.Ok) (E:Value->Shared->Prop):(X.ql E).Ok:=
 ⟨ok.mod,ok.kind,ok.glob,ok.blt,ok.above,ok.inj,ok.has,ok.NQ,ok.hd,ok.frames,ok.Qq,ok.Ub,ok.bs,ok.FT,ok.Ct,ok.FU,ok.m7,ok.Jp⟩
theorem Cx.Ok.iQ {X:Cx} {E:Value->Shared->Prop} (ok:(X.ql E).Ok):X.Ok:=
 ⟨ok.mod,ok.kind,ok.glob,ok.blt,ok.above,ok.inj,ok.has,ok.NQ,ok.hd,ok.frames,ok.Qq,ok.Ub,ok.bs,ok.FT,ok.Ct,ok.FU,ok.m7,ok.Jp⟩
section
variable {X:Cx} {pins:List (Addr×Obj)} {σ:St} {H:Hp} {s:Shared} {E:Value->Shared->Prop}
theorem Inv.ql (I:Inv X pins σ H s) (E:Value->Shared->Prop):Inv (X.ql E) pins σ H s:=⟨I.ok.ql E,I.os,I.bare,I.base,I.loc,I.cell,I.free,I.iP,I.pin,I.b6,I.len⟩
theorem Inv.iQ (I:Inv (X.ql E) pins σ H s):Inv X pins σ H s:=⟨I.ok.iQ,I.os,I.bare,I.base,I.loc,I.cell,I.free,I.iP,I.pin,I.b6,I.len⟩
theorem SP.iQ {D:Ends} {f:Flow} {s':Shared} (h:SP (X.ql E) pins D f s'):SP X pins D f s':=by
 cases f with
 | next=>obtain ⟨σ',H',I,q⟩:=h;exact ⟨σ',H',I.iQ,q⟩
 | brk=>obtain ⟨σ',H',I,q⟩:=h;exact ⟨σ',H',I.iQ,q⟩
 | cont=>obtain ⟨σ',H',I,q⟩:=h;exact ⟨σ',H',I.iQ,q⟩
 | ret u=>obtain ⟨v,σ',H',I,r,q⟩:=h;exact ⟨v,σ',H',I.iQ,r,q⟩
theorem xn.Qt {st:List Stmt} {t:TS} (h:xn X.Qt st t):xn X st t:=fun pins s σ H D I hw=>
 wpAny_mono (h pins s σ H D (I.ql _) hw) (fun _ _ q=>q.iQ) fun _ _ z=>False.elim z
end
section
variable {X:Cx} {st:Stmt} {rest:List Stmt} {t u:TS} {e:Expr} {te:TE} {pos:Pos}
def NX:TS:=fun D σ H=>D.nx σ H
def Jx (t u:TS):TS:=fun D σ H=>t { D with nx:=u D } σ H
theorem bG:xn X [] NX:=fun _ _ σ H _ I h=>wpAny_execs_nil ⟨σ,H,I,h⟩
theorem ag (h1:PS X st t) (h2:xn X rest u):xn X (st::rest) (Jx t u):=by
 intro pins s σ H D I h
 refine wpAny_execs_cons (cx (h1 pins s σ H { D with nx:=u D } I h) fun f s1 q=>?_)
 cases f with
 | next=>
  obtain ⟨σ',H',I',q⟩:=q
  exact h2 pins s1 σ' H' D I' q
 | ret v=>exact q
 | brk=>exact q
 | cont=>exact q
theorem aj (h1:PS X st t):xn X [st] t:=by
 intro pins s σ H D I h
 refine wpAny_execs_cons (cx (h1 pins s σ H D I h) fun f s1 q=>?_)
 cases f with
 | next=>exact wpAny_execs_nil q
 | ret v=>exact q
 | brk=>exact q
 | cont=>exact q
theorem Inv.quiet {pins:List (Addr×Obj)} {σ:St} {H:Hp} {s:Shared} (I:Inv X pins σ H s):interactive X.env=false:=by simp[interactive,I.ok.kind]
def NY (te:TE):TS:=fun D σ H=>te σ H fun _ H1=>D.nx σ H1
theorem c_ (he:PE X e te) (hs:swapsWith e none pos.line X.env=pure false:=by rfl):PS X (.Expr e pos) (NY te):=by
 intro pins s σ H D I h
 exact wpAny_Expr_any (cx (he pins s σ H _ I h) fun v s1 ⟨x,H1,I1,r1,q1⟩=>⟨σ,H1,I1,q1⟩) I.quiet hs
def RY (te:TE):TS:=fun D σ H=>te σ H D.rt
theorem aI (he:PE X e te):PS X (.Return (some e) pos) (RY te):=by
 intro pins s σ H D I h
 exact wpAny_Return_some (cx (he pins s σ H _ I h) fun v s1 ⟨x,H1,I1,r1,q1⟩=>⟨x,σ,H1,I1,r1,q1⟩)
def RZ (c:TT) (t u:TS):TS:=fun D σ H=>c σ H fun b H1=>if b=true then t D σ H1 else u D σ H1
theorem b7 {c:Expr} {a b:List Stmt} {tc:TT} (hc:PT X c tc) (ha:xn X a t) (hb:xn X b u):PS X (.If c a b pos) (RZ tc t u):=by
 intro pins s σ H D I h
 refine wpAny_If (cx (hc pins s σ H _ I h) fun d s1 ⟨H1,I1,q1⟩=>?_)
 cases d with
 | true=>exact ha pins s1 σ H1 D I1 q1
 | false=>exact hb pins s1 σ H1 D I1 q1
end
abbrev TG:=V->St->Hp->(St->Hp->Prop)->Prop
abbrev Fs:=List V->St->Hp->(St->Hp->Prop)->Prop
def PG (X:Cx) (target:Expr) (t:TG):Prop:=
 ∀(pins:List (Addr×Obj)) (s:Shared) (σ:St) (H:Hp) (v:V) (u:Value) (Q:St->Hp->Prop),Inv X pins σ H s->RelV v u->t v σ H Q->
  wpAny (model X.prog X.w) X.A (assign target X.env u) (fun _ s'=> ∃σ' H',Inv X pins σ' H' s'/\Q σ' H') X.xe s
def LZ (X:Cx) (ts:List Expr) (t:Fs):Prop:=
 ∀(pins:List (Addr×Obj)) (s:Shared) (σ:St) (H:Hp) (vs:List V) (us:List Value) (Q:St->Hp->Prop),Inv X pins σ H s->Vals vs us->t vs σ H Q->
  wpAny (model X.prog X.w) X.A (assignInOrder ((assignEach ts X.env).map (·.2)) us) (fun _ s'=> ∃σ' H',Inv X pins σ' H' s'/\Q σ' H') X.xe s
abbrev Jy:=V->V->V->Hp->(Hp->Prop)->Prop
def NZ (X:Cx) (t:Jy):Prop:=
 ∀(pins:List (Addr×Obj)) (s:Shared) (σ:St) (H:Hp) (o i v:V) (ov iv u:Value) (Q:Hp->Prop),Inv X pins σ H s->RelV o ov->RelV i iv->RelV v u->t o i v H Q->
  wpAny (model X.prog X.w) X.A (setItem ov iv u) (fun _ s'=> ∃H',Inv X pins σ H' s'/\Q H') X.xe s
abbrev Qu:=V->V->Hp->VK->Prop
def N0 (X:Cx) (op:Operator) (t:Qu):Prop:=
 ∀(pins:List (Addr×Obj)) (s:Shared) (σ:St) (H:Hp) (x y:V) (v u:Value) (Q:VK),Inv X pins σ H s->RelV x v->RelV y u->t x y H Q->
  wpAny (model X.prog X.w) X.A (inplaceOp op v u) (EP X pins σ Q) X.xe s
section
variable {X:Cx} {pos:Pos}
def u5 (i:Nat):TG:=fun v σ H Q=>Q (σ.set i (some v)) H
theorem aG {i:Nat} {x:Str} (hN:X.N.Nodup) (hi:X.N[i]? =some x) (hx:Loc X.env.scope x) (hf:X.fn x=true\/X.env.scope.names.lookup x=some .local:=by first | exact .inl rfl | exact .inr rfl | assumption):PG X (.Name x pos) (u5 i):=by
 intro pins s σ H v u Q I r h
 exact wpAny_assign_Name (eh I hN hi hx r (fun s' I'=>⟨_,H,I',h⟩) hf)
def R0:Fs:=fun vs σ H Q=>vs=[]/\Q σ H
def N1 (t:TG) (u:Fs):Fs:=fun vs σ H Q=> ∃v r,vs=v::r/\t v σ H fun σ' H'=>u r σ' H' Q
theorem eA:LZ X [] R0:=by
 intro pins s σ H vs us Q I r h
 obtain ⟨e,h⟩:=h
 subst e
 cases r
 exact assignInOrder_nil ⟨σ,H,I,h⟩
theorem bf {e:Expr} {es:List Expr} {t:TG} {u:Fs} (h1:PG X e t) (h2:LZ X es u)
  (hs:(assignEach (e::es) X.env).map (·.2)=assign e X.env::(assignEach es X.env).map (·.2):=by rfl):LZ X (e::es) (N1 t u):=by
 intro pins s σ H vs us Q I r h
 obtain ⟨v,vr,e1,h⟩:=h
 subst e1
 cases r with
 | cons r rr=>
  rw[hs]
  refine assignInOrder_cons (cx (h1 pins s σ H _ _ _ I r h) fun _ s1 ⟨σ1,H1,I1,q1⟩=>?_)
  exact h2 pins s1 σ1 H1 _ _ Q I1 rr q1
def N2 (K:PySem.W.Frag) (n:Nat) (t:Fs):TG:=fun v σ H Q=> ∃a xs,v= .ref a/\cR K H a xs/\xs.length=n/\t xs σ H Q
theorem Jz {es:List Expr} {k:Nat} {t:Fs} {n:Nat} (hc:X.calm=true) (h:LZ X es t)
  (hn:(assignEach es X.env).length=n:=by rfl) (jH:(assignEach es X.env).findIdx? (·.1)=none:=by rfl):PG X (.Tuple es k pos) (N2 X.K n t):=by
 intro pins s σ H v u Q I r hw
 obtain ⟨a,xs,e1,hq,hl,hw⟩:=hw
 subst e1
 cases r
 obtain ⟨aO,rv,ht,hz⟩:=I.tuple hq
 refine assign_Tuple_tuple (I.ok.hd hc) ht (by simp[hn, <-hl,rv.length]) jH fun h' hx=>?_
 have I1:Inv X pins σ H { s with heap:=h' }:=I.kept (t':=s.toks) fun b o e=>hx b o (Zu (Zr e)) e
 exact h pins _ σ H xs _ Q I1 (by simpa using rv) hw
def R1 (to ti:TE) (t:Jy):TG:=fun v σ H Q=>to σ H fun o H1=>ti σ H1 fun i H2=>t o i v H2 fun H3=>Q σ H3
theorem Cu {o i:Expr} {to ti:TE} {t:Jy} (ho:PE X o to) (hi:PE X i ti) (hs:NZ X t)
  (ha: ∀v,assign (.Subscript o i pos) X.env v=(do
   let ov <-holding [v] (eval o X.env)
   let iv <-holding [v,ov] (eval i X.env)
   standAt pos
   holding [v,ov,iv] (setItem ov iv v)
   release [v,ov,iv] []):=by intro _;rfl):PG X (.Subscript o i pos) (R1 to ti t):=by
 intro pins s σ H v u Q I r h
 rw[ha]
 refine wpAny_bind (wpAny_holding (cx (ho pins s σ H _ I h) fun ov s1 ⟨x,H1,I1,r1,q1⟩=>?_))
 refine wpAny_bind (wpAny_holding (cx (hi pins s1 σ H1 _ I1 q1) fun iv s2 ⟨y,H2,I2,r2,q2⟩=>?_))
 refine wpAny_bind (wpAny_standAt (wpAny_bind (wpAny_holding (cx (hs pins s2 σ H2 x y v ov iv u _ I2 r1 r2 r q2) fun _ s3 ⟨H3,I3,q3⟩=>?_))))
 exact wpAny_release ⟨σ,H3,I3,q3⟩
def FX (te:TE) (g:TG):TS:=fun D σ H=>te σ H fun x H1=>g x σ H1 D.nx
theorem iR {tg e:Expr} {te:TE} {g:TG} (he:PE X e te) (hg:PG X tg g) (hs:swapsWithSole [tg] e pos.line X.env=pure false:=by rfl) (hw:swappedStores [tg] e X.env=pure none:=by rfl)
  (h1:(assignEach [tg] X.env).map (·.2)=[assign tg X.env]:=by rfl):PS X (.Assign [tg] e pos) (FX te g):=by
 intro pins s σ H D I h
 refine wpAny_Assign_stores (cx (he pins s σ H _ I h) fun v s1 ⟨x,H1,I1,r1,q1⟩=>?_) hs hw
 rw[h1]
 exact cx (hg pins s1 σ H1 x v _ I1 r1 q1) fun _ s2 q=>q
theorem aq {i:Nat} {x:Str} {e:Expr} {te:TE} {pos':Pos} (hN:X.N.Nodup) (hi:X.N[i]? =some x) (hx:Loc X.env.scope x) (he:PE X e te) (hs:swapsWith e (some (.Name x pos')) pos.line X.env=pure false:=by rfl) (hf:X.fn x=true\/X.env.scope.names.lookup x=some .local:=by first | exact .inl rfl | exact .inr rfl | assumption):
  PS X (.Assign [.Name x pos'] e pos) (FX te (u5 i)):=by
 intro pins s σ H D I h
 refine wpAny_Assign_Name (cx (he pins s σ H _ I h) fun v s1 ⟨y,H1,I1,r1,q1⟩=>?_) hs
 exact eh I1 hN hi hx r1 (fun s2 I2=>⟨_,H1,I2,q1⟩) hf
def R3 (i j:Nat) (ta:TA):TS:=fun D σ H=>ta σ H fun vs H1=> ∃v w,vs=[v,w]/\D.nx ((σ.set i (some v)).set j (some w)) H1
theorem xq {i j:Nat} {x y:Str} {a b:Expr} {ta:TA} {px py pt:Pos} {kt k2 JA} (hc:X.calm=true) (hN:X.N.Nodup) (hi:X.N[i]? =some x) (hj:X.N[j]? =some y) (N3:i≠j)
  (hx:X.env.scope.names.lookup x=some .local) (hy:X.env.scope.names.lookup y=some .local) (ha:PA X [a,b] ta)
  (hw:swappedStores [.Tuple [.Name x px, .Name y py] kt pt] (.Tuple [a,b] k2 JA) X.env=pure (some [x,y]))
  (hs:swapsWithSole [.Tuple [.Name x px, .Name y py] kt pt] (.Tuple [a,b] k2 JA) pos.line X.env=pure false:=by rfl):
  PS X (.Assign [.Tuple [.Name x px, .Name y py] kt pt] (.Tuple [a,b] k2 JA) pos) (R3 i j ta):=by
 intro pins s σ H D I h
 rw[exec_Assign_arm]
 refine wpAny_bind (wpAny_standAt ?_)
 rw[hs]
 refine wpAny_bind (wpAny_pure ?_)
 rw[if_neg (by decide)]
 refine wpAny_bind (Tuple_ (cx (ha _ pins s σ H _ I h) fun us s1 ⟨vs,H1,I1,r1,q1⟩=>?_))
 obtain ⟨v,w,e1,q1⟩:=q1
 subst e1
 obtain ⟨u1,u2,rfl,rv,qm⟩: ∃u1 u2,us=[u1,u2]/\RelV v u1/\RelV w u2:=by
  cases r1 with
  | cons p q=>
   cases q with
   | cons p' q'=>
    cases q'
    exact ⟨_,_,rfl,p,p'⟩
 refine wpAny_newObj_type ?_ (by show 2<=sizeLine;decide)
 have I2:Inv X pins σ H1 { s1 with heap:=s1.heap.push { cls:= .type "tuple",data:= .seq [u1,u2].toArray } }:=I1.kept (t':=s1.toks) fun b o e=>QC _ e
 rw[hw]
 refine wpAny_bind (wpAny_pure ?_)
 show wpAny (model X.prog X.w) X.A (do rule "assign.swapped-stores";let items <-unpackItems (.ref s1.heap.objs.size) 2 none;assignInOrder [fun v=>bindName X.env y v,fun v=>bindName X.env x v] items.reverse;pure Flow.next) _ _ _
 refine wpAny_bind (wpAny_rule (wpAny_bind (unpackItems_tuple (items:= #[u1,u2]) (I.ok.hd hc) (IsTup.new s1.heap _) fun h' Ft=>?_)))
 have I3:=I2.kept (h':=h') (t':=s1.toks) fun b o e=>Ft b o (Zu (Zr e)) e
 show wpAny _ _ (assignInOrder [fun v=>bindName X.env y v,fun v=>bindName X.env x v] [u2,u1] >>= fun _=>pure Flow.next) _ _ _
 refine wpAny_bind (assignInOrder_cons (wpAny_bindName (eh I3 hN hj (.inl hy) qm (fun s2 I4=>?_) (.inr hy))))
 refine assignInOrder_cons (wpAny_bindName (eh I4 hN hi (.inl hx) rv (fun s3 I5=>assignInOrder_nil (wpAny_pure ?_)) (.inr hx)))
 rw[Qdf _ _ (Ne.symm N3)]at I5
 exact ⟨_,H1,I5,q1⟩
def R4 (i:Nat) (te:TE) (ti:Qu):TS:=fun D σ H=> ∃x,σ[i]? =some (some x)/\te σ H fun y H1=>ti x y H1 fun z H2=>D.nx (σ.set i (some z)) H2
theorem j5 {i:Nat} {x:Str} {e:Expr} {te:TE} {op:Operator} {ti:Qu} {pos':Pos} (hN:X.N.Nodup) (hi:X.N[i]? =some x) (hx:Loc X.env.scope x) (he:PE X e te) (ho:N0 X op ti) (hf:X.fn x=true\/X.env.scope.names.lookup x=some .local:=by first | exact .inl rfl | exact .inr rfl | assumption):
  PS X (.AugAssign (.Name x pos') op e pos) (R4 i te ti):=by
 intro pins s σ H D I h
 obtain ⟨v,e1,h⟩:=h
 obtain ⟨m,hn,hl⟩:=I.loc
 have VZ:NP X.env.scope x:=by rcases hx with k | k;exact .inl k;exact .inr (.inl k)
 obtain ⟨u,r,l⟩:=hl i x v hi e1 VZ
 refine wpAny_AugAssign_Name ?_
 have go:wpAny (model X.prog X.w) X.A (eval e X.env) (fun w s₂=>wpAny (model X.prog X.w) X.A (inplaceOp op u w) (fun r s₃=>wpAny (model X.prog X.w) X.A (storeName X.env x r) (fun _=>SP X pins D .next) X.xe s₃) X.xe s₂) X.xe s:=by
  refine cx (he pins s σ H _ I h) fun w s1 ⟨y,H1,I1,r1,q1⟩=>?_
  refine cx (ho pins s1 σ H1 v y u w _ I1 r r1 q1) fun z s2 ⟨zv,H2,I2,r2,q2⟩=>?_
  exact eh I2 hN hi hx r2 (fun s3 I3=>⟨_,H2,I3,q2⟩) hf
 rcases l with ⟨hk,hm⟩ | ⟨hk,c,hc,gS⟩
 ·exact wpAny_loadName_local I.ok.kind hk hn hm go
 ·rcases hk with hk | hk
  ·exact wpAny_loadName_cell I.ok.kind hk hc gS go
  ·rcases hx with k | k
   ·have:X.env.scope.names.lookup x=some .free:=hk
    rw[k]at this;cases this
   ·have:X.env.scope.names.lookup x=some .free:=hk
    rw[k]at this;cases this
def Ug (f:Int->Int->Int):Qu:=fun x y H Q=> ∃i j,x= .int i/\y= .int j/\Q (.int (f i j)) H
theorem sE:N0 X .Add (Ug fun i j=>i+j):=by
 intro pins s σ H x y v u Q I r1 r2 h
 obtain ⟨i,j,e1,e2,q⟩:=h
 subst e1;subst e2
 obtain ⟨t,rfl⟩:=r1
 obtain ⟨t',rfl⟩:=r2
 exact iadd_int ⟨.int _,H,I.tok _,⟨_,rfl⟩,q⟩
theorem JB:N0 X .Sub (Ug fun i j=>i - j):=by
 intro pins s σ H x y v u Q I r1 r2 h
 obtain ⟨i,j,e1,e2,q⟩:=h
 subst e1;subst e2
 obtain ⟨t,rfl⟩:=r1
 obtain ⟨t',rfl⟩:=r2
 exact isub_int ⟨.int _,H,I.tok _,⟨_,rfl⟩,q⟩
end
section
variable {X:Cx} {pos:Pos}
end
structure It where
 go:Nat->Hp->Prop
 Cg:Nat->Hp->V->Hp->Prop
 stop:Nat->Hp->Prop
def m9 (X:Cx) (pins:List (Addr×Obj)) (H:Hp) (b:Addr):Prop:=
 H b=none/\b≠X.env.locals/\b∉X.fs/\(b∈X.ex\/X.s₀.heap.objs.size<=b)/\(∀x c,X.env.cells.lookup x=some c->c≠b)/\ ∀p∈X.pn++pins,p.1≠b
theorem Inv.oq {X:Cx} {pins:List (Addr×Obj)} {σ:St} {H H':Hp} {s:Shared} {b:Addr} (I:Inv X pins σ H s) (hb:s.heap.objs.size<=b) (hn:H' b=none):m9 X pins H' b:=by
 refine ⟨hn,Qcx (ZE I.lt hb),I.Jq hb, .inr (ZI I.sz hb),fun x c e z=>?_,fun p hp z=>?_⟩
 ·obtain ⟨v,q⟩:=I.cell x c e
  exact absurd (ZE q.lt (by rw[z];exact hb)) (ZS _)
 ·exact absurd (ZE (Zr (I.pin p hp).1) (by rw[z];exact hb)) (ZS _)
structure Turn (P:Program) (w:World) (K:PySem.W.Frag) (tg:Expr) (J:It) (fp:List Addr) (it:Addr) (tn:Nat->Heap->Prop):Prop where
 mem:it∈fp
 obj: ∀i h,tn i h-> ∀b∈fp, ∃o,h.get? b=some o/\ ∀v,o.data≠ .cell v
 keep: ∀i h h',tn i h->(∀b∈fp, ∀o,h.get? b=some o->h'.get? b=some o)->tn i h'
 item: ∀(X:Cx),X.prog=P->X.w=w->X.K=K->X.calm=true-> ∀(i:Nat) (pins:List (Addr×Obj)) (s:Shared) (σ:St) (H:Hp) (E:Value->Shared->Prop),Inv X pins σ H s->(∀b∈fp,m9 X pins H b)->tn i s.heap->J.go i H->
  wpAny (model P w) X.A (pyNext (.ref it)) (fun r s1=> ∃u,r=some u/\
   wpAny (model P w) X.A (letOwnedTupleGo tg (.ref it) u) (fun _ s2=> ∃x H',Inv X pins σ H' s2/\RelV x u/\J.Cg i H x H'/\tn (i+1) s2.heap/\ ∀b∈fp,H' b=none) E s1) E s
 done: ∀(X:Cx),X.prog=P->X.w=w->X.K=K->X.calm=true-> ∀(i:Nat) (pins:List (Addr×Obj)) (s:Shared) (σ:St) (H:Hp) (E:Value->Shared->Prop),Inv X pins σ H s->(∀b∈fp,m9 X pins H b)->tn i s.heap->J.stop i H->
  wpAny (model P w) X.A (pyNext (.ref it)) (fun r s1=>r=none/\Inv X pins σ H s1) E s
 self: ∀(A:Around) (i:Nat) (s:Shared) (Q:Value->Shared->Prop) (E:Value->Shared->Prop),tn i s.heap->Q (.ref it) s->wpAny (model P w) A (pyIter (.ref it)) Q E s
abbrev TI:=St->Hp->(It->Hp->Prop)->Prop
def Uh (X:Cx) (pins:List (Addr×Obj)) (σ:St) (tg:Expr) (R:It->Hp->Prop) (R5:Value) (s2:Shared):Prop:=
 ∃(it:Addr) (fp:List Addr) (tn:Nat->Heap->Prop) (J:It) (H':Hp),R5= .ref it/\Inv X pins σ H' s2/\Turn X.prog X.w X.K tg J fp it tn/\tn 0 s2.heap/\(∀b∈fp,m9 X pins H' b)/\R J H'
def PI (X:Cx) (tg iter:Expr) (wi:TI):Prop:=
 ∀(pins:List (Addr×Obj)) (s:Shared) (σ:St) (H:Hp) (R:It->Hp->Prop),Inv X pins σ H s->wi σ H R->
  wpAny (model X.prog X.w) X.A (eval iter X.env) (fun v s1=>wpAny (model X.prog X.w) X.A (pyIter v) (Uh X pins σ tg R) X.xe s1) X.xe s
theorem u6 {M:Model} {A:Around} {E:Value->Shared->Prop} {s:Shared} {tg:Expr} {it:Addr} {u:Value} {o:Obj} {n:String} {vs:Array Value} {Q:Unit->Shared->Prop} (ho:s.heap.get? it=some o) (hc:o.cls= .type n) (hd:o.data= .fields vs)
  (hn:["enumerate","zip","dict_itemiterator","dict_reverseitemiterator","odict_iterator","itertools.zip_longest","itertools.pairwise"].contains n=false) (hQ:Q () s):wpAny M A (letOwnedTupleGo tg (.ref it) u) Q E s:=by
 unfold letOwnedTupleGo
 cases tg<;>first
  | exact wpAny_pure hQ
  |(cases u<;>first
    | exact wpAny_pure hQ
    |(refine wpAny_bind (wpAny_load ho ?_)
      rw[hc,hd]
      show wpAny M A (if (["enumerate","zip","dict_itemiterator","dict_reverseitemiterator","odict_iterator","itertools.zip_longest","itertools.pairwise"].contains n&&vs[0]? ==some (rawInt _))=true then _ else _) Q E s
      rw[if_neg (by intro h;rw[hn,Bool.false_and]at h;cases h)]
      exact wpAny_pure hQ))
noncomputable def L1 (K:PySem.W.Frag) (a:Addr):It:=
 ⟨fun i H=> ∃xs x,bD K H a xs/\xs[i]? =some x,fun i H x H'=>H'=H/\ ∀xs,bD K H a xs->xs[i]? =some x,fun i H=> ∃xs,bD K H a xs/\xs.length<=i⟩
noncomputable def L3 (K:PySem.W.Frag) (a:Addr):It:=
 ⟨fun i H=> ∃xs x,cR K H a xs/\xs[i]? =some x,fun i H x H'=>H'=H/\ ∀xs,cR K H a xs->xs[i]? =some x,fun i H=> ∃xs,cR K H a xs/\xs.length<=i⟩
noncomputable def Io (lo:Int) (n:Nat):It:=⟨fun i _=>i<n,fun i H x H'=>H'=H/\x= .int (lo+i),fun i _=>n<=i⟩
theorem AO {P:Program} {w:World} {K:PySem.W.Frag} {tg:Expr} (a it:Addr):Turn P w K tg (L1 K a) [it] it (fun i h=>h.IsListIter it a i) where
 mem:=by simp
 obj:=fun i h st b hb=>by
  have e:b=it:=by simpa using hb
  subst e
  obtain ⟨o,e,c,d⟩:=st
  exact ⟨o,e,fun v z=>by rw[d]at z;cases z⟩
 keep:=fun i h h' st k=>st.at fun o e=>k it (by simp) o e
 item:=by
  intro X hP hw hK hc i pins s σ H E I hf st hg
  subst hP hw hK
  obtain ⟨xs,x,hq,hx⟩:=hg
  obtain ⟨aO,rv,p,hz⟩:=I.list hq
  obtain ⟨u,hu,ru⟩:=rv.get hx
  obtain ⟨f0,f1,f2,f3,f4,f5⟩:=hf it (by simp)
  refine wpAny_pyNext_list_item st p.isList (x:=u) (by simpa using hu) fun h' uM sb=>?_
  have I1:Inv X pins σ H { s with heap:=h' }:=I.turned (t':=s.toks) (fun b o hb e=>(sb.2 b hb).trans e) f0 f1 f3 f4 f5
  obtain ⟨o,e,c,d⟩:=id uM
  exact ⟨u,rfl,u6 (s:={ s with heap:=h' }) e c d (by decide) ⟨x,H,I1,ru,⟨rfl,fun ys hy=>by rw[I.uZ hy hq];exact hx⟩,uM,fun b hb=>(hf b hb).1⟩⟩
 done:=by
  intro X hP hw hK hc i pins s σ H E I hf st hg
  subst hP hw hK
  obtain ⟨xs,hq,hx⟩:=hg
  obtain ⟨aO,rv,p,hz⟩:=I.list hq
  obtain ⟨f0,f1,f2,f3,f4,f5⟩:=hf it (by simp)
  have hl:=rv.length
  exact wpAny_pyNext_list_end (I.ok.hd hc) st p.isList (by simp;omega) fun h' eb=>⟨rfl,I.turned (t':=s.toks) (fun b o hb e=>eb b o hb e) f0 f1 f3 f4 f5⟩
 self:=fun _ _ _ _ _ st h=>wpAny_pyIter_listiter st h
theorem xr {P:Program} {w:World} {K:PySem.W.Frag} {tg:Expr} (a it:Addr):Turn P w K tg (L3 K a) [it] it (fun i h=>h.IsTupleIter it a i) where
 mem:=by simp
 obj:=fun i h st b hb=>by
  have e:b=it:=by simpa using hb
  subst e
  obtain ⟨o,e,c,d⟩:=st
  exact ⟨o,e,fun v z=>by rw[d]at z;cases z⟩
 keep:=fun i h h' st k=>st.at fun o e=>k it (by simp) o e
 item:=by
  intro X hP hw hK hc i pins s σ H E I hf st hg
  subst hP hw hK
  obtain ⟨xs,x,hq,hx⟩:=hg
  obtain ⟨aO,rv,p,hz⟩:=I.tuple hq
  obtain ⟨u,hu,ru⟩:=rv.get hx
  obtain ⟨f0,f1,f2,f3,f4,f5⟩:=hf it (by simp)
  refine wpAny_pyNext_tuple_item st (show s.heap.IsTuple a aO.toArray from p) (x:=u) (by simpa using hu) fun h' uM sb=>?_
  have I1:Inv X pins σ H { s with heap:=h' }:=I.turned (t':=s.toks) (fun b o hb e=>(sb.2 b hb).trans e) f0 f1 f3 f4 f5
  obtain ⟨o,e,c,d⟩:=id uM
  exact ⟨u,rfl,u6 (s:={ s with heap:=h' }) e c d (by decide) ⟨x,H,I1,ru,⟨rfl,fun ys hy=>by rw[I.qM hy hq];exact hx⟩,uM,fun b hb=>(hf b hb).1⟩⟩
 done:=by
  intro X hP hw hK hc i pins s σ H E I hf st hg
  subst hP hw hK
  obtain ⟨xs,hq,hx⟩:=hg
  obtain ⟨aO,rv,p,hz⟩:=I.tuple hq
  obtain ⟨f0,f1,f2,f3,f4,f5⟩:=hf it (by simp)
  have hl:=rv.length
  exact wpAny_pyNext_tuple_end (I.ok.hd hc) st (show s.heap.IsTuple a aO.toArray from p) (by simp;omega) fun h' eb=>⟨rfl,I.turned (t':=s.toks) (fun b o hb e=>eb b o hb e) f0 f1 f3 f4 f5⟩
 self:=fun _ _ _ _ _ st h=>wpAny_pyIter_tupleiter st h
theorem xt {P:Program} {w:World} {K:PySem.W.Frag} {tg:Expr} (it:Addr) (lo:Int) (n:Nat):Turn P w K tg (Io lo n) [it] it (fun i h=>IsRangeIter h it (lo+(i:Nat)*1) ((n:Int) - (i:Nat)) 1) where
 mem:=by simp
 obj:=fun i h st b hb=>by
  have e:b=it:=by simpa using hb
  subst e
  exact ⟨_,st,fun v z=>by
   have z':Data.fields _=Data.cell v:=z
   cases z'⟩
 keep:=fun i h h' st k=>k it (by simp) _ st
 item:=by
  intro X hP hw hK hc i pins s σ H E I hf st hg
  subst hP hw hK
  obtain ⟨f0,f1,f2,f3,f4,f5⟩:=hf it (by simp)
  have W:=Walks.range (prog:=X.prog) (w:=X.w) (I.ok.hd hc) it lo 1 n
  refine W.item i s _ _ hg st fun v h' tk hv uM kk=>?_
  obtain ⟨t,rfl⟩:=hv
  have I1:Inv X pins σ H { s with heap:=h',toks:=tk }:=I.turned (fun b o hb e=>kk b o (by simpa using hb) e) f0 f1 f3 f4 f5
  refine ⟨_,rfl,u6 (s:={ s with heap:=h',toks:=tk }) (n:="range_iterator") uM rfl rfl (by decide) ⟨.int (lo+i),H,I1,⟨t,?_⟩,⟨rfl,rfl⟩,uM,fun b hb=>(hf b hb).1⟩⟩
  rw[Int.mul_one]
 done:=by
  intro X hP hw hK hc i pins s σ H E I hf st hg
  subst hP hw hK
  obtain ⟨f0,f1,f2,f3,f4,f5⟩:=hf it (by simp)
  exact wpAny_pyNext_range_end (I.ok.hd hc) st (by have:n<=i:=hg;omega) fun h' eb=>⟨rfl,I.turned (t':=s.toks) (fun b o hb e=>eb b o hb e) f0 f1 f3 f4 f5⟩
 self:=fun _ _ _ _ _ st h=>wpAny_pyIter_rangeiter st h
section
variable {X:Cx} {tg:Expr}
def Ip (K:PySem.W.Frag) (tl:TE):TI:=fun σ H R=>tl σ H fun x H1=> ∃a,x= .ref a/\(∃xs,bD K H1 a xs)/\R (L1 K a) H1
def N4 (K:PySem.W.Frag) (tl:TE):TI:=fun σ H R=>tl σ H fun x H1=> ∃a,x= .ref a/\(∃xs,cR K H1 a xs)/\R (L3 K a) H1
theorem FY {l:Expr} {tl:TE} (hl:PE X l tl):PI X tg l (Ip X.K tl):=by
 intro pins s σ H R I h
 refine cx (hl pins s σ H _ I h) fun v s1 ⟨x,H1,I1,r1,q1⟩=>?_
 obtain ⟨a,e,⟨xs,hq⟩,q⟩:=q1
 subst e
 cases r1
 obtain ⟨aO,rv,p,hz⟩:=I1.list hq
 refine wpAny_pyIter_list p.isList ?_
 refine ⟨s1.heap.objs.size,[s1.heap.objs.size],_,_,H1,rfl,I1.kept (t':=s1.toks) fun b o e=>QC _ e,AO a _,⟨_,Zq _ rfl,rfl,rfl⟩,fun b hb=>?_,q⟩
 have e:b=s1.heap.objs.size:=by simpa using hb
 subst e
 exact I1.oq (Ur _) (I1.b6.fresh (Ur _))
theorem JC {l:Expr} {tl:TE} (hl:PE X l tl):PI X tg l (N4 X.K tl):=by
 intro pins s σ H R I h
 refine cx (hl pins s σ H _ I h) fun v s1 ⟨x,H1,I1,r1,q1⟩=>?_
 obtain ⟨a,e,⟨xs,hq⟩,q⟩:=q1
 subst e
 cases r1
 obtain ⟨aO,rv,p,hz⟩:=I1.tuple hq
 refine wpAny_pyIter_tuple (show s1.heap.IsTuple a aO.toArray from p) ?_
 refine ⟨s1.heap.objs.size,[s1.heap.objs.size],_,_,H1,rfl,I1.kept (t':=s1.toks) fun b o e=>QC _ e,xr a _,⟨_,Zq _ rfl,rfl,rfl⟩,fun b hb=>?_,q⟩
 have e:b=s1.heap.objs.size:=by simpa using hb
 subst e
 exact I1.oq (Ur _) (I1.b6.fresh (Ur _))
theorem u7 {pins:List (Addr×Obj)} {σ:St} {H:Hp} {s:Shared} {R:It->Hp->Prop} {E:Value->Shared->Prop} {lo hi:Int} {t u v:Tok} {tk:Nat} (I:Inv X pins σ H s) (h1: -(2 ^ 62)<=lo) (h2:lo<2 ^ 62) (h3: -(2 ^ 62)<=hi) (h4:hi<2 ^ 62)
  (q:R (Io lo (hi - lo).toNat) H):wpAny (model X.prog X.w) X.A (pyIter (.ref s.heap.objs.size)) (Uh X pins σ tg R) E { s with heap:=s.heap.push { cls:= .type "range",data:= .fields #[.int lo t, .int hi u, .int 1 v] },toks:=tk }:=by
 refine wpAny_pyIter_range (IsRange.new ..) (small_one h1 h2 h3 h4) ?_
 have I1:Inv X pins σ H { s with heap:=s.heap.push { cls:= .type "range",data:= .fields #[.int lo t, .int hi u, .int 1 v] },toks:=tk }:=I.kept fun b o e=>QC _ e
 refine ⟨(s.heap.push { cls:= .type "range",data:= .fields #[.int lo t, .int hi u, .int 1 v] }).objs.size,[(s.heap.push { cls:= .type "range",data:= .fields #[.int lo t, .int hi u, .int 1 v] }).objs.size],_,_,H,rfl,
  I1.kept (t':=tk) fun b o e=>QC _ e,xt _ lo (hi - lo).toNat,?_,fun b hb=>?_,q⟩
 ·have e1:lo+((0:Nat):Int)*1=lo:=by simp
  have e2:(((hi - lo).toNat:Nat):Int) - ((0:Nat):Int)=Builtin.Range.rangeSize lo hi 1:=by rw[rangeSize_one];split<;>omega
  show IsRangeIter _ _ (lo+((0:Nat):Int)*1) ((((hi - lo).toNat:Nat):Int) - ((0:Nat):Int)) 1
  rw[e1,e2]
  exact Zq _ rfl
 ·have e:b=(s.heap.push { cls:= .type "range",data:= .fields #[.int lo t, .int hi u, .int 1 v] }).objs.size:=by simpa using hb
  subst e
  exact I1.oq (Ur _) (I1.b6.fresh (Ur _))
def N5 (ta:TA):TI:=fun σ H R=>ta σ H fun vs H1=> ∃j:Int,vs=[.int j]/\ -(2 ^ 62)<=j/\j<2 ^ 62/\R (Io 0 j.toNat) H1
def N6 (ta:TA):TI:=fun σ H R=>ta σ H fun vs H1=> ∃i j:Int,vs=[.int i, .int j]/\(-(2 ^ 62)<=i/\i<2 ^ 62/\ -(2 ^ 62)<=j/\j<2 ^ 62)/\R (Io i (j - i).toNat) H1
theorem dq {a:Expr} {ta:TA} {p pos:Pos} (hg:Gl X "range") (hm:X.mg "range"=none) (ha:PA X [a] ta) (hs:starEach [a] X.env=[(false,eval a X.env)]:=by rfl):PI X tg (.Call (.Name "range" p) [a] [] pos) (N5 ta):=by
 intro pins s σ H R I h
 refine Call_ (fV I hg hm boot_range (Z4 (cx (ha pos pins s σ H _ I h) fun us s1 ⟨vs,H1,I1,r1,q1⟩=>?_) hs rfl))
 obtain ⟨j,e,q1,q2,q⟩:=q1
 subst e
 cases r1 with
 | cons r rr=>
  cases rr
  obtain ⟨t,rfl⟩:=r
  exact call_range_1 (u7 I1 (by omega) (by omega) q1 q2 (by simpa using q))
theorem qN {a b:Expr} {ta:TA} {p pos:Pos} (hg:Gl X "range") (hm:X.mg "range"=none) (ha:PA X [a,b] ta) (hs:starEach [a,b] X.env=[(false,eval a X.env),(false,eval b X.env)]:=by rfl) (JD:starEach [b] X.env=[(false,eval b X.env)]:=by rfl):
  PI X tg (.Call (.Name "range" p) [a,b] [] pos) (N6 ta):=by
 intro pins s σ H R I h
 refine Call_ (fV I hg hm boot_range (Z4 (cx (ha pos pins s σ H _ I h) fun us s1 ⟨vs,H1,I1,r1,q1⟩=>?_) (by rw[hs,JD]) (by rw[JD];rfl)))
 obtain ⟨i,j,e,⟨q1,q2,q3,q4⟩,q⟩:=q1
 subst e
 cases r1 with
 | cons r rr=>
  cases rr with
  | cons r' rr=>
   cases rr
   obtain ⟨t,rfl⟩:=r
   obtain ⟨t',rfl⟩:=r'
   exact call_range_2 (u7 I1 q1 q2 q3 q4 q)
def R6 (wi:TI) (g:TG) (tb:TS):TS:=fun D σ H=>wi σ H fun J H1=> ∃W:Nat->Nat->St->Hp->Prop,(∃m,W 0 m σ H1)/\ ∀i m σ H,W i m σ H->
 (J.stop i H/\D.nx σ H)\/(J.go i H/\ ∃N:St->Hp->Prop,(∀σ' H',N σ' H'-> ∃m',m'<m/\W (i+1) m' σ' H')/\ ∀x H',J.Cg i H x H'->g x σ H' fun σ2 H2=>tb { D with nx:=N,ct:=N,bk:=D.nx } σ2 H2)
noncomputable def ou (fp:List Addr) (h:Heap):List (Addr×Obj):=fp.filterMap fun b=>(h.get? b).map fun o=>(b,o)
theorem hV {fp:List Addr} {h:Heap} {b:Addr} {o:Obj} (hb:b∈fp) (e:h.get? b=some o):(b,o)∈ou fp h:=List.mem_filterMap.mpr ⟨b,hb,by rw[e];rfl⟩
theorem AQ {fp:List Addr} {h:Heap} {p:Addr×Obj} (hp:p∈ou fp h):p.1∈fp/\h.get? p.1=some p.2:=by
 obtain ⟨b,hb,e⟩:=List.mem_filterMap.mp hp
 cases q:h.get? b with
 | none=>rw[q]at e;cases e
 | some o=>
  rw[q]at e
  have e':(b,o)=p:=YS e
  subst e'
  exact ⟨hb,q⟩
theorem Inv.pinned {pins:List (Addr×Obj)} {σ:St} {H:Hp} {s:Shared} {fp:List Addr} (I:Inv X pins σ H s) (hf: ∀b∈fp,m9 X pins H b) (ho: ∀b∈fp, ∃o,s.heap.get? b=some o/\ ∀v,o.data≠ .cell v):Inv X (pins++ou fp s.heap) σ H s:=
 I.kz fun p hp=>(Zx.mp hp).elim (fun z=>I.pin p (ZD _ z)) fun z=>by
  obtain ⟨hb,e⟩:=AQ z
  obtain ⟨f0,f1,f2,_⟩:=hf p.1 hb
  obtain ⟨o,e',d⟩:=ho p.1 hb
  rw[e]at e';cases e'
  exact ⟨e,f0,f1,f2,d⟩
theorem Inv.iS {pins pl:List (Addr×Obj)} {σ:St} {H:Hp} {s:Shared} (I:Inv X (pins++pl) σ H s):Inv X pins σ H s:=I.kz fun p hp=>I.pin p (ZD _ (Qae _ hp))
theorem cE {iter:Expr} {body:List Stmt} {wi:TI} {g:TG} {tb:TS} {pos:Pos} (hp:PassesOwn (model X.prog X.w) X.A X.env X.xe) (hc:X.calm=true) (hi:PI X tg iter wi) (hg:PG X tg g) (hb:xn X body tb)
  (hs: ∀x,foldedSetIterable iter X.env x=pure x:=by intro _;rfl):PS X (.For tg iter body [] pos) (R6 wi g tb):=by
 intro pins s σ H D I h
 refine wpAny_For (cx (hi pins s σ H _ I h) fun v s1 h1=>cx h1 fun R5 s2 h2=>?_) hs
 obtain ⟨it,fp,tn,J,H2,e,I2,T,w_,f2,W,⟨m0,w0⟩,turn⟩:=h2
 subst e
 -- V0 stays true of Fu JE objects through Fu loop
 have JF: ∀{H':Hp},(∀b∈fp,H' b=none)-> ∀b∈fp,m9 X pins H' b:=fun hn b hb=>⟨hn b hb,(f2 b hb).2⟩
 refine codeAny_forLoop_any (fun n s'=> ∃i σ' H',Inv X pins σ' H' s'/\tn i s'.heap/\(∀b∈fp,H' b=none)/\W i n σ' H') ?_ m0 ⟨0,σ,H2,I2,w_,fun b hb=>(f2 b hb).1,w0⟩
 rintro n s3 ⟨i,σ3,H3,I3,N7,N8,w3⟩
 rcases turn i n σ3 H3 w3 with ⟨stop,qn⟩ | ⟨go,N,hN,step⟩
 ·refine wpAny_passesOwn hp (cx (T.done X rfl rfl rfl hc i pins s3 σ3 H3 X.xe I3 (JF N8) N7 stop) fun r s4 ⟨hr,I4⟩=>?_)
  subst hr
  exact wpAny_execs_nil ⟨σ3,H3,I4,qn⟩
 ·refine wpAny_passesOwn hp (cx (T.item X rfl rfl rfl hc i pins s3 σ3 H3 X.xe I3 (JF N8) N7 go) fun r s4 ⟨u,hr,h4⟩=>?_)
  subst hr
  refine wpAny_passesOwn hp (cx h4 fun _ s5 ⟨x,H5,I5,r5,y5,JG,R7⟩=>?_)
  have R8:=I5.pinned (JF R7) (T.obj _ _ JG)
  refine wpAny_passesOwn hp (cx (hg _ s5 σ3 H5 x u _ R8 r5 (step x H5 y5)) fun _ s6 ⟨σ6,H6,I6,q6⟩=>?_)
  refine wpAny_passesOwn hp (cx (hb _ s6 σ6 H6 _ I6 q6) fun f s7 q7=>?_)
  have again: ∀{σ7:St} {H7:Hp},Inv X (pins++ou fp s5.heap) σ7 H7 s7->N σ7 H7-> ∃m,m<n/\ ∃i σ' H',Inv X pins σ' H' s7/\tn i s7.heap/\(∀b∈fp,H' b=none)/\W i m σ' H':=fun {σ7 H7} I7 n7=>by
   obtain ⟨m',hm,w7⟩:=hN σ7 H7 n7
   refine ⟨m',hm,i+1,σ7,H7,I7.iS,T.keep _ _ _ JG fun b hb o e=>(I7.pin (b,o) (ZD _ (ZD _ (hV hb e)))).1,fun b hb=>?_,w7⟩
   obtain ⟨o,e,d⟩:=T.obj _ _ JG b hb
   exact (I7.pin (b,o) (ZD _ (ZD _ (hV hb e)))).2.1
  cases f with
  | next=>obtain ⟨σ7,H7,I7,n7⟩:=q7;exact again I7 n7
  | cont=>obtain ⟨σ7,H7,I7,n7⟩:=q7;exact again I7 n7
  | brk=>obtain ⟨σ7,H7,I7,q7⟩:=q7;exact ⟨σ7,H7,I7.iS,q7⟩
  | ret v=>obtain ⟨x7,σ7,H7,I7,r7,q7⟩:=q7;exact ⟨x7,σ7,H7,I7.iS,r7,q7⟩
end
theorem gT {K:PySem.W.Frag} {a:Addr} {xs:List V} {g:TG} {tb:TS} {D:Ends} {σ:St} {H:Hp} (Pv:Nat->St->Hp->Prop) (h0:Pv 0 σ H) (hl: ∀i σ H,i<=xs.length->Pv i σ H->bD K H a xs)
  (hs: ∀i x σ H,xs[i]? =some x->Pv i σ H->g x σ H fun σ2 H2=>tb { D with nx:=Pv (i+1),ct:=Pv (i+1),bk:=D.nx } σ2 H2) (hd: ∀σ H,Pv xs.length σ H->D.nx σ H):
  ∃W:Nat->Nat->St->Hp->Prop,(∃m,W 0 m σ H)/\ ∀i m σ H,W i m σ H->
   ((L1 K a).stop i H/\D.nx σ H)\/((L1 K a).go i H/\ ∃N:St->Hp->Prop,(∀σ' H',N σ' H'-> ∃m',m'<m/\W (i+1) m' σ' H')/\ ∀x H',(L1 K a).Cg i H x H'->g x σ H' fun σ2 H2=>tb { D with nx:=N,ct:=N,bk:=D.nx } σ2 H2):=by
 refine ⟨fun i m σ H=>m=xs.length - i/\i<=xs.length/\Pv i σ H,⟨xs.length,by simp,YU _,h0⟩,?_⟩
 rintro i m σ H ⟨rfl,hi,p⟩
 have q:=hl i σ H hi p
 by_cases cC:i<xs.length
 ·refine .inr ⟨⟨xs,xs[i],q,by simp[cC]⟩,Pv (i+1),fun σ' H' p'=>⟨xs.length - (i+1),by omega,rfl,cC,p'⟩,fun x H' y=>?_⟩
  obtain ⟨e,y⟩:=y
  subst e
  exact hs i x σ _ (y xs q) p
 ·have e:i=xs.length:=by omega
  subst e
  exact .inl ⟨⟨xs,q,Ur _⟩,hd σ H p⟩
theorem FZ {K:PySem.W.Frag} {a:Addr} {xs:List V} {g:TG} {tb:TS} {D:Ends} {σ:St} {H:Hp} (Pv:Nat->St->Hp->Prop) (h0:Pv 0 σ H) (hl: ∀i σ H,i<=xs.length->Pv i σ H->cR K H a xs)
  (hs: ∀i x σ H,xs[i]? =some x->Pv i σ H->g x σ H fun σ2 H2=>tb { D with nx:=Pv (i+1),ct:=Pv (i+1),bk:=D.nx } σ2 H2) (hd: ∀σ H,Pv xs.length σ H->D.nx σ H):
  ∃W:Nat->Nat->St->Hp->Prop,(∃m,W 0 m σ H)/\ ∀i m σ H,W i m σ H->
   ((L3 K a).stop i H/\D.nx σ H)\/((L3 K a).go i H/\ ∃N:St->Hp->Prop,(∀σ' H',N σ' H'-> ∃m',m'<m/\W (i+1) m' σ' H')/\ ∀x H',(L3 K a).Cg i H x H'->g x σ H' fun σ2 H2=>tb { D with nx:=N,ct:=N,bk:=D.nx } σ2 H2):=by
 refine ⟨fun i m σ H=>m=xs.length - i/\i<=xs.length/\Pv i σ H,⟨xs.length,by simp,YU _,h0⟩,?_⟩
 rintro i m σ H ⟨rfl,hi,p⟩
 have q:=hl i σ H hi p
 by_cases cC:i<xs.length
 ·refine .inr ⟨⟨xs,xs[i],q,by simp[cC]⟩,Pv (i+1),fun σ' H' p'=>⟨xs.length - (i+1),by omega,rfl,cC,p'⟩,fun x H' y=>?_⟩
  obtain ⟨e,y⟩:=y
  subst e
  exact hs i x σ _ (y xs q) p
 ·have e:i=xs.length:=by omega
  subst e
  exact .inl ⟨⟨xs,q,Ur _⟩,hd σ H p⟩
theorem fT {lo:Int} {n:Nat} {g:TG} {tb:TS} {D:Ends} {σ:St} {H:Hp} (Pv:Nat->St->Hp->Prop) (h0:Pv 0 σ H)
  (hs: ∀i σ H,i<n->Pv i σ H->g (.int (lo+i)) σ H fun σ2 H2=>tb { D with nx:=Pv (i+1),ct:=Pv (i+1),bk:=D.nx } σ2 H2) (hd: ∀σ H,Pv n σ H->D.nx σ H):
  ∃W:Nat->Nat->St->Hp->Prop,(∃m,W 0 m σ H)/\ ∀i m σ H,W i m σ H->
   ((Io lo n).stop i H/\D.nx σ H)\/((Io lo n).go i H/\ ∃N:St->Hp->Prop,(∀σ' H',N σ' H'-> ∃m',m'<m/\W (i+1) m' σ' H')/\ ∀x H',(Io lo n).Cg i H x H'->g x σ H' fun σ2 H2=>tb { D with nx:=N,ct:=N,bk:=D.nx } σ2 H2):=by
 refine ⟨fun i m σ H=>m=n - i/\i<=n/\Pv i σ H,⟨n,by simp,YU _,h0⟩,?_⟩
 rintro i m σ H ⟨rfl,hi,p⟩
 by_cases cC:i<n
 ·refine .inr ⟨cC,Pv (i+1),fun σ' H' p'=>⟨n - (i+1),by omega,rfl,cC,p'⟩,fun x H' y=>?_⟩
  obtain ⟨e,y⟩:=y
  subst e y
  exact hs i σ _ cC p
 ·have e:i=n:=by omega
  subst e
  exact .inl ⟨Ur _,hd σ H p⟩
abbrev R2:=V->V->Hp->VK->Prop
def iL (X:Cx) (f:Value->Value->Sem Value) (r:R2):Prop:=
 ∀(pins:List (Addr×Obj)) (s:Shared) (σ:St) (H:Hp) (x y:V) (v u:Value) (Q:VK),Inv X pins σ H s->RelV x v->RelV y u->r x y H Q->
  wpAny (model X.prog X.w) X.A (f v u) (EP X pins σ Q) X.xe s
def R9 (X:Cx) (f:Value->Sem Value) (r:V->Hp->VK->Prop):Prop:=
 ∀(pins:List (Addr×Obj)) (s:Shared) (σ:St) (H:Hp) (x:V) (v:Value) (Q:VK),Inv X pins σ H s->RelV x v->r x H Q->
  wpAny (model X.prog X.w) X.A (f v) (EP X pins σ Q) X.xe s
def dh (X:Cx) (f:Value) (r:List V->Hp->VK->Prop):Prop:=
 ∀(pins:List (Addr×Obj)) (s:Shared) (σ:St) (H:Hp) (xs:List V) (us:List Value) (Q:VK),Inv X pins σ H s->Vals xs us->r xs H Q->
  wpAny (model X.prog X.w) X.A (call f us) (EP X pins σ Q) X.xe s
def R_ (X:Cx) (r:V->Hp->(Bool->Hp->Prop)->Prop):Prop:=
 ∀(pins:List (Addr×Obj)) (s:Shared) (σ:St) (H:Hp) (x:V) (v:Value) (Q:Bool->Hp->Prop),Inv X pins σ H s->RelV x v->r x H Q->
  wpAny (model X.prog X.w) X.A (truthy v) (TP X pins σ Q) X.xe s
def Qv (r:R2) (ta tb:TE):TE:=fun σ H Q=>ta σ H fun x H1=>tb σ H1 fun y H2=>r x y H2 Q
def V1 (r:V->Hp->VK->Prop) (ta:TE):TE:=fun σ H Q=>ta σ H fun x H1=>r x H1 Q
def rI (C:Int->Int->Prop) (g:Int->Int->V):R2:=fun x y H Q=> ∃i j,x= .int i/\y= .int j/\C i j/\Q (g i j) H
def F_ (g:Int->Int->V):R2:=fun x y H Q=> ∃i j,x= .int i/\y= .int j/\Q (g i j) H
def rU (g:Int->V):V->Hp->VK->Prop:=fun x H Q=> ∃i,x= .int i/\Q (g i) H
section
variable {X:Cx} {a b c:Expr} {ta tb tc:TE} {pos:Pos}
theorem JH (ha:PE X a ta) (hb:PE X b tb) {pins:List (Addr×Obj)} {s:Shared} {σ:St} {H:Hp} {R:V->V->Hp->Prop} (I:Inv X pins σ H s)
  (h:ta σ H fun x H1=>tb σ H1 fun y H2=>R x y H2) {Q:Value->Shared->Prop} {f:Value->Value->Sem Value}
  (hf: ∀v u s2 x y H2,Inv X pins σ H2 s2->RelV x v->RelV y u->R x y H2->wpAny (model X.prog X.w) X.A (f v u) Q X.xe s2):
  wpAny (model X.prog X.w) X.A (eval a X.env) (fun v s₁=>wpAny (model X.prog X.w) X.A (eval b X.env) (fun u s₂=>wpAny (model X.prog X.w) X.A (f v u) Q X.xe s₂) X.xe s₁) X.xe s:=by
 refine cx (ha pins s σ H _ I h) fun v s1 ⟨x,H1,I1,r1,q1⟩=>?_
 refine cx (hb pins s1 σ H1 _ I1 q1) fun u s2 ⟨y,H2,I2,r2,q2⟩=>?_
 exact hf v u s2 x y H2 I2 r1 r2 q2
theorem az {op:Operator} {r:R2} (ho:iL X (binaryOp op) r) (ha:PE X a ta) (hb:PE X b tb):PE X (.BinOp a op b pos) (Qv r ta tb):=by
 intro pins s σ H Q I h
 exact wpAny_BinOp (JH ha hb I h fun v u s2 x y H2 I2 rx ry q=>ho pins s2 σ H2 x y v u Q I2 rx ry q)
theorem fW {op:UnaryOp} {r:V->Hp->VK->Prop} (ho:R9 X (unaryOp op) r) (ha:PE X a ta):PE X (.UnaryOp op a pos) (V1 r ta):=by
 intro pins s σ H Q I h
 exact UnaryOp_ (cx (ha pins s σ H _ I h) fun v s1 ⟨x,H1,I1,r1,q1⟩=>ho pins s1 σ H1 x v Q I1 r1 q1)
theorem Qw {f:Value->Value->Sem Value} {C:Int->Int->Prop} {g:Int->Int->Int}
  (rule: ∀(i j:Int) (t u:Tok) (s:Shared) (Q:Value->Shared->Prop) (E:Value->Shared->Prop),C i j->Q (.int (g i j) s.toks) { s with toks:=s.toks+1 }->wpAny (model X.prog X.w) X.A (f (.int i t) (.int j u)) Q E s):
  iL X f (rI C fun i j=> .int (g i j)):=by
 intro pins s σ H x y v u Q I rx ry h
 obtain ⟨i,j,rfl,rfl,hc,q⟩:=h
 obtain ⟨t,rfl⟩:=rx
 obtain ⟨t',rfl⟩:=ry
 exact rule i j t t' s _ _ hc ⟨.int (g i j),H,I.tok _,⟨_,rfl⟩,q⟩
theorem N9 {f:Value->Value->Sem Value} {g:Int->Int->Int}
  (rule: ∀(i j:Int) (t u:Tok) (s:Shared) (Q:Value->Shared->Prop) (E:Value->Shared->Prop),Q (.int (g i j) s.toks) { s with toks:=s.toks+1 }->wpAny (model X.prog X.w) X.A (f (.int i t) (.int j u)) Q E s):
  iL X f (F_ fun i j=> .int (g i j)):=by
 intro pins s σ H x y v u Q I rx ry h
 obtain ⟨i,j,rfl,rfl,q⟩:=h
 obtain ⟨t,rfl⟩:=rx
 obtain ⟨t',rfl⟩:=ry
 exact rule i j t t' s _ _ ⟨.int (g i j),H,I.tok _,⟨_,rfl⟩,q⟩
theorem Ga {f:Value->Value->Sem Value} {g:Int->Int->Bool}
  (rule: ∀(i j:Int) (t u:Tok) (s:Shared) (Q:Value->Shared->Prop) (E:Value->Shared->Prop),Q (.bool (g i j)) s->wpAny (model X.prog X.w) X.A (f (.int i t) (.int j u)) Q E s):
  iL X f (F_ fun i j=> .bl (g i j)):=by
 intro pins s σ H x y v u Q I rx ry h
 obtain ⟨i,j,rfl,rfl,q⟩:=h
 obtain ⟨t,rfl⟩:=rx
 obtain ⟨t',rfl⟩:=ry
 exact rule i j t t' s _ _ ⟨.bl (g i j),H,I,rfl,q⟩
def Sa (i j:Int):Prop:=0<j/\j<1073741824
def Sb (i j:Int):Prop:=0<=j/\j<=1000000/\i.natAbs<2 ^ 64
def Gb (i j:Int):Prop:=(-(2 ^ 64)<i/\i<2 ^ 64)\/(-(2 ^ 64)<j/\j<2 ^ 64)
theorem Gb.ok {i j:Int} (h:Gb i j):IntMulOk i j:=by
 rcases h with ⟨h1,h2⟩ | ⟨h1,h2⟩
 ·exact .of_left (intBits_le_64 h1 h2)
 ·exact .of_right (intBits_le_64 h1 h2)
theorem aW:iL X (binaryOp .Add) (F_ fun i j=> .int (i+j)):=N9 fun _ _ _ _ _ _ _ q=>add_int q
theorem cf:iL X (binaryOp .Sub) (F_ fun i j=> .int (i - j)):=N9 fun _ _ _ _ _ _ _ q=>sub_int q
theorem hX:iL X (binaryOp .Mult) (rI Gb fun i j=> .int (i*j)):=Qw fun _ _ _ _ _ _ _ hc q=>mul_int q hc.ok
theorem eB:iL X (binaryOp .Mod) (rI (fun _ j=>0<j) fun i j=> .int (i%j)):=Qw fun i j _ _ _ _ _ hc q=>by
 have h1:(0:Int)<j:=hc
 exact mod_int' (by omega) (by rw[Int.fmod_eq_emod_of_nonneg i (by omega)];exact q)
theorem Cv:iL X (binaryOp .Pow) (rI Sb fun i j=> .int (i ^ j.toNat)):=Qw fun _ _ _ _ _ _ _ hc q=>pow_int_small hc.1 hc.2.1 hc.2.2 q
theorem V2 {f:Value->Sem Value} {g:Int->Int}
  (rule: ∀(i:Int) (t:Tok) (s:Shared) (Q:Value->Shared->Prop) (E:Value->Shared->Prop),Q (.int (g i) s.toks) { s with toks:=s.toks+1 }->wpAny (model X.prog X.w) X.A (f (.int i t)) Q E s):
  R9 X f (rU fun i=> .int (g i)):=by
 intro pins s σ H x v Q I rx h
 obtain ⟨i,rfl,q⟩:=h
 obtain ⟨t,rfl⟩:=rx
 exact rule i t s _ _ ⟨.int (g i),H,I.tok _,⟨_,rfl⟩,q⟩
theorem dN:R9 X (unaryOp .USub) (rU fun i=> .int (-i)):=V2 fun _ _ _ _ _ q=>neg_int q
end
noncomputable def N_:V->V->Bool
 | .fH, .fH=>true | .fH, .int _=>true | .int _, .fH=>true | .fH, .bl _=>true | .bl _, .fH=>true | .fH, .str _=>true | .str _, .fH=>true
 | .int _, .int _=>true | .bl _, .bl _=>true | .str _, .str _=>true | .zk _, .zk _=>true
 | .int _, .str _=>true | .str _, .int _=>true | .bl _, .str _=>true | .str _, .bl _=>true
 | _,_=>false
def V3:R2:=fun x y H Q=>N_ x y=true/\Q (.bl (decide (x=y))) H
def V4:R2:=fun x y H Q=>N_ x y=true/\Q (.bl (!decide (x=y))) H
theorem zw {i j:Int}:decide (V.int i=V.int j)=(i==j):=by
 rw[Qbx]
 simp
theorem Cw {i j:Bool}:decide (V.bl i=V.bl j)=(i==j):=by
 rw[Qbx]
 simp
theorem zx {i j:Str}:decide (V.str i=V.str j)=(i==j):=by
 rw[Qbx]
 simp
theorem zy {i j:Array UInt8}:decide (V.zk i=V.zk j)=(i.toList==j.toList):=by
 rw[Qbx]
 cases i
 cases j
 simp
section
variable {X:Cx} {a b c:Expr} {ta tb tc:TE} {pos:Pos}
theorem bC {pins:List (Addr×Obj)} {σ:St} {H:Hp} {s:Shared} {Q:VK} {k k':Bool} (I:Inv X pins σ H s) (q:Q (.bl k) H) (e:k=k'):EP X pins σ Q (.bool k') s:=by
 subst e
 exact ⟨.bl k,H,I,rfl,q⟩
theorem Cy:iL X (compareOp .Eq) V3:=by
 intro pins s σ H x y v u Q I rx ry h
 obtain ⟨hs,q⟩:=h
 cases x with
 | fH=>
  cases rx
  cases y with
  | fH=>cases ry;exact PySem.EqNone.eq_none_none (bC I q (by simp))
  | bl j=>cases ry;exact PySem.EqNone.eq_none_bool (bC I q (by simp))
  | int j=>obtain ⟨t',rfl⟩:=ry;exact PySem.EqNone.eq_none_int (bC I q (by simp))
  | str j=>obtain ⟨t',rfl⟩:=ry;exact PySem.EqNone.eq_none_str (bC I q (by simp))
  | _=>exact absurd (show false=true from hs) Zw
 | bl i=>
  cases rx
  cases y with
  | fH=>cases ry;exact PySem.EqNone.eq_bool_none (bC I q (by simp))
  | bl j=>cases ry;exact eq_bool (bC I q Cw)
  | str j=>obtain ⟨t',rfl⟩:=ry;exact PySem.EqMixed.eq_bool_str (bC I q (by simp))
  | _=>exact absurd (show false=true from hs) Zw
 | int i=>
  obtain ⟨t,rfl⟩:=rx
  cases y with
  | fH=>cases ry;exact PySem.EqNone.eq_int_none (bC I q (by simp))
  | int j=>obtain ⟨t',rfl⟩:=ry;exact eq_int (bC I q zw)
  | str j=>obtain ⟨t',rfl⟩:=ry;exact PySem.EqMixed.eq_int_str (bC I q (by simp))
  | _=>exact absurd (show false=true from hs) Zw
 | str i=>
  obtain ⟨t,rfl⟩:=rx
  cases y with
  | fH=>cases ry;exact PySem.EqNone.eq_str_none (bC I q (by simp))
  | bl j=>cases ry;exact PySem.EqMixed.eq_str_bool (bC I q (by simp))
  | int j=>obtain ⟨t',rfl⟩:=ry;exact PySem.EqMixed.eq_str_int (bC I q (by simp))
  | str j=>obtain ⟨t',rfl⟩:=ry;exact eq_str (bC I q zx)
  | _=>exact absurd (show false=true from hs) Zw
 | zk i=>
  obtain ⟨t,rfl⟩:=rx
  cases y with
  | zk j=>obtain ⟨t',rfl⟩:=ry;exact PySem.W.eq_bytes (bC I q zy)
  | _=>exact absurd (show false=true from hs) Zw
 | _=>cases y<;>exact absurd (show false=true from hs) Zw
theorem Iq:iL X (compareOp .NotEq) V4:=by
 intro pins s σ H x y v u Q I rx ry h
 obtain ⟨hs,q⟩:=h
 cases x with
 | fH=>
  cases rx
  cases y with
  | fH=>cases ry;exact PySem.EqNone.ne_none_none (bC I q (by simp))
  | bl j=>cases ry;exact PySem.EqNone.ne_none_bool (bC I q (by simp))
  | int j=>obtain ⟨t',rfl⟩:=ry;exact PySem.EqNone.ne_none_int (bC I q (by simp))
  | str j=>obtain ⟨t',rfl⟩:=ry;exact PySem.EqNone.ne_none_str (bC I q (by simp))
  | _=>exact absurd (show false=true from hs) Zw
 | bl i=>
  cases rx
  cases y with
  | fH=>cases ry;exact PySem.EqNone.ne_bool_none (bC I q (by simp))
  | bl j=>cases ry;exact ne_bool (bC I q (congrArg not Cw))
  | str j=>obtain ⟨t',rfl⟩:=ry;exact PySem.EqMixed.ne_bool_str (bC I q (by simp))
  | _=>exact absurd (show false=true from hs) Zw
 | int i=>
  obtain ⟨t,rfl⟩:=rx
  cases y with
  | fH=>cases ry;exact PySem.EqNone.ne_int_none (bC I q (by simp))
  | int j=>obtain ⟨t',rfl⟩:=ry;exact ne_int (bC I q (congrArg not zw))
  | str j=>obtain ⟨t',rfl⟩:=ry;exact PySem.EqMixed.ne_int_str (bC I q (by simp))
  | _=>exact absurd (show false=true from hs) Zw
 | str i=>
  obtain ⟨t,rfl⟩:=rx
  cases y with
  | fH=>cases ry;exact PySem.EqNone.ne_str_none (bC I q (by simp))
  | bl j=>cases ry;exact PySem.EqMixed.ne_str_bool (bC I q (by simp))
  | int j=>obtain ⟨t',rfl⟩:=ry;exact PySem.EqMixed.ne_str_int (bC I q (by simp))
  | str j=>obtain ⟨t',rfl⟩:=ry;exact ne_str (bC I q (congrArg not zx))
  | _=>exact absurd (show false=true from hs) Zw
 | zk i=>
  obtain ⟨t,rfl⟩:=rx
  cases y with
  | zk j=>obtain ⟨t',rfl⟩:=ry;exact PySem.W.ne_bytes (bC I q (congrArg not zy))
  | _=>exact absurd (show false=true from hs) Zw
 | _=>cases y<;>exact absurd (show false=true from hs) Zw
theorem kA:iL X (compareOp .Lt) (F_ fun i j=> .bl (decide (i<j))):=Ga fun _ _ _ _ _ _ _ q=>lt_int q
theorem Ir:iL X (compareOp .LtE) (F_ fun i j=> .bl (decide (i<=j))):=Ga fun _ _ _ _ _ _ _ q=>le_int q
theorem kB:iL X (compareOp .Gt) (F_ fun i j=> .bl (decide (j<i))):=Ga fun _ _ _ _ _ _ _ q=>gt_int q
theorem Cz:iL X (compareOp .GtE) (F_ fun i j=> .bl (decide (j<=i))):=Ga fun _ _ _ _ _ _ _ q=>ge_int q
theorem AR:iL X (compareOp .Lt) (fun x y H Q=> ∃i j,x= .str i/\y= .str j/\Q (.bl (decide (i.cps.toList<j.cps.toList))) H):=by
 intro pins s σ H x y v u Q I rx ry h
 obtain ⟨i,j,rfl,rfl,q⟩:=h
 obtain ⟨t,rfl⟩:=rx
 obtain ⟨t',rfl⟩:=ry
 exact lt_str (bC I q rfl)
theorem AS:iL X (compareOp .In) (fun x y H Q=> ∃i j,x= .str i/\y= .str j/\Q (.bl (!(Builtin.Str.occurrences j i 0 j.length 1).isEmpty)) H):=by
 intro pins s σ H x y v u Q I rx ry h
 obtain ⟨i,j,rfl,rfl,q⟩:=h
 obtain ⟨t,rfl⟩:=rx
 obtain ⟨t',rfl⟩:=ry
 exact in_str (bC I q rfl)
theorem aN (b:Expr) {op:CmpOp} (h:op≠ .In:=by decide) (h2:op≠ .NotIn:=by decide):behindInMarks op b=false:=by
 have e1:(op==CmpOp.In)=false:=by cases op<;>first | rfl | exact absurd rfl h
 have e2:(op==CmpOp.NotIn)=false:=by cases op<;>first | rfl | exact absurd rfl h2
 cases b<;>simp[behindInMarks,e1,e2]
theorem du {op:CmpOp} {r:R2} (ho:iL X (compareOp op) r) (ha:PE X a ta) (hb:PE X b tb) (hm:behindInMarks op b=false):PE X (.Compare a [op] [b] pos) (Qv r ta tb):=by
 intro pins s σ H Q I h
 exact wpAny_Compare1 (JH ha hb I h fun v u s2 x y H2 I2 rx ry q=>ho pins s2 σ H2 x y v u Q I2 rx ry q) hm
def Oa (t:TE):TT:=fun σ H Q=>t σ H fun x H'=> ∃k,x= .bl k/\Q k H'
theorem aL {op:CmpOp} {r:R2} (ho:iL X (compareOp op) r) (ha:PE X a ta) (hb:PE X b tb) (hm:behindInMarks op b=false):PT X (.Compare a [op] [b] pos) (Oa (Qv r ta tb)):=by
 intro pins s σ H Q I h
 refine wpAny_isTrue_Compare1 (cx (ha pins s σ H _ I h) fun v s1 ⟨x,H1,I1,r1,q1⟩=>cx (hb pins s1 σ H1 _ I1 q1) fun u s2 ⟨y,H2,I2,r2,q2⟩=>
  cx (ho pins s2 σ H2 x y v u _ I2 r1 r2 q2) fun c s3 ⟨z,H3,I3,r3,k,e,q3⟩=>?_) hm
 subst e
 cases r3
 exact wpAny_truthy_bool ⟨H3,I3,q3⟩
def Sd (K:PySem.W.Frag) (x:V) (H:Hp) (k:Bool):Prop:=
 match x with
 | .fH=>k=false
 | .bl b=>k=b
 | .int i=>k=(i != 0)
 | .str y=>y.length<=sizeLine/\k=((y.length:Int) != 0)
 | .zk y=>y.size<=sizeLine/\k=((y.size:Int) != 0)
 | .ref p=>(∃xs,bD K H p xs/\k=!xs.isEmpty)\/(∃xs,cR K H p xs/\k=!xs.isEmpty)\/ ∃aT,H p=some (.dK aT)/\k=!aT.isEmpty
 | _=>False
theorem xv {κ:Type} {aT:List (κ×V)} {vs:List (κ×Value)} (r:KV aT vs):(!vs.isEmpty)=!aT.isEmpty:=by
 cases r<;>rfl
theorem ow {xs:List V} {aO:List Value} (r:Vals xs aO):(!aO.toArray.isEmpty)=!xs.isEmpty:=by
 cases r<;>simp
theorem eQ:(sizeLine:Nat)<2 ^ 63:=by rw[sizeLine_eq];decide
theorem JI:R_ X (fun x H Q=> ∃k,Sd X.K x H k/\Q k H):=by
 intro pins s σ H x v Q I rx h
 obtain ⟨k,e,q⟩:=h
 have hl:=eQ
 have hs:sizeLine=16777216:=sizeLine_eq
 cases x with
 | fH=>
  cases rx
  have e':k=false:=e
  subst e'
  exact truthy_none ⟨H,I,q⟩
 | bl b=>
  cases rx
  have e':k=b:=e
  subst e'
  exact wpAny_truthy_bool ⟨H,I,q⟩
 | int i=>
  obtain ⟨t,rfl⟩:=rx
  have e':k=(i != 0):=e
  subst e'
  exact PySem.P.truthy_int ⟨H,I,q⟩
 | str y=>
  obtain ⟨t,rfl⟩:=rx
  obtain ⟨hy,e'⟩:y.length<=sizeLine/\k=((y.length:Int) != 0):=e
  subst e'
  exact PySem.P.truthy_str (by omega) ⟨H,I.tok _,q⟩
 | zk y=>
  obtain ⟨t,rfl⟩:=rx
  obtain ⟨hy,e'⟩:y.size<=sizeLine/\k=((y.size:Int) != 0):=e
  subst e'
  exact PySem.W.truthy_bytes (by omega) ⟨H,I.tok _,q⟩
 | ref p=>
  cases rx
  have e':(∃xs,bD X.K H p xs/\k=!xs.isEmpty)\/(∃xs,cR X.K H p xs/\k=!xs.isEmpty)\/ ∃aT,H p=some (.dK aT)/\k=!aT.isEmpty:=e
  rcases e' with ⟨xs,hx,e'⟩ | ⟨xs,hx,e'⟩ | ⟨aT,hx,e'⟩
  ·subst e'
   obtain ⟨aO,r,pl,hz⟩:=I.list hx
   have hlen:=r.length
   exact wpAny_truthy_list pl.isList (by simp only[Wl];omega) ⟨H,I.tok _,by rw[ow r];exact q⟩
  ·subst e'
   obtain ⟨aO,r,pl,hz⟩:=I.tuple hx
   have hlen:=r.length
   exact truthy_tuple pl (by simp only[Wl];omega) ⟨H,I.tok _,by rw[ow r];exact q⟩
  ·subst e'
   obtain ⟨hz,hS,vs,r,m⟩:aT.length<=sizeLine/\(p==sysModules)=false/\ ∃vs,KV aT vs/\s.heap.DictOf (cI X.prog X.w) p vs:=I.b6 p _ hx
   have hlen:aT.length=vs.length:=Paired.length r
   exact wpAny_truthy_dict hS m (by omega) ⟨H,I.tok _,by rw[xv r];exact q⟩
 | _=>exact (show False from e).elim
theorem xw:iL X (binaryOp .Add) (fun x y H Q=> ∃i j,x= .str i/\y= .str j/\i.length+j.length<=sizeLine/\Q (.str (i++j)) H):=by
 intro pins s σ H x y v u Q I rx ry h
 obtain ⟨i,j,rfl,rfl,hz,q⟩:=h
 obtain ⟨t,rfl⟩:=rx
 obtain ⟨t',rfl⟩:=ry
 exact add_str (fun t' tk=>⟨.str (i++j),H,I.tok _,⟨_,rfl⟩,q⟩) hz
theorem vals1 {x:V} {us:List Value} (r:Vals [x] us): ∃u,us=[u]/\RelV x u:=by
 cases r with
 | cons r1 r2=>cases r2;exact ⟨_,rfl,r1⟩
theorem vals2 {x y:V} {us:List Value} (r:Vals [x,y] us): ∃u w',us=[u,w']/\RelV x u/\RelV y w':=by
 cases r with
 | cons r1 r2=>
  cases r2 with
  | cons r3 r4=>cases r4;exact ⟨_,_,rfl,r1,r3⟩
theorem AU (hc:X.calm=true):dh X (.builtin "max") (fun xs H Q=> ∃i j,xs=[.int i, .int j]/\Q (.int (if j>i then j else i)) H):=by
 intro pins s σ H xs us Q I r h
 obtain ⟨i,j,rfl,q⟩:=h
 obtain ⟨u,w',rfl,⟨t,rfl⟩,⟨t',rfl⟩⟩:=vals2 r
 refine max_two_ints (I.ok.hd hc) fun h' tk k=>⟨_,H,I.kept k,?_,q⟩
 by_cases hj:j>i
 ·rw[if_pos hj,if_pos hj];exact ⟨_,rfl⟩
 ·rw[if_neg hj,if_neg hj];exact ⟨_,rfl⟩
theorem qO (hc:X.calm=true):dh X (.builtin "min") (fun xs H Q=> ∃i j,xs=[.int i, .int j]/\Q (.int (if j<i then j else i)) H):=by
 intro pins s σ H xs us Q I r h
 obtain ⟨i,j,rfl,q⟩:=h
 obtain ⟨u,w',rfl,⟨t,rfl⟩,⟨t',rfl⟩⟩:=vals2 r
 refine min_two_ints (I.ok.hd hc) fun h' tk k=>⟨_,H,I.kept k,?_,q⟩
 by_cases hj:j<i
 ·rw[if_pos hj,if_pos hj];exact ⟨_,rfl⟩
 ·rw[if_neg hj,if_neg hj];exact ⟨_,rfl⟩
theorem qP:dh X (.type "int") (fun xs H Q=>(∃i,xs=[.int i]/\Q (.int i) H)\/ ∃k,xs=[.bl k]/\Q (.int (if k then 1 else 0)) H):=by
 intro pins s σ H xs us Q I r h
 rcases h with ⟨i,rfl,q⟩ | ⟨k,rfl,q⟩
 ·obtain ⟨u,rfl,t,rfl⟩:=vals1 r
  exact call_int_int ⟨.int i,H,I,⟨_,rfl⟩,q⟩
 ·obtain ⟨u,rfl,r1⟩:=vals1 r
  cases r1
  exact call_int_bool ⟨.int (if k then 1 else 0),H,I.tok _,⟨_,rfl⟩,q⟩
theorem sF:dh X (.type "str") (fun xs H Q=> ∃i,xs=[.int i]/\i.natAbs.log2<1920/\Q (.str (toString i)) H):=by
 intro pins s σ H xs us Q I r h
 obtain ⟨i,rfl,hz,q⟩:=h
 obtain ⟨u,rfl,t,rfl⟩:=vals1 r
 exact PySem.P.str_of_int hz ⟨.str _,H,I.tok _,⟨_,rfl⟩,q⟩
end
structure AV (h:Heap) (x dx C:Addr) (mA:Str->Option Value):Prop where
 obj:h.get? x=some (PySem.W.instObj C dx)
 ns:h.Ns1 dx mA
 ne:dx≠x
theorem AW {h:Heap} {dx:Addr} {mA:Str->Option Value} (n:h.Ns1 dx mA): ∃od,h.get? dx=some od/\ ∀name,PySem.W.lookIn name od=some (mA name):=by
 obtain ⟨o,es,ep,ho,hd,hk,_,hm⟩:=n
 refine ⟨o,ho,fun name=>?_⟩
 have e:=hm name
 unfold nsFind findBy at e
 rw[<-Array.find?_toList]at e
 unfold PySem.W.lookIn
 rw[hd]
 dsimp only
 split
 ·rename_i y q
  rw[q]at e
  exact congrArg some e
 ·rename_i q
  rw[q]at e
  have a:es.toList.any (·.refKey)=false:=by
   rw[Qdq]
   intro y hy
   obtain ⟨z,t,Se⟩:=hk y (Array.mem_toList_iff.mp hy)
   simp[DictEntry.refKey,Se]
  have a': ¬es.toList.any (·.refKey)=true:=by rw[a];exact Zw
  rw[if_neg a']
  exact congrArg some e
theorem AV.look {h:Heap} {x dx C:Addr} {mA:Str->Option Value} (I:AV h x dx C mA): ∃od,PySem.W.InstAt h x (PySem.W.instObj C dx) C (some od)/\ ∀name,PySem.W.lookIn name od=some (mA name):=
 let ⟨od,ho,hl⟩:=AW I.ns
 ⟨od,⟨I.obj,rfl,rfl,ho⟩,hl⟩
section
variable {prog:Program} {w:World} {A:Around} {E:Value->Shared->Prop} {s:Shared} {K:PySem.W.Frag} {x dx C f:Addr} {mA:Str->Option Value} {name:Str} {v:Value}
theorem get_map {expr:Bool} {Q:Value->Shared->Prop} (X:K.In s.heap) (I:AV s.heap x dx C mA) (hg:PySem.W.plainGet K C name=true) (hh:PySem.W.hasDictIn K C=true)
  (ha:PySem.W.findIn K (.ref C) name=some none) (hv:mA name=some v) (V5:PySem.W.handedIn v=true) (h:Q v { s with toks:=s.toks+1 }):
  wpAny (model prog w) A (getAttr (.ref x) name expr) Q E s:=by
 obtain ⟨od,J,hl⟩:=I.look
 exact PySem.W.get_value X J (PySem.W.plainGet_of hg).1 (PySem.W.findObj_own hh ha rfl (by rw[hl,hv])) V5 h
theorem Gd {ns:List Str} {Q:Unit->Shared->Prop} (X:K.In s.heap) (I:AV s.heap x dx C mA)
  (hs:PySem.W.findIn K (.ref C) "__setattr__"=some (some (.builtin "object.__setattr__"))) (hp:PySem.W.plainOver K C=true) (ht:PySem.W.takerIn K C name=some none) (hh:PySem.W.hasDictIn K C=true)
  (hw:PySem.Within mA ns) (hsz:ns.length<=sizeLine)
  (h: ∀h',AV h' x dx C (fun y=>if y=name then some v else mA y)->Heap.SameBut dx s.heap h'->Q () { s with heap:=h',toks:=s.toks+2 }):
  wpAny (model prog w) A (setAttr (.ref x) name v) Q E s:=by
 obtain ⟨od,J,hl⟩:=I.look
 refine PySem.W.set_plain X J hs (PySem.W.osa_open (s:={ s with toks:=s.toks+1 }) (r:=none) X J hp ht fun b=>?_)
 obtain ⟨cd,hc,RQ⟩:=PySem.W.any_some hh
 have hx:s.heap.get? x=some ⟨.ref C,some dx, .plain, #[]⟩:=I.obj
 refine wpAny_bind (wpAny_pure (wpAny_bind (wpAny_bind (wpAny_loadPart hx (wpAny_bind (PySem.W.Looks.here (s:={ s with toks:=s.toks+1 }) (PySem.W.looks_clsIn X hc) ?_))))))
 rw[RQ]
 refine wpAny_pure (a:=some dx) (wpAny_bind (wpAny_pure (wpAny_bind ?_)))
 refine wpAny_nsSet1 (s:={ s with toks:=s.toks+1 }) I.ns fun h' xx JD=>?_
 obtain ⟨oD,YM,YN,V6,V7,V8⟩:=xx.count (PySem.Within.cons name v hw)
 refine wpAny_bind (wpAny_lookBehind V6 (by rw[V7];exact pastItsLine_dict (ZI V8 (by rw[ZM];omega))) ?_)
 exact wpAny_pure (h _ ⟨(JD.2 _ (Ne.symm I.ne)).trans I.obj,xx,I.ne⟩ JD)
theorem CA {R:Result->Shared->Prop} {vs:List Value} {kw:List (Str×Value)} (X:K.In s.heap) (hm:PySem.W.makesIn K C=true)
  (hi:PySem.W.findIn K (.ref C) "__init__"=some (some (.ref f))) (hf:PySem.W.typeIn K (.ref f)=some (.type "function"))
  (h:codeAny (model prog w) (A.under (.builtin "type.__call__" ⟨.ref C::vs,kw⟩)) (.call (.ref f) ⟨.ref (s.heap.objs.size+1)::vs,kw⟩) (PySem.W.InitBack (s.heap.objs.size+1) R)
   { s with heap:=(s.heap.push PySem.W.emptyDict).push (PySem.W.instObj C s.heap.objs.size) }):
  codeAny (model prog w) A (.call (.ref C) ⟨vs,kw⟩) R s:=by
 obtain ⟨hh,g,d,t,os⟩:=s
 exact PySem.W.make_core (PySem.W.makes_of X hm) (PySem.W.looks_findIn X hi) (fun self=>PySem.W.bind_fn X self hf) (.inl rfl) h
end
noncomputable def eE (f:Str) (v:V):List (Str×V)->List (Str×V)
 | []=>[(f,v)]
 |(g,x)::r=>if g=f then (g,v)::r else (g,x)::eE f v r
theorem aQ (f g:Str) (v:V): ∀fs:List (Str×V),(eE f v fs).lookup g=if g=f then some v else fs.lookup g
 | []=>by
  show List.lookup g [(f,v)]=_
  by_cases h:g=f
  ·have hb:(g==f)=true:=beq_iff_eq.mpr h
   simp only[List.lookup,hb,if_pos h]
  ·have hb:(g==f)=false:=beq_eq_false_iff_ne.mpr h
   simp only[List.lookup,hb,if_neg h]
 |(k,x)::r=>by
  have ih:=aQ f g v r
  rw[show eE f v ((k,x)::r)=(if k=f then (k,v)::r else (k,x)::eE f v r) from rfl]
  by_cases hk:k=f
  ·rw[if_pos hk]
   by_cases h:g=k
   ·have hb:(g==k)=true:=beq_iff_eq.mpr h
    simp only[List.lookup,hb,if_pos (h.trans hk)]
   ·have hb:(g==k)=false:=beq_eq_false_iff_ne.mpr h
    simp only[List.lookup,hb,if_neg (fun e:g=f=>h (e.trans hk.symm))]
  ·rw[if_neg hk]
   by_cases h:g=k
   ·have hb:(g==k)=true:=beq_iff_eq.mpr h
    simp only[List.lookup,hb,if_neg (fun e:g=f=>hk (h.symm.trans e))]
   ·have hb:(g==k)=false:=beq_eq_false_iff_ne.mpr h
    simp only[List.lookup,hb]
    exact ih
theorem lT (f:Str) (v:V): ∀fs:List (Str×V),f∈(eE f v fs).map (·.1)/\ ∀g,g∈fs.map (·.1)->g∈(eE f v fs).map (·.1)
 | []=>⟨by simp[eE],fun g h=>by simp at h⟩
 |(k,x)::r=>by
  obtain ⟨i1,i2⟩:=lT f v r
  rw[show eE f v ((k,x)::r)=(if k=f then (k,v)::r else (k,x)::eE f v r) from rfl]
  by_cases hk:k=f
  ·rw[if_pos hk]
   subst hk
   exact ⟨by simp,fun g h=>by simpa using h⟩
  ·rw[if_neg hk]
   refine ⟨?_,fun g h=>?_⟩
   ·rw[ZC]
    exact Uq _ i1
   ·rw[ZC]at h ⊢
    rcases Wj.mp h with e | e
    ·exact Wj.mpr (.inl e)
    ·exact Uq _ (i2 g e)
theorem mS (f:Str) (v:V): ∀fs:List (Str×V),(eE f v fs).length<=fs.length+1
 | []=>by simp[eE]
 |(k,x)::r=>by
  have ih:=mS f v r
  rw[show eE f v ((k,x)::r)=(if k=f then (k,v)::r else (k,x)::eE f v r) from rfl]
  by_cases hk:k=f
  ·rw[if_pos hk,ZM,ZM];omega
  ·rw[if_neg hk,ZM,ZM];omega
theorem lR.some_of {v:V} {o:Option Value} (r:lR (some v) o): ∃u,o=some u/\RelV v u:=by
 cases o with
 | none=>exact (show False from r).elim
 | some u=>exact ⟨u,rfl,r⟩
theorem AX {v:V} {u:Value} (r:RelV v u):PySem.W.handedIn u=true:=by
 cases v with
 | fH=>cases (show u=Value.none from r);rfl
 | bl b=>cases (show u=Value.bool b from r);rfl
 | int i=>obtain ⟨t,e⟩:=(show ∃t,u=Value.int i t from r);cases e;rfl
 | str x=>obtain ⟨t,e⟩:=(show ∃t,u=Value.str x t from r);cases e;rfl
 | zk b=>obtain ⟨t,e⟩:=(show ∃t,u=Value.bytes b t from r);cases e;rfl
 | Jm b=>obtain ⟨t,e⟩:=(show ∃t,u=Value.float b t from r);cases e;rfl
 | ref a=>cases (show u=Value.ref a from r);rfl
 | ty n=>cases (show u=Value.type n from r);rfl
section
variable {P:Program} {w:World} {H H':Hp} {h h':Heap} {a C dx:Addr} {fs VW:List (Str×V)}
theorem sG (b6:j4 P w H h) (e:H a=some (.ins C dx fs)): ∃mA,AV h a dx C mA/\(∀f,lR (fs.lookup f) (mA f))/\PySem.Within mA (fs.map (·.1))/\fs.length<=1000/\H dx=some (.own a):=by
 obtain ⟨d,z,ne,ob,mA,n,r,q⟩:=(show cb P w H h a (.ins C dx fs) from b6 a _ e)
 exact ⟨mA,⟨ob,n,ne⟩,r,q,z,d⟩
end
structure Ge (K:PySem.W.Frag) (C:Addr):Prop where
 pg:PySem.W.plainGet K C Str.empty=true
 hd:PySem.W.hasDictIn K C=true
 po:PySem.W.plainOver K C=true
 sa:PySem.W.findIn K (.ref C) "__setattr__"=some (some (.builtin "object.__setattr__"))
theorem Ge.get {K:PySem.W.Frag} {C:Addr} (c:Ge K C) (f:Str):PySem.W.plainGet K C f=true:=c.pg
def eF (K:PySem.W.Frag) (C:Addr) (f:Str):Prop:=PySem.W.findIn K (.ref C) f=some none
theorem eF.Ob {K:PySem.W.Frag} {C:Addr} {f:Str} (n:eF K C f):PySem.W.takerIn K C f=some none:=by
 unfold PySem.W.takerIn
 rw[show PySem.W.findIn K (.ref C) f=some none from n]
 rfl
section
variable {X:Cx} {pins:List (Addr×Obj)} {σ:St} {H:Hp} {s:Shared} {a C dx:Addr} {fs:List (Str×V)} {f:Str} {v:V} {A:Around} {E:Value->Shared->Prop}
theorem xA {b:Bool} {Q:Value->Shared->Prop} (I:Inv X pins σ H s) (e:H a=some (.ins C dx fs)) (c:Ge X.K C) (n:eF X.K C f) (l:fs.lookup f=some v)
  (h: ∀u s',Inv X pins σ H s'->RelV v u->Q u s'):wpAny (model X.prog X.w) A (getAttr (.ref a) f b) Q E s:=by
 obtain ⟨mA,O,r,_,_,_⟩:=sG I.b6 e
 obtain ⟨u,hu,ru⟩:=lR.some_of (v:=v) (o:=mA f) (by rw[<-l];exact r f)
 exact get_map I.nJ O (c.get f) c.hd n hu (AX ru) (h u _ (I.tok _) ru)
theorem xB {y:V} {u:Value} {Q:Unit->Shared->Prop} (I:Inv X pins σ H s) (e:H a=some (.ins C dx fs)) (c:Ge X.K C) (n:eF X.K C f) (hl:fs.length<1000) (ry:RelV y u)
  (h: ∀s',Inv X pins σ (upd H a (.ins C dx (eE f y fs))) s'->Q () s'):wpAny (model X.prog X.w) A (setAttr (.ref a) f u) Q E s:=by
 obtain ⟨mA,O,r,wi,_,ho⟩:=sG I.b6 e
 have hz:(fs.map (·.1)).length<=sizeLine:=by rw[Us,sizeLine_eq];omega
 refine Gd I.nJ O c.sa c.po n.Ob c.hd wi hz fun h' O' sb=>h _ ?_
 have hd: ∃o,h'.get? dx=some o:=let ⟨o,_,_,e',_⟩:=O'.ns;⟨o,e'⟩
 refine I.write (x:=a) (e:=dx) (by rw[e];exact True.intro) (.inr ho) (fun b q hb z=>(sb.2 b hb).trans z) hd ?_
 refine ⟨by rw[aD O.ne];exact ho,?_,O.ne,O'.obj,_,O'.ns,fun g=>?_,fun g hg=>?_⟩
 ·have:=mS f y fs;omega
 ·show lR ((eE f y fs).lookup g) (if g=f then some u else mA g)
  rw[aQ]
  by_cases q:g=f
  ·rw[if_pos q,if_pos q];exact ry
  ·rw[if_neg q,if_neg q];exact r g
 ·by_cases q:g=f
  ·rw[q];exact (lT f y fs).1
  ·refine (lT f y fs).2 g (wi g fun z=>hg ?_)
   show (if g=f then some u else mA g)=none
   rw[if_neg q];exact z
theorem Inv.made (I:Inv X pins σ H s):Inv X pins σ (upd (upd H s.heap.objs.size (.own (s.heap.objs.size+1))) (s.heap.objs.size+1) (.ins C s.heap.objs.size []))
  { s with heap:=(s.heap.push PySem.W.emptyDict).push (PySem.W.instObj C s.heap.objs.size) }:=by
 have e1:(s.heap.push PySem.W.emptyDict).get? s.heap.objs.size=some PySem.W.emptyDict:=Zq s.heap rfl
 have e2:((s.heap.push PySem.W.emptyDict).push (PySem.W.instObj C s.heap.objs.size)).get? (s.heap.objs.size+1)=some (PySem.W.instObj C s.heap.objs.size):=by
  have:=Zq (s.heap.push PySem.W.emptyDict) (o:=PySem.W.instObj C s.heap.objs.size) rfl
  rwa [Qbw]at this
 have e3:(s.heap.push PySem.W.emptyDict).Ns s.heap.objs.size (fun _=>none):=⟨PySem.W.emptyDict, #[],_,e1,rfl,(fun e he=>absurd he (by simp)),fun _=>rfl⟩
 have I1:=I.laid (a:=s.heap.objs.size) (o:= .own (s.heap.objs.size+1)) (h':=s.heap.push PySem.W.emptyDict) (t':=s.toks) (fun b u q=>QC _ q) (Ur _) ⟨_,e1⟩
 refine I1.laid (a:=s.heap.objs.size+1) (o:= .ins C s.heap.objs.size []) (t':=s.toks) (fun b u q=>QC _ q) (Nat.le_of_eq (Qbw _ _)) ?_
 have ne:s.heap.objs.size≠s.heap.objs.size+1:=Zu (Qbb _)
 refine ⟨by rw[aD ne,ah],YU _,ne,e2,fun _=>none,(Heap.Ns1.of_empty e3).at fun o q=>QC _ q,fun _=>True.intro,fun y hy=>absurd rfl hy⟩
theorem Gf {prog:Program} {w:World} {env:Env} {e:Expr} {f:Str} {pos:Pos} {s:Shared} {Q:Value->Shared->Prop} (hb:attributeBase e f env (eval e env)=eval e env)
  (h:wpAny (model prog w) A (eval e env) (fun o s₁=>wpAny (model prog w) A (getAttr o f true) Q E s₁) E s):wpAny (model prog w) A (eval (.Attribute e f pos) env) Q E s:=
 Attribute_any_ h (by rw[arm_eval_Attribute,hb])
end
def Oc (K:PySem.W.Frag) (ta:TE) (f:Str):TE:=fun σ H Q=>ta σ H fun x H1=> ∃a C dx fs v,x= .ref a/\H1 a=some (.ins C dx fs)/\Ge K C/\eF K C f/\fs.lookup f=some v/\Q v H1
def Sf (K:PySem.W.Frag) (ta tv:TE) (f:Str):TS:=fun D σ H=>tv σ H fun y H1=>ta σ H1 fun x H2=> ∃a C dx fs,x= .ref a/\H2 a=some (.ins C dx fs)/\Ge K C/\eF K C f/\fs.length<1000/\
 D.nx σ (upd H2 a (.ins C dx (eE f y fs)))
section
variable {X:Cx} {o e value:Expr} {f:Str} {pos pos' Oe:Pos} {ta tv:TE}
theorem JJ (he:PE X e ta) (hb:attributeBase e f X.env (eval e X.env)=eval e X.env):PE X (.Attribute e f pos) (Oc X.K ta f):=by
 intro pins s σ H Q I h
 refine Gf hb (cx (he pins s σ H _ I h) fun u s1 ⟨x,H1,I1,rx,a,C,dx,fs,v,ex,ea,c,n,l,q⟩=>?_)
 subst ex
 obtain rfl:u=Value.ref a:=rx
 exact xA I1 ea c n l fun u' s2 I2 ru=>⟨v,H1,I2,ru,q⟩
theorem iT (ha:PE X o ta) (hv:PE X value tv) (hs:swapsWith value (some (.Attribute o f pos')) pos.line X.env=pure false):PS X (.Assign [.Attribute o f pos'] value pos) (Sf X.K ta tv f):=by
 intro pins s σ H D I h
 refine plainObj_wpAny_Assign_Attribute (cx (hv pins s σ H _ I h) fun u s1 ⟨y,H1,I1,ry,q⟩=>cx (ha pins s1 σ H1 _ I1 q) fun ov s2 ⟨x,H2,I2,rx,a,C,dx,fs,ex,ea,c,n,l,q2⟩=>?_) hs
 subst ex
 obtain rfl:ov=Value.ref a:=rx
 exact xB I2 ea c n l ry fun s3 I3=>⟨σ,_,I3,q2⟩
end
section
variable {X:Cx} {pins:List (Addr×Obj)} {σ:St} {H:Hp} {s:Shared} {A:Around} {E:Value->Shared->Prop} {Q:Value->Shared->Prop} {c:Value} {b:Bool}
inductive m_ (K:PySem.W.Frag) (H:Hp):V->Value->Prop where
 | fH:m_ K H .fH (.type "NoneType")
 | bl (x:Bool):m_ K H (.bl x) (.type "bool")
 | int (i:Int):m_ K H (.int i) (.type "int")
 | str (x:Str):m_ K H (.str x) (.type "str")
 | Jm (x:UInt64):m_ K H (.Jm x) (.type "float")
 | lst {a:Addr} {xs:List V} (e:H a=some (.lst xs)):m_ K H (.ref a) (.type "list")
 | zm {a:Addr} {o:Obj} {xs:List V} (e:H a=some (.zm o (.lst xs))):m_ K H (.ref a) (.type "list")
 | tup {a:Addr} {xs:List V} (e:H a=some (.tup xs)):m_ K H (.ref a) (.type "tuple")
 | dK {a:Addr} {aT:List (Key×V)} (e:H a=some (.dK aT)):m_ K H (.ref a) (.type "dict")
 | dT {a:Addr} {aT:List (List Key×V)} (e:H a=some (.dT aT)):m_ K H (.ref a) (.type "dict")
 | ins {a C dx:Addr} {fs:List (Str×V)} (e:H a=some (.ins C dx fs)) (cl:Ge K C) (ha:PySem.W.findIn K (.ref C) "__class__"=some (some (.builtin "object.__class__")))
   (hn:PySem.W.specialIn K (.builtin "object.__class__") "__get__"=some (some (.builtin "getset_descriptor.__get__"))) (Ui:PySem.W.takesIn K (.builtin "object.__class__")=some true)
   (hm:PySem.W.mroIn K C (.type "object")=some true):m_ K H (.ref a) (.ref C)
theorem AY {x:V} {u t:Value} (I:Inv X pins σ H s) (rx:RelV x u) (ty:m_ X.K H x t) (e:PySem.W.kitOne X.K t c=some b) (h: ∀tk,Q (.bool b) { s with toks:=tk }):
  wpAny (model X.prog X.w) A (call (.builtin "isinstance") [u,c]) Q E s:=by
 cases ty with
 | fH=>cases (show u=Value.none from rx);exact Qan PySem.W.kitx_none I.nJ True.intro e (fun z=>nomatch z) h
 | bl y=>cases (show u=Value.bool y from rx);exact Qan PySem.W.kitx_bool I.nJ True.intro e (fun z=>nomatch z) h
 | int i=>obtain ⟨t,q⟩:=(show ∃t,u=Value.int i t from rx);cases q;exact Qan PySem.W.kitx_int I.nJ True.intro e (fun z=>nomatch z) h
 | str y=>obtain ⟨t,q⟩:=(show ∃t,u=Value.str y t from rx);cases q;exact Qan PySem.W.kitx_str I.nJ True.intro e (fun z=>nomatch z) h
 | Jm y=>obtain ⟨t,q⟩:=(show ∃t,u=Value.float y t from rx);cases q;exact Qan PySem.W.kitx_float I.nJ True.intro e (fun z=>nomatch z) h
 | @lst a xs ea=>
  cases (show u=Value.ref a from rx)
  obtain ⟨_,_,n,_,h1⟩:=(show cb X.prog X.w H s.heap a (.lst xs) from I.b6 a _ ea)
  exact Qan PySem.W.kitx_list I.nJ ⟨_,h1,rfl⟩ e (fun z=>nomatch z) h
 | @zm a ob xs ea=>
  cases (show u=Value.ref a from rx)
  obtain ⟨_,_,_,n,_,h1⟩:=(show cb X.prog X.w H s.heap a (.zm ob (.lst xs)) from I.b6 a _ ea)
  exact Qan PySem.W.kitx_list I.nJ ⟨_,h1,rfl⟩ e (fun z=>nomatch z) h
 | @tup a xs ea=>
  cases (show u=Value.ref a from rx)
  obtain ⟨_,_,_,p⟩:=(show cb X.prog X.w H s.heap a (.tup xs) from I.b6 a _ ea)
  obtain ⟨o,h1,h2,_⟩:=p
  exact Qan PySem.W.kitx_tuple I.nJ ⟨o,h1,h2⟩ e (fun z=>nomatch z) h
 | @dK a aT ea=>
  cases (show u=Value.ref a from rx)
  obtain ⟨_,_,vs,_,p⟩:=(show cb X.prog X.w H s.heap a (.dK aT) from I.b6 a _ ea)
  obtain ⟨o,es,ep,h1,h2,_⟩:=p
  exact Qan PySem.W.kitx_dict I.nJ ⟨o,h1,h2.1⟩ e (fun z=>nomatch z) h
 | @dT a aT ea=>
  cases (show u=Value.ref a from rx)
  obtain ⟨_,_,xs,_,o,es,ep,h1,h2,_⟩:=(show cb X.prog X.w H s.heap a (.dT aT) from I.b6 a _ ea)
  exact Qan PySem.W.kitx_dict I.nJ ⟨o,h1,h2.1⟩ e (fun z=>nomatch z) h
 | @ins a C dx fs ea cl ha hn Ui hm=>
  cases (show u=Value.ref a from rx)
  obtain ⟨mA,O,_⟩:=sG I.b6 ea
  obtain ⟨od,J,_⟩:=O.look
  exact Qan (PySem.W.kitx_own (cl.get _) cl.hd ha hn Ui hm) I.nJ J e (fun z=>nomatch z) h
end
structure fu (k:Nat) (A:Around):Prop where
 hd:A.handled=none
 dp:A.depth+3*k+5<recursionLimit
 un:A.units+16*k+200<cLine
 gd:A.guards=some []
theorem fu.mono {j k:Nat} {A:Around} (r:fu k A) (h:j<=k):fu j A:=⟨r.hd,by have:=r.dp;omega,by have:=r.un;omega,r.gd⟩
theorem fu.deeper {k:Nat} {A:Around} (r:fu (k+1) A) (env:Env):fu k (A.deeper env):=
 ⟨r.hd,by have:=r.dp;show A.depth+1+3*k+5<_;omega,by have:=r.un;show A.units+3+16*k+200<_;omega,r.gd⟩
theorem xC {A:Around} {C:Addr} {us:List Value} {kw:List (Str×Value)}:(A.under (.builtin "type.__call__" ⟨.ref C::us,kw⟩)).depth=A.depth+1:=by
 first | rfl | simp[Around.under,Code.weight,Code.isCreation,Code.isGuard,Code.isCaller,Code.frames,Code.isFrame,guardIds]
theorem xD {A:Around} {C:Addr} {us:List Value} {kw:List (Str×Value)}:(A.under (.builtin "type.__call__" ⟨.ref C::us,kw⟩)).units=A.units+1:=by
 first | rfl | simp[Around.under,Code.cUnits,Code.frames,Code.isFrame]
theorem fu.make {k:Nat} {A:Around} (r:fu (k+1) A) (C:Addr) (us:List Value) (kw:List (Str×Value)):fu k (A.under (.builtin "type.__call__" ⟨.ref C::us,kw⟩)):=
 ⟨r.hd,by have:=r.dp;rw[xC];omega,by have:=r.un;rw[xD];omega,by first | exact r.gd | (simpa [Around.under,Code.guards,Code.isGuard,pushGuards,guardIds]using r.gd)⟩
theorem fu.depth {k:Nat} {A:Around} (r:fu k A):A.depth<recursionLimit:=by have:=r.dp;omega
theorem fu.units {k:Nat} {A:Around} (r:fu k A):A.units+64<cLine:=by have:=r.un;omega
def Sg:TA:=fun _ H Q=>Q [] H
def Iu (ta:TE) (tr:TA):TA:=fun σ H Q=>ta σ H fun x H1=>tr σ H1 fun xs H2=>Q (x::xs) H2
section
variable {X:Cx} {e:Expr} {es:List Expr} {te:TE} {t:TA} {pos:Pos}
theorem ae:PA X [] Sg:=fun _ _ _ _ H Q I h=>Calls.spliced_nil ⟨[],H,I, .nil,h⟩
theorem aa (ha:PE X e te) (hr:PA X es t) (hs:starEach (e::es) X.env=(false,eval e X.env)::starEach es X.env:=by rfl):PA X (e::es) (Iu te t):=by
 intro pos pins s σ H Q I h
 rw[hs]
 show wpAny _ _ (spliced ((false,eval e X.env)::backTo pos (starEach es X.env))) _ _ s
 refine Calls.spliced_cons (cx (ha pins s σ H _ I h) fun u s1 ⟨x,H1,I1,r1,q1⟩=>?_)
 exact cx (hr pos pins s1 σ H1 _ I1 q1) fun us s2 ⟨xs,H2,I2,r2,q2⟩=>⟨x::xs,H2,I2, .cons r1 r2,q2⟩
def Sh (t:TA):TE:=fun σ H Q=>t σ H fun xs H1=>xs.length<=sizeLine/\ ∀p,H1 p=none->Q (.ref p) (upd H1 p (.tup xs))
def Si (t:TA):TE:=fun σ H Q=>t σ H fun xs H1=>xs.length<=sizeLine/\ ∀p,H1 p=none->Q (.ref p) (upd H1 p (.lst xs))
theorem bS {x1} (h:PA X es t):PE X (.Tuple es x1 pos) (Sh t):=by
 intro pins s σ H Q I hq
 refine wpAny_Tuple_spliced (cx (h pos pins s σ H _ I hq) fun us s1 ⟨xs,H1,I1,r,z,q⟩=>⟨by rw[<-r.length];exact z,?_⟩)
 have hf:H1 s1.heap.objs.size=none:=I1.b6.fresh (Ur _)
 refine ⟨.ref s1.heap.objs.size,upd H1 s1.heap.objs.size (.tup xs),I1.laid (t':=s1.toks) (fun b u e=>QC _ e) (Ur _) ?_,rfl,q _ hf⟩
 exact ⟨z,us,r,⟨_,Zq _ rfl,rfl,_,rfl⟩⟩
theorem cY (h:PA X es t):PE X (.List es pos) (Si t):=by
 intro pins s σ H Q I hq
 refine wpAny_List_spliced (cx (h pos pins s σ H _ I hq) fun us s1 ⟨xs,H1,I1,r,z,q⟩=>⟨by rw[<-r.length];exact z,?_⟩)
 have hf:H1 s1.heap.objs.size=none:=I1.b6.fresh (Ur _)
 refine ⟨.ref s1.heap.objs.size,upd H1 s1.heap.objs.size (.lst xs),I1.laid (t':=s1.toks) (fun b u e=>QC _ e) (Ur _) ?_,rfl,q _ hf⟩
 exact ⟨z,us,0,r,Zq _ rfl⟩
end
abbrev Sp:=List V->Hp->VK->XK->Prop
abbrev AZ:=List Env->Hp->Shared->XK->Value->Shared->Prop
structure xE (P:Program) (w:World) (K:PySem.W.Frag) (mg:Str->Option Value) (base:Heap) (A:Around) (outer:List Env) (s:Shared) (H:Hp):Prop where
 frames:A.frames=some outer
 mod:Mod K mg base
 bs: ∀b o,base.get? b=some o->s.heap.get? b=some o/\H b=none
 FT:base.objs.size<=s.heap.objs.size
 m7:s.heap.FunFrames base outer
 Jp: ∀b∈zo outer,H b=none
 b6:j4 P w H s.heap
 bare:AllBare s.gens
def CE (outer:List Env) (P:Program) (w:World) (H:Hp) (s:Shared) (Q:VK) (u:Value) (s':Shared):Prop:=
 ∃v H',s'.os=s.os/\AllBare s'.gens/\Un (zo outer) [] H H' s.heap s'.heap/\j4 P w H' s'.heap/\RelV v u/\Q v H'
def CR (CX:AZ) (outer:List Env) (P:Program) (w:World) (H:Hp) (s:Shared) (Q:VK) (E:XK) (r:Result) (s':Shared):Prop:=
 match r with
 | .ok (.ret u)=>CE outer P w H s Q u s'
 | .ok _=>False
 | .error e=>CX outer H s E e s'
structure bB (P:Program) (w:World) (K:PySem.W.Frag) (mg:Str->Option Value) (base:Heap) (CX:AZ) (k:Nat) (f:Addr) (fd:FuncData) (ps:List Str) (sp:Sp):Prop where
 len: ∀vs H Q E,sp vs H Q E->vs.length=ps.length
 run: ∀(A:Around) (outer:List Env) (s:Shared) (H:Hp) (args:Args) (us:List Value) (vs:List V) (Q:VK) (E:XK),fu k A->xE P w K mg base A outer s H->BindsTo s fd args (ps.zip us)->Vals vs us->sp vs H Q E->
  codeAny (model P w) A (.call (.ref f) args) (CR CX outer P w H s Q E) s
theorem xE.make {P:Program} {w:World} {K:PySem.W.Frag} {mg:Str->Option Value} {base:Heap} {A:Around} {outer:List Env} {s:Shared} {H:Hp} (e:xE P w K mg base A outer s H) (C:Addr) (us:List Value) (kw:List (Str×Value)):
  xE P w K mg base (A.under (.builtin "type.__call__" ⟨.ref C::us,kw⟩)) outer s H:=⟨by first | exact e.frames | (simpa [Around.under,Code.envs,Code.isFrame,pushEnvs]using e.frames),e.mod,e.bs,e.FT,e.m7,e.Jp,e.b6,e.bare⟩
section
variable {X:Cx} {pins:List (Addr×Obj)} {σ:St} {H:Hp} {s s':Shared}
theorem Inv.Of (I:Inv X pins σ H s):xE X.prog X.w X.K X.mg X.base X.A X.stack s H:=
 ⟨I.ok.frames,I.ok.mod,I.bs,ZI I.ok.FT I.sz,I.stack,I.zp,I.b6,I.bare⟩
theorem Inv.after {Q:VK} {u:Value} (I:Inv X pins σ H s) (h:CE X.stack X.prog X.w H s Q u s'):EP X pins σ Q u s':=by
 obtain ⟨v,H',os,bare,un,b6,r,q⟩:=h
 obtain ⟨hh,g,d,t,Sj⟩:=s'
 obtain rfl:Sj=s.os:=os
 exact ⟨v,H',I.call (h':=hh) (g':=g) (d':=d) (t':=t) (ch:=[]) un b6 bare (fun b z=>absurd z (by simp)),r,q⟩
end
def Og (sp:Sp) (dvs:List V) (E:XK) (t:TA):TE:=fun σ H Q=>t σ H fun vs H1=>sp (vs++dvs) H1 Q E
def Oh (C:Addr) (sp:Sp) (dvs:List V) (E:XK) (t:TA):TE:=fun σ H Q=>t σ H fun vs H1=> ∀x dx,H1 x=none->H1 dx=none->dx≠x->
 sp (.ref x::(vs++dvs)) (upd (upd H1 dx (.own x)) x (.ins C dx [])) (fun v H2=>v= .fH/\Q (.ref x) H2) E
def Binds (K:PySem.W.Frag) (fd:FuncData) (ps:List Str) (ds:List Value):Prop:=
 ∀(s:Shared) (us:List Value),K.In s.heap->(us++ds).length=ps.length->BindsTo s fd ⟨us,[]⟩ (ps.zip (us++ds))
theorem Binds.all {K:PySem.W.Frag} {fd:FuncData} {ps:List Str} (h: ∀us:List Value,us.length=ps.length->bindArgs fd ⟨us,[]⟩=pure (ps.zip us)):Binds K fd ps []:=fun s us _ hl=>by
 rw[Z7]at hl ⊢
 exact .of_eq (h us hl)
def Passes (CX:AZ) (X:Cx) (E:XK):Prop:= ∀(pins:List (Addr×Obj)) (σ:St) (H:Hp) (s:Shared) (e:Value) (s':Shared),Inv X pins σ H s->CX X.stack H s E e s'->X.xe e s'
section
variable {X:Cx} {CX:AZ} {k:Nat} {f C:Addr} {fd:FuncData} {ps:List Str} {sp:Sp} {dvs:List V} {ds:List Value} {E:XK} {x m:Str} {p pos apos:Pos} {e o:Expr} {es:List Expr} {ta:TE} {t:TA}
theorem xF {pins:List (Addr×Obj)} {σ:St} {H:Hp} {s:Shared} {Q:VK} {us:List Value} {vs:List V} (F:bB X.prog X.w X.K X.mg X.base CX k f fd ps sp) (hr:fu k X.A) (hb:Binds X.K fd ps ds) (hd:Vals dvs ds) (hx:Passes CX X E)
  (I:Inv X pins σ H s) (r:Vals vs us) (h:sp (vs++dvs) H Q E):wpAny (model X.prog X.w) X.A (call (.ref f) us) (EP X pins σ Q) X.xe s:=by
 have r2:Vals (vs++dvs) (us++ds):=r.append hd
 have hl:(us++ds).length=ps.length:=by rw[<-r2.length];exact F.len _ _ _ _ h
 refine wpAny_call (codeAny_mono (F.run X.A X.stack s H ⟨us,[]⟩ (us++ds) (vs++dvs) Q E hr I.Of (hb s us I.nJ hl) r2 h) fun r s' hq=>?_)
 cases r with
 | error e=>exact hx pins σ H s e s' I hq
 | ok fl=>
  cases fl with
  | ret u=>exact I.after hq
  | next=>exact False.elim hq
  | brk=>exact False.elim hq
  | cont=>exact False.elim hq
theorem ao (F:bB X.prog X.w X.K X.mg X.base CX k f fd ps sp) (hr:fu k X.A) (hg:Gl X x) (hm:X.mg x=some (.ref f)) (hk:PySem.W.keepIn X.K (.ref f)=true) (hb:Binds X.K fd ps ds) (hd:Vals dvs ds) (hx:Passes CX X E)
  (ha:PA X (e::es) t) (JK:(x==("__debug__":Str))=false:=by decide) (he:starEach (e::es) X.env=(false,eval e X.env)::starEach es X.env:=by rfl) (jI:(backTo pos (starEach es X.env)).any (·.1)=false:=by rfl):
  PE X (.Call (.Name x p) (e::es) [] pos) (Og sp dvs E t):=by
 intro pins s σ H Q I h
 refine wpAny_Call_Name_kw (sC I hg hm ?_ JK)
 refine Qcf (h₀:=X.base) I.ok.mod.LV hk (cx (ha pos pins s σ H _ I h) fun us s1 ⟨vs,H1,I1,r,q⟩=>⟨I1.nJ,?_⟩) he jI
 exact xF F hr hb hd hx I1 r q
structure Mk (K:PySem.W.Frag) (C f:Addr):Prop where
 makes:PySem.W.makesIn K C=true
 init:PySem.W.findIn K (.ref C) "__init__"=some (some (.ref f))
 fn:PySem.W.isFn K (.ref f)=true
 kp:PySem.W.keepIn K (.ref C)=true
theorem CB {pins:List (Addr×Obj)} {σ:St} {H:Hp} {s:Shared} {Q:VK} {us:List Value} {vs:List V} (M:Mk X.K C f) (F:bB X.prog X.w X.K X.mg X.base CX k f fd ps sp) (hr:fu (k+1) X.A) (hb:Binds X.K fd ps ds) (hd:Vals dvs ds)
  (hx:Passes CX X E) (I:Inv X pins σ H s) (r:Vals vs us)
  (h: ∀x dx,H x=none->H dx=none->dx≠x->sp (.ref x::(vs++dvs)) (upd (upd H dx (.own x)) x (.ins C dx [])) (fun v H2=>v= .fH/\Q (.ref x) H2) E):
  wpAny (model X.prog X.w) X.A (call (.ref C) us) (EP X pins σ Q) X.xe s:=by
 have hq:=h (s.heap.objs.size+1) s.heap.objs.size (I.b6.fresh (Qa0 _)) (I.b6.fresh (Ur _)) (Zu (Qbb _))
 have I2:=Inv.made (C:=C) I
 have r2:Vals (V.ref (s.heap.objs.size+1)::(vs++dvs)) (Value.ref (s.heap.objs.size+1)::(us++ds)):= .cons rfl (r.append hd)
 have hl:(Value.ref (s.heap.objs.size+1)::us++ds).length=ps.length:=by
  have e:=r2.length
  rw[F.len _ _ _ _ hq]at e
  exact e.symm
 refine wpAny_call (CA (f:=f) I.nJ M.makes M.init (beq_iff_eq.mp M.fn) (codeAny_mono (F.run _ X.stack _ _ ⟨Value.ref (s.heap.objs.size+1)::us,[]⟩ (Value.ref (s.heap.objs.size+1)::(us++ds)) _ _ E (hr.make C us [])
  (I2.Of.make C us []) (hb _ (Value.ref (s.heap.objs.size+1)::us) I2.nJ hl) r2 hq) fun r s' Oi=>?_))
 cases r with
 | error e=>exact hx pins σ _ _ e s' I2 Oi
 | ok fl=>
  cases fl with
  | ret u=>
   obtain ⟨v,H',I3,rv,ev,q3⟩:=I2.after Oi
   subst ev
   exact ⟨rv,⟨V.ref (s.heap.objs.size+1),H',I3,rfl,q3⟩⟩
  | next=>exact False.elim Oi
  | brk=>exact False.elim Oi
  | cont=>exact False.elim Oi
theorem nK (M:Mk X.K C f) (F:bB X.prog X.w X.K X.mg X.base CX k f fd ps sp) (hr:fu (k+1) X.A) (hg:Gl X x) (hm:X.mg x=some (.ref C)) (hb:Binds X.K fd ps ds) (hd:Vals dvs ds) (hx:Passes CX X E)
  (ha:PA X (e::es) t) (JK:(x==("__debug__":Str))=false:=by decide) (he:starEach (e::es) X.env=(false,eval e X.env)::starEach es X.env:=by rfl) (jI:(backTo pos (starEach es X.env)).any (·.1)=false:=by rfl):
  PE X (.Call (.Name x p) (e::es) [] pos) (Oh C sp dvs E t):=by
 intro pins s σ H Q I h
 refine wpAny_Call_Name_kw (sC I hg hm ?_ JK)
 refine Qcf (h₀:=X.base) I.ok.mod.LV M.kp (cx (ha pos pins s σ H _ I h) fun us s1 ⟨vs,H1,I1,r,q⟩=>⟨I1.nJ,?_⟩) he jI
 exact CB M F hr hb hd hx I1 r q
end
section
variable {X:Cx} {CX:AZ} {k:Nat} {f C:Addr} {fd:FuncData} {ps ks:List Str} {sp:Sp} {E:XK} {x m:Str} {p pos apos V9:Pos} {e o:Expr} {es:List Expr} {YO:List Keyword} {te ta:TE} {t tk:TA} {nm:Option Str}
variable {g:List Value->List Value->List Value} {gV:List V->List V->List V}
end
structure aH (N P:List Str) (sc:Scope):Prop where
 kind:sc.kind= .function
 co:sc.isCoroutine=false
 gen:sc.isGenerator=false
 nd:N.Nodup
 pre:N.take P.length=P
 par: ∀x∈P,sc.names.lookup x=some .local\/sc.names.lookup x=some .cell
 JL: ∀y∈sc.names,y.2≠ .free
theorem qQ {kindOf:Str->Option NameKind} {x:Str}: ∀{binds:List (Str×Value)} {m:Str->Option Value},(∀v,(x,v)∉binds)->bindL kindOf binds m x=m x
 | [],_,_=>rfl
 |(n,v)::r,m,h=>by
  unfold bindL
  rw[qQ fun w hw=>h w (Uq _ hw)]
  split
  ·have:x≠n:=by rintro rfl;exact h v Wi
   simp[this]
  ·rfl
theorem qR {kindOf:Str->Option NameKind} {x:Str}: ∀{binds:List (Str×Value)} {m:Str->Option Value},(∀v,(x,v)∉binds)->bindC kindOf binds m x=m x
 | [],_,_=>rfl
 |(n,v)::r,m,h=>by
  unfold bindC
  rw[qR fun w hw=>h w (Uq _ hw)]
  split
  ·rfl
  ·have:x≠n:=by rintro rfl;exact h v Wi
   simp[this]
theorem qS {kindOf:Str->Option NameKind} {x:Str} {v:Value}: ∀{P:List Str} {vs:List Value} {i:Nat} {m:Str->Option Value},P.Nodup->P[i]? =some x->vs[i]? =some v->kindOf x=some .local->
  bindL kindOf (P.zip vs) m x=some v
 | [],_,_,_,_,h,_,_=>by simp at h
 | _::_,[],_,_,_,_,h,_=>by simp at h
 | p::P,w::vs,0,m,nd,h1,h2,hk=>by
  simp at h1 h2;subst h1;subst h2
  show bindL kindOf ((p,w)::P.zip vs) m p=_
  unfold bindL
  rw[qQ fun v hv=>(ZN.mp nd).1 (Qd1 hv).1,if_pos hk]
  simp
 | p::P,w::vs,i+1,m,nd,h1,h2,hk=>by
  show bindL kindOf ((p,w)::P.zip vs) m x=_
  unfold bindL
  exact qS (i:=i) (ZN.mp nd).2 (by simpa using h1) (by simpa using h2) hk
theorem qT {kindOf:Str->Option NameKind} {x:Str} {v:Value}: ∀{P:List Str} {vs:List Value} {i:Nat} {m:Str->Option Value},P.Nodup->P[i]? =some x->vs[i]? =some v->kindOf x≠some .local->
  bindC kindOf (P.zip vs) m x=some v
 | [],_,_,_,_,h,_,_=>by simp at h
 | _::_,[],_,_,_,_,h,_=>by simp at h
 | p::P,w::vs,0,m,nd,h1,h2,hk=>by
  simp at h1 h2;subst h1;subst h2
  show bindC kindOf ((p,w)::P.zip vs) m p=_
  unfold bindC
  rw[qR fun v hv=>(ZN.mp nd).1 (Qd1 hv).1,if_neg hk]
  simp
 | p::P,w::vs,i+1,m,nd,h1,h2,hk=>by
  show bindC kindOf ((p,w)::P.zip vs) m x=_
  unfold bindC
  exact qT (i:=i) (ZN.mp nd).2 (by simpa using h1) (by simpa using h2) hk
noncomputable def start (N:List Str) (vs:List V):St:=vs.map some++List.replicate (N.length - vs.length) none
noncomputable def A0 (CX:AZ) (P:Program) (w:World) (K:PySem.W.Frag) (mg:Str->Option Value) (base:Heap) (N:List Str) (qual:Str) (scope:Scope) (f:Addr) (cd:Value) (A:Around) (outer:List Env) (s:Shared) (H:Hp) (E:XK):Cx where
 prog:=P
 w:=w
 K:=K
 mg:=mg
 base:=base
 A:=A.deeper (envOfC qual scope s.heap.objs.size f cd)
 N:=N
 s₀:=s
 H₀:=H
 env:=envOfC qual scope s.heap.objs.size f cd
 outer:=outer
 stack:=envOfC qual scope s.heap.objs.size f cd::outer
 ex:=[]
 calm:=true
 fn:=fun _=>true
 pn:=[]
 xe:=fun e s'=>wpAny (model P w) (A.deeper (envOfC qual scope s.heap.objs.size f cd)) (leaving (envOfC qual scope s.heap.objs.size f cd) e) (fun _ JM=>CX outer H s E e JM) (fun e' JM=>CX outer H s E e' JM) s'
theorem u9 {sc:Scope} {n:Nat} {x:Str} (h:sc.names.lookup x=some .cell): ∃c,(cellsFrom n sc.names []).lookup x=some c:=by
 have q:=PySem.W.cellsFrom_some sc.names n [] (.inl h)
 exact Option.isSome_iff_exists.mp q
theorem A1 {CX:AZ} {P:Program} {w:World} {K:PySem.W.Frag} {mg:Str->Option Value} {base:Heap} {N ps:List Str} {qual:Str} {scope:Scope} {f:Addr} {cd:Value} {A:Around} {outer:List Env} {s s1:Shared} {H:Hp} {E:XK} {us:List Value} {vs:List V}
  (S:aH N ps scope) (hd:A.handled=none) (e0:xE P w K mg base A outer s H) (hl:vs.length=ps.length) (r:Vals vs us)
  (x:InCallC s s.heap.objs.size (bindL (envOfC qual scope s.heap.objs.size f cd).kindOf (ps.zip us) fun _=>none) (cellsFrom (s.heap.objs.size+1) scope.names []) (bindC (envOfC qual scope s.heap.objs.size f cd).kindOf (ps.zip us) fun _=>none) s1):
  Inv (A0 CX P w K mg base N qual scope f cd A outer s H E) [] (start N vs) H s1:=by
 have jI:ps.length<=N.length:=by have:=congrArg List.length S.pre;rw[Zo]at this;omega
 obtain ⟨h1,tk,rfl,hk⟩:=x.done
 have Oj: ∀b:Addr,b∉(A0 CX P w K mg base N qual scope f cd A outer s H E).ex:=fun b z=>absurd (show b∈([]:List Addr) from z) (by simp)
 refine ⟨⟨e0.mod,S.kind,rfl,rfl,Ur _,fun y z c h1 h2=>?_,fun y hy=>?_,fun y c _ h=>?_,fun _=>hd,Around.frames_deeper e0.frames, .inr ⟨rfl,rfl⟩,fun b z=>absurd z (Oj b),e0.bs,e0.FT,fun b _ _=>Oj b,fun b z=>absurd z (Oj b),e0.m7,e0.Jp⟩,
  rfl,e0.bare,Un.kept hk,⟨_,x.toInCall.ns,fun i y v h1 h2 h3=>?_⟩,fun y c h=>⟨_,x.cell y c h⟩,e0.b6.fresh (Ur _),fun y c h=>?_,fun p hp=>absurd (show p∈([]:List (Addr×Obj)) from hp) (by simp),e0.b6.kept hk,?_⟩
 ·exact name_of_addr x.apart (Qbt h1) (Qbt h2)
 ·have hy:scope.names.lookup y=some .cell\/scope.names.lookup y=some .free:=hy
  rcases hy with hy | hy
  ·exact u9 hy
  ·exact absurd rfl (S.JL _ (Qbt hy))
 ·exact ZT (x.above y c (Qbt h))
 ·have hi:i<vs.length:=by
   unfold start at h2
   by_cases hi:i<vs.length
   ·exact hi
   ·rw[Qaf (by simpa using hi)]at h2
    rw[List.getElem?_replicate]at h2
    split at h2<;>cases h2
  have ha:vs[i]? =some v:=by
   unfold start at h2
   rw[ZW (by simpa using hi),Zv]at h2
   cases e:vs[i]? with
   | none=>rw[e]at h2;cases h2
   | some a=>rw[e]at h2;cases h2;rfl
  obtain ⟨u,hu,rv⟩:=r.get ha
  have hp:ps[i]? =some y:=by
   rw[<-S.pre,List.getElem?_take_of_lt (by omega)];exact h1
  have Uj:ps.Nodup:=by rw[<-S.pre];exact S.nd.sublist (Qdn _ _)
  refine ⟨u,rv,?_⟩
  rcases S.par y (Zs hp) with k | k
  ·exact .inl ⟨k,qS Uj hp hu k⟩
  ·obtain ⟨c,e⟩:=u9 (n:=s.heap.objs.size+1) k
   refine .inr ⟨.inl k,c,e,?_⟩
   have q:=x.cell y c e
   rw[qT Uj hp hu (by show scope.names.lookup y≠_;rw[k];decide)]at q
   exact q
 ·exact e0.b6.fresh (ZT (x.above y c (Qbt h)))
 ·unfold start
  show _=N.length
  rw[L5,Us,List.length_replicate]
  omega
theorem Ol {CX:AZ} {P:Program} {w:World} {K:PySem.W.Frag} {mg:Str->Option Value} {base:Heap} {k:Nat} {f:Addr} {name qual:Str} {params:Arguments} {body:List Stmt} {scope:Scope} {dV kV doc pm cA ct oc:Value} {an od:Option Addr}
  {Fv:Array (Option Value)} {N ps:List Str} {sp:Sp} (lk:K.lookup f=some ⟨oc,od, .func (PySem.W.fnOf name qual params body scope dV kV doc pm an cA ct),Fv⟩) (m8:PySem.W.codeIn K cA qual=true) (S:aH N ps scope)
  (len: ∀vs H Q E,sp vs H Q E->vs.length=ps.length)
  (CC: ∀(A:Around) (outer:List Env) (s:Shared) (H:Hp) (vs:List V) (Q:VK) (E:XK),fu k (A.deeper (envOfC qual scope s.heap.objs.size f cA))->sp vs H Q E->
   ∃t,xn (A0 CX P w K mg base N qual scope f cA A outer s H E) body t/\t { nx:=fun _ H'=>Q .fH H',rt:=Q } (start N vs) H):
  bB P w K mg base CX (k+1) f (PySem.W.fnOf name qual params body scope dV kV doc pm an cA ct) ps sp:=by
 refine ⟨len,fun A outer s H args us vs Q E hr e0 hb r Iv=>?_⟩
 have hl:=len _ _ _ _ Iv
 have KX:K.In s.heap:=e0.mod.LV.keeps fun b o e=>(e0.bs b o e).1
 have lim:s.heap.NoLimit:=e0.mod.nolimit.keeps fun b o e=>(e0.bs b o e).1
 have iC: ∀y∈ps.zip us,scope.names.lookup y.1=some .local\/(scope.names.lookup y.1=some .cell/\((cellsFrom (s.heap.objs.size+1) scope.names []).lookup y.1).isSome=true):=fun ⟨n,v⟩ hy=>by
  rcases S.par n (Qd1 hy).1 with q | q
  ·exact .inl q
  ·exact .inr ⟨q,PySem.W.cellsFrom_some _ _ _ (.inl q)⟩
 refine codeAny_call_function hr.depth (KX _ _ lk) rfl S.co S.gen rfl (PySem.W.codeRec_of KX m8) (hb _ _ _ _ ?_)
 refine wpAny_newFunctionEnv_cells S.kind iC fun env he s1 x=>?_
 subst he
 refine ⟨lim.keeps x.toInCall.keep,codeAny_func ?_⟩
 obtain ⟨t,ht,hq⟩:=CC A outer s H vs Q E (hr.deeper _) Iv
 have I:Inv (A0 CX P w K mg base N qual scope f cA A outer s H E) [] (start N vs) H s1:=A1 S hr.hd e0 hl r x
 refine wpAny_mono (ht [] s1 (start N vs) H _ I hq) (fun fl s' hs=>?_) fun e s' hs=>hs
 have fin: ∀{σ':St} {H':Hp} {v:V} {u:Value},Inv (A0 CX P w K mg base N qual scope f cA A outer s H E) [] σ' H' s'->RelV v u->Q v H'->CE outer P w H s Q u s':=
  fun {σ' H' v u} J rv q=>⟨v,H',J.os,J.bare,J.base,J.b6,rv,q⟩
 cases fl with
 | ret u=>
  obtain ⟨v,σ',H',J,rv,q⟩:=hs
  exact fin J rv q
 | next=>
  obtain ⟨σ',H',J,q⟩:=hs
  exact fin (v:=V.fH) (u:=Value.none) J rfl q
 | brk=>
  obtain ⟨_,_,_,q⟩:=hs
  exact False.elim q
 | cont=>
  obtain ⟨_,_,_,q⟩:=hs
  exact False.elim q
section
variable {X:Cx} {x:Str} {p pos:Pos} {e:Expr} {es:List Expr} {t:TA} {id T:String} {r:List V->Hp->VK->Prop}
def Uk (r:List V->Hp->VK->Prop) (t:TA):TE:=fun σ H Q=>t σ H fun vs H1=>r vs H1 Q
theorem aE (hc:dh X (.builtin id) r) (hg:Gl X x) (hm:X.mg x=none) (hv:bootBuiltins x=some (.builtin id)) (ha:PA X (e::es) t) (hn:x≠"__name__":=by decide) (JK:(x==("__debug__":Str))=false:=by decide)
  (he:starEach (e::es) X.env=(false,eval e X.env)::starEach es X.env:=by rfl) (jI:(backTo pos (starEach es X.env)).any (·.1)=false:=by rfl):PE X (.Call (.Name x p) (e::es) [] pos) (Uk r t):=by
 intro pins s σ H Q I h
 refine wpAny_Call_Name_kw (fV I hg hm hv ?_ hn JK)
 exact PyProof.Rows.callWith_builtin1 (cx (ha pos pins s σ H _ I h) fun us s1 ⟨vs,H1,I1,r1,q1⟩=>hc pins s1 σ H1 vs us Q I1 r1 q1) he jI
theorem cV (hc:dh X (.type T) r) (hg:Gl X x) (hm:X.mg x=none) (hv:bootBuiltins x=some (.type T)) (ha:PA X (e::es) t) (hn:x≠"__name__":=by decide) (JK:(x==("__debug__":Str))=false:=by decide)
  (he:starEach (e::es) X.env=(false,eval e X.env)::starEach es X.env:=by rfl) (jI:(backTo pos (starEach es X.env)).any (·.1)=false:=by rfl):PE X (.Call (.Name x p) (e::es) [] pos) (Uk r t):=by
 intro pins s σ H Q I h
 refine wpAny_Call_Name_kw (fV I hg hm hv ?_ hn JK)
 exact Z4 (cx (ha pos pins s σ H _ I h) fun us s1 ⟨vs,H1,I1,r1,q1⟩=>hc pins s1 σ H1 vs us Q I1 r1 q1) he jI
end
end L2
namespace HT
open PySem PyProof.Rows
section
open PySem.SeqAt
open PySem.AutoSeq1 (wpAny_loadPart')
open PySem.MeetsSeq PySem.MeetsSeq2 PySem.MeetsSeq3
end
section
variable {prog:Program} {w:World} {A:Around} {E:Value->Shared->Prop} {s:Shared}
noncomputable def iU (n d:Nat):Option Int->Nat
 | none=>d
 | some v=>if v<0 then (v+(n:Int)).toNat else min v.toNat n
theorem iV (n d:Nat):iU n d none=d:=rfl
theorem fP (n d k:Nat):iU n d (some (k:Int))=min k n:=by
 show (if (k:Int)<0 then ((k:Int)+(n:Int)).toNat else min (k:Int).toNat n)=min k n
 rw[if_neg (by omega),YT]
theorem JN (n d:Nat) (hd:d<=n) (o:Option Int):iU n d o<=n:=by
 cases o with
 | none=>exact hd
 | some v=>
  show (if v<0 then (v+(n:Int)).toNat else min v.toNat n)<=n
  by_cases hv:v<0
  ·rw[if_pos hv];omega
  ·rw[if_neg hv];exact Nat.min_le_right _ _
end
end HT
namespace L2
open PySem PySem.Spec PyProof.Rows
abbrev TO:=St->Hp->(Option Int->Hp->Prop)->Prop
def PO (X:Cx) (e:Option Expr) (t:TO):Prop:=
 ∀(pins:List (Addr×Obj)) (s:Shared) (σ:St) (H:Hp) (Q:Option Int->Hp->Prop),Inv X pins σ H s->t σ H Q->
  wpAny (model X.prog X.w) X.A (evalPart e X.env) (fun u s'=> ∃o H',Inv X pins σ H' s'/\IsPart u o/\Q o H') X.xe s
def Gg:TO:=fun _ H Q=>Q none H
def Om (t:TE):TO:=fun σ H Q=>t σ H fun x H1=> ∃i,x= .int i/\Q (some i) H1
section
variable {X:Cx} {e:Expr} {te:TE} {lo hi:Option Expr} {tl th:TO} {pos p2:Pos}
theorem bH:PO X none Gg:=by
 intro pins s σ H Q I h
 rw[evalPart_none]
 exact wpAny_pure ⟨none,H,I, .none,h⟩
theorem aY (h:PE X e te):PO X (some e) (Om te):=by
 intro pins s σ H Q I hw
 rw[evalPart_some]
 refine cx (h pins s σ H _ I hw) fun u s1 ⟨x,H1,I1,r1,q1⟩=>?_
 obtain ⟨i,rfl,q⟩:=q1
 obtain ⟨t,rfl⟩:=r1
 exact ⟨some i,H1,I1, .int i t,q⟩
def Qx (X:Cx) (r:V->Option Int->Option Int->Hp->VK->Prop):Prop:=
 ∀(pins:List (Addr×Obj)) (s:Shared) (σ:St) (H:Hp) (x:V) (v vl vu:Value) (lo hi:Option Int) (sl:Addr) (Q:VK),Inv X pins σ H s->RelV x v->s.heap.IsSliceOf sl vl vu .none->IsPart vl lo->IsPart vu hi->r x lo hi H Q->
  ∃T id,typeLookup (.type T) "__getitem__"=pure (some (.builtin id))/\s.TypeIs v T/\wpAny (model X.prog X.w) X.A (getItem v (.ref sl)) (EP X pins σ Q) X.xe s
def V_ (r:V->Option Int->Option Int->Hp->VK->Prop) (te:TE) (tl th:TO):TE:=fun σ H Q=>te σ H fun x H1=>tl σ H1 fun l H2=>th σ H2 fun u H3=>r x l u H3 Q
theorem aX {r:V->Option Int->Option Int->Hp->VK->Prop} (hr:Qx X r) (he:PE X e te) (hl:PO X lo tl) (hu:PO X hi th):PE X (.Subscript e (.Slice lo hi none p2) pos) (V_ r te tl th):=by
 intro pins s σ H Q I h
 refine Subscript_ (cx (he pins s σ H _ I h) fun v s1 ⟨x,H1,I1,r1,q1⟩=>?_)
 refine wpAny_Slice (cx (hl pins s1 σ H1 _ I1 q1) fun vl s2 ⟨l,H2,I2,pl,q2⟩=>cx (hu pins s2 σ H2 _ I2 q2) fun vu s3 ⟨u,H3,I3,pu,q3⟩=>?_)
 rw[evalPart_none]
 refine wpAny_pure ?_
 have I4:Inv X pins σ H3 { s3 with heap:=s3.heap.push { cls:= .type "slice",data:= .fields #[vl,vu, .none] } }:=I3.kept (t':=s3.toks) fun b ob q=>QC _ q
 obtain ⟨T,id,hT,ht,hg⟩:=hr pins { s3 with heap:=s3.heap.push { cls:= .type "slice",data:= .fields #[vl,vu, .none] } } σ H3 x v vl vu l u s3.heap.objs.size Q I4 r1 (Heap.IsSliceOf.new ..) pl pu q3
 show wpAny (model X.prog X.w) X.A (subscriptTail e (.Slice lo hi none p2) v (.ref s3.heap.objs.size)) (EP X pins σ Q) X.xe { s3 with heap:=s3.heap.push { cls:= .type "slice",data:= .fields #[vl,vu, .none] } }
 exact tail_any (ops:=[.ref s3.heap.objs.size,v]) ht hT hg (by with_unfolding_all rfl)
noncomputable def A2 (xs:List V) (lo hi:Option Int):List V:=(xs.drop (HT.iU xs.length 0 lo)).take (HT.iU xs.length xs.length hi - HT.iU xs.length 0 lo)
theorem u_ (xs:List V) (lo hi:Option Int):(A2 xs lo hi).length<=xs.length:=by
 unfold A2
 rw[Zo,Zz]
 omega
end
noncomputable def Fx (n:Nat) (i:Int):Option Nat:=if 0<=i then (if i<n then some i.toNat else none) else if -(n:Int)<=i then some (i+n).toNat else none
noncomputable def iD {α:Type} (xs:List α) (i:Int):Option α:=(Fx xs.length i).bind fun j=>xs[j]?
theorem zA {n:Nat} {i:Int} {j:Nat} (h:Fx n i=some j):seqIndex? i n=some j/\j<n/\ -(n:Int)<=i/\i<n:=by
 unfold Fx at h
 by_cases h0:0<=i
 ·rw[if_pos h0]at h
  by_cases h1:i<n
  ·rw[if_pos h1]at h
   have e:i.toNat=j:=YS h
   exact ⟨by rw[seqIndex_of h0 h1,e],by omega,by omega,h1⟩
  ·rw[if_neg h1]at h;cases h
 ·rw[if_neg h0]at h
  by_cases h1: -(n:Int)<=i
  ·rw[if_pos h1]at h
   have e:(i+n).toNat=j:=YS h
   exact ⟨by rw[seqIndex_neg (by omega) h1,e],by omega,h1,by omega⟩
  ·rw[if_neg h1]at h;cases h
theorem sH {α:Type} {xs:List α} {i:Int} {v:α} (h:iD xs i=some v): ∃j,seqIndex? i xs.length=some j/\xs[j]? =some v/\j<xs.length/\ -(xs.length:Int)<=i/\i<xs.length:=by
 unfold iD at h
 cases e:Fx xs.length i with
 | none=>rw[e]at h;cases h
 | some j=>
  rw[e]at h
  obtain ⟨h1,h2,h3,h4⟩:=zA e
  exact ⟨j,h1,h,h2,h3,h4⟩
theorem bN {α:Type} {xs:List α} {j:Nat} {v:α} (h:xs[j]? =some v):iD xs (j:Int)=some v:=by
 have hj:j<xs.length:=(J1.mp h).1
 have e:Fx xs.length (j:Int)=some j:=by
  unfold Fx
  rw[if_pos (by omega),if_pos (by omega)];simp
 unfold iD;rw[e];exact h
theorem oz {α:Type} (xs:List α) (v:α):iD (xs++[v]) (-1)=some v:=by
 have hl:(xs++[v]).length=xs.length+1:=by simp
 have e:Fx (xs++[v]).length (-1)=some xs.length:=by
  unfold Fx
  rw[hl,if_neg (by decide),if_pos (by omega)]
  congr 1
  omega
 unfold iD
 rw[e]
 show (xs++[v])[xs.length]? =some v
 simp
def Gh (b:Expr):Prop:= ∀o i,subscripted b false o i=operate [o,i] (getItem o i)
def JO (X:Cx) (r:R2):Prop:=
 ∀(value slice:Expr) (pins:List (Addr×Obj)) (s:Shared) (σ:St) (H:Hp) (x y:V) (v u:Value) (Q:VK),Inv X pins σ H s->RelV x v->RelV y u->r x y H Q->
  subscripted slice false v u=operate [v,u] (getItem v u)->wpAny (model X.prog X.w) X.A (subscriptTail value slice v u) (EP X pins σ Q) X.xe s
def zB (X:Cx) (id:String) (r:V->List V->Hp->VK->Prop):Prop:=
 ∀(pins:List (Addr×Obj)) (s:Shared) (σ:St) (H:Hp) (x:V) (xs:List V) (v:Value) (us:List Value) (Q:VK),Inv X pins σ H s->RelV x v->Vals xs us->r x xs H Q->
  wpAny (model X.prog X.w) X.A (call (.builtin id) (v::us)) (EP X pins σ Q) X.xe s
section
variable {X:Cx} {a b:Expr} {ta tb:TE} {pos:Pos}
theorem aP {r:R2} (hr:JO X r) (ha:PE X a ta) (hb:PE X b tb) (hs:Gh b):PE X (.Subscript a b pos) (Qv r ta tb):=by
 intro pins s σ H Q I h
 exact Subscript_ (JH ha hb I h fun v u s2 x y H2 I2 rx ry q=>hr a b pins s2 σ H2 x y v u Q I2 rx ry q (hs _ _))
def Oo (K:PySem.W.Frag):R2:=fun x y H Q=> ∃p xs i v,x= .ref p/\y= .int i/\bD K H p xs/\iD xs i=some v/\Q v H
def Oq (K:PySem.W.Frag):R2:=fun x y H Q=> ∃p xs i v,x= .ref p/\y= .int i/\cR K H p xs/\iD xs i=some v/\Q v H
def Sk:R2:=fun x y H Q=> ∃z i c,x= .str z/\y= .int i/\z.length<=sizeLine/\iD z.cps.toList i=some c/\Q (.str ⟨#[c]⟩) H
theorem Gi:JO X (Oo X.K):=by
 intro value slice pins s σ H x y v u Q I rx ry h hs
 obtain ⟨p,xs,i,z,rfl,rfl,hq,he,q⟩:=h
 cases rx
 obtain ⟨t,rfl⟩:=ry
 obtain ⟨aO,r,pl,hz⟩:=I.list hq
 obtain ⟨j,h1,h2,h3,h4,h5⟩:=sH he
 obtain ⟨w,ew,qm⟩:=r.get h2
 have hl:=r.length
 have hn:=eQ
 have fin:EP X pins σ Q w s:=⟨z,H,I,qm,q⟩
 by_cases h0:0<=i
 ·have hj:i.toNat=j:=by
   rw[seqIndex_of h0 h5]at h1
   exact YS h1
  exact item_listR pl.isList h0 (by omega) (by rw[hj];simpa using ew) fin hs
 ·have hj:(i+(aO.toArray.size:Int)).toNat=j:=by
   rw[seqIndex_neg (by omega) h4]at h1
   rw[Wl, <-hl]
   exact YS h1
  exact subscriptTail_builtinR (x:=w) pl.isList.typeIs slot_list_getitem.lookup
   (wpAny_getItem_list_neg (Q:=fun r s'=>r=w/\EP X pins σ Q r s') pl.isList (by omega) (by rw[Wl]<;>omega) (by omega) (by rw[hj];simpa using ew) ⟨rfl,fin⟩) hs
theorem JP:JO X (Oq X.K):=by
 intro value slice pins s σ H x y v u Q I rx ry h hs
 obtain ⟨p,xs,i,z,rfl,rfl,hq,he,q⟩:=h
 cases rx
 obtain ⟨t,rfl⟩:=ry
 obtain ⟨aO,r,pl,hz⟩:=I.tuple hq
 obtain ⟨j,h1,h2,h3,h4,h5⟩:=sH he
 obtain ⟨w,ew,qm⟩:=r.get h2
 have hl:=r.length
 have hn:=eQ
 have fin:EP X pins σ Q w s:=⟨z,H,I,qm,q⟩
 exact subscriptTail_builtinR (x:=w) pl.typeIs slot_tuple_getitem.lookup
  (getItem_tuple (j:=j) (Q:=fun r s'=>r=w/\EP X pins σ Q r s') pl (by omega) (by omega) (by rw[Wl, <-hl];exact h1) (by simpa using ew) ⟨rfl,fin⟩) hs
theorem JQ:JO X Sk:=by
 intro value slice pins s σ H x y v u Q I rx ry h hs
 obtain ⟨z,i,c,rfl,rfl,hz,he,q⟩:=h
 obtain ⟨t,rfl⟩:=rx
 obtain ⟨t',rfl⟩:=ry
 obtain ⟨j,h1,h2,h3,h4,h5⟩:=sH he
 have hl:z.cps.toList.length=z.length:=by simp[Str.length]
 rw[hl]at h1 h4 h5
 have hn:=eQ
 exact tail_any (typeIs_str s z t) slot_str_getitem.lookup (getItem_str (c:=c) (by
  have e1:decide (i< -(2 ^ 63:Int))=false:=decide_eq_false (by omega)
  have e2:decide (i ≥ 2 ^ 63)=false:=decide_eq_false (by omega)
  rw[e1,e2,Qb7]) (by rw[h1];simpa using h2) ⟨.str ⟨#[c]⟩,H,I.tok _,⟨_,rfl⟩,q⟩) hs
theorem xG (aO:List Value) (n j:Nat) (u:Value):Obj.mapSeq (·.setIfInBounds j u) { cls:= .type "list",data:= .seq aO.toArray n }={ cls:= .type "list",data:= .seq (aO.set j u).toArray n }:=by
 simp[Obj.mapSeq]
theorem Inv.lst {pins:List (Addr×Obj)} {σ:St} {H:Hp} {s:Shared} {p:Addr} {xs:List V} (I:Inv X pins σ H s) (h:H p=some (.lst xs)):
  ∃(aO:List Value) (n:Nat),Vals xs aO/\s.heap.get? p=some { cls:= .type "list",data:= .seq aO.toArray n }/\xs.length<=sizeLine:=by
 obtain ⟨z,aO,n,r,e⟩:=I.b6 p _ h
 exact ⟨aO,n,r,e,z⟩
theorem Inv.JR {pins:List (Addr×Obj)} {σ:St} {H:Hp} {s:Shared} {p:Addr} {xs ys:List V} {aO its':List Value} {n n':Nat} {f:Obj->Obj} (I:Inv X pins σ H s) (h:H p=some (.lst xs))
  (ho:s.heap.get? p=some { cls:= .type "list",data:= .seq aO.toArray n }) (hf:f { cls:= .type "list",data:= .seq aO.toArray n }={ cls:= .type "list",data:= .seq its'.toArray n' }) (r:Vals ys its') (hz:ys.length<=sizeLine) (t:Nat):
  Inv X pins σ (upd H p (.lst ys)) { s with heap:=s.heap.update p f,toks:=t }:=by
 have e:(s.heap.update p f).get? p=some { cls:= .type "list",data:= .seq its'.toArray n' }:=by
  rw[Z9 f ho (by rw[hf]<;>rfl),hf]
 refine I.write (x:=p) (e:=p) (by rw[h];trivial) (.inl rfl) (fun b u hb q=>(ZP _ _ (Ne.symm hb)).trans q) ⟨_,e⟩ ?_
 exact ⟨hz,its',n',r,e⟩
def Ot:V->V->V->Hp->(Hp->Prop)->Prop:=fun o i v H Q=> ∃p xs k j,o= .ref p/\i= .int k/\H p=some (.lst xs)/\Fx xs.length k=some j/\Q (upd H p (.lst (xs.set j v)))
theorem set_list:NZ X Ot:=by
 intro pins s σ H o i v ov iv u Q I ro ri rv h
 obtain ⟨p,xs,k,j,rfl,rfl,hp,hj,q⟩:=h
 cases ro
 obtain ⟨t,rfl⟩:=ri
 obtain ⟨aO,n,r,ho,hz⟩:=I.lst hp
 obtain ⟨h1,h2,h3,h4⟩:=zA hj
 have hl:=r.length
 have hn:=eQ
 have I':Inv X pins σ (upd H p (.lst (xs.set j v))) { s with heap:=s.heap.update p (Obj.mapSeq (·.setIfInBounds j u)) }:=
  I.JR hp ho (xG aO n j u) (r.set rv j) (by rw[List.length_set];exact hz) s.toks
 by_cases h0:0<=k
 ·have hk:k.toNat=j:=by
   rw[seqIndex_of h0 h4]at h1
   exact YS h1
  exact PySem.W.ki_setAt ho h0 (by omega) (by rw[Wl, <-hl];exact h4) (by rw[hk];exact ⟨_,I',q⟩)
 ·have hk:(k+(aO.toArray.size:Int)).toNat=j:=by
   rw[seqIndex_neg (by omega) h3]at h1
   rw[Wl, <-hl]
   exact YS h1
  exact PySem.W.ki_setBack ho (by omega) (by rw[Wl, <-hl];exact h3) (by omega) (by rw[hk];exact ⟨_,I',q⟩)
theorem sI (lo hi:Option Int) (n:Nat):(sliceBounds lo hi none n).1=((HT.iU n 0 lo:Nat):Int)/\(sliceBounds lo hi none n).2.1=((HT.iU n n hi:Nat):Int)/\(sliceBounds lo hi none n).2.2=1:=by
 refine ⟨?_,?_,rfl⟩
 ·cases lo with
  | none=>simp[sliceBounds,HT.iU]
  | some i=>
   simp only[sliceBounds,HT.iU,Option.getD_none,show (1:Int)>0 by decide,if_true]
   by_cases h:i<0
   ·simp only[h,if_true]<;>omega
   ·simp only[h,if_false]<;>omega
 ·cases hi with
  | none=>simp[sliceBounds,HT.iU]
  | some i=>
   simp only[sliceBounds,HT.iU,Option.getD_none,show (1:Int)>0 by decide,if_true]
   by_cases h:i<0
   ·simp only[h,if_true]<;>omega
   ·simp only[h,if_false]<;>omega
theorem qp (aO:List Value) (lo hi:Option Int):slicePick aO.toArray lo hi none=((aO.drop (HT.iU aO.length 0 lo)).take (HT.iU aO.length aO.length hi - HT.iU aO.length 0 lo)).toArray:=by
 obtain ⟨h1,h2,h3⟩:=sI lo hi aO.toArray.size
 unfold slicePick
 rw[h1,h2,h3]
 simp only[sliceRange_one,pick_run,Wl]<;>rfl
def Ou (K:PySem.W.Frag):V->Option Int->Option Int->Hp->VK->Prop:=fun x lo hi H Q=> ∃a xs,x= .ref a/\bD K H a xs/\ ∀p,H p=none->Q (.ref p) (upd H p (.lst (A2 xs lo hi)))
theorem Gj:Qx X (Ou X.K):=by
 intro pins s σ H x v vl vu lo hi sl Q I rx hs pl pu h
 obtain ⟨a,xs,rfl,hx,q⟩:=h
 cases rx
 obtain ⟨aO,r,ht,hz⟩:=I.list hx
 have hlen:=r.length
 refine ⟨"list",_,slot_list_getitem.lookup,ht.isList.typeIs,?_⟩
 refine wpAny_getItem_list_slice ht.isList hs pl pu .none (by simp) ?_ (by rw[Wl]<;>omega)
 rw[qp, <-hlen]
 refine ⟨.ref s.heap.objs.size,_,I.laid (t':=s.toks) (o:= .lst (A2 xs lo hi)) (fun b ob q=>QC _ q) (Ur _) ?_,rfl,q _ (I.b6.fresh (Ur _))⟩
 exact ⟨ZI (u_ xs lo hi) hz,_,0,(r.drop (HT.iU xs.length 0 lo)).take (HT.iU xs.length xs.length hi - HT.iU xs.length 0 lo),Zq _ rfl⟩
noncomputable def kC:V->Bool
 | .fH=>true
 | .bl _=>true
 | .int _=>true
 | .str _=>true
 | _=>false
noncomputable def CD:V->V->Bool
 | .fH, .fH=>true
 | .bl a, .bl b=>a==b
 | .bl a, .int b=>(if a then 1 else 0)==b
 | .int a, .bl b=>a==(if b then 1 else 0)
 | .int a, .int b=>a==b
 | .str a, .str b=>a==b
 | _,_=>false
theorem JS {A:Around} {s:Shared} {y x:V} {u v:Value} (ry:RelV y u) (rx:RelV x v) (fy:kC y=true) (fx:kC x=true):SeqAt.EqAt A s u v (CD y x):=by
 cases y with
 | fH=>
  cases ry
  cases x with
  | fH=>cases rx;exact SeqAt.EqAt.same _
  | bl b=>cases rx;exact SeqAt.EqAt.none_bool b
  | int b=>obtain ⟨t,rfl⟩:=rx;exact SeqAt.EqAt.none_int b t
  | str b=>obtain ⟨t,rfl⟩:=rx;exact SeqAt.EqAt.none_str b t
  | _=>exact absurd (show false=true from fx) Zw
 | bl a=>
  cases ry
  cases x with
  | fH=>cases rx;exact SeqAt.EqAt.bool_none a
  | bl b=>cases rx;exact SeqAt.EqAt.bool_bool a b
  | int b=>obtain ⟨t,rfl⟩:=rx;exact SeqAt.EqAt.bool_int a b t
  | str b=>obtain ⟨t,rfl⟩:=rx;exact SeqAt.EqAt.bool_str a b t
  | _=>exact absurd (show false=true from fx) Zw
 | int a=>
  obtain ⟨t',rfl⟩:=ry
  cases x with
  | fH=>cases rx;exact SeqAt.EqAt.int_none a t'
  | bl b=>cases rx;exact SeqAt.EqAt.int_bool a t' b
  | int b=>obtain ⟨t,rfl⟩:=rx;exact SeqAt.EqAt.int_int a t' b t
  | str b=>obtain ⟨t,rfl⟩:=rx;exact SeqAt.EqAt.int_str a t' b t
  | _=>exact absurd (show false=true from fx) Zw
 | str a=>
  obtain ⟨t',rfl⟩:=ry
  cases x with
  | fH=>cases rx;exact SeqAt.EqAt.str_none a t'
  | bl b=>cases rx;exact SeqAt.EqAt.str_bool a t' b
  | int b=>obtain ⟨t,rfl⟩:=rx;exact SeqAt.EqAt.str_int a t' b t
  | str b=>obtain ⟨t,rfl⟩:=rx;exact SeqAt.EqAt.str_str a t' b t
  | _=>exact absurd (show false=true from fx) Zw
 | _=>exact absurd (show false=true from fy) Zw
noncomputable def va (x:V) (u:Value):Bool:=match u with
 | .none=>CD .fH x
 | .bool b=>CD (.bl b) x
 | .int i _=>CD (.int i) x
 | .str z _=>CD (.str z) x
 | _=>false
theorem xH {x y:V} {u:Value} (r:RelV y u) (f:kC y=true):va x u=CD y x:=by
 cases y with
 | fH=>cases r;rfl
 | bl b=>cases r;rfl
 | int i=>obtain ⟨t,rfl⟩:=r;rfl
 | str z=>obtain ⟨t,rfl⟩:=r;rfl
 | _=>exact absurd (show false=true from f) Zw
theorem kD {x:V}: ∀{xs:List V} {us:List Value},Vals xs us->xs.all kC=true->us.any (va x)=xs.any fun y=>CD y x
 | _,_, .nil,_=>rfl
 | y::xs,u::us, .cons r t,f=>by
  rw[List.all_cons,Z8]at f
  rw[Qa1,Qa1,xH r f.1,kD t f.2]
theorem gU {A:Around} {s:Shared} {x:V} {v:Value} (rx:RelV x v) (fx:kC x=true): ∀{xs:List V} {us:List Value},Vals xs us->xs.all kC=true-> ∀u∈us,SeqAt.EqAt A s u v (va x u)
 | _,_, .nil,_=>fun u hu=>by cases hu
 | y::xs,u::us, .cons r t,f=>fun u' hu=>by
  rw[List.all_cons,Z8]at f
  rcases Wj.mp hu with rfl | hu
  ·rw[xH r f.1];exact JS r rx f.1 fx
  ·exact gU rx fx t f.2 u' hu
noncomputable def A3 (x:V) (xs:List V):Bool:=xs.any fun y=>CD y x
def Qy (K:PySem.W.Frag) (neg:Bool):R2:=fun x y H Q=> ∃p xs,y= .ref p/\(bD K H p xs\/cR K H p xs)/\kC x=true/\xs.all kC=true/\Q (.bl (if neg then !A3 x xs else A3 x xs)) H
theorem A4:iL X (compareOp .In) (Qy X.K false):=by
 intro pins s σ H x y v u Q I rx ry h
 obtain ⟨p,xs,rfl,hq,fx,fs,q⟩:=h
 cases ry
 rcases hq with hq | hq
 ·obtain ⟨aO,r,pl,hz⟩:=I.list hq
  refine SeqAt.in_listAt (va x) pl.isList (fun w hw=>gU rx fx r fs w (by simpa using hw)) ⟨.bl _,H,I,rfl,?_⟩
  rw[show aO.toArray.any (va x)=aO.any (va x) by simp,kD r fs]
  exact q
 ·obtain ⟨aO,r,pl,hz⟩:=I.tuple hq
  refine SeqAt.in_tupleAt (va x) pl (fun w hw=>gU rx fx r fs w (by simpa using hw)) ⟨.bl _,H,I,rfl,?_⟩
  rw[show aO.toArray.any (va x)=aO.any (va x) by simp,kD r fs]
  exact q
theorem sJ:iL X (compareOp .NotIn) (Qy X.K true):=by
 intro pins s σ H x y v u Q I rx ry h
 obtain ⟨p,xs,rfl,hq,fx,fs,q⟩:=h
 cases ry
 rcases hq with hq | hq
 ·obtain ⟨aO,r,pl,hz⟩:=I.list hq
  refine SeqAt.notIn_listAt (va x) pl.isList (fun w hw=>gU rx fx r fs w (by simpa using hw)) ⟨.bl _,H,I,rfl,?_⟩
  rw[show aO.toArray.any (va x)=aO.any (va x) by simp,kD r fs]
  exact q
 ·obtain ⟨aO,r,pl,hz⟩:=I.tuple hq
  refine SeqAt.notIn_tupleAt (va x) pl (fun w hw=>gU rx fx r fs w (by simpa using hw)) ⟨.bl _,H,I,rfl,?_⟩
  rw[show aO.toArray.any (va x)=aO.any (va x) by simp,kD r fs]
  exact q
theorem sL:dh X (.builtin "len") (fun xs H Q=> ∃p ys,xs=[.ref p]/\(bD X.K H p ys\/cR X.K H p ys)/\Q (.int ys.length) H):=by
 intro pins s σ H xs us Q I r h
 obtain ⟨p,ys,rfl,hq,q⟩:=h
 obtain ⟨u,rfl,rx⟩:=vals1 r
 cases rx
 have hn:=eQ
 rcases hq with hq | hq
 ·obtain ⟨aO,r',pl,hz⟩:=I.list hq
  have hlen:=r'.length
  exact Calls.call_len_list pl.isList (by simp only[Wl]<;>omega) ⟨.int ys.length,H,I.tok _,⟨s.toks+1,by rw[Wl,hlen]⟩,q⟩
 ·obtain ⟨aO,r',pl,hz⟩:=I.tuple hq
  have hlen:=r'.length
  exact len_tuple pl (by simp only[Wl]<;>omega) ⟨.int ys.length,H,I.tok _,⟨s.toks+1,by rw[Wl,hlen]⟩,q⟩
theorem sM:dh X (.builtin "len") (fun xs H Q=> ∃z,xs=[.str z]/\z.length<=sizeLine/\Q (.int z.length) H):=by
 intro pins s σ H xs us Q I r h
 obtain ⟨z,rfl,hz,q⟩:=h
 obtain ⟨u,rfl,t,rfl⟩:=vals1 r
 have hn:=eQ
 exact len_str (by omega) ⟨.int z.length,H,I.tok _,⟨_,rfl⟩,q⟩
theorem sN:dh X (.type "list") (fun xs H Q=> ∃p ys,xs=[.ref p]/\(bD X.K H p ys\/cR X.K H p ys)/\ ∀l,H l=none->Q (.ref l) (upd H l (.lst ys))):=by
 intro pins s σ H xs us Q I r h
 obtain ⟨p,ys,rfl,hq,q⟩:=h
 obtain ⟨u,rfl,rx⟩:=vals1 r
 cases rx
 have fin: ∀(aO:List Value),Vals ys aO->ys.length<=sizeLine-> ∀(h':Heap) (c':Nat),(∀b o',s.heap.get? b=some o'->h'.get? b=some o')->
   h'.get? s.heap.objs.size=some { cls:= .type "list",dict:=none,data:= .seq aO.toArray c',slots:= #[] }->EP X pins σ Q (.ref s.heap.objs.size) { s with heap:=h' }:=fun aO r' hz h' c' kp e=>
  ⟨.ref s.heap.objs.size,_,I.laid (t':=s.toks) kp (Ur _) (show cb X.prog X.w _ h' _ (.lst ys) from ⟨hz,aO,c',r',e⟩),rfl,q _ (I.b6.fresh (Ur _))⟩
 rcases hq with hq | hq
 ·obtain ⟨aO,r',pl,hz⟩:=I.list hq
  have hlen:=r'.length
  obtain ⟨o,ho,hc,n,hd⟩:=pl.isList
  exact call_list_seq p (.inl rfl) ho hc hd (fun h' c' kp e=>fin aO r' hz h' c' kp e) (by simp only[Wl]<;>omega)
 ·obtain ⟨aO,r',pl,hz⟩:=I.tuple hq
  have hlen:=r'.length
  obtain ⟨o,ho,hc,n,hd⟩:=pl
  exact call_list_seq p (.inr rfl) ho hc hd (fun h' c' kp e=>fin aO r' hz h' c' kp e) (by simp only[Wl]<;>omega)
theorem qq:dh X (.type "tuple") (fun xs H Q=> ∃p ys,xs=[.ref p]/\((bD X.K H p ys/\ ∀l,H l=none->Q (.ref l) (upd H l (.tup ys)))\/(cR X.K H p ys/\Q (.ref p) H))):=by
 intro pins s σ H xs us Q I r h
 obtain ⟨p,ys,rfl,h⟩:=h
 obtain ⟨u,rfl,rx⟩:=vals1 r
 cases rx
 rcases h with ⟨hq,q⟩ | ⟨hq,q⟩
 ·obtain ⟨aO,r',pl,hz⟩:=I.list hq
  have hlen:=r'.length
  refine call_tuple_list pl.isList (fun h' kp=>?_) (by simp only[Wl]<;>omega)
  have I1:Inv X pins σ H { s with heap:=h' }:=I.kept (t':=s.toks) kp
  have I2:Inv X pins σ (upd H h'.objs.size (.tup ys)) { s with heap:=h'.push { cls:= .type "tuple",data:= .seq aO.toArray } }:=
   I1.laid (t':=s.toks) (fun b o e=>QC _ e) (Ur _) (show cb X.prog X.w _ _ _ (.tup ys) from ⟨hz,aO,r',IsTup.new _ _⟩)
  exact ⟨.ref h'.objs.size,_,I2,rfl,q _ (I1.b6.fresh (Ur _))⟩
 ·obtain ⟨aO,r',pl,hz⟩:=I.tuple hq
  exact call_tuple_same pl ⟨.ref p,H,I,rfl,q⟩
def Qz (K:PySem.W.Frag) (T:String) (x:V) (H:Hp):Prop:=match x with
 | .str _=>T="str"
 | .int _=>T="int"
 | .ref p=>(T="list"/\ ∃xs,bD K H p xs)\/(T="tuple"/\ ∃o,K.lookup p=some o/\o.cls= .type "tuple"/\o.dict=none)\/
   (T="dict"/\((∃aT,H p=some (.dK aT))\/ ∃aT,H p=some (.dT aT)))\/(T="set"/\ ∃S n,H p=some (.set S n))
 | _=>False
theorem xI {pins:List (Addr×Obj)} {σ:St} {H:Hp} {s:Shared} {T:String} {x:V} {v:Value} (I:Inv X pins σ H s) (r:RelV x v) (ty:Qz X.K T x H):
  s.TypeIs v T/\ ∀a,v= .ref a-> ∃ob,s.heap.get? a=some ob/\ob.dict=none:=by
 cases x with
 | str z=>
  obtain ⟨t,rfl⟩:=r
  cases (show T="str" from ty)
  exact ⟨typeIs_str s z t,fun _ e=>nomatch e⟩
 | int i=>
  obtain ⟨t,rfl⟩:=r
  cases (show T="int" from ty)
  exact ⟨typeIs_int s i t,fun _ e=>nomatch e⟩
 | ref p=>
  cases r
  rcases ty with ⟨rfl,xs,hq⟩ | ⟨rfl,o,hk,hc,hd⟩ | ⟨rfl,hk⟩ | ⟨rfl,S,n,hk⟩
  ·obtain ⟨aO,_,pl,_⟩:=I.list hq
   refine ⟨pl.isList.typeIs,fun a e=>?_⟩
   cases e
   obtain ⟨o,n,e,c,hd,_⟩:=pl
   exact ⟨o,e,hd⟩
  ·refine ⟨⟨o,I.nJ p o hk,hc⟩,fun a e=>?_⟩
   cases e
   exact ⟨o,I.nJ _ o hk,hd⟩
  ·have z: ∃o,s.heap.get? p=some o/\o.ExactDict:=by
    rcases hk with ⟨aT,hk⟩ | ⟨aT,hk⟩
    ·obtain ⟨_,_,_,_,o,_,_,e,ex,_⟩:=I.b6 p _ hk
     exact ⟨o,e,ex⟩
    ·obtain ⟨_,_,_,_,o,_,_,e,ex,_⟩:=I.b6 p _ hk
     exact ⟨o,e,ex⟩
   obtain ⟨o,e,ex⟩:=z
   refine ⟨⟨o,e,ex.1⟩,fun a e2=>?_⟩
   cases e2
   exact ⟨o,e,ex.2.1⟩
  ·obtain ⟨o,_,_,_,e,ex,_⟩:=I.b6 p _ hk
   refine ⟨⟨o,e,ex.1⟩,fun a e2=>?_⟩
   cases e2
   exact ⟨o,e,ex.2.1⟩
 | _=>exact False.elim ty
def Ov (K:PySem.W.Frag) (T:String) (r:V->List V->Hp->VK->Prop) (to:TE):TE:=fun σ H Q=>to σ H fun x H1=>Qz K T x H1/\r x [] H1 Q
def Ul (K:PySem.W.Frag) (T:String) (r:V->List V->Hp->VK->Prop) (to:TE) (t:TA):TE:=fun σ H Q=>to σ H fun x H1=>Qz K T x H1/\t σ H1 fun xs H2=>r x xs H2 Q
variable {o e:Expr} {es:List Expr} {to:TE} {t:TA} {name:Str} {apos fX:Pos} {T id:String} {r:V->List V->Hp->VK->Prop}
theorem JT (pa:PlainAttrs T) (slot:Slot T name id) (JU:typeOf (.builtin id)=pure (.type "method_descriptor")) (hm:zB X id r) (ho:PE X o to)
  (kE:attributeBase o name X.env (eval o X.env)=eval o X.env:=by rfl) (jJ:(apos.endLine==fX.line)=true:=by rfl):PE X (.Call (.Attribute o name apos) [] [] fX) (Ov X.K T r to):=by
 intro pins s σ H Q I h
 refine wpAny_Call_method0_late kE jJ (cx (ho pins s σ H _ I h) fun v s1 ⟨x,H1,I1,r1,ty,q1⟩=>?_)
 obtain ⟨h1,h2⟩:=xI I1 r1 ty
 exact ⟨T,id,pa,slot,JU,h1,h2,Qdc rfl (PySem.evalArgs_none (hm pins s1 σ H1 x [] v [] Q I1 r1 .nil q1))⟩
theorem Ow (pa:PlainAttrs T) (slot:Slot T name id) (JU:typeOf (.builtin id)=pure (.type "method_descriptor")) (hm:zB X id r) (ho:PE X o to) (ha:PA X (e::es) t)
  (kE:attributeBase o name X.env (eval o X.env)=eval o X.env:=by rfl)
  (CF:((backTo fX (starEach (e::es) X.env)).all (fun x=>!x.1)&&(backToKw fX (keywordEach [] X.env)).all (fun x=>x.1.isSome)
   &&decide ((e::es).length+([]:List Keyword).length+(if ([]:List Keyword).isEmpty then 0 else 1)<30))=true:=by rfl)
  (jJ:(apos.endLine==fX.line)=true:=by rfl) (hs:starEach (e::es) X.env=(false,eval e X.env)::starEach es X.env:=by rfl) (xJ:(backTo fX (starEach es X.env)).any (·.1)=false:=by rfl):
  PE X (.Call (.Attribute o name apos) (e::es) [] fX) (Ul X.K T r to t):=by
 intro pins s σ H Q I h
 refine wpAny_Call_method_late kE CF jJ rfl (cx (ho pins s σ H _ I h) fun v s1 ⟨x,H1,I1,r1,ty,q1⟩=>?_)
 obtain ⟨h1,h2⟩:=xI I1 r1 ty
 refine ⟨T,id,pa,slot,JU,h1,h2,?_⟩
 have hA:=ha fX pins s1 σ H1 _ I1 q1
 rw[hs]at hA ⊢
 refine Qdc (by show (false||(backTo fX (starEach es X.env)).any (·.1))=false;rw[xJ]<;>rfl) (Calls.evalArgs_plain ?_)
 exact cx hA fun us s2 ⟨vs,H2,I2,r2,q2⟩=>hm pins s2 σ H2 x vs v us Q I2 r1 r2 q2
end
def L4 (X:Cx) (id:String) (r:V->List V->Hp->VK->Prop):Prop:=
 ∀(pins:List (Addr×Obj)) (s:Shared) (σ:St) (H:Hp) (x:V) (xs:List V) (v:Value) (us:List Value) (Q:VK),Inv X pins σ H s->RelV x v->Vals xs us->r x xs H Q->
  wpAny (model X.prog X.w) X.A (call (.builtin id) (v::us)) (EP X pins σ Q) X.xe s
theorem Vals.one: ∀{x:V} {us:List Value},Vals [x] us-> ∃u,us=[u]/\RelV x u
 | _,_, .cons r .nil=>⟨_,rfl,r⟩
theorem Vals.zero: ∀{us:List Value},Vals [] us->us=[]
 | _, .nil=>rfl
theorem Vals.dropLast {xs:List V} {us:List Value} (h:Vals xs us):Vals xs.dropLast us.dropLast:=by
 induction h with
 | nil=>exact .nil
 | cons r t ih=>
  cases t with
  | nil=>exact .nil
  | cons q t'=>exact .cons r ih
theorem Vals.eraseIdx: ∀{xs:List V} {us:List Value} (i:Nat),Vals xs us->Vals (xs.eraseIdx i) (us.eraseIdx i)
 | _,_,_, .nil=> .nil
 | _,_,0, .cons _ t=>t
 | _,_,i+1, .cons r t=> .cons r (Vals.eraseIdx i t)
theorem Vals.reverse {xs:List V} {us:List Value} (h:Vals xs us):Vals xs.reverse us.reverse:=by
 induction h with
 | nil=>exact .nil
 | cons r t ih=>rw[List.reverse_cons,List.reverse_cons];exact Vals.append ih (.cons r .nil)
theorem xK {α:Type} (l:List α):l.eraseIdx (l.length - 1)=l.dropLast:=by
 induction l with
 | nil=>rfl
 | cons a r ih=>
  cases r with
  | nil=>rfl
  | cons b r=>
   have e:(a::b::r).length - 1=((b::r).length - 1)+1:=by
    have h1:(a::b::r).length=r.length+2:=rfl
    have h2:(b::r).length=r.length+1:=rfl
    omega
   rw[e,Qb1,ih]
   all_goals rfl
theorem qU {α:Type}: ∀(l:List α) (i:Nat),(l.eraseIdx i).length<=l.length
 | [],_=>Ur _
 | _::_,0=>Qa0 _
 | _::r,i+1=>Qap (qU r i)
section
variable {X:Cx} {pins:List (Addr×Obj)} {σ:St} {H:Hp} {s:Shared} {l b:Addr} {xs ys zs:List V}
theorem Inv.A5 {aO its':List Value} {n:Nat} {f:Array Value->Array Value} {t':Nat} (I:Inv X pins σ H s) (hH:H l=some (.lst xs))
  (e:s.heap.get? l=some { cls:= .type "list",data:= .seq aO.toArray n }) (hf:f aO.toArray=its'.toArray) (hv:Vals ys its') (hz:ys.length<=sizeLine):
  Inv X pins σ (upd H l (.lst ys)) { s with heap:=s.heap.update l (Obj.mapSeq f),toks:=t' }:=by
 have q:=PySem.IsL.update e f
 rw[hf]at q
 refine I.write (x:=l) (e:=l) (by rw[hH];exact trivial) (.inl rfl) (fun b' u hb hu=>(ZP s.heap (Obj.mapSeq f) (Ne.symm hb)).trans hu) ⟨_,q⟩ ?_
 exact ⟨hz,its',_,hv,q⟩
theorem Inv.Sl {aO:List Value} {t':Nat} (I:Inv X pins σ H s) (hv:Vals ys aO) (hz:ys.length<=sizeLine):
  Inv X pins σ (upd H s.heap.objs.size (.lst ys)) { s with heap:=s.heap.push { cls:= .type "list",data:= .seq aO.toArray },toks:=t' }:=
 I.laid (fun _ _ q=>QC _ q) (Ur _) ⟨hz,aO,0,hv,Zq _ rfl⟩
theorem Inv.fresh (I:Inv X pins σ H s):H s.heap.objs.size=none:=I.b6.fresh (Ur _)
theorem Inv.qr (I:Inv X pins σ H s) (hH:H l=some (.lst xs)):xs.length<=sizeLine/\ ∃(aO:List Value) (n:Nat),Vals xs aO/\xs.length=aO.length/\s.heap.get? l=some { cls:= .type "list",data:= .seq aO.toArray n }:=by
 obtain ⟨z,aO,n,r,e⟩:=I.b6 l _ hH
 exact ⟨z,aO,n,r,r.length,e⟩
theorem CH {n:Nat} (h:n<=sizeLine):Builtin.List.listTooLong n=false:=by
 unfold Builtin.List.listTooLong
 exact decide_eq_false (by omega)
end
section
variable {X:Cx}
def Gk:V->List V->Hp->VK->Prop:=fun x vs H Q=> ∃l xs y,x= .ref l/\vs=[y]/\H l=some (.lst xs)/\xs.length<sizeLine/\Q .fH (upd H l (.lst (xs++[y])))
theorem dv:L4 X "list.append" Gk:=by
 intro pins s σ H x vs v us Q I rx rv h
 obtain ⟨l,xs,y,rfl,rfl,hH,hz,q⟩:=h
 cases rx
 obtain ⟨u,rfl,ru⟩:=rv.one
 obtain ⟨z,aO,n,r,hl,e⟩:=I.qr hH
 refine call_meets F.slot_list_append ⟨_,e,rfl⟩ F.entry_list_append (F.args_list_append_2 _ _) (PySem.list_append l aO.toArray n u (by rw[Wl];omega)) ⟨e,?_⟩
 refine ⟨.fH,_,I.A5 (its':=aO++[u]) hH e (by simp) (r.append (.cons ru .nil)) ?_,rfl,q⟩
 rw[L5,List.length_singleton]
 omega
def Gm:V->List V->Hp->VK->Prop:=fun x vs H Q=> ∃l b xs zs,x= .ref l/\vs=[.ref b]/\H l=some (.lst xs)/\H b=some (.lst zs)/\xs.length+zs.length<=sizeLine/\Q .fH (upd H l (.lst (xs++zs)))
theorem A6:L4 X "list.extend" Gm:=by
 intro pins s σ H x vs v us Q I rx rv h
 obtain ⟨l,b,xs,zs,rfl,rfl,hH,hB,hz,q⟩:=h
 cases rx
 obtain ⟨u,rfl,ru⟩:=rv.one
 cases ru
 obtain ⟨z,aO,n,r,hl,e⟩:=I.qr hH
 obtain ⟨z2,xM,n2,r2,xN,e2⟩:=I.qr hB
 have hsz:aO.toArray.size+xM.toArray.size<=sizeLine:=by rw[Wl,Wl];omega
 have Ox: ¬(!aO.toArray.isEmpty&&Builtin.List.listTooLong (aO.toArray.size+xM.toArray.size))=true:=by
  rw[CH hsz,Bool.and_false]
  exact Zw
 refine call_meets F.slot_list_extend ⟨_,e,rfl⟩ F.entry_list_extend (F.args_list_extend_2 _ _)
  (AutoSeq1.list_extend_list_list_0 l aO.toArray n b xM.toArray n2 Ox (by rw[Wl];omega) (by omega)) ⟨e,e2,?_⟩
 refine ⟨.fH,_,I.A5 (its':=aO++xM) hH e (by simp) (r.append r2) ?_,rfl,q⟩
 rw[L5]
 omega
def Sm:V->List V->Hp->VK->Prop:=fun x vs H Q=> ∃l xs y,x= .ref l/\vs=[]/\H l=some (.lst xs)/\xs[xs.length - 1]? =some y/\Q y (upd H l (.lst xs.dropLast))
theorem JV:L4 X "list.pop" Sm:=by
 intro pins s σ H x vs v us Q I rx rv h
 obtain ⟨l,xs,y,rfl,rfl,hH,hy,q⟩:=h
 cases rx
 have Ci:=rv.zero
 subst Ci
 obtain ⟨z,aO,n,r,hl,e⟩:=I.qr hH
 obtain ⟨u,hu,ru⟩:=r.get hy
 have Wa:aO.toArray[aO.toArray.size - 1]? =some u:=by
  show aO.toArray[aO.length - 1]? =some u
  rw[<-Qc7, <-hl]
  exact hu
 refine call_meets F.slot_list_pop ⟨_,e,rfl⟩ F.entry_list_pop (F.args_list_pop_1 _) (MeetsSeq.list_pop_last l aO.toArray n u Wa (by rw[Wl];omega)) ⟨e,?_⟩
 refine ⟨y,_,I.A5 (its':=aO.dropLast) hH e ?_ r.dropLast ?_,ru,q⟩
 ·show aO.toArray.eraseIdxIfInBounds (aO.toArray.size - 1)=aO.dropLast.toArray
  rw[Wl,List.eraseIdxIfInBounds_toArray,xK]
 ·rw[List.length_dropLast]
  omega
def JW:V->List V->Hp->VK->Prop:=fun x vs H Q=> ∃l xs i k y,x= .ref l/\vs=[.int i]/\H l=some (.lst xs)/\ -(2 ^ 63)<=i/\i<2 ^ 63/\seqIndex? i xs.length=some k/\xs[k]? =some y/\Q y (upd H l (.lst (xs.eraseIdx k)))
theorem kF:L4 X "list.pop" JW:=by
 intro pins s σ H x vs v us Q I rx rv h
 obtain ⟨l,xs,i,k,y,rfl,rfl,hH,h1,h2,hk,hy,q⟩:=h
 cases rx
 obtain ⟨u,rfl,ru⟩:=rv.one
 obtain ⟨t,rfl⟩:=ru
 obtain ⟨z,aO,n,r,hl,e⟩:=I.qr hH
 obtain ⟨w,hw,qm⟩:=r.get hy
 refine call_meets F.slot_list_pop ⟨_,e,rfl⟩ F.entry_list_pop (F.args_list_pop_2 _ _)
  (MeetsSeq.list_pop_at l aO.toArray n i t k w (fitsIndex_both h1 h2) (by rw[Wl, <-hl];exact hk) (by rw[<-Qc7];exact hw) (by rw[Wl];omega)) ⟨e,?_⟩
 refine ⟨y,_,I.A5 (its':=aO.eraseIdx k) hH e ?_ (r.eraseIdx k) ?_,qm,q⟩
 ·show aO.toArray.eraseIdxIfInBounds k=(aO.eraseIdx k).toArray
  rw[List.eraseIdxIfInBounds_toArray]
 ·have:=qU xs k
  omega
def CI:V->List V->Hp->VK->Prop:=fun x vs H Q=> ∃l xs,x= .ref l/\vs=[]/\H l=some (.lst xs)/\Q .fH (upd H l (.lst xs.reverse))
theorem xO:L4 X "list.reverse" CI:=by
 intro pins s σ H x vs v us Q I rx rv h
 obtain ⟨l,xs,rfl,rfl,hH,q⟩:=h
 cases rx
 have Ci:=rv.zero
 subst Ci
 obtain ⟨z,aO,n,r,hl,e⟩:=I.qr hH
 refine call_meets F.slot_list_reverse ⟨_,e,rfl⟩ F.entry_list_reverse (F.args_list_reverse_1 _) (AutoSeq1.list_reverse_list_0 l aO.toArray n (by rw[Wl];omega)) ⟨e,?_⟩
 refine ⟨.fH,_,I.A5 (its':=aO.reverse) hH e (by simp) r.reverse ?_,rfl,q⟩
 rw[ZF]
 omega
def So:R2:=fun x y H Q=> ∃l b xs zs,x= .ref l/\y= .ref b/\H l=some (.lst xs)/\H b=some (.lst zs)/\xs.length+zs.length<=sizeLine/\ ∀p,H p=none->Q (.ref p) (upd H p (.lst (xs++zs)))
theorem CJ:iL X (binaryOp .Add) So:=by
 intro pins s σ H x y v u Q I rx ry h
 obtain ⟨l,b,xs,zs,rfl,rfl,hH,hB,hz,q⟩:=h
 cases rx
 cases ry
 obtain ⟨z,aO,n,r,hl,e⟩:=I.qr hH
 obtain ⟨z2,xM,n2,r2,xN,e2⟩:=I.qr hB
 refine PySem.P.add_list e e2 ?_ (by rw[Wl,Wl];omega)
 have ea:aO.toArray++xM.toArray=(aO++xM).toArray:=by simp
 rw[ea]
 exact ⟨.ref _,_,I.Sl (t':=s.toks) (r.append r2) (by rw[L5];omega),rfl,q _ I.fresh⟩
end
section
variable {prog:Program} {w:World} {A:Around} {E:Value->Shared->Prop} {s:Shared}
end
section
variable {X:Cx}
end
end L2
namespace Um
open PySem PySem.W PySem.Calls PyProof.Rows
theorem nc {P:Params} {h:Heap}: ∀(ns:List Int) (vs:List Value),WellAll P h vs (ns.map WData.int)->IntsAre vs ns:=by
 intro ns
 induction ns with
 | nil=>
  intro vs w
  rw[List.map_nil]at w
  cases w
  exact .nil
 | cons n ns ih=>
  intro vs w
  rw[ZC]at w
  cases w with
  | cons a b=>
   cases a
   exact .cons _ _ (ih _ b)
theorem A7 {l:OpenLaw} {n:Nat} (hn:l.most=some n) {P:Params} {h:Heap} {args:List WData} {vals:List Value}
  (Gn:l.row.toRowW.claim.pre args=true) (xP:WellAll P h vals args):
  ∃a vs ns,vals=[Value.ref a]/\args=[WData.list (ns.map WData.int)]/\h.get? a=some { cls:= .type "list",data:= .seq vs.toArray }/\IntsAre vs ns/\ns.length<=n:=by
 have Wc:WShape.hasAll [] args [.list .int]=true:=(pre_splitW Gn).1
 have hc:l.pre.holds [] { args:=args }=true:=(pre_splitW Gn).2
 obtain ⟨d,r,rfl,h1,h2⟩:=hasAllW_cons Wc
 obtain rfl:=hasAllW_nil h2
 obtain ⟨xs,rfl,h3⟩:=hasW_list h1
 obtain ⟨ns,rfl⟩:=items_int h3
 have hlen:ns.length<=n:=by
  unfold OpenLaw.pre at hc
  have h4:(WTm.not (.lt (.lit (.int (n:Int))) (.len (.arg 0)))).holds [] { args:=[.list (ns.map .int)] }=true:=by
   have h4:=(holds_andW hc).1
   rw[hn]at h4
   exact h4
  have h5:=condW_of h4 (w_not (w_lt w_lit (w_len_list (w_arg rfl))))
  rw[Us]at h5
  refine Qdu fun q=>?_
  have q':(n:Int)<((ns.length:Nat):Int):=by omega
  first
   |(rw[decide_eq_true q']at h5;exact absurd h5 (by decide))
   |(simp at h5;omega)
 cases xP with
 | cons w1 w2=>
  cases w2
  cases w1 with
  | list ho JX=>exact ⟨_,_,ns,rfl,rfl,ho,nc ns _ JX,hlen⟩
theorem A8 (l:OpenLaw) (args:List WData):l.row.toRowW.claim.post args (.bool true) args=true:=
 postW_of (r:=l.row.toRowW) (X:=(true==true))
  (show WShape.has [] (.bool true) .bool=true by first | rfl | decide | simp[WShape.has,WShape.arms,WShape.armsAll])
  (show (WTm.eq .res (.lit (.bool true))).value [] { args:=args,res:=some (.bool true),after:=args }=some (.bool (true==true)) from w_eq_bool (w_res rfl) w_lit) rfl
theorem vb {l:OpenLaw} {n:Nat} {q:Program} {loose:List Str} {XP:(Str->Option Value)->Heap->Prop} {YP:World->Heap->Prop} {d:DefRec}
  (hn:l.most=some n) (Oy:d.params.defaults=[])
  (call: ∀(w:World) (s₀ s₁:Shared) (mg mb:Str->Option Value) (fa:Addr) (o:Obj) (pm cd doc:Value) (a:Addr) (vs:List Value) (ns:List Int),
   Ground q loose [] XP w s₀ mg mb s₁.heap->YP w s₁.heap->
   s₁.heap.get? fa=some o->o.data= .func (docDef d.name d.params d.body d.scope pm cd doc)->s₁.heap.CodeRec cd d.name->mg d.name=some (.ref fa)->
   s₁.heap.get? a=some { cls:= .type "list",data:= .seq vs.toArray }->IntsAre vs ns->ns.length<=n->s₁.gens= #[]->
   codeAny (model l.prog w) callerA (.call (.ref fa) ⟨[.ref a],[]⟩) (fun r s'=>r= .ok (.ret (.bool true))/\OldK s₁.heap s'.heap/\s'.os=s₁.os/\AllBare s'.gens) s₁):
  WalkO q loose XP YP l.row.toRowW d [] (fun f vs=>PySem.call f vs):=by
 intro w s₀ s₁ mg mb G Y fa o pm cd doc dV kV ho hd m8 hD hmg hg args vals as Gn We YQ xP YR
 obtain rfl:dV= .none:=Dflts.none hD Oy
 obtain rfl:kV= .none:=Dflts.noKw hD
 obtain ⟨a,vs,ns,rfl,rfl,JY,hints,hlen⟩:=A7 hn Gn xP
 refine enter_call (codeAny_mono (call w s₀ s₁ mg mb fa o pm cd doc a vs ns G Y ho (fd_plain hd) m8 hmg JY hints hlen hg) fun r s' hq=>?_)
 obtain ⟨rfl,h2,h3,h4⟩:=hq
 exact ⟨.inl ⟨.bool true, .bool true,[],rfl,fun _=>rfl, .bool true,A8 l _,fun _=>⟨List.Pairwise.nil,fun _ hm=>(nomatch hm)⟩⟩,h2,h3,h4⟩
section
variable {prog:Program} {w:World} {A:Around} {E:Value->Shared->Prop} {s:Shared} {K:Frag}
end
end Um
namespace L2
open PySem PySem.Spec PyProof.Rows
theorem qV: ∀{vs:List Value} {ns:List Int},IntsAre vs ns->Vals (ns.map V.int) vs
 | _,_, .nil=> .nil
 | _,_, .cons n t h=> .cons ⟨t,rfl⟩ (qV h)
def JZ (H:Hp):Prop:= ∀b,H b=none\/ ∃o xs,H b=some (.zm o (.lst xs))
theorem CK {P:Program} {w:World} {K:PySem.W.Frag} {mg mb:Str->Option Value} {CX:AZ} {k:Nat} {fa a:Addr} {fd:FuncData} {x:Str} {sp:Sp} {s₁:Shared} {vs:List Value} {ns:List Int}
  (KX:K.In s₁.heap) (QA:s₁.heap.Ns mainGlobals mg) (hb:s₁.heap.Ns builtinsNs mb) (Wf: ∀x:Str,x≠"__name__"->mb x=bootBuiltins x) (Sq:s₁.heap.NoLimit) (hg:s₁.gens= #[])
  (ha:s₁.heap.get? a=some { cls:= .type "list",data:= .seq vs.toArray }) (hi:IntsAre vs ns) (hl:ns.length<=sizeLine) (hr:fu k callerA)
  (F: ∀base:Heap,K.In base->base.Ns mainGlobals mg->bB P w K mg base CX k fa fd [x] sp) (Oz: ∀(s:Shared) (u:Value),BindsTo s fd ⟨[u],[]⟩ [(x,u)])
  (Iv: ∀H:Hp,JZ H->bD K H a (ns.map V.int)->sp [.ref a] H (fun v _=>v= .bl true) fun _ _ _=>False)
  (Sr: ∀H e s',CX [] H s₁ (fun _ _ _=>False) e s'->False):
  codeAny (model P w) callerA (.call (.ref fa) ⟨[.ref a],[]⟩) (fun r s'=>r= .ok (.ret (.bool true))/\OldK s₁.heap s'.heap/\s'.os=s₁.os/\AllBare s'.gens) s₁:=by
 have rv:=qV hi
 have Ss:=hi.length
 -- from an abstract heap in Uo nothing but Fu script may be tracked
 have core: ∀H:Hp,JZ H->bD K H a (ns.map V.int)->j4 P w H s₁.heap->(∀b,H b≠none->b=a)->(H a≠none->K.lookup a=none)->
   codeAny (model P w) callerA (.call (.ref fa) ⟨[.ref a],[]⟩) (fun r s'=>r= .ok (.ret (.bool true))/\OldK s₁.heap s'.heap/\s'.os=s₁.os/\AllBare s'.gens) s₁:=by
  intro H hO hS b6 hA hK
  have zC: ∀{b:Addr} {o:Obj},s₁.heap.get? b=some o->H b=none->(sx s₁.heap H).get? b=some o:=fun e n=>Cs e n
  have Oj: ∀{b:Addr} {o:Obj} {es:Array DictEntry} {ep:Nat},s₁.heap.get? b=some o->o.data= .dict es ep->H b=none:=fun {b o es ep} e d=>by
   cases q:H b with
   | none=>rfl
   | some u=>
    have e':b=a:=hA b (by rw[q];simp)
    subst e'
    rw[ha]at e;cases e
    have d':Data.seq vs.toArray _=Data.dict es ep:=d
    cases d'
  have QB: ∀{b:Addr} {m:Str->Option Value},s₁.heap.Ns b m->(sx s₁.heap H).Ns b m:=fun {b m} ⟨o,es,ep,e,d,r⟩=>⟨o,es,ep,zC e (Oj e d),d,r⟩
  have Up:K.In (sx s₁.heap H):=fun b o e=>zC (KX b o e) (by
   cases q:H b with
   | none=>rfl
   | some u=>
    have e':b=a:=hA b (by rw[q];simp)
    subst e'
    rw[hK (by rw[q];simp)]at e;cases e)
  have hM:Mod K mg (sx s₁.heap H):=⟨Up,QB QA,⟨mb,QB hb,Wf⟩,let ⟨mc,h1,h2⟩:=Sq;⟨mc,QB h1,h2⟩⟩
  have e0:xE P w K mg (sx s₁.heap H) callerA [] s₁ H:=⟨rfl,hM,fun b o e=>FR e,Nat.le_of_eq (AM _ _),trivial,fun b hb=>absurd (show b∈([]:List Addr) from hb) (by simp),b6, .of_eq hg⟩
  refine codeAny_mono ((F _ Up (QB QA)).run callerA [] s₁ H ⟨[.ref a],[]⟩ [.ref a] [.ref a] _ _ hr e0 (Oz s₁ (.ref a)) (.cons rfl .nil) (Iv H hO hS)) fun r s' h=>?_
  cases r with
  | error e=>exact (Sr H e s' h).elim
  | ok fl=>
   cases fl with
   | next=>exact False.elim h
   | brk=>exact False.elim h
   | cont=>exact False.elim h
   | ret u=>
    obtain ⟨v,H',os,bare,un,Su,r',q⟩:=h
    have q':v= .bl true:=q
    subst q'
    obtain rfl:u=Value.bool true:=r'
    refine ⟨rfl,OldK.of_keep fun b o e=>?_,os,bare⟩
    cases q:H b with
    | none=>exact un.keep b o e q (by intro z;exact absurd (show b∈([]:List Addr) from z) (by simp)) (by simp)
    | some u=>
     rcases hO b with z | ⟨ob,xs,z⟩
     ·rw[q]at z;cases z
     ·have z2:=un.oj b ob _ z
      obtain ⟨e1,_⟩:=b6 b _ z
      obtain ⟨e2,_⟩:=Su b _ z2
      rw[e]at e1;cases e1
      exact e2
 cases hk:K.lookup a with
 | some o=>
  -- Fu script is one of Fu CG own objects
  have e:=KX a o hk
  rw[ha]at e
  cases e
  refine core (fun _=>none) (fun _=> .inl rfl) (.inr ⟨_,vs.toArray,_,hk,rfl,rfl,rfl,by rw[Wl,Ss];exact hl,by simpa using rv⟩) (fun b u z=>by have z':(none:Option HO)=some u:=z;cases z') (fun b z=>absurd rfl z) fun z=>absurd rfl z
 | none=>
  refine core (fun b=>if b=a then some (.zm { cls:= .type "list",data:= .seq vs.toArray } (.lst (ns.map V.int))) else none) (fun b=>?_) (.inl (.inr ⟨{ cls:= .type "list",data:= .seq vs.toArray },if_pos rfl⟩)) (fun b u z=>?_) (fun b z=>?_) fun _=>hk
  ·by_cases hb:b=a
   ·exact .inr ⟨_,_,if_pos hb⟩
   ·exact .inl (if_neg hb)
  ·by_cases hb:b=a
   ·have z':=(if_pos hb).symm.trans z
    cases z'
    subst hb
    exact ⟨ha,by rw[Us];exact hl,vs,_,rv,ha⟩
   ·have z':=(if_neg hb).symm.trans z
    cases z'
  ·by_cases hb:b=a
   ·exact hb
   ·exact absurd (if_neg hb) z
theorem zD {l:PySem.W.OpenLaw} {n k:Nat} {q:Program} {loose:List Str} {XP:(Str->Option Value)->Heap->Prop} {YP:World->Heap->Prop} {d:DefRec} {K:Params->PySem.W.Frag} {CX:World->AZ} {sp:World->Sp} {x:Str}
  (hn:l.most=some n) (xx:n<=sizeLine) (Oy:d.params.defaults=[]) (hr:fu k callerA)
  (hY: ∀(w:World) (h:Heap),YP w h->(K w.params).In h)
  (F: ∀(w:World) (mg:Str->Option Value) (fa:Addr) (h:Heap),(K w.params).In h->h.Ns mainGlobals mg->mg d.name=some (.ref fa)->
   ∃fd:FuncData,(∀(s:Shared) (u:Value),BindsTo s fd ⟨[u],[]⟩ [(x,u)])/\
    ∀base:Heap,(K w.params).In base->base.Ns mainGlobals mg->bB l.prog w (K w.params) mg base (CX w) k fa fd [x] (sp w))
  (Iv: ∀(w:World) (H:Hp) (a:Addr) (ns:List Int),ns.length<=n->JZ H->bD (K w.params) H a (ns.map V.int)->sp w [.ref a] H (fun v _=>v= .bl true) fun _ _ _=>False)
  (Sr: ∀(w:World) (H:Hp) (s:Shared) (e:Value) (s':Shared),CX w [] H s (fun _ _ _=>False) e s'->False):
  PySem.W.WalkO q loose XP YP l.row.toRowW d [] (fun f vs=>PySem.call f vs):=by
 refine Um.vb hn Oy fun w s₀ s₁ mg mb fa o pm cd doc a vs ns G Y ho hd m8 hmg JY hints hlen hg=>?_
 have KX:=hY w _ Y
 obtain ⟨fd,hb,hF⟩:=F w mg fa _ KX G.T.g hmg
 exact CK KX G.T.g G.T.b G.T.builtins G.T.nolimit hg JY hints (ZI hlen xx) hr hF hb (fun H hO hS=>Iv w H a ns hlen hO hS) fun H e s'=>Sr w H s₁ e s'
noncomputable def fQ (s:Stmt):Arguments:=match s with
 | .FunctionDef _ a _ _ _ _ _ _ _ _=>a
 | _=>{ posonlyargs:=[],args:=[],vararg:=none,kwonlyargs:=[],kw_defaults:=[],kwarg:=none,defaults:=[] }
noncomputable def fg (s:Stmt):List Stmt:=match s with
 | .FunctionDef _ _ b _ _ _ _ _ _ _=>b
 | _=>[]
noncomputable def au (s:Stmt):Scope:=match s with
 | .FunctionDef _ _ _ _ _ _ sc _ _ _=>sc
 | _=>{ kind:= .function,names:=[],isGenerator:=false,isCoroutine:=false }
abbrev d_:AZ:=fun _ _ _ _ _ _=>False
abbrev E0:XK:=fun _ _ _=>False
theorem aA {X:Cx}:Passes d_ X E0:=fun _ _ _ _ _ _ _ h=>h.elim
structure Gp (K:PySem.W.Frag) (x qual:Str) (st:Stmt) (f:Addr) (fd:FuncData):Prop where
 ex: ∃(oc:Value) (od:Option Addr) (kV doc pm:Value) (an:Option Addr) (cA ct:Value) (Fv:Array (Option Value)),
  fd=PySem.W.fnOf x qual (fQ st) (fg st) (au st) .none kV doc pm an cA ct/\K.lookup f=some ⟨oc,od, .func fd,Fv⟩/\PySem.W.codeIn K cA qual=true
 kp:PySem.W.keepIn K (.ref f)=true
section
variable {P:Program} {w:World} {K:PySem.W.Frag} {mg:Str->Option Value} {base:Heap}
theorem Gp.ok {x qual:Str} {st:Stmt} {f:Addr} {fd:FuncData} {N ps:List Str} {k:Nat} {sp:Sp} (F:Gp K x qual st f fd) (S:aH N ps (au st)) (len: ∀vs H Q E,sp vs H Q E->vs.length=ps.length)
  (CC: ∀(cA:Value) (A:Around) (outer:List Env) (s:Shared) (H:Hp) (vs:List V) (Q:VK) (E:XK),fu k (A.deeper (envOfC qual (au st) s.heap.objs.size f cA))->sp vs H Q E->
   ∃t,xn (A0 d_ P w K mg base N qual (au st) f cA A outer s H E).Qt (fg st) t/\t { nx:=fun _ H'=>Q .fH H',rt:=Q } (start N vs) H):bB P w K mg base d_ (k+1) f fd ps sp:=by
 obtain ⟨oc,od,kV,doc,pm,an,cA,ct,Fv,rfl,lk,m8⟩:=F.ex
 refine Ol lk m8 S len fun A outer s H vs Q E hr Iv=>?_
 obtain ⟨t,h,q⟩:=CC cA A outer s H vs Q E hr Iv
 exact ⟨t,h.Qt,q⟩
theorem Gp.binds {x qual:Str} {st:Stmt} {f:Addr} {fd:FuncData} {ps:List Str} (F:Gp K x qual st f fd)
  (h: ∀(kV doc pm:Value) (an:Option Addr) (cA ct:Value) (us:List Value),us.length=ps.length->bindArgs (PySem.W.fnOf x qual (fQ st) (fg st) (au st) .none kV doc pm an cA ct) ⟨us,[]⟩=pure (ps.zip us)):Binds K fd ps []:=by
 obtain ⟨oc,od,kV,doc,pm,an,cA,ct,Fv,rfl,lk,m8⟩:=F.ex
 exact .all (h kV doc pm an cA ct)
theorem xQ {x qual:Str} {st:Stmt} {f:Addr} {oc:Value} {od an:Option Addr} {Fv:Array (Option Value)} {kV doc pm cA ct:Value} (l:K.lookup f=some ⟨oc,od, .func (PySem.W.fnOf x qual (fQ st) (fg st) (au st) .none kV doc pm an cA ct),Fv⟩)
  (c:PySem.W.codeIn K cA qual=true) (k:PySem.W.keepIn K (.ref f)=true):Gp K x qual st f (PySem.W.fnOf x qual (fQ st) (fg st) (au st) .none kV doc pm an cA ct):=⟨⟨oc,od,kV,doc,pm,an,cA,ct,Fv,rfl,l,c⟩,k⟩
end
theorem oA {A:Around} {k:Nat} (hr:fu k A):A.units+1<cLine:=ZO (Nat.add_le_add_left (by decide:1<=64) _) hr.units
section
variable {X:Cx}
theorem pv (i:Nat) {x:Str} {pos:Pos} (hN:X.N[i]? =some x:=by rfl) (hv:NP X.env.scope x:=by first | exact Or.inl rfl | exact Or.inr (Or.inl rfl) | exact Or.inr (Or.inr rfl)) (hd:(x==("__debug__":Str))=false:=by decide)
  (m8:(x==("__classdict__":Str))=false:=by decide):PE X (.Name x pos) (Jt i):=Ju hN hv hd m8
end
theorem vc {A B:Prop} (h:B):if false=true then A else B:=by
 rw[if_neg Zw]
 exact h
theorem OA {A B:Prop} (h:A):if true=true then A else B:=by
 rw[if_pos rfl]
 exact h
theorem cq {c A B:Prop} [Decidable c] (h1:c->A) (h2: ¬c->B):if c then A else B:=by
 by_cases h:c
 ·rw[if_pos h]
  exact h1 h
 ·rw[if_neg h]
  exact h2 h
def ar (H H':Hp):Prop:= ∀b o,H b=some o->H' b=some o
theorem ar.refl (H:Hp):ar H H:=fun _ _ h=>h
theorem ar.trans {H H1 H2:Hp} (a:ar H H1) (b:ar H1 H2):ar H H2:=fun c o h=>b c o (a c o h)
theorem ar.free {H H':Hp} (e:ar H H') {l:Addr} (h:H' l=Option.none):H l=Option.none:=by
 cases q:H l with
 | none=>rfl
 | some o=>
  rw[e l o q]at h
  cases h
theorem ar.seq {K:PySem.W.Frag} {H H':Hp} {a:Addr} {xs:List V} (e:ar H H') (h:bD K H a xs):bD K H' a xs:=by
 rcases h with (h | ⟨o,h⟩) | h
 ·exact .inl (.inl (e _ _ h))
 ·exact .inl (.inr ⟨o,e _ _ h⟩)
 ·exact .inr h
noncomputable def iM (env:Env):List (Str×NameKind)->List (Str×Addr)->List (Str×Addr)
 | [],acc=>acc
 |(n,k)::r,acc=>iM env r (if k== .free then (match env.cells.lookup n with | some a=>(n,a)::acc | none=>acc) else acc)
theorem fJ {env:Env}: ∀(names:List (Str×NameKind)) (acc:List (Str×Addr)),(∀y∈names,y.2= .free-> ∃c,env.cells.lookup y.1=some c)->
  (forIn names acc fun (x:Str×NameKind) (cs:List (Str×Addr))=>(if (x.2==NameKind.free)=true then do let a <-cellOf env x.1;pure (ForInStep.yield ((x.1,a)::cs)) else pure (ForInStep.yield cs):Sem (ForInStep (List (Str×Addr)))))=pure (iM env names acc)
 | [],acc,_=>rfl
 |(n,k)::r,acc,h=>by
  rw[Qcb]
  have hr: ∀y∈r,y.2= .free-> ∃c,env.cells.lookup y.1=some c:=fun y hy=>h y (Uq _ hy)
  cases hk:(k==NameKind.free) with
  | false=>
   have e1:iM env ((n,k)::r) acc=iM env r acc:=by
    show iM env r (if (k==NameKind.free)=true then (match env.cells.lookup n with | some a=>(n,a)::acc | none=>acc) else acc)=_
    rw[hk,if_neg Zw]
   rw[e1, <-fJ r acc hr]
   simp only[hk,Qav,if_false,pure_bind]
  | true=>
   obtain ⟨c,hc⟩:=h (n,k) Wi (by simpa using hk)
   have e1:iM env ((n,k)::r) acc=iM env r ((n,c)::acc):=by
    have qk:env.cells.lookup n=some c:=hc
    show iM env r (if (k==NameKind.free)=true then (match env.cells.lookup n with | some a=>(n,a)::acc | none=>acc) else acc)=_
    rw[hk,qk,if_pos rfl]
   have e2:cellOf env n=pure c:=by
    have qk:env.cells.lookup n=some c:=hc
    unfold cellOf
    rw[qk]
   rw[e1, <-fJ r ((n,c)::acc) hr]
   simp only[hk,if_true,e2,pure_bind]
theorem jK {scope:Scope} {env:Env} (h: ∀y∈scope.names,y.2= .free-> ∃c,env.cells.lookup y.1=some c):closureFor scope env=pure (iM env scope.names []):=by
 have e:=fJ scope.names [] h
 simp only[closureFor]
 rw[e]
 rfl
theorem lV {env:Env} {x:Str} {c:Addr}: ∀(names:List (Str×NameKind)) (acc:List (Str×Addr)),(∀y d,acc.lookup y=some d->env.cells.lookup y=some d)->(iM env names acc).lookup x=some c->env.cells.lookup x=some c
 | [],acc,ha,h=>ha x c h
 |(n,k)::r,acc,ha,h=>by
  refine lV r _ (fun y d q=>?_) h
  by_cases hk:(k==NameKind.free)=true
  ·rw[if_pos hk]at q
   cases e:env.cells.lookup n with
   | none=>rw[e]at q;exact ha y d q
   | some a=>
    rw[e]at q
    have q':List.lookup y ((n,a)::acc)=some d:=q
    rw[ZY]at q'
    cases hy:(y==n) with
    | true=>
     rw[hy]at q'
     have:y=n:=by simpa using hy
     subst this
     rw[e];exact q'
    | false=>rw[hy]at q';exact ha y d q'
  ·rw[if_neg hk]at q;exact ha y d q
theorem vd {env:Env} {x:Str}: ∀(names:List (Str×NameKind)) (acc:List (Str×Addr)),(∃c,acc.lookup x=some c)-> ∃c,(iM env names acc).lookup x=some c
 | [],acc,h=>h
 |(n,k)::r,acc,⟨c,hc⟩=>by
  refine vd r _ ?_
  by_cases hk:(k==NameKind.free)=true
  ·rw[if_pos hk]
   cases e:env.cells.lookup n with
   | none=>exact ⟨c,hc⟩
   | some a=>
    show ∃c,List.lookup x ((n,a)::acc)=some c
    rw[ZY]
    cases hy:(x==n) with
    | true=>exact ⟨a,rfl⟩
    | false=>exact ⟨c,hc⟩
  ·rw[if_neg hk];exact ⟨c,hc⟩
theorem oB {env:Env} {x:Str}: ∀(names:List (Str×NameKind)) (acc:List (Str×Addr)),(∀y∈names,y.2= .free-> ∃c,env.cells.lookup y.1=some c)->names.lookup x=some .free-> ∃c,(iM env names acc).lookup x=some c
 | [],acc,_,h=>by simp at h
 |(n,k)::r,acc,hf,h=>by
  have hr: ∀y∈r,y.2= .free-> ∃c,env.cells.lookup y.1=some c:=fun y hy=>hf y (Uq _ hy)
  rw[ZY]at h
  cases hy:(x==n) with
  | true=>
   rw[hy]at h
   have hk:k= .free:=YS h
   subst hk
   have hx:x=n:=by simpa using hy
   subst hx
   obtain ⟨c,hc⟩:=hf (x, .free) Wi rfl
   have qk:env.cells.lookup x=some c:=hc
   refine vd r _ ⟨c,?_⟩
   rw[if_pos (show (NameKind.free==NameKind.free)=true by decide),qk]
   show List.lookup x ((x,c)::acc)=some c
   rw[ZY]
   simp
  | false=>
   rw[hy]at h
   exact oB r _ hr h
theorem kG {env:Env}: ∀{names:List (Str×NameKind)} {x:Str},names.lookup x=some .free->
  ((names.map fun (n,k)=>if (k==NameKind.free&&env.scope.kind== .function&&env.kindOf n==some .cell) then (n,NameKind.cell) else (n,k)).lookup x=some .cell\/
   (names.map fun (n,k)=>if (k==NameKind.free&&env.scope.kind== .function&&env.kindOf n==some .cell) then (n,NameKind.cell) else (n,k)).lookup x=some .free)
 | [],_,h=>by simp at h
 |(n,k)::r,x,h=>by
  have ih:= @kG env r x
  show (List.lookup x ((if (k==NameKind.free&&env.scope.kind== .function&&env.kindOf n==some .cell)=true then (n,NameKind.cell) else (n,k))::_)=_\/List.lookup x ((if (k==NameKind.free&&env.scope.kind== .function&&env.kindOf n==some .cell)=true then (n,NameKind.cell) else (n,k))::_)=_)
  cases hx:x==n with
  | true=>
   simp only[ZY,hx]at h
   cases h
   by_cases hc:((NameKind.free==NameKind.free)&&env.scope.kind== .function&&env.kindOf n==some .cell)=true
   ·rw[if_pos hc];simp[ZY,hx]
   ·rw[if_neg hc];simp[ZY,hx]
  | false=>
   simp only[ZY,hx]at h
   by_cases hc:(k==NameKind.free&&env.scope.kind== .function&&env.kindOf n==some .cell)=true
   ·rw[if_pos hc];simp only[ZY,hx];exact ih h
   ·rw[if_neg hc];simp only[ZY,hx];exact ih h
theorem kH {env:Env}: ∀{names:List (Str×NameKind)} {x:Str},(∀y∈names,y.2≠ .cell)->
  ((names.map fun (n,k)=>if (k==NameKind.free&&env.scope.kind== .function&&env.kindOf n==some .cell) then (n,NameKind.cell) else (n,k)).lookup x=some .cell\/
   (names.map fun (n,k)=>if (k==NameKind.free&&env.scope.kind== .function&&env.kindOf n==some .cell) then (n,NameKind.cell) else (n,k)).lookup x=some .free)->names.lookup x=some .free
 | [],_,_,h=>by simp at h
 |(n,k)::r,x,hn,h=>by
  have ih:= @kH env r x (fun y hy=>hn y (Uq _ hy))
  have hk:=hn (n,k) Wi
  have h':(List.lookup x ((if (k==NameKind.free&&env.scope.kind== .function&&env.kindOf n==some .cell)=true then (n,NameKind.cell) else (n,k))::(r.map fun (n,k)=>if (k==NameKind.free&&env.scope.kind== .function&&env.kindOf n==some .cell) then (n,NameKind.cell) else (n,k)))=some .cell\/List.lookup x ((if (k==NameKind.free&&env.scope.kind== .function&&env.kindOf n==some .cell)=true then (n,NameKind.cell) else (n,k))::(r.map fun (n,k)=>if (k==NameKind.free&&env.scope.kind== .function&&env.kindOf n==some .cell) then (n,NameKind.cell) else (n,k)))=some .free):=h
  cases hx:x==n with
  | true=>
   rw[ZY,hx]
   by_cases hc:(k==NameKind.free&&env.scope.kind== .function&&env.kindOf n==some .cell)=true
   ·have:(k==NameKind.free)=true:=by
     rw[Z8,Z8]at hc;exact hc.1.1
    have Cj:k= .free:=by simpa using this
    rw[Cj]
   ·rw[if_neg hc]at h'
    simp only[ZY,hx]at h'
    rcases h' with h' | h'
    ·exact absurd (YS h') hk
    ·exact h'
  | false=>
   rw[ZY,hx]
   by_cases hc:(k==NameKind.free&&env.scope.kind== .function&&env.kindOf n==some .cell)=true
   ·rw[if_pos hc]at h';simp only[ZY,hx]at h';exact ih h'
   ·rw[if_neg hc]at h';simp only[ZY,hx]at h';exact ih h'
abbrev Fy:Value->Shared->Prop:=fun _ _=>False
theorem sO {prog:Program} {w:World} {A:Around} {R:Result->Shared->Prop} {s:Shared} {elt target iter:Expr} {ifs:List Expr} {scope:Scope} {pos:Pos} {it acc:Value} {env:Env} (I:Nat->Shared->Prop)
  (turn: ∀n s,I n s->wpAny (model prog w) A (pyNext it) (fun r s₁=>match r with
   | none=>R (.ok .next) s₁
   | some v=>wpAny (model prog w) A (letOwnedTupleGo target it v) (fun _ Uu=>wpAny (model prog w) A (assign target env v) (fun _ s₂=>
     wpAny (model prog w) A (forIn ifs true fun c r=>if r=true then do let ok <-isTrue c env (eval c env);pure (ForInStep.yield ok) else pure (ForInStep.yield r)) (fun ok s₃=>
      if ok=true then wpAny (model prog w) A (eval elt env) (fun x s₄=>
       wpAny (model prog w) A (call (.builtin "list.append") [acc,x]) (fun _ s₅=> ∃m,m<n/\I m s₅) Fy s₄) Fy s₃
      else ∃m,m<n/\I m s₃) Fy s₂) Fy Uu) Fy s₁) Fy s)
  (n:Nat) (h:I n s):codeAny (model prog w) A (.compLoop (.ListComp elt [⟨target,iter,ifs,0⟩] scope pos) 0 it acc env) R s:=by
 refine codeAny_loop rfl I (fun n s hI=>?_) n h
 show wpAny _ A ((compTurn (.ListComp elt [⟨target,iter,ifs,0⟩] scope pos) 0 it acc env).onRaise (fun x=>do noteFrame x env;theTreesLotGoes x)) _ _ s
 refine wpAny_noted ?_
 rw[compTurn_list]
 have no: ∀{F:Value->Shared->Prop} (e:Value) (s':Shared),Fy e s'->F e s':=fun _ _ h=>h.elim
 refine wpAny_bind (wpAny_standAt (wpAny_bind (wpAny_mono (turn n s hI) (fun r s₁ h₁=>?_) no)))
 cases r with
 | none=>exact wpAny_pure h₁
 | some v=>
  refine wpAny_bind (wpAny_mono h₁ (fun _ Uu Wm=>?_) no)
  refine wpAny_bind (wpAny_mono Wm (fun _ s₂ h₂=>wpAny_bind (wpAny_mono h₂ (fun ok s₃ h₃=>?_) no)) no)
  cases ok with
  | false=>exact wpAny_pure ⟨rfl,h₃⟩
  | true=>
   exact wpAny_bind (wpAny_bind (wpAny_mono h₃ (fun x s₄ h₄=>wpAny_bind (wpAny_mono h₄ (fun _ s₅ h₅=>wpAny_pure (wpAny_pure ⟨rfl,h₅⟩)) no)) no))
noncomputable def bY (X:Cx) (scope:Scope) (C:Addr) (Nc:List Str) (s:Shared) (H:Hp) (fp:List Addr):Cx where
 prog:=X.prog
 w:=X.w
 K:=X.K
 mg:=X.mg
 base:=X.base
 A:=X.A
 N:=Nc
 s₀:=s
 H₀:=H
 env:=compEnvC scope (iM X.env scope.names []) C X.env
 outer:=X.stack
 stack:=X.stack
 ex:=fp
 fn:=fun _=>false
 calm:=X.calm
 pn:=[]
 xe:=Fy
def jF (X:Cx) (scope:Scope):List Str->List (Option Nat)->Prop
 | [],[]=>True
 | _::ys,none::os=>jF X scope ys os
 | y::ys,some j::os=>(X.N[j]? =some y/\scope.names.lookup y=some .free/\(X.env.kindOf y=some .cell\/X.env.kindOf y=some .free))/\jF X scope ys os
 | _,_=>False
noncomputable def kI (σ:St) (ix:List (Option Nat)):St:=ix.map fun o=>match o with | none=>none | some j=>(σ[j]?).getD none
def Wk:St->St->Prop
 | [],[]=>True
 | none::a,_::b=>Wk a b
 | some v::a,w::b=>w=some v/\Wk a b
 | _,_=>False
theorem Wk.len: ∀{a b:St},Wk a b->a.length=b.length
 | [],[],_=>rfl
 | none::a,_::b,h=>congrArg (· +1) (Wk.len (a:=a) (b:=b) h)
 | some _::a,_::b,h=>congrArg (· +1) (Wk.len (a:=a) (b:=b) h.2)
theorem Wk.get: ∀{a b:St} {i:Nat} {v:V},Wk a b->a[i]? =some (some v)->b[i]? =some (some v)
 | [],[],i,v,_,h=>by simp at h
 | none::a,x::b,0,v,_,h=>by simp at h
 | none::a,x::b,i+1,v,k,h=>by
  have:=Wk.get (a:=a) (b:=b) (i:=i) (v:=v) k (by simpa using h)
  simpa using this
 | some y::a,x::b,0,v,k,h=>by
  have e:y=v:=by simpa using h
  subst e
  simp[k.1]
 | some y::a,x::b,i+1,v,k,h=>by
  have:=Wk.get (a:=a) (b:=b) (i:=i) (v:=v) k.2 (by simpa using h)
  simpa using this
theorem jF.len {X:Cx} {scope:Scope}: ∀{N:List Str} {ix:List (Option Nat)},jF X scope N ix->ix.length=N.length
 | [],[],_=>rfl
 | _::ys,none::os,h=>congrArg (· +1) (jF.len (N:=ys) (ix:=os) h)
 | _::ys,some _::os,h=>congrArg (· +1) (jF.len (N:=ys) (ix:=os) h.2)
theorem jF.get {X:Cx} {scope:Scope}: ∀{N:List Str} {ix:List (Option Nat)} {i j:Nat},jF X scope N ix->ix[i]? =some (some j)-> ∃y,N[i]? =some y/\X.N[j]? =some y/\scope.names.lookup y=some .free/\(X.env.kindOf y=some .cell\/X.env.kindOf y=some .free)
 | [],[],i,j,_,h=>by simp at h
 | y::ys,none::os,0,j,_,h=>by simp at h
 | y::ys,none::os,i+1,j,k,h=>by
  obtain ⟨z,h1,h2⟩:=jF.get (N:=ys) (ix:=os) (i:=i) (j:=j) k (by simpa using h)
  exact ⟨z,by simpa using h1,h2⟩
 | y::ys,some j'::os,0,j,k,h=>by
  have e:j'=j:=by simpa using h
  subst e
  exact ⟨y,by simp,k.1⟩
 | y::ys,some j'::os,i+1,j,k,h=>by
  obtain ⟨z,h1,h2⟩:=jF.get (N:=ys) (ix:=os) (i:=i) (j:=j) k.2 (by simpa using h)
  exact ⟨z,by simpa using h1,h2⟩
theorem A9 {σ:St} {ix:List (Option Nat)} {i:Nat} {v:V} (h:(kI σ ix)[i]? =some (some v)): ∃j,ix[i]? =some (some j)/\σ[j]? =some (some v):=by
 unfold kI at h
 rw[Zv]at h
 cases e:ix[i]? with
 | none=>rw[e]at h;cases h
 | some o=>
  rw[e]at h
  cases o with
  | none=>cases h
  | some j=>
   refine ⟨j,rfl,?_⟩
   have h':some ((σ[j]?).getD none)=some (some v):=h
   cases q:σ[j]? with
   | none=>rw[q]at h';cases h'
   | some z=>rw[q]at h';cases h';rfl
theorem xR {X:Cx} {pins:List (Addr×Obj)} {σ:St} {H:Hp} {s:Shared} (I:Inv X pins σ H s) {scope:Scope} {Nc:List Str} {ix:List (Option Nat)} (xS:jF X scope Nc ix) (gS: ∀y∈scope.names,y.2≠ .cell)
  (iC:scope.kind= .function) (Gq: ∀y∈scope.names,y.2= .free->X.env.kindOf y.1=some .cell\/X.env.kindOf y.1=some .free) {fp:List Addr} (hf: ∀b∈fp,m9 X pins H b) (OB: ∀b∈fp, ∃o,s.heap.get? b=some o)
  {C:Addr} {h':Heap} {t':Nat} {m0:Str->Option Value} (hC:s.heap.objs.size<=C) (QA:h'.Ns C m0) (k: ∀b o,s.heap.get? b=some o->h'.get? b=some o):
  Inv (bY X scope C Nc s H fp) [] (kI σ ix) H { s with heap:=h',toks:=t' }:=by
 have L6: ∀y∈scope.names,y.2= .free-> ∃c,X.env.cells.lookup y.1=some c:=fun y hy e=>I.ok.has y.1 (Gq y hy e)
 have kJ: ∀{x:Str} {c:Addr},(iM X.env scope.names []).lookup x=some c->X.env.cells.lookup x=some c:=fun {x c} e=>lV scope.names [] (fun y d q=>by simp at q) e
 refine ⟨⟨I.ok.mod,iC,I.ok.glob,I.ok.blt,hC,fun x y c h1 h2=>I.ok.inj x y c (kJ h1) (kJ h2),fun x hx=>?_,fun x c h=>?_,I.ok.hd,I.ok.frames, .inl rfl,fun b hb=>?_,I.bs,ZI I.ok.FT I.sz,fun b o e hb=>?_,fun b hb hs=>?_,I.stack,I.zp⟩,
  rfl,I.bare,Un.kept k,⟨m0,QA,fun i x v h1 h2 h3=>?_⟩,fun x c e=>?_,I.b6.fresh hC,fun x c e=>I.iP x c (kJ e),fun p hp=>absurd (show p∈([]:List (Addr×Obj)) from hp) (by simp),I.b6.kept k,?_⟩
 ·have Ft:scope.names.lookup x=some .free:=kH gS hx
  exact oB scope.names [] L6 Ft
 ·exact absurd (show false=true from h) (by decide)
 ·refine ⟨?_,fun x c e=>(hf b hb).2.2.2.2.1 x c (kJ e)⟩
  obtain ⟨o,ho⟩:=OB b hb
  exact Zu (ZE (Zr ho) hC)
 ·rcases (hf b hb).2.2.2.1 with z | z
  ·exact I.ok.Ct b o e z
  ·exact absurd (ZE (Zr e) (ZI I.ok.FT z)) (ZS _)
 ·rcases Wj.mp (I.om b hs) with z | z
  ·exact (hf b hb).2.1 z
  ·exact (hf b hb).2.2.1 z
 ·obtain ⟨j,e1,e2⟩:=A9 h2
  obtain ⟨y,y1,y2,y3,y4⟩:=xS.get e1
  have Uv:Nc[i]? =some x:=h1
  rw[y1]at Uv
  cases Uv
  obtain ⟨m,hn,hl⟩:=I.loc
  have hv:NP X.env.scope x:=by
   rcases y4 with z | z
   ·exact .inr (.inl z)
   ·exact .inr (.inr z)
  obtain ⟨u,r,l⟩:=hl j x v y2 e2 hv
  refine ⟨u,r, .inr ⟨kG y3,?_⟩⟩
  rcases l with ⟨l,_⟩ | ⟨_,c,hc,q⟩
  ·rcases y4 with z | z
   ·rw[z]at l;cases l
   ·rw[z]at l;cases l
  ·obtain ⟨c',qk⟩:=oB scope.names [] L6 y3
   have e:=kJ qk
   rw[hc]at e
   cases e
   obtain ⟨o,ho,hd⟩:=q
   exact ⟨c,qk,o,k _ _ ho,hd⟩
 ·obtain ⟨v,o,ho,hd⟩:=I.cell x c (kJ e)
  exact ⟨v,o,k _ _ ho,hd⟩
 ·show (kI σ ix).length=Nc.length
  unfold kI
  rw[Us]
  exact xS.len
theorem A_ {X:Cx} {pins zr:List (Addr×Obj)} {σ σ':St} {H H':Hp} {s s':Shared} (I:Inv X pins σ H s) {scope:Scope} {Nc:List Str} {fp:List Addr} {C D:Addr} (J:Inv (bY X scope C Nc s H fp) zr σ' H' s')
  (hf: ∀b∈fp,m9 X pins H b) (hD:s.heap.objs.size<=D) (hC:s.heap.objs.size<=C) (J2:D≠C) {aO:List Value} {n:Nat} {acc:List V} (eD:s'.heap.get? D=some { cls:= .type "list",data:= .seq aO.toArray n }) (r:Vals acc aO)
  (hz:acc.length<=sizeLine) (nD:H' D=none) {oC:Obj} (eC:s'.heap.get? C=some oC) (dC: ∀v,oC.data≠ .cell v):Inv X (pins++[(C,oC)]) σ (upd H' D (.lst acc)) s':=by
 have lt: ∀b o,s.heap.get? b=some o->b≠D:=fun b o e=>Zu (ZE (Zr e) hD)
 have U:Un (zo X.stack) fp H H' s.heap s'.heap:=J.base
 have U':Un (zo X.stack) fp H (upd H' D (.lst acc)) s.heap s'.heap:=
  ⟨U.keep,U.slot,fun b o e n hx=>by rw[aD (lt b o e)];exact U.free b o e n hx,U.there,fun b xs e=>by rw[aD (aB (U.qj b xs e) nD)];exact U.qj b xs e,
   fun b o u e=>by rw[aD (aB (U.oj b o u e) nD)];exact U.oj b o u e,fun b ps e=>by
    obtain ⟨more,q⟩:=U.sr b ps e
    exact ⟨more,by rw[aD (aB q nD)];exact q⟩⟩
 have b6:j4 X.prog X.w (upd H' D (.lst acc)) s'.heap:=fun b u e=>by
  by_cases hb:b=D
  ·subst hb
   rw[ah]at e;cases e
   exact ⟨hz,aO,n,r,eD⟩
  ·rw[aD hb]at e
   exact (J.b6 b u e).uX (fun c v _ q=>q) (fun c q=>by rw[aD (aB q nD)];exact q) fun c xs q=>by rw[aD (aB q nD)];exact q
 have I':Inv X pins σ (upd H' D (.lst acc)) s':=I.NU (ch:=fp) J.os U' b6 J.bare fun b hb=>by
  obtain ⟨_,h1,_,h2,h3,h4⟩:=hf b hb
  exact ⟨h2,h1,h3,h4⟩
 refine I'.kz fun p hp=>?_
 rcases Zx.mp hp with z | z
 ·exact I'.pin p (ZD _ z)
 ·have e:p=(C,oC):=Wg.mp z
  subst e
  refine ⟨eC,?_,Qcx (ZE I.lt hC),I.Jq hC,dC⟩
  rw[aD (Ne.symm J2)]
  exact J.free
def PF (Y:Cx) (ifs:List Expr) (tc:TT):Prop:=
 ∀(pins:List (Addr×Obj)) (s:Shared) (σ:St) (H:Hp) (Q:Bool->Hp->Prop),Inv Y pins σ H s->tc σ H Q->
  wpAny (model Y.prog Y.w) Y.A (forIn ifs true fun c r=>if r=true then do let ok <-isTrue c Y.env (eval c Y.env);pure (ForInStep.yield ok) else pure (ForInStep.yield r)) (TP Y pins σ Q) Y.xe s
def OC:TT:=fun _ H Q=>Q true H
theorem dP {Y:Cx}:PF Y [] OC:=fun _ _ _ H _ I h=>wpAny_tests_nil ⟨H,I,h⟩
theorem J3 {Y:Cx} {c:Expr} {tc:TT} (h:PT Y c tc):PF Y [c] tc:=fun pins s σ H Q I hw=>wpAny_tests_one (h pins s σ H Q I hw)
def qW (J:It) (σc:St) (g:TG) (tc:TT) (te:TE) (Q:VK) (H1:Hp):Prop:=
 ∃W:Nat->Nat->List V->Hp->Prop,(∃m,W 0 m [] H1)/\ ∀i m acc H,W i m acc H->acc.length<sizeLine/\
 ((J.stop i H/\ ∀D,H D=none->Q (.ref D) (upd H D (.lst acc)))\/
  (J.go i H/\ ∀x H',J.Cg i H x H'->g x σc H' fun σ2 H2=>Wk σc σ2/\tc σ2 H2 fun b H3=>if b=true then te σ2 H3 fun v H4=> ∃m',m'<m/\W (i+1) m' (acc++[v]) H4 else ∃m',m'<m/\W (i+1) m' acc H3))
def ve (wi:TI) (ix:List (Option Nat)) (g:TG) (tc:TT) (te:TE):TE:=fun σ H Q=>wi σ H fun J H1=>qW J (kI σ ix) g tc te Q H1
theorem qX {X:Cx} {tg iter elt:Expr} {ifs:List Expr} {scope:Scope} {pos:Pos} {wi:TI} {g:TG} {tc:TT} {te:TE} {Nc:List Str} {ix:List (Option Nat)} (hi:PI X tg iter wi) (jL:X.calm=true) (xS:jF X scope Nc ix)
  (gS: ∀y∈scope.names,y.2≠ .cell) (iC:scope.kind= .function) (Gq: ∀y∈scope.names,y.2= .free->X.env.kindOf y.1=some .cell\/X.env.kindOf y.1=some .free)
  (hG: ∀C s H fp,PG (bY X scope C Nc s H fp) tg g) (hT: ∀C s H fp,PF (bY X scope C Nc s H fp) ifs tc) (hE: ∀C s H fp,PE (bY X scope C Nc s H fp) elt te)
  {pins:List (Addr×Obj)} {s:Shared} {σ:St} {H:Hp} {Q:VK} (I:Inv X pins σ H s) (h:ve wi ix g tc te σ H Q) {RR:Value->Addr->Result->Shared->Prop}
  (Wn: ∀(D C:Addr) (oC:Obj) (m:Str->Option Value) (H':Hp) (s':Shared),s'.heap.get? C=some oC->s'.heap.Ns C m->m9 X pins H' C->Inv X (pins++[(C,oC)]) σ H' s'->Q (.ref D) H'->RR (.ref D) C (.ok .next) s'):
  wpAny (model X.prog X.w) X.A (eval iter X.env) (fun v s1=>wpAny (model X.prog X.w) X.A (pyIter v) (fun it s2=>wpAny (model X.prog X.w) X.A (newList []) (fun acc s3=>
   wpAny (model X.prog X.w) X.A (newFunctionEnv scope X.env.globals (iM X.env scope.names []) [] X.env.qual none .none (some X.env)) (fun OD s4=>
    codeAny (model X.prog X.w) X.A (.compStart (.ListComp elt [⟨tg,iter,ifs,0⟩] scope pos) 0 it acc { OD with scope:=relabel scope X.env }) (RR acc OD.locals) s4) X.xe s3) X.xe s2) X.xe s1) X.xe s:=by
 refine cx (hi pins s σ H _ I h) fun v s1 h1=>cx h1 fun R5 s2 h2=>?_
 obtain ⟨it,fp,tn,J,H2,e,I2,T,w_,f2,W,⟨m0,w0⟩,turn⟩:=h2
 subst e
 refine wpAny_newObj_type (wpAny_newFunctionEnv gS (by intro y hy;simp at hy) (fun h₁ J4 Gr=>?_) iC)
 dsimp only at J4 Gr ⊢
 generalize Iw:s2.heap.push { cls:= .type "list",dict:=none,data:= .seq ([]:List Value).toArray }=P2 at J4 Gr ⊢
 have hC:P2.objs.size=s2.heap.objs.size+1:=by rw[<-Iw,Qbw]
 have J2:s2.heap.objs.size≠P2.objs.size:=by rw[hC];exact Zu (Qbb _)
 have J5:s2.heap.objs.size<=P2.objs.size:=by rw[hC];exact Qa0 _
 have Js: ∀b,b<s2.heap.objs.size->b≠P2.objs.size:=fun b hb=>by rw[hC];exact Zu (Qa7 hb)
 have old: ∀b o,s2.heap.get? b=some o->h₁.get? b=some o:=fun b o e=>Gr.extBut b o (Js b (Zr e)) (QC _ (Iw▸QC _ e))
 have iN:h₁.get? s2.heap.objs.size=some { cls:= .type "list",data:= .seq ([]:List Value).toArray }:=Gr.extBut _ _ J2 (QC _ (Iw▸Zq _ rfl))
 have Uw:tn 0 h₁:=T.keep 0 _ _ w_ fun b _ o e=>old b o e
 have OB: ∀b∈fp, ∃o,s2.heap.get? b=some o:=fun b hb=>let ⟨o,e,_⟩:=T.obj 0 _ w_ b hb;⟨o,e⟩
 have Ux: ∀b∈fp,s2.heap.objs.size≠b:=fun b hb=>let ⟨o,e⟩:=OB b hb;Qcx (Zr e)
 have IY:=xR I2 xS gS iC Gq f2 OB (t':=s2.toks+([]:List (Str×Value)).length) J5 J4 old
 have Sv: ∀b,s2.heap.objs.size<=b->b∉zo X.stack:=fun b hb hs=>by
  rcases Wj.mp (I2.om b hs) with z | z
  ·exact absurd (ZE I2.lt hb) (by rw[z];exact ZS _)
  ·exact I2.Jq hb z
 have kJ: ∀{x:Str} {c:Addr},(iM X.env scope.names []).lookup x=some c->X.env.cells.lookup x=some c:=fun {x c} e=>lV scope.names [] (fun y d q=>by simp at q) e
 have OE: ∀x c,(iM X.env scope.names []).lookup x=some c->c≠s2.heap.objs.size:=fun x c e z=>by
  obtain ⟨v,q⟩:=I2.cell x c (kJ e)
  exact absurd (q.lt) (by rw[z];exact ZS _)
 have fY: ∀{pl:List (Addr×Obj)} {H':Hp},(∀p∈pl,p.1=s2.heap.objs.size)->(∀b∈fp,H' b=none)-> ∀b∈fp,m9 (bY X scope P2.objs.size Nc s2 H2 fp) pl H' b:=fun {pl H'} jI hn b hb=>by
  refine ⟨hn b hb,?_,?_, .inl hb,fun x c e=>(f2 b hb).2.2.2.2.1 x c (kJ e),fun p hp=>?_⟩
  ·obtain ⟨o,e⟩:=OB b hb
   exact Js b (Zr e)
  ·intro hs
   rcases Wj.mp (I2.om b hs) with z | z
   ·exact (f2 b hb).2.1 z
   ·exact (f2 b hb).2.2.1 z
  ·rw[jI p hp]
   exact Ux b hb
 have loop: ∀s₃:Shared,s₃={ s2 with heap:=h₁,toks:=s2.toks+([]:List (Str×Value)).length }->
   codeAny (model X.prog X.w) X.A (.compLoop (.ListComp elt [⟨tg,iter,ifs,0⟩] scope pos) 0 (.ref it) (.ref s2.heap.objs.size) (compEnvC scope (iM X.env scope.names []) P2.objs.size X.env)) (RR (.ref s2.heap.objs.size) P2.objs.size) s₃:=by
  rintro s₃ rfl
  refine sO (fun n s'=> ∃i acc aO nn H',Inv (bY X scope P2.objs.size Nc s2 H2 fp) [] (kI σ ix) H' s'/\tn i s'.heap/\(∀b∈fp,H' b=none)/\
   s'.heap.get? s2.heap.objs.size=some { cls:= .type "list",data:= .seq (aO:List Value).toArray nn }/\Vals acc aO/\H' s2.heap.objs.size=none/\W i n acc H') ?_ m0
   ⟨0,[],[],0,H2,IY,Uw,fun b hb=>(f2 b hb).1,iN, .nil,I2.b6.fresh (Ur _),w0⟩
  rintro n s3 ⟨i,acc,aO,nn,H3,I3,N7,N8,eD,rv,nD,w3⟩
  obtain ⟨hz,alt⟩:=turn i n acc H3 w3
  have IP:Inv (bY X scope P2.objs.size Nc s2 H2 fp) [(s2.heap.objs.size,{ cls:= .type "list",data:= .seq aO.toArray nn })] (kI σ ix) H3 s3:=I3.kz fun p hp=>by
   have e:p=(s2.heap.objs.size,_):=Wg.mp hp
   subst e
   refine ⟨eD,nD,J2,Sv _ (Ur _),fun v z=>?_⟩
   have z':Data.seq aO.toArray nn=Data.cell v:=z
   cases z'
  have jI: ∀p∈[(s2.heap.objs.size,({ cls:= .type "list",data:= .seq aO.toArray nn }:Obj))],p.1=s2.heap.objs.size:=fun p hp=>by
   have e:p=(s2.heap.objs.size,_):=Wg.mp hp
   rw[e]
  rcases alt with ⟨stop,fin⟩ | ⟨go,step⟩
  ·refine cx (T.done (bY X scope P2.objs.size Nc s2 H2 fp) rfl rfl rfl jL i _ s3 _ H3 Fy IP (fY jI N8) N7 stop) fun r s4 zz=>?_
   obtain ⟨hr,I4⟩:=zz
   subst hr
   obtain ⟨m,hn,_⟩:=id I4.loc
   obtain ⟨oC,es,ep,eC,dC,_⟩:=id hn
   have Wo:=(I4.pin (s2.heap.objs.size,_) (ZD _ (Wg.mpr rfl))).1
   have Sw:=fin _ nD
   refine Wn _ _ oC m _ s4 eC hn ?_ (A_ I2 I4 f2 (Ur _) J5 J2 Wo rv (ZT hz) nD eC fun v z=>?_) Sw
   ·refine I2.oq J5 ?_
    rw[aD (Ne.symm J2)]
    exact I4.free
   ·rw[dC]at z;cases z
  ·refine cx (T.item (bY X scope P2.objs.size Nc s2 H2 fp) rfl rfl rfl jL i _ s3 _ H3 Fy IP (fY jI N8) N7 go) fun r s4 zz=>?_
   obtain ⟨u,hr,h4⟩:=zz
   subst hr
   refine cx h4 fun _ s5 zz=>?_
   obtain ⟨x,H5,I5,r5,y5,JG,R7⟩:=zz
   have R8:=I5.pinned (fY jI R7) (T.obj _ _ JG)
   refine cx (hG _ s2 H2 fp _ s5 _ H5 x u _ R8 r5 (step x H5 y5)) fun _ s6 zz=>?_
   obtain ⟨σ6,H6,I6,wk,q6⟩:=zz
   refine cx (hT _ s2 H2 fp _ s6 σ6 H6 _ I6 q6) fun b s7 zz=>?_
   obtain ⟨H7,I7,q7⟩:=zz
   have again: ∀{H9:Hp} {s9:Shared} {m':Nat},Inv (bY X scope P2.objs.size Nc s2 H2 fp) ([(s2.heap.objs.size,({ cls:= .type "list",data:= .seq aO.toArray nn }:Obj))]++ou fp s5.heap) σ6 H9 s9->
     (s9.heap.get? s2.heap.objs.size=some { cls:= .type "list",data:= .seq aO.toArray nn }/\H9 s2.heap.objs.size=none)/\tn (i+1) s9.heap/\(∀b∈fp,H9 b=none)/\Inv (bY X scope P2.objs.size Nc s2 H2 fp) [] (kI σ ix) H9 s9:=fun {H9 s9 m'} I9=>by
    have pD:=I9.pin (s2.heap.objs.size,_) (ZD _ (Qae _ (Wg.mpr rfl)))
    refine ⟨⟨pD.1,pD.2.1⟩,T.keep _ _ _ JG fun b hb o e=>(I9.pin (b,o) (ZD _ (ZD _ (hV hb e)))).1,fun b hb=>?_,?_⟩
    ·obtain ⟨o,e,d⟩:=T.obj _ _ JG b hb
     exact (I9.pin (b,o) (ZD _ (ZD _ (hV hb e)))).2.1
    ·exact (I9.weak wk.len fun i v e=>wk.get e).kz fun p hp=>absurd hp (by simp)
   cases b with
   | false=>
    rw[if_neg Zw]at q7 ⊢
    obtain ⟨m',hm,w7⟩:=q7
    obtain ⟨⟨e7,n7⟩,t7,f7,J7⟩:=again (m':=0) I7
    exact ⟨m',hm,i+1,acc,aO,nn,H7,J7,t7,f7,e7,rv,n7,w7⟩
   | true=>
    rw[if_pos rfl]at q7 ⊢
    refine cx (hE _ s2 H2 fp _ s7 σ6 H7 _ I7 q7) fun y s8 zz=>?_
    obtain ⟨v,H8,I8,r8,m',hm,w8⟩:=zz
    obtain ⟨⟨e8,n8⟩,t8,f8,J8⟩:=again (m':=0) I8
    refine wpAny_list_append_plain (items:=aO.toArray) ⟨nn,e8⟩ (fun h9 Wq Uy=>?_) (by rw[Wl, <-rv.length];exact ZT hz)
    obtain ⟨n9,e9⟩:=Wq
    refine ⟨m',hm,i+1,acc++[v],aO++[y],n9,H8,J8.turned (t':=s8.toks) (fun b o hb e=>(Uy.2 b hb).trans e) n8 J2 (.inr (Ur _)) OE (fun p hp=>absurd hp (by simp[bY])),?_,f8,?_,rv.append (.cons r8 .nil),n8,w8⟩
    ·exact T.keep _ _ _ t8 fun b hb o e=>(Uy.2 b (Ne.symm (Ux b hb))).trans e
    ·simpa using e9
 exact codeAny_compStart_list (loop _ rfl) (T.self _ 0 _ _ _ Uw (loop _ rfl))
theorem Gs {X:Cx} {tg iter elt:Expr} {ifs:List Expr} {scope:Scope} {pos:Pos} {wi:TI} {g:TG} {tc:TT} {te:TE} (Nc:List Str) (ix:List (Option Nat)) (hi:PI X tg iter wi) (jL:X.calm=true) (xS:jF X scope Nc ix)
  (gS: ∀y∈scope.names,y.2≠ .cell) (iC:scope.kind= .function) (Gq: ∀y∈scope.names,y.2= .free->X.env.kindOf y.1=some .cell\/X.env.kindOf y.1=some .free)
  (xT: ∀x∈scope.names,x.2= .local->scope.names.lookup x.1=some .local)
  (hG: ∀C s H fp,PG (bY X scope C Nc s H fp) tg g) (hT: ∀C s H fp,PF (bY X scope C Nc s H fp) ifs tc) (hE: ∀C s H fp,PE (bY X scope C Nc s H fp) elt te)
  (hs: ∀x,foldedSetIterable iter X.env x=pure x:=by intro _;rfl):PE X (.ListComp elt [⟨tg,iter,ifs,0⟩] scope pos) (ve wi ix g tc te):=by
 intro pins s σ H Q I h
 rw[eval_ListComp]
 have L6: ∀y∈scope.names,y.2= .free-> ∃c,X.env.cells.lookup y.1=some c:=fun y hy e=>I.ok.has y.1 (Gq y hy e)
 refine wpAny_comprehension_free (use:=none) rfl hs (jK L6) iC xT (qX hi jL xS gS iC Gq hG hT hE I h (RR:=fun acc C=>compPost (model X.prog X.w) X.A X.xe none (EP X pins σ Q) acc C) ?_)
 intro D C oC m H' s' eC hn fC I' q
 refine ⟨m,hn,fun h' J6=>⟨.ref D,H',?_,rfl,q⟩⟩
 exact I'.iS.turned (t':=s'.toks) (fun b o hb e=>(J6.2 b hb).trans e) fC.1 fC.2.1 fC.2.2.2.1 fC.2.2.2.2.1 fC.2.2.2.2.2
theorem Gu {X:Cx} {i:Nat} {x:Str} {tg iter elt:Expr} {ifs:List Expr} {scope:Scope} {pos CL pos':Pos} {wi:TI} {g:TG} {tc:TT} {te:TE} (Nc:List Str) (ix:List (Option Nat)) (hN:X.N.Nodup) (OF:X.N[i]? =some x) (hx:Loc X.env.scope x)
  (Ck:swapsWith (.ListComp elt [⟨tg,iter,ifs,0⟩] scope pos) (some (.Name x pos')) CL.line X.env=pure true) (hi:PI X tg iter wi) (jL:X.calm=true) (xS:jF X scope Nc ix)
  (gS: ∀y∈scope.names,y.2≠ .cell) (iC:scope.kind= .function) (Gq: ∀y∈scope.names,y.2= .free->X.env.kindOf y.1=some .cell\/X.env.kindOf y.1=some .free)
  (xT: ∀x∈scope.names,x.2= .local->scope.names.lookup x.1=some .local)
  (hG: ∀C s H fp,PG (bY X scope C Nc s H fp) tg g) (hT: ∀C s H fp,PF (bY X scope C Nc s H fp) ifs tc) (hE: ∀C s H fp,PE (bY X scope C Nc s H fp) elt te)
  (hs: ∀x,foldedSetIterable iter X.env x=pure x:=by intro _;rfl) (hf:X.fn x=true\/X.env.scope.names.lookup x=some .local:=by first | exact .inl rfl | exact .inr rfl | assumption):
  PS X (.Assign [.Name x pos'] (.ListComp elt [⟨tg,iter,ifs,0⟩] scope pos) CL) (FX (ve wi ix g tc te) (u5 i)):=by
 intro pins s σ H E I h
 have L6: ∀y∈scope.names,y.2= .free-> ∃c,X.env.cells.lookup y.1=some c:=fun y hy e=>I.ok.has y.1 (Gq y hy e)
 rw[exec_Assign_Name_used _ _ _ _ Ck]
 refine wpAny_bind (wpAny_standAt (wpAny_bind ?_))
 show wpAny _ X.A (do let _ <-comprehension (.ListComp elt [⟨tg,iter,ifs,0⟩] scope pos) scope X.env _ (newList []) false (eval iter X.env) (some (assign (.Name x pos') X.env))) _ _ s
 refine wpAny_bind (wpAny_mono (wpAny_comprehension_free (use:=some (assign (.Name x pos') X.env)) (Q:=fun _ s'=>SP X pins E .next s') rfl hs (jK L6) iC xT
  (qX hi jL xS gS iC Gq hG hT hE I h (RR:=fun acc C=>compPost (model X.prog X.w) X.A X.xe (some (assign (.Name x pos') X.env)) (fun _ s'=>SP X pins E .next s') acc C) ?_)) (fun _ s' hq=>wpAny_pure (wpAny_pure hq)) fun _ _ e=>e)
 intro D C oC m H' s' eC hn fC I' q
 show wpAny _ X.A (assign (.Name x pos') X.env (.ref D)) _ _ _
 refine wpAny_assign_Name (eh I' hN OF hx (show RelV (.ref D) _ from rfl) (fun JM Uz=>?_) hf)
 have pC:=Uz.pin (C,oC) (ZD _ (ZD _ (Wg.mpr rfl)))
 refine ⟨m,?_,fun h' J6=>?_⟩
 ·obtain ⟨o,es,ep,e,r⟩:=hn
  rw[eC]at e;cases e
  exact ⟨oC,es,ep,pC.1,r⟩
 ·refine ⟨_,H',Uz.iS.turned (t':=JM.toks) (fun b o hb e=>(J6.2 b hb).trans e) fC.1 fC.2.1 fC.2.2.2.1 fC.2.2.2.2.1 fC.2.2.2.2.2,q⟩
noncomputable def S (l:List Nat):Str:=⟨l.toArray⟩
theorem eR (l:List Nat):(S l).cps.toList=l:=by simp[S]
theorem cu (l:List Nat):(S l).length=l.length:=by simp[S,Str.length]
theorem lW (l:List Nat):(S l).cps.size=l.length:=by simp[S]
theorem OG {a b:List Nat} (h:S a=S b):a=b:=by
 have:=congrArg (fun x:Str=>x.cps.toList) h
 simpa [S]using this
theorem OH (x:Str):x=S x.cps.toList:=by cases x;simp[S]
theorem OI (a b:List Nat):S a++S b=S (a++b):=by
 apply Str.ext'
 apply Qcs.mp
 simp[S,Str.cps_append]
theorem Iy {a b:List Nat}:decide (V.str (S a)=V.str (S b))=decide (a=b):=by
 by_cases h:a=b
 ·subst h;simp
 ·rw[decide_eq_false h,decide_eq_false]
  intro q
  exact h (OG (V.str.inj q))
noncomputable def cut {α:Type} (xs:List α) (lo hi:Option Int):List α:=(xs.drop (HT.iU xs.length 0 lo)).take (HT.iU xs.length xs.length hi - HT.iU xs.length 0 lo)
theorem vf (n d:Nat) (v:Int):max 0 (min (if v<0 then v+(n:Int) else v) (n:Int))=((HT.iU n d (some v):Nat):Int):=by
 show _=(((if v<0 then (v+(n:Int)).toNat else min v.toNat n):Nat):Int)
 by_cases hv:v<0
 ·simp only[if_pos hv];omega
 ·simp only[if_neg hv];omega
theorem mT (lo hi:Option Int) (n:Nat):Builtin.Str.strSliceIndices lo hi 1 n=(List.range (HT.iU n n hi - HT.iU n 0 lo)).map (HT.iU n 0 lo+ ·):=by
 have h1:(1:Int)>0:=by decide
 rw[<-sliceRange_one]
 unfold Builtin.Str.strSliceIndices
 simp only[h1,if_true]
 congr 1
 ·cases lo with
  | none=>rfl
  | some v=>exact vf n 0 v
 ·cases hi with
  | none=>rfl
  | some v=>exact vf n n v
theorem Gv (l:List Nat) (lo hi:Option Int):Txt.slice (S l) lo hi=S (cut l lo hi):=by
 have hx:((Builtin.Str.strSliceIndices lo hi 1 (S l).length).filterMap ((S l).cps[·]?))=cut l lo hi:=by
  rw[cu,mT,pick_run,eR]
  rfl
 have hlen:(Builtin.Str.strSliceIndices lo hi 1 (S l).length).length=HT.iU l.length l.length hi - HT.iU l.length 0 lo:=by
  rw[cu,mT,Us,Qci]
 unfold Txt.slice
 by_cases hc:((1:Int)==1&&(Builtin.Str.strSliceIndices lo hi 1 (S l).length).length==(S l).length)=true
 ·rw[if_pos hc]
  rw[hlen,cu]at hc
  have e:HT.iU l.length l.length hi - HT.iU l.length 0 lo=l.length:=by simpa using hc
  have h2:=HT.JN l.length l.length (Ur _) hi
  have e0:HT.iU l.length 0 lo=0\/l.length=0:=by omega
  unfold cut
  rw[e]
  rcases e0 with z | z
  ·rw[z];simp
  ·have:l=[]:=Qb8 z
   subst this
   simp
 ·rw[if_neg hc]
  rw[hx]
  rfl
section
variable {X:Cx}
theorem gv {x:Str} {j pos} (l:List Nat) (h:x=S l):PE X (.Constant (.str x) j pos) (tC (.str (S l))):=by
 subst h
 exact Jv
def OJ:R2:=fun x y H Q=> ∃a b,x= .str (S a)/\y= .str (S b)/\a.length+b.length<=sizeLine/\Q (.str (S (a++b))) H
theorem bX:iL X (binaryOp .Add) OJ:=by
 intro pins s σ H x y v u Q I rx ry h
 obtain ⟨a,b,rfl,rfl,hz,q⟩:=h
 exact xw pins s σ H _ _ v u Q I rx ry ⟨S a,S b,rfl,rfl,by rw[cu,cu];exact hz,by rw[OI];exact q⟩
def OK:R2:=fun x y H Q=> ∃l i c,x= .str (S l)/\y= .int i/\l.length<=sizeLine/\iD l i=some c/\Q (.str (S [c])) H
theorem eN:JO X OK:=by
 intro value slice pins s σ H x y v u Q I rx ry h hs
 obtain ⟨l,i,c,rfl,rfl,hz,he,q⟩:=h
 exact JQ value slice pins s σ H _ _ v u Q I rx ry ⟨S l,i,c,rfl,rfl,by rw[cu];exact hz,by rw[eR];exact he,q⟩ hs
def Sx:V->Option Int->Option Int->Hp->VK->Prop:=fun x lo hi H Q=> ∃l,x= .str (S l)/\l.length<=sizeLine/\Q (.str (S (cut l lo hi))) H
theorem fz:Qx X Sx:=by
 intro pins s σ H x v vl vu lo hi sl Q I rx hs pl pu h
 obtain ⟨l,rfl,hz,q⟩:=h
 obtain ⟨t,rfl⟩:=rx
 refine ⟨"str",_,F.slot_str_getitem.lookup,typeIs_str _ _ _,?_⟩
 have key: ∀(a b:Option (Int×Tok)),vl=partValue a->vu=partValue b->a.map (·.1)=lo->b.map (·.1)=hi->wpAny (model X.prog X.w) X.A (getItem (.str (S l) t) (.ref sl)) (EP X pins σ Q) X.xe s:=by
  rintro a b rfl rfl rfl rfl
  obtain ⟨o,e,c,d⟩:=hs
  refine wpAny_getItem_str_slice (l:=a) (u:=b) (st:=none) ⟨o,e,c,d⟩ rfl (post_val_or_str ⟨?_,fun t' k=>?_⟩)
  ·exact ZI (Txt.slice_le (S l) _ _) (by rw[cu];exact hz)
  ·exact ⟨.str (S (cut l _ _)),H,I.tok _,⟨t',congrArg (fun z=>Value.str z t') (Gv l _ _)⟩,q⟩
 cases pl with
 | none=>
  cases pu with
  | none=>exact key none none rfl rfl rfl rfl
  | int i ti=>exact key none (some (i,ti)) rfl rfl rfl rfl
 | int i ti=>
  cases pu with
  | none=>exact key (some (i,ti)) none rfl rfl rfl rfl
  | int j tj=>exact key (some (i,ti)) (some (j,tj)) rfl rfl rfl rfl
theorem aM:dh X (.builtin "len") (fun xs H Q=> ∃l,xs=[.str (S l)]/\l.length<=sizeLine/\Q (.int l.length) H):=by
 intro pins s σ H xs us Q I r h
 obtain ⟨l,rfl,hz,q⟩:=h
 exact sM pins s σ H _ us Q I r ⟨S l,rfl,by rw[cu];exact hz,by rw[cu];exact q⟩
noncomputable def bP (l:List Nat):List V:=l.map fun c=>V.str (S [c])
theorem xU {l:List Nat}: ∀{acc:List Value},acc.length=l.length->(∀j v,acc[j]? =some v->SignAt (S l) j v)->Vals (bP l) acc:=by
 induction l with
 | nil=>intro acc h _;have:acc=[]:=Qb8 h;subst this;exact .nil
 | cons c l ih=>
  intro acc h k
  cases acc with
  | nil=>cases h
  | cons a acc=>
   refine .cons ?_ (ih (by simpa using h) fun j v e=>?_)
   ·obtain ⟨c',u,e1,e2⟩:=k 0 a rfl
    have:c=c':=by simpa [S]using e1
    subst this
    exact ⟨u,e2⟩
   ·obtain ⟨c',u,e1,e2⟩:=k (j+1) v (by simpa using e)
    exact ⟨c',u,by simpa [S]using e1,e2⟩
theorem oE (hc:X.calm=true):dh X (.type "list") (fun xs H Q=> ∃l,xs=[.str (S l)]/\l.length<=sizeLine/\ ∀p,H p=none->Q (.ref p) (upd H p (.lst (bP l)))):=by
 intro pins s σ H xs us Q I r h
 obtain ⟨l,rfl,hz,q⟩:=h
 obtain ⟨u,rfl,t,rfl⟩:=vals1 r
 refine call_list_str (I.ok.hd hc) (S l) t (fun h' tk cB c' hk e iN=>?_) (by rw[lW];exact hz)
 obtain ⟨h1,h2⟩:=iN
 rw[lW]at h1
 refine ⟨.ref s.heap.objs.size,_,I.laid (t':=tk) (o:= .lst (bP l)) hk (Ur _) ?_,rfl,q _ I.fresh⟩
 exact ⟨by unfold bP;rw[Us];exact hz,cB.toList,c',xU (by simpa using h1) (fun j v e=>h2 j v (by simpa using e)),by simpa using e⟩
def Sy:R2:=fun x y H Q=> ∃c l,x= .str (S [c])/\y= .str (S l)/\Q (.bl (decide (c∈l))) H
theorem J9:iL X (compareOp .In) Sy:=by
 intro pins s σ H x y v u Q I rx ry h
 obtain ⟨c,l,rfl,rfl,q⟩:=h
 refine AS pins s σ H _ _ v u Q I rx ry ⟨S [c],S l,rfl,rfl,?_⟩
 have e:=StrLaws.found_one (S l) c
 rw[eR]at e
 rw[show (S [c])=(⟨#[c]⟩:Str) from rfl,e]
 exact q
end
theorem qY (s sub:Str) (hi:Nat): ∀(l:List Nat) (st:Array Nat×Nat),1<=st.fst.size->(forIn l st (StrLaws.occBody s sub hi 1)).run.fst=st.fst
 | [],st,h=>rfl
 | a::l,st,h=>by
  rw[Qcb]
  unfold StrLaws.occBody
  rw[if_neg (fun z=>absurd z.1.1.1 (Nat.not_lt.mpr h))]
  exact qY s sub hi l _ h
theorem occ_first (s sub:Str) (hi:Nat): ∀(l:List Nat) (free:Nat),(∀i∈l,free<=i)->
  (forIn l ((#[]:Array Nat),free) (StrLaws.occBody s sub hi 1)).run.fst.toList=(l.find? fun i=>decide (i+sub.length<=hi)&&Builtin.Str.subAt s sub i).toList
 | [],free,_=>rfl
 | a::l,free,hf=>by
  rw[Qcb,Qa5]
  unfold StrLaws.occBody
  have ha:free<=a:=hf a Wi
  by_cases hc:a+sub.length<=hi/\Builtin.Str.subAt s sub a=true
  ·rw[if_pos ⟨⟨⟨by simp,ha⟩,hc.1⟩,hc.2⟩]
   have:(decide (a+sub.length<=hi)&&Builtin.Str.subAt s sub a)=true:=by simp[hc]
   rw[this]
   show (forIn l (#[].push a,a+sub.length) (StrLaws.occBody s sub hi 1)).run.fst.toList=_
   rw[qY s sub hi l _ (by simp)]
   rfl
  ·rw[if_neg (fun z=>hc ⟨z.1.2,z.2⟩)]
   have:(decide (a+sub.length<=hi)&&Builtin.Str.subAt s sub a)=false:=by
    cases h1:decide (a+sub.length<=hi) with
    | false=>rfl
    | true=>
     cases h2:Builtin.Str.subAt s sub a with
     | false=>rfl
     | true=>exact absurd ⟨of_decide_eq_true h1,h2⟩ hc
   rw[this]
   exact occ_first s sub hi l free fun i lK=>hf i (Uq _ lK)
theorem subAt_one (l:List Nat) (c i:Nat):Builtin.Str.subAt (S l) (S [c]) i=(l[i]? ==some c):=by
 unfold Builtin.Str.subAt
 rw[cu]
 show ((S l).cps.extract i (i+1)== #[c])=_
 have e:((S l).cps.extract i (i+1))=((l.drop i).take 1).toArray:=by
  apply Qcs.mp
  simp[S,List.take_drop]
 rw[e]
 by_cases h:i<l.length
 ·have e2:(l.drop i).take 1=[l[i]]:=by
   rw[Z1 h];rfl
  rw[e2,J0 h]
  by_cases hc:l[i]=c
  ·rw[hc];simp
  ·have h1:([l[i]].toArray== #[c])=false:=by
    rw[beq_eq_false_iff_ne]
    intro z
    apply hc
    have:=congrArg Array.toList z
    simpa using this
   have h2:(some l[i]==some c)=false:=by simpa using hc
   rw[h1,h2]
 ·have e2:(l.drop i).take 1=[]:=by rw[Qb5 (by omega)];rfl
  rw[e2,Qam (by omega)]
  rfl
theorem oF (l:List Nat) (c:Nat): ∀(k n:Nat),k+n=l.length+1->((List.range' k n).find? fun i=>decide (i+1<=l.length)&&(l[i]? ==some c))=if c∈l.drop k then some (k+(l.drop k).idxOf c) else none
 | k,0,h=>by
  have:l.drop k=[]:=Qb5 (by omega)
  rw[this];simp
 | k,n+1,h=>by
  rw[List.range'_succ,Qa5]
  by_cases hk:k<l.length
  ·have e:l.drop k=l[k]::l.drop (k+1):=Z1 hk
   rw[J0 hk,e]
   by_cases hc:l[k]=c
   ·have:(decide (k+1<=l.length)&&(some l[k]==some c))=true:=by simp[hc];omega
    rw[this,if_pos (by simp[hc])]
    simp[hc]
   ·have:(decide (k+1<=l.length)&&(some l[k]==some c))=false:=by simp[hc]
    rw[this,oF l c (k+1) n (by omega)]
    have qk: ¬c=l[k]:=fun z=>hc z.symm
    by_cases hm:c∈l.drop (k+1)
    ·rw[if_pos hm,if_pos (Uq _ hm),List.idxOf_cons]
     have:(l[k]==c)=false:=by simpa using hc
     rw[this]
     show some (k+1+List.idxOf c (List.drop (k+1) l))=some (k+(List.idxOf c (List.drop (k+1) l)+1))
     congr 1
     omega
    ·rw[if_neg hm,if_neg (by intro z;rcases Wj.mp z with z | z;exact qk z;exact hm z)]
  ·have:l.drop k=[]:=Qb5 (by omega)
   have e1:(decide (k+1<=l.length)&&(l[k]? ==some c))=false:=by
    rw[decide_eq_false (by omega)];rfl
   have e2:l.drop (k+1)=[]:=Qb5 (by omega)
   rw[e1,oF l c (k+1) n (by omega),this,e2]
   simp
theorem Iz (l:List Nat) (c:Nat):Builtin.Str.occurrences (S l) (S [c]) 0 (S l).length 1=if c∈l then [l.idxOf c] else []:=by
 rw[StrLaws.occ_eq,occ_first _ _ _ _ 0 fun _ _=>YU _]
 have e:(fun i=>decide (i+(S [c]).length<=(S l).length)&&Builtin.Str.subAt (S l) (S [c]) i)=fun i=>decide (i+1<=l.length)&&(l[i]? ==some c):=by
  funext i
  rw[subAt_one,cu,cu]
  rfl
 rw[e,cu,Nat.sub_zero,oF l c 0 (l.length+1) (by omega),List.drop_zero]
 by_cases h:c∈l
 ·rw[if_pos h,if_pos h,Qcw];rfl
 ·rw[if_neg h,if_neg h];rfl
section
variable {X:Cx}
def Gw:V->List V->Hp->VK->Prop:=fun x vs H Q=> ∃l c,x= .str (S l)/\vs=[.str (S [c])]/\c∈l/\Q (.int (l.idxOf c:Nat)) H
theorem fU:zB X "str.index" Gw:=by
 intro pins s σ H x xs v us Q I rx rv h
 obtain ⟨l,c,rfl,rfl,hc,q⟩:=h
 obtain ⟨t,rfl⟩:=rx
 obtain ⟨u,rfl,t',rfl⟩:=vals1 rv
 exact SC.index (i:=l.idxOf c) (rest:=[]) (by rw[Iz,if_pos hc]) ⟨.int (l.idxOf c:Nat),H,I.tok _,⟨_,rfl⟩,q⟩
def J_:V->List V->Hp->VK->Prop:=fun x vs H Q=> ∃l c,x= .str (S l)/\vs=[.str (S [c])]/\Q (.int (if c∈l then (l.idxOf c:Nat) else -1)) H
theorem vg:zB X "str.find" J_:=by
 intro pins s σ H x xs v us Q I rx rv h
 obtain ⟨l,c,rfl,rfl,q⟩:=h
 obtain ⟨t,rfl⟩:=rx
 obtain ⟨u,rfl,t',rfl⟩:=vals1 rv
 refine SC.find ⟨.int _,H,I.tok _,⟨_,rfl⟩,?_⟩
 have e:Txt.find (S l) (S [c])=(if c∈l then ((l.idxOf c:Nat):Int) else -1):=by
  unfold Txt.find
  rw[Iz]
  by_cases h:c∈l
  ·rw[if_pos h,if_pos h]
  ·rw[if_neg h,if_neg h]
 rw[e]
 exact q
def IA (f:Nat->Bool):V->List V->Hp->VK->Prop:=fun x vs H Q=> ∃c,x= .str (S [c])/\vs=[]/\c<128/\Q (.bl (f c)) H
def OL (f:Nat->Nat):V->List V->Hp->VK->Prop:=fun x vs H Q=> ∃c,x= .str (S [c])/\vs=[]/\c<128/\Q (.str (S [f c])) H
noncomputable def aF (c:Nat):Bool:=decide (97<=c)&&decide (c<=122)
noncomputable def isUp (c:Nat):Bool:=decide (65<=c)&&decide (c<=90)
theorem Gx: ∀c,c<128->Txt.islower ⟨#[c]⟩=aF c:=by decide+kernel
theorem Ka: ∀c,c<128->Txt.isupper ⟨#[c]⟩=isUp c:=by decide+kernel
theorem j6:zB X "str.islower" (IA aF):=by
 intro pins s σ H x xs v us Q I rx rv h
 obtain ⟨c,rfl,rfl,hc,q⟩:=h
 obtain ⟨t,rfl⟩:=rx
 have e:us=[]:=by cases rv;rfl
 subst e
 exact SC.islower ⟨.bl (aF c),H,I,congrArg Value.bool (Gx c hc),q⟩
theorem xV:zB X "str.isupper" (IA isUp):=by
 intro pins s σ H x xs v us Q I rx rv h
 obtain ⟨c,rfl,rfl,hc,q⟩:=h
 obtain ⟨t,rfl⟩:=rx
 have e:us=[]:=by cases rv;rfl
 subst e
 exact SC.isupper ⟨.bl (isUp c),H,I,congrArg Value.bool (Ka c hc),q⟩
theorem upper_one {c:Nat} (hc:c<128):Txt.upper (S [c])=S [up1 c]:=by
 rw[upper_ascii (by intro d hd;rw[eR]at hd;simp at hd;omega)]
 simp[S]
theorem qZ {c:Nat} (hc:c<128):Txt.lower (S [c])=S [lo1 c]:=by
 rw[lower_ascii (by intro d hd;rw[eR]at hd;simp at hd;omega)]
 simp[S]
theorem IB (c:Nat):Builtin.Str.tooLong (S [c]).length=false:=by
 rw[cu]
 show Builtin.Str.tooLong 1=false
 decide
theorem CM:zB X "str.upper" (OL up1):=by
 intro pins s σ H x xs v us Q I rx rv h
 obtain ⟨c,rfl,rfl,hc,q⟩:=h
 obtain ⟨t,rfl⟩:=rx
 have e:us=[]:=by cases rv;rfl
 subst e
 exact SC.upper (by rw[upper_one hc];exact IB _) ⟨.str (S [up1 c]),H,I.tok _,⟨_,congrArg (fun z=>Value.str z _) (upper_one hc)⟩,q⟩
theorem oG:zB X "str.lower" (OL lo1):=by
 intro pins s σ H x xs v us Q I rx rv h
 obtain ⟨c,rfl,rfl,hc,q⟩:=h
 obtain ⟨t,rfl⟩:=rx
 have e:us=[]:=by cases rv;rfl
 subst e
 exact SC.lower (by rw[qZ hc];exact IB _) ⟨.str (S [lo1 c]),H,I.tok _,⟨_,congrArg (fun z=>Value.str z _) (qZ hc)⟩,q⟩
theorem CN: ∀(ls:List (List Nat)) (a:Array Nat),(ls.map S).foldl (fun acc p=>acc++(S []).cps++p.cps) a=a++ls.flatten.toArray
 | [],a=>by simp
 | l::ls,a=>by
  rw[ZC,Qcc,CN ls]
  simp[S]
theorem CO (ls:List (List Nat)):Txt.join (S []) (ls.map S)=S ls.flatten:=by
 unfold Txt.join Builtin.Str.glued
 cases ls with
 | nil=>rfl
 | cons l ls=>
  show Str.mk ((List.map S ls).foldl (fun acc p=>acc++(S []).cps++p.cps) (S l).cps)=_
  rw[CN]
  simp[S]
theorem j7: ∀{ls:List (List Nat)} {us:List Value},Vals (ls.map fun l=>V.str (S l)) us->StrsAre us (ls.map S)
 | [],us,r=>by cases r;exact .nil
 | l::ls,us,r=>by
  cases r with
  | cons r1 r2=>
   obtain ⟨t,rfl⟩:=r1
   exact .cons _ t (j7 r2)
def CP (K:PySem.W.Frag):V->List V->Hp->VK->Prop:=fun x vs H Q=> ∃(p:Addr) (ls:List (List Nat)),x= .str (S [])/\vs=[.ref p]/\bD K H p (ls.map fun l=>V.str (S l))/\(ls.map List.length).sum<=16777216/\Q (.str (S ls.flatten)) H
theorem CQ:zB X "str.join" (CP X.K):=by
 intro pins s σ H x xs v us Q I rx rv h
 obtain ⟨p,ls,rfl,rfl,hq,hz,q⟩:=h
 obtain ⟨t,rfl⟩:=rx
 obtain ⟨u,rfl,ru⟩:=vals1 rv
 cases ru
 obtain ⟨aO,r,pl,_⟩:=I.list hq
 have e:(S []).length=0:=rfl
 refine join_list pl.isList (by simpa using j7 r) ?_ fun t' k=>?_
 ·rw[e,Nat.mul_zero,Qdl,Z_]
  have e2:(Str.length ∘ S)=List.length:=by funext l;exact cu l
  have e3:((fun x:Str=>x.length) ∘ S)=List.length:=by funext l;exact cu l
  first | (rw[e2];exact hz) | (rw[e3];exact hz)
 ·exact ⟨.str (S ls.flatten),H,I.tok _,⟨t',congrArg (fun z=>Value.str z t') (CO ls)⟩,q⟩
theorem Ba (hc:X.calm=true):dh X (.builtin "all") (fun xs H Q=> ∃(p:Addr) (bs:List Bool),xs=[.ref p]/\bD X.K H p (bs.map V.bl)/\Q (.bl (bs.all id)) H):=by
 intro pins s σ H xs us Q I r h
 obtain ⟨p,bs,rfl,hq,q⟩:=h
 obtain ⟨u,rfl,ru⟩:=vals1 r
 cases ru
 obtain ⟨aO,rv,pl,hz⟩:=I.list hq
 have hlen:aO.length=bs.length:=by rw[<-rv.length,Us]
 have hp:p<s.heap.objs.size:=by
  obtain ⟨o,n,e,_⟩:=pl
  exact Zr e
 refine call_all_walk (wpAny_pyIter_list pl.isList ?_)
 refine ⟨s.heap.objs.size,_,_,_,_,_,fun i=>(bs[i]?).getD true,rfl,Walks.list (A:=X.A.in1) (I.ok.hd hc) s.heap.objs.size p (Zu hp) aO.toArray,⟨⟨_,Zq _ rfl,rfl,rfl⟩,?_⟩,fun i v s' Q' E' hP hQ=>?_,fun h' tk hk=>?_⟩
 ·obtain ⟨o,ho,hr⟩:=pl.isList
  exact ⟨o,QC _ ho,hr⟩
 ·have QD:aO[i]? =some v:=by simpa using hP
  have hi:i<bs.length:=by rw[<-hlen];exact (J1.mp QD).1
  have hb:(bs.map V.bl)[i]? =some (V.bl bs[i]):=by rw[Zv,J0 hi];rfl
  obtain ⟨u,hu,ru⟩:=rv.get hb
  rw[QD]at hu;cases hu
  cases (show v=Value.bool bs[i] from ru)
  have e:(bs[i]?).getD true=bs[i]:=by rw[J0 hi];rfl
  have UA:Q' ((bs[i]?).getD true) s':=hQ
  rw[e]at UA
  exact wpAny_pure UA
 ·have e:((List.range aO.toArray.size).all fun i=>(bs[i]?).getD true)=bs.all id:=by
   rw[Wl,hlen]
   clear hq rv hlen q
   rw[Qbx,Qbc,Qbc]
   constructor
   ·intro h b hb
    obtain ⟨i,hi,e⟩:=Qbv hb
    have:=h i (Qad.mpr hi)
    rw[J0 hi,e]at this
    exact this
   ·intro h i hi
    have lK:=Qad.mp hi
    rw[J0 lK]
    exact h _ (ZR lK)
  have I1:Inv X pins σ H { s with heap:=h',toks:=tk }:=by
   have I0:Inv X pins σ H { s with heap:=s.heap.push { cls:= .type "list_iterator",data:= .fields #[.ref p, .int 0 0] } }:=I.kept (t':=s.toks) fun b o e=>QC _ e
   have f:=I.oq (H':=H) (b:=s.heap.objs.size) (Ur _) I.fresh
   have J:=I0.turned (h':=h') (t':=tk) (it:=s.heap.objs.size) (fun b o hb e=>hk b o (by simpa using hb) e) f.1 f.2.1 f.2.2.2.1 f.2.2.2.2.1 f.2.2.2.2.2
   exact J
  exact ⟨.bl (bs.all id),H,I1,by rw[e];rfl,q⟩
end
end L2
namespace L2.F2
open PySem PySem.Spec PyProof.Rows
theorem lX:Manifest.owners.lookup (String.ofList ['d','e','s','r','e','v','e','r'].reverse)=some Manifest.sig_reversed:=by kernel_rfl
theorem dF:Slot "reversed" "__next__" "reversed.__next__":=
 .of (owner:="reversed") (n:="__next__") (by rw[typeLookup_type,builtinLookup_eq_fast];kernel_rfl) (by decide+kernel) (by decide+kernel) (by decide+kernel)
  (by first | exact .inl (by decide+kernel) | exact .inr (by decide+kernel)) (by rw[isSubtype_type];kernel_rfl)
theorem iW:entryFor table "reversed.__next__"=some Builtin.«reversed.__next__» :=entryFor_of_tree (by kernel_rfl)
theorem iE (a:Value):argsOk "reversed.__next__" ⟨[a],[]⟩:=by
 unfold argsOk;rw[signature?_of (id:="reversed.__next__") (n:=['_','_','t','x','e','n','_','_']) (o:=['d','e','s','r','e','v','e','r']) (by kernel_rfl) lX];kernel_rfl
theorem jM:Slot "reversed" "__iter__" "reversed.__iter__":=
 .of (owner:="reversed") (n:="__iter__") (by rw[typeLookup_type,builtinLookup_eq_fast];kernel_rfl) (by decide+kernel) (by decide+kernel) (by decide+kernel)
  (by first | exact .inl (by decide+kernel) | exact .inr (by decide+kernel)) (by rw[isSubtype_type];kernel_rfl)
theorem ng (a:Value):argsOk "reversed.__iter__" ⟨[a],[]⟩:=by
 unfold argsOk;rw[signature?_of (id:="reversed.__iter__") (n:=['_','_','r','e','t','i','_','_']) (o:=['d','e','s','r','e','v','e','r']) (by kernel_rfl) lX];kernel_rfl
theorem oH:entryFor table "reversed.__iter__"=some Builtin.«dict_keyiterator.__iter__» :=
 entryFor_alias (id':="dict_keyiterator.__iter__") (by kernel_rfl) (by first | rfl | decide+kernel | (unfold String.splitOn;simp+decide [String.splitOnAux])) (by decide+kernel) (by kernel_rfl)
theorem qt:Slot "reversed" "__init__" "object.__init__":=
 .of (owner:="object") (n:="__init__") (by rw[typeLookup_type,builtinLookup_eq_fast];kernel_rfl) (by decide+kernel) (by decide+kernel) (by decide+kernel)
  (by first | exact .inl (by decide+kernel) | exact .inr (by decide+kernel)) (by rw[isSubtype_type];kernel_rfl)
theorem xW:TypeCalled "reversed" "reversed.__new__" "object.__init__":=
 ⟨by decide+kernel,by decide+kernel,⟨_,_,F.mro_reversed⟩,F.made_reversed,by decide+kernel,by rw[isSubtype_type];kernel_rfl,qt⟩
theorem xX:typeLookup (.type "str") "__reversed__"=pure none:=by rw[typeLookup_type,builtinLookup_eq_fast];kernel_rfl
end L2.F2
namespace L2
open PySem PySem.Spec PyProof.Rows
theorem oI (x:Str) (t:Tok) (hz:x.length<=sizeLine):Meets (Builtin.«reversed.__new__» ⟨[.type "reversed", .str x t],[]⟩) (fun _ R s=> ∀tk,R (.ok (.ret (.ref s.heap.objs.size))) { s with heap:=s.heap.push { cls:= .type "reversed",data:= .fields #[.str x t,rawInt ((x.length:Int) - 1)] },toks:=tk }):=by
 refine Meets.of_wp fun prog w A R s h=>?_
 unfold Builtin.«reversed.__new__»
 refine wpAny_bind (wpAny_of_eq (newClass_reversed _) ?_)
 try dsimp only
 refine wpAny_bind (wpAny_of_eq (a:=()) (by first | rfl | kernel_rfl) ?_)
 refine wpAny_bind (wpAny_of_eq (a:=()) (by first | rfl | kernel_rfl) ?_)
 try dsimp only
 refine wpAny_bind (wpAny_specialOf (typeIs_str s x t) F2.xX ?_)
 try dsimp only
 refine wpAny_bind (wpAny_of_eq (a:=true) (by first | rfl | kernel_rfl) ?_)
 rw[if_neg (by decide)]
 have hn:=eQ
 refine wpAny_bind (len_str (by omega) ?_)
 refine wpAny_bind (wpAny_of_eq (a:=some (x.length:Int)) (by first | rfl | kernel_rfl) ?_)
 show wpAny _ _ (Builtin.SmallTypes.newRecord (Value.type "reversed") [Value.str x t,rawInt ((x.length:Int) - 1)] >>= _) _ _ _
 refine wpAny_bind ?_
 unfold Builtin.SmallTypes.newRecord
 refine wpAny_newObj_type ?_ (by size_fits)
 exact wpAny_pure ⟨_,rfl,h _⟩
section
variable {prog:Program} {w:World} {A:Around} {E:Value->Shared->Prop} {s:Shared}
theorem iX {x:Str} {t:Tok} {Q:Value->Shared->Prop} (hz:x.length<=sizeLine) (h: ∀tk,Q (.ref s.heap.objs.size) { s with heap:=s.heap.push { cls:= .type "reversed",data:= .fields #[.str x t,rawInt ((x.length:Int) - 1)] },toks:=tk }):
  wpAny (model prog w) A (call (.type "reversed") [.str x t]) Q E s:=
 callType_new F2.xW (by decide+kernel) (F.typeCall_reversed_1 _) (F.newCall_reversed_1 _) (fun obj=>by unfold argsOk;kernel_rfl) F.entry_reversed_new (oI x t hz)
  fun tk=>⟨⟨_,Zq _ rfl,rfl⟩,h tk⟩
def di (h:Heap) (it:Addr) (x:Str) (t:Tok) (i:Int):Prop:= ∃o,h.get? it=some o/\o.cls= .type "reversed"/\o.data= .fields #[.str x t,rawInt i]
theorem di.typeIs {it:Addr} {x:Str} {t:Tok} {i:Int} (h:di s.heap it x t i):s.TypeIs (.ref it) "reversed":=let ⟨o,ho,hc,_⟩:=h;⟨o,ho,hc⟩
theorem fZ {it:Addr} {x:Str} {t:Tok} {i:Int} {Q:Value->Shared->Prop} (hit:di s.heap it x t i) (h:Q (.ref it) s):wpAny (model prog w) A (pyIter (.ref it)) Q E s:=by
 refine wpAny_pyIter_slot hit.typeIs F2.jM (wpAny_call_entry F2.jM hit.typeIs F2.oH ?_ (F2.ng _))
 show wpAny _ _ (ret (.ref it)) _ _ s
 exact wpAny_pure ⟨_,rfl,"reversed",_,hit.typeIs,F2.dF.lookup,h⟩
theorem iF {it:Addr} {x:Str} {t:Tok} {i c:Nat} {Q:Option Value->Shared->Prop} (hit:di s.heap it x t (i:Int)) (hx:x.cps[i]? =some c) (hz:x.length<=sizeLine)
  (hQ: ∀h' tk u,di h' it x t ((i:Int) - 1)->Heap.SameBut it s.heap h'->Q (some (.str ⟨#[c]⟩ u)) { s with heap:=h',toks:=tk }):wpAny (model prog w) A (pyNext (.ref it)) Q E s:=by
 obtain ⟨o,ho,hc,hd⟩:=id hit
 have hn:=eQ
 have hi:i<x.length:=(Array.getElem?_eq_some_iff.mp hx).1
 unfold pyNext
 refine wpAny_bind (wpAny_attempt (wpAny_callSpecial?_slot (name:=Str.ofString "__next__") hit.typeIs F2.dF
  (wpAny_call_entry F2.dF hit.typeIs F2.iW ?_ (F2.iE _))))
 unfold Builtin.«reversed.__next__»
 refine wpAny_bind (wpAny_of_eq (a:=(Value.ref it,[])) rfl ?_)
 try dsimp only
 refine wpAny_bind (wpAny_field ho hd (x:= .str x t) rfl ?_)
 refine wpAny_bind (wpAny_field ho hd (x:=rawInt (i:Int)) rfl ?_)
 show wpAny _ _ (if (i:Int)<0 then _ else _) _ _ s
 rw[if_neg (by omega)]
 refine wpAny_bind (wpAny_specialOf (typeIs_str s x t) F.slot_str_getitem.lookup ?_)
 show wpAny _ _ (if (some (Value.builtin _)).isNone=true then _ else _) _ _ s
 rw[if_neg (by decide)]
 refine wpAny_bind (wpAny_mkInt ?_)
 refine wpAny_bind (wpAny_attempt (getItem_str (c:=c) (by
  have e1:decide ((i:Int)< -(2 ^ 63:Int))=false:=decide_eq_false (by omega)
  have e2:decide ((i:Int) ≥ 2 ^ 63)=false:=decide_eq_false (by omega)
  rw[e1,e2,Qb7]) (by rw[seqIndex_of (by omega) (by omega),YT];exact hx) ?_))
 show wpAny _ _ (field (Value.ref it) 1 >>= _) _ _ _
 refine wpAny_bind (wpAny_field ho hd (x:=rawInt (i:Int)) rfl ?_)
 show wpAny _ _ (setField (Value.ref it) 1 (rawInt ((i:Int) - 1)) >>= _) _ _ _
 refine wpAny_bind (wpAny_setField ho hd (by simp) ?_)
 refine wpAny_pure ⟨_,rfl,wpAny_pure (hQ _ _ _ ?_ (Qdy ..))⟩
 exact ⟨_,Z9 _ ho (Obj.isFreed_of_fields (Obj.data_mapFields hd _)),(Obj.cls_mapFields ..).trans hc,by
  rw[Obj.data_mapFields hd];simp⟩
theorem iY {it:Addr} {x:Str} {t:Tok} {Q:Option Value->Shared->Prop} (hh:A.handled=none) (hit:di s.heap it x t (-1))
  (hQ: ∀h',Heap.ExtBut it s.heap h'->Q none { s with heap:=h' }):wpAny (model prog w) A (pyNext (.ref it)) Q E s:=by
 obtain ⟨o,ho,hc,hd⟩:=id hit
 unfold pyNext
 refine wpAny_bind (wpAny_attempt (wpAny_callSpecial?_slot (name:=Str.ofString "__next__") hit.typeIs F2.dF
  (wpAny_call_entry F2.dF hit.typeIs F2.iW ?_ (F2.iE _))))
 unfold Builtin.«reversed.__next__»
 refine wpAny_bind (wpAny_of_eq (a:=(Value.ref it,[])) rfl ?_)
 try dsimp only
 refine wpAny_bind (wpAny_field ho hd (x:= .str x t) rfl ?_)
 refine wpAny_bind (wpAny_field ho hd (x:=rawInt (-1)) rfl ?_)
 show wpAny _ _ (if (-1:Int)<0 then _ else _) _ _ s
 rw[if_pos (by decide)]
 refine wpAny_bind (wpAny_rule ?_)
 refine wpAny_bind ?_
 show wpAny _ _ (setField (Value.ref it) 1 (rawInt (-1)) >>= fun _=>setField (Value.ref it) 0 .none) _ _ _
 refine wpAny_bind (wpAny_setField ho hd (by simp) ?_)
 refine wpAny_setField (Z9 _ ho (Obj.isFreed_of_fields (Obj.data_mapFields hd _))) (Obj.data_mapFields hd _) (by simp) ?_
 first
 | show wpAny _ _ (newExc (.type "StopIteration") [] >>= _) _ _ _
 |(refine wpAny_bind ?_;show wpAny _ _ (newExc (.type "StopIteration") [] >>= _) _ _ _)
 refine wpAny_bind ?_
 simp only[newExc,newTuple]
 refine wpAny_bind (wpAny_newObj_type ?_ (by size_fits))
 refine wpAny_bind (m:=firstArgMember _ _) (wpAny_of_eq (a:=Value.none) (by first | rfl | (simp only[firstArgMember];rfl)) ?_)
 refine wpAny_newObj_type ?_ (by size_fits)
 simp only[raiseNew]
 refine wpAny_bind (wpAny_handled ?_)
 first | rw[show A.in1.handled=none from hh] | rw[hh]
 refine wpAny_bind (wpAny_pure (wpAny_throw ?_))
 refine wpAny_bind (wpAny_isInstance (T:="StopIteration") (b:=true) ⟨_,Zq _ rfl,rfl⟩ isSubtype_stop ?_)
 refine wpAny_pure (hQ _ fun b ob hb e=>?_)
 refine QC _ (QC _ ?_)
 exact (ZP _ _ (Ne.symm hb)).trans ((ZP _ _ (Ne.symm hb)).trans e)
end
noncomputable def Gy (xs:List V):It:=⟨fun i _=>i<xs.length,fun i H x H'=>H'=H/\xs[i]? =some x,fun i _=>xs.length<=i⟩
theorem gz {l:List Nat} {i:Nat} {x:V} (h:(bP l)[i]? =some x): ∃c,l[i]? =some c/\x= .str (S [c]):=by
 unfold bP at h
 rw[Zv]at h
 cases e:l[i]? with
 | none=>rw[e]at h;cases h
 | some c=>rw[e]at h;cases h;exact ⟨c,rfl,rfl⟩
theorem aZ (l:List Nat):(bP l).length=l.length:=by unfold bP;rw[Us]
theorem CT {P:Program} {w:World} {K:PySem.W.Frag} {tg:Expr} (it:Addr) (l:List Nat) (t:Tok):Turn P w K tg (Gy (bP l)) [it] it (fun i h=>h.IsStrIter it (strIterType (S l)) (S l) t i) where
 mem:=by simp
 obj:=fun i h st b hb=>by
  have e:b=it:=by simpa using hb
  subst e
  obtain ⟨o,e,c,d⟩:=st
  exact ⟨o,e,fun v z=>by rw[d]at z;cases z⟩
 keep:=fun i h h' st k=>let ⟨o,e,r⟩:=st;⟨o,k it (by simp) o e,r⟩
 item:=by
  intro X hP hw hK hc i pins s σ H E I hf st hg
  subst hP hw hK
  have Kb:i<l.length:=by have:i<(bP l).length:=hg;rwa [aZ]at this
  obtain ⟨f0,f1,f2,f3,f4,f5⟩:=hf it (by simp)
  have fin: ∀(v:Value) (h':Heap) (tk:Nat),SignAt (S l) i v->h'.IsStrIter it (strIterType (S l)) (S l) t (i+1)->(∀b o,b∉[it]->s.heap.get? b=some o->h'.get? b=some o)->
    ∃u,some v=some u/\wpAny (model X.prog X.w) X.A (letOwnedTupleGo tg (.ref it) u) (fun _ s2=> ∃x H',Inv X pins σ H' s2/\RelV x u/\(Gy (bP l)).Cg i H x H'/\s2.heap.IsStrIter it (strIterType (S l)) (S l) t (i+1)/\ ∀b∈[it],H' b=none) E { s with heap:=h',toks:=tk }:=by
   intro v h' tk hv uM kk
   obtain ⟨c,u,e1,e2⟩:=hv
   subst e2
   have I1:Inv X pins σ H { s with heap:=h',toks:=tk }:=I.turned (fun b o hb e=>kk b o (by simpa using hb) e) f0 f1 f3 f4 f5
   obtain ⟨o,e,cc,d⟩:=id uM
   refine ⟨_,rfl,u6 (s:={ s with heap:=h',toks:=tk }) e cc d (by unfold strIterType;split<;>decide) ⟨.str (S [c]),H,I1,⟨u,rfl⟩,⟨rfl,?_⟩,uM,fun b hb=>(hf b hb).1⟩⟩
   unfold bP
   rw[Zv]
   have CU:l[i]? =some c:=by simpa [S]using e1
   rw[CU]
   rfl
  have hsz:i<(S l).cps.size:=by rw[lW];exact Kb
  by_cases ha:(S l).cps.all (· <128)=true
  ·have et:strIterType (S l)="str_ascii_iterator":=by unfold strIterType;rw[if_pos ha]
   rw[et]at st
   exact (Walks.strAscii (prog:=X.prog) (w:=X.w) (I.ok.hd hc) it (S l) t).item i s _ _ hsz st fun v h' tk hv uM kk=>fin v h' tk hv (by rw[et];exact uM) kk
  ·have et:strIterType (S l)="str_iterator":=by unfold strIterType;rw[if_neg ha]
   rw[et]at st
   exact (Walks.strWide (prog:=X.prog) (w:=X.w) (I.ok.hd hc) it (S l) t).item i s _ _ hsz st fun v h' tk hv uM kk=>fin v h' tk hv (by rw[et];exact uM) kk
 done:=by
  intro X hP hw hK hc i pins s σ H E I hf st hg
  subst hP hw hK
  obtain ⟨f0,f1,f2,f3,f4,f5⟩:=hf it (by simp)
  have Kb:l.length<=i:=by have:(bP l).length<=i:=hg;rwa [aZ]at this
  have hx:(S l).cps[i]? =none:=by rw[Array.getElem?_eq_none_iff,lW];exact Kb
  by_cases ha:(S l).cps.all (· <128)=true
  ·have et:strIterType (S l)="str_ascii_iterator":=by unfold strIterType;rw[if_pos ha]
   rw[et]at st
   exact wpAny_pyNext_ascii_end (I.ok.hd hc) st hx fun h' eb=>⟨rfl,I.turned (t':=s.toks) (fun b o hb e=>eb b o hb e) f0 f1 f3 f4 f5⟩
  ·have et:strIterType (S l)="str_iterator":=by unfold strIterType;rw[if_neg ha]
   rw[et]at st
   exact wpAny_pyNext_wide_end (I.ok.hd hc) st hx fun h' eb=>⟨rfl,I.turned (t':=s.toks) (fun b o hb e=>eb b o hb e) f0 f1 f3 f4 f5⟩
 self:=fun _ _ s _ _ st h=>by
  by_cases ha:(S l).cps.all (· <128)=true
  ·have et:strIterType (S l)="str_ascii_iterator":=by unfold strIterType;rw[if_pos ha]
   rw[et]at st
   exact wpAny_pyIter_striter_ascii st h
  ·have et:strIterType (S l)="str_iterator":=by unfold strIterType;rw[if_neg ha]
   rw[et]at st
   exact wpAny_pyIter_striter_wide st h
theorem CV {P:Program} {w:World} {K:PySem.W.Frag} {tg:Expr} (it:Addr) (l:List Nat) (t:Tok) (hz:l.length<=sizeLine):Turn P w K tg (Gy (bP l).reverse) [it] it (fun i h=>i<=l.length/\di h it (S l) t ((l.length:Int) - 1 - (i:Int))) where
 mem:=by simp
 obj:=fun i h st b hb=>by
  have e:b=it:=by simpa using hb
  subst e
  obtain ⟨_,o,e,c,d⟩:=st
  exact ⟨o,e,fun v z=>by rw[d]at z;cases z⟩
 keep:=fun i h h' st k=>let ⟨q,o,e,r⟩:=st;⟨q,o,k it (by simp) o e,r⟩
 item:=by
  intro X hP hw hK hc i pins s σ H E I hf st hg
  subst hP hw hK
  have Kb:i<l.length:=by have:i<(bP l).reverse.length:=hg;rwa [ZF,aZ]at this
  obtain ⟨f0,f1,f2,f3,f4,f5⟩:=hf it (by simp)
  obtain ⟨_,st⟩:=st
  have e:(l.length:Int) - 1 - (i:Int)=((l.length - 1 - i:Nat):Int):=by omega
  rw[e]at st
  have cC:l.length - 1 - i<l.length:=by omega
  refine iF (c:=l[l.length - 1 - i]) st (by simp[S,cC]) (by rw[cu];exact hz) fun h' tk u uM sb=>?_
  have I1:Inv X pins σ H { s with heap:=h',toks:=tk }:=I.turned (fun b o hb e=>(sb.2 b hb).trans e) f0 f1 f3 f4 f5
  obtain ⟨o,e1,cc,d⟩:=id uM
  refine ⟨_,rfl,u6 (s:={ s with heap:=h',toks:=tk }) e1 cc d (by decide) ⟨.str (S [l[l.length - 1 - i]]),H,I1,⟨u,rfl⟩,⟨rfl,?_⟩,⟨Kb,?_⟩,fun b hb=>(hf b hb).1⟩⟩
  ·rw[Qbj (by rw[aZ];exact Kb),aZ]
   unfold bP
   rw[Zv,J0 cC]
   rfl
  ·have e2:(l.length:Int) - 1 - ((i+1:Nat):Int)=((l.length - 1 - i:Nat):Int) - 1:=by omega
   rw[e2]
   exact uM
 done:=by
  intro X hP hw hK hc i pins s σ H E I hf st hg
  subst hP hw hK
  obtain ⟨f0,f1,f2,f3,f4,f5⟩:=hf it (by simp)
  have Kb:l.length<=i:=by have:(bP l).reverse.length<=i:=hg;rwa [ZF,aZ]at this
  obtain ⟨hi,st⟩:=st
  have e:(l.length:Int) - 1 - (i:Int)= -1:=by omega
  rw[e]at st
  exact iY (I.ok.hd hc) st fun h' eb=>⟨rfl,I.turned (t':=s.toks) (fun b o hb e=>eb b o hb e) f0 f1 f3 f4 f5⟩
 self:=fun _ _ _ _ _ st h=>fZ st.2 h
section
variable {X:Cx} {tg:Expr}
def Sz (tl:TE):TI:=fun σ H R=>tl σ H fun x H1=> ∃l,x= .str (S l)/\R (Gy (bP l)) H1
theorem oJ {l:Expr} {tl:TE} (hl:PE X l tl):PI X tg l (Sz tl):=by
 intro pins s σ H R I h
 refine cx (hl pins s σ H _ I h) fun v s1 ⟨x,H1,I1,r1,q1⟩=>?_
 obtain ⟨l,rfl,q⟩:=q1
 obtain ⟨t,rfl⟩:=r1
 refine wpAny_pyIter_strU ?_
 refine ⟨s1.heap.objs.size,[s1.heap.objs.size],_,_,H1,rfl,I1.kept (t':=s1.toks) fun b o e=>QC _ e,CT _ l t,⟨_,Zq _ rfl,rfl,rfl⟩,fun b hb=>?_,q⟩
 have e:b=s1.heap.objs.size:=by simpa using hb
 subst e
 exact I1.oq (Ur _) (I1.b6.fresh (Ur _))
def SA (ta:TA):TI:=fun σ H R=>ta σ H fun vs H1=> ∃l,vs=[.str (S l)]/\l.length<=sizeLine/\R (Gy (bP l).reverse) H1
theorem CY {a:Expr} {ta:TA} {p pos:Pos} (hg:Gl X "reversed") (hm:X.mg "reversed"=none) (ha:PA X [a] ta) (hs:starEach [a] X.env=[(false,eval a X.env)]:=by rfl):PI X tg (.Call (.Name "reversed" p) [a] [] pos) (SA ta):=by
 intro pins s σ H R I h
 refine Call_ (fV I hg hm boot_reversed (Z4 (cx (ha pos pins s σ H _ I h) fun us s1 ⟨vs,H1,I1,r1,q1⟩=>?_) hs rfl))
 obtain ⟨l,rfl,hz,q⟩:=q1
 obtain ⟨u,rfl,t,rfl⟩:=vals1 r1
 refine iX (by rw[cu];exact hz) fun tk=>?_
 have hit:di (s1.heap.push { cls:= .type "reversed",data:= .fields #[.str (S l) t,rawInt (((S l).length:Int) - 1)] }) s1.heap.objs.size (S l) t (((S l).length:Int) - 1):=⟨_,Zq _ rfl,rfl,rfl⟩
 refine fZ hit ?_
 refine ⟨s1.heap.objs.size,[s1.heap.objs.size],_,_,H1,rfl,I1.kept (t':=tk) fun b o e=>QC _ e,CV _ l t hz,⟨YU _,?_⟩,fun b hb=>?_,q⟩
 ·have e:(l.length:Int) - 1 - ((0:Nat):Int)=((S l).length:Int) - 1:=by rw[cu];simp
  rw[e]
  exact hit
 ·have e:b=s1.heap.objs.size:=by simpa using hb
  subst e
  exact I1.oq (Ur _) (I1.b6.fresh (Ur _))
end
theorem sP {xs:List V} {g:TG} {tb:TS} {D:Ends} {σ:St} {H:Hp} (Pv:Nat->St->Hp->Prop) (h0:Pv 0 σ H)
  (hs: ∀i x σ H,xs[i]? =some x->Pv i σ H->g x σ H fun σ2 H2=>tb { D with nx:=Pv (i+1),ct:=Pv (i+1),bk:=D.nx } σ2 H2) (hd: ∀σ H,Pv xs.length σ H->D.nx σ H):
  ∃W:Nat->Nat->St->Hp->Prop,(∃m,W 0 m σ H)/\ ∀i m σ H,W i m σ H->
   ((Gy xs).stop i H/\D.nx σ H)\/((Gy xs).go i H/\ ∃N:St->Hp->Prop,(∀σ' H',N σ' H'-> ∃m',m'<m/\W (i+1) m' σ' H')/\ ∀x H',(Gy xs).Cg i H x H'->g x σ H' fun σ2 H2=>tb { D with nx:=N,ct:=N,bk:=D.nx } σ2 H2):=by
 refine ⟨fun i m σ H=>m=xs.length - i/\i<=xs.length/\Pv i σ H,⟨xs.length,by simp,YU _,h0⟩,?_⟩
 rintro i m σ H ⟨rfl,hi,p⟩
 by_cases cC:i<xs.length
 ·refine .inr ⟨cC,Pv (i+1),fun σ' H' p'=>⟨xs.length - (i+1),by omega,rfl,cC,p'⟩,fun x H' y=>?_⟩
  obtain ⟨e,y⟩:=y
  subst e
  exact hs i x σ _ y p
 ·have e:i=xs.length:=by omega
  subst e
  exact .inl ⟨Ur _,hd σ H p⟩
theorem nN {J:It} {n:Nat} {xs:Nat->V->Prop} {σc:St} {g:TG} {tc:TT} {te:TE} {Q:VK} {H1:Hp} (Pv:Nat->List V->Hp->Prop) (hn:n<sizeLine) (Wr: ∀i acc H,i<n->Pv i acc H->J.go i H) (OM: ∀acc H,Pv n acc H->J.stop n H)
  (hy: ∀i acc H x H',i<n->Pv i acc H->J.Cg i H x H'->H'=H/\xs i x) (h0:Pv 0 [] H1)
  (hs: ∀(i:Nat) (x:V) (acc:List V) (H:Hp) (Nx:List V->Hp->Prop),i<n->xs i x->acc.length<=i->Pv i acc H->(∀cB H',cB.length<=i+1->Pv (i+1) cB H'->Nx cB H')->
   g x σc H fun σ2 H2=>Wk σc σ2/\tc σ2 H2 fun b H3=>if b=true then te σ2 H3 fun v H4=>Nx (acc++[v]) H4 else Nx acc H3)
  (hd: ∀acc H D,acc.length<=n->Pv n acc H->H D=none->Q (.ref D) (upd H D (.lst acc))):qW J σc g tc te Q H1:=by
 refine ⟨fun i m acc H=>m=n - i/\i<=n/\acc.length<=i/\Pv i acc H,⟨n,by simp,YU _,Ur _,h0⟩,?_⟩
 rintro i m acc H ⟨rfl,hi,hl,p⟩
 refine ⟨by omega,?_⟩
 by_cases cC:i<n
 ·refine .inr ⟨Wr i acc H cC p,fun x H' y=>?_⟩
  obtain ⟨rfl,y2⟩:=hy i acc H x H' cC p y
  exact hs i x acc _ (fun cB H'=> ∃m',m'<n - i/\(m'=n - (i+1)/\i+1<=n/\cB.length<=i+1/\Pv (i+1) cB H')) cC y2 hl p fun cB H' h1 h2=>⟨n - (i+1),by omega,rfl,cC,h1,h2⟩
 ·have e:i=n:=by omega
  subst e
  exact .inl ⟨OM acc H p,fun D hD=>hd acc H D hl p hD⟩
theorem kK {xs:List V} {σc:St} {g:TG} {tc:TT} {te:TE} {Q:VK} {H1:Hp} (Pv:Nat->List V->Hp->Prop) (hn:xs.length<sizeLine) (h0:Pv 0 [] H1)
  (hs: ∀(i:Nat) (x:V) (acc:List V) (H:Hp) (Nx:List V->Hp->Prop),i<xs.length->xs[i]? =some x->acc.length<=i->Pv i acc H->(∀cB H',cB.length<=i+1->Pv (i+1) cB H'->Nx cB H')->
   g x σc H fun σ2 H2=>Wk σc σ2/\tc σ2 H2 fun b H3=>if b=true then te σ2 H3 fun v H4=>Nx (acc++[v]) H4 else Nx acc H3)
  (hd: ∀acc H D,acc.length<=xs.length->Pv xs.length acc H->H D=none->Q (.ref D) (upd H D (.lst acc))):qW (Gy xs) σc g tc te Q H1:=
 nN (xs:=fun i x=>xs[i]? =some x) Pv hn (fun i _ _ h _=>h) (fun _ _ _=>Ur _) (fun i _ H x H' _ _ y=>y) h0 hs hd
theorem iZ {lo:Int} {n:Nat} {σc:St} {g:TG} {tc:TT} {te:TE} {Q:VK} {H1:Hp} (Pv:Nat->List V->Hp->Prop) (hn:n<sizeLine) (h0:Pv 0 [] H1)
  (hs: ∀(i:Nat) (acc:List V) (H:Hp) (Nx:List V->Hp->Prop),i<n->acc.length<=i->Pv i acc H->(∀cB H',cB.length<=i+1->Pv (i+1) cB H'->Nx cB H')->
   g (.int (lo+i)) σc H fun σ2 H2=>Wk σc σ2/\tc σ2 H2 fun b H3=>if b=true then te σ2 H3 fun v H4=>Nx (acc++[v]) H4 else Nx acc H3)
  (hd: ∀acc H D,acc.length<=n->Pv n acc H->H D=none->Q (.ref D) (upd H D (.lst acc))):qW (Io lo n) σc g tc te Q H1:=
 nN (xs:=fun i x=>x= .int (lo+i)) Pv hn (fun i _ _ h _=>h) (fun _ _ _=>Ur _) (fun i _ H x H' _ _ y=>y) h0 (fun i x acc H Nx h1 h2=>by subst h2;exact hs i acc H Nx h1) hd
theorem q5 {K:PySem.W.Frag} {a:Addr} {xs:List V} {σc:St} {g:TG} {tc:TT} {te:TE} {Q:VK} {H1:Hp} (Pv:Nat->List V->Hp->Prop) (hn:xs.length<sizeLine) (hl: ∀i acc H,Pv i acc H->bD K H a xs) (h0:Pv 0 [] H1)
  (hs: ∀(i:Nat) (x:V) (acc:List V) (H:Hp) (Nx:List V->Hp->Prop),i<xs.length->xs[i]? =some x->acc.length<=i->Pv i acc H->(∀cB H',cB.length<=i+1->Pv (i+1) cB H'->Nx cB H')->
   g x σc H fun σ2 H2=>Wk σc σ2/\tc σ2 H2 fun b H3=>if b=true then te σ2 H3 fun v H4=>Nx (acc++[v]) H4 else Nx acc H3)
  (hd: ∀acc H D,acc.length<=xs.length->Pv xs.length acc H->H D=none->Q (.ref D) (upd H D (.lst acc))):qW (L1 K a) σc g tc te Q H1:=
 nN (xs:=fun i x=>xs[i]? =some x) Pv hn (fun i acc H h p=>⟨xs,xs[i],hl i acc H p,by simp[h]⟩) (fun acc H p=>⟨xs,hl _ acc H p,Ur _⟩) (fun i acc H x H' h p y=>⟨y.1,y.2 xs (hl i acc H p)⟩) h0 hs hd
def Gz (c:TT) (tb:TS):TS:=fun D σ H=> ∃W:Nat->St->Hp->Prop,(∃m,W m σ H)/\ ∀m σ H,W m σ H->
 c σ H fun b H1=>if b=true then tb { D with nx:=fun σ' H'=> ∃m',m'<m/\W m' σ' H',ct:=fun σ' H'=> ∃m',m'<m/\W m' σ' H',bk:=D.nx } σ H1 else D.nx σ H1
theorem cj {X:Cx} {c:Expr} {body:List Stmt} {tc:TT} {tb:TS} {pos:Pos} (hp:PassesOwn (model X.prog X.w) X.A X.env X.xe) (hc:PT X c tc) (hb:xn X body tb):PS X (.While c body [] pos) (Gz tc tb):=by
 intro pins s σ H D I h
 obtain ⟨W,⟨m0,w0⟩,turn⟩:=h
 refine wpAny_While (codeAny_whileLoop (fun n s'=> ∃σ' H',Inv X pins σ' H' s'/\W n σ' H') ?_ m0 ⟨σ,H,I,w0⟩)
 rintro n s1 ⟨σ1,H1,I1,w1⟩
 refine wpAny_passesOwn hp (cx (hc pins s1 σ1 H1 _ I1 (turn n σ1 H1 w1)) fun b s2 ⟨H2,I2,q2⟩=>?_)
 cases b with
 | true=>
  rw[if_pos rfl]at q2 ⊢
  refine wpAny_passesOwn hp (cx (hb pins s2 σ1 H2 _ I2 q2) fun f s3 q3=>?_)
  cases f with
  | next=>
   obtain ⟨σ3,H3,I3,m',hm,w3⟩:=q3
   exact ⟨m',hm,σ3,H3,I3,w3⟩
  | cont=>
   obtain ⟨σ3,H3,I3,m',hm,w3⟩:=q3
   exact ⟨m',hm,σ3,H3,I3,w3⟩
  | brk=>exact q3
  | ret v=>exact q3
 | false=>
  rw[if_neg Zw]at q2 ⊢
  exact wpAny_execs_nil ⟨σ1,H2,I2,q2⟩
noncomputable def sQ (X:Cx) (scope:Scope):Bool:=(scope.names.all fun y=>y.2 != .cell)&&(scope.kind== .function)&&(scope.names.all fun y=>y.2 != .free||X.env.kindOf y.1==some .cell||X.env.kindOf y.1==some .free)&&(scope.names.all fun y=>y.2 != .local||scope.names.lookup y.1==some .local)
theorem kL {X:Cx} {scope:Scope} (h:sQ X scope=true):(∀y∈scope.names,y.2≠ .cell)/\scope.kind= .function/\(∀y∈scope.names,y.2= .free->X.env.kindOf y.1=some .cell\/X.env.kindOf y.1=some .free)/\(∀x∈scope.names,x.2= .local->scope.names.lookup x.1=some .local):=by
 unfold sQ at h
 simp only[Z8]at h
 obtain ⟨⟨⟨h1,h2⟩,h3⟩,h4⟩:=h
 refine ⟨fun y hy e=>?_,by simpa using h2,fun y hy e=>?_,fun y hy e=>?_⟩
 ·have:=Qbc.mp h1 y hy
  rw[e]at this;simp at this
 ·have:=Qbc.mp h3 y hy
  rw[e]at this
  simpa using this
 ·have:=Qbc.mp h4 y hy
  rw[e]at this
  simpa using this
theorem cS {X:Cx} {tg iter elt:Expr} {ifs:List Expr} {scope:Scope} {pos:Pos} {wi:TI} {g:TG} {tc:TT} {te:TE} (Nc:List Str) (ix:List (Option Nat)) (hi:PI X tg iter wi) (xS:jF X scope Nc ix)
  (hG: ∀C s H fp,PG (bY X scope C Nc s H fp) tg g) (hT: ∀C s H fp,PF (bY X scope C Nc s H fp) ifs tc) (hE: ∀C s H fp,PE (bY X scope C Nc s H fp) elt te) (b6:sQ X scope=true:=by rfl) (jL:X.calm=true:=by rfl)
  (hs: ∀x,foldedSetIterable iter X.env x=pure x:=by intro _;rfl):PE X (.ListComp elt [⟨tg,iter,ifs,0⟩] scope pos) (ve wi ix g tc te):=
 let ⟨h1,h2,h3,h4⟩:=kL b6
 Gs Nc ix hi jL xS h1 h2 h3 h4 hG hT hE hs
theorem kM {X:Cx} {i:Nat} {x:Str} {tg iter elt:Expr} {ifs:List Expr} {scope:Scope} {pos CL pos':Pos} {wi:TI} {g:TG} {tc:TT} {te:TE} (Nc:List Str) (ix:List (Option Nat)) (hN:X.N.Nodup) (OF:X.N[i]? =some x) (hx:Loc X.env.scope x)
  (hi:PI X tg iter wi) (xS:jF X scope Nc ix)
  (hG: ∀C s H fp,PG (bY X scope C Nc s H fp) tg g) (hT: ∀C s H fp,PF (bY X scope C Nc s H fp) ifs tc) (hE: ∀C s H fp,PE (bY X scope C Nc s H fp) elt te)
  (Ck:swapsWith (.ListComp elt [⟨tg,iter,ifs,0⟩] scope pos) (some (.Name x pos')) CL.line X.env=pure true:=by rfl) (b6:sQ X scope=true:=by rfl) (jL:X.calm=true:=by rfl)
  (hs: ∀x,foldedSetIterable iter X.env x=pure x:=by intro _;rfl) (hf:X.fn x=true\/X.env.scope.names.lookup x=some .local:=by first | exact .inl rfl | exact .inr rfl | assumption):
  PS X (.Assign [.Name x pos'] (.ListComp elt [⟨tg,iter,ifs,0⟩] scope pos) CL) (FX (ve wi ix g tc te) (u5 i)):=
 let ⟨h1,h2,h3,h4⟩:=kL b6
 Gu Nc ix hN OF hx Ck hi jL xS h1 h2 h3 h4 hG hT hE hs hf
section
variable {X:Cx}
def SD:R2:=fun x y H Q=> ∃a b,x= .str (S a)/\y= .str (S b)/\Q (.bl (decide (a=b))) H
def SE:R2:=fun x y H Q=> ∃a b,x= .str (S a)/\y= .str (S b)/\Q (.bl (!decide (a=b))) H
theorem eG:iL X (compareOp .Eq) SD:=by
 intro pins s σ H x y v u Q I rx ry h
 obtain ⟨a,b,rfl,rfl,q⟩:=h
 exact Cy pins s σ H _ _ v u Q I rx ry ⟨rfl,by rw[Iy];exact q⟩
theorem oK:iL X (compareOp .NotEq) SE:=by
 intro pins s σ H x y v u Q I rx ry h
 obtain ⟨a,b,rfl,rfl,q⟩:=h
 exact Iq pins s σ H _ _ v u Q I rx ry ⟨rfl,by rw[Iy];exact q⟩
theorem ON {i j:Int}:decide (V.int i=V.int j)=decide (i=j):=by
 by_cases h:i=j
 ·subst h;simp
 ·rw[decide_eq_false h,decide_eq_false]
  intro q
  exact h (V.int.inj q)
theorem IC {i j:Bool}:decide (V.bl i=V.bl j)=decide (i=j):=by
 by_cases h:i=j
 ·subst h;simp
 ·rw[decide_eq_false h,decide_eq_false]
  intro q
  exact h (V.bl.inj q)
theorem hZ:iL X (compareOp .Eq) (F_ fun i j=> .bl (decide (i=j))):=by
 intro pins s σ H x y v u Q I rx ry h
 obtain ⟨a,b,rfl,rfl,q⟩:=h
 exact Cy pins s σ H _ _ v u Q I rx ry ⟨rfl,by rw[ON];exact q⟩
def UB (g:Bool->Bool->V):R2:=fun x y H Q=> ∃i j,x= .bl i/\y= .bl j/\Q (g i j) H
theorem Kc:iL X (compareOp .Eq) (UB fun i j=> .bl (decide (i=j))):=by
 intro pins s σ H x y v u Q I rx ry h
 obtain ⟨a,b,rfl,rfl,q⟩:=h
 exact Cy pins s σ H _ _ v u Q I rx ry ⟨rfl,by rw[IC];exact q⟩
theorem Kd:iL X (compareOp .NotEq) (UB fun i j=> .bl (!decide (i=j))):=by
 intro pins s σ H x y v u Q I rx ry h
 obtain ⟨a,b,rfl,rfl,q⟩:=h
 exact Iq pins s σ H _ _ v u Q I rx ry ⟨rfl,by rw[IC];exact q⟩
def SF (f:List Nat->List Nat->Bool):R2:=fun x y H Q=> ∃a b,x= .str (S a)/\y= .str (S b)/\Q (.bl (f a b)) H
theorem sR:iL X (compareOp .Lt) (SF fun a b=>decide (a<b)):=by
 intro pins s σ H x y v u Q I rx ry h
 obtain ⟨a,b,rfl,rfl,q⟩:=h
 exact AR pins s σ H _ _ v u Q I rx ry ⟨S a,S b,rfl,rfl,by rw[eR,eR];exact q⟩
end
section
variable {X:Cx} {tg:Expr}
theorem bu (K:PySem.W.Frag) (h:X.K=K):JO X (Oo K):=by subst h;exact Gi
theorem bJ (K:PySem.W.Frag) (h:X.K=K):JO X (Oq K):=by subst h;exact JP
def OO (K:PySem.W.Frag):List V->Hp->VK->Prop:=fun xs H Q=> ∃p ys,xs=[.ref p]/\(bD K H p ys\/cR K H p ys)/\Q (.int ys.length) H
theorem bI (K:PySem.W.Frag) (h:X.K=K):dh X (.builtin "len") (OO K):=by subst h;exact sL
theorem f_ (K:PySem.W.Frag) (h:X.K=K):zB X "str.join" (CP K):=by subst h;exact CQ
def OP (K:PySem.W.Frag):List V->Hp->VK->Prop:=fun xs H Q=> ∃(p:Addr) (bs:List Bool),xs=[.ref p]/\bD K H p (bs.map V.bl)/\Q (.bl (bs.all id)) H
theorem Bb (K:PySem.W.Frag) (h:X.K=K) (hc:X.calm=true):dh X (.builtin "all") (OP K):=by subst h;exact Ba hc
def GA (K:PySem.W.Frag):List V->Hp->VK->Prop:=fun xs H Q=> ∃p ys,xs=[.ref p]/\(bD K H p ys\/cR K H p ys)/\ ∀l,H l=none->Q (.ref l) (upd H l (.lst ys))
theorem qu (K:PySem.W.Frag) (h:X.K=K):dh X (.type "list") (GA K):=by subst h;exact sN
theorem vh (K:PySem.W.Frag) (h:X.K=K):Qx X (Ou K):=by subst h;exact Gj
theorem fA (K:PySem.W.Frag) (h:X.K=K) {l:Expr} {tl:TE} (hl:PE X l tl):PI X tg l (Ip K tl):=by subst h;exact FY hl
theorem ju (K:PySem.W.Frag) (h:X.K=K) {l:Expr} {tl:TE} (hl:PE X l tl):PI X tg l (N4 K tl):=by subst h;exact JC hl
end
section
variable {X:Cx} {o e:Expr} {es:List Expr} {to:TE} {t:TA} {name:Str} {apos fX:Pos} {T id:String} {r:V->List V->Hp->VK->Prop}
theorem fi (K:PySem.W.Frag) (hK:X.K=K) (pa:PlainAttrs T) (slot:Slot T name id) (JU:typeOf (.builtin id)=pure (.type "method_descriptor")) (hm:zB X id r) (ho:PE X o to)
  (kE:attributeBase o name X.env (eval o X.env)=eval o X.env:=by rfl) (jJ:(apos.endLine==fX.line)=true:=by rfl):PE X (.Call (.Attribute o name apos) [] [] fX) (Ov K T r to):=by
 subst hK
 exact JT pa slot JU hm ho kE jJ
theorem bE (K:PySem.W.Frag) (hK:X.K=K) (pa:PlainAttrs T) (slot:Slot T name id) (JU:typeOf (.builtin id)=pure (.type "method_descriptor")) (hm:zB X id r) (ho:PE X o to) (ha:PA X (e::es) t)
  (kE:attributeBase o name X.env (eval o X.env)=eval o X.env:=by rfl)
  (CF:((backTo fX (starEach (e::es) X.env)).all (fun x=>!x.1)&&(backToKw fX (keywordEach [] X.env)).all (fun x=>x.1.isSome)
   &&decide ((e::es).length+([]:List Keyword).length+(if ([]:List Keyword).isEmpty then 0 else 1)<30))=true:=by rfl)
  (jJ:(apos.endLine==fX.line)=true:=by rfl) (hs:starEach (e::es) X.env=(false,eval e X.env)::starEach es X.env:=by rfl) (xJ:(backTo fX (starEach es X.env)).any (·.1)=false:=by rfl):
  PE X (.Call (.Attribute o name apos) (e::es) [] fX) (Ul K T r to t):=by
 subst hK
 exact Ow pa slot JU hm ho ha kE CF jJ hs xJ
end
section
variable {X:Cx} {pins:List (Addr×Obj)} {σ:St} {H:Hp} {s:Shared}
end
section
variable {X:Cx}
def OQ (K:PySem.W.Frag) (ta:TE):TT:=fun σ H Q=>ta σ H fun x H'=> ∃p xs,x= .ref p/\bD K H' p xs/\Q (!xs.isEmpty) H'
theorem GB {a:Expr} {ta:TE} (K:PySem.W.Frag) (h:X.K=K) (ha:PE X a ta) (he: ∀whole,isTrue a X.env whole=(do let v <-whole;standAt a.pos;holding [v] (truthy v)):=by intro _;rfl):PT X a (OQ K ta):=by
 subst h
 intro pins s σ H Q I hw
 refine isTrue_plain (cx (ha pins s σ H _ I hw) fun v s1 ⟨x,H1,I1,r1,q1⟩=>?_) (he _)
 obtain ⟨p,xs,rfl,hq,q⟩:=q1
 exact JI pins s1 σ H1 _ v Q I1 r1 ⟨_, .inl ⟨xs,hq,rfl⟩,q⟩
theorem fj (K:PySem.W.Frag) (h:X.K=K) {es:List Expr} {k:Nat} {t:Fs} {n:Nat} {pos:Pos} (hc:X.calm=true) (hs:LZ X es t)
  (hn:(assignEach es X.env).length=n:=by rfl) (jH:(assignEach es X.env).findIdx? (·.1)=none:=by rfl):PG X (.Tuple es k pos) (N2 K n t):=by
 subst h
 exact Jz hc hs hn jH
end
noncomputable def cZ (a b:List Nat):List Nat:=if b<a then b else a
noncomputable def cw:List Nat->List (List Nat)->List Nat
 | a,[]=>a
 | a,b::r=>cw (cZ a b) r
theorem argBest_lt (bt:Nat->Nat->Bool): ∀n,argBest bt n<=n
 | 0=>Ur _
 | n+1=>by
  unfold argBest
  split
  ·exact Ur _
  ·exact Nat.le_succ_of_le (argBest_lt bt n)
section
variable {X:Cx}
end
section
variable {X:Cx}
theorem Ke (K:PySem.W.Frag) (h:X.K=K):iL X (compareOp .In) (Qy K false):=by subst h;exact A4
theorem GC (K:PySem.W.Frag) (h:X.K=K):iL X (compareOp .NotIn) (Qy K true):=by subst h;exact sJ
end
noncomputable def dQ (n:Nat) (l:List Nat):List Nat:=(List.replicate n l).flatten
theorem eS (n:Nat) (l:List Nat):dQ (n+1) l=l++dQ n l:=by unfold dQ;rw[Qda,Qbk]
theorem xY (n:Nat) (l:List Nat):dQ (n+1) l=dQ n l++l:=by unfold dQ;rw[List.replicate_succ',List.flatten_append,Qbk,List.flatten_nil,Z7]
theorem vm (n:Nat) (l:List Nat):(dQ n l).length=n*l.length:=by
 induction n with
 | zero=>simp[dQ]
 | succ n ih=>rw[eS,L5,ih,Qb2,Qdm]
theorem q8 (l:List Nat): ∀(n:Nat) (acc:Array Nat),((List.replicate n (S l).cps).foldl (· ++ ·) acc).toList=acc.toList++dQ n l
 | 0,acc=>by simp[dQ]
 | n+1,acc=>by
  rw[Qda,Qcc,q8 l n,eS]
  simp[S]
def OR:R2:=fun x y H Q=> ∃(l:List Nat) (i:Int),x= .str (S l)/\y= .int i/\(0<=i/\i<=1000000)/\l.length*i.toNat<=sizeLine/\Q (.str (S (dQ i.toNat l))) H
theorem sS {X:Cx}:iL X (binaryOp .Mult) OR:=by
 intro pins s σ H x y v u Q I rx ry h
 obtain ⟨l,i,rfl,rfl,⟨h0,h1⟩,hz,q⟩:=h
 obtain ⟨t,rfl⟩:=rx
 obtain ⟨t',rfl⟩:=ry
 have hn:=eQ
 have SG:(S l).length=l.length:=cu l
 have SH:(l.length:Int)*i<=2 ^ 63 - 1:=by
  have e:((l.length*i.toNat:Nat):Int)=(l.length:Int)*i:=by rw[Qd2,Int.toNat_of_nonneg h0]
  have:((l.length*i.toNat:Nat):Int)<=(sizeLine:Int):=by exact_mod_cast hz
  rw[<-e];omega
 refine P.mul_str (x:=S l) (n:=i) (t:=t) (u:=t') (by
  have e1:decide (i< -(2 ^ 63:Int))=false:=decide_eq_false (by omega)
  have e2:decide (i ≥ 2 ^ 63)=false:=decide_eq_false (by omega)
  rw[e1,e2];rfl) (fun z _=>?_) (fun z _=>?_) ?_
 ·rw[SG]
  have:(l.length:Int)<=(2 ^ 63 - 1) / i:=(Int.le_ediv_iff_mul_le (by omega)).mpr SH
  omega
 ·rw[SG]
  show Builtin.Str.tooLong _=false
  unfold Builtin.Str.tooLong
  exact decide_eq_false (by omega)
 ·by_cases z:i<1
  ·rw[if_pos z]
   have e:i.toNat=0:=by omega
   rw[e]at q
   exact ⟨by decide, .str _,H,I.tok _,⟨_,rfl⟩,q⟩
  ·rw[if_neg z]
   by_cases z2:(i==1||(S l).length==0)=true
   ·rw[if_pos z2]
    have e:dQ i.toNat l=l:=by
     rcases Bool.or_eq_true _ _ |>.mp z2 with e | e
     ·have e:i=1:=by simpa using e
      subst e
      show dQ 1 l=l
      rw[eS];simp[dQ]
     ·have e:l.length=0:=by rw[SG]at e;simpa using e
      have e:l=[]:=Qar.mp e
      subst e
      unfold dQ
      simp
    rw[e]at q
    exact ⟨.str _,H,I,⟨_,rfl⟩,q⟩
   ·rw[if_neg z2]
    have e:(⟨(List.replicate i.toNat (S l).cps).foldl (· ++ ·) #[]⟩:Str)=S (dQ i.toNat l):=by
     have:=q8 l i.toNat #[]
     show _=(⟨(dQ i.toNat l).toArray⟩:Str)
     congr 1
     apply Qcs.mp
     rw[this]
     simp
    rw[e]
    refine ⟨?_, .str _,H,I.tok _,⟨_,rfl⟩,q⟩
    rw[cu,vm,Qa6]
    exact hz
section
variable {X:Cx}
theorem GD:iL X (compareOp .IsNot) (fun x y H Q=> ∃c d,x= .bl c/\y= .bl d/\Q (.bl (c != d)) H):=by
 intro pins s σ H x y v u Q I rx ry h
 obtain ⟨c,d,rfl,rfl,q⟩:=h
 cases rx
 cases ry
 exact isnot_bool ⟨.bl _,H,I,rfl,q⟩
end
section
variable {X:Cx} {pins:List (Addr×Obj)} {σ:St} {H:Hp} {s:Shared} {h':Heap}
theorem Inv.oM {t':Nat} {ch:List Addr} {T:Addr} {ob:HO} (I:Inv X pins σ H s) (k: ∀b o,b∉ch->s.heap.get? b=some o->h'.get? b=some o) (hf: ∀b∈ch,m9 X pins H b)
  (hT:s.heap.objs.size<=T) (new:cb X.prog X.w (upd H T ob) h' T ob):Inv X pins σ (upd H T ob) { s with heap:=h',toks:=t' }:=by
 have hn:=I.b6.fresh hT
 have Il: ∀b u,H b=some u->b∉ch:=fun b u e z=>by rw[(hf b z).1]at e;cases e
 have neT: ∀b o,s.heap.get? b=some o->b≠T:=fun b o e z=>absurd (ZE (Zr e) hT) (by rw[z];exact ZS _)
 refine I.step (g':=s.gens) (d':=s.drawn) (ch:=ch) (fun b hb=>?_) (fun b o _ _ hc e _=>k b o hc e) (fun b o _ _ hc e _=>⟨o.slots,k b o hc e⟩) (fun b o _ e n=>by rw[aD (neT b o e)];exact n)
  (fun b o hc e=>⟨o,k b o hc e⟩) (fun b xs e=>by rw[aD (aB e hn)];exact e) (fun b o u e=>by rw[aD (aB e hn)];exact e) (fun b ps e=>⟨#[],by rw[aD (aB e hn),e];simp⟩) (fun m hm=>?_) (fun b u e=>?_) I.bare
 ·obtain ⟨_,h2,_,h4,h5,h6⟩:=hf b hb
  exact ⟨h4,h2,h5,h6⟩
 ·obtain ⟨o,es,ep,ho,r⟩:=hm
  exact ⟨o,es,ep,k _ o (fun z=>(hf _ z).2.1 rfl) ho,r⟩
 ·by_cases hb:b=T
  ·subst hb;rw[ah]at e;cases e;exact new
  ·rw[aD hb]at e
   refine (I.b6 b u e).uX (fun c v hc q=>k c v ?_ q) (fun c q=>by rw[aD (aB q hn)];exact q) fun c xs q=>by rw[aD (aB q hn)];exact q
   rcases hc with z | z
   ·rw[z];exact Il b u e
   ·exact Il c _ z
theorem Inv.sU {t':Nat} {ch:List Addr} (I:Inv X pins σ H s) (k: ∀b o,b∉ch->s.heap.get? b=some o->h'.get? b=some o) (hf: ∀b∈ch,m9 X pins H b):Inv X pins σ H { s with heap:=h',toks:=t' }:=by
 have Il: ∀b u,H b=some u->b∉ch:=fun b u e z=>by rw[(hf b z).1]at e;cases e
 refine I.step (g':=s.gens) (d':=s.drawn) (ch:=ch) (fun b hb=>?_) (fun b o _ _ hc e _=>k b o hc e) (fun b o _ _ hc e _=>⟨o.slots,k b o hc e⟩) (fun b o _ e n=>n)
  (fun b o hc e=>⟨o,k b o hc e⟩) (fun b xs e=>e) (fun b o u e=>e) (fun b ps e=>⟨#[],by rw[e];simp⟩) (fun m hm=>?_) (fun b u e=>?_) I.bare
 ·obtain ⟨_,h2,_,h4,h5,h6⟩:=hf b hb
  exact ⟨h4,h2,h5,h6⟩
 ·obtain ⟨o,es,ep,ho,r⟩:=hm
  exact ⟨o,es,ep,k _ o (fun z=>(hf _ z).2.1 rfl) ho,r⟩
 ·refine (I.b6 b u e).uX (fun c v hc q=>k c v ?_ q) (fun c q=>q) fun c xs q=>q
  rcases hc with z | z
  ·rw[z];exact Il b u e
  ·exact Il c _ z
end
noncomputable def OS (l:List Nat):It:=⟨fun i _=>i<l.length,fun i H x H'=> ∃T c,l[i]? =some c/\x= .ref T/\H T=none/\H'=upd H T (.tup [.int i, .str (S [c])]),fun i _=>l.length<=i⟩
theorem q9 {prog:Program} {w:World} {A:Around} (hh:A.handled=none) (it:Addr) (x:Str) (t:Tok):
  Draws prog w A it [it] x.cps.size (fun i v=> ∃c u,x.cps[i]? =some c/\v= .str ⟨#[c]⟩ u) (fun i h=>h.IsStrIter it (strIterType x) x t i):=by
 by_cases ha:x.cps.all (· <128)=true
 ·have et:strIterType x="str_ascii_iterator":=by unfold strIterType;rw[if_pos ha]
  rw[et];exact Draws.strAscii hh it x t
 ·have et:strIterType x="str_iterator":=by unfold strIterType;rw[if_neg ha]
  rw[et];exact Draws.strWide hh it x t
theorem xZ {P:Program} {w:World} {K:PySem.W.Frag} {elts:List Expr} {k:Nat} {pos:Pos} (e it:Addr) (zE:e≠it) (l:List Nat) (t:Tok):
  Turn P w K (.Tuple elts k pos) (OS l) [e,it] e (fun i h=>i<=l.length/\(∃old,IsEnum h e it i old)/\h.IsStrIter it (strIterType (S l)) (S l) t i) where
 mem:=by simp
 obj:=fun i h st b hb=>by
  obtain ⟨_,⟨old,he⟩,o,ho,hc,hd⟩:=st
  rcases Wj.mp hb with z | z
  ·rw[z];exact ⟨_,he,fun v z=>by cases z⟩
  ·rw[Wg.mp z];exact ⟨o,ho,fun v z=>by rw[hd]at z;cases z⟩
 keep:=fun i h h' st kp=>by
  obtain ⟨h1,⟨old,he⟩,o,ho,r⟩:=st
  exact ⟨h1,⟨old,kp e (by simp) _ he⟩,o,kp it (by simp) o ho,r⟩
 item:=by
  intro X hP hw hK hc i pins s σ H E I hf st hg
  subst hP hw hK
  obtain ⟨_,xc,w_⟩:=st
  have D:=q9 (prog:=X.prog) (w:=X.w) (A:=X.A.in1) (I.ok.hd hc) it (S l) t
  have W:=WalksT.enumerateD D e zE (by simpa using zE) (by simp)
  have hi:i<(S l).cps.size:=by rw[lW];exact hg
  refine W.item i s _ _ hi ⟨xc,w_⟩ fun T vals h' tk OT hT CZ vn hk=>⟨_,rfl,?_⟩
  refine W.go elts k pos i T { s with heap:=h',toks:=tk } _ _ vn fun h2 vp sV=>?_
  obtain ⟨tt,x,⟨c,u,SI,rfl⟩,rfl⟩:=OT
  have ID:T∉[e,it]:=W.apart i T h' vn
  have vq:h2.IsTuple T #[.int i tt, .str ⟨#[c]⟩ u]:=by
   obtain ⟨o,ho,r⟩:=CZ
   exact ⟨o,sV T o ID ho,r⟩
  have hl:l[i]? =some c:=by simpa [S]using SI
  refine ⟨.ref T,upd H T (.tup [.int i, .str (S [c])]),?_,rfl,⟨T,c,hl,rfl,I.b6.fresh hT,rfl⟩,⟨hg,vp.1,vp.2⟩,fun b hb=>?_⟩
  ·refine I.oM (t':=tk) (h':=h2) (fun b o hb y=>sV b o hb (hk b o hb y)) hf hT ?_
   exact ⟨by show 2<=sizeLine;decide,[.int i tt, .str ⟨#[c]⟩ u], .cons ⟨tt,rfl⟩ (.cons ⟨u,rfl⟩ .nil),vq⟩
  ·rw[aD (fun z:b=T=>ID (z▸hb))];exact (hf b hb).1
 done:=by
  intro X hP hw hK hc i pins s σ H E I hf st hg
  subst hP hw hK
  obtain ⟨h1,xc,w_⟩:=st
  have e1:i=l.length:=Qd0 h1 hg
  have D:=q9 (prog:=X.prog) (w:=X.w) (A:=X.A.in1) (I.ok.hd hc) it (S l) t
  have W:=WalksT.enumerateD D e zE (by simpa using zE) (by simp)
  refine W.done s _ _ ?_ fun h' tk hk=>⟨rfl,I.sU (t':=tk) hk hf⟩
  rw[lW, <-e1]
  exact ⟨xc,w_⟩
 self:=fun _ _ s _ _ st h=>by
  obtain ⟨_,⟨old,he⟩,_⟩:=st
  exact wpAny_pyIter_enum he h
def Kf (ta:TA):TI:=fun σ H R=>ta σ H fun vs H1=> ∃l,vs=[.str (S l)]/\R (OS l) H1
theorem C0 {X:Cx} {elts:List Expr} {k:Nat} {pos':Pos} {a:Expr} {ta:TA} {p pos:Pos} (hg:Gl X "enumerate") (hm:X.mg "enumerate"=none) (ha:PA X [a] ta) (hs:starEach [a] X.env=[(false,eval a X.env)]:=by rfl):PI X (.Tuple elts k pos') (.Call (.Name "enumerate" p) [a] [] pos) (Kf ta):=by
 intro pins s σ H R I h
 refine Call_ (fV I hg hm boot_enumerate (Z4 (cx (ha pos pins s σ H _ I h) fun us s1 ⟨vs,H1,I1,r1,q1⟩=>?_) hs rfl))
 obtain ⟨l,rfl,q⟩:=q1
 obtain ⟨u,rfl,t,rfl⟩:=vals1 r1
 refine call_enumerate_str fun h' he hit hsz hk=>?_
 refine wpAny_pyIter_enum he ?_
 refine ⟨s1.heap.objs.size+1,[s1.heap.objs.size+1,s1.heap.objs.size],_,_,H1,rfl,I1.kept (t':=s1.toks) hk,xZ _ _ (Qco _) l t,⟨YU _,⟨_,he⟩,hit⟩,fun b hb=>?_,q⟩
 have jN:s1.heap.objs.size<=b:=by
  rcases Wj.mp hb with z | z
  ·rw[z];exact Qa0 _
  ·rw[Wg.mp z];exact Ur _
 exact I1.oq jN (I1.b6.fresh jN)
theorem C1 {l:List Nat} {g:TG} {tb:TS} {D:Ends} {σ:St} {H:Hp} (Pv:Nat->St->Hp->Prop) (h0:Pv 0 σ H)
  (hs: ∀i c σ H T,l[i]? =some c->Pv i σ H->H T=none->g (.ref T) σ (upd H T (.tup [.int i, .str (S [c])])) fun σ2 H2=>tb { D with nx:=Pv (i+1),ct:=Pv (i+1),bk:=D.nx } σ2 H2) (hd: ∀σ H,Pv l.length σ H->D.nx σ H):
  ∃W:Nat->Nat->St->Hp->Prop,(∃m,W 0 m σ H)/\ ∀i m σ H,W i m σ H->
   ((OS l).stop i H/\D.nx σ H)\/((OS l).go i H/\ ∃N:St->Hp->Prop,(∀σ' H',N σ' H'-> ∃m',m'<m/\W (i+1) m' σ' H')/\ ∀x H',(OS l).Cg i H x H'->g x σ H' fun σ2 H2=>tb { D with nx:=N,ct:=N,bk:=D.nx } σ2 H2):=by
 refine ⟨fun i m σ H=>m=l.length - i/\i<=l.length/\Pv i σ H,⟨l.length,by simp,YU _,h0⟩,?_⟩
 rintro i m σ H ⟨rfl,hi,p⟩
 by_cases cC:i<l.length
 ·refine .inr ⟨cC,Pv (i+1),fun σ' H' p'=>⟨l.length - (i+1),by omega,rfl,cC,p'⟩,fun x H' y=>?_⟩
  obtain ⟨T,c,hc,rfl,hn,rfl⟩:=y
  exact hs i c σ _ T hc p hn
 ·have e:i=l.length:=by omega
  subst e
  exact .inl ⟨Ur _,hd σ H p⟩
section
variable {X:Cx}
theorem GF {ls:List (List Nat)}: ∀{aO:List Value},Vals (ls.map fun l=>V.str (S l)) aO->StrsAre aO (ls.map S):=by
 induction ls with
 | nil=>intro aO r;cases r;exact .nil
 | cons l ls ih=>
  intro aO r
  cases r with
  | cons r1 r2=>
   obtain ⟨t,rfl⟩:=r1
   exact .cons _ t (ih r2)
theorem zF: ∀{aO:List Value} {ss:List Str},StrsAre aO ss->Vals ((ss.map fun x=>x.cps.toList).map fun l=>V.str (S l)) aO
 | _,_, .nil=> .nil
 | _,_, .cons x t h=> .cons ⟨t,by rw[<-OH]⟩ (zF h)
theorem q_: ∀(p:Str) (r:List Str),risingS p r=true->(p::r).Pairwise fun a b=> ¬b.cps.toList<a.cps.toList
 | p,[],_=>List.pairwise_singleton _ _
 | p,x::r,h=>by
  have h':(!ltCps x.cps.toList p.cps.toList&&risingS x r)=true:=h
  rw[Z8,ltCps_eq]at h'
  have h1: ¬x.cps.toList<p.cps.toList:=by simpa using h'.1
  have ih:=q_ x r h'.2
  refine Qa3.mpr ⟨fun y hy=>?_,ih⟩
  rcases Wj.mp hy with z | z
  ·rw[z];exact h1
  ·exact List.le_trans (show p.cps.toList<=x.cps.toList from h1) (show x.cps.toList<=y.cps.toList from List.rel_of_pairwise_cons ih z)
theorem Bc {ss:List Str} (h:sortedS ss=true):(ss.map fun x=>x.cps.toList).Pairwise fun a b=> ¬b<a:=by
 rw[Qak]
 cases ss with
 | nil=>exact List.Pairwise.nil
 | cons x r=>exact q_ x r h
def Kg (K:PySem.W.Frag):List V->Hp->VK->Prop:=fun xs H Q=> ∃(p:Addr) (ls:List (List Nat)),xs=[.ref p]/\bD K H p (ls.map fun l=>V.str (S l))/\ls.length<64/\ ∀(q:Addr) (SJ:List (List Nat)),H q=none->SJ.Perm ls->(SJ.Pairwise fun a b=> ¬b<a)->Q (.ref q) (upd H q (.lst (SJ.map fun l=>V.str (S l))))
theorem sW (K:PySem.W.Frag) (h:X.K=K):dh X (.builtin "sorted") (Kg K):=by
 subst h
 intro pins s σ H xs us Q I r h
 obtain ⟨p,ls,rfl,hq,hn,q⟩:=h
 obtain ⟨u,rfl,ru⟩:=vals1 r
 cases ru
 obtain ⟨aO,rv,pl,hz⟩:=I.list hq
 have hlen:aO.length=ls.length:=by rw[<-rv.length,Us]
 refine sorted_strs (l:=p) (vs:=aO) (ss:=ls.map S) pl.isList (GF rv) (by omega) fun out Cm h1 h2 h3=>?_
 obtain ⟨e,he⟩:=sortedAll_at s.heap aO out
 have vv:(Cm.map fun x=>x.cps.toList).Perm ls:=by
  have:=h2.map fun x:Str=>x.cps.toList
  rw[Z_]at this
  have e2:ls.map ((fun x:Str=>x.cps.toList) ∘ S)=ls:=by
   have: ∀l∈ls,((fun x:Str=>x.cps.toList) ∘ S) l=l:=fun l _=>eR l
   calc ls.map _=ls.map id:=Qcd this
    _=ls:=Qdz ls
  rwa [e2]at this
 have xN:=vv.length_eq
 have Ws:(64:Nat)<sizeLine:=by decide
 have GG:((Cm.map fun x=>x.cps.toList).map fun l=>V.str (S l)).length<=sizeLine:=by rw[Us,xN];omega
 refine ⟨.ref (s.heap.objs.size+1),_,I.laid (t':=s.toks) (a:=s.heap.objs.size+1) (o:= .lst ((Cm.map fun x=>x.cps.toList).map fun l=>V.str (S l))) (fun b o e=>sortedAll_old e) (Qa0 _) ⟨GG,out.toList,e,zF h1,by simpa [seqObj]using he⟩,rfl,q _ _ (I.b6.fresh (Qa0 _)) vv (Bc h3)⟩
end
section
variable {X:Cx}
theorem GH {ls:List (List Nat)} {l:List Nat} (h:ls.Perm (l.map fun c=>[c])): ∃l':List Nat,ls=l'.map (fun c=>[c])/\l'.Perm l:=by
 refine ⟨ls.flatten,?_,?_⟩
 ·have hs: ∀x∈ls, ∃c,x=[c]:=fun x hx=>by
   obtain ⟨c,_,e⟩:=ZJ.mp (h.mem_iff.mp hx)
   exact ⟨c,e.symm⟩
  clear h
  induction ls with
  | nil=>rfl
  | cons x ls ih=>
   obtain ⟨c,rfl⟩:=hs x Wi
   rw[Qbk,Zn, <-ih fun y hy=>hs y (Uq _ hy)]
   rfl
 ·have:=h.flatten
  have e:(l.map fun c=>[c]).flatten=l:=by
   clear h this
   induction l with
   | nil=>rfl
   | cons c l ih=>rw[ZC,Qbk,ih];rfl
  rwa [e]at this
theorem GI {l:List Nat} (h:(l.map fun c=>[c]).Pairwise fun a b=> ¬b<a):l.Pairwise fun a b=>a<=b:=by
 rw[Qak]at h
 refine h.imp fun {a b} z=>?_
 by_cases y:a<=b
 ·exact y
 ·exact absurd (Qc5.mpr (.inl (by omega))) z
end
section
variable {X:Cx}
end
section
variable {prog:Program} {w:World} {A:Around} {E:Value->Shared->Prop} {s:Shared}
theorem x3 {it tp:Addr} {j:Nat} {xs:Array Value} {y:Value} {Q:Value->Shared->Prop} (hi:s.heap.IsTupleIter it tp j) (ht:s.heap.IsTuple tp xs) (hy:xs[j]? =some y)
  (q: ∀h2,h2.IsTupleIter it tp (j+1)->Heap.SameBut it s.heap h2->Q y { s with heap:=h2 }):wpAny (model prog w) A (Builtin.SmallTypes.nextOf (.ref it)) Q E s:=by
 obtain ⟨oi,eo,ec,ed⟩:=id hi
 obtain ⟨ot,et,_,nt,dt⟩:=ht
 unfold Builtin.SmallTypes.nextOf
 refine wpAny_bind (wpAny_callSpecial?_slot (name:=Str.ofString "__next__") hi.typeIs F.slot_tuple_iterator_next (wpAny_call_entry F.slot_tuple_iterator_next hi.typeIs F.entry_tuple_iterator_next ?_ (F.args_tuple_iterator_next_1 _)))
 refine wpAny_bind (m:=field (.ref it) 0) (wpAny_field eo ed (x:= .ref tp) rfl ?_)
 show wpAny (model prog w) _ (if (Value.ref tp==Value.none)=true then _ else _) _ E s
 rw[if_neg (show ¬(Value.ref tp==Value.none)=true from Zw)]
 refine wpAny_bind (m:=field (.ref it) 1) (wpAny_field eo ed (x:= .int j 0) rfl ?_)
 refine wpAny_bind (m:=seqItems? (.ref tp)) (wpAny_seqItems et dt ?_)
 simp only[YT,hy]
 refine wpAny_bind (wpAny_setField eo ed (by simp) (wpAny_pure ⟨y,rfl,wpAny_pure (q _ ⟨_,Z9 _ eo (Obj.isFreed_of_fields (Obj.data_mapFields ed _)),(Obj.cls_mapFields ..).trans ec,by rw[Obj.data_mapFields ed];simp[rawInt]⟩ (Qdy ..))⟩))
theorem Bd {it tp:Addr} {j:Nat} {xs:Array Value} {Q:Value->Shared->Prop} (hh:A.handled=none) (hi:s.heap.IsTupleIter it tp j) (ht:s.heap.IsTuple tp xs) (hy:xs[j]? =none)
  (q: ∀h2 e,Heap.ExtBut it s.heap h2->(∃o,h2.get? e=some o/\o.cls= .type "StopIteration")->E (.ref e) { s with heap:=h2 }):wpAny (model prog w) A (Builtin.SmallTypes.nextOf (.ref it)) Q E s:=by
 obtain ⟨oi,eo,ec,ed⟩:=id hi
 obtain ⟨ot,et,_,nt,dt⟩:=ht
 unfold Builtin.SmallTypes.nextOf
 refine wpAny_bind (wpAny_callSpecial?_slot (name:=Str.ofString "__next__") hi.typeIs F.slot_tuple_iterator_next (wpAny_call_entry F.slot_tuple_iterator_next hi.typeIs F.entry_tuple_iterator_next ?_ (F.args_tuple_iterator_next_1 _)))
 refine wpAny_bind (m:=field (.ref it) 0) (wpAny_field eo ed (x:= .ref tp) rfl ?_)
 show wpAny (model prog w) _ (if (Value.ref tp==Value.none)=true then _ else _) _ E s
 rw[if_neg (show ¬(Value.ref tp==Value.none)=true from Zw)]
 refine wpAny_bind (m:=field (.ref it) 1) (wpAny_field eo ed (x:= .int j 0) rfl ?_)
 refine wpAny_bind (m:=seqItems? (.ref tp)) (wpAny_seqItems et dt ?_)
 simp only[YT,hy]
 refine wpAny_bind (wpAny_rule (wpAny_bind (wpAny_setField eo ed (by simp) ?_)))
 refine wpAny_bind (m:=newExc (.type "StopIteration") []) ?_
 simp only[newExc,newTuple]
 refine wpAny_bind (wpAny_newObj_type (wpAny_bind (m:=firstArgMember _ _) (wpAny_of_eq (a:=Value.none) (by first | rfl | (simp only[firstArgMember];rfl)) (wpAny_newObj_type ?_ (by size_fits)))) (by size_fits))
 simp only[raiseNew]
 refine wpAny_bind (wpAny_handled ?_);first | rw[show A.in1.handled=none from hh] | rw[hh]
 exact wpAny_bind (wpAny_pure (wpAny_throw (q _ _ (((Qdy ..).extBut.push _).push _) ⟨_,Zq _ rfl,rfl⟩)))
theorem mU (hh:A.handled=none) (it tp:Addr) (ne:tp≠it) (xs:Array Value):
  Draws prog w A it [it,tp] xs.size (fun i v=>xs[i]? =some v) (fun i h=>h.IsTupleIter it tp i/\h.IsTuple tp xs) where
 live:=fun _ _ z=>let ⟨o,e,_⟩:=z.1;⟨o,e⟩
 frame:=fun _ _ _ z k=>by
  obtain ⟨⟨o,e,r⟩,o2,e2,r2⟩:=z
  exact ⟨⟨o,k it (by simp) o e,r⟩,o2,k tp (by simp) o2 e2,r2⟩
 item:=fun i s Q E hi z q=>x3 z.1 z.2 (y:=xs[i]) (by simp[hi]) fun h2 z2 sb=>q _ h2 s.toks (by simp[hi]) ⟨z2,z.2.extBut sb.extBut ne⟩ sb
 done:=fun s Q E z q=>Bd hh z.1 z.2 (by simp) q
theorem vw (l:Addr) (items:Array Value) (n:Nat) (SK:Option Addr) (sl:Array (Option Value)):
  Meets (Builtin.«enumerate.__new__» ⟨[.type "enumerate", .ref l],[]⟩) (fun _ R s=>s.heap.get? l=some { cls:= .type "tuple",dict:=SK,data:= .seq items n,slots:=sl }/\
   R (.ok (.ret (.ref (s.heap.push { cls:= .type "tuple_iterator",data:= .fields #[.ref l, .int 0 0] }).objs.size)))
    { s with heap:=(s.heap.push { cls:= .type "tuple_iterator",data:= .fields #[.ref l, .int 0 0] }).push { cls:= .type "enumerate",data:= .fields #[.none, .bool false, .ref s.heap.objs.size,rawInt 0, .none, .none] } }):=
 .of_wp fun prog w A R s h=>by
  obtain ⟨hp,g,d,tk,os⟩:=s;obtain ⟨hl,q⟩:=h;have SM:=sub_enumerate
  have hT:Heap.IsTuple (Shared.heap ⟨hp,g,d,tk,os⟩) l items:=⟨_,hl,rfl,n,rfl⟩
  wp_walk using AutoSeq1.wpAny_loadPart' hl
  refine wpAny_stack_any fun st=>wpAny_pure ?_
  split
  ·rename_i c _ _ _ _ _
   cases (c==Value.type "enumerate")<;>(wp_walk using AutoSeq1.wpAny_loadPart' hl,wpAny_pyIter_tuple hT;exact ⟨_,rfl,q⟩)
  ·wp_walk using AutoSeq1.wpAny_loadPart' hl,wpAny_pyIter_tuple hT
   exact ⟨_,rfl,q⟩
theorem x4 {l:Addr} {items:Array Value} {Q:Value->Shared->Prop} (hL:s.heap.IsTuple l items)
  (h: ∀h',IsEnum h' (s.heap.objs.size+1) s.heap.objs.size 0 .none->h'.IsTupleIter s.heap.objs.size l 0->(∀b o,s.heap.get? b=some o->h'.get? b=some o)->Q (.ref (s.heap.objs.size+1)) { s with heap:=h' }):
  wpAny (model prog w) A (call (.type "enumerate") [.ref l]) Q E s:=by
 obtain ⟨⟨c,SK,dt,sl⟩,hl,hc,n,hd⟩:=hL
 cases (show c= .type "tuple" from hc)
 cases (show dt= .seq items n from hd)
 refine callType_new F.called_enumerate (by decide) (F.typeCall_enumerate_1 _) (F.newCall_enumerate_1 _) (fun ob=>F.args_object_init_2 ob _) F.entry_enumerate_new (vw l items n SK sl) ⟨hl,?_⟩
 have hz:(s.heap.push { cls:= .type "tuple_iterator",data:= .fields #[.ref l, .int 0 0] }).objs.size=s.heap.objs.size+1:=Qbw ..
 show _/\_
 rw[hz]
 have he:IsEnum ((s.heap.push { cls:= .type "tuple_iterator",data:= .fields #[.ref l, .int 0 0] }).push { cls:= .type "enumerate",data:= .fields #[.none, .bool false, .ref s.heap.objs.size,rawInt 0, .none, .none] }) (s.heap.objs.size+1) s.heap.objs.size 0 .none:=by
  have:=Zq (s.heap.push { cls:= .type "tuple_iterator",data:= .fields #[.ref l, .int 0 0] }) (o:={ cls:= .type "enumerate",data:= .fields #[.none, .bool false, .ref s.heap.objs.size,rawInt 0, .none, .none] }) rfl
  rwa [hz]at this
 exact ⟨⟨_,he,rfl⟩,h _ he ⟨_,QC _ (Zq _ rfl),rfl,rfl⟩ fun b o x=>QC _ (QC _ x)⟩
end
noncomputable def C2 (K:PySem.W.Frag) (a:Addr):It:=⟨fun i H=> ∃xs x,cR K H a xs/\xs[i]? =some x,fun i H x H'=> ∃T y,(∀xs,cR K H a xs->xs[i]? =some y)/\x= .ref T/\H T=none/\H'=upd H T (.tup [.int i,y]),fun i H=> ∃xs,cR K H a xs/\xs.length=i⟩
noncomputable def C3 (K:PySem.W.Frag) (a:Addr):It:=⟨fun i H=> ∃xs x,bD K H a xs/\xs[i]? =some x,fun i H x H'=> ∃T y,(∀xs,bD K H a xs->xs[i]? =some y)/\x= .ref T/\H T=none/\H'=upd H T (.tup [.int i,y]),fun i H=> ∃xs,bD K H a xs/\xs.length=i⟩
theorem x5 {P:Program} {w:World} {K:PySem.W.Frag} {elts:List Expr} {k:Nat} {pos:Pos} (e it a:Addr) (zE:e≠it) (OU:a≠e) (OV:a≠it):
  Turn P w K (.Tuple elts k pos) (C2 K a) [e,it] e (fun i h=>(∃old,IsEnum h e it i old)/\h.IsTupleIter it a i) where
 mem:=by simp
 obj:=fun i h st b hb=>by
  obtain ⟨⟨old,he⟩,o,ho,hc,hd⟩:=st
  rcases Wj.mp hb with z | z
  ·rw[z];exact ⟨_,he,fun v z=>by cases z⟩
  ·rw[Wg.mp z];exact ⟨o,ho,fun v z=>by rw[hd]at z;cases z⟩
 keep:=fun i h h' st kp=>by
  obtain ⟨⟨old,he⟩,o,ho,r⟩:=st
  exact ⟨⟨old,kp e (by simp) _ he⟩,o,kp it (by simp) o ho,r⟩
 item:=by
  intro X hP hw hK hc i pins s σ H E I hf st hg
  subst hP hw hK
  obtain ⟨xc,w_⟩:=st
  obtain ⟨xs,x,hq,hx⟩:=hg
  obtain ⟨aO,rv,p,hz⟩:=I.tuple hq
  obtain ⟨u0,hu,ru⟩:=rv.get hx
  have D:=mU (prog:=X.prog) (w:=X.w) (A:=X.A.in1) (I.ok.hd hc) it a OV aO.toArray
  have W:=WalksT.enumerateD D e zE (by simp;exact ⟨zE,Ne.symm OU⟩) (by simp)
  have SN:i<aO.toArray.size:=by rw[Wl];exact (J1.mp hu).1
  refine W.item i s _ _ SN ⟨xc,w_,p⟩ fun T vals h' tk OT hT CZ vn hk=>⟨_,rfl,?_⟩
  refine W.go elts k pos i T { s with heap:=h',toks:=tk } _ _ vn fun h2 vp sV=>?_
  obtain ⟨tt,x2,OW,rfl⟩:=OT
  have ex:x2=u0:=by
   rw[List.getElem?_toArray]at OW
   exact YS (OW.symm.trans hu)
  subst ex
  have ID:T∉[e,it]:=W.apart i T h' vn
  have vq:h2.IsTuple T #[.int i tt,x2]:=by
   obtain ⟨o,ho,r⟩:=CZ
   exact ⟨o,sV T o ID ho,r⟩
  refine ⟨.ref T,upd H T (.tup [.int i,x]),?_,rfl,⟨T,x,fun ys hy=>by rw[I.qM hy hq];exact hx,rfl,I.b6.fresh hT,rfl⟩,⟨vp.1,vp.2.1⟩,fun b hb=>?_⟩
  ·refine I.oM (t':=tk) (h':=h2) (fun b o hb y=>sV b o hb (hk b o hb y)) hf hT ?_
   exact ⟨by show 2<=sizeLine;decide,[.int i tt,x2], .cons ⟨tt,rfl⟩ (.cons ru .nil),vq⟩
  ·rw[aD (fun z:b=T=>ID (z▸hb))];exact (hf b hb).1
 done:=by
  intro X hP hw hK hc i pins s σ H E I hf st hg
  subst hP hw hK
  obtain ⟨xc,w_⟩:=st
  obtain ⟨xs,hq,hx⟩:=hg
  obtain ⟨aO,rv,p,hz⟩:=I.tuple hq
  have hl:=rv.length
  have D:=mU (prog:=X.prog) (w:=X.w) (A:=X.A.in1) (I.ok.hd hc) it a OV aO.toArray
  have W:=WalksT.enumerateD D e zE (by simp;exact ⟨zE,Ne.symm OU⟩) (by simp)
  refine W.done s _ _ ?_ fun h' tk hk=>⟨rfl,I.sU (t':=tk) hk hf⟩
  have e1:aO.toArray.size=i:=by rw[Wl];omega
  rw[e1]
  exact ⟨xc,w_,p⟩
 self:=fun _ _ s _ _ st h=>by
  obtain ⟨⟨old,he⟩,_⟩:=st
  exact wpAny_pyIter_enum he h
theorem x6 {P:Program} {w:World} {K:PySem.W.Frag} {elts:List Expr} {k:Nat} {pos:Pos} (e it a:Addr) (zE:e≠it) (OU:a≠e) (OV:a≠it):
  Turn P w K (.Tuple elts k pos) (C3 K a) [e,it] e (fun i h=>(∃old,IsEnum h e it i old)/\h.IsListIter it a i) where
 mem:=by simp
 obj:=fun i h st b hb=>by
  obtain ⟨⟨old,he⟩,o,ho,hc,hd⟩:=st
  rcases Wj.mp hb with z | z
  ·rw[z];exact ⟨_,he,fun v z=>by cases z⟩
  ·rw[Wg.mp z];exact ⟨o,ho,fun v z=>by rw[hd]at z;cases z⟩
 keep:=fun i h h' st kp=>by
  obtain ⟨⟨old,he⟩,o,ho,r⟩:=st
  exact ⟨⟨old,kp e (by simp) _ he⟩,o,kp it (by simp) o ho,r⟩
 item:=by
  intro X hP hw hK hc i pins s σ H E I hf st hg
  subst hP hw hK
  obtain ⟨xc,w_⟩:=st
  obtain ⟨xs,x,hq,hx⟩:=hg
  obtain ⟨aO,rv,p,hz⟩:=I.list hq
  obtain ⟨u0,hu,ru⟩:=rv.get hx
  have D:=Draws.list (prog:=X.prog) (w:=X.w) (A:=X.A.in1) (I.ok.hd hc) it a OV aO.toArray
  have W:=WalksT.enumerateD D e zE (by simp;exact ⟨zE,Ne.symm OU⟩) (by simp)
  have SN:i<aO.toArray.size:=by rw[Wl];exact (J1.mp hu).1
  refine W.item i s _ _ SN ⟨xc,w_,p.isList⟩ fun T vals h' tk OT hT CZ vn hk=>⟨_,rfl,?_⟩
  refine W.go elts k pos i T { s with heap:=h',toks:=tk } _ _ vn fun h2 vp sV=>?_
  obtain ⟨tt,x2,OW,rfl⟩:=OT
  have ex:x2=u0:=by
   rw[List.getElem?_toArray]at OW
   exact YS (OW.symm.trans hu)
  subst ex
  have ID:T∉[e,it]:=W.apart i T h' vn
  have vq:h2.IsTuple T #[.int i tt,x2]:=by
   obtain ⟨o,ho,r⟩:=CZ
   exact ⟨o,sV T o ID ho,r⟩
  refine ⟨.ref T,upd H T (.tup [.int i,x]),?_,rfl,⟨T,x,fun ys hy=>by rw[I.uZ hy hq];exact hx,rfl,I.b6.fresh hT,rfl⟩,⟨vp.1,vp.2.1⟩,fun b hb=>?_⟩
  ·refine I.oM (t':=tk) (h':=h2) (fun b o hb y=>sV b o hb (hk b o hb y)) hf hT ?_
   exact ⟨by show 2<=sizeLine;decide,[.int i tt,x2], .cons ⟨tt,rfl⟩ (.cons ru .nil),vq⟩
  ·rw[aD (fun z:b=T=>ID (z▸hb))];exact (hf b hb).1
 done:=by
  intro X hP hw hK hc i pins s σ H E I hf st hg
  subst hP hw hK
  obtain ⟨xc,w_⟩:=st
  obtain ⟨xs,hq,hx⟩:=hg
  obtain ⟨aO,rv,p,hz⟩:=I.list hq
  have hl:=rv.length
  have D:=Draws.list (prog:=X.prog) (w:=X.w) (A:=X.A.in1) (I.ok.hd hc) it a OV aO.toArray
  have W:=WalksT.enumerateD D e zE (by simp;exact ⟨zE,Ne.symm OU⟩) (by simp)
  refine W.done s _ _ ?_ fun h' tk hk=>⟨rfl,I.sU (t':=tk) hk hf⟩
  have e1:aO.toArray.size=i:=by rw[Wl];omega
  rw[e1]
  exact ⟨xc,w_,p.isList⟩
 self:=fun _ _ s _ _ st h=>by
  obtain ⟨⟨old,he⟩,_⟩:=st
  exact wpAny_pyIter_enum he h
def Kh (K:PySem.W.Frag) (ta:TA):TI:=fun σ H R=>ta σ H fun vs H1=> ∃a,vs=[.ref a]/\(∃xs,cR K H1 a xs)/\R (C2 K a) H1
def Ki (K:PySem.W.Frag) (ta:TA):TI:=fun σ H R=>ta σ H fun vs H1=> ∃a,vs=[.ref a]/\(∃xs,bD K H1 a xs)/\R (C3 K a) H1
theorem vx {X:Cx} (K:PySem.W.Frag) (hK:X.K=K) {elts:List Expr} {k:Nat} {pos':Pos} {a:Expr} {ta:TA} {p pos:Pos} (hg:Gl X "enumerate") (hm:X.mg "enumerate"=none) (ha:PA X [a] ta) (hs:starEach [a] X.env=[(false,eval a X.env)]:=by rfl):PI X (.Tuple elts k pos') (.Call (.Name "enumerate" p) [a] [] pos) (Kh K ta):=by
 subst hK
 intro pins s σ H R I h
 refine Call_ (fV I hg hm boot_enumerate (Z4 (cx (ha pos pins s σ H _ I h) fun us s1 ⟨vs,H1,I1,r1,q1⟩=>?_) hs rfl))
 obtain ⟨b,rfl,⟨xs,hq⟩,q⟩:=q1
 obtain ⟨u,rfl,ru⟩:=vals1 r1
 cases ru
 obtain ⟨aO,rv,pl,hz⟩:=I1.tuple hq
 obtain ⟨ob,eb,_⟩:=id pl
 have cC:b<s1.heap.objs.size:=Zr eb
 refine x4 pl fun h' he hit hk=>wpAny_pyIter_enum he ?_
 refine ⟨s1.heap.objs.size+1,[s1.heap.objs.size+1,s1.heap.objs.size],_,_,H1,rfl,I1.kept (t':=s1.toks) hk,x5 _ _ b (Qco _) (Zu (Qa7 cC)) (Zu cC),⟨⟨_,he⟩,hit⟩,fun c hb=>?_,q⟩
 have jN:s1.heap.objs.size<=c:=by
  rcases Wj.mp hb with z | z
  ·rw[z];exact Qa0 _
  ·rw[Wg.mp z];exact Ur _
 exact I1.oq jN (I1.b6.fresh jN)
theorem C5 {X:Cx} (K:PySem.W.Frag) (hK:X.K=K) {elts:List Expr} {k:Nat} {pos':Pos} {a:Expr} {ta:TA} {p pos:Pos} (hg:Gl X "enumerate") (hm:X.mg "enumerate"=none) (ha:PA X [a] ta) (hs:starEach [a] X.env=[(false,eval a X.env)]:=by rfl):PI X (.Tuple elts k pos') (.Call (.Name "enumerate" p) [a] [] pos) (Ki K ta):=by
 subst hK
 intro pins s σ H R I h
 refine Call_ (fV I hg hm boot_enumerate (Z4 (cx (ha pos pins s σ H _ I h) fun us s1 ⟨vs,H1,I1,r1,q1⟩=>?_) hs rfl))
 obtain ⟨b,rfl,⟨xs,hq⟩,q⟩:=q1
 obtain ⟨u,rfl,ru⟩:=vals1 r1
 cases ru
 obtain ⟨aO,rv,pl,hz⟩:=I1.list hq
 obtain ⟨ob,eb,_⟩:=id pl.isList
 have cC:b<s1.heap.objs.size:=Zr eb
 refine call_enumerate_list pl.isList fun h' he hit hsz hk=>wpAny_pyIter_enum he ?_
 refine ⟨s1.heap.objs.size+1,[s1.heap.objs.size+1,s1.heap.objs.size],_,_,H1,rfl,I1.kept (t':=s1.toks) hk,x6 _ _ b (Qco _) (Zu (Qa7 cC)) (Zu cC),⟨⟨_,he⟩,hit⟩,fun c hb=>?_,q⟩
 have jN:s1.heap.objs.size<=c:=by
  rcases Wj.mp hb with z | z
  ·rw[z];exact Qa0 _
  ·rw[Wg.mp z];exact Ur _
 exact I1.oq jN (I1.b6.fresh jN)
theorem rh {K:PySem.W.Frag} {a:Addr} {xs:List V} {g:TG} {tb:TS} {D:Ends} {σ:St} {H:Hp} (Pv:Nat->St->Hp->Prop) (h0:Pv 0 σ H) (hl: ∀i σ H,i<=xs.length->Pv i σ H->cR K H a xs)
  (hs: ∀i x σ H T,xs[i]? =some x->Pv i σ H->H T=none->g (.ref T) σ (upd H T (.tup [.int i,x])) fun σ2 H2=>tb { D with nx:=Pv (i+1),ct:=Pv (i+1),bk:=D.nx } σ2 H2) (hd: ∀σ H,Pv xs.length σ H->D.nx σ H):
  ∃W:Nat->Nat->St->Hp->Prop,(∃m,W 0 m σ H)/\ ∀i m σ H,W i m σ H->
   ((C2 K a).stop i H/\D.nx σ H)\/((C2 K a).go i H/\ ∃N:St->Hp->Prop,(∀σ' H',N σ' H'-> ∃m',m'<m/\W (i+1) m' σ' H')/\ ∀x H',(C2 K a).Cg i H x H'->g x σ H' fun σ2 H2=>tb { D with nx:=N,ct:=N,bk:=D.nx } σ2 H2):=by
 refine ⟨fun i m σ H=>m=xs.length - i/\i<=xs.length/\Pv i σ H,⟨xs.length,by simp,YU _,h0⟩,?_⟩
 rintro i m σ H ⟨rfl,hi,p⟩
 have hq:=hl i σ H hi p
 by_cases cC:i<xs.length
 ·refine .inr ⟨⟨xs,xs[i],hq,by simp[cC]⟩,Pv (i+1),fun σ' H' p'=>⟨xs.length - (i+1),by omega,rfl,cC,p'⟩,fun x H' y=>?_⟩
  obtain ⟨T,z,hz,rfl,hn,rfl⟩:=y
  exact hs i z σ _ T (hz xs hq) p hn
 ·have e:i=xs.length:=by omega
  subst e
  exact .inl ⟨⟨xs,hq,rfl⟩,hd σ H p⟩
theorem Be {K:PySem.W.Frag} {a:Addr} {xs:List V} {g:TG} {tb:TS} {D:Ends} {σ:St} {H:Hp} (Pv:Nat->St->Hp->Prop) (h0:Pv 0 σ H) (hl: ∀i σ H,i<=xs.length->Pv i σ H->bD K H a xs)
  (hs: ∀i x σ H T,xs[i]? =some x->Pv i σ H->H T=none->g (.ref T) σ (upd H T (.tup [.int i,x])) fun σ2 H2=>tb { D with nx:=Pv (i+1),ct:=Pv (i+1),bk:=D.nx } σ2 H2) (hd: ∀σ H,Pv xs.length σ H->D.nx σ H):
  ∃W:Nat->Nat->St->Hp->Prop,(∃m,W 0 m σ H)/\ ∀i m σ H,W i m σ H->
   ((C3 K a).stop i H/\D.nx σ H)\/((C3 K a).go i H/\ ∃N:St->Hp->Prop,(∀σ' H',N σ' H'-> ∃m',m'<m/\W (i+1) m' σ' H')/\ ∀x H',(C3 K a).Cg i H x H'->g x σ H' fun σ2 H2=>tb { D with nx:=N,ct:=N,bk:=D.nx } σ2 H2):=by
 refine ⟨fun i m σ H=>m=xs.length - i/\i<=xs.length/\Pv i σ H,⟨xs.length,by simp,YU _,h0⟩,?_⟩
 rintro i m σ H ⟨rfl,hi,p⟩
 have hq:=hl i σ H hi p
 by_cases cC:i<xs.length
 ·refine .inr ⟨⟨xs,xs[i],hq,by simp[cC]⟩,Pv (i+1),fun σ' H' p'=>⟨xs.length - (i+1),by omega,rfl,cC,p'⟩,fun x H' y=>?_⟩
  obtain ⟨T,z,hz,rfl,hn,rfl⟩:=y
  exact hs i z σ _ T (hz xs hq) p hn
 ·have e:i=xs.length:=by omega
  subst e
  exact .inl ⟨⟨xs,hq,rfl⟩,hd σ H p⟩
section
variable {X:Cx}
end
section
variable {X:Cx}
def Kj (K:PySem.W.Frag):List V->Hp->VK->Prop:=fun xs H Q=> ∃p ys,xs=[.ref p]/\((bD K H p ys/\ ∀l,H l=none->Q (.ref l) (upd H l (.tup ys)))\/(cR K H p ys/\Q (.ref p) H))
theorem gc (K:PySem.W.Frag) (h:X.K=K):dh X (.type "tuple") (Kj K):=by subst h;exact qq
end
theorem kN {K:PySem.W.Frag} {a:Addr} {xs:List V} {σc:St} {g:TG} {tc:TT} {te:TE} {Q:VK} {H1:Hp} (Pv:Nat->List V->Hp->Prop) (hn:xs.length<sizeLine) (hl: ∀i acc H,Pv i acc H->cR K H a xs) (h0:Pv 0 [] H1)
  (hs: ∀(i:Nat) (x:V) (acc:List V) (H:Hp) (Nx:List V->Hp->Prop),i<xs.length->xs[i]? =some x->acc.length<=i->Pv i acc H->(∀cB H',cB.length<=i+1->Pv (i+1) cB H'->Nx cB H')->
   g x σc H fun σ2 H2=>Wk σc σ2/\tc σ2 H2 fun b H3=>if b=true then te σ2 H3 fun v H4=>Nx (acc++[v]) H4 else Nx acc H3)
  (hd: ∀acc H D,acc.length<=xs.length->Pv xs.length acc H->H D=none->Q (.ref D) (upd H D (.lst acc))):qW (L3 K a) σc g tc te Q H1:=
 nN (xs:=fun i x=>xs[i]? =some x) Pv hn (fun i acc H h p=>⟨xs,xs[i],hl i acc H p,by simp[h]⟩) (fun acc H p=>⟨xs,hl _ acc H p,Ur _⟩) (fun i acc H x H' h p y=>⟨y.1,y.2 xs (hl i acc H p)⟩) h0 hs hd
theorem GJ (l a b:Nat):A3 (.str (S [l])) [.str (S [a]), .str (S [b])]=(decide (l=a)||decide (l=b)):=by
 have key: ∀c:Nat,CD (.str (S [c])) (.str (S [l]))=decide (l=c):=fun c=>by
  show decide (S [c]=S [l])=_
  refine decide_eq_decide.mpr ⟨fun z=>?_,fun z=>by rw[z]⟩
  have:=congrArg (fun x:Str=>x.cps.toList) z
  simpa [S,eq_comm]using this
 unfold A3
 rw[Qa1,Qa1,List.any_nil,key,key,Qb7]
def fL (H H':Hp):Prop:= ∀c xs,H c=some (.tup xs)->H' c=some (.tup xs)
theorem fL.trans {H H1 H2:Hp} (a:fL H H1) (b:fL H1 H2):fL H H2:=fun c xs h=>b c xs (a c xs h)
theorem fL.of {H H':Hp} (s:ar H H'):fL H H':=fun c xs h=>s c _ h
theorem fL.vy {H:Hp} {p:Addr} {ys:List V} {o:HO} (h:H p=some (.lst ys)):fL H (upd H p o):=fun c xs e=>by
 rw[aD (fun z=>by rw[z,h]at e;cases e)];exact e
section
variable {prog:Program} {w:World} {A:Around} {E:Value->Shared->Prop} {s:Shared}
end
section
variable {X:Cx}
end
section
variable {prog:Program} {w:World} {A:Around} {E:Value->Shared->Prop} {s:Shared}
noncomputable def bL:List Int->List Int->Bool
 | [],[]=>false
 | [],_::_=>true
 | _::_,[]=>false
 | a::r,b::t=>if a=b then bL r t else decide (a<b)
end
section
variable {X:Cx}
end
end L2
namespace HT
open PySem PySem.Spec PyProof.Rows
section
variable {prog:Program} {w:World} {A:Around} {E:Value->Shared->Prop} {s:Shared}
end
end HT
namespace L2
open PySem PySem.Spec PyProof.Rows
section
variable {X:Cx} {e st:Expr} {te:TE} {ts:TO} {pos p2:Pos}
end
section
variable {κ:Type} [DecidableEq κ]
noncomputable def dG (aT:List (κ×V)) (k:κ):Option V:=(aT.find? fun kv=>decide (kv.1=k)).map (·.2)
noncomputable def putK (aT:List (κ×V)) (k:κ) (v:V):List (κ×V):=
 if (aT.any fun kv=>decide (kv.1=k))=true then aT.map (fun kv=>if kv.1=k then (kv.1,v) else kv) else aT++[(k,v)]
theorem cT {p:κ×V} {r:List (κ×V)} {k:κ} (e:p.1=k):dG (p::r) k=some p.2:=by simp[dG,Qa5,e]
theorem cF {p:κ×V} {r:List (κ×V)} {k:κ} (e: ¬p.1=k):dG (p::r) k=dG r k:=by simp[dG,Qa5,e]
theorem i0 (k:κ): ∀aT:List (κ×V),(aT.any fun kv=>decide (kv.1=k))=(dG aT k).isSome
 | []=>rfl
 | p::r=>by
  rw[Qa1]
  by_cases e:p.1=k
  ·simp only[cT e,decide_eq_true e,Bool.true_or,Option.isSome_some]
  ·rw[cF e,decide_eq_false e,Qdh];exact i0 k r
theorem vz (k j:κ) (y:V): ∀aT:List (κ×V),dG (aT.map fun kv=>if kv.1=k then (kv.1,y) else kv) j=(dG aT j).map fun x=>if j=k then y else x
 | []=>rfl
 | p::r=>by
  have ih:=vz k j y r
  rw[ZC]
  by_cases h:p.1=k
  ·rw[if_pos h]
   by_cases e:p.1=j
   ·rw[cT (p:=(p.1,y)) e,cT e,Qc0,if_pos (e.symm.trans h)]
   ·rw[cF (p:=(p.1,y)) e,cF e,ih]
  ·rw[if_neg h]
   by_cases e:p.1=j
   ·rw[cT (p:=p) e,cT e,Qc0,if_neg (fun z=>h (e.trans z))]
   ·rw[cF (p:=p) e,cF e,ih]
theorem rj (k j:κ) (y:V): ∀aT:List (κ×V),dG aT k=none->dG (aT++[(k,y)]) j=if j=k then some y else dG aT j
 | [],_=>by
  by_cases e:k=j
  ·rw[if_pos e.symm];exact cT (p:=(k,y)) e
  ·rw[if_neg (fun z=>e z.symm)];exact cF (p:=(k,y)) e
 | p::r,hn=>by
  rw[Qdx]
  have hk: ¬p.1=k:=fun z=>by rw[cT z]at hn;cases hn
  rw[cF hk]at hn
  have ih:=rj k j y r hn
  by_cases e:p.1=j
  ·rw[cT e,cT e,if_neg (fun z=>hk (e.trans z))]
  ·rw[cF e,cF e,ih]
theorem C6 (aT:List (κ×V)) (k j:κ) (y:V):dG (putK aT k y) j=if j=k then some y else dG aT j:=by
 unfold putK
 by_cases a:(aT.any fun kv=>decide (kv.1=k))=true
 ·rw[if_pos a,vz]
  rw[i0]at a
  by_cases e:j=k
  ·obtain ⟨x,hx⟩:=Option.isSome_iff_exists.mp a
   rw[if_pos e,e,hx,Qc0,if_pos rfl]
  ·rw[if_neg e]
   cases dG aT j with
   | none=>rfl
   | some x=>rw[Qc0,if_neg e]
 ·rw[if_neg a]
  refine rj k j y aT ?_
  rw[i0]at a
  cases q:dG aT k with
  | none=>rfl
  | some x=>rw[q]at a;exact (a rfl).elim
theorem gA (aT:List (κ×V)) (k:κ) (v:V):(putK aT k v).length<=aT.length+1:=by
 unfold putK
 split
 ·rw[Us];omega
 ·rw[L5,ZM,List.length_nil];omega
theorem vA {aT:List (κ×V)} {k:κ} (v:V) (h:dG aT k=none):putK aT k v=aT++[(k,v)]:=by
 unfold putK
 rw[i0,h]
 exact if_neg (by decide)
theorem lR.Bf {o:Option V} {u:Option Value} (r:lR o u):o.isSome=u.isSome:=by
 cases o with
 | none=>cases u with
  | none=>rfl
  | some _=>exact (show False from r).elim
 | some _=>cases u with
  | none=>exact (show False from r).elim
  | some _=>rfl
theorem KV.val {aT:List (κ×V)} {vs:List (κ×Value)} (r:KV aT vs) (k:κ):lR (dG aT k) (valueAt vs k):=by
 unfold KV at r
 induction r with
 | nil=>exact True.intro
 | @cons p q ps qs h t ih=>
  obtain ⟨h1,h2⟩:=h
  by_cases e:p.1=k
  ·have e':q.1=k:=h1.symm.trans e
   have b:valueAt (q::qs) k=some q.2:=by simp[valueAt,Qa5,e']
   rw[cT e,b];exact h2
  ·have e': ¬q.1=k:=fun z=>e (h1.trans z)
   have b:valueAt (q::qs) k=valueAt qs k:=by simp[valueAt,Qa5,e']
   rw[cF e,b];exact ih
theorem KV.any {aT:List (κ×V)} {vs:List (κ×Value)} (r:KV aT vs) (k:κ):(aT.any fun kv=>decide (kv.1=k))=vs.any fun kv=>decide (kv.1=k):=by
 unfold KV at r
 induction r with
 | nil=>rfl
 | cons h t ih=>rw[Qa1,Qa1,ih,h.1]
theorem KV.Kk {aT:List (κ×V)} {vs:List (κ×Value)} (r:KV aT vs) (k:κ) {y:V} {u:Value} (ry:RelV y u):
  KV (aT.map fun kv=>if kv.1=k then (kv.1,y) else kv) (vs.map fun kv=>if kv.1=k then (kv.1,u) else kv):=by
 unfold KV at r ⊢
 induction r with
 | nil=>exact .nil
 | @cons p q ps qs h t ih=>
  rw[ZC,ZC]
  refine .cons ?_ ih
  obtain ⟨h1,h2⟩:=h
  by_cases e:p.1=k
  ·rw[if_pos e,if_pos (h1.symm.trans e)];exact ⟨h1,ry⟩
  ·rw[if_neg e,if_neg (fun z=>e (h1.trans z))];exact ⟨h1,h2⟩
theorem KV.put {aT:List (κ×V)} {vs:List (κ×Value)} (r:KV aT vs) (k:κ) {y:V} {u:Value} (ry:RelV y u):KV (putK aT k y) (stored vs k u):=by
 unfold putK stored
 rw[r.any k]
 by_cases e:(vs.any fun kv=>decide (kv.1=k))=true
 ·rw[if_pos e,if_pos e];exact r.Kk k ry
 ·rw[if_neg e,if_neg e];exact Paired.snoc r ⟨rfl,ry⟩
theorem KV.length {aT:List (κ×V)} {vs:List (κ×Value)} (r:KV aT vs):aT.length=vs.length:=Paired.length r
end
theorem C7 {P:Program} {w:World} {k:Key} {u:Value} (r:RelV (kV k) u):(cI P w).is k u=true:=by
 cases k with
 | inl i=>obtain ⟨t,e⟩:=(show ∃t,u=Value.int i t from r);subst e;exact uV P w i t
 | inr x=>obtain ⟨t,e⟩:=(show ∃t,u=Value.str x t from r);subst e;exact uW P w x t
theorem rk {P:Program} {w:World}: ∀{ks:List Key} {us:List Value},Vals (ks.map kV) us->ItemsAre (cI P w) ks us
 | [],_,r=>by rw[List.map_nil]at r;cases r;exact .nil
 | k::ks,_,r=>by
  rw[ZC]at r
  cases r with
  | cons h t=>exact .cons (C7 h) (rk t)
abbrev KT (H:Hp):List (List Key×V)->List (List Key×Addr×Value)->Prop:=Paired fun p q=>p.1=q.1/\H q.2.1=some (.tup (p.1.map kV))/\RelV p.2 q.2.2
theorem KT.val {H:Hp} {aT:List (List Key×V)} {xs:List (List Key×Addr×Value)} (r:KT H aT xs) (k:List Key):lR (dG aT k) ((atKey xs k).map (·.2)):=by
 induction r with
 | nil=>exact True.intro
 | @cons p q ps qs h t ih=>
  obtain ⟨h1,_,h2⟩:=h
  by_cases e:p.1=k
  ·have e':q.1=k:=h1.symm.trans e
   have b:atKey (q::qs) k=some q.2:=by simp[atKey,Qa5,e']
   rw[cT e,b];exact h2
  ·have e': ¬q.1=k:=fun z=>e (h1.trans z)
   have b:atKey (q::qs) k=atKey qs k:=by simp[atKey,Qa5,e']
   rw[cF e,b];exact ih
theorem KT.Kk {H:Hp} {aT:List (List Key×V)} {xs:List (List Key×Addr×Value)} (r:KT H aT xs) (k:List Key) {y:V} {u:Value} (ry:RelV y u):
  KT H (aT.map fun kv=>if kv.1=k then (kv.1,y) else kv) (xs.map (putAt k u)):=by
 induction r with
 | nil=>exact .nil
 | @cons p q ps qs h t ih=>
  rw[ZC,ZC]
  refine .cons ?_ ih
  obtain ⟨h1,h2,h3⟩:=h
  unfold putAt
  by_cases e:p.1=k
  ·rw[if_pos e,if_pos (h1.symm.trans e)];exact ⟨h1,h2,ry⟩
  ·rw[if_neg e,if_neg (fun z=>e (h1.trans z))];exact ⟨h1,h2,h3⟩
theorem KT.put {H:Hp} {aT:List (List Key×V)} {xs:List (List Key×Addr×Value)} (r:KT H aT xs) (k:List Key) {b:Addr} {y:V} {u:Value} (hb:H b=some (.tup (k.map kV))) (ry:RelV y u):
  KT H (putK aT k y) (storedH xs k b u):=by
 have e:(aT.any fun kv=>decide (kv.1=k))=(atKey xs k).isSome:=by
  rw[i0,(r.val k).Bf,Option.isSome_map]
 unfold putK storedH
 rw[e]
 by_cases q:(atKey xs k).isSome=true
 ·rw[if_pos q,if_pos q];exact r.Kk k ry
 ·rw[if_neg q,if_neg q];exact Paired.snoc r ⟨rfl,hb,ry⟩
theorem KT.keeps {H H':Hp} {aT:List (List Key×V)} {xs:List (List Key×Addr×Value)} (r:KT H aT xs) (ht: ∀b ys,H b=some (.tup ys)->H' b=some (.tup ys)):KT H' aT xs:=
 Paired.Jo r fun _ _ z=>⟨z.1,ht _ _ z.2.1,z.2.2⟩
section
variable {P:Program} {w:World} {H:Hp} {h:Heap} {a:Addr}
theorem IE {u:HO} (ok:j4 P w H h) (e:Rd H a u):cb P w H h a u:=e.ok ok
theorem C8 {aT:List (Key×V)} (ok:j4 P w H h) (e:Rd H a (.dK aT)):aT.length<=sizeLine/\(a==sysModules)=false/\ ∃vs,KV aT vs/\h.DictOf (cI P w) a vs:=
 show cb P w H h a (.dK aT) from IE ok e
theorem OX {aT:List (Key×V)} (ok:j4 P w H h) (e:H a=some (.dK aT)):aT.length<=sizeLine/\(a==sysModules)=false/\ ∃vs,KV aT vs/\h.DictOf (cI P w) a vs:=C8 ok (.inl e)
theorem x8 {ks:List Key} (ok:j4 P w H h) (e:H a=some (.tup (ks.map kV))):(tupleKind (cI P w)).is h ks a:=by
 obtain ⟨_,aO,r,o,h1,h2,n,h3⟩:=(show cb P w H h a (.tup (ks.map kV)) from ok a _ e)
 exact ⟨o,aO.toArray,n,h1,h2,h3,by simpa using rk r⟩
theorem C9 {aT:List (List Key×V)} (ok:j4 P w H h) (e:Rd H a (.dT aT)):aT.length<=sizeLine/\(a==sysModules)=false/\
  ∃xs,KT H aT xs/\h.DictOfH (tupleKind (cI P w)) a xs:=by
 obtain ⟨z,y,xs,r,o,es,ep,h1,h2,h3,h4,h5⟩:=(show cb P w H h a (.dT aT) from IE ok e)
 refine ⟨z,y,xs,r,o,es,ep,h1,h2,h3,h4,fun x hx=>?_,h5⟩
 have all: ∀{l:List (List Key×V)} {m:List (List Key×Addr×Value)},KT H l m-> ∀x∈m,(tupleKind (cI P w)).is h x.1 x.2.1:=by
  intro l m q
  induction q with
  | nil=>intro x hx;exact nomatch hx
  | @cons p q ps qs hq t ih=>
   intro x hx
   rcases Wj.mp hx with e | hx
   ·subst e
    exact x8 ok (by rw[<-hq.1];exact hq.2.1)
   ·exact ih x hx
 exact all r x hx
theorem OY {aT:List (List Key×V)} (ok:j4 P w H h) (e:H a=some (.dT aT)):aT.length<=sizeLine/\(a==sysModules)=false/\
  ∃xs,KT H aT xs/\h.DictOfH (tupleKind (cI P w)) a xs:=C9 ok (.inl e)
end
def oN (H:Hp) (a:Addr) (y:V) (r:Option V):Prop:=
 (∃aT k,Rd H a (.dK aT)/\y=kV k/\r=dG aT k)\/ ∃aT k b,Rd H a (.dT aT)/\y= .ref b/\H b=some (.tup (k.map kV))/\r=dG aT k
def sX (H:Hp) (a:Addr) (y v:V) (H':Hp):Prop:=
 (∃aT k,H a=some (.dK aT)/\y=kV k/\aT.length<sizeLine/\H'=upd H a (.dK (putK aT k v)))\/
 ∃aT k b,H a=some (.dT aT)/\y= .ref b/\H b=some (.tup (k.map kV))/\aT.length<sizeLine/\H'=upd H a (.dT (putK aT k v))
theorem oN.k {H:Hp} {a:Addr} {aT:List (Key×V)} {k:Key} (e:H a=some (.dK aT)):oN H a (kV k) (dG aT k):= .inl ⟨aT,k, .inl e,rfl,rfl⟩
theorem oN.t {H:Hp} {a b:Addr} {aT:List (List Key×V)} {k:List Key} (e:H a=some (.dT aT)) (eb:H b=some (.tup (k.map kV))):oN H a (.ref b) (dG aT k):= .inr ⟨aT,k,b, .inl e,rfl,eb,rfl⟩
theorem sX.k {H:Hp} {a:Addr} {aT:List (Key×V)} {k:Key} {v:V} (e:H a=some (.dK aT)) (hl:aT.length<sizeLine):sX H a (kV k) v (upd H a (.dK (putK aT k v))):= .inl ⟨aT,k,e,rfl,hl,rfl⟩
theorem sX.t {H:Hp} {a b:Addr} {aT:List (List Key×V)} {k:List Key} {v:V} (e:H a=some (.dT aT)) (eb:H b=some (.tup (k.map kV))) (hl:aT.length<sizeLine):
  sX H a (.ref b) v (upd H a (.dT (putK aT k v))):= .inr ⟨aT,k,b,e,rfl,eb,hl,rfl⟩
section
variable {X:Cx} {pins:List (Addr×Obj)} {σ:St} {H:Hp} {s:Shared} {a:Addr} {y v:V} {u r:Value} {o:Option V} {A:Around} {E:Value->Shared->Prop}
theorem Inv.big (I:Inv X pins σ H s):sysModules<s.heap.objs.size:=by
 have h:mainGlobals<s.heap.objs.size:=(I.mod.glob.keeps I.bk).lt
 exact Qbo (by decide) h
theorem Bg {Q:Value->Shared->Prop} (hu:A.units+1<cLine) (I:Inv X pins σ H s) (g:oN H a y (some v)) (ry:RelV y u) (h: ∀w' s',Inv X pins σ H s'->RelV v w'->Q w' s'):
  wpAny (model X.prog X.w) A (getItem (.ref a) u) Q E s:=by
 rcases g with ⟨aT,k,e,ey,l⟩ | ⟨aT,k,b,e,ey,eb,l⟩
 ·subst ey
  obtain ⟨z,hd,vs,rel,dd⟩:=C8 I.b6 e
  obtain ⟨w',hw,qm⟩:=lR.some_of (v:=v) (o:=valueAt vs k) (by rw[l];exact rel.val k)
  exact wpAny_getItem_of (C7 ry) dd.mapOf hw (h w' _ (I.tok _) qm)
 ·subst ey
  cases (show u=Value.ref b from ry)
  obtain ⟨z,hd,xs,rel,dd⟩:=C9 I.b6 e
  obtain ⟨w',hw,qm⟩:=lR.some_of (v:=v) (o:=(atKey xs k).map (·.2)) (by rw[l];exact rel.val k)
  obtain ⟨p,hp,xf⟩:=Option.map_eq_some_iff.mp hw
  refine wpAny_getItem_heap (tupleKind_room_in1 hu) (x8 I.b6 eb) dd hp ?_
  rw[xf]
  exact h w' _ (I.tok _) qm
theorem zG {h':Heap} {t':Nat} {ob:HO} (I:Inv X pins σ H s) (mu:NN (H a)) (hs:Heap.SameBut a s.heap h') (he: ∃q,h'.get? a=some q) (new:cb X.prog X.w (upd H a ob) h' a ob):
  Inv X pins σ (upd H a ob) { s with heap:=h',toks:=t' }:=
 I.write (x:=a) (e:=a) mu (.inl rfl) (fun b q hb z=>(hs.2 b hb).trans z) he new
theorem Kl {P:Program} {w:World} {H':Hp} {h':Heap} {aT:List (Key×V)} {vs:List (Key×Value)} (z:aT.length<=sizeLine) (hd:(a==sysModules)=false) (rel:KV aT vs) (dd:h'.DictOf (cI P w) a vs):
  cb P w H' h' a (.dK aT):=⟨z,hd,vs,rel,dd⟩
theorem Bh {H':Hp} {Q:Unit->Shared->Prop} (hu:A.units+1<cLine) (I:Inv X pins σ H s) (g:sX H a y v H') (ry:RelV y u) (rv:RelV v r) (h: ∀s',Inv X pins σ H' s'->Q () s'):
  wpAny (model X.prog X.w) A (setItem (.ref a) u r) Q E s:=by
 rcases g with ⟨aT,k,e,ey,l,eH⟩ | ⟨aT,k,b,e,ey,eb,l,eH⟩
 ·subst ey eH
  obtain ⟨z,hd,vs,rel,dd⟩:=OX I.b6 e
  have hz:vs.length<=sizeLine:=by rw[<-rel.length];exact z
  have hl:(putK aT k v).length<=sizeLine:=by have:=gA aT k v;omega
  refine wpAny_setItem_pairs (hsz:=hz) (C7 ry) dd fun h' QE hs=>h _ ?_
  have he: ∃q,h'.get? a=some q:=let ⟨q,_,_,hq,_⟩:=QE;⟨q,hq⟩
  exact zG I (by rw[e];exact True.intro) hs he (Kl hl hd (rel.put k rv) QE)
 ·subst ey eH
  cases (show u=Value.ref b from ry)
  obtain ⟨z,hd,xs,rel,dd⟩:=OY I.b6 e
  have hz:xs.length<=sizeLine:=by rw[<-Paired.length rel];exact z
  have hl:(putK aT k v).length<=sizeLine:=by have:=gA aT k v;omega
  refine wpAny_setItem_heap (hsz:=hz) (tupleKind_room_in1 hu) (x8 I.b6 eb) dd fun h' QE hs=>h _ ?_
  obtain ⟨q,es,ep,hq,h2,h3,h4,_,h5⟩:=QE
  refine zG I (by rw[e];exact True.intro) hs ⟨q,hq⟩ ⟨hl,hd,_,(rel.put k eb rv).keeps fun c ys ec=>?_,q,es,ep,hq,h2,h3,h4,h5⟩
  rw[aD (NM ec e (fun z=>nomatch z))]
  exact ec
end
section
variable {X:Cx} {pins:List (Addr×Obj)} {σ:St} {H:Hp} {s:Shared} {a:Addr} {aT:List (Key×V)} {k:Key} {u:Value} {A:Around} {E:Value->Shared->Prop}
end
def OZ (i:Expr):Prop:= ∀ov iv,subscripted i false ov iv=operate [ov,iv] (getItem ov iv)
theorem GK {prog:Program} {w:World} {A:Around} {E:Value->Shared->Prop} {s:Shared} {env:Env} {value slice:Expr} {pos:Pos} {T id:String} {Q:Value->Shared->Prop}
  (hl:typeLookup (.type T) "__getitem__"=pure (some (.builtin id))) (hs:OZ slice)
  (h:wpAny (model prog w) A (eval value env) (fun o s₁=>wpAny (model prog w) A (eval slice env) (fun i s₂=>s₂.TypeIs o T/\wpAny (model prog w) A (getItem o i) Q E s₂) E s₁) E s):
  wpAny (model prog w) A (eval (.Subscript value slice pos) env) Q E s:=by
 refine Subscript_ (wpAny_mono h (fun o s₁ h₁=>wpAny_mono h₁ (fun i s₂ h₂=>?_) fun _ _ x=>x) fun _ _ x=>x)
 obtain ⟨hT,h₂⟩:=h₂
 unfold subscriptTail
 refine wpAny_bind ?_
 rw[getitemInPython_of_ne hT.not_modules]
 refine wpAny_bind (wpAny_specialOf hT hl ?_)
 have fin:wpAny (model prog w) A (subscripted slice false o i) (fun r s₃=>wpAny (model prog w) A (letTemporaryGo value o r >>= fun _=>pure r) Q E s₃) E s₂:=by
  rw[hs o i]
  exact wpAny_operating (wpAny_mono h₂ (fun r s₃ h₃=>wpAny_bind (wpAny_letTemporaryGo (wpAny_pure h₃))) fun _ _ x=>x)
 first
  | exact wpAny_pure (wpAny_bind fin)
  | exact wpAny_bind (wpAny_pure (wpAny_bind fin))
  | exact wpAny_bind fin
theorem vB {X:Cx} {pins:List (Addr×Obj)} {σ:St} {H:Hp} {s:Shared} {a:Addr} {y:V} {o:Option V} (I:Inv X pins σ H s) (g:oN H a y o):s.TypeIs (.ref a) "dict":=by
 rcases g with ⟨aT,k,e,_,_⟩ | ⟨aT,k,b,e,_,_,_⟩
 ·obtain ⟨_,_,vs,_,dd⟩:=C8 I.b6 e
  exact dd.typeIs
 ·obtain ⟨_,_,xs,_,dd⟩:=C9 I.b6 e
  exact dd.typeIs
def O0 (td ty:TE):TE:=fun σ H Q=>td σ H fun x H1=>ty σ H1 fun y H2=> ∃a v,x= .ref a/\oN H2 a y (some v)/\Q v H2
def O1 (td ty tv:TE):TS:=fun D σ H=>tv σ H fun v H1=>td σ H1 fun x H2=>ty σ H2 fun y H3=> ∃a H4,x= .ref a/\sX H3 a y v H4/\D.nx σ H4
section
variable {X:Cx} {o i e value:Expr} {pos pos' Oe:Pos} {td ty tv:TE}
theorem nP (hu:X.A.units+1<cLine) (ho:PE X o td) (hi:PE X i ty) (hs:OZ i):PE X (.Subscript o i pos) (O0 td ty):=by
 intro pins s σ H Q I h
 refine GK PySem.F.slot_dict_getitem.lookup hs (cx (ho pins s σ H _ I h) fun u s1 ⟨x,H1,I1,rx,q1⟩=>cx (hi pins s1 σ H1 _ I1 q1) fun iv s2 ⟨y,H2,I2,ry,a,v,ex,g,q2⟩=>?_)
 subst ex
 obtain rfl:u=Value.ref a:=rx
 exact ⟨vB I2 g,Bg hu I2 g ry fun w' s3 I3 qm=>⟨v,H2,I3,qm,q2⟩⟩
theorem sY (hu:X.A.units+1<cLine) (ho:PE X o td) (hi:PE X i ty) (hv:PE X value tv) (hs:swapsWith value (some (.Subscript o i pos')) pos.line X.env=pure false):
  PS X (.Assign [.Subscript o i pos'] value pos) (O1 td ty tv):=by
 intro pins s σ H D I h
 refine wpAny_Assign_Subscript (cx (hv pins s σ H _ I h) fun r s1 ⟨v,H1,I1,rv,q1⟩=>cx (ho pins s1 σ H1 _ I1 q1) fun u s2 ⟨x,H2,I2,rx,q2⟩=>cx (hi pins s2 σ H2 _ I2 q2) fun iv s3 ⟨y,H3,I3,ry,a,H4,ex,g,q3⟩=>?_) hs
 subst ex
 obtain rfl:u=Value.ref a:=rx
 exact Bh hu I3 g ry rv fun s4 I4=>⟨σ,H4,I4,q3⟩
end
theorem C_ {P:Program} {w:World} {H:Hp} (h:Heap) (hb:sysModules<h.objs.size):cb P w H (h.push { cls:= .type "dict",data:= .dict #[] }) h.objs.size (.dK []):=
 ⟨YU _,beq_eq_false_iff_ne.mpr (Ne.symm (Zu hb)),[], .nil,Heap.DictOf.new h⟩
theorem Dc {P:Program} {w:World} {H:Hp} (h:Heap) (hb:sysModules<h.objs.size):cb P w H (h.push { cls:= .type "dict",data:= .dict #[] }) h.objs.size (.dT []):=
 ⟨YU _,beq_eq_false_iff_ne.mpr (Ne.symm (Zu hb)),[], .nil,_, #[],0,Zq _ rfl,⟨rfl,rfl,rfl⟩,rfl,rfl,Qcg⟩
def Km:TE:=fun _ H Q=> ∀p,H p=none->Q (.ref p) (upd H p (.dK []))
def Kn:TE:=fun _ H Q=> ∀p,H p=none->Q (.ref p) (upd H p (.dT []))
section
variable {X:Cx} {pos:Pos}
theorem Dd:PE X (.Dict [] [] pos) Km:=fun pins s σ H Q I h=>
 wpAny_Dict_empty ⟨.ref s.heap.objs.size,_,I.laid (a:=s.heap.objs.size) (o:= .dK []) (t':=s.toks) (fun _ _ q=>QC _ q) (Ur _) (C_ s.heap I.big),rfl,h _ (I.b6.fresh (Ur _))⟩
theorem De:PE X (.Dict [] [] pos) Kn:=fun pins s σ H Q I h=>
 wpAny_Dict_empty ⟨.ref s.heap.objs.size,_,I.laid (a:=s.heap.objs.size) (o:= .dT []) (t':=s.toks) (fun _ _ q=>QC _ q) (Ur _) (Dc s.heap I.big),rfl,h _ (I.b6.fresh (Ur _))⟩
end
section
variable {X:Cx} {pins:List (Addr×Obj)} {σ:St} {H:Hp} {s:Shared} {a:Addr} {y d:V} {u r:Value} {o:Option V} {A:Around} {E:Value->Shared->Prop}
end
section
variable {X:Cx} {o e f:Expr} {apos fX:Pos} {td ty tx:TE}
end
section
variable {X:Cx} {pins:List (Addr×Obj)} {σ:St} {H:Hp} {s:Shared} {a:Addr} {aT:List (Key×V)} {A:Around} {E:Value->Shared->Prop}
end
section
variable {X:Cx} {pins:List (Addr×Obj)} {σ:St} {H:Hp} {s:Shared} {a:Addr} {y:V} {u:Value} {A:Around} {E:Value->Shared->Prop}
end
section
variable {prog:Program} {w:World} {A:Around} {E:Value->Shared->Prop} {s:Shared}
end
section
variable {X:Cx}
end
end L2
set_option maxHeartbeats 1000000
namespace L2
open PySem PySem.Spec PyProof.Rows
section
variable {prog:Program} {w:World} {KK:Type} [DecidableEq KK] {knd:KeyKind prog w KK}
end
section
variable {X:Cx}
end
end L2
set_option maxHeartbeats 1000000
namespace L2.F2
open PySem PySem.Spec PyProof.Rows
theorem jO:Slot "reversed" "__length_hint__" "reversed.__length_hint__":=
 .of (owner:="reversed") (n:="__length_hint__") (by rw[typeLookup_type,builtinLookup_eq_fast];kernel_rfl) (by decide+kernel) (by decide+kernel) (by decide+kernel)
  (by first | exact .inl (by decide+kernel) | exact .inr (by decide+kernel)) (by rw[isSubtype_type];kernel_rfl)
theorem oO:entryFor table "reversed.__length_hint__"=some Builtin.«reversed.__length_hint__» :=entryFor_of_tree (by kernel_rfl)
theorem nh (a:Value):argsOk "reversed.__length_hint__" ⟨[a],[]⟩:=by
 unfold argsOk;rw[signature?_of (id:="reversed.__length_hint__") (n:=['_','_','t','n','i','h','_','h','t','g','n','e','l','_','_']) (o:=['d','e','s','r','e','v','e','r']) (by kernel_rfl) lX];kernel_rfl
theorem x9:typeLookup (.type "reversed") "__len__"=pure none:=by rw[typeLookup_type,builtinLookup_eq_fast];kernel_rfl
theorem oP (a:Value):bindSpecial (.builtin "reversed.__length_hint__") a=pure (.builtin "reversed.__length_hint__",[a]):=by
 have e:typeOf (.builtin "reversed.__length_hint__")=pure (.type "method_descriptor"):=by show builtinType _=_;rw[builtinType_eq_fast];kernel_rfl
 unfold bindSpecial
 rw[e]
 rfl
end L2.F2
namespace L2
open PySem PySem.Spec PyProof.Rows
section
variable {prog:Program} {w:World} {A:Around} {E:Value->Shared->Prop} {s:Shared}
theorem Df {it:Addr} {x:Str} {t:Tok} {Q:Value->Shared->Prop} (hit:di s.heap it x t ((x.length:Int) - 1)) (hz:x.length<=sizeLine)
  (hQ: ∀u tk,Q (.int x.length u) { s with toks:=tk }):wpAny (model prog w) A (call (.builtin "reversed.__length_hint__") [.ref it]) Q E s:=by
 obtain ⟨o,ho,hc,hd⟩:=id hit
 have hn:=eQ
 refine wpAny_call_entry F2.jO hit.typeIs F2.oO ?_ (F2.nh _)
 unfold Builtin.«reversed.__length_hint__»
 refine wpAny_bind (wpAny_of_eq (a:=Value.ref it) rfl ?_)
 refine wpAny_bind (wpAny_field ho hd (x:= .str x t) rfl ?_)
 show wpAny _ _ (if (Value.str x t==Value.none)=true then _ else _) _ _ s
 rw[if_neg (by simp)]
 refine wpAny_bind (len_str (by omega) ?_)
 refine wpAny_bind (wpAny_of_eq (a:=some (x.length:Int)) rfl ?_)
 refine wpAny_bind (wpAny_field ho hd (x:=rawInt ((x.length:Int) - 1)) rfl ?_)
 show wpAny _ _ (if (x.length:Int)<((x.length:Int) - 1)+1 then _ else _) _ _ _
 rw[if_neg (by omega),show ((x.length:Int) - 1)+1=x.length by omega]
 refine wpAny_bind (wpAny_mkInt ?_)
 exact wpAny_pure ⟨_,rfl,hQ _ _⟩
theorem Bi (hh:A.handled=none) (I:Addr) (x:Str) (t:Tok) (hz:x.length<=sizeLine):
  Walks prog w A I [I] [I] x.length (fun i v=> ∃c u,x.cps[x.length - 1 - i]? =some c/\v= .str ⟨#[c]⟩ u) (fun i h=>i<=x.length/\di h I x t ((x.length:Int) - 1 - (i:Int))) where
 sub:=fun b hb=>hb
 frame:=fun i h h' st hk=>⟨st.1,let ⟨o,ho,r⟩:=st.2;⟨o,hk I (by simp) o ho,r⟩⟩
 item:=fun i s Q E hi st hQ=>by
  have e:(x.length:Int) - 1 - (i:Int)=((x.length - 1 - i:Nat):Int):=by omega
  have hit:=st.2
  rw[e]at hit
  have cC:x.length - 1 - i<x.cps.size:=by show _<x.length;omega
  have hx:x.cps[x.length - 1 - i]? =some x.cps[x.length - 1 - i]:=Array.getElem?_eq_getElem cC
  refine iF hit hx hz fun h' tk u O2 J6=>?_
  have e2:((x.length - 1 - i:Nat):Int) - 1=(x.length:Int) - 1 - ((i+1:Nat):Int):=by omega
  rw[e2]at O2
  exact hQ _ h' tk ⟨_,u,hx,rfl⟩ ⟨hi,O2⟩ fun b o hb eo=>J6.extBut b o (fun h=>hb (by simp[h])) eo
 done:=fun s Q E st hQ=>by
  have e:(x.length:Int) - 1 - (x.length:Int)= -1:=by omega
  have hit:=st.2
  rw[e]at hit
  exact iY hh hit fun h' zH=>hQ h' s.toks fun b o hb eo=>zH b o (fun h=>hb (by simp[h])) eo
 self:=fun _ _ _ _ st hQ=>fZ st.2 hQ
theorem GL {R:Result->Shared->Prop} (hh:A.handled=none) (x:Str) (t:Tok) (it S:Addr) (res:Value) (c₀:Nat) (hS:s.heap.get? S=some { cls:= .type "list",data:= .seq #[] c₀ }) (hit:di s.heap it x t ((x.length:Int) - 1)) (h0:0<x.length) (hz:x.length<=sizeLine)
  (hR: ∀h' tk cB c',(∀b o,b≠S->b≠it->s.heap.get? b=some o->h'.get? b=some o)->h'.get? S=some { cls:= .type "list",dict:=none,data:= .seq cB c',slots:= #[] }->
   ItemsOf (fun i v=> ∃c u,x.cps[x.length - 1 - i]? =some c/\v= .str ⟨#[c]⟩ u) cB x.length->R (.ok (.ret res)) { s with heap:=h',toks:=tk }):
  wpAny (model prog w) A.in1 (Builtin.List.listExtendWith (.ref S) (.ref it) res)
   (fun fin s'=>match fin with | .done f=>R (.ok f) s' | .again c'=>c'.quiet=true/\codeAny (model prog w) A c' R s') (fun e s'=>R (.error e) s') s:=by
 have O3:S≠it:=fun z=>by
  obtain ⟨o,ho,hc,hd⟩:=hit
  rw[<-z,hS]at ho
  cases ho
  cases hd
 have SO:S∉[it]:=fun hm=>O3 (Wg.mp hm)
 have hn:=eQ
 unfold Builtin.List.listExtendWith
 refine wpAny_bind (wpAny_typeOf hit.typeIs ?_)
 have h1:Builtin.List.listSameRef (.ref S) (.ref it)=false:=by simp[Builtin.List.listSameRef,O3]
 rw[if_neg (by rw[h1];decide)]
 refine wpAny_bind (fZ hit ?_)
 refine wpAny_bind (wpAny_holding ?_)
 unfold Builtin.List.listLengthHint
 refine wpAny_bind (wpAny_specialOf hit.typeIs F2.x9 ?_)
 show wpAny _ A.in1 (specialOf (Value.ref it) (Str.ofString "__length_hint__") >>= _) _ _ _
 refine wpAny_bind (wpAny_specialOf hit.typeIs F2.jO.lookup ?_)
 (generalize SQ:("reversed.__length_hint__":String)=UC;(fail_if_success (clear SQ UC));wp_delta;rw[show splitId UC=some ("reversed","__length_hint__") from by subst SQ;decide+kernel];subst SQ)
 refine wpAny_bind (wpAny_isInstance (b:=true) hit.typeIs (by rw[isSubtype_type];kernel_rfl) ?_)
 refine wpAny_bind (wpAny_rule ?_)
 rw[F2.oP]
 refine wpAny_bind (wpAny_pure ?_)
 refine wpAny_bind (wpAny_attempt (Df hit hz fun u tk=>?_))
 dsimp only
 have ea:asInt? (.int (x.length:Int) u)=pure (some (x.length:Int)):=rfl
 rw[ea]
 refine wpAny_bind ?_
 refine wpAny_pure ?_
 dsimp only
 have f1:Builtin.List.listFitsIndex (x.length:Int)=true:=by
  unfold Builtin.List.listFitsIndex
  simp
  omega
 rw[f1,if_neg (by decide),if_neg (by omega)]
 have f2:Builtin.List.listTooLong (x.length:Int).toNat=false:=by
  rw[YT]
  unfold Builtin.List.listTooLong
  simp
  omega
 rw[f2,if_neg (by decide)]
 refine wpAny_pure ?_
 have f3:((x.length:Int) != 0)=true:=by simp;omega
 rw[f3,Bool.true_or,if_pos rfl]
 refine wpAny_bind (wpAny_rule ?_)
 refine wpAny_bind ?_
 unfold Builtin.List.listTouch
 refine wpAny_bind (wpAny_updateSeq hS rfl ?_ (YU _) (Qap (YU _)))
 have Ko:=Z9 (Obj.mapSeq (fun l:Array Value=>l.push .none)) hS rfl
 refine wpAny_updateSeq Ko rfl ?_ (ZI (Qap (YU _)) (ZI h0 hz)) (YU _)
 have SR:=Z9 (Obj.mapSeq (fun l:Array Value=>l.pop)) Ko rfl
 have L7: ∀b o,b≠S->s.heap.get? b=some o->((s.heap.update S (Obj.mapSeq (fun l:Array Value=>l.push .none))).update S (Obj.mapSeq (fun l:Array Value=>l.pop))).get? b=some o:=fun b o hb e=>
  (ZP _ _ (Ne.symm hb)).trans ((ZP _ _ (Ne.symm hb)).trans e)
 have Kp:di ((s.heap.update S (Obj.mapSeq (fun l:Array Value=>l.push .none))).update S (Obj.mapSeq (fun l:Array Value=>l.pop))) it x t ((x.length:Int) - 1 - ((0:Nat):Int)):=by
  obtain ⟨o,ho,r⟩:=hit
  rw[show (x.length:Int) - 1 - ((0:Nat):Int)=(x.length:Int) - 1 by omega]
  exact ⟨o,L7 it o (Ne.symm O3) ho,r⟩
 refine wpAny_pure ⟨plainId_quiet PySem.F.plain_extend_loop _,codeAny_extend_loopS (Bi (A:=A.in1) hh it x t hz).toS hz _ SO _ x.length 0 _ _ _ rfl (YU _) ⟨YU _,Kp⟩ SR (ItemsOf.nil _) fun s' cB c' hm Kq iN=>?_⟩
 rw[Moved.eq_with hm]
 refine hR s'.heap s'.toks cB c' (fun b ob hb Wt e=>hm.heap b ob (fun Dg=>?_) (L7 b ob hb e)) Kq iN
 rcases Wj.mp Dg with e' | Dg
 ·exact hb e'
 ·exact Wt (Wg.mp Dg)
end
section
variable {X:Cx}
end
end L2
set_option maxHeartbeats 1000000
namespace L2
open PySem PySem.Spec PyProof.Rows
section
variable {prog:Program} {w:World} {A:Around} {E:Value->Shared->Prop} {s:Shared}
theorem oQ {h h':Heap} {l b:Addr} {items:Array Value} (x:h.IsList l items) (k:Heap.ExtBut b h h') (n:l≠b):h'.IsList l items:=let ⟨o,ho,r⟩:=x;⟨o,k l o n ho,r⟩
theorem rm {it l:Addr} {items:Array Value} (dc:l≠it): ∀(n i:Nat) (s:Shared) (Q:List Value->Shared->Prop),s.heap.IsListIter it l i->s.heap.IsList l items->i+n<=items.size->
  (∀h',h'.IsListIter it l (i+n)->Heap.SameBut it s.heap h'->Q ((items.toList.drop i).take n) { s with heap:=h' })->wpAny (model prog w) A (draw (.ref it) n) Q E s
 | 0,i,s,Q,hit,_,_,hQ=>by
  show wpAny _ _ (pure []) Q E s
  exact wpAny_pure (by simpa using hQ s.heap hit (Heap.SameBut.refl ..))
 | n+1,i,s,Q,hit,ht,hle,hQ=>by
  have cC:i<items.size:=by omega
  show wpAny _ _ (pyNext (.ref it) >>= _) Q E s
  refine wpAny_bind (wpAny_pyNext_list_item hit ht (x:=items[i]) (by simp[cC]) fun h₁ Kr O4=>?_)
  refine wpAny_bind (wpAny_holding (rm dc n (i+1) _ _ Kr (oQ ht O4.extBut dc) (by omega) fun h₂ SU Wu=>wpAny_pure ?_))
  have hd:items.toList.drop i=items[i]::items.toList.drop (i+1):=by simp[Z1,cC]
  have:=hQ h₂ (by rw[show i+(n+1)=i+1+n by omega];exact SU) (O4.trans Wu)
  rw[hd,List.take_succ_cons]at this
  exact this
theorem lY {t:Addr} {items:Array Value} {Q:List Value->Shared->Prop} (hh:A.handled=none) (ht:s.heap.IsList t items)
  (hQ: ∀h',Heap.ExtBut s.heap.objs.size s.heap h'->Q items.toList { s with heap:=h' }):wpAny (model prog w) A (unpackItems (.ref t) items.size none) Q E s:=by
 have cC:t≠s.heap.objs.size:=by obtain ⟨o,ho,_⟩:=ht;exact Zu (Zr ho)
 have hT:s.TypeIs (.ref t) "list":=let ⟨o,ho,hc,_⟩:=ht;⟨o,ho,hc⟩
 unfold unpackItems
 refine wpAny_bind ?_
 unfold notIterableAtAll
 refine wpAny_bind (wpAny_specialOf hT PySem.F.slot_list_iter.lookup ?_)
 refine wpAny_pure ?_
 simp only[Qav,if_false]
 refine wpAny_bind (wpAny_holding (wpAny_pyIter_list ht ?_))
 have UD: ∀o:Obj,(s.heap.push o).IsList t items:=fun o=>let ⟨ob,ho,r⟩:=ht;⟨ob,QC _ ho,r⟩
 refine wpAny_bind (wpAny_holding (rm cC items.size 0 _ _ ⟨_,Zq _ rfl,rfl,rfl⟩ (UD _) (by omega) fun h₁ Kr O4=>?_))
 have JX:List.take items.size (List.drop 0 items.toList)=items.toList:=by
  rw[List.drop_zero];exact ZG (by simp)
 rw[JX]
 rw[if_neg (by simp)]
 have Wv:h₁.IsList t items:=oQ (UD _) O4.extBut cC
 refine wpAny_bind (wpAny_holding (wpAny_pyNext_list_end hh Kr Wv (by simp) fun h₂ Ww=>?_))
 simp only[Option.isSome_none,Qav,if_false]
 refine wpAny_pure (hQ h₂ fun b o hb e=>Ww b o hb (O4.extBut b o hb (QC _ e)))
theorem kO {env:Env} {elts:List Expr} {x1} {pos:Pos} {t:Addr} {items:Array Value} {Q:Unit->Shared->Prop} (hh:A.handled=none) (ht:s.heap.IsList t items)
  (hn:(assignEach elts env).length=items.size) (O5:(assignEach elts env).findIdx? (·.1)=none)
  (h: ∀h',Heap.ExtBut s.heap.objs.size s.heap h'->wpAny (model prog w) A (assignInOrder ((assignEach elts env).map (·.2)) items.toList) Q E { s with heap:=h' }):
  wpAny (model prog w) A (assign (.Tuple elts x1 pos) env (.ref t)) Q E s:=by
 rw[assign_Tuple]
 refine wpAny_bind (wpAny_standAt ?_)
 unfold unpack
 rw[hn,O5]
 exact wpAny_bind (wpAny_holding (lY hh ht h))
end
section
variable {X:Cx}
def SV (K:PySem.W.Frag) (n:Nat) (t:Fs):TG:=fun v σ H Q=> ∃a xs,v= .ref a/\bD K H a xs/\xs.length=n/\t xs σ H Q
theorem GN (K:PySem.W.Frag) (h:X.K=K) {es:List Expr} {k:Nat} {t:Fs} {n:Nat} {pos:Pos} (hc:X.calm=true) (hs:LZ X es t)
  (hn:(assignEach es X.env).length=n:=by rfl) (jH:(assignEach es X.env).findIdx? (·.1)=none:=by rfl):PG X (.Tuple es k pos) (SV K n t):=by
 subst h
 intro pins s σ H v u Q I r hw
 obtain ⟨a,xs,e1,hq,hl,hw⟩:=hw
 subst e1
 cases r
 obtain ⟨aO,rv,ht,hz⟩:=I.list hq
 refine kO (I.ok.hd hc) ht.isList (by simp[hn, <-hl,rv.length]) jH fun h' hx=>?_
 have I1:Inv X pins σ H { s with heap:=h' }:=I.kept (t':=s.toks) fun b o e=>hx b o (Zu (Zr e)) e
 exact hs pins _ σ H xs _ Q I1 (by simpa using rv) hw
end
end L2
set_option maxHeartbeats 2000000
namespace L2
open PySem PySem.Spec PyProof.Rows
noncomputable def Fz (a b c d:Int):Bool:=if a=c then decide (b<d) else decide (a<c)
section
variable {prog:Program} {w:World} {A:Around} {E:Value->Shared->Prop} {s:Shared}
theorem GO {p q:Addr} {ox oy:Obj} {mx my:Nat} {a b c d:Int} {t1 t2 t3 t4:Tok} {P:PySem.Fin->Shared->Prop} (QF:s.heap.get? p=some ox) (SX:ox.data= .seq #[.int a t1, .int b t2] mx)
  (O6:s.heap.get? q=some oy) (zI:oy.cls= .type "tuple") (SY:oy.data= .seq #[.int c t3, .int d t4] my) (h:P (.done (.ret (.bool (Fz a b c d)))) s):
  wpAny (model prog w) A (Builtin.«tuple.__lt__» ⟨[.ref p, .ref q],[]⟩) P E s:=by
 have hT:s.TypeIs (.ref q) "tuple":=⟨oy,O6,zI⟩
 show wpAny _ _ (isInstance (.ref q) (.type "tuple") >>= fun b=>_) _ _ s
 refine wpAny_bind (wpAny_isInstance (b:=true) hT isSubtype_tuple_tuple ?_)
 simp only[Qdg,Qav,if_false]
 refine wpAny_bind (wpAny_tupleItemsOf QF SX ?_)
 refine wpAny_bind (wpAny_tupleItemsOf O6 SY ?_)
 refine wpAny_bind ?_
 show wpAny _ _ (forIn [(Value.int a t1,Value.int c t3),(Value.int b t2,Value.int d t4)] _ _) _ _ _
 rw[Qcb]
 refine wpAny_bind (wpAny_bind (wpAny_eqBool_int ?_))
 unfold Fz at h
 by_cases e:a=c
 ·rw[if_pos e]at h
  rw[show (a==c)=true by simp[e]]
  simp only[Qdg,Qav,if_false]
  refine wpAny_pure ?_
  dsimp only
  rw[Qcb]
  refine wpAny_bind (wpAny_bind (wpAny_eqBool_int ?_))
  by_cases e2:b=d
  ·rw[show (b==d)=true by simp[e2]]
   simp only[Qdg,Qav,if_false]
   refine wpAny_pure ?_
   dsimp only
   rw[List.forIn_nil]
   refine wpAny_pure ?_
   dsimp only
   refine wpAny_pure ?_
   rw[decide_eq_false (by omega)]at h
   exact h
  ·rw[show (b==d)=false by simp[e2]]
   simp only[Bool.not_false,if_true]
   refine wpAny_bind (wpAny_rule ?_)
   refine wpAny_bind (lt_int ?_)
   refine wpAny_bind (wpAny_pure ?_)
   refine wpAny_pure ?_
   dsimp only
   refine wpAny_pure ?_
   dsimp only
   exact wpAny_pure h
 ·rw[if_neg e]at h
  rw[show (a==c)=false by simp[e]]
  simp only[Bool.not_false,if_true]
  refine wpAny_bind (wpAny_rule ?_)
  refine wpAny_bind (lt_int ?_)
  refine wpAny_bind (wpAny_pure ?_)
  refine wpAny_pure ?_
  dsimp only
  refine wpAny_pure ?_
  dsimp only
  exact wpAny_pure h
end
section
variable {X:Cx}
def S0 (K:PySem.W.Frag):R2:=fun x y H Q=> ∃p q a b c d,x= .ref p/\y= .ref q/\cR K H p [.int a, .int b]/\cR K H q [.int c, .int d]/\Q (.bl (Fz a b c d)) H
theorem vC {a b:Int} {us:List Value} (r:Vals [.int a, .int b] us): ∃t u,us=[.int a t, .int b u]:=by
 cases r with
 | cons r1 r=>
  cases r with
  | cons r2 r=>
   cases r
   obtain ⟨t,rfl⟩:=r1
   obtain ⟨u,rfl⟩:=r2
   exact ⟨t,u,rfl⟩
theorem Ks {k:Nat} (K:PySem.W.Frag) (h:X.K=K) (hr:fu k X.A):iL X (compareOp .Lt) (S0 K):=by
 subst h
 intro pins s σ H x y v u Q I rx ry h
 obtain ⟨p,q,a,b,c,d,rfl,rfl,hp,hq,r⟩:=h
 cases rx
 cases ry
 obtain ⟨xs,Wx,px,_⟩:=I.tuple hp
 obtain ⟨ys,Wy,py,_⟩:=I.tuple hq
 obtain ⟨ox,QF,SI,mx,SX⟩:=px
 obtain ⟨oy,O6,zI,my,SY⟩:=py
 obtain ⟨t1,t2,rfl⟩:=vC Wx
 obtain ⟨t3,t4,rfl⟩:=vC Wy
 have hu:=hr.units
 show wpAny _ _ (richCompare .Lt (.ref p) (.ref q)) _ _ s
 have hT:s.TypeIs (.ref p) "tuple":=⟨ox,QF,SI⟩
 refine wpAny_richCompare_same_room hT ⟨oy,O6,zI⟩ PySem.F.slot_tuple_lt (wpAny_call_entry PySem.F.slot_tuple_lt hT PySem.F.entry_tuple_lt (GO QF SX O6 zI SY ⟨_,rfl,(fun z=>nomatch z),?_⟩) (PySem.F.args_tuple_lt_2 _ _)) (by omega)
 exact ⟨.bl _,H,I,rfl,r⟩
end
noncomputable def dd {α:Type} [DecidableEq α]:List α->List α->List α
 | σ,[]=>σ
 | σ,x::l=>dd (if x∈σ then σ else σ++[x]) l
theorem x_ {α:Type} [DecidableEq α]: ∀(l σ:List α),(dd σ l).length<=σ.length+l.length
 | [],σ=>Ur _
 | x::l,σ=>by
  unfold dd
  have:=x_ l (if x∈σ then σ else σ++[x])
  split at this<;>rename_i z
  ·rw[if_pos z,ZM];omega
  ·rw[if_neg z,ZM];rw[L5]at this;simp at this ⊢; omega
theorem zJ {α:Type} [DecidableEq α]: ∀(l σ:List α) (x:α),dd σ (l++[x])=if x∈dd σ l then dd σ l else dd σ l++[x]
 | [],σ,x=>rfl
 | y::l,σ,x=>zJ l _ x
section
variable {prog:Program} {w:World} {A:Around} {E:Value->Shared->Prop} {s:Shared}
abbrev oR (prog:Program) (w:World) (h:Heap) (a:Addr) (l:List Str):Prop:=h.SetOf (strKind prog w) a (fun k=>decide (k∈dd [] l)) (dd [] l).length
theorem oR.frame {h h':Heap} {a:Addr} {l:List Str} (x:oR prog w h a l) (k: ∀o,h.get? a=some o->h'.get? a=some o):oR prog w h' a l:=by
 obtain ⟨o,es,ep,t,ho,r⟩:=x
 exact ⟨o,es,ep,t,k o ho,r⟩
theorem Dh {R:Result->Shared->Prop} {I S:Addr} {fp wr:List Addr} {G:Array GenState->Array GenState->Prop} {P:Nat->Value->Prop} {St:Nat->Shared->Prop} {l:List Str}
  (W:WalksS prog w A.in1 I fp wr G l.length P St) (hS:S∉fp) (hP: ∀i v,P i v-> ∃x t,l[i]? =some x/\v= .str x t) (hb:l.length+1<scanBound):
  ∀(k i:Nat) (s:Shared),l.length - i=k->i<=l.length->St i s->oR prog w s.heap S (l.take i)->(∀s',Moved (S::wr) G s s'->oR prog w s'.heap S l->R (.ok (.ret .none)) s')->
   codeAny (model prog w) A (.builtin "set.update.loop" ⟨[.ref S, .ref I],[]⟩) R s:=by
 have UE:S∉wr:=fun h=>hS (W.sub _ h)
 have IF: ∀b∈wr,b∈S::wr:=fun b g=>Uq _ g
 intro k
 induction k with
 | zero=>
  intro i s hk hi jH qv hR
  obtain rfl:i=l.length:=by omega
  rw[Qaq]at qv
  refine codeAny_builtin PyProof.Rows.F.entry_set_update_loop ?_
  rw[Around.under_plainId Qbu _]
  show wpAny _ A.in1 (pyNext (.ref I) >>= fun r=>_) _ _ s
  refine wpAny_bind (W.done s _ _ jH fun s' hm=>?_)
  exact wpAny_pure (hR s' (hm.mono IF) (qv.frame fun o ho=>hm.heap S o UE ho))
 | succ k ih=>
  intro i s hk hi jH qv hR
  have cC:i<l.length:=by omega
  refine codeAny_builtin PyProof.Rows.F.entry_set_update_loop ?_
  rw[Around.under_plainId Qbu _]
  show wpAny _ A.in1 (pyNext (.ref I) >>= fun r=>_) _ _ s
  refine wpAny_bind (W.item i s _ _ cC jH fun v s' hp S3 hm=>?_)
  obtain ⟨x,t,hx,rfl⟩:=hP i v hp
  have O7:oR prog w s'.heap S (l.take i):=qv.frame fun o ho=>hm.heap S o UE ho
  show wpAny _ A.in1 (holding [Value.str x t] (setAdd S (.str x t)) >>= fun b=>_) _ _ s'
  refine wpAny_bind (wpAny_holding ?_)
  unfold setAdd
  refine wpAny_holding (wpAny_bind ((strKind prog w).pyHash (k:=x) (by simp[PySem.strKind,Value.isStrOf]) ?_))
  have hle:=x_ (l.take i) ([]:List Str)
  rw[Zo]at hle
  refine wpAny_setAddHashed_of (knd:=strKind prog w) (s:={ s' with toks:=s'.toks+1 }) (k:=x) (by simp[PySem.strKind,Value.isStrOf]) rfl O7 (by simp at hle;omega) fun h' O8 O9=>?_
  have O_:oR prog w h' S (l.take (i+1)):=by
   have e1:l.take (i+1)=l.take i++[x]:=by rw[Qch,hx];rfl
   unfold oR
   rw[e1,zJ]
   refine PyProof.Rows.SetOf_congr O9 (fun y=>?_) ?_
   ·by_cases z:x∈dd [] (l.take i)
    ·rw[if_pos z]
     by_cases u:y=x
     ·rw[u,decide_eq_true z,Bool.true_or]
     ·rw[decide_eq_false u,Qb7]
    ·rw[if_neg z]
     by_cases u:y=x
     ·rw[u,decide_eq_true (show x=x from rfl),Bool.or_true,decide_eq_true (by simp)]
     ·rw[decide_eq_false u,Qb7]
      exact decide_eq_decide.mpr ⟨fun q=>Qae _ q,fun q=>(Zx.mp q).resolve_right fun q=>u (Wg.mp q)⟩
   ·by_cases z:x∈dd [] (l.take i)
    ·rw[if_pos z,if_pos (decide_eq_true z)]
    ·rw[if_neg z,if_neg (by simpa using z),L5];rfl
  refine wpAny_pure ⟨plainId_quiet Qbu _,ih (i+1) _ (by omega) cC (W.frame _ s' _ _ S3 (Qa0 _) fun b g o e=>?_) O_ fun JM S4 S5=>?_⟩
  ·rw[O8.2 b fun z:b=S=>hS (z▸g)];exact e
  ·refine hR JM (Moved.trans W.gtrans ((hm.mono IF).then_heap (Qa0 _) fun b o g e=>?_) S4) S5
   rw[O8.2 b fun z:b=S=>g (z▸Wi)];exact e
end
section
variable {prog:Program} {w:World} {A:Around} {E:Value->Shared->Prop} {s:Shared}
theorem rz: ∀{vs:List Value} {xs:List Str},StrsAre vs xs-> ∀(i:Nat) (v:Value),vs[i]? =some v-> ∃x t,xs[i]? =some x/\v= .str x t
 | _,_, .nil,i,v,h=>by simp at h
 | _,_, .cons y t r,0,v,h=>by simp at h;exact ⟨y,t,rfl,h.symm⟩
 | _,_, .cons y t r,i+1,v,h=>by
  obtain ⟨x,u,e1,e2⟩:=rz r i v (by simpa using h)
  exact ⟨x,u,by simpa using e1,e2⟩
noncomputable def sZ (led:Bool):Obj:={ cls:= .type "set",dict:=none,data:= .set #[] 0 (.fresh 0 0 led) }
theorem Di {R:Result->Shared->Prop} {l S:Addr} {items:Array Value} {xs:List Str} {led:Bool} (hh:A.handled=none) (hS:s.heap.get? S=some (sZ led)) (hl:s.heap.IsList l items) (hi:StrsAre items.toList xs) (hb:xs.length+1<scanBound)
  (h: ∀(h':Heap) (tk:Nat),oR prog w h' S xs->(∀b o,b≠S->b<s.heap.objs.size->s.heap.get? b=some o->h'.get? b=some o)->R (.ok (.ret .none)) { s with heap:=h',toks:=tk }):
  wpAny (model prog w) A.in1 (Builtin.«set.__init__» ⟨[.ref S, .ref l],[]⟩) (fun fin s'=>match fin with | .done f=>R (.ok f) s' | .again c'=>c'.quiet=true/\codeAny (model prog w) A c' R s') (fun e s'=>R (.error e) s') s:=by
 obtain ⟨ol,Bj,Kt,nl,L8⟩:=id hl
 have cC:=Zr Bj
 have Wz:=Zr hS
 have hT:s.TypeIs (.ref l) "list":=⟨ol,Bj,Kt⟩
 have dc:l≠S:=fun z=>by rw[z,hS]at Bj;cases Bj;exact absurd Kt (by unfold sZ;simp)
 have z1:=PySem.F.sub_list_set
 have z2:=PySem.F.sub_list_frozenset
 have z3:(Value.type "list"==Value.type "dict")=false:=by decide
 obtain ⟨WA,UG,UH,S6⟩:=ol
 simp only at Kt L8
 subst Kt L8
 have WB:=Bj
 unfold Builtin.«set.__init__» noKeywords Builtin.Frozenset.updateFrom
 generalize WC:pyIter=PI
 unfold sZ at hS
 wp_walk
 subst WC
 refine wpAny_pyIter_list hl ?_
 refine wpAny_bind (wpAny_runValue ?_)
 have hlen:items.size=xs.length:=by rw[<-Qdd];exact hi.length
 have S7:l≠s.heap.objs.size:=Zu cC
 have O3:S∉[s.heap.objs.size,l]:=fun hm=>by
  rcases Wj.mp hm with z | z
  ·exact absurd z (Zu Wz)
  ·exact dc (Wg.mp z).symm
 have W:=(Walks.list (prog:=prog) (w:=w) (A:=A.in1.in1) (show A.in1.in1.handled=none from hh) s.heap.objs.size l S7 items).toS
 rw[hlen]at W
 have hit:(s.heap.push { cls:= .type "list_iterator",data:= .fields #[.ref l, .int 0 0] }).get? s.heap.objs.size=some { cls:= .type "list_iterator",data:= .fields #[.ref l, .int 0 0] }:=Zq _ rfl
 refine Dh (A:=A.in1) (l:=xs) W O3 (fun i v hv=>?_) hb (xs.length - 0) 0 { s with heap:=s.heap.push { cls:= .type "list_iterator",data:= .fields #[.ref l, .int 0 0] } } rfl (YU _) ⟨⟨_,hit,rfl,rfl⟩,hl.push _⟩ ?_ fun s' hm qv=>?_
 ·exact rz hi i v (by rw[Qc7];exact hv)
 ·have Ko:=QC { cls:= .type "list_iterator",data:= .fields #[.ref l, .int 0 0] } hS
  exact PyProof.Rows.SetOf_congr ((PyProof.Rows.setObjOf_fresh (knd:=PySem.strKind prog w) led).setOf Ko (by unfold scanBound;omega)) (fun k=>by rw[List.take_zero];rfl) rfl
 ·obtain ⟨h',g',d',UI,Sj⟩:=s'
  obtain rfl:g'=s.gens:=hm.gens
  obtain rfl:d'=s.drawn:=hm.drawn
  obtain rfl:Sj=s.os:=hm.os
  refine wpAny_pure (wpAny_pure (h h' UI qv fun b o hb S8 e=>?_))
  exact hm.heap b o (fun Dg=>by
   rcases Wj.mp Dg with z | z
   ·exact hb z
   ·exact absurd (Wg.mp z) (Zu S8)) (QC _ e)
theorem Bk {l:Addr} {items:Array Value} {xs:List Str} {Q:Value->Shared->Prop} (hh:A.handled=none) (hl:s.heap.IsList l items) (hi:StrsAre items.toList xs) (hb:xs.length+1<scanBound)
  (h: ∀(h':Heap) (tk:Nat),oR prog w h' s.heap.objs.size xs->(∀b o,s.heap.get? b=some o->h'.get? b=some o)->Q (.ref s.heap.objs.size) { s with heap:=h',toks:=tk }):
  wpAny (model prog w) A (call (.type "set") [.ref l]) Q E s:=by
 obtain ⟨c,tl,WD⟩:=Qat.mro
 have UJ:=Qat.made
 have SM:=Qat.sub
 have g1:=Qat.notType
 have g2:=Qat.canCreate
 have g3:=PySem.F.typeCall_set_1 (.ref l)
 refine wpAny_call (codeAny_of_tree ?_)
 show wpAny _ _ (callAny (.type "set") ⟨[.ref l],[]⟩) _ _ _
 refine wpAny_pure ⟨Code.quiet_builtin _ (by decide+kernel),codeAny_builtin PySem.F.entry_type_call ?_⟩
 rw[Around.under_plain (weight_type_call_type "set" [.ref l] []) rfl]
 repeat (any_goals (first | wp_step | assumption))
 refine codeAny_mono (code_set_new_1 (.ref l) (E:=E) (Q₁:=fun v s₁=> ∃led:Bool,v= .ref s.heap.objs.size/\s₁={ s with heap:=s.heap.push (sZ led) }) fun led=>⟨led,rfl,rfl⟩) fun r s₁ hr=>?_
 cases r with
 | error e=>exact hr
 | ok fl=>
  cases fl with
  | next=>exact hr.elim
  | brk=>exact hr.elim
  | cont=>exact hr.elim
  | ret v=>
   obtain ⟨led,rfl,rfl⟩:=hr
   have hS:(s.heap.push (sZ led)).get? s.heap.objs.size=some (sZ led):=Zq _ rfl
   have hT:Shared.TypeIs { s with heap:=s.heap.push (sZ led) } (.ref s.heap.objs.size) "set":=⟨_,hS,rfl⟩
   have g4:=Qat.init.lookup
   have g5:=Qat.init.bind (.ref s.heap.objs.size)
   repeat (any_goals (first | wp_step | assumption))
   refine codeAny_mono (codeAny_call_builtin (R:=wants (fun v s₂=>v= .none/\ ∃h' tk,s₂={ s with heap:=h',toks:=tk }/\oR prog w h' s.heap.objs.size xs/\ ∀b o,s.heap.get? b=some o->h'.get? b=some o) E) Qat.init.plain PySem.F.entry_set_init (check_set_init_1 hT ?_)) fun r₂ s₂ Pa=>?_
   ·refine Di (s:={ s with heap:=s.heap.push (sZ led) }) hh hS (hl.push _) hi hb fun h' tk qv hk=>⟨rfl,h',tk,rfl,qv,fun b o e=>?_⟩
    have cC:=Zr e
    exact hk b o (Zu cC) (by show b<(s.heap.push (sZ led)).objs.size;rw[Qbw];exact Qa7 cC) (QC _ e)
   ·cases r₂ with
    | error e=>exact Pa
    | ok WE=>
     cases WE with
     | next=>exact Pa.elim
     | brk=>exact Pa.elim
     | cont=>exact Pa.elim
     | ret v=>
      obtain ⟨rfl,h',tk,rfl,k1,k2⟩:=Pa
      repeat (any_goals (first | wp_step | assumption))
      exact h _ _ k1 k2
end
section
variable {X:Cx}
noncomputable def yf (q:Addr) (n:Nat):HO:= .ext fun h=> ∃(o:Obj) (es:Array (Int×Value)) (ep:Nat) (t:SetTable),h.get? q=some o/\o.ExactSet/\o.data= .set es ep t/\t.fits es.size=true/\es.size=n
def Pb (K:PySem.W.Frag):List V->Hp->VK->Prop:=fun xs H Q=> ∃(p:Addr) (l:List (List Nat)),xs=[.ref p]/\bD K H p (l.map fun c=>V.str (S c))/\l.length<=20/\ ∀q,H q=none->Q (.ref q) (upd H q (yf q (dd [] (l.map S)).length))
theorem Bl (K:PySem.W.Frag) (h:X.K=K) (hc:X.calm=true):dh X (.type "set") (Pb K):=by
 subst h
 intro pins s σ H xs us Q I r h
 obtain ⟨p,l,rfl,hq,hz,q⟩:=h
 obtain ⟨u,rfl,ru⟩:=vals1 r
 cases ru
 obtain ⟨aO,rv,pl,_⟩:=I.list hq
 refine Bk (I.ok.hd hc) pl.isList (by simpa using j7 rv) (by rw[Us];unfold scanBound;omega) fun h' tk qv hk=>?_
 refine ⟨.ref s.heap.objs.size,upd H s.heap.objs.size (yf _ _),I.laid (t':=tk) hk (Ur _) ?_,rfl,q _ I.fresh⟩
 obtain ⟨o,es,ep,t,ho,hex,hd,_,_,_,hf,hn⟩:=qv
 exact ⟨⟨o,es,ep,t,ho,hex,hd,hf,hn⟩,⟨_,ho⟩,fun h1 h2 ⟨o,es,ep,t,ho,r⟩ k=>⟨o,es,ep,t,k o ho,r⟩⟩
theorem vD:dh X (.builtin "len") (fun xs H Q=> ∃a n,xs=[V.ref a]/\H a=some (yf a n)/\n<=1000/\Q (.int n) H):=by
 intro pins s σ H xs us Q I r h
 obtain ⟨a,n,rfl,ha,hz,q⟩:=h
 obtain ⟨u,rfl,ru⟩:=vals1 r
 cases ru
 obtain ⟨hv,_,_⟩:cb X.prog X.w H s.heap a (yf a n):=I.b6 a _ ha
 obtain ⟨o,es,ep,t,ho,hex,hd,hf,hn⟩: ∃(o:Obj) (es:Array (Int×Value)) (ep:Nat) (t:SetTable),s.heap.get? a=some o/\o.ExactSet/\o.data= .set es ep t/\t.fits es.size=true/\es.size=n:=hv
 refine call_len_set ho hex hd hf (by omega) ?_
 rw[hn]
 exact ⟨.int n,H,I.tok _,⟨_,rfl⟩,q⟩
end
section
variable {prog:Program} {w:World} {A:Around} {E:Value->Shared->Prop} {s:Shared}
end
section
variable {X:Cx}
end
section
variable {X:Cx}
end
section
variable {X:Cx} {st:Stmt} {rest:List Stmt} {t u:TS}
def S9 (t u:TS):TS:=fun D σ H=> ∃P:St->Hp->Prop,t { D with nx:=P } σ H/\ ∀σ' H',P σ' H'->u D σ' H'
theorem jv (h1:PS X st t) (h2:xn X rest u):xn X (st::rest) (S9 t u):=by
 intro pins s σ H D I h
 obtain ⟨P,h,g⟩:=h
 refine wpAny_execs_cons (cx (h1 pins s σ H _ I h) fun f s1 q=>?_)
 cases f with
 | ret v=>exact q
 | brk=>exact q
 | cont=>exact q
 | next=>
  obtain ⟨τ,G,J,p⟩:=q
  exact h2 pins s1 τ G D J (g τ G p)
end
section
variable {X:Cx}
end
section
variable {X:Cx}
end
section
variable {prog:Program} {w:World} {A:Around} {E:Value->Shared->Prop} {s:Shared}
section
variable {z TI TO i1 i2:Addr} {f1 f2:List Addr} {n1 n2 i:Nat} {P1 P2:Nat->Value->Prop} {S1 S2:Nat->Heap->Prop} {a b:Value}
end
end
section
variable {X:Cx} {elts:List Expr} {k:Nat} {pos':Pos} {a b:Expr} {ta:TA} {p pos:Pos}
end
section
variable {X:Cx}
theorem vE:dh X (.builtin "isinstance") (fun xs H Q=> ∃b,xs=[.bl b, .ty "bool"]/\Q (.bl true) H):=by
 intro pins s σ H xs us Q I r h
 obtain ⟨b,rfl,q⟩:=h
 obtain ⟨u,w',rfl,r1,r2⟩:=vals2 r
 cases (show w'=Value.type "bool" from r2)
 exact AY I r1 (.bl b) (by unfold PySem.W.kitOne;rw[if_pos (by decide)]) fun tk=>⟨.bl true,H,I.tok _,rfl,q⟩
end
end L2
namespace L2
open PySem PySem.Spec PyProof.Rows PySem.MeetsSeq PySem.SeqAt
section
variable {X:Cx}
end
end L2
set_option maxHeartbeats 4000000
namespace XL
open PySem PySem.Spec PySem.Calls PyProof.Rows PySem.W Builtin Builtin.ObjectAttr
section
variable {prog:Program} {w:World} {A:Around} {E:Value->Shared->Prop} {h:Heap} {g:Array GenState} {d:Drawn} {t:Nat} {os:OsState} {K:Frag} {C:Addr}
variable {x:Addr} {mA:Str->Option Value} {name:Str} {v:Value}
end
end XL
set_option maxHeartbeats 4000000
namespace XL
open PySem PySem.Spec PySem.Calls PyProof.Rows PySem.W Builtin Builtin.ObjectAttr
section
variable {prog:Program} {w:World} {A:Around} {E:Value->Shared->Prop} {h:Heap} {g:Array GenState} {d:Drawn} {t:Nat} {os:OsState} {K:Frag} {C x:Addr}
end
end XL
set_option maxHeartbeats 4000000
namespace XL
open PySem PySem.Spec PySem.Calls PyProof.Rows PySem.W
section
variable {M:Model} {A:Around} {E:Value->Shared->Prop} {s:Shared} {base:Heap} {env:Env} {outer:List Env} {L e C:Addr} {dO:Option Addr}
end
end XL
set_option maxHeartbeats 4000000
namespace L2
open PySem PySem.Spec PyProof.Rows XL
section
variable {P:Program} {w:World} {H H' H1 H2:Hp} {h h' h0 h1 h2:Heap} {a e:Addr} {o:HO} {fs ex S:List Addr}
end
section
variable {P:Program} {w:World} {K:PySem.W.Frag} {mg:Str->Option Value} {base:Heap} {N:List Str} {qual:Str} {scope:Scope} {f:Addr} {cd:Value} {A:Around} {outer:List Env} {s:Shared} {H:Hp} {E:XK}
end
end L2
set_option maxHeartbeats 4000000
namespace L2
open PySem PySem.Spec PyProof.Rows XL
section
variable {X:Cx} {pins:List (Addr×Obj)} {σ:St} {H:Hp} {s:Shared} {a:Addr} {o:HO}
end
section
variable {X:Cx} {CX:AZ} {k:Nat} {f C:Addr} {fd:FuncData} {ps:List Str} {sp:Sp} {dvs:List V} {ds:List Value} {E:St->XK} {x:Str} {p pos:Pos} {e:Expr} {es:List Expr} {ta te:TE} {t:TA}
end
section
variable {P:Program} {w:World} {K:PySem.W.Frag} {mg:Str->Option Value} {base:Heap}
end
end L2
set_option maxHeartbeats 4000000
namespace L2
open PySem PySem.Spec PyProof.Rows XL
section
variable {X:Cx} {k:Nat} {f C M:Addr} {fd:FuncData} {ps:List Str} {sp:Sp} {x:Str} {p pos apos:Pos} {e:Expr} {es:List Expr} {ta te tv:TE} {t:TA} {pins:List (Addr×Obj)} {σ:St} {H:Hp} {s:Shared}
end
end L2
set_option maxHeartbeats 4000000
namespace L2
open PySem PySem.Spec PyProof.Rows XL
section
variable {X:Cx} {pins pn:List (Addr×Obj)} {σ:St} {H:Hp} {s:Shared} {W:Value->Shared->Prop} {ev:Value}
end
section
variable {X:Cx} {M:Addr} {n:Nat} {mx nm:Str} {body UK:List Stmt} {b₀:Stmt} {tb:(St->XK)->TS} {th:TS} {pos kP mp:Pos} {pins:List (Addr×Obj)} {σ:St} {H:Hp} {s:Shared} {D:Ends}
end
end L2
set_option maxHeartbeats 4000000
namespace L2
open PySem PySem.Spec PyProof.Rows XL
noncomputable def UL (s:Stmt) (j:Nat):Stmt:=match s with
 | .ClassDef _ _ _ b _ _ _ _ _ _ _=>b.getD j (.Pass ⟨0,0,0,0⟩)
 | _=> .Pass ⟨0,0,0,0⟩
end L2
set_option maxHeartbeats 4000000
namespace L2
open PySem PySem.Spec PyProof.Rows XL
def Pc (_ j:Int):Prop:=0<j/\j<18446744073709551616
theorem cU {X:Cx}:iL X (binaryOp .FloorDiv) (rI Pc fun i j=> .int (i / j)):=Qw fun i j _ _ _ _ _ hc q=>by
 have h1:(0:Int)<j:=hc.1
 have h2:j<18446744073709551616:=hc.2
 have h3:j.natAbs<2 ^ 64:=by omega
 exact floordiv_int (by omega) (by rw[Int.fdiv_eq_ediv_of_nonneg i (by omega)];exact q) (.inl (PyProof.noPylong_of_log2 (Qbo ((Nat.log2_lt (by omega)).mpr h3) (by decide))))
end L2
namespace PySem
end PySem
namespace L2
open PySem PySem.Spec PyProof.Rows
section
variable {P:Program} {w:World} {K:PySem.W.Frag} {mg:Str->Option Value} {base:Heap}
end
section
variable {X:Cx}
end
section
variable {X:Cx}
end
end L2
set_option maxHeartbeats 1000000
namespace L2.F3
open PySem PySem.Spec PyProof.Rows
end L2.F3
namespace L2
open PySem PySem.Spec PyProof.Rows
section
variable {prog:Program} {w:World} {A:Around} {E:Value->Shared->Prop} {s:Shared}
end
section
variable {X:Cx}
end
section
variable {P:Program} {w:World} {K:PySem.W.Frag} {mg:Str->Option Value} {base:Heap}
end
section
variable {X:Cx}
noncomputable def dg (n:Nat):List Nat:=((toString (n:Int):String):Str).cps.toList
theorem S_ (n:Nat):((toString (n:Int):String):Str)=S (dg n):=OH _
theorem Bm {n:Nat} (h:n<2 ^ 60):((n:Int)).natAbs.log2<1920:=by
 rw[Int.natAbs_natCast]
 by_cases z:n=0
 ·subst z;decide
 ·exact (Nat.log2_lt z).mpr (ZE h (Nat.pow_le_pow_right (by decide) (by decide)))
theorem Bn:dh X (.type "str") (fun xs H Q=> ∃n:Nat,xs=[.int n]/\n<2 ^ 60/\Q (.str (S (dg n))) H):=by
 intro pins s σ H xs us Q I r h
 obtain ⟨n,rfl,hz,q⟩:=h
 refine sF pins s σ H _ us Q I r ⟨n,rfl,Bm hz,?_⟩
 rw[S_]
 exact q
end
section
variable {X:Cx} {elts:List Expr} {k:Nat} {pos':Pos} {a b:Expr} {ta:TA} {p pos:Pos}
end
end L2
set_option maxHeartbeats 1000000
namespace L2
open PySem PySem.Spec PyProof.Rows
theorem vF:typeLookup (.type "dict") "__len__"=pure (some (.builtin "dict.__len__")):=PySem.F.slot_dict_len.lookup
section
variable {prog:Program} {w:World} {A:Around} {E:Value->Shared->Prop} {s:Shared} {KK:Type} [DecidableEq KK] {knd:PySem.KeyKind prog w KK}
theorem s_ {Q:List Value->Shared->Prop} (hh:A.handled=none) (d:Addr) (aT:List (KK×Value)) (ep:Nat) (hd:(d==sysModules)=false) (hm:s.heap.DictAt knd d aT ep) (hn:aT.length<=sizeLine)
  (hQ: ∀s' acc,(∀b o,s.heap.get? b=some o->s'.heap.get? b=some o)->s'.gens=s.gens->s'.drawn=s.drawn->s'.os=s.os->ItemsOf (fun i v=> ∃k x,aT[i]? =some (k,x)/\knd.is k v=true) acc aT.length->Q acc.toList s'):
  wpAny (model prog w) A (collect (.ref d)) Q E s:=by
 have hT:s.TypeIs (.ref d) "dict":=hm.dictOf.typeIs
 obtain ⟨od,Pd,WG⟩:=id hT
 have Pe:=Zr Pd
 unfold collect
 refine wpAny_bind (wpAny_runValue (codeAny_builtin PySem.F.entry_proto_collect ?_))
 rw[Around.under_plainId PySem.F.plain_proto_collect _]
 show wpAny _ A.in1 (newList [] >>= fun l=>again (.builtin "list.__iadd__" ⟨[l, .ref d],[]⟩)) _ _ s
 refine wpAny_bind (wpAny_newObj_type ?_)
 refine wpAny_pure ⟨plainId_quiet Qb0 _,codeAny_builtin PySem.F.entry_list_iadd ?_⟩
 rw[Around.under_plainId Qb0 _]
 show wpAny _ A.in1 (Builtin.List.listExtendWith (.ref s.heap.objs.size) (.ref d) (.ref s.heap.objs.size)) _ _ _
 generalize hH:s.heap.push { cls:= .type "list",data:= .seq ([]:List Value).toArray }=H
 have Ta:H.objs.size=s.heap.objs.size+1:=by rw[<-hH,Qbw]
 have Ph:H.DictAt knd d aT ep:=hm.at' fun o e=>by rw[<-hH];exact QC _ e
 have WH:Shared.TypeIs { s with heap:=H } (.ref d) "dict":=Ph.dictOf.typeIs
 have Tc:s.heap.objs.size≠d:=Qcx Pe
 unfold Builtin.List.listExtendWith
 refine wpAny_bind (wpAny_typeOf WH ?_)
 have h1:Builtin.List.listSameRef (.ref s.heap.objs.size) (.ref d)=false:=by simp[Builtin.List.listSameRef,Tc]
 rw[if_neg (by rw[h1];decide)]
 refine wpAny_bind (wpAny_pyIter_dict (s:={ s with heap:=H }) hd Ph ?_)
 show wpAny _ A.in1 _ _ _ { s with heap:=H.push { cls:= .type "dict_keyiterator",data:= .fields #[.ref d, .int 0 0, .int aT.length 0, .int ep 0] } }
 generalize Iw:H.push { cls:= .type "dict_keyiterator",data:= .fields #[.ref d, .int 0 0, .int aT.length 0, .int ep 0] }=H2
 have GP:H2.DictAt knd d aT ep:=Ph.at' fun o e=>by rw[<-Iw];exact QC _ e
 have Td:Shared.TypeIs { s with heap:=H2 } (.ref d) "dict":=GP.dictOf.typeIs
 refine wpAny_bind (wpAny_holding ?_)
 unfold Builtin.List.listLengthHint
 refine wpAny_bind (wpAny_specialOf Td vF ?_)
 wp_delta
 refine wpAny_bind (wpAny_isInstance (T:="dict") (b:=true) Td (by rw[isSubtype_type];kernel_rfl) ?_)
 show wpAny _ A.in1 (typeOf (Value.ref d) >>= _) _ _ _
 refine wpAny_bind (wpAny_typeOf Td ?_)
 refine wpAny_pure ?_
 rw[if_pos (by decide+kernel)]
 refine wpAny_bind (wpAny_rule ?_)
 refine wpAny_bind ?_
 unfold Builtin.List.listTouch
 have hS:H2.get? s.heap.objs.size=some { cls:= .type "list",data:= .seq ([]:List Value).toArray }:=by
  rw[<-Iw];exact QC _ (by rw[<-hH];exact Zq _ rfl)
 refine wpAny_bind (wpAny_updateSeq hS rfl ?_ (YU _) (Qap (YU _)))
 have Ko:=Z9 (Obj.mapSeq (fun l:Array Value=>l.push .none)) hS rfl
 refine wpAny_updateSeq Ko rfl ?_ (by show 1<=sizeLine;decide) (YU _)
 have SR:=Z9 (Obj.mapSeq (fun l:Array Value=>l.pop)) Ko rfl
 have L7: ∀b o,b≠s.heap.objs.size->H2.get? b=some o->((H2.update s.heap.objs.size (Obj.mapSeq (fun l:Array Value=>l.push .none))).update s.heap.objs.size (Obj.mapSeq (fun l:Array Value=>l.pop))).get? b=some o:=fun b o hb e=>
  (ZP _ _ (Ne.symm hb)).trans ((ZP _ _ (Ne.symm hb)).trans e)
 have hit:H2.get? H.objs.size=some { cls:= .type "dict_keyiterator",data:= .fields #[.ref d, .int 0 0, .int aT.length 0, .int ep 0] }:=by rw[<-Iw];exact Zq _ rfl
 have UM:H.objs.size≠s.heap.objs.size:=by rw[Ta];exact Qco _
 have WI:d≠H.objs.size:=by rw[Ta];exact Zu (Qa7 Pe)
 have SO:s.heap.objs.size∉[H.objs.size,d]:=fun WJ=>by
  rcases Wj.mp WJ with z | z
  ·exact UM z.symm
  ·exact Tc (Wg.mp z)
 refine wpAny_pure ⟨plainId_quiet PySem.F.plain_extend_loop _,codeAny_extend_loopS (Walks.dictKeys (knd:=knd) (A:=A.in1) hh H.objs.size d WI aT ep).toS hn _ SO _ aT.length 0 _ _ _ rfl (YU _)
  ⟨⟨_,L7 _ _ UM hit,rfl,rfl⟩,GP.at' fun o e=>L7 d o (Ne.symm Tc) e⟩ SR (ItemsOf.nil _) fun s' cB c' QG Kq iN=>?_⟩
 show wpAny _ A (load s.heap.objs.size >>= _) _ _ s'
 refine wpAny_bind (wpAny_load Kq ?_)
 refine wpAny_pure (hQ s' cB (fun b ob e=>QG.heap b ob (fun hb=>?_) (L7 b ob (Zu (Zr e)) (by rw[<-Iw];exact QC _ (by rw[<-hH];exact QC _ e)))) QG.gens QG.drawn QG.os iN)
 have cC:=Zr e
 rcases Wj.mp hb with h | h
 ·exact absurd cC (h▸ZS _)
 ·rw[Wg.mp h,Ta]at cC;exact absurd cC (Nat.not_lt.mpr (Qa0 _))
end
section
variable {X:Cx}
theorem zK {aT:List (Key×V)} {vs:List (Key×Value)} (h:KV aT vs):vs.map (·.1)=aT.map (·.1):=by
 induction h with
 | nil=>rfl
 | cons r _ ih=>rw[ZC,ZC,ih,r.1]
end
section
variable {X:Cx}
end
end L2
set_option maxHeartbeats 4000000
namespace XL
open PySem PySem.Spec PySem.Calls PyProof.Rows PySem.W
section
variable {M:Model} {A:Around} {E:Value->Shared->Prop} {s:Shared} {base:Heap} {env WK:Env} {outer:List Env} {L e C:Addr} {dO:Option Addr}
end
end XL
set_option maxHeartbeats 4000000
namespace L2
open PySem PySem.Spec PyProof.Rows XL
section
variable {P:Program} {w:World} {K:PySem.W.Frag} {mg:Str->Option Value} {base:Heap} {N:List Str} {qual:Str} {scope:Scope} {f:Addr} {cd:Value} {A:Around} {outer:List Env} {s:Shared} {H:Hp} {E:XK}
end
section
variable {X:Cx} {scope:Scope} {C:Addr} {Nc:List Str} {s0:Shared} {H0:Hp} {fp:List Addr} {pn pins:List (Addr×Obj)} {xe:Value->Shared->Prop} {σ:St} {H:Hp} {s:Shared}
end
end L2
set_option maxHeartbeats 1000000
namespace L2
open PySem PySem.Spec PyProof.Rows
section
variable {X:Cx}
end
section
variable {X:Cx}
end
end L2
namespace PySem
open Sem (wp)
section
variable {prog:Program} {w:World} {K:Type} [DecidableEq K] (knd:KeyKind prog w K)
variable {knd}
variable {A:Around} {E:Value->Shared->Prop} {s:Shared}
end
end PySem
namespace PySem
open Sem (wp)
namespace F
end F
section
variable {prog:Program} {w:World} {A:Around} {E:Value->Shared->Prop} {s:Shared}
end
section
variable {prog:Program} {w:World} {K:Type} [DecidableEq K] {knd:HeapKind prog w K} {A:Around} {E:Value->Shared->Prop} {s:Shared}
end
end PySem
namespace L2
open PySem PySem.Spec PyProof.Rows
section
variable {X:Cx} {o i:Expr} {pos:Pos} {td ty:TE}
end
end L2
namespace L2.F2
open PySem PySem.Spec PyProof.Rows
end L2.F2
namespace L2
open PySem PySem.Spec PyProof.Rows
section
variable {prog:Program} {w:World} {A:Around} {E:Value->Shared->Prop} {s:Shared}
end
section
variable {X:Cx} {tg:Expr}
end
end L2
set_option maxHeartbeats 1000000
namespace L2
open PySem PySem.Spec PyProof.Rows
section
variable {X:Cx}
theorem Dj {i:Nat} (h:(i:Int)<2 ^ 63):Builtin.List.listFitsIndex (i:Int)=true:=by
 unfold Builtin.List.listFitsIndex
 rw[Z8]
 exact ⟨decide_eq_true (by omega),decide_eq_true (by omega)⟩
def GQ:V->List V->Hp->VK->Prop:=fun x vs H Q=> ∃(l:Addr) (xs:List V) (i:Nat) (y:V),x= .ref l/\vs=[.int i,y]/\H l=some (.lst xs)/\i<=xs.length/\xs.length<sizeLine/\Q .fH (upd H l (.lst (xs.take i++y::xs.drop i)))
theorem Bo:L4 X "list.insert" GQ:=by
 intro pins s σ H x vs v us Q I rx rv h
 obtain ⟨l,xs,i,y,rfl,rfl,hH,hi,hz,q⟩:=h
 cases rx
 obtain ⟨a,b,rfl,⟨t,rfl⟩,rb⟩:=vals2 rv
 obtain ⟨z,aO,n,r,hl,e⟩:=I.qr hH
 have hn:=eQ
 have hf: ¬(!Builtin.List.listFitsIndex (i:Int))=true:=by rw[Dj (by omega)];decide
 have hsz:aO.toArray.size<=sizeLine:=by rw[Wl];omega
 generalize hI:(i:Int)=I' at hf
 have hm:=PySem.AutoSeq1.list_insert_list_int_val_1 l aO.toArray n I' t b hf hsz
 refine call_meets F.slot_list_insert ⟨_,e,rfl⟩ F.entry_list_insert (F.args_list_insert_3 _ _ _) hm ⟨e,?_⟩
 clear hm
 refine ⟨.fH,_,I.A5 (its':=aO.take i++b::aO.drop i) hH e ?_ ?_ ?_,rfl,q⟩
 ·have e1:(if I'<0 then (I'+(aO.toArray.size:Int)).toNat else min I'.toNat aO.toArray.size)=i:=by rw[<-hI,if_neg (by omega),YT,Wl];omega
  show ((aO.toArray.extract 0 (if I'<0 then (I'+(aO.toArray.size:Int)).toNat else min I'.toNat aO.toArray.size)).push b++aO.toArray.extract (if I'<0 then (I'+(aO.toArray.size:Int)).toNat else min I'.toNat aO.toArray.size))=_
  rw[e1]
  apply Qcs.mp
  simp
  exact ZG (by rw[Zz];exact Ur _)
 ·have h1:Vals (xs.take i) (aO.take i):=r.take i
  exact h1.append (.cons rb (r.drop i))
 ·rw[L5,ZM,Zo,Zz];omega
end
end L2
namespace L2
open PySem PySem.Spec PyProof.Rows PySem.W
section
section
variable {lt:Nat->Nat->Bool} {n:Nat}
end
end
section
variable {prog:Program} {w:World} {A:Around} {E:Value->Shared->Prop} {s:Shared}
end
section
variable {X:Cx}
end
section
variable {X:Cx} {tg:Expr}
end
section
variable {X:Cx} {tg:Expr}
end
end L2
namespace L2
open PySem PySem.Spec PyProof.Rows PySem.MeetsSeq PySem.SeqAt
section
variable {X:Cx}
end
section
variable {prog:Program} {w:World} {A:Around} {E:Value->Shared->Prop} {s:Shared}
variable {z TI TO i1 i2:Addr} {f1 f2:List Addr} {n1 n2 i:Nat} {P1 P2:Nat->Value->Prop} {S1 S2:Nat->Heap->Prop} {a b:Value}
end
section
variable {X:Cx} {nx:Str} {pos':Pos} {a b:Expr} {ta:TA} {p pos:Pos}
end
end L2
namespace L2
open PySem PySem.Spec PyProof.Rows HT
section
variable {prog:Program} {w:World} {A:Around} {E:Value->Shared->Prop} {s:Shared}
end
section
variable {X:Cx}
end
section
variable {X:Cx} {o i e value tg:Expr} {pos pos' Oe:Pos} {td ty tv:TE} (K:PySem.W.Frag) (P:Program) (w:World)
end
section
variable {X:Cx}
end
section
variable {X:Cx}
end
section
variable {X:Cx} {tg:Expr}
end
end L2
set_option maxHeartbeats 1000000
namespace L2
open PySem PySem.Spec PyProof.Rows
section
variable {prog:Program} {w:World} {A:Around} {E:Value->Shared->Prop} {s:Shared}
end
section
variable {X:Cx} {a b:Expr} {ta:TA} {p p2 pos yg:Pos}
end
end L2
set_option maxHeartbeats 1000000
namespace L2
open PySem PySem.Spec PyProof.Rows
section
variable {prog:Program} {w:World} {A:Around} {E:Value->Shared->Prop} {s:Shared} {κ:KeyKind} {a₀:Array Keyed}
end
section
variable {prog:Program} {w:World} {A:Around} {E:Value->Shared->Prop} {s:Shared} {κ:KeyKind} {a₀:Array Keyed}
end
end L2
set_option maxHeartbeats 1000000
namespace L2
open PySem PySem.Spec PyProof.Rows
section
variable {prog:Program} {w:World} {A:Around} {E:Value->Shared->Prop} {s:Shared} {κ:KeyKind} {a₀:Array Keyed}
end
section
variable {prog:Program} {w:World} {A:Around} {E:Value->Shared->Prop} {s:Shared} {κ:KeyKind} {a₀:Array Keyed}
end
end L2
set_option maxHeartbeats 1000000
namespace L2
open PySem PySem.Spec PyProof.Rows
section
variable {prog:Program} {w:World} {A:Around} {E:Value->Shared->Prop} {s:Shared}
end
section
variable {X:Cx}
end
end L2
set_option maxHeartbeats 1000000
namespace L2
open PySem PySem.Spec PyProof.Rows
section
variable {X:Cx}
end
end L2
set_option maxHeartbeats 1000000
namespace L2
open PySem PySem.Spec PyProof.Rows
section
variable {prog:Program} {w:World} {A:Around} {E:Value->Shared->Prop} {s:Shared} {kd:SortKind} {lt:Keyed->Keyed->Bool} {a₀:Array Keyed}
end
end L2
set_option maxHeartbeats 1000000
namespace L2
open PySem PySem.Spec PyProof.Rows
section
variable {lt:Keyed->Keyed->Bool}
variable {a b out:Array Keyed} {ia ib k:Nat} {p q:Keyed}
end
section
variable {prog:Program} {w:World} {A:Around} {E:Value->Shared->Prop} {s:Shared} {kd:SortKind} {lt:Keyed->Keyed->Bool} {a₀:Array Keyed}
end
end L2
set_option maxHeartbeats 1000000
namespace L2
open PySem PySem.Spec PyProof.Rows
section
variable {lt:Keyed->Keyed->Bool}
variable {a b out:Array Keyed} {na nb k:Nat} {p q:Keyed}
end
section
variable {prog:Program} {w:World} {A:Around} {E:Value->Shared->Prop} {s:Shared} {kd:SortKind} {lt:Keyed->Keyed->Bool} {a₀:Array Keyed}
end
end L2
set_option maxHeartbeats 1000000
namespace L2
open PySem PySem.Spec PyProof.Rows
section
variable {lt:Keyed->Keyed->Bool}
end
section
variable {prog:Program} {w:World} {A:Around} {E:Value->Shared->Prop} {s:Shared} {kd:SortKind} {lt:Keyed->Keyed->Bool} {a₀:Array Keyed}
end
section
variable {prog:Program} {w:World} {A:Around} {E:Value->Shared->Prop} {s:Shared} {kd:SortKind} {lt:Keyed->Keyed->Bool} {a₀:Array Keyed}
end
end L2
set_option maxHeartbeats 1000000
namespace L2
open PySem PySem.Spec PyProof.Rows
section
variable {prog:Program} {w:World} {A:Around} {E:Value->Shared->Prop} {s:Shared} {kd:SortKind} {lt:Keyed->Keyed->Bool} {a₀:Array Keyed}
end
end L2
set_option maxHeartbeats 1000000
namespace L2
open PySem PySem.Spec PyProof.Rows
theorem tf: ∀a b c:List Int,bL b a=false->bL c b=false->bL c a=false
 | [],[],[],_,_=>rfl
 | [],[],_::_,_,h=>h
 | [],_::_,[],_,_=>rfl
 | [],_::_,_::_,_,_=>rfl
 | _::_,[],_,h,_=>by cases h
 | _::_,_::_,[],_,h=>by cases h
 | x::a,y::b,z::c,h,g=>by
  have h':(if y=x then bL b a else decide (y<x))=false:=h
  have g':(if z=y then bL c b else decide (z<y))=false:=g
  show (if z=x then bL c a else decide (z<x))=false
  by_cases e1:y=x
  ·rw[if_pos e1]at h'
   by_cases e2:z=y
   ·rw[if_pos e2]at g'
    rw[if_pos (e2.trans e1)]
    exact tf a b c h' g'
   ·rw[if_neg e2]at g'
    rw[if_neg fun w=>e2 (w.trans e1.symm), <-e1]
    exact g'
  ·rw[if_neg e1]at h'
   have q1:=of_decide_eq_false h'
   by_cases e2:z=y
   ·rw[if_neg fun w=>e1 (e2.symm.trans w),e2];exact h'
   ·rw[if_neg e2]at g'
    have q2:=of_decide_eq_false g'
    rw[if_neg (by omega)]
    exact decide_eq_false (by omega)
section
variable {prog:Program} {w:World} {A:Around} {E:Value->Shared->Prop} {s:Shared}
end
section
variable {X:Cx}
end
section
variable {X:Cx} {e st:Expr} {te:TE} {ts:TO} {pos p2:Pos}
theorem Bp (l:List Nat) (t tk:Tok):sliceMade (S l) t none none (some (-1,tk))= .str (S l.reverse):=by
 unfold sliceMade
 rw[if_neg (by simp)]
 have e:slicePicked (S l) none none (some (-1,tk))=(List.range (S l).cps.size).reverse:=by
  rw[<-PySem.W.krv_range, <-PySem.W.krv_sliceRange]
  rfl
 rw[e,List.filterMap_reverse,PySem.W.krv_all,eR]
 rfl
def Pj (te:TE) (ts:TO):TE:=fun σ H Q=>te σ H fun x H1=>ts σ H1 fun o H2=>o=some (-1)/\ ∃l,x= .str (S l)/\l.length<=sizeLine/\Q (.str (S l.reverse)) H2
theorem GR (he:PE X e te) (hs:PO X (some st) ts):PE X (.Subscript e (.Slice none none (some st) p2) pos) (Pj te ts):=by
 intro pins s σ H Q I h
 refine Subscript_ (cx (he pins s σ H _ I h) fun v s1 ⟨x,H1,I1,r1,q1⟩=>?_)
 refine wpAny_Slice ?_
 rw[evalPart_none]
 refine wpAny_pure (wpAny_pure (cx (hs pins s1 σ H1 _ I1 q1) fun vk s3 ⟨o,H3,I3,pk,eo,l,ex,hz,q3⟩=>?_))
 subst eo ex
 obtain ⟨t,rfl⟩:=r1
 cases pk with
 | int i tk=>
 have I4:Inv X pins σ H3 { s3 with heap:=s3.heap.push { cls:= .type "slice",data:= .fields #[.none, .none, .int (-1) tk] } }:=I3.kept (t':=s3.toks) fun b ob q=>QC _ q
 show wpAny (model X.prog X.w) X.A (subscriptTail e (.Slice none none (some st) p2) (.str (S l) t) (.ref s3.heap.objs.size)) (EP X pins σ Q) X.xe { s3 with heap:=s3.heap.push { cls:= .type "slice",data:= .fields #[.none, .none, .int (-1) tk] } }
 refine tail_any (ops:=[.str (S l) t, .ref s3.heap.objs.size]) (typeIs_str _ _ _) F.slot_str_getitem.lookup (wpAny_getItem_str_slice (l:=none) (u:=none) (st:=some (-1,tk)) ⟨_,Zq _ rfl,rfl,rfl⟩ rfl ?_) (by with_unfolding_all rfl)
 rw[Bp]
 refine ⟨by rw[cu,ZF];exact hz,?_⟩
 exact ⟨.str (S l.reverse),H3,I4.tok _,⟨_,rfl⟩,q3⟩
end
end L2
namespace PySem
open PySem.Spec PyProof.Rows
section
variable {M:Model} {A:Around} {E:Value->Shared->Prop} {s₀ s:Shared} {m cm:Str->Option Value} {env:Env}
end
end PySem
namespace L2
open PySem PySem.Spec PyProof.Rows
section
variable {P:Program} {w:World} {K:PySem.W.Frag} {mg:Str->Option Value} {base:Heap}
end
section
variable {X:Cx} {n:Nat} {p:Value->Shared->Prop}
end
section
variable {X:Cx}
end
section
variable {X:Cx}
end
section
variable {X:Cx}
end
section
variable {X:Cx}
end
section
variable {X:Cx}
end
end L2
set_option maxHeartbeats 1000000
namespace L2
open PySem PySem.Spec PyProof.Rows
section
variable {prog:Program} {w:World} {A:Around} {E:Value->Shared->Prop} {s:Shared}
end
section
variable {X:Cx}
end
section
variable {X:Cx}
end
section
variable {X:Cx}
end
section
variable {X:Cx}
end
end L2
set_option maxHeartbeats 4000000
namespace L2
open PySem PySem.Spec PyProof.Rows
section
variable {X:Cx} {K:PySem.W.Frag} {CX:AZ} {k1 k2:Nat} {f1 f2:Addr} {UN UO:FuncData} {UP UQ:List Str} {QH QI:Sp} {E:XK} {x f:Str} {p pos pos':Pos} {e o value:Expr} {es:List Expr} {ta tv:TE} {t:TA}
theorem bQ (K:PySem.W.Frag) (hK:X.K=K) (he:PE X e ta) (hb:attributeBase e f X.env (eval e X.env)=eval e X.env):PE X (.Attribute e f pos) (Oc K ta f):=by subst hK;exact JJ he hb
def Dk (f1 f2:Addr) (QH QI:Sp) (E:XK) (ta:TE) (t:TA):TE:=fun σ H Q=>ta σ H fun v H1=>(v= .ref f1/\t σ H1 fun vs H2=>QH vs H2 Q E)\/(v= .ref f2/\t σ H1 fun vs H2=>QI vs H2 Q E)
theorem kQ (hf:PE X (.Name x p) ta) (F1:bB X.prog X.w X.K X.mg X.base CX k1 f1 UN UP QH) (FA:fu k1 X.A) (GS:PySem.W.keepIn X.K (.ref f1)=true) (vG:Binds X.K UN UP []) (F2:bB X.prog X.w X.K X.mg X.base CX k2 f2 UO UQ QI) (Pk:fu k2 X.A) (sV:PySem.W.keepIn X.K (.ref f2)=true) (jN:Binds X.K UO UQ []) (hx:Passes CX X E)
  (ha:PA X (e::es) t) (he:starEach (e::es) X.env=(false,eval e X.env)::starEach es X.env:=by rfl) (jI:(backTo pos (starEach es X.env)).any (·.1)=false:=by rfl):
  PE X (.Call (.Name x p) (e::es) [] pos) (Dk f1 f2 QH QI E ta t):=by
 intro pins s σ H Q I h
 refine wpAny_Call_Name_kw (cx (hf pins s σ H _ I h) fun u s1 ⟨v,H1,I1,r,q⟩=>?_)
 rcases q with ⟨rfl,q⟩ | ⟨rfl,q⟩
 ·obtain rfl:u=Value.ref f1:=r
  refine Qcf (h₀:=X.base) I1.ok.mod.LV GS (cx (ha pos pins s1 σ H1 _ I1 q) fun us s2 ⟨vs,H2,I2,r2,q2⟩=>⟨I2.nJ,?_⟩) he jI
  exact xF (dvs:=[]) (ds:=[]) F1 FA vG .nil hx I2 r2 (by rw[Z7];exact q2)
 ·obtain rfl:u=Value.ref f2:=r
  refine Qcf (h₀:=X.base) I1.ok.mod.LV sV (cx (ha pos pins s1 σ H1 _ I1 q) fun us s2 ⟨vs,H2,I2,r2,q2⟩=>⟨I2.nJ,?_⟩) he jI
  exact xF (dvs:=[]) (ds:=[]) F2 Pk jN .nil hx I2 r2 (by rw[Z7];exact q2)
end
end L2
set_option maxHeartbeats 4000000
namespace L2
open PySem PySem.Spec PyProof.Rows
section
variable {prog:Program} {w:World} {A:Around} {E:Value->Shared->Prop} {R:Result->Shared->Prop} {I S:Addr} {fp wr:List Addr} {n:Nat} {P:Nat->Value->Prop} {St:Nat->Heap->Prop} {kw:List (Str×Value)} {bt:Nat->Nat->Bool}
theorem zL:(toString "max"++toString ".loop":String)="max.loop":=by decide
theorem Pl (W:Walks prog w A.in1 I fp wr n P St) (cm:CmpOf prog w A.in1 .Gt P bt) (sf:S∉fp): ∀(m j:Nat) (s:Shared) (b:Value) (c:Nat),n=j+1+m->St (j+1) s.heap->P (argBest bt j) b->s.heap.get? S=some { cls:= .type "list",dict:=none,data:= .seq #[b,b] c,slots:= #[] }->
  (∀v h' tk,P (argBest bt (n - 1)) v->(∀a o,a∉wr->a≠S->s.heap.get? a=some o->h'.get? a=some o)->R (.ok (.ret v)) { s with heap:=h',toks:=tk })->
  codeAny (model prog w) A (.builtin "max.loop" ⟨[.ref I, .none, .ref S],kw⟩) R s:=by
 have sw:S∉wr:=fun z=>sf (W.sub _ z)
 intro m
 induction m with
 | zero=>
  intro j s b c en jH hb hS hR
  have e1:n=j+1:=en
  subst e1
  refine codeAny_builtin Qcv ?_
  rw[Around.under_plainId Qas _]
  refine wpAny_bind (m:=seqItems? (.ref S)) (wpAny_seqItems hS rfl ?_)
  refine wpAny_bind (m:=tryCatch (pyNext (.ref I)) _) (wpAny_tryCatch (W.done s _ _ jH fun h1 tk k1=>?_))
  refine wpAny_bind (m:=updateSeq S fun _=> #[]) (wpAny_updateSeq (k1 S _ sw hS) rfl (wpAny_bind (wpAny_letGo (wpAny_pure ?_))))
  exact hR b _ tk hb fun a o aw aS ea=>(ZP _ _ (Ne.symm aS)).trans (k1 a o aw ea)
 | succ m ih=>
  intro j s b c en jH hb hS hR
  refine codeAny_builtin Qcv ?_
  rw[Around.under_plainId Qas _]
  refine wpAny_bind (m:=seqItems? (.ref S)) (wpAny_seqItems hS rfl ?_)
  refine wpAny_bind (m:=tryCatch (pyNext (.ref I)) _) (wpAny_tryCatch (W.item (j+1) s _ _ (by omega) jH fun v h1 tk pv xc k1=>?_))
  have L9:=k1 S _ sw hS
  refine wpAny_bind (m:=tryCatch (holding [v,v] (richCompare .Gt v b >>= _)) _) (wpAny_tryCatch (wpAny_holding (wpAny_bind (cm (j+1) (argBest bt j) v b _ _ _ pv hb (wpAny_bind (wpAny_holding (wpAny_truthy_bool (wpAny_bind (wpAny_letGo (wpAny_pure ?_))))))))))
  cases q:bt (j+1) (argBest bt j)
  ·rw[if_neg (by decide)]
   refine wpAny_bind (wpAny_letGo ?_)
   rw[zL]
   refine wpAny_pure ⟨plainId_quiet Qas _,ih (j+1) _ b c (by omega) xc (by rw[argBest,q];exact hb) L9 fun v' h2 Pm p2 k2=>?_⟩
   exact hR v' h2 Pm p2 fun a o aw aS ea=>k2 a o aw aS (k1 a o aw ea)
  ·rw[if_pos rfl]
   refine wpAny_bind (wpAny_updateSeq L9 rfl (wpAny_bind (wpAny_letGo ?_)))
   rw[zL]
   refine wpAny_pure ⟨plainId_quiet Qas _,ih (j+1) _ v _ (by omega) (W.frame _ _ _ xc fun a af o ea=>?_) (by rw[argBest,q];exact pv) (Z9 _ L9 rfl) fun v' h2 Pm p2 k2=>?_⟩
   ·exact (ZP _ _ (fun z:S=a=>sf (z▸af))).trans ea
   ·exact hR v' h2 Pm p2 fun a o aw aS ea=>k2 a o aw aS ((ZP _ _ (Ne.symm aS)).trans (k1 a o aw ea))
theorem Pn (a d:Value):argsOk "max" ⟨[a],[(Str.ofString "default",d)]⟩:=by unfold argsOk;kernel_rfl
theorem GU {s:Shared} {x d:Value} {Q:Value->Shared->Prop}
  (h:wpAny (model prog w) A.in1 (pyIter x) (fun it s₂=> ∃I fp wr n P St bt,it= .ref I/\Walks prog w A.in1 I fp wr n P St/\St 0 s₂.heap/\(∀b∈fp,b<s₂.heap.objs.size)/\CmpOf prog w A.in1 .Gt P bt/\
   ∀v h' tk,(n=0->v=d)->(0<n->P (argBest bt (n - 1)) v)->(∀b o,b∉wr->s₂.heap.get? b=some o->h'.get? b=some o)->Q v { s₂ with heap:=h',toks:=tk }) E s):
  wpAny (model prog w) A (call (.builtin "max") [x] [(Str.ofString "default",d)]) Q E s:=by
 refine kmk_tree PySem.F.kind_max PySem.F.plain_max PySem.F.entry_max (Pn x d) ?_
 refine wpAny_bind (m:=Builtin.Builtins.bindParams "max" ["key","default"] 0 ⟨[],[(Str.ofString "default",d)]⟩) (wpAny_of_eq (a:=[none,some d]) rfl ?_)
 refine wpAny_bind (wpAny_pure (wpAny_bind (wpAny_mono h (fun it s2 h2=>?_) fun _ _ e=>e)))
 obtain ⟨I,fp,wr,n,P,St,bt,rfl,W,jH,WL,cm,hQ⟩:=h2
 refine wpAny_bind (wpAny_newObj_type ?_)
 have sf:s2.heap.objs.size∉fp:=fun z=>ZS _ (WL _ z)
 have sw:s2.heap.objs.size∉wr:=fun z=>sf (W.sub _ z)
 have hS:(s2.heap.push { cls:= .type "list",data:= .seq #[] }).get? s2.heap.objs.size=some { cls:= .type "list",dict:=none,data:= .seq #[] 0,slots:= #[] }:=Zq _ rfl
 have Po:=W.frame _ _ (s2.heap.push { cls:= .type "list",data:= .seq #[] }) jH fun b _ o e=>QC _ e
 have lo: ∀{b o},s2.heap.get? b=some o->b≠s2.heap.objs.size:=fun e=>Zu (Zr e)
 rw[zL]
 refine wpAny_pure ⟨plainId_quiet Qas _,codeAny_builtin Qcv ?_⟩
 rw[Around.under_plainId Qas _]
 refine wpAny_bind (m:=seqItems? (.ref s2.heap.objs.size)) (wpAny_seqItems hS rfl ?_)
 cases n with
 | zero=>
  refine wpAny_bind (m:=tryCatch (pyNext (.ref I)) _) (wpAny_tryCatch (W.done _ _ _ Po fun h1 tk k1=>?_))
  refine wpAny_bind (wpAny_rule ?_)
  refine wpAny_pure (hQ d h1 tk (fun _=>rfl) (fun z=>absurd z (ZS _)) fun b o bw e=>k1 b o bw (QC _ e))
 | succ m=>
  refine wpAny_bind (m:=tryCatch (pyNext (.ref I)) _) (wpAny_tryCatch (W.item 0 _ _ _ (Nat.succ_pos _) Po fun v h1 tk pv xc k1=>?_))
  have L9:=k1 _ _ sw hS
  refine wpAny_bind (m:=updateSeq s2.heap.objs.size fun _=> #[v,v]) (wpAny_updateSeq L9 rfl ?_)
  rw[zL]
  refine wpAny_pure ⟨plainId_quiet Qas _,Pl W cm sf m 0 _ v _ (by omega) (W.frame _ _ _ xc fun a af o ea=>?_) pv (Z9 _ L9 rfl) fun v' h2 Pm p2 k2=>?_⟩
  ·exact (ZP _ _ (fun z:s2.heap.objs.size=a=>sf (z▸af))).trans ea
  ·exact hQ v' h2 Pm (fun z=>by omega) (fun _=>p2) fun b o bw e=>k2 b o bw (lo e) ((ZP _ _ (Ne.symm (lo e))).trans (k1 b o bw (QC _ e)))
end
noncomputable def Ku (d:Int):List Int->Int
 | []=>d
 | a::r=>r.foldl (fun x y=>if y>x then y else x) a
noncomputable def fB (l:List Int) (i j:Nat):Bool:=decide (l.getD i 0>l.getD j 0)
theorem kR (l:List Int): ∀n:Nat,n<l.length->l.getD (argBest (fB l) n) 0=((l.drop 1).take n).foldl (fun x y=>if y>x then y else x) (l.getD 0 0)
 | 0,_=>by simp[argBest]
 | n+1,h=>by
  have ih:=kR l n (by omega)
  have e:(l.drop 1).take (n+1)=(l.drop 1).take n++[l.getD (n+1) 0]:=by
   rw[Qch,Qau,show 1+n=n+1 by omega,Zp,J0 h]
   rfl
  rw[e,List.foldl_append, <-ih]
  show l.getD (if fB l (n+1) (argBest (fB l) n)=true then n+1 else argBest (fB l) n) 0=if l.getD (n+1) 0>l.getD (argBest (fB l) n) 0 then l.getD (n+1) 0 else l.getD (argBest (fB l) n) 0
  by_cases z:l.getD (n+1) 0>l.getD (argBest (fB l) n) 0
  ·rw[if_pos (show fB l (n+1) (argBest (fB l) n)=true from decide_eq_true z),if_pos z]
  ·rw[if_neg (show ¬fB l (n+1) (argBest (fB l) n)=true from fun w=>z (of_decide_eq_true w)),if_neg z]
section
variable {X:Cx}
theorem Dm {prog:Program} {w:World} {A:Around} {l:List Int} {aO:List Value} (r:Vals (l.map V.int) aO):CmpOf prog w A .Gt (fun i v=>aO.toArray[i]? =some v) (fB l):=by
 intro i j vi vj s Q E hi hj hQ
 have get: ∀{i:Nat} {v:Value},aO.toArray[i]? =some v-> ∃t,v= .int (l.getD i 0) t:=by
  intro i v h
  have h':aO[i]? =some v:=by simpa using h
  have hl:i<l.length:=by have:=(J1.mp h').1;rw[<-r.length,Us]at this;exact this
  obtain ⟨u,hu,ru⟩:=r.get (i:=i) (x:=V.int (l.getD i 0)) (by rw[Zv,Zp,J0 hl];rfl)
  rw[h']at hu;cases hu
  exact ru
 obtain ⟨t,rfl⟩:=get hi
 obtain ⟨u,rfl⟩:=get hj
 exact gt_int hQ
def Pp (K:PySem.W.Frag) (d:Int) (t:TA):TE:=fun σ H Q=>t σ H fun vs H1=> ∃(p:Addr) (l:List Int),vs=[.ref p]/\bD K H1 p (l.map V.int)/\Q (.int (Ku d l)) H1
theorem GV {e:Expr} {t:TA} {d:Int} {j:Nat} {kp cp p pos:Pos} (K:PySem.W.Frag) (hK:X.K=K) (hc:X.calm=true) (hg:Gl X "max") (hm:X.mg "max"=none) (ha:PA X [e] t)
  (he:backTo pos (starEach [e] X.env)=[(false,eval e X.env)]:=by rfl):PE X (.Call (.Name "max" p) [e] [⟨some "default", .Constant (.int d) j cp,kp⟩] pos) (Pp K d t):=by
 subst hK
 intro pins s σ H Q I h
 refine wpAny_Call_Name_kw (fV I hg hm boot_max ?_)
 refine callWith_kw (cx (ha pos pins s σ H _ I h) fun us s1 ⟨vs,H1,I1,r1,q1⟩=>?_) he (by rw[he];rfl)
 obtain ⟨a,l,rfl,hq,q⟩:=q1
 obtain ⟨u,rfl,ru⟩:=vals1 r1
 cases ru
 refine kws_cons (wpAny_Constant_int (kws_nil ?_))
 obtain ⟨aO,rv,pl,hz⟩:=I1.list hq
 have hlen:aO.length=l.length:=by rw[<-rv.length,Us]
 have hp:a<s1.heap.objs.size:=by
  obtain ⟨o,n,e,_⟩:=pl
  exact Zr e
 refine GU (wpAny_pyIter_list pl.isList ?_)
 refine ⟨_,_,_,_,_,_,fB l,rfl,Walks.list (A:=X.A.in1) (I1.ok.hd hc) s1.heap.objs.size a (Zu hp) aO.toArray,⟨⟨_,Zq _ rfl,rfl,rfl⟩,?_⟩,fun b hb=>?_,Dm rv,fun v h' tk h0 h1 hk=>?_⟩
 ·obtain ⟨o,ho,hr⟩:=pl.isList
  exact ⟨o,QC _ ho,hr⟩
 ·show b<(s1.heap.push _).objs.size
  rw[Qbw]
  exact (Wj.mp hb).elim (fun z=>z▸Qbb _) fun z=>(Wg.mp z)▸Qa7 hp
 ·have ru:RelV (.int (Ku d l)) v:=by
   cases l with
   | nil=>
    have:=h0 (by rw[Wl,hlen];rfl)
    subst this
    exact ⟨_,rfl⟩
   | cons b l=>
    have hn:aO.toArray.size - 1=l.length:=by rw[Wl,hlen];rfl
    have hP:=h1 (by rw[Wl,hlen];exact Nat.succ_pos _)
    rw[hn]at hP
    have QD:aO[argBest (fB (b::l)) l.length]? =some v:=by simpa using hP
    have hl:argBest (fB (b::l)) l.length<(b::l).length:=Nat.lt_succ_of_le (argBest_lt _ _)
    have e:=kR (b::l) l.length (Qbb _)
    rw[show ((b::l).drop 1).take l.length=l from ZG (Ur _),Zp,J0 hl]at e
    have e':(b::l)[argBest (fB (b::l)) l.length]=Ku d (b::l):=e
    obtain ⟨u,hu,ru⟩:=rv.get (i:=argBest (fB (b::l)) l.length) (x:=V.int (Ku d (b::l))) (by rw[Zv,J0 hl,e'];rfl)
    rw[QD]at hu;cases hu
    exact ru
  refine ⟨.int (Ku d l),H1,?_,ru,q⟩
  have I2:Inv X pins σ H1 { s1 with heap:=s1.heap.push { cls:= .type "list_iterator",data:= .fields #[.ref a, .int 0 0] },toks:=s1.toks+1 }:=I1.kept (t':=s1.toks+1) fun b o e=>QC _ e
  have f:=I1.oq (H':=H1) (b:=s1.heap.objs.size) (Ur _) I1.fresh
  exact I2.turned (h':=h') (t':=tk) (it:=s1.heap.objs.size) (fun b o hb e=>hk b o (by simpa using hb) e) f.1 f.2.1 f.2.2.2.1 f.2.2.2.2.1 f.2.2.2.2.2
end
end L2
set_option maxHeartbeats 1000000
namespace L2
open PySem PySem.Spec PyProof.Rows
section
variable {X:Cx}
theorem Kv:N0 X .Mult (fun x y H Q=> ∃i j,x= .int i/\y= .int j/\Gb i j/\Q (.int (i*j)) H):=by
 intro pins s σ H x y v u Q I r1 r2 h
 obtain ⟨i,j,rfl,rfl,c,q⟩:=h
 obtain ⟨t,rfl⟩:=r1
 obtain ⟨t',rfl⟩:=r2
 exact imul_int ⟨.int _,H,I.tok _,⟨_,rfl⟩,q⟩ c.ok
theorem GW:N0 X .FloorDiv (fun x y H Q=> ∃i j,x= .int i/\y= .int j/\Sa i j/\Q (.int (i / j)) H):=by
 intro pins s σ H x y v u Q I r1 r2 h
 obtain ⟨i,j,rfl,rfl,hc,q⟩:=h
 obtain ⟨t,rfl⟩:=r1
 obtain ⟨t',rfl⟩:=r2
 have h1:(0:Int)<j:=hc.1
 have h2:j<1073741824:=hc.2
 exact ifloordiv_int (by omega) (by rw[Int.fdiv_eq_ediv_of_nonneg i (by omega)];exact ⟨.int _,H,I.tok _,⟨_,rfl⟩,q⟩) (.inl (PyProof.noPylong_small (by omega)))
end
theorem vH: ∀{ls:List Int} {aO:List Value},Vals (ls.map V.int) aO->IntsAre aO ls
 | [],_, .nil=> .nil
 | _::_,_, .cons ⟨t,e⟩ h=>e▸ .cons _ t (vH h)
theorem vI: ∀{ls:List Int} {aO:List Value},IntsAre aO ls->Vals (ls.map V.int) aO
 | _,_, .nil=> .nil
 | _,_, .cons n t h=> .cons ⟨t,rfl⟩ (vI h)
section
variable {prog:Program} {w:World} {A:Around} {E:Value->Shared->Prop} {s:Shared}
theorem tm {Q:Value->Shared->Prop} (hh:A.handled=none) (d:Addr) (aT:List (Key×Value)) (ep:Nat) (ls:List Int) (hk:aT.map (·.1)=ls.map fun l=>Sum.inl l) (hd:(d==sysModules)=false) (hm:s.heap.DictAt (cI prog w) d aT ep) (Ws:aT.length<64)
  (h: ∀(h1 h':Heap) (tk:Nat) (a:Addr) (out:Array Value) (Cm:List Int) (e:Nat),(∀b o,s.heap.get? b=some o->h1.get? b=some o)->(∀b o,h1.get? b=some o->h'.get? b=some o)->a=h1.objs.size->h'.get? a=some (seqObj "list" out e)->IntsAre out.toList Cm->Cm.Perm ls->(Cm.Pairwise fun a b=> ¬b<a)->Q (.ref a) { s with heap:=h',toks:=tk }):
  wpAny (model prog w) A (call (.builtin "sorted") [.ref d]) Q E s:=by
 refine Calls.call_function_entry kind_sorted plain_sorted entry_sorted (args_sorted1 _) ?_
 unfold Builtin.«sorted»
 refine wpAny_bind (m:=checkCount "sorted" 1 1 _) (wpAny_pure ?_)
 have jJ:(10000:Nat)<sizeLine:=by decide
 refine wpAny_bind (s_ (A:=A.in1) (show A.in1.handled=none from hh) d aT ep hd hm (by omega) (fun s' acc WM hg QJ ho iN=>?_))
 obtain ⟨h1,h2⟩:=iN
 have hlen:aT.length=ls.length:=by have:=congrArg List.length hk;simpa using this
 have rv:Vals (ls.map V.int) acc.toList:=by
  have key: ∀(ls:List Int) (vs:List Value),vs.length=ls.length->(∀(j:Nat) (v:Value),vs[j]? =some v-> ∃l t,ls[j]? =some l/\v=Value.int l t)->Vals (ls.map V.int) vs:=by
   intro ls
   induction ls with
   | nil=>intro vs hl _;have:vs=[]:=Qb8 hl;subst this;exact .nil
   | cons l ls ih=>
    intro vs hl hv
    cases vs with
    | nil=>simp at hl
    | cons v vs=>
     obtain ⟨l',t,e1,e2⟩:=hv 0 v rfl
     have CU:l=l':=by simpa using e1
     subst CU
     refine .cons ⟨t,e2⟩ (ih vs (by simpa using hl) fun j v' e=>?_)
     obtain ⟨l',t',g1,g2⟩:=hv (j+1) v' (by simpa using e)
     exact ⟨l',t',by simpa using g1,g2⟩
  refine key ls acc.toList (by simpa [<-hlen]using h1) fun j v e=>?_
  obtain ⟨k,x,e1,e2⟩:=h2 j v (by simpa using e)
  have e3:(aT.map (·.1))[j]? =some k:=by rw[Zv,e1];rfl
  rw[hk,Zv]at e3
  cases e4:ls[j]? with
  | none=>rw[e4]at e3;cases e3
  | some l=>
   rw[e4]at e3
   have e5:k=Sum.inl l:=(YS e3).symm
   subst e5
   obtain ⟨t,e6⟩:=Value.isInt_shape (k:=l) (v:=v) e2
   exact ⟨l,t,rfl,e6⟩
 have hS:=vH rv
 have hn:acc.toList.length=ls.length:=by rw[<-rv.length,Us]
 refine wpAny_bind (wpAny_newList ?_)
 have NT:(s'.heap.push (seqObj "list" acc.toList.toArray 0)).get? s'.heap.objs.size=some (seqObj "list" acc.toList.toArray 0):=Zq _ rfl
 show wpAny _ _ _ _ _ { s' with heap:=s'.heap.push (seqObj "list" acc.toList.toArray 0) }
 refine wpAny_bind (wpAny_holding (wpAny_call_entry slot_list_sort ⟨_,NT,rfl⟩ entry_list_sort (list_sort_tree NT hS (by omega) fun out Cm k1 k2 k3=>⟨_,rfl,?_⟩) (args_list_sort _)))
 obtain ⟨e,he⟩:=sortedHeap_at (out:=out) NT
 refine wpAny_pure ⟨_,rfl,?_⟩
 have es: ∀hh:Heap,({ s' with heap:=hh }:Shared)={ s with heap:=hh,toks:=s'.toks }:=fun hh=>by
  cases s;cases s'
  simp only at hg QJ ho
  subst hg QJ ho
  rfl
 show Q (.ref s'.heap.objs.size) { s' with heap:=sortedHeap (s'.heap.push (seqObj "list" acc.toList.toArray 0)) s'.heap.objs.size acc.toList (out) }
 rw[es]
 refine h s'.heap _ _ _ _ Cm e WM (fun b o hb=>?_) rfl he k1 k2 (k3.imp fun h=>Int.not_lt.mpr h)
 have cC:=Zr hb
 rw[sortedHeap_old (Zu cC) (by rw[size_push'];exact Qa7 cC)]
 exact QC _ hb
end
section
variable {X:Cx}
def GX:List V->Hp->VK->Prop:=fun xs H Q=> ∃(d:Addr) (aT:List (Key×V)) (ls:List Int),xs=[.ref d]/\H d=some (.dK aT)/\aT.map (·.1)=(ls.map fun l=>Sum.inl l)/\ls.length<64/\ ∀(q:Addr) (ms:List Int),H q=none->ms.Perm ls->(ms.Pairwise fun a b=> ¬b<a)->Q (.ref q) (upd H q (.lst (ms.map V.int)))
theorem qw (hc:X.calm=true):dh X (.builtin "sorted") GX:=by
 intro pins s σ H xs us Q I r h
 obtain ⟨d,aT,ls,rfl,hd,hk,hn,q⟩:=h
 obtain ⟨u,rfl,ru⟩:=vals1 r
 cases ru
 obtain ⟨hz,Te,vs,kv,o,es,ep,e1,e2,e3,e4,e5,e6⟩:=I.b6 d _ hd
 have hlen:vs.length=ls.length:=by
  have a1:=congrArg List.length (zK kv)
  have a2:=congrArg List.length hk
  simp only[Us]at a1 a2
  omega
 refine tm (s:=s) (I.ok.hd hc) d vs ep ls ((zK kv).trans hk) Te ⟨o,es,e1,e2,e3,e4,e5,e6⟩ (by omega) fun h1 h' tk a out Cm e k1 k2 ea he g1 g2 g3=>?_
 have vv:=g2
 have hv:=vI g1
 have pw:=g3
 have I1:Inv X pins σ H { s with heap:=h1,toks:=tk }:=I.kept k1
 have hsz:(10000:Nat)<sizeLine:=by decide
 have I2:Inv X pins σ (upd H a (.lst (Cm.map V.int))) { s with heap:=h',toks:=tk }:=
  I1.laid (t':=tk) (a:=a) (o:= .lst (Cm.map V.int)) k2 (by rw[ea];exact Ur _) ⟨by rw[Us,vv.length_eq];omega,out.toList,e,hv,by simpa [seqObj]using he⟩
 exact ⟨.ref a,_,I2,rfl,q _ _ (I1.b6.fresh (by rw[ea];exact Ur _)) vv pw⟩
end
end L2
set_option maxHeartbeats 1000000
namespace L2
open PySem PySem.Spec PyProof.Rows
section
variable {prog:Program} {w:World} {A:Around} {E:Value->Shared->Prop} {s:Shared}
theorem lZ {R:Result->Shared->Prop} (hh:A.handled=none) (x:Str) (t:Tok) (it:Addr) (hit:di s.heap it x t ((x.length:Int) - 1)) (h0:0<x.length) (hz:x.length<=sizeLine)
  (hR: ∀h' tk cB c',(∀b o,b≠it->s.heap.get? b=some o->h'.get? b=some o)->h'.get? s.heap.objs.size=some { cls:= .type "list",dict:=none,data:= .seq cB c',slots:= #[] }->ItemsOf (fun i v=> ∃c u,x.cps[x.length - 1 - i]? =some c/\v= .str ⟨#[c]⟩ u) cB x.length->R (.ok (.ret (.ref s.heap.objs.size))) { s with heap:=h',toks:=tk }):
  codeAny (model prog w) A (.builtin "proto.collect" ⟨[.ref it],[]⟩) R s:=by
 refine codeAny_builtin PySem.F.entry_proto_collect ?_
 rw[Around.under_plainId PySem.F.plain_proto_collect _]
 show wpAny _ A.in1 (newList [] >>= fun l=>again (.builtin "list.__iadd__" ⟨[l, .ref it],[]⟩)) _ _ s
 refine wpAny_bind (wpAny_newObj_type ?_)
 refine wpAny_pure ⟨plainId_quiet Qb0 _,codeAny_builtin PySem.F.entry_list_iadd ?_⟩
 rw[Around.under_plainId Qb0 _]
 have hS:(s.heap.push { cls:= .type "list",data:= .seq ([]:List Value).toArray }).get? s.heap.objs.size=some { cls:= .type "list",data:= .seq ([]:List Value).toArray }:=Zq _ rfl
 have Kp:di (s.heap.push { cls:= .type "list",data:= .seq ([]:List Value).toArray }) it x t ((x.length:Int) - 1):=by
  obtain ⟨o,ho,r⟩:=hit
  exact ⟨o,QC _ ho,r⟩
 show wpAny _ A.in1 (Builtin.List.listExtendWith (.ref s.heap.objs.size) (.ref it) (.ref s.heap.objs.size)) _ _ _
 exact GL (s:={ s with heap:=s.heap.push { cls:= .type "list",data:= .seq ([]:List Value).toArray } }) hh x t it _ _ _ hS Kp h0 hz fun h' tk cB c' hk Kq iN=>hR h' tk cB c' (fun b o hb e=>hk b o (Zu (Zr e)) hb (QC _ e)) Kq iN
theorem vJ {Q:List Value->Shared->Prop} (hh:A.handled=none) (x:Str) (t:Tok) (it:Addr) (hit:di s.heap it x t ((x.length:Int) - 1)) (h0:0<x.length) (hz:x.length<=sizeLine)
  (hQ: ∀(h':Heap) (tk:Nat) (cB:Array Value),(∀b o,b≠it->s.heap.get? b=some o->h'.get? b=some o)->ItemsOf (fun i v=> ∃c u,x.cps[x.length - 1 - i]? =some c/\v= .str ⟨#[c]⟩ u) cB x.length->Q cB.toList { s with heap:=h',toks:=tk }):
  wpAny (model prog w) A (collect (.ref it)) Q E s:=by
 unfold collect
 refine wpAny_bind (wpAny_runValue (lZ hh x t it hit h0 hz fun h' tk cB c' hk Kq iN=>?_))
 show wpAny _ A (load s.heap.objs.size >>= _) _ _ _
 refine wpAny_bind (wpAny_load Kq ?_)
 exact wpAny_pure (hQ h' tk cB hk iN)
theorem qx {Q:Value->Shared->Prop} (hh:A.handled=none) (sep:Str) (ts:Tok) (x:Str) (t:Tok) (it:Addr) (hit:di s.heap it x t ((x.length:Int) - 1)) (h0:0<x.length) (hz:x.length<=sizeLine)
  (hQ: ∀(h':Heap) (tk:Nat) (l:List (Str×Tok)),(∀b o,b≠it->s.heap.get? b=some o->h'.get? b=some o)->ItemsOf (fun i v=> ∃c u,x.cps[x.length - 1 - i]? =some c/\v= .str ⟨#[c]⟩ u) (strValues l).toArray x.length->
   JoinOk sep (l.map (·.1))=true/\ ∀t' k,Q (.str (Txt.join sep (l.map (·.1))) t') { s with heap:=h',toks:=k }):
  wpAny (model prog w) A (call (.builtin "str.join") [.str sep ts, .ref it]) Q E s:=by
 refine wpAny_call (codeAny_call_builtin Z5.plain PySem.F.entry_str_join (Z5.check _ _ _ _ _ _ _ _ (typeIs_str _ _ _) (PySem.F.args_str_join_2 _ _) ?_))
 rw[join_tree_other]
 refine wpAny_bind (wpAny_typeOf hit.typeIs ?_)
 show wpAny _ A.in1 ((pyIter (.ref it)).tryCatch _ >>= fun it=>collect it >>= fun items=>PySem.joinTail sep items) _ _ s
 refine wpAny_bind (wpAny_tryCatch (fZ hit ?_))
 refine wpAny_bind (vJ (A:=A.in1) hh x t it hit h0 hz fun h' tk acc hk iN=>?_)
 obtain ⟨l,hl⟩:=exists_strValues acc.toList fun v hv=>by
  obtain ⟨j,hj,rfl⟩:=Array.mem_iff_getElem.mp (Array.mem_toList_iff.mp hv)
  obtain ⟨c,u,_,e⟩:=iN.2 j _ (Array.getElem?_eq_getElem hj)
  exact ⟨_,u,e⟩
 rw[<-hl]
 have Pq:ItemsOf (fun i v=> ∃c u,x.cps[x.length - 1 - i]? =some c/\v= .str ⟨#[c]⟩ u) (strValues l).toArray x.length:=by rw[hl];simpa using iN
 obtain ⟨b6,Pu⟩:=hQ h' tk l hk Pq
 unfold JoinOk at b6
 rw[Bool.not_eq_true']at b6
 have g:Gives (PySem.joinTail sep (strValues l)) (joinMade sep l):=by
  have g0:=gives_joinTail sep l b6
  cases l with
  | nil=>exact g0
  | cons p r=>cases r with
   | nil=>exact g0
   | cons q r'=>exact g0
 exact g prog w A (wants Q E) { s with heap:=h',toks:=tk } (post_join l ⟨joinFit_length b6,Pu⟩)
end
section
variable {X:Cx}
def Dp (ta:TA):TE:=fun σ H Q=>ta σ H fun vs H1=> ∃l:List Nat,vs=[.str (S l)]/\0<l.length/\l.length<=1000000/\Q (.str (S l.reverse)) H1
theorem yh {o a:Expr} {ta:TA} {p2 apos yg fX:Pos} (hc:X.calm=true) (ho:PE X o (tC (.str (S [])))) (hg:Gl X "reversed") (hm:X.mg "reversed"=none) (ha:PA X [a] ta)
  (kE:attributeBase o "join" X.env (eval o X.env)=eval o X.env:=by rfl)
  (CF:((backTo fX (starEach [.Call (.Name "reversed" p2) [a] [] yg] X.env)).all (fun x=>!x.1)&&(backToKw fX (keywordEach [] X.env)).all (fun x=>x.1.isSome)
   &&decide (([.Call (.Name "reversed" p2) [a] [] yg]:List Expr).length+([]:List Keyword).length+(if ([]:List Keyword).isEmpty then 0 else 1)<30))=true:=by rfl)
  (jJ:(apos.endLine==fX.line)=true:=by rfl)
  (hs:starEach [a] X.env=[(false,eval a X.env)]:=by rfl) (JD:starEach [.Call (.Name "reversed" p2) [a] [] yg] X.env=[(false,eval (.Call (.Name "reversed" p2) [a] [] yg) X.env)]:=by rfl):
  PE X (.Call (.Attribute o "join" apos) [.Call (.Name "reversed" p2) [a] [] yg] [] fX) (Dp ta):=by
 intro pins s σ H Q I h
 refine wpAny_Call_method_late kE CF jJ rfl (cx (ho pins s σ H (fun x H1=>x= .str (S [])/\H1=H) I ⟨rfl,rfl⟩) fun v s1 ⟨x,H1,I1,r1,ex,eH⟩=>?_)
 subst ex eH
 obtain ⟨ts,rfl⟩:=r1
 obtain ⟨h1,h2⟩:=xI I1 (show RelV (.str (S [])) (.str (S []) ts) from ⟨ts,rfl⟩) (show Qz X.K "str" (.str (S [])) H1 from rfl)
 refine ⟨"str","str.join",Zt,Z5,Qal,h1,h2,?_⟩
 rw[JD]
 refine Qdc rfl (Calls.evalArgs_plain ?_)
 refine Calls.spliced_cons ?_
 refine Call_ (fV I1 hg hm boot_reversed (Z4 (cx (ha yg pins s1 σ H1 _ I1 h) fun us s2 ⟨vs,H2,I2,r2,q2⟩=>?_) hs rfl))
 obtain ⟨l,rfl,h0,hz,q⟩:=q2
 obtain ⟨u,rfl,t,rfl⟩:=vals1 r2
 have WN:(1000000:Nat)<=sizeLine:=by decide
 have GY:l.length<=sizeLine:=ZI hz WN
 refine iX (by rw[cu];exact GY) fun tk=>?_
 refine Calls.spliced_nil ?_
 have hit:di (s2.heap.push { cls:= .type "reversed",data:= .fields #[.str (S l) t,rawInt (((S l).length:Int) - 1)] }) s2.heap.objs.size (S l) t (((S l).length:Int) - 1):=⟨_,Zq _ rfl,rfl,rfl⟩
 refine qx (I.ok.hd hc) (S []) ts (S l) t _ hit (by rw[cu];exact h0) (by rw[cu];exact GY) fun h' UI L hk iN=>?_
 obtain ⟨UR,WO⟩:=iN
 rw[cu]at UR
 have hL:L.length=l.length:=by rw[<-UR];unfold strValues;simp
 have eL:L.map (·.1)=(l.reverse.map fun c=>[c]).map S:=by
  refine Qck fun j=>?_
  rw[Zv,Zv,Zv]
  by_cases hj:j<L.length
  ·have QK:j<l.length:=by rw[<-hL];exact hj
   obtain ⟨c,u',e1,e2⟩:=WO j (.str L[j].1 L[j].2) (by unfold strValues;simp[hj])
   rw[J0 hj,Qbj QK]
   have e3:l[l.length - 1 - j]? =some c:=by
    rw[cu]at e1
    rw[<-e1]
    unfold S
    simp
   rw[e3]
   show some L[j].1=some (S [c])
   have e4:L[j].1=⟨#[c]⟩:=(Value.str.inj e2).1
   rw[e4]
   rfl
  ·rw[Qam (Qdu hj),Qam (by rw[ZF, <-hL];exact Qdu hj)]
   rfl
 rw[eL]
 refine ⟨joinOk_of ?_,fun t' k=>⟨.str (S l.reverse),H2,I2.kept fun b o e=>hk b o (Zu (Zr e)) (QC _ e),⟨t',?_⟩,q⟩⟩
 ·have e0:(S []).length=0:=rfl
  rw[e0,Nat.mul_zero,Qdl,Z_,Z_]
  have e5:((fun x:Str=>x.length) ∘ S ∘ fun c:Nat=>[c])=fun _=>1:=by funext c;exact cu [c]
  first
   | rw[e5,List.map_const',Qcy,ZF];omega
   |(have e6:((fun x:Str=>x.length) ∘ S) ∘ (fun c:Nat=>[c])=fun _=>1:=by funext c;exact cu [c]
     rw[e6,List.map_const',Qcy,ZF];omega)
 ·rw[CO]
  congr 2
  rw[show (l.reverse.map fun c=>[c]).flatten=l.reverse by rw[<-List.flatMap_def,List.flatMap_singleton']]
end
section
variable {X:Cx} {a b:Expr} {rest:List Expr} {ta tb:TE} {pos:Pos}
end
section
variable {X:Cx}
theorem Dq: ∀{l:List Bool} {us:List Value},Vals (l.map V.bl) us->us.countP (va (.bl true))=l.countP id
 | [],_, .nil=>rfl
 | b::t,_, .cons r1 r2=>by
  rw[List.countP_cons,List.countP_cons,Dq r2,xH r1 rfl]
  cases b<;>rfl
def GZ (K:PySem.W.Frag):V->List V->Hp->VK->Prop:=fun x vs H Q=> ∃(p:Addr) (l:List Bool),x= .ref p/\vs=[.bl true]/\H p=some (.lst (l.map V.bl))/\Q (.int (l.countP id:Nat)) H
theorem Bq (K:PySem.W.Frag) (h:X.K=K):zB X "list.count" (GZ K):=by
 subst h
 intro pins s σ H x vs v us Q I rx rv h
 obtain ⟨p,l,rfl,rfl,hH,q⟩:=h
 cases rx
 obtain ⟨u,rfl,ru⟩:=vals1 rv
 cases (show u=Value.bool true from ru)
 obtain ⟨z,aO,n,r,hl,e⟩:=I.qr hH
 have hc:=Dq r
 refine call_meets F.slot_list_count ⟨_,e,rfl⟩ F.entry_list_count (F.args_list_count_2 _ _) (SeqAt.list_countAt p aO.toArray n none #[] (.bool true) (va (.bl true))) ⟨e,?_,?_⟩
 ·intro w hw
  have fs:(l.map V.bl).all kC=true:=by
   rw[Qbc];intro v hv
   obtain ⟨d,_,rfl⟩:=ZJ.mp hv
   rfl
  exact gU (x:= .bl true) (show RelV (.bl true) _ from rfl) rfl r fs w (by simpa using hw)
 ·rw[show aO.toArray.toList=aO from rfl,hc]
  exact ⟨.int (l.countP id:Nat),H,I.tok _,⟨_,rfl⟩,q⟩
end
section
variable {X:Cx} {pos:Pos}
def Pw (i j k:Nat) (ta:TA):TS:=fun D σ H=>ta σ H fun vs H1=> ∃v w z,vs=[v,w,z]/\D.nx (((σ.set i (some v)).set j (some w)).set k (some z)) H1
theorem tu {i j k:Nat} {x y z:Str} {a b c:Expr} {ta:TA} {px py pz pt:Pos} {kt k2 JA} (hc:X.calm=true) (hN:X.N.Nodup) (hi:X.N[i]? =some x) (hj:X.N[j]? =some y) (hk:X.N[k]? =some z) (N3:i≠j/\i≠k/\j≠k)
  (hx:X.env.scope.names.lookup x=some .local) (hy:X.env.scope.names.lookup y=some .local) (hz:X.env.scope.names.lookup z=some .local) (ha:PA X [a,b,c] ta)
  (hw:swappedStores [.Tuple [.Name x px, .Name y py, .Name z pz] kt pt] (.Tuple [a,b,c] k2 JA) X.env=pure (some [x,y,z]))
  (hs:swapsWithSole [.Tuple [.Name x px, .Name y py, .Name z pz] kt pt] (.Tuple [a,b,c] k2 JA) pos.line X.env=pure false:=by rfl):
  PS X (.Assign [.Tuple [.Name x px, .Name y py, .Name z pz] kt pt] (.Tuple [a,b,c] k2 JA) pos) (Pw i j k ta):=by
 intro pins s σ H D I h
 rw[exec_Assign_arm]
 refine wpAny_bind (wpAny_standAt ?_)
 rw[hs]
 refine wpAny_bind (wpAny_pure ?_)
 rw[if_neg (by decide)]
 refine wpAny_bind (Tuple_ (cx (ha _ pins s σ H _ I h) fun us s1 ⟨vs,H1,I1,r1,q1⟩=>?_))
 obtain ⟨v,w,q,e1,q1⟩:=q1
 subst e1
 obtain ⟨u1,u2,u3,rfl,rv,qm,rq⟩: ∃u1 u2 u3,us=[u1,u2,u3]/\RelV v u1/\RelV w u2/\RelV q u3:=by
  cases r1 with
  | cons p q=>
   cases q with
   | cons p' q'=>
    cases q' with
    | cons WQ WR=>
     cases WR
     exact ⟨_,_,_,rfl,p,p',WQ⟩
 refine wpAny_newObj_type ?_ (by show 3<=sizeLine;decide)
 have I2:Inv X pins σ H1 { s1 with heap:=s1.heap.push { cls:= .type "tuple",data:= .seq [u1,u2,u3].toArray } }:=I1.kept (t':=s1.toks) fun b o e=>QC _ e
 rw[hw]
 refine wpAny_bind (wpAny_pure ?_)
 show wpAny (model X.prog X.w) X.A (do rule "assign.swapped-stores";let items <-unpackItems (.ref s1.heap.objs.size) 3 none;assignInOrder [fun v=>bindName X.env z v,fun v=>bindName X.env y v,fun v=>bindName X.env x v] items.reverse;pure Flow.next) _ _ _
 refine wpAny_bind (wpAny_rule (wpAny_bind (unpackItems_tuple (items:= #[u1,u2,u3]) (I.ok.hd hc) (IsTup.new s1.heap _) fun h' Ft=>?_)))
 have I3:=I2.kept (h':=h') (t':=s1.toks) fun b o e=>Ft b o (Zu (Zr e)) e
 show wpAny _ _ (assignInOrder [fun v=>bindName X.env z v,fun v=>bindName X.env y v,fun v=>bindName X.env x v] [u3,u2,u1] >>= fun _=>pure Flow.next) _ _ _
 refine wpAny_bind (assignInOrder_cons (wpAny_bindName (eh I3 hN hk (.inl hz) rq (fun s2 I4=>?_) (.inr hz))))
 refine assignInOrder_cons (wpAny_bindName (eh I4 hN hj (.inl hy) qm (fun s3 I5=>?_) (.inr hy)))
 refine assignInOrder_cons (wpAny_bindName (eh I5 hN hi (.inl hx) rv (fun s4 I6=>assignInOrder_nil (wpAny_pure ?_)) (.inr hx)))
 rw[Qdf _ _ (Ne.symm N3.1),Qdf _ _ (Ne.symm N3.2.1),Qdf _ _ (Ne.symm N3.2.2)]at I6
 exact ⟨_,H1,I6,q1⟩
end
end L2
set_option maxHeartbeats 4000000
namespace My
open PySem PySem.Spec PyProof.Rows L2 XL
noncomputable def aR:List Nat:=[97,98,99,100,101,102,103,104,105,106,107,108,109,110,111,112,113,114,115,116,117,118,119,120,121,122]
noncomputable def j8:List Nat:=[65,66,67,68,69,70,71,72,73,74,75,76,77,78,79,80,81,82,83,84,85,86,87,88,89,90]
def Lt (c:Nat):Prop:=c∈aR\/c∈j8
noncomputable instance (c:Nat):Decidable (Lt c):=by unfold Lt;infer_instance
noncomputable def aC (c:Nat):Nat:=if aF c=true then PyProof.Rows.up1 c else PyProof.Rows.lo1 c
theorem tw: ∀c∈aR++j8,c<128/\aC c∈aR++j8/\aC (aC c)=c/\aC c≠c:=by decide+kernel
theorem Lt.mem {c:Nat} (h:Lt c):c∈aR++j8:=Zx.mpr h
theorem Lt.lt {c:Nat} (h:Lt c):c<128:=(tw c h.mem).1
theorem Lt.aC {c:Nat} (h:Lt c):Lt (aC c):=Zx.mp (tw c h.mem).2.1
theorem aJ {c:Nat} (h:Lt c):aC (aC c)=c:=(tw c h.mem).2.2.1
theorem eT {c:Nat} (h:Lt c):aC c≠c:=(tw c h.mem).2.2.2
theorem fk {a b:Nat} (ha:Lt a) (hb:Lt b) (e:My.aC a=My.aC b):a=b:=by rw[<-aJ ha,e,aJ hb]
theorem vK: ∀c∈aR,iD j8 ((aR.idxOf c:Nat):Int)=some (aC c):=by decide+kernel
theorem Br: ∀c∈j8,iD aR ((j8.idxOf c:Nat):Int)=some (aC c):=by decide+kernel
noncomputable def gR (l:List Nat):List Nat:=(l.map aC).reverse
def aV (b:Addr) (H H':Hp):Prop:= ∀c o,H c=some o->c≠b->H' c=some o
theorem aV.refl (b:Addr) (H:Hp):aV b H H:=fun _ _ h _=>h
theorem aV.trans {b:Addr} {H H1 H2:Hp} (x:aV b H H1) (y:aV b H1 H2):aV b H H2:=fun c o h n=>y c o (x c o h n) n
theorem aV.of {b:Addr} {H H':Hp} (x:ar H H'):aV b H H':=fun c o h _=>x c o h
theorem aV.upd (b:Addr) (H:Hp) (o:HO):aV b H (upd H b o):=fun c o h n=>by rw[aD n];exact h
theorem ar.upd {H:Hp} {p:Addr} {o:HO} (h:H p=none):ar H (L2.upd H p o):=fun c u e=>by rw[aD (aB e h)];exact e
def bT (H:Hp) (b:Addr):Prop:= ∃x y:Int,H b=some (.lst [.int x, .int y])
theorem bT.same {H H':Hp} {b:Addr} (h:bT H b) (s:ar H H'):bT H' b:=let ⟨x,y,e⟩:=h;⟨x,y,s _ _ e⟩
structure Yd (y:List Nat):Prop where
 nd:y.Nodup
 lt: ∀c∈y,Lt c
 cl: ∀c∈y,aC c∈y
def mV (_:PySem.W.Frag):Sp:=fun vs H Q _=> ∃c,vs=[.str (S [c])]/\c<128/\Q (.str (S [aC c])) H
theorem tD {K:PySem.W.Frag} {vs:List V} {H:Hp} {Q:VK} {E:XK} (h:mV K vs H Q E):vs.length=1:=by obtain ⟨c,rfl,_⟩:=h;rfl
def rA (_:PySem.W.Frag):Sp:=fun vs H Q _=> ∃c,vs=[.str (S [c])]/\Lt c/\Q (.str (S [aC c])) H
theorem yi {K:PySem.W.Frag} {vs:List V} {H:Hp} {Q:VK} {E:XK} (h:rA K vs H Q E):vs.length=1:=by obtain ⟨c,rfl,_⟩:=h;rfl
def rB (_:PySem.W.Frag):Sp:=fun vs H Q _=> ∃l:List Nat,vs=[.str (S l)]/\(∀c∈l,c<128)/\l.length<=1000/\ ∀H',ar H H'->Q (.str (S (gR l))) H'
theorem yj {K:PySem.W.Frag} {vs:List V} {H:Hp} {Q:VK} {E:XK} (h:rB K vs H Q E):vs.length=1:=by obtain ⟨c,rfl,_⟩:=h;rfl
def zM (K:PySem.W.Frag):Sp:=fun vs H Q _=> ∃(a:Addr) (ns:List Int) (k:Nat),vs=[.ref a, .int k]/\bD K H a (ns.map V.int)/\k<=1000/\ ∀b H',H b=none->bT H' b->ar H H'->Q (.ref b) H'
theorem Dr {K:PySem.W.Frag} {vs:List V} {H:Hp} {Q:VK} {E:XK} (h:zM K vs H Q E):vs.length=2:=by obtain ⟨a,ns,k,rfl,_⟩:=h;rfl
def vL (_:PySem.W.Frag):Sp:=fun vs H Q _=> ∃(b:Addr) (m:Int),vs=[.ref b, .int m]/\bT H b/\1<=m/\m<1000000/\ ∀(r:Nat) H',(r:Int)<m->bT H' b->aV b H H'->Q (.int r) H'
theorem Bs {K:PySem.W.Frag} {vs:List V} {H:Hp} {Q:VK} {E:XK} (h:vL K vs H Q E):vs.length=2:=by obtain ⟨b,m,rfl,_⟩:=h;rfl
def vM (_:PySem.W.Frag):Sp:=fun vs H Q _=> ∃(b:Addr) (uN top:Nat),vs=[.ref b, .int uN, .int top]/\bT H b/\1<=uN/\uN<=top/\top<=8/\ ∀(y:List Nat) H',Yd y->2*uN<=y.length->y.length<=2*top->bT H' b->aV b H H'->Q (.str (S y)) H'
theorem Bt {K:PySem.W.Frag} {vs:List V} {H:Hp} {Q:VK} {E:XK} (h:vM K vs H Q E):vs.length=3:=by obtain ⟨b,m,t,rfl,_⟩:=h;rfl
def vN (_:PySem.W.Frag):Sp:=fun vs H Q _=> ∃(b:Addr) (y:List Nat) (top:Nat),vs=[.ref b, .str (S y), .int top]/\bT H b/\y≠[]/\y.length<=1000/\top<=1000/\ ∀(l:List Nat) H',(∀c∈l,c∈y)->l.length<=top->bT H' b->aV b H H'->Q (.str (S l)) H'
theorem Bu {K:PySem.W.Frag} {vs:List V} {H:Hp} {Q:VK} {E:XK} (h:vN K vs H Q E):vs.length=3:=by obtain ⟨b,m,t,rfl,_⟩:=h;rfl
def lU (K:PySem.W.Frag):Sp:=fun vs H Q _=> ∃(a:Addr) (ns:List Int),vs=[.ref a]/\bD K H a (ns.map V.int)/\ns.length<=63/\ ∀H',Q (.bl true) H'
theorem G0 {K:PySem.W.Frag} {vs:List V} {H:Hp} {Q:VK} {E:XK} (h:lU K vs H Q E):vs.length=1:=by obtain ⟨b,m,rfl,_⟩:=h;rfl
theorem mW: ∀l:List Nat,(l.map fun c=>[c]).flatten=l
 | []=>rfl
 | c::l=>by rw[ZC,Qbk,mW l];rfl
theorem vO: ∀l:List Nat,((l.map fun c=>[c]).map List.length).sum=l.length
 | []=>rfl
 | c::l=>by
  rw[ZC,ZC,Qba,vO l]
  show 1+l.length=l.length+1
  omega
theorem eU (l:List Nat):bP l=(l.map fun c=>[c]).map fun l=>V.str (S l):=by unfold bP;rw[Z_];rfl
theorem zN (l:List Nat):(bP l).reverse=bP l.reverse:=by unfold bP;rw[Qbp]
theorem dj (l:List Nat) (c:Nat):bP l++[V.str (S [c])]=bP (l++[c]):=by unfold bP;rw[Zn];rfl
theorem take_snoc {α:Type} {l:List α} {i:Nat} {x:α} (h:l[i]? =some x):l.take i++[x]=l.take (i+1):=by rw[Qch,h];rfl
theorem zO {ns:List Int} {i:Nat} (h:i<ns.length): ∃z,(ns.map V.int)[i]? =some (V.int z):=⟨ns[i],by rw[Zv,J0 h];rfl⟩
theorem da {σ:L2.St} {H:Hp} {A B:Hp->Prop} (h:A H):OC σ H fun b H3=>if b=true then A H3 else B H3:=by
 show (if true=true then A H else B H)
 rw[if_pos rfl]
 exact h
theorem yk (b:Bool) (z:Int): ∃y,iD [V.int 0,V.int z] (if b=true then 1 else 0)=some (V.int y):=by
 cases b
 ·exact ⟨0,rfl⟩
 ·exact ⟨z,rfl⟩
theorem h7 {α:Type}: ∀{l:List α} {i:Nat} {x:α},l[i]? =some x->(x::l.eraseIdx i).Perm l
 | [],i,x,h=>by simp at h
 | a::l,0,x,h=>by
  have:a=x:=by simpa using h
  subst this
  exact Qc9 _
 | a::l,i+1,x,h=>by
  have ih:=h7 (l:=l) (i:=i) (x:=x) (by simpa using h)
  rw[Qb1]
  exact (List.Perm.swap a x _).trans (List.Perm.cons a ih)
theorem l_ (l:List Nat) (i:Nat):(bP l).eraseIdx i=bP (l.eraseIdx i):=by
 unfold bP
 induction l generalizing i with
 | nil=>rfl
 | cons a l ih=>
  cases i with
  | zero=>rfl
  | succ i=>rw[ZC,Qb1,ih,Qb1,ZC]
theorem yl {l:List Nat} {i:Nat} (h:i<l.length):(bP l)[i]? =some (V.str (S [l[i]])):=by unfold bP;rw[Zv,J0 h];rfl
theorem G1 (a b:List Nat):bP a++bP b=bP (a++b):=by unfold bP;rw[Zn]
theorem Bv: ∀c∈aR,aC c∉aR:=by decide+kernel
theorem rC:aR.Nodup:=by decide+kernel
theorem Yd.perm {a b:List Nat} (h:Yd a) (p:a.Perm b):Yd b:=
 ⟨p.nodup_iff.mp h.nd,fun c hc=>h.lt c (p.mem_iff.mpr hc),fun c hc=>p.mem_iff.mp (h.cl c (p.mem_iff.mpr hc))⟩
structure Kw (i:Nat) (L E:List Nat):Prop where
 yd:Yd E
 nd:L.Nodup
 sm: ∀c∈L,c∈aR
 ap: ∀c∈L,c∉E
 ll:L.length=26 - i
 el:E.length=2*i
theorem Kw.start:Kw 0 aR []:=⟨⟨Qcg,fun _ h=>absurd h Zy,fun _ h=>absurd h Zy⟩,rC,fun _ h=>h,fun _ _ h=>absurd h Zy,rfl,rfl⟩
theorem Kw.turn {i r:Nat} {L E:List Nat} (w:Kw i L E) (hi:i<26) (hr:r<L.length):Kw (i+1) (L.eraseIdx r) (E++[L[r],aC L[r]]):=by
 have hp:=h7 (l:=L) (J0 hr)
 have hm:L[r]∈L:=ZR hr
 have hs:=w.sm _ hm
 have hl:Lt L[r]:= .inl hs
 have QL:=hp.nodup_iff.mpr w.nd
 have sub: ∀c∈L.eraseIdx r,c∈L:=fun c hc=>hp.mem_iff.mp (Uq _ hc)
 have US:=w.ap _ hm
 have WS:aC L[r]∉E:=fun z=>US (by have:=w.yd.cl _ z;rwa [aJ hl]at this)
 refine ⟨⟨?_,fun c hc=>?_,fun c hc=>?_⟩,(ZN.mp QL).2,fun c hc=>w.sm c (sub c hc),fun c hc hE=>?_,?_,?_⟩
 ·rw[Qaa]
  refine ⟨w.yd.nd,?_,fun a ha b hb z=>?_⟩
  ·rw[ZN]
   refine ⟨fun z=>(eT hl) (Wg.mp z).symm,ZN.mpr ⟨Zy,Qcg⟩⟩
  ·subst z
   rcases Wj.mp hb with z | z
   ·exact US (z▸ha)
   ·exact WS (Wg.mp z▸ha)
 ·rcases Zx.mp hc with z | z
  ·exact w.yd.lt c z
  ·rcases Wj.mp z with z | z
   ·rw[z];exact hl
   ·rw[Wg.mp z];exact hl.aC
 ·rcases Zx.mp hc with z | z
  ·exact Qae _ (w.yd.cl c z)
  ·refine ZD _ ?_
   rcases Wj.mp z with z | z
   ·rw[z];exact Uq _ (Wg.mpr rfl)
   ·rw[Wg.mp z,aJ hl];exact Wi
 ·rcases Zx.mp hE with z | z
  ·exact w.ap c (sub c hc) z
  ·rcases Wj.mp z with z | z
   ·exact (ZN.mp QL).1 (z▸hc)
   ·have e:c=aC L[r]:=Wg.mp z
    exact Bv _ hs (e▸w.sm c (sub c hc))
 ·have:=hp.length_eq
  rw[ZM,w.ll]at this
  omega
 ·rw[L5,w.el]
  show 2*i+2=_
  omega
theorem aV.dY {b p:Addr} {H H':Hp} {o:HO} (h:aV b H H') (n:H p=none):aV b H (L2.upd H' p o):=fun c u e z=>by rw[aD (aB e n)];exact h c u e z
theorem bT.dY {b p:Addr} {H:Hp} {o:HO} (h:bT H b) (n:p≠b):bT (L2.upd H p o) b:=let ⟨x,y,e⟩:=h;⟨x,y,by rw[aD (Ne.symm n)];exact e⟩
theorem aV.none {b p:Addr} {H H':Hp} (h:aV b H H') (n:H' p=none) (z:p≠b):H p=none:=by
 cases q:H p with
 | none=>rfl
 | some o=>rw[h p o q z]at n;cases n
theorem bT.ne {b p:Addr} {H:Hp} (h:bT H b) (n:H p=none):p≠b:=fun z=>by obtain ⟨x,y,e⟩:=h;rw[<-z,n]at e;cases e
theorem j9 {c:Bool} {A B:Prop} (h:c=false) (hB:B):if c=true then A else B:=by rw[h];exact vc hB
theorem oS {c:Bool} {A B:Prop} (h:c=true) (hA:A):if c=true then A else B:=by rw[h];exact OA hA
theorem cD (l:List Nat):(gR l).length=l.length:=by unfold gR;rw[ZF,Us]
theorem G2 {l:List Nat} (h: ∀c∈l,Lt c):gR (gR l)=l:=by
 unfold gR
 rw[Qbp,List.reverse_reverse,Z_]
 have: ∀c∈l,(aC ∘ aC) c=c:=fun c hc=>aJ (h c hc)
 calc l.map (aC ∘ aC)=l.map id:=Qcd this
  _=l:=Qdz l
theorem IG {l:List Nat} (h: ∀c∈l,Lt c): ∀c∈l,c<128:=fun c hc=>(h c hc).lt
theorem oT (a:List Nat):a.take (bP a).length=a:=by rw[aZ];exact ZG (Ur _)
theorem G3 (n:Nat):(List.replicate n true).all id=true:=by rw[Qbc];intro b hb;rw[List.eq_of_mem_replicate hb];rfl
theorem Ds (n:Nat):(List.replicate n true).map V.bl++[V.bl true]=(List.replicate (n+1) true).map V.bl:=by rw[List.replicate_succ',Zn];rfl
theorem aV.same {b:Addr} {H H2 H3:Hp} (n:H b=Option.none) (s:ar H H2) (t:aV b H2 H3):ar H H3:=fun c o e=>t c o (s c o e) (aB e n)
theorem aV.after {p:Addr} {H H1 H2:Hp} (s:aV p H H1) (t:ar H1 H2):aV p H H2:=fun c o e z=>t c o (s c o e z)
noncomputable def tE (ws:List (List Nat)):List V:=ws.map fun l=>V.str (S l)
theorem fq (ws:List (List Nat)):(tE ws).length=ws.length:=by unfold tE;rw[Us]
theorem oU {ws:List (List Nat)} {i:Nat} (h:i<ws.length):(tE ws)[i]? =some (V.str (S ws[i])):=by unfold tE;rw[Zv,J0 h];rfl
noncomputable def dB (st:List Nat) (c:Nat):List Nat:=if st.getLast? =some (aC c) then st.dropLast else st++[c]
noncomputable def red (l:List Nat):List Nat:=l.foldl dB []
def jw:List Nat->Prop
 | []=>True
 | [_]=>True
 | a::b::r=>a≠aC b/\jw (b::r)
theorem jw.tail: ∀{a:Nat} {r:List Nat},jw (a::r)->jw r
 | _,[],_=>trivial
 | _,_::_,h=>h.2
theorem jw.snoc: ∀{l:List Nat} {c:Nat},jw l->l.getLast?≠ some (aC c)->jw (l++[c])
 | [],_,_,_=>trivial
 | [a],c,_,h=>⟨fun z=>h (by rw[z];rfl),trivial⟩
 | a::b::r,c,h,k=>⟨h.1,jw.snoc (l:=b::r) h.2 (by simpa using k)⟩
theorem jw.init: ∀{l:List Nat} {c:Nat},jw (l++[c])->jw l/\l.getLast?≠ some (aC c)
 | [],_,_=>⟨trivial,by simp⟩
 | [a],c,h=>⟨trivial,fun z=>h.1 (by simpa using z)⟩
 | a::b::r,c,h=>by
  have ih:=jw.init (l:=b::r) (c:=c) h.2
  exact ⟨⟨h.1,ih.1⟩,by simpa using ih.2⟩
theorem snoc_cases (l:List Nat):l=[]\/ ∃m a,l=m++[a]:=by
 by_cases h:l=[]
 ·exact .inl h
 ·exact .inr ⟨l.dropLast,l.getLast h,(List.dropLast_concat_getLast h).symm⟩
theorem jw.left: ∀{m l:List Nat},jw (m++l)->jw m
 | [],_,_=>trivial
 | [_],_,_=>trivial
 | a::b::r,l,h=>⟨h.1,jw.left (m:=b::r) (l:=l) h.2⟩
theorem Bw {l:List Nat} {c:Nat} (h:l.getLast? =some c): ∃m,l=m++[c]:=by
 rcases snoc_cases l with rfl | ⟨m,a,rfl⟩
 ·simp at h
 ·refine ⟨m,?_⟩
  have:a=c:=by simpa using h
  rw[this]
theorem Bx {st:List Nat} {c:Nat} (h:jw st):jw (dB st c):=by
 unfold dB
 by_cases e:st.getLast? =some (aC c)
 ·rw[if_pos e]
  obtain ⟨m,rfl⟩:=Bw e
  rw[Qbl]
  exact h.init.1
 ·rw[if_neg e]
  exact h.snoc e
theorem rD {st:List Nat} {c d:Nat} (h:d∈dB st c):d∈st\/d=c:=by
 unfold dB at h
 by_cases e:st.getLast? =some (aC c)
 ·rw[if_pos e]at h
  exact .inl (List.dropLast_subset _ h)
 ·rw[if_neg e]at h
  rcases Zx.mp h with z | z
  ·exact .inl z
  ·exact .inr (Wg.mp z)
theorem vP: ∀(l st:List Nat),jw st->jw (l.foldl dB st)
 | [],_,h=>h
 | _::l,_,h=>vP l _ (Bx h)
theorem G4 (l:List Nat):jw (red l):=vP l [] trivial
theorem fold_same: ∀(l st:List Nat),jw (st++l)->l.foldl dB st=st++l
 | [],st,_=>by simp
 | c::l,st,h=>by
  have h':jw ((st++[c])++l):=by rw[Qab];exact h
  have h2:=(jw.left h').init.2
  rw[Qcc]
  have:dB st c=st++[c]:=by unfold dB;rw[if_neg h2]
  rw[this,fold_same l (st++[c]) h',Qab]
  rfl
theorem Dt {l:List Nat} (h:jw l):red l=l:=by
 exact fold_same l [] h
theorem fold_lt: ∀(l st:List Nat),(∀c∈l,Lt c)->(∀c∈st,Lt c)-> ∀c∈l.foldl dB st,Lt c
 | [],_,_,h=>h
 | a::l,st,h1,h2=>fold_lt l _ (fun c hc=>h1 c (Uq _ hc)) fun c hc=>(rD hc).elim (h2 c) fun z=>z▸h1 a Wi
theorem Du {l:List Nat} (h: ∀c∈l,Lt c): ∀c∈red l,Lt c:=fold_lt l [] h fun _ h=>absurd h Zy
theorem By (st:List Nat) (c:Nat):(dB st c).length<=st.length+1:=by
 unfold dB
 by_cases e:st.getLast? =some (aC c)
 ·rw[if_pos e,List.length_dropLast];omega
 ·rw[if_neg e,L5];exact Ur _
theorem vQ: ∀(l st:List Nat),(l.foldl dB st).length<=st.length+l.length
 | [],_=>Ur _
 | c::l,st=>by
  have:=vQ l (dB st c)
  have h2:=By st c
  rw[Qcc,ZM]
  omega
theorem gB (l:List Nat):(red l).length<=l.length:=by
 have:=vQ l []
 rw[List.length_nil,Qcw]at this
 exact this
theorem vR {l:List Nat} {i c:Nat} (h:l[i]? =some c):red (l.take (i+1))=dB (red (l.take i)) c:=by
 unfold red
 rw[<-take_snoc h,List.foldl_append]
 rfl
theorem Dv: ∀{l:List Nat},(∀k a b,l[k]? =some a->l[k+1]? =some b->a≠aC b)->jw l
 | [],_=>trivial
 | [_],_=>trivial
 | a::b::r,h=>⟨h 0 a b rfl rfl,Dv (l:=b::r) fun k x y h1 h2=>h (k+1) x y (by simpa using h1) (by simpa using h2)⟩
noncomputable def Cn (l:List Nat) (s e:Nat):List Nat:=(l.drop s).take (e - s)
noncomputable def strip:Nat->List Nat->List Nat
 | 0,l=>l
 | n+1,l=>match l with
  | []=>[]
  | [a]=>[a]
  | a::b::r=>if a=aC ((b::r).getLast (by simp)) then strip n (b::r).dropLast else a::b::r
theorem fD: ∀(n:Nat) {l:List Nat},l.length<2->strip n l=l
 | 0,_,_=>rfl
 | _+1,[],_=>rfl
 | _+1,[_],_=>rfl
 | _+1,_::_::_,h=>by simp at h;omega
theorem kS (l:List Nat) (y:Nat):(l++[y]).getLast (by simp)=y:=by simp
theorem strip_go (n:Nat) {a y:Nat} {m:List Nat} (h:a=aC y):strip (n+1) (a::(m++[y]))=strip n m:=by
 cases m with
 | nil=>
  show (if a=aC (([y]:List Nat).getLast (by simp)) then strip n ([y]:List Nat).dropLast else _)=strip n []
  rw[if_pos (by simpa using h)]
  rfl
 | cons b r=>
  show (if a=aC ((b::(r++[y])).getLast (by simp)) then strip n (b::(r++[y])).dropLast else _)=strip n (b::r)
  have e1:(b::(r++[y])).getLast (by simp)=y:=kS (b::r) y
  have e2:(b::(r++[y])).dropLast=b::r:=by
   have:b::(r++[y])=(b::r)++[y]:=rfl
   rw[this,Qbl]
  rw[if_pos (by rw[e1];exact h),e2]
theorem strip_stop (n:Nat) {a y:Nat} {m:List Nat} (h:a≠aC y):strip n (a::(m++[y]))=a::(m++[y]):=by
 cases n with
 | zero=>rfl
 | succ n=>
  cases m with
  | nil=>
   show (if a=aC (([y]:List Nat).getLast (by simp)) then _ else _)=_
   rw[if_neg (by simpa using h)]
   rfl
  | cons b r=>
   show (if a=aC ((b::(r++[y])).getLast (by simp)) then _ else _)=_
   have e1:(b::(r++[y])).getLast (by simp)=y:=kS (b::r) y
   rw[if_neg (by rw[e1];exact h)]
   rfl
theorem zP {l:List Nat} (h:2<=l.length): ∃a m y,l=a::(m++[y]):=by
 cases l with
 | nil=>simp at h
 | cons a r=>
  rcases snoc_cases r with rfl | ⟨m,y,rfl⟩
  ·simp at h
  ·exact ⟨a,m,y,rfl⟩
theorem oV: ∀(n:Nat) (l:List Nat) (k:Nat),l.length<=n->strip (n+k) l=strip n l
 | 0,l,k,h=>by rw[fD _ (by omega),fD _ (by omega)]
 | n+1,l,k,h=>by
  by_cases h2:l.length<2
  ·rw[fD _ h2,fD _ h2]
  ·obtain ⟨a,m,y,rfl⟩:=zP (l:=l) (by omega)
   have hm:m.length<=n:=by simp at h;omega
   by_cases e:a=aC y
   ·have:n+1+k=(n+k)+1:=by omega
    rw[this,strip_go _ e,strip_go _ e,oV n m k hm]
   ·rw[strip_stop _ e,strip_stop _ e]
noncomputable def core (l:List Nat):List Nat:=strip l.length l
theorem nQ {a y:Nat} {m:List Nat} (h:a=aC y):core (a::(m++[y]))=core m:=by
 unfold core
 have:(a::(m++[y])).length=(m.length+1)+1:=by simp
 rw[this,strip_go _ h,oV _ _ _ (Ur _)]
theorem gW {a y:Nat} {m:List Nat} (h:a≠aC y):core (a::(m++[y]))=a::(m++[y]):=strip_stop _ h
theorem eV {l:List Nat} (h:l.length<2):core l=l:=fD _ h
theorem i3 {P:List Nat->List Nat->Prop} (h1: ∀l,l.length<2->P l l) (h2: ∀a m y,a≠aC y->P (a::(m++[y])) (a::(m++[y]))) (h3: ∀a m y r,a=aC y->P m r->P (a::(m++[y])) r): ∀(n:Nat) (l:List Nat),l.length<=n->P l (core l)
 | 0,l,h=>by rw[eV (by omega)];exact h1 l (by omega)
 | n+1,l,h=>by
  by_cases hl:l.length<2
  ·rw[eV hl];exact h1 l hl
  ·obtain ⟨a,m,y,rfl⟩:=zP (l:=l) (by omega)
   by_cases e:a=aC y
   ·rw[nQ e]
    exact h3 a m y _ e (i3 h1 h2 h3 n m (by simp at h;omega))
   ·rw[gW e];exact h2 a m y e
theorem Bz (l:List Nat):core (core l)=core l:=
 i3 (P:=fun _ r=>core r=r) (fun l h=>eV h) (fun a m y h=>gW h) (fun _ _ _ _ _ h=>h) l.length l (Ur _)
theorem Dw {l:List Nat} (h:jw l):jw (core l):=
 i3 (P:=fun l r=>jw l->jw r) (fun _ _ h=>h) (fun _ _ _ _ h=>h) (fun a m y r _ k h=>k (by
  have h':jw (a::m++[y]):=h
  exact h'.init.1.tail)) l.length l (Ur _) h
theorem oW {l:List Nat} {c:Nat}:c∈core l->c∈l:=
 i3 (P:=fun l r=>c∈r->c∈l) (fun _ _ h=>h) (fun _ _ _ _ h=>h) (fun a m y r _ k h=>Uq _ (Qae _ (k h))) l.length l (Ur _)
theorem kT (l:List Nat):(core l).length<=l.length:=
 i3 (P:=fun l r=>r.length<=l.length) (fun _ _=>Ur _) (fun _ _ _ _=>Ur _) (fun a m y r _ k=>by simp;omega) l.length l (Ur _)
theorem Kx {l:List Nat} {s e:Nat} (h1:s+2<=e) (h2:e<=l.length):Cn l s e=l[s]::(Cn l (s+1) (e - 1)++[l[e - 1]]):=by
 unfold Cn
 rw[Z1 (by omega)]
 have e1:e - s=(e - 1 - (s+1))+1+1:=by omega
 rw[e1,List.take_succ_cons,Qch,Qau]
 have e2:s+1+(e - 1 - (s+1))=e - 1:=by omega
 rw[e2,J0 (by omega)]
 rfl
theorem G5 {l:List Nat} {s e:Nat} (h2:e<=l.length):(Cn l s e).length=e - s:=by unfold Cn;rw[Zo,Zz];omega
theorem G6 (l:List Nat):Cn l 0 l.length=l:=by unfold Cn;simp
def kU (_:PySem.W.Frag):Sp:=fun vs H Q _=> ∃l:List Nat,vs=[.str (S l)]/\(∀c∈l,Lt c)/\l.length<=1000/\ ∀H',ar H H'->Q (.str (S (red l))) H'
theorem qy {K:PySem.W.Frag} {vs:List V} {H:Hp} {Q:VK} {E:XK} (h:kU K vs H Q E):vs.length=1:=by obtain ⟨c,rfl,_⟩:=h;rfl
def mX (_:PySem.W.Frag):Sp:=fun vs H Q _=> ∃l:List Nat,vs=[.str (S l)]/\(∀c∈l,Lt c)/\l.length<=1000/\ ∀H',ar H H'->Q (.str (S (core (red l)))) H'
theorem tF {K:PySem.W.Frag} {vs:List V} {H:Hp} {Q:VK} {E:XK} (h:mX K vs H Q E):vs.length=1:=by obtain ⟨c,rfl,_⟩:=h;rfl
theorem cg {α:Type} (l:List α) (k:Nat):cut l none (some (k:Int))=l.take k:=by
 unfold cut
 rw[HT.iV,HT.fP,List.drop_zero,Nat.sub_zero]
 by_cases h:k<=l.length
 ·rw[Qag h]
 ·rw[Qaj (by omega),ZG (Ur _),ZG (by omega)]
theorem bU {α:Type} (l:List α) (k:Nat):cut l (some (k:Int)) none=l.drop k:=by
 unfold cut
 rw[HT.iV,HT.fP]
 by_cases h:k<=l.length
 ·rw[Qag h,ZG (by rw[Zz];exact Ur _)]
 ·rw[Qaj (by omega),Qaz (Ur _),Qaz (by omega)]
  simp
theorem G7 (a y:Nat) (m:List Nat):cut (a::(m++[y])) (some 1) (some (((a::(m++[y])).length:Int) - 1))=m:=by
 have hl:(a::(m++[y])).length=m.length+2:=by simp
 have e:(((a::(m++[y])).length:Int) - 1)=((m.length+1:Nat):Int):=by rw[hl];omega
 rw[e]
 unfold cut
 have e1:HT.iU (a::(m++[y])).length 0 (some 1)=1:=by
  have:=HT.fP (a::(m++[y])).length 0 1
  rw[hl]at this ⊢
  rw[show ((1:Nat):Int)=1 from rfl]at this
  rw[this];omega
 rw[e1,HT.fP,hl]
 have e2:min (m.length+1) (m.length+2) - 1=m.length:=by omega
 rw[e2]
 show (m++[y]).take m.length=m
 simp
noncomputable def gs (c:List Nat) (k:Nat):List Nat:=c.drop k++c.take k
noncomputable def kW (c:List Nat) (n:Nat):List (List Nat):=(List.range n).map fun k=>gs c (k+1)
noncomputable def fM (c:List Nat):List Nat:=cw c (kW c (c.length - 1))
@[irreducible] noncomputable def dU (w:List Nat):List Nat:=fM (core (red w))
theorem rE (c:List Nat) (n:Nat):kW c (n+1)=kW c n++[gs c (n+1)]:=by unfold kW;rw[Qah,Zn];rfl
theorem h_: ∀(r:List (List Nat)) (a b:List Nat),cw a (r++[b])=cZ (cw a r) b
 | [],_,_=>rfl
 | _::r,_,_=>h_ r _ _
theorem cJ (c:List Nat) (k:Nat):(gs c k).length=c.length:=by unfold gs;rw[L5,Zz,Zo];omega
theorem j_: ∀(r:List (List Nat)) (a:List Nat),cw a r=a\/cw a r∈r
 | [],a=> .inl rfl
 | b::r,a=>by
  rcases j_ r (cZ a b) with h | h
  ·have hl:cZ a b=a\/cZ a b=b:=by unfold cZ;split<;>simp
   rcases hl with e | e
   ·left;show cw (cZ a b) r=a;rw[h,e]
   ·right;show cw (cZ a b) r∈b::r;rw[h,e];exact Wi
  ·right;exact Uq _ h
theorem rF (c:List Nat): ∃k,fM c=gs c k:=by
 rcases j_ (kW c (c.length - 1)) c with h | h
 ·exact ⟨0,by show cw _ _=_;rw[h];unfold gs;simp⟩
 ·unfold kW at h
  obtain ⟨k,_,e⟩:=ZJ.mp h
  exact ⟨k+1,e.symm⟩
theorem BA (w:List Nat):(dU w).length<=w.length:=by
 obtain ⟨k,e⟩:=rF (core (red w))
 unfold dU
 rw[e,cJ]
 exact ZI (kT _) (gB w)
def zQ (_:PySem.W.Frag):Sp:=fun vs H Q _=> ∃l:List Nat,vs=[.str (S l)]/\(∀c∈l,Lt c)/\l.length<=1000/\ ∀H',ar H H'->Q (.str (S (dU l))) H'
theorem Dx {K:PySem.W.Frag} {vs:List V} {H:Hp} {Q:VK} {E:XK} (h:zQ K vs H Q E):vs.length=1:=by obtain ⟨c,rfl,_⟩:=h;rfl
theorem ym (n d:Nat):HT.iU n d (some (-1))=n - 1:=by
 have e:HT.iU n d (some (-1))=(if (-1:Int)<0 then ((-1:Int)+(n:Int)).toNat else min (-1:Int).toNat n):=rfl
 rw[e,if_pos (by decide)]
 omega
theorem Dy {α:Type} (m:List α) (a:α):cut (m++[a]) none (some (-1))=m:=by
 have hl:(m++[a]).length=m.length+1:=by simp
 unfold cut
 rw[HT.iV,ym,hl]
 simp
theorem Dz (a y:Nat) (m:List Nat):cut (a::(m++[y])) (some 1) (some (-1))=m:=by
 have h:=G7 a y m
 have hl:(a::(m++[y])).length=m.length+2:=by simp
 have e1:(((a::(m++[y])).length:Int) - 1)=((m.length+1:Nat):Int):=by rw[hl];omega
 unfold cut at h ⊢
 rw[e1,HT.fP]at h
 rw[ym]
 have e2:min (m.length+1) (a::(m++[y])).length=(a::(m++[y])).length - 1:=by rw[hl];omega
 rw[e2]at h
 exact h
theorem Ky {α:Type} (l:List α):cut l (some (-2)) none=l.drop (l.length - 2):=by
 have e: ∀d,HT.iU l.length d (some (-2))=(if (-2:Int)<0 then ((-2:Int)+(l.length:Int)).toNat else min (-2:Int).toNat l.length):=fun _=>rfl
 have e2: ∀d,HT.iU l.length d (some (-2))=l.length - 2:=fun d=>by rw[e,if_pos (by decide)];omega
 unfold cut
 rw[HT.iV,e2]
 exact ZG (by rw[Zz];exact Ur _)
def AllLt (l:List Nat):Prop:= ∀c∈l,Lt c
theorem oX (a b:List Nat): ¬a<cZ a b:=by
 unfold cZ
 split
 ·rename_i h;exact fun g=>Qb3 a (List.lt_trans g h)
 ·exact Qb3 a
theorem ni (a b:List Nat): ¬b<cZ a b:=by
 unfold cZ
 split
 ·exact Qb3 b
 ·rename_i h;exact h
theorem IH {a b c:List Nat} (h: ¬b<a) (g: ¬c<b): ¬c<a:=List.le_trans (show a<=b from h) (show b<=c from g)
theorem ka: ∀(r:List (List Nat)) (a:List Nat), ∀x∈a::r, ¬x<cw a r
 | [],a,x,hx=>by rw[Wg.mp hx];exact Qb3 a
 | b::r,a,x,hx=>by
  show ¬x<cw (cZ a b) r
  have h0:=ka r (cZ a b) (cZ a b) Wi
  rcases Wj.mp hx with e | hx
  ·rw[e];exact IH h0 (oX a b)
  ·rcases Wj.mp hx with e | hx
   ·rw[e];exact IH h0 (ni a b)
   ·exact ka r (cZ a b) x (Uq _ hx)
theorem vS (c:List Nat):gs c 0=c:=by unfold gs;simp
theorem G8 (c:List Nat):gs c c.length=c:=by unfold gs;simp
theorem kX (u:List Nat): ∀(m i:Nat),i<m*u.length->(dQ m u)[i]? =u[i%u.length]?
 | 0,i,h=>by simp at h
 | m+1,i,h=>by
  rw[eS,List.getElem?_append]
  by_cases z:i<u.length
  ·rw[if_pos z,Qa2 z]
  ·rw[if_neg z,kX u m (i - u.length) (by rw[Qb2]at h;omega), <-Qdj (by omega)]
def gX (w:List Nat) (s:Nat):Prop:=dQ (w.length / s) (w.take s)=w
def gf (w:List Nat) (k:Nat):Prop:=gs w k=w
noncomputable instance (w:List Nat) (s:Nat):Decidable (gX w s):=by unfold gX;infer_instance
noncomputable instance (w:List Nat) (s:Nat):Decidable (gf w s):=by unfold gf;infer_instance
def bZ (w:List Nat) (s:Nat):Prop:=(w=[]/\s=0)\/(1<=s/\s<=w.length/\gX w s/\ ∀j,1<=j->j<s-> ¬gX w j)
def i4 (w:List Nat) (s:Nat):Prop:=(w=[]/\s=0)\/(1<=s/\s<=w.length/\gf w s/\ ∀j,1<=j->j<s-> ¬gf w j)
theorem tG {w:List Nat} {s:Nat} (h1:1<=s) (h2:s<=w.length) (h:gX w s):gf w s:=by
 unfold gX at h
 have hm:1<=w.length / s:=Nat.div_pos h2 h1
 obtain ⟨m,e⟩: ∃m,w.length / s=m+1:=⟨w.length / s - 1,by omega⟩
 rw[e]at h
 have hu:(w.take s).length=s:=by rw[Zo];omega
 generalize w.take s=u at h hu
 unfold gf gs
 rw[<-h,eS,List.drop_left' hu,List.take_left' hu, <-xY,eS]
noncomputable def Fw (w:List Nat) (i:Nat):Option Nat:=w[i%w.length]?
theorem nR {w:List Nat} {k i:Nat} (hk:k<=w.length) (hi:i<w.length):(gs w k)[i]? =Fw w (i+k):=by
 unfold gs Fw
 rw[List.getElem?_append,Zz]
 by_cases z:i<w.length - k
 ·rw[if_pos z,Qau,Qa2 (by omega),Qdm]
 ·rw[if_neg z,Qbz,if_pos (by omega),Qdj (by omega),Qa2 (by omega)]
  congr 1
  omega
def xg (w:List Nat) (k:Nat):Prop:= ∀i,Fw w (i+k)=Fw w i
theorem DA (w:List Nat) (i k:Nat):Fw w (i%w.length+k)=Fw w (i+k):=by unfold Fw;rw[Nat.mod_add_mod]
theorem gC {w:List Nat} {k:Nat} (hn:w≠[]) (hk:k<=w.length):gf w k↔xg w k:=by
 have hl:0<w.length:=Ut.mpr hn
 constructor
 ·intro h i
  have hi:=Qby i hl
  rw[<-DA, <-nR hk hi,h]
  rfl
 ·intro h
  refine Qck fun i=>?_
  by_cases hi:i<w.length
  ·rw[nR hk hi,h i]
   unfold Fw
   rw[Qa2 hi]
  ·have hr:(gs w k).length=w.length:=cJ w k
   rw[Qam (by omega),Qam (by omega)]
theorem xg.mul {w:List Nat} {k:Nat} (h:xg w k): ∀j i,Fw w (i+k*j)=Fw w i
 | 0,i=>rfl
 | j+1,i=>by rw[Nat.mul_succ, <-Nat.add_assoc,h,xg.mul h j]
theorem xg.whole (w:List Nat):xg w w.length:=fun i=>by unfold Fw;rw[Nat.add_mod_right]
theorem xg.rest {w:List Nat} {k:Nat} (h:xg w k):xg w (w.length%k):=fun i=>by
 rw[<-h.mul (w.length / k) (i+w.length%k),Nat.add_assoc,Qc2]
 exact xg.whole w i
theorem rG {w:List Nat} {k:Nat} (hn:w≠[]) (h1:1<=k) (h2:k<=w.length) (h:gf w k) (hl: ∀j,1<=j->j<k-> ¬gf w j):gX w k:=by
 have hp:=(gC hn h2).mp h
 have hr:w.length%k=0:=by
  by_cases z:w.length%k=0
  ·exact z
  ·have cC:=Qby w.length (show k>0 by omega)
   exact absurd ((gC hn (by omega)).mpr hp.rest) (hl _ (by omega) cC)
 have hm:w.length / k*k=w.length:=by
  have:=Qc2 w.length k
  rw[hr,Qcw,Qa6]at this
  exact this
 have hu:(w.take k).length=k:=by rw[Zo];omega
 unfold gX
 refine Qck fun i=>?_
 by_cases hi:i<w.length
 ·rw[kX _ _ _ (by rw[hu,hm];exact hi),hu,Qbz]
  have WT:=Qby i (show k>0 by omega)
  rw[if_pos WT]
  have e:=hp.mul (i / k) (i%k)
  rw[Qc2]at e
  unfold Fw at e
  rw[Qa2 hi,Qa2 (by omega)]at e
  exact e.symm
 ·rw[Qam (by rw[vm,hu,hm];omega),Qam (by omega)]
theorem gY {w:List Nat} {s k:Nat} (h:bZ w s) (g:i4 w k):s=k:=by
 rcases h with ⟨e,e2⟩ | ⟨h1,h2,h3,h4⟩
 ·rcases g with ⟨_,g2⟩ | ⟨g1,g2,_,_⟩
  ·rw[e2,g2]
  ·rw[e]at g2;simp at g2;omega
 ·rcases g with ⟨e,_⟩ | ⟨g1,g2,g3,g4⟩
  ·rw[e]at h2;simp at h2;omega
  ·have hn:w≠[]:=fun z=>by rw[z]at h2;simp at h2;omega
   by_cases z:s<k
   ·exact absurd (tG h1 h2 h3) (g4 s h1 z)
   ·by_cases z2:k<s
    ·exact absurd (rG hn g1 g2 g3 g4) (h4 k g1 z2)
    ·omega
theorem BB (w:List Nat) (h:w≠[]):gX w w.length:=by
 have hl:0<w.length:=Ut.mpr h
 unfold gX
 rw[Nat.div_self hl,ZG (Ur _)]
 show dQ (0+1) w=w
 rw[eS]
 simp[dQ]
theorem BC (w:List Nat):gf w w.length:=by
 unfold gf gs
 rw[Qaz (Ur _),ZG (Ur _)]
 rfl
noncomputable def G9 (c:List Nat) (n:Nat):List Nat:=((List.range n).map (· +1)).filter fun k=>decide (gf c k)
theorem tH {c:List Nat} {n k:Nat}:k∈G9 c n↔(1<=k/\k<=n)/\gf c k:=by
 unfold G9
 rw[ZZ,ZJ]
 constructor
 ·rintro ⟨⟨j,hj,rfl⟩,h⟩
  have:=Qad.mp hj
  exact ⟨by omega,of_decide_eq_true h⟩
 ·rintro ⟨h1,h2⟩
  exact ⟨⟨k - 1,Qad.mpr (by omega),by omega⟩,decide_eq_true h2⟩
theorem yn (c:List Nat) (n:Nat):(G9 c n).Pairwise (· < ·):=by
 unfold G9
 refine List.Pairwise.filter _ ?_
 rw[Qak]
 exact (List.pairwise_lt_range (n:=n)).imp fun h=>Nat.succ_lt_succ h
theorem oY {c:List Nat} (h:c≠[]): ∃k r,G9 c c.length=k::r/\i4 c k:=by
 have hl:0<c.length:=Ut.mpr h
 have hm:c.length∈G9 c c.length:=tH.mpr ⟨by omega,BC c⟩
 rcases e:G9 c c.length with _ | ⟨k,r⟩
 ·rw[e]at hm;exact absurd hm Zy
 ·refine ⟨k,r,rfl, .inr ?_⟩
  have hk:k∈G9 c c.length:=by rw[e];exact Wi
  obtain ⟨⟨h1,h2⟩,h3⟩:=tH.mp hk
  refine ⟨h1,h2,h3,fun j j1 j2 z=>?_⟩
  have hj:j∈G9 c c.length:=tH.mpr ⟨by omega,z⟩
  have hs:=yn c c.length
  rw[e]at hj hs
  rcases Wj.mp hj with w | w
  ·omega
  ·have:=List.rel_of_pairwise_cons hs w
   omega
noncomputable def II (w:List Nat) (s:Nat):List V:=[.str (S (w.take s)), .int ((w.length / s:Nat):Int)]
def zR (_:PySem.W.Frag):Sp:=fun vs H Q _=> ∃l:List Nat,vs=[.str (S l)]/\(∀c∈l,Lt c)/\l.length<=1000/\ ∀p s H',H p=none->H' p=some (.tup (II (dU l) s))->bZ (dU l) s->ar H H'->Q (.ref p) H'
theorem DB {K:PySem.W.Frag} {vs:List V} {H:Hp} {Q:VK} {E:XK} (h:zR K vs H Q E):vs.length=1:=by obtain ⟨c,rfl,_⟩:=h;rfl
theorem br: ∀c∈aR,aF c=true/\PyProof.Rows.lo1 c=c/\aC c∈j8:=by decide+kernel
theorem b5: ∀c∈j8,aF c=false/\PyProof.Rows.lo1 c=aC c/\c∉aR/\aC c∈aR:=by decide+kernel
theorem rH: ∀c∈j8,c∉aR:=by decide+kernel
theorem jx {c:Nat} (h:Lt c):aF c=decide (c∈aR):=by
 rcases h with h | h
 ·rw[(br c h).1,decide_eq_true h]
 ·rw[(b5 c h).1,decide_eq_false (b5 c h).2.2.1]
noncomputable def gr (y:List Nat) (a b c:Nat):Bool:=decide ((((y.idxOf b:Nat):Int) - ((y.idxOf a:Nat):Int))%(y.length:Int)<(((y.idxOf c:Nat):Int) - ((y.idxOf a:Nat):Int))%(y.length:Int))
def jy (i j k:Nat):Prop:=(i<j/\j<k)\/(j<k/\k<i)\/(k<i/\i<j)
noncomputable instance (i j k:Nat):Decidable (jy i j k):=by unfold jy;infer_instance
theorem i5 {i j n:Nat} (hi:i<n) (hj:j<n):((j:Int) - (i:Int))%(n:Int)=if i<=j then (j:Int) - i else (j:Int) - i+n:=by
 split
 ·exact ZH (by omega) (by omega)
 ·rw[<-Qbf]
  exact ZH (by omega) (by omega)
theorem i6 {y:List Nat} {a b c:Nat} (hn:y.Nodup) (ha:a∈y) (hb:b∈y) (hc:c∈y) (Co:a≠b) (IJ:a≠c) (IK:b≠c):gr y a b c=decide (jy (y.idxOf a) (y.idxOf b) (y.idxOf c)):=by
 have ia:=Wh ha
 have ib:=Wh hb
 have ic:=Wh hc
 have inj: ∀{u v:Nat},u∈y->v∈y->u≠v->y.idxOf u≠y.idxOf v:=fun {u v} hu hv h z=>h (by
  have e1:=Qao (Wh hu)
  have e2:=Qao (Wh hv)
  rw[<-e1, <-e2]
  congr 1)
 have n1:=inj ha hb Co
 have n2:=inj ha hc IJ
 have n3:=inj hb hc IK
 unfold gr
 rw[i5 ia ib,i5 ia ic]
 generalize y.idxOf a=i at*
 generalize y.idxOf b=j at*
 generalize y.idxOf c=k at*
 refine decide_eq_decide.mpr ?_
 unfold jy
 split<;>split<;>omega
theorem DC {i j k:Nat}:jy j k i↔jy i j k:=by unfold jy;omega
theorem G_ {i j k:Nat} (h1:i≠j) (h2:i≠k) (h3:j≠k):jy i k j↔ ¬jy i j k:=by unfold jy;omega
theorem zS {y:List Nat} {a b c:Nat} (hn:y.Nodup) (ha:a∈y) (hb:b∈y) (hc:c∈y) (Co:a≠b) (IJ:a≠c) (IK:b≠c):gr y b c a=gr y a b c:=by
 rw[i6 hn ha hb hc Co IJ IK,i6 hn hb hc ha IK (Ne.symm Co) (Ne.symm IJ)]
 exact decide_eq_decide.mpr DC
theorem dD {y:List Nat} {u v:Nat} (hu:u∈y) (hv:v∈y) (h:u≠v):y.idxOf u≠y.idxOf v:=fun z=>h (by
 have e1:=Qao (Wh hu)
 have e2:=Qao (Wh hv)
 rw[<-e1, <-e2]
 congr 1)
theorem DD {y:List Nat} {a b c:Nat} (hn:y.Nodup) (ha:a∈y) (hb:b∈y) (hc:c∈y) (Co:a≠b) (IJ:a≠c) (IK:b≠c):gr y a c b=!gr y a b c:=by
 rw[i6 hn ha hb hc Co IJ IK,i6 hn ha hc hb IJ Co (Ne.symm IK)]
 rw[<-decide_not]
 exact decide_eq_decide.mpr (G_ (dD ha hb Co) (dD ha hc IJ) (dD hb hc IK))
theorem Kz (d:Nat) (t:List Nat) (a:Nat):(d::t).idxOf a=if d=a then 0 else t.idxOf a+1:=by
 by_cases h:d=a
 ·subst h;rw[if_pos rfl,List.idxOf_cons_self]
 ·rw[if_neg h,List.idxOf_cons,show (d==a)=false by simp[h]];rfl
theorem BD {a b:List Nat} (h:a.Perm b) (ha:a.Pairwise (· <= ·)) (hb:b.Pairwise (· <= ·)):a=b:=
 List.Perm.eq_of_pairwise (le:=fun x y=>x<=y) (fun _ _ _ _ h1 h2=>Qd0 h1 h2) ha hb h
def vT (_:PySem.W.Frag):Sp:=fun vs H Q _=> ∃l:List Nat,vs=[.str (S l)]/\(∀c∈l,c<128)/\l.length<64/\ ∀l' H',l'.Perm (l.filter aF)->l'.Pairwise (· <= ·)->ar H H'->Q (.str (S l')) H'
theorem BE {K:PySem.W.Frag} {vs:List V} {H:Hp} {Q:VK} {E:XK} (h:vT K vs H Q E):vs.length=1:=by obtain ⟨c,rfl,_⟩:=h;rfl
def i7 (_:PySem.W.Frag):Sp:=fun vs H Q _=> ∃(y:List Nat) (a b:Nat),vs=[.str (S y), .str (S [a]), .str (S [b])]/\a∈y/\b∈y/\y.length<=1000/\Q (.int ((((y.idxOf b:Nat):Int) - ((y.idxOf a:Nat):Int))%(y.length:Int))) H
theorem nj {K:PySem.W.Frag} {vs:List V} {H:Hp} {Q:VK} {E:XK} (h:i7 K vs H Q E):vs.length=3:=by obtain ⟨c,_,_,rfl,_⟩:=h;rfl
theorem vU {p:Nat->Bool} {l:List Nat} {i c:Nat} (h:l[i]? =some c):(l.take (i+1)).filter p=(l.take i).filter p++if p c=true then [c] else []:=by
 rw[<-take_snoc h,Qbe]
 congr 1
 by_cases z:p c=true
 ·rw[if_pos z,ZV z];rfl
 ·rw[if_neg z,ZK z];rfl
theorem DE {y:List Nat} (h:Yd y):2*(y.filter aF).length=y.length:=by
 have key: ∀p q:Nat->Bool,(∀c∈y,p c=true->q (aC c)=true)->(y.filter p).length<=(y.filter q).length:=fun p q WU=>by
  have hn:((y.filter p).map aC).Nodup:=by
   show ((y.filter p).map aC).Pairwise (· ≠ ·)
   rw[Qak]
   refine (h.nd.filter p).imp_of_mem fun {a b} ha hb z e=>z ?_
   exact fk (h.lt a (ZZ.mp ha).1) (h.lt b (ZZ.mp hb).1) e
  have:=hn.length_le_of_subset (l₂:=y.filter q) fun c hc=>by
   obtain ⟨d,hd,rfl⟩:=ZJ.mp hc
   obtain ⟨d1,d2⟩:=ZZ.mp hd
   exact ZZ.mpr ⟨h.cl d d1,WU d d1 d2⟩
  rwa [Us]at this
 have k1:=key aF (fun c=>!aF c) fun c hc z=>by
  rw[jx (h.lt c hc)]at z
  have hs:=of_decide_eq_true z
  rw[(b5 _ (br c hs).2.2).1];rfl
 have k2:=key (fun c=>!aF c) aF fun c hc z=>by
  rcases h.lt c hc with q | q
  ·rw[(br c q).1]at z;cases z
  ·exact (br _ (b5 c q).2.2.2).1
 have k3:(y.filter aF).length+(y.filter fun c=>!aF c).length=y.length:=by
  clear k1 k2 key h
  induction y with
  | nil=>rfl
  | cons a r ih=>
   cases hq:aF a
   ·rw[ZK (by simp[hq]),ZV (by simp[hq]),ZM,ZM];omega
   ·rw[ZV hq,ZK (by simp[hq]),ZM,ZM];omega
 omega
noncomputable def rd (w:List Nat) (k:Int):Nat:=w.getD (k%(w.length:Int)).toNat 0
theorem Px {w:List Nat} (h:w≠[]) (k:Int):(k%(w.length:Int)).toNat<w.length:=by
 have:0<w.length:=Ut.mpr h
 have h1:=Qai k (b:=(w.length:Int)) (by omega)
 have h2:=kb k (b:=(w.length:Int)) (by omega)
 omega
theorem eW {w:List Nat} (h:w≠[]) (k:Int):w[(k%(w.length:Int)).toNat]? =some (rd w k):=by
 unfold rd
 rw[Zp,J0 (Px h k)]
 rfl
theorem eX {w:List Nat} (h:w≠[]) (k:Int):rd w k∈w:=Zs (eW h k)
theorem ie (w:List Nat) (k:Int):rd w (k+w.length)=rd w k:=by unfold rd;rw[Qbf]
theorem ig (w:List Nat) (k:Int):rd w (k%w.length)=rd w k:=by unfold rd;rw[Qb9 _ (Int.dvd_refl _)]
theorem md {w:List Nat} {k:Nat} (h:k<w.length):w[k]? =some (rd w k):=by
 have dc:w≠[]:=fun z=>by rw[z]at h;exact absurd h (Qc1 _)
 have:=eW dc (k:Int)
 rwa [ZH (by omega) (by omega),YT]at this
theorem vV {w:List Nat} {k:Int} {n:Nat} {c:Nat} (hn:n<w.length) (e:k%(w.length:Int)=n) (h:w[n]? =some c):rd w k=c:=by
 have:=md hn
 rw[h]at this
 rw[<-ig,e]
 exact (YS this).symm
theorem jP {w:List Nat} {k:Int} (h1: -(w.length:Int)<=k) (h2:k<w.length):iD w k=some (rd w k):=by
 have dc:w≠[]:=fun z=>by rw[z]at h1 h2;simp at h1 h2;omega
 unfold iD Fx
 by_cases h0:0<=k
 ·rw[if_pos h0,if_pos h2]
  have:=eW dc k
  rw[ZH h0 h2]at this
  exact this
 ·rw[if_neg h0,if_pos h1]
  have:=eW dc (k+w.length)
  rw[ie,ZH (by omega) (by omega)]at this
  exact this
theorem ik {f:Int->Nat} {p:Nat} (P: ∀k,f (k+p)=f k) (k:Int): ∀t:Nat,f (k+t*p)=f k
 | 0=>by simp
 | t+1=>by
  have:k+((t+1:Nat):Int)*p=k+t*p+p:=by rw[Z0,Int.add_mul];simp;omega
  rw[this,P,ik P k t]
theorem fw {f g:Int->Nat} {p q:Nat} (hp:0<p) (hq:0<q) (Pf: ∀k,f (k+p)=f k) (Pg: ∀k,g (k+q)=g k) (h: ∀n:Nat,n<p+q->f n=g n) (k:Int):f k=g k:=by
 have up: ∀N n:Nat,n<N->f n=g n:=by
  intro N
  induction N with
  | zero=>intro n hn;omega
  | succ N ih=>
   intro n hn
   by_cases z:n<p+q
   ·exact h n z
   ·have e1:f n=f ((n - p:Nat):Int):=by have:=Pf ((n - p:Nat):Int);rwa [show ((n - p:Nat):Int)+p=n by omega]at this
    have e2:g ((n - p:Nat):Int)=g ((n - p - q:Nat):Int):=by have:=Pg ((n - p - q:Nat):Int);rwa [show ((n - p - q:Nat):Int)+q=((n - p:Nat):Int) by omega]at this
    have e3:f ((n - q:Nat):Int)=f ((n - p - q:Nat):Int):=by have:=Pf ((n - p - q:Nat):Int);rwa [show ((n - p - q:Nat):Int)+p=((n - q:Nat):Int) by omega]at this
    have e4:g n=g ((n - q:Nat):Int):=by have:=Pg ((n - q:Nat):Int);rwa [show ((n - q:Nat):Int)+q=n by omega]at this
    rw[e1,ih (n - p) (by omega),e2, <-ih (n - p - q) (by omega), <-e3,ih (n - q) (by omega), <-e4]
 have kP: ∃m:Nat,k+((k.natAbs*q:Nat):Int)*p=m/\k+((k.natAbs*p:Nat):Int)*q=m:=by
  have e1:((k.natAbs*q:Nat):Int)*p=((k.natAbs*(q*p):Nat):Int):=by rw[Nat.mul_assoc k.natAbs q p |>.symm];simp
  have e2:((k.natAbs*p:Nat):Int)*q=((k.natAbs*(q*p):Nat):Int):=by rw[Qa6 q p,Nat.mul_assoc k.natAbs p q |>.symm];simp
  have hle:k.natAbs<=k.natAbs*(q*p):=Nat.le_mul_of_pos_right _ (Nat.mul_pos hq hp)
  generalize k.natAbs*(q*p)=M at e1 e2 hle
  exact ⟨(k+M).toNat,by omega,by omega⟩
 obtain ⟨m,h1,h2⟩:=kP
 rw[<-ik Pf k (k.natAbs*q),h1, <-ik Pg k (k.natAbs*p),h2]
 exact up (m+1) m (Qbb m)
noncomputable def gu (f g:Int->Nat):Nat->Nat->Nat
 | 0,i=>i
 | n+1,i=>if f i=g i then gu f g n (i+1) else i
theorem gZ (f g:Int->Nat): ∀n i:Nat,i<=gu f g n i/\gu f g n i<=i+n/\(∀j:Nat,i<=j->j<gu f g n i->f j=g j)/\(gu f g n i<i+n->f (gu f g n i)≠g (gu f g n i))
 | 0,i=>⟨Ur _,Ur _,fun j h1 h2=>absurd (ZO h1 h2) (ZS _),fun h=>absurd h (ZS _)⟩
 | n+1,i=>by
  unfold gu
  by_cases z:f i=g i
  ·rw[if_pos z]
   obtain ⟨h1,h2,h3,h4⟩:=gZ f g n (i+1)
   refine ⟨by omega,by omega,fun j g1 g2=>?_,fun g1=>h4 (by omega)⟩
   by_cases e:j=i
   ·rw[e];exact z
   ·exact h3 j (by omega) g2
  ·rw[if_neg z]
   exact ⟨Ur _,by omega,fun j g1 g2=>absurd (ZO g1 g2) (ZS _),fun _=>z⟩
noncomputable def al (y:List Nat) (f g:Int->Nat) (n:Nat):Nat:=
 if f 0≠g 0\/f (-1)=g (-1) then 0 else
 if gr y (aC (f (-1))) (aC (g (-1))) (f 0)=gr y (f (gu f g n 0)) (g (gu f g n 0)) (aC (f ((gu f g n 0:Nat) - 1))) then gu f g n 0 else 0
noncomputable def ac (y:List Nat) (a b p q:Nat):Bool:=if p=a\/p=b\/q=a\/q=b then false else (gr y a p b != gr y a q b)
noncomputable def sq (w:List Nat) (i:Int):Int->Nat:=fun n=>rd w (i+n)
noncomputable def bq (v:List Nat) (j:Int):Int->Nat:=fun n=>aC (rd v (j - n))
theorem b_ (w:List Nat) (i k:Int):sq w i (k+w.length)=sq w i k:=by unfold sq;rw[<-Int.add_assoc,ie]
theorem yo (w:List Nat) (k:Int):rd w (k - w.length)=rd w k:=by rw[<-ie w (k - w.length)];congr 1;omega
theorem kc (w:List Nat) (i k:Int):bq w i (k+w.length)=bq w i k:=by unfold bq;rw[show i - (k+(w.length:Int))=i - k - w.length by omega,yo]
theorem me {v:List Nat} (h:v≠[]) (k:Int):rd (gR v) k=aC (rd v (-1 - k)):=by
 have kP:0<v.length:=Ut.mpr h
 have h1:=Qai k (b:=(v.length:Int)) (by omega)
 have h2:=kb k (b:=(v.length:Int)) (by omega)
 have e:(-1 - k)%(v.length:Int)=v.length - 1 - k%v.length:=by
  have e1:=Qc6 k v.length
  have: -1 - k=(v.length - 1 - k%v.length)+v.length*(-(k / v.length) - 1):=by rw[Int.mul_sub,Int.mul_neg];omega
  rw[this,Qbm,ZH (by omega) (by omega)]
 generalize hr:k%(v.length:Int)=r at h1 h2 e
 obtain ⟨n,rfl⟩: ∃n:Nat,r=n:=⟨r.toNat,by omega⟩
 have hn:n<v.length:=by omega
 have e2:rd v (-1 - k)=v[v.length - 1 - n]'(by omega):=vV (n:=v.length - 1 - n) (by omega) (by rw[e];omega) (J0 (by omega))
 rw[e2]
 refine vV (n:=n) (by rw[cD];exact hn) (by rw[cD];exact hr) ?_
 unfold gR
 rw[Qbj (by rw[Us];exact hn),Us,Zv,J0 (by omega)]
 rfl
theorem KA {v:List Nat} (h:v≠[]) (j:Nat):sq (gR v) ((v.length:Int) - 1 - j)=bq v j:=by
 funext n
 unfold sq bq
 rw[me h,show -1 - ((v.length:Int) - 1 - j+n)=j - n - v.length by omega,yo]
structure SW (y w:List Nat):Prop where
 ne:w≠[]
 bW: ∀c∈w,c∈y
 red: ∀k:Int,rd w k≠aC (rd w (k - 1))
theorem SW.rd {y w:List Nat} (h:SW y w) (k:Int):rd w k∈y:=h.bW _ (eX h.ne k)
theorem dW {w v:List Nat} {f g:Int->Nat} (hw:w≠[]) (hv:v≠[]) (pf: ∀k,f (k+w.length)=f k) (pg: ∀k,g (k+v.length)=g k) (h:f (-1)≠g (-1)):gu f g (w.length+v.length) 0<w.length+v.length/\f (gu f g (w.length+v.length) 0)≠g (gu f g (w.length+v.length) 0):=by
 obtain ⟨_,b,c,d⟩:=gZ f g (w.length+v.length) 0
 by_cases z:gu f g (w.length+v.length) 0<w.length+v.length
 ·exact ⟨z,d (by omega)⟩
 ·exact absurd (fw (Ut.mpr hw) (Ut.mpr hv) pf pg (fun n hn=>c n (YU _) (by omega)) (-1)) h
noncomputable def vW (ws:List (List Nat)):Nat->List (Nat×Nat)
 | 0=>[]
 | n+1=>vW ws n++(List.range (ws.getD n []).length).map fun i=>(n,i)
noncomputable def places (ws:List (List Nat)):List (Nat×Nat):=vW ws ws.length
theorem tI {ws:List (List Nat)}: ∀{n:Nat} {o:Nat×Nat},o∈vW ws n↔o.1<n/\o.2<(ws.getD o.1 []).length
 | 0,o=>by simp[vW]
 | n+1,o=>by
  unfold vW
  rw[Zx,tI (n:=n),ZJ]
  constructor
  ·rintro (⟨h1,h2⟩ | ⟨i,hi,rfl⟩)
   ·exact ⟨by omega,h2⟩
   ·exact ⟨by simp,Qad.mp hi⟩
  ·rintro ⟨h1,h2⟩
   by_cases z:o.1<n
   ·exact .inl ⟨z,h2⟩
   ·have e:o.1=n:=by omega
    exact .inr ⟨o.2,Qad.mpr (by rw[<-e];exact h2),by rw[<-e]⟩
theorem zT {ws:List (List Nat)}: ∀n:Nat,(vW ws n).Pairwise fun a b=>Fz a.1 a.2 b.1 b.2=true
 | 0=>List.Pairwise.nil
 | n+1=>by
  unfold vW
  rw[Qa8]
  refine ⟨zT n,?_,fun a ha b hb=>?_⟩
  ·rw[Qak]
   refine List.pairwise_lt_range.imp fun {a b} h=>?_
   unfold Fz
   rw[if_pos rfl]
   exact decide_eq_true (by show (a:Int)<b;omega)
  ·obtain ⟨i,hi,rfl⟩:=ZJ.mp hb
   have:=(tI.mp ha).1
   unfold Fz
   rw[if_neg (by show ¬((a.1:Nat):Int)=(n:Nat);omega)]
   exact decide_eq_true (by show ((a.1:Nat):Int)<(n:Nat);omega)
theorem mf: ∀{a b:List Int},bL a b=true->bL b a=false/\a≠b
 | [],[],h=>by simp[bL]at h
 | [],_::_,h=>⟨rfl,by simp⟩
 | _::_,[],h=>by simp[bL]at h
 | x::r,z::t,h=>by
  simp only[bL]at h ⊢
  split at h
  ·rename_i e
   obtain ⟨h1,h2⟩:=mf h
   rw[if_pos e.symm]
   exact ⟨h1,fun q=>h2 (List.cons.inj q).2⟩
  ·rename_i e
   have h':=of_decide_eq_true h
   rw[if_neg (fun q=>e q.symm)]
   exact ⟨decide_eq_false (by omega),fun q=>e (List.cons.inj q).1⟩
noncomputable def i8 (n:Nat) (l:List Nat):List Nat:=(List.replicate n l).flatten
def BF (w:List Nat):Prop:= ∀(k a b:Nat),w[k]? =some a->w[k+1]? =some b->b≠aC a
theorem BF.nil:BF []:=fun k a b h=>by simp at h
theorem BF.take {w:List Nat} (h:BF w) (n:Nat):BF (w.take n):=fun k a b h1 h2=>by
 rw[Qbz]at h1 h2
 split at h1
 ·split at h2
  ·exact h k a b h1 h2
  ·cases h2
 ·cases h1
theorem BF.snoc {w:List Nat} {c:Nat} (h:BF w) (hc: ∀a,w.getLast? =some a->c≠aC a):BF (w++[c]):=fun k a b h1 h2=>by
 by_cases z:k+1<w.length
 ·rw[ZW (by omega)]at h1
  rw[ZW z]at h2
  exact h k a b h1 h2
 ·have sV:k+1<(w++[c]).length:=(J1.mp h2).1
  rw[L5]at sV
  have e:k+1=w.length:=by simp at sV;omega
  rw[ZW (by omega)]at h1
  rw[e,Qaf (Ur _),Nat.sub_self]at h2
  have e2:c=b:=by simpa using h2
  rw[<-e2]
  refine hc a ?_
  rw[Qbs, show w.length - 1=k by omega]
  exact h1
theorem SW.of {y w:List Nat} (ne:w≠[]) (bW: ∀c∈w,c∈y) (FC:BF w) (hd: ∀a b,w.head? =some a->w.getLast? =some b->a≠aC b):SW y w:=by
 refine ⟨ne,bW,fun k=>?_⟩
 have kP:0<w.length:=Ut.mpr ne
 have h1:=Qai k (b:=(w.length:Int)) (by omega)
 have h2:=kb k (b:=(w.length:Int)) (by omega)
 have hk:=eW ne k
 have GS:=eW ne (k - 1)
 by_cases z:k%(w.length:Int)=0
 ·have e:(k - 1)%(w.length:Int)=w.length - 1:=by
   rw[<-Int.emod_sub_emod,z]
   have:(0:Int) - 1=(w.length - 1)+w.length*(-1):=by omega
   rw[this,Qbm,ZH (by omega) (by omega)]
  rw[z]at hk
  rw[e]at GS
  refine hd _ _ ?_ ?_
  ·rw[Qcz];exact hk
  ·rw[Qbs, show w.length - 1=((w.length:Int) - 1).toNat by omega];exact GS
 ·have e:(k - 1)%(w.length:Int)=k%w.length - 1:=by
   rw[<-Int.emod_sub_emod,ZH (by omega) (by omega)]
  rw[e]at GS
  refine FC _ _ _ GS ?_
  rw[show (k%(w.length:Int) - 1).toNat+1=(k%(w.length:Int)).toNat by omega]
  exact hk
theorem SW.FC {y w:List Nat} (h:SW y w):BF w:=fun k a b h1 h2=>by
 have hk:=(J1.mp h2).1
 have e1:=md (w:=w) (k:=k) (by omega)
 have e2:=md (w:=w) (k:=k+1) hk
 rw[h1]at e1
 rw[h2]at e2
 rw[YS e1,YS e2]
 have:=h.red ((k+1:Nat):Int)
 rwa [show (((k+1:Nat):Int) - 1)=(k:Int) by omega]at this
theorem DF {w:List Nat} {n:Nat} (h:w≠[]) (hn:n<=w.length) (k:Int):rd (w.drop n++w.take n) k=rd w (k+n):=by
 have kP:0<w.length:=Ut.mpr h
 have hl:(w.drop n++w.take n).length=w.length:=by rw[L5,Zz,Zo];omega
 have h1:=Qai k (b:=(w.length:Int)) (by omega)
 have h2:=kb k (b:=(w.length:Int)) (by omega)
 have e:(k+n)%(w.length:Int)=(k%w.length+n)%w.length:=by rw[Qdt]
 generalize hr:k%(w.length:Int)=r at h1 h2 e
 obtain ⟨m,rfl⟩: ∃m:Nat,r=m:=⟨r.toNat,by omega⟩
 have hm:m<w.length:=by omega
 by_cases z:m+n<w.length
 ·have hg:w[m+n]? =some (rd w (k+n)):=by
   have:=eW h (k+n)
   rwa [e,ZH (by omega) (by omega),show ((m:Int)+n).toNat=m+n by omega]at this
  refine vV (n:=m) (by rw[hl];exact hm) (by rw[hl];exact hr) ?_
  rw[ZW (by rw[Zz];omega),Qau,Qdm]
  exact hg
 ·have hg:w[m+n - w.length]? =some (rd w (k+n)):=by
   have:=eW h (k+n)
   have e2:((m:Int)+n)%w.length=((m+n - w.length:Nat):Int):=by
    have:(m:Int)+n=((m+n - w.length:Nat):Int)+w.length:=by omega
    rw[this,Qbf,ZH (by omega) (by omega)]
   rwa [e,e2,YT]at this
  refine vV (n:=m) (by rw[hl];exact hm) (by rw[hl];exact hr) ?_
  rw[Qaf (by rw[Zz];omega),Zz,Qbz,if_pos (by omega),show m - (w.length - n)=m+n - w.length by omega]
  exact hg
theorem SW.gs {y w:List Nat} {n:Nat} (h:SW y w) (hn:n<=w.length):SW y (w.drop n++w.take n):=by
 refine ⟨fun z=>h.ne ?_,fun c hc=>?_,fun k=>?_⟩
 ·have l0:(w.drop n++w.take n).length=0:=by rw[z];rfl
  rw[L5,Zz,Zo]at l0
  exact Qar.mp (by omega)
 ·exact h.bW c ((Zx.mp hc).elim Qc8 Qa9)
 ·rw[DF h.ne hn,DF h.ne hn,show k - 1+n=k+n - 1 by omega]
  exact h.red _
theorem SW.gR {y w:List Nat} (hy:Yd y) (h:SW y w):SW y (gR w):=by
 refine ⟨fun z=>h.ne ?_,fun c hc=>?_,fun k=>?_⟩
 ·have:=cD w
  rw[z]at this
  exact Qar.mp this.symm
 ·obtain ⟨d,hd,rfl⟩:=ZJ.mp (Qcp.mp hc)
  exact hy.cl d (h.bW d hd)
 ·rw[me h.ne,me h.ne,show -1 - (k - 1)= -1 - k+1 by omega]
  intro q
  have l1:=hy.lt _ (h.rd (-1 - k))
  have l2:=hy.lt _ (h.rd (-1 - k+1))
  rw[aJ l2]at q
  have:=h.red (-1 - k+1)
  rw[show -1 - k+1 - 1= -1 - k by omega]at this
  exact this q.symm
theorem kY (n:Nat) (l:List Nat):i8 (n+1) l=l++i8 n l:=by unfold i8;rw[Qda,Qbk]
theorem zU (n:Nat) (l:List Nat):(i8 n l).length=n*l.length:=by
 induction n with
 | zero=>simp[i8]
 | succ n ih=>rw[kY,L5,ih,Qb2,Qdm]
theorem zV {l:List Nat}: ∀{n k:Nat},k<n*l.length->(i8 n l)[k]? =l[k%l.length]?
 | 0,k,h=>by simp at h
 | n+1,k,h=>by
  rw[kY]
  by_cases z:k<l.length
  ·rw[ZW z,Qa2 z]
  ·rw[Qaf (by omega),zV (by rw[Qb2]at h;omega),Qdj (by omega:l.length<=k)]
theorem zW {w:List Nat} {n:Nat} (h:w≠[]) (hn:0<n) (k:Int):rd (i8 n w) k=rd w k:=by
 have kP:0<w.length:=Ut.mpr h
 have hl:=zU n w
 have UT:0<n*w.length:=Nat.mul_pos hn kP
 have h1:=Qai k (b:=((n*w.length:Nat):Int)) (by omega)
 have h2:=kb k (b:=((n*w.length:Nat):Int)) (by omega)
 have e:k%(w.length:Int)=(k%((n*w.length:Nat):Int))%w.length:=(Qb9 k (by rw[Qd2];exact Int.dvd_mul_left _ _)).symm
 generalize hr:k%((n*w.length:Nat):Int)=r at h1 h2 e
 obtain ⟨m,rfl⟩: ∃m:Nat,r=m:=⟨r.toNat,by omega⟩
 have hm:m<n*w.length:=by omega
 refine vV (n:=m) (by rw[hl];exact hm) (by rw[hl];exact hr) ?_
 rw[zV hm]
 have:=eW h k
 rwa [e,show (((m:Int)%w.length).toNat)=m%w.length by rw[<-Qcr,YT]]at this
theorem Ha {w:List Nat} {n c:Nat} (h:c∈i8 n w):c∈w:=by
 obtain ⟨l,hl,hc⟩:=List.mem_flatten.mp h
 rwa [List.eq_of_mem_replicate hl]at hc
theorem SW.dQ {y w:List Nat} {n:Nat} (h:SW y w) (hn:0<n):SW y (i8 n w):=by
 refine ⟨fun z=>?_,fun c hc=>h.bW c (Ha hc),fun k=>by rw[zW h.ne hn,zW h.ne hn];exact h.red k⟩
 have:=zU n w
 rw[z]at this
 have h2:0<n*w.length:=Nat.mul_pos hn (Ut.mpr h.ne)
 simp at this
 omega
theorem SW.twice {y w:List Nat} (h:SW y w):SW y (w++w):=by
 have:=h.dQ (n:=2) (by decide)
 rwa [show i8 2 w=w++w by rw[kY,kY];simp[i8]]at this
theorem SW.snoc {y w:List Nat} {c:Nat} (hy:Yd y) (FC:BF w) (bW: ∀a∈w,a∈y) (hc:c∈y) (h1: ∀a,w.getLast? =some a->c≠aC a) (h2: ∀a,w.head? =some a->c≠aC a):SW y (w++[c]):=by
 refine SW.of (by simp) (fun a ha=>?_) (FC.snoc h1) fun a b ha hb=>?_
 ·rcases Zx.mp ha with q | q
  ·exact bW a q
  ·rw[Wg.mp q];exact hc
 ·have eb:b=c:=by simpa using hb.symm
  subst eb
  cases w with
  | nil=>
   have:b=a:=by simpa using ha
   rw[<-this]
   exact fun q=>eT (hy.lt b hc) q.symm
  | cons x r=>
   have:x=a:=by simpa using ha
   subst this
   have hx:x∈y:=bW x Wi
   intro q
   exact h2 x rfl (by rw[q,aJ (hy.lt b hc)])
theorem tJ {w:List Nat} (h:w≠[]):w.getLast? =some (rd w (-1)):=by
 have kP:0<w.length:=Ut.mpr h
 have:=eW h (-1)
 have e:(-1:Int)%(w.length:Int)=w.length - 1:=by
  have e2:(-1:Int)=((w.length:Int) - 1)+w.length*(-1):=by omega
  rw[e2,Qbm,ZH (by omega) (by omega)]
 rw[e]at this
 rw[Qbs, show w.length - 1=((w.length:Int) - 1).toNat by omega]
 exact this
theorem nS {w:List Nat} (h:w≠[]):w.head? =some (rd w 0):=by
 have:=eW h 0
 rw[Qcz]
 simpa using this
theorem BG (w:List Nat): ∃k,i4 w k:=by
 by_cases h:w=[]
 ·exact ⟨0, .inl ⟨h,rfl⟩⟩
 ·obtain ⟨k,_,_,t⟩:=oY h
  exact ⟨k,t⟩
theorem bZ.turn {w:List Nat} {s:Nat} (h:bZ w s):i4 w s:=by
 obtain ⟨k,t⟩:=BG w
 rw[gY h t];exact t
theorem bZ.least {w:List Nat} {s j:Nat} (h:bZ w s) (j1:1<=j) (j2:j<s) (hp:xg w j):False:=by
 rcases h.turn with ⟨_,e⟩ | ⟨h1,h2,h3,h4⟩
 ·omega
 ·have hn:w≠[]:=fun z=>by rw[z]at h2;simp at h2;omega
  exact h4 j j1 j2 ((gC hn (by omega)).mpr hp)
theorem SW.WV {y w:List Nat} (hy:Yd y) (h:SW y w):jw w:=Dv fun k a b ha hb e=>by
 have IL:b∈y:=h.bW b (Zs hb)
 have:=h.FC k a b ha hb
 rw[e,aJ (hy.lt b IL)]at this
 exact this rfl
theorem SW.core {y w:List Nat} (hy:Yd y) (h:SW y w):My.core (My.red w)=w:=by
 rw[Dt (h.WV hy)]
 by_cases z:w.length<2
 ·exact eV z
 ·obtain ⟨a,m,e,hw⟩:=zP (l:=w) (by omega)
  have h0:=nS h.ne
  have h1:=tJ h.ne
  have hr:=h.red 0
  rw[show (0:Int) - 1= -1 by omega]at hr
  rw[hw]at h0 h1 hr ⊢
  have e0:a=My.rd (a::(m++[e])) 0:=YS h0
  have e1:e=My.rd (a::(m++[e])) (-1):=by
   have:(a::(m++[e])).getLast? =some e:=by rw[<-Qdx,List.getLast?_append];rfl
   exact YS (this.symm.trans h1)
  exact gW (by rw[<-e0, <-e1]at hr;exact hr)
theorem tK {w:List Nat} {k:Nat} (hk:k<=w.length) (i:Nat):Fw (gs w k) i=Fw w (i+k):=by
 by_cases z:w=[]
 ·subst z
  unfold Fw gs
  simp
 ·have hp:0<w.length:=Ut.mpr z
  have e:Fw (gs w k) i=(gs w k)[i%w.length]?:= by unfold Fw;rw[cJ]
  rw[e,nR hk (Qby _ hp),DA]
theorem zX {w:List Nat} {k s:Nat} (hk:k<=w.length) (hn:w≠[]):xg (gs w k) s↔xg w s:=by
 constructor
 ·intro h i
  have h1:=h (i+(w.length - k))
  rw[tK hk,tK hk]at h1
  have e1:i+(w.length - k)+s+k=i+s+w.length:=by omega
  have e2:i+(w.length - k)+k=i+w.length:=by omega
  rw[e1,e2,xg.whole w,xg.whole w]at h1
  exact h1
 ·intro h i
  rw[tK hk,tK hk,show i+s+k=i+k+s by omega]
  exact h _
theorem rJ {w:List Nat} (hn:w≠[]) {s:Nat} (h:bZ w s):i4 w s:=by
 obtain ⟨k,r,_,g⟩:=oY hn
 rw[gY h g]
 exact g
theorem DG {w:List Nat} {k s:Nat} (hk:k<=w.length) (hn:w≠[]) (h:i4 (gs w k) s):i4 w s:=by
 have xx:gs w k≠[]:=fun z=>hn (Qar.mp (by have:=cJ w k;rw[z]at this;exact this.symm))
 rcases h with ⟨z,_⟩ | ⟨h1,h2,h3,h4⟩
 ·exact absurd z xx
 ·rw[cJ]at h2
  refine .inr ⟨h1,h2,(gC hn h2).mpr ((zX hk hn).mp ((gC xx (by rw[cJ];exact h2)).mp h3)),fun j j1 j2 j3=>h4 j j1 j2 ?_⟩
  exact (gC xx (by rw[cJ];omega)).mpr ((zX hk hn).mpr ((gC hn (by omega)).mp j3))
theorem BH {y w:List Nat} {s t:Nat} (hy:Yd y) (h:SW y w) (hr:bZ (dU w) s) (hw:bZ w t):s=t/\(dU w).length=w.length:=by
 have e:dU w=fM w:=by unfold dU;rw[h.core hy]
 obtain ⟨k,ek⟩:=rF w
 have sV: ∃k,k<=w.length/\fM w=gs w k:=by
  by_cases z:k<=w.length
  ·exact ⟨k,z,ek⟩
  ·refine ⟨w.length,Ur _,?_⟩
   rw[ek]
   unfold gs
   rw[Qaz (by omega),ZG (by omega),List.drop_length,Qaq]
 obtain ⟨k,hk,ek⟩:=sV
 rw[e,ek]at hr ⊢
 have xx:gs w k≠[]:=fun z=>h.ne (Qar.mp (by have:=cJ w k;rw[z]at this;exact this.symm))
 refine ⟨?_,cJ w k⟩
 exact (gY hw (DG hk h.ne (rJ xx hr))).symm
theorem zY {w:List Nat} (hn:w≠[]): ∃s,bZ w s:=by
 obtain ⟨k,r,_,g⟩:=oY hn
 rcases g with ⟨z,_⟩ | ⟨h1,h2,h3,h4⟩
 ·exact absurd z hn
 ·exact ⟨k, .inr ⟨h1,h2,rG hn h1 h2 h3 h4,fun j j1 j2 j3=>h4 j j1 j2 (tG j1 (by omega) j3)⟩⟩
theorem DH {w:List Nat} {s t:Nat} (hn:w≠[]) (h:bZ w s) (g:bZ w t):s=t:=gY h (rJ hn g)
theorem nU {a b:List Nat} {e:Nat} (hn:(a++b).Nodup) (he:e∈a++b):(b++a).idxOf e=if (a++b).idxOf e<a.length then (a++b).idxOf e+b.length else (a++b).idxOf e - a.length:=by
 rw[Qaa]at hn
 obtain ⟨na,nb,WW⟩:=hn
 by_cases z:e∈a
 ·have zb:e∉b:=fun q=>WW e z e q rfl
  rw[Qcj,Qcj,if_pos z,if_neg zb,if_pos (Wh z)]
 ·have zb:e∈b:=(Zx.mp he).resolve_left z
  rw[Qcj,Qcj,if_pos zb,if_neg z,if_neg (by omega)]
  omega
theorem rK {y:List Nat} {k e:Nat} (hn:y.Nodup) (hk:k<=y.length) (he:e∈y):(((y.drop k++y.take k).idxOf e:Nat):Int)=((y.idxOf e:Int) - k)%y.length:=by
 have h1:=nU (a:=y.take k) (b:=y.drop k) (e:=e) (by rw[ZL];exact hn) (by rw[ZL];exact he)
 rw[ZL,Zo,Zz,Qag hk]at h1
 have hi:=Wh he
 rw[h1]
 by_cases z:y.idxOf e<k
 ·rw[if_pos z]
  have:(y.idxOf e:Int) - k=((y.idxOf e+(y.length - k):Nat):Int)+y.length*(-1):=by omega
  rw[this,Qbm,ZH (by omega) (by omega)]
 ·rw[if_neg z,ZH (by omega) (by omega)]
  omega
theorem DI {y:List Nat} {a b c:Nat} (hn:y.Nodup) (ha:a∈y) (hb:b∈y) (hc:c∈y):decide ((((y.drop (y.idxOf a)++y.take (y.idxOf a)).idxOf b:Nat):Int)<(((y.drop (y.idxOf a)++y.take (y.idxOf a)).idxOf c:Nat):Int))=gr y a b c:=by
 have hk:=ZT (Wh ha)
 rw[rK hn hk hb,rK hn hk hc]
 rfl
structure Py (y:List Nat) (ws:List (List Nat)):Prop where
 sw: ∀w∈ws,SW y w/\w.length<=12
 uN:ws.length<=4
 all:(places ws).length<=24
theorem getD_in {ws:List (List Nat)} {c:Nat} (h:c<ws.length):ws.getD c []∈ws:=by
 rw[Zp,J0 h];exact ZR h
def i9 (_:PySem.W.Frag):Sp:=fun vs H Q _=> ∃(w:List Nat) (i:Nat),vs=[.str (S w), .int i]/\(∀c∈w,Lt c)/\w.length<=1000/\i<w.length/\ ∀q H',H q=none->H' q=some (.tup [.str (S [aC (rd w ((i:Int) - 1))]), .str (S [rd w i])])->ar H H'->Q (.ref q) H'
theorem nk {K:PySem.W.Frag} {vs:List V} {H:Hp} {Q:VK} {E:XK} (h:i9 K vs H Q E):vs.length=2:=by obtain ⟨_,_,rfl,_⟩:=h;rfl
def rL (_:PySem.W.Frag):Sp:=fun vs H Q _=> ∃(b:Addr) (y:List Nat) (top:Nat),vs=[.ref b, .str (S y), .int top]/\bT H b/\Yd y/\2<=y.length/\y.length<=8/\1<=top/\top<=100/\ ∀(w:List Nat) H',SW y w->w.length<=top->bT H' b->aV b H H'->Q (.str (S w)) H'
theorem yp {K:PySem.W.Frag} {vs:List V} {H:Hp} {Q:VK} {E:XK} (h:rL K vs H Q E):vs.length=3:=by obtain ⟨_,_,_,rfl,_⟩:=h;rfl
def vX (_:PySem.W.Frag):Sp:=fun vs H Q _=> ∃(b:Addr) (y w:List Nat) (top:Nat),vs=[.ref b, .str (S y), .str (S w), .int top]/\bT H b/\Yd y/\2<=y.length/\y.length<=8/\1<=top/\top<=100/\SW y w/\w.length<=top/\ ∀(u:List Nat) H',SW y u->u.length<=top->bT H' b->aV b H H'->Q (.str (S u)) H'
theorem BI {K:PySem.W.Frag} {vs:List V} {H:Hp} {Q:VK} {E:XK} (h:vX K vs H Q E):vs.length=4:=by obtain ⟨_,_,_,_,rfl,_⟩:=h;rfl
def rM (_:PySem.W.Frag):Sp:=fun vs H Q _=> ∃(y:List Nat) (a b c:Nat),vs=[.str (S y), .str (S [a]), .str (S [b]), .str (S [c])]/\y.Nodup/\a∈y/\b∈y/\c∈y/\y.length<=1000/\Q (.bl (gr y a b c)) H
theorem yq {K:PySem.W.Frag} {vs:List V} {H:Hp} {Q:VK} {E:XK} (h:rM K vs H Q E):vs.length=4:=by obtain ⟨c,_,_,_,rfl,_⟩:=h;rfl
theorem zZ {ws:List (List Nat)} {m:Nat} (h: ∀w∈ws,w.length<=m): ∀n:Nat,n<=ws.length->(vW ws n).length<=n*m
 | 0,_=>YU _
 | n+1,hn=>by
  unfold vW
  have:=zZ h n (by omega)
  have h2:=h _ (getD_in (ws:=ws) (c:=n) (by omega))
  rw[L5,Us,Qci,Qb2]
  omega
theorem DJ {α:Type} (w:List α):cut w none (some (-1))=w.take (w.length - 1):=by
 unfold cut
 rw[HT.iV,ym]
 simp
structure Wd (y w:List Nat):Prop where
 FC:BF w
 bW: ∀c∈w,c∈y
theorem Wd.more {y w:List Nat} {c:Nat} (h:Wd y w) (hc:c∈y) (hn:w≠[]->c≠aC (rd w (-1))):Wd y (w++[c]):=
 ⟨h.FC.snoc fun a ha=>by
  have dc:w≠[]:=fun z=>by rw[z]at ha;simp at ha
  rw[tJ dc]at ha
  rw[<-YS ha]
  exact hn dc,fun a ha=>by
  rcases Zx.mp ha with g | g
  ·exact h.bW a g
  ·rw[Wg.mp g];exact hc⟩
theorem Wd.sw {y w:List Nat} (h:Wd y w) (dc:w≠[]) (he:rd w 0≠aC (rd w (-1))):SW y w:=
 SW.of dc h.bW h.FC fun a b ha hb=>by
  rw[nS dc]at ha
  rw[tJ dc]at hb
  rw[<-YS ha, <-YS hb]
  exact he
theorem Wd.one {y w:List Nat} (hy:Yd y) (h:Wd y w) (h1:w.length=1):SW y w:=by
 have dc:w≠[]:=fun z=>by rw[z]at h1;simp at h1
 refine h.sw dc ?_
 have e:rd w 0=rd w (-1):=by
  have:=ie w (-1)
  rw[h1]at this
  exact this
 rw[<-e]
 exact fun q=>eT (hy.lt _ (h.bW _ (eX dc 0))) q.symm
noncomputable def vY (y:List Nat) (a b:Nat):Int:=((y.idxOf b:Int) - (y.idxOf a:Int))%(y.length:Int)
noncomputable def gg (y:List Nat) (f:Int->Nat) (k:Int):Int:=vY y (aC (f (k - 1))) (f k)
structure jQ (y:List Nat) (f:Int->Nat):Prop where
 bW: ∀k,f k∈y
 red: ∀k,f k≠aC (f (k - 1))
structure Run (f g:Int->Nat) (a b:Nat):Prop where
 qg: ∀k:Int, -(b:Int)<=k->k<=a->f k=g k
 hi:f (a+1)≠g (a+1)
 lo:f (-(b:Int) - 1)≠g (-(b:Int) - 1)
noncomputable def mY (f:Int->Nat):Int->Nat:=fun k=>aC (f (-k))
noncomputable def eY (f:Int->Nat):Int->Nat:=fun k=>f (k - 1)
noncomputable def kZ (y:List Nat) (f g:Int->Nat) (a:Nat):Bool:=decide (gg y f (a+1)<gg y g (a+1))
noncomputable def lL (y:List Nat) (f g:Int->Nat) (b:Nat):Bool:=decide (gg y f (-(b:Int))<gg y g (-(b:Int)))
noncomputable def uO (x a b:Nat):Bool:=decide (b<a\/(a=b/\aF x=false))
noncomputable def yt (y:List Nat) (f g:Int->Nat) (a b:Nat):Bool:=if uO (f 0) a b=true then lL y f g b else kZ y f g a
theorem Run.one {f g:Int->Nat} {a b a' b':Nat} (h:Run f g a b) (h':Run f g a' b'):a=a'/\b=b':=by
 constructor
 ·by_cases z:a<a'
  ·exact absurd (h'.qg (a+1) (by omega) (by omega)) h.hi
  ·by_cases z2:a'<a
   ·exact absurd (h.qg (a'+1) (by omega) (by omega)) h'.hi
   ·omega
 ·by_cases z:b<b'
  ·exact absurd (h'.qg (-(b:Int) - 1) (by omega) (by omega)) h.lo
  ·by_cases z2:b'<b
   ·exact absurd (h.qg (-(b':Int) - 1) (by omega) (by omega)) h'.lo
   ·omega
theorem Run.bk {f g:Int->Nat} {a b:Nat} (h:Run f g a (b+1)):Run (eY f) (eY g) (a+1) b:=
 ⟨fun k h1 h2=>h.qg (k - 1) (by omega) (by omega),fun z=>h.hi (by
  unfold eY at z
  rwa [show ((a+1:Nat):Int)+1 - 1=a+1 by omega]at z),fun z=>h.lo (by
  unfold eY at z
  rwa [show -(b:Int) - 1 - 1= -((b+1:Nat):Int) - 1 by omega]at z)⟩
theorem Run.fd {f g:Int->Nat} {a b:Nat} (h:Run (eY f) (eY g) (a+1) b):Run f g a (b+1):=
 ⟨fun k h1 h2=>by
  have:=h.qg (k+1) (by omega) (by omega)
  unfold eY at this
  rwa [show k+1 - 1=k by omega]at this,fun z=>h.hi (by
  unfold eY
  rwa [show ((a+1:Nat):Int)+1 - 1=a+1 by omega]),fun z=>h.lo (by
  unfold eY
  rwa [show -(b:Int) - 1 - 1= -((b+1:Nat):Int) - 1 by omega])⟩
theorem nV (y:List Nat) (f:Int->Nat) (k:Int):gg y (eY f) k=gg y f (k - 1):=rfl
theorem tL (y:List Nat) (f g:Int->Nat) (a:Nat):kZ y (eY f) (eY g) (a+1)=kZ y f g a:=by
 unfold kZ
 rw[nV,nV,show ((a+1:Nat):Int)+1 - 1=a+1 by omega]
theorem tM (y:List Nat) (f g:Int->Nat) (b:Nat):lL y (eY f) (eY g) b=lL y f g (b+1):=by
 unfold lL
 rw[nV,nV,show -(b:Int) - 1= -((b+1:Nat):Int) by omega]
theorem DK {x z a b:Nat} (h:uO x a (b+1)=true):uO z (a+1) b=true:=by
 unfold uO at h ⊢
 have:=of_decide_eq_true h
 exact decide_eq_true (by omega)
theorem eZ {y:List Nat} {a b:Nat} (ha:a∈y) (hb:b∈y) (h:a≠b):0<vY y a b/\vY y a b<y.length/\vY y b a=y.length - vY y a b:=by
 have ia:=Wh ha
 have ib:=Wh hb
 have n:=dD ha hb h
 unfold vY
 rw[i5 ia ib,i5 ib ia]
 generalize y.idxOf a=i at*
 generalize y.idxOf b=j at*
 split<;>split<;>omega
theorem k_ {y:List Nat} {a b c:Nat} (ha:a∈y) (hb:b∈y) (hc:c∈y) (h:vY y a b=vY y a c):b=c:=by
 have ia:=Wh ha
 have ib:=Wh hb
 have ic:=Wh hc
 refine Classical.byContradiction fun z=>dD hb hc z ?_
 unfold vY at h
 rw[i5 ia ib,i5 ia ic]at h
 split at h<;>split at h<;>omega
theorem jQ.rv {y:List Nat} {f:Int->Nat} (hy:Yd y) (h:jQ y f):jQ y (mY f):=⟨fun k=>hy.cl _ (h.bW _),fun k z=>by
 unfold mY at z
 have e:=aJ (hy.lt _ (h.bW (-(k - 1))))
 rw[e]at z
 have:=h.red (-(k - 1))
 rw[show -(k - 1) - 1= -k by omega]at this
 exact this z.symm⟩
theorem vZ {y:List Nat} {f:Int->Nat} (hy:Yd y) (h:jQ y f):mY (mY f)=f:=by
 funext k
 unfold mY
 rw[aJ (hy.lt _ (h.bW _)),Int.neg_neg]
theorem tN {y:List Nat} {f:Int->Nat} (hy:Yd y) (h:jQ y f) (k:Int):gg y (mY f) (k+1)=y.length - gg y f (-k):=by
 unfold gg mY
 rw[show k+1 - 1=k by omega,aJ (hy.lt _ (h.bW _)),show -(k+1)= -k - 1 by omega]
 exact (eZ (hy.cl _ (h.bW _)) (h.bW _) (Ne.symm (h.red _))).2.2
theorem Run.rv {y:List Nat} {f g:Int->Nat} {a b:Nat} (hy:Yd y) (hf:jQ y f) (hg:jQ y g) (h:Run f g a b):Run (mY f) (mY g) b a:=
 ⟨fun k h1 h2=>by unfold mY;rw[h.qg _ (by omega) (by omega)],fun z=>h.lo (by
  unfold mY at z
  have:=fk (hy.lt _ (hf.bW _)) (hy.lt _ (hg.bW _)) z
  rwa [show -((b:Int)+1)= -(b:Int) - 1 by omega]at this),fun z=>h.hi (by
  unfold mY at z
  have:=fk (hy.lt _ (hf.bW _)) (hy.lt _ (hg.bW _)) z
  rwa [show -(-(a:Int) - 1)=a+1 by omega]at this)⟩
theorem fR: ∀c∈aR++j8,aF (aC c)=!aF c:=by decide+kernel
theorem KC {y:List Nat} {f g:Int->Nat} {a b:Nat} (hy:Yd y) (hf:jQ y f) (hg:jQ y g) (h0:f 0=g 0):yt y (mY g) (mY f) b a=yt y f g a b:=by
 have e1:lL y (mY g) (mY f) a=kZ y f g a:=by
  unfold lL kZ
  have h1:=tN hy hf (-(a:Int) - 1)
  have h2:=tN hy hg (-(a:Int) - 1)
  rw[show -(a:Int) - 1+1= -a by omega,show -(-(a:Int) - 1)=a+1 by omega]at h1 h2
  rw[h1,h2]
  exact decide_eq_decide.mpr (by omega)
 have e2:kZ y (mY g) (mY f) b=lL y f g b:=by
  unfold lL kZ
  rw[tN hy hf,tN hy hg]
  exact decide_eq_decide.mpr (by omega)
 unfold yt
 rw[e1,e2]
 have e3:uO (mY g 0) b a=!uO (f 0) a b:=by
  unfold uO mY
  rw[show (-0:Int)=0 from rfl, <-h0,fR _ (hy.lt _ (hf.bW 0)).mem]
  rw[<-decide_not]
  refine decide_eq_decide.mpr ?_
  cases aF (f 0)
  ·simp;omega
  ·simp;omega
 rw[e3]
 cases uO (f 0) a b<;>rfl
def uB (y:List Nat) (f g:Int->Nat):Prop:= ∃a b,Run f g a b/\uO (f 0) a b=true/\kZ y f g a≠lL y f g b
def nq (y:List Nat) (f g:Int->Nat):Prop:= ∃a,Run f g a 0/\kZ y f g a≠lL y f g 0
open Classical in
noncomputable def one (p:Prop):Int:=if p then 1 else 0
theorem gD {p:Prop} (h:p):one p=1:=by unfold one;rw[if_pos h]
theorem bp {p:Prop} (h: ¬p):one p=0:=by unfold one;rw[if_neg h]
theorem bo {p q:Prop} (h:p↔q):one p=one q:=by rw[propext h]
theorem Run.zero {f g:Int->Nat} {a b:Nat} (h:Run f g a b):f 0=g 0:=h.qg 0 (by omega) (by omega)
theorem DL {y:List Nat} {f g:Int->Nat} {e0 e1:Bool} {m:Prop}
  (r0:f 0=g 0-> ∃a b,Run f g a b) (r1:f (-1)=g (-1)-> ∃a b,Run (eY f) (eY g) a b)
  (h0: ∀a b,Run f g a b->e0=yt y f g a b) (h1: ∀a b,Run (eY f) (eY g) a b->e1=yt y (eY f) (eY g) a b)
  (ma:f 0=g 0->f (-1)≠g (-1)->(m↔e0≠lL y f g 0)) (mb:f (-1)=g (-1)->f 0≠g 0->(m↔e1≠kZ y (eY f) (eY g) 0)) (mc:f (-1)=g (-1)->f 0=g 0->(m↔e1≠e0))
  (t:f 0=g 0\/f (-1)=g (-1)):one m=one (nq y f g)+one (uB y (eY f) (eY g)) - one (uB y f g):=by
 have hb: ∀{a b},Run (eY f) (eY g) a b->f (-1)=g (-1):=fun h=>h.zero
 by_cases z0:f 0=g 0
 ·obtain ⟨a,b,r⟩:=r0 z0
  have e:=h0 a b r
  unfold yt at e
  have hu:uB y f g↔(uO (f 0) a b=true/\kZ y f g a≠lL y f g b):=⟨fun ⟨a',b',r',x⟩=>by obtain ⟨rfl,rfl⟩:=r.one r';exact x,fun x=>⟨a,b,r,x⟩⟩
  by_cases z1:f (-1)=g (-1)
  ·cases b with
   | zero=>exact absurd z1 r.lo
   | succ b=>
    have r2:=r.bk
    have e2:=h1 _ _ r2
    unfold yt at e2
    have KD:uB y (eY f) (eY g)↔(uO (eY f 0) (a+1) b=true/\kZ y f g a≠lL y f g (b+1)):=⟨fun ⟨a',b',r',x⟩=>by
     obtain ⟨rfl,rfl⟩:=r2.one r'
     rw[tL,tM]at x;exact x,fun x=>⟨_,_,r2,by rw[tL,tM];exact x⟩⟩
    rw[tL,tM]at e2
    have Pz: ¬nq y f g:=fun ⟨a',r',_⟩=>absurd (r.one r').2 (Nat.succ_ne_zero b)
    rw[bp Pz,bo hu,bo KD,bo (mc z1 z0),e,e2]
    have mono:= @DK (f 0) (eY f 0) a b
    generalize uO (f 0) a (b+1)=B0 at*
    generalize uO (eY f 0) (a+1) b=B1 at*
    generalize kZ y f g a=A at*
    generalize lL y f g (b+1)=C at*
    revert mono
    cases B0<;>cases B1<;>cases A<;>cases C<;>simp[one]
  ·have b0:b=0:=by
    cases b with
    | zero=>rfl
    | succ b=>exact absurd (r.qg (-1) (by omega) (by omega)) z1
   subst b0
   have KD: ¬uB y (eY f) (eY g):=fun ⟨_,_,r',_⟩=>z1 (hb r')
   have Pz:nq y f g↔kZ y f g a≠lL y f g 0:=⟨fun ⟨a',r',x⟩=>by obtain ⟨rfl,_⟩:=r.one r';exact x,fun x=>⟨a,r,x⟩⟩
   rw[bp KD,bo Pz,bo hu,bo (ma z0 z1),e]
   generalize uO (f 0) a 0=B0 at*
   generalize kZ y f g a=A at*
   generalize lL y f g 0=C at*
   cases B0<;>cases A<;>cases C<;>simp[one]
 ·have z1:=t.resolve_left z0
  obtain ⟨a,b,r⟩:=r1 z1
  have a0:a=0:=by
   cases a with
   | zero=>rfl
   | succ a=>exact absurd (r.fd.zero) z0
  subst a0
  have e:=h1 _ _ r
  unfold yt at e
  have WX: ¬uB y f g:=fun ⟨_,_,r',_⟩=>z0 r'.zero
  have Pz: ¬nq y f g:=fun ⟨_,r',_⟩=>z0 r'.zero
  have KD:uB y (eY f) (eY g)↔(uO (eY f 0) 0 b=true/\kZ y (eY f) (eY g) 0≠lL y (eY f) (eY g) b):=⟨fun ⟨a',b',r',x⟩=>by
   obtain ⟨rfl,rfl⟩:=r.one r';exact x,fun x=>⟨_,_,r,x⟩⟩
  rw[bp WX,bp Pz,bo KD,bo (mb z1 z0),e]
  generalize uO (eY f 0) 0 b=B0 at*
  generalize kZ y (eY f) (eY g) 0=A at*
  generalize lL y (eY f) (eY g) b=C at*
  cases B0<;>cases A<;>cases C<;>simp[one]
theorem dH {f g:Int->Nat} {p q:Nat} (hp:0<p) (hq:0<q) (Pf: ∀k,f (k+p)=f k) (Pg: ∀k,g (k+q)=g k) (h0:f 0=g 0) (hn: ∃k,f k≠g k): ∃a b,Run f g a b/\a<p+q/\b<p+q:=by
 obtain ⟨k0,UU⟩:=hn
 have up: ∃a:Nat,a<p+q/\(∀j:Nat,j<a->f (j+1)=g (j+1))/\f (a+1)≠g (a+1):=by
  obtain ⟨_,b,c,d⟩:=gZ (fun k=>f (k+1)) (fun k=>g (k+1)) (p+q) 0
  by_cases z:gu (fun k=>f (k+1)) (fun k=>g (k+1)) (p+q) 0<p+q
  ·exact ⟨_,z,fun j hj=>c j (YU _) hj,d (by omega)⟩
  ·refine absurd ?_ UU
   have:=fw (f:=fun k=>f (k+1)) (g:=fun k=>g (k+1)) hp hq (fun k=>by rw[show k+(p:Int)+1=k+1+p by omega];exact Pf _) (fun k=>by rw[show k+(q:Int)+1=k+1+q by omega];exact Pg _) (fun n hn=>c n (YU _) (by omega)) (k0 - 1)
   rwa [show k0 - 1+1=k0 by omega]at this
 have WY: ∀k,f (-(k+p))=f (-k):=fun k=>by have:=Pf (-(k+p));rw[<-this];congr 1;omega
 have WZ: ∀k,g (-(k+q))=g (-k):=fun k=>by have:=Pg (-(k+q));rw[<-this];congr 1;omega
 have dn: ∃a:Nat,a<p+q/\(∀j:Nat,j<a->f (-(j:Int) - 1)=g (-(j:Int) - 1))/\f (-(a:Int) - 1)≠g (-(a:Int) - 1):=by
  obtain ⟨_,b,c,d⟩:=gZ (fun k=>f (-k - 1)) (fun k=>g (-k - 1)) (p+q) 0
  by_cases z:gu (fun k=>f (-k - 1)) (fun k=>g (-k - 1)) (p+q) 0<p+q
  ·exact ⟨_,z,fun j hj=>c j (YU _) hj,d (by omega)⟩
  ·refine absurd ?_ UU
   have:=fw (f:=fun k=>f (-k - 1)) (g:=fun k=>g (-k - 1)) hp hq (fun k=>by have:=WY (k+1);rw[show -(k+(p:Int)) - 1= -(k+1+p) by omega,this];congr 1;omega) (fun k=>by have:=WZ (k+1);rw[show -(k+(q:Int)) - 1= -(k+1+q) by omega,this];congr 1;omega) (fun n hn=>c n (YU _) (by omega)) (-k0 - 1)
   rwa [show -(-k0 - 1) - 1=k0 by omega]at this
 obtain ⟨a,ha,a1,a2⟩:=up
 obtain ⟨b,hb,b1,b2⟩:=dn
 refine ⟨a,b,⟨fun k h1 h2=>?_,a2,b2⟩,ha,hb⟩
 by_cases z:k=0
 ·rw[z];exact h0
 ·by_cases z2:0<k
  ·obtain ⟨j,rfl⟩: ∃j:Nat,k=j+1:=⟨(k - 1).toNat,by omega⟩
   exact a1 j (by omega)
  ·obtain ⟨j,rfl⟩: ∃j:Nat,k= -(j:Int) - 1:=⟨(-k - 1).toNat,by omega⟩
   exact b1 j (by omega)
theorem DM {y:List Nat} {p p' x:Nat} (hy:Yd y) (hp:p∈y) (yx:p'∈y) (hx:x∈y) (h1:p≠p') (h2:p≠x) (h3:p'≠x):decide (vY y p x<vY y p' x)=!gr y p p' x:=by
 have ip:=Wh hp
 have W0:=Wh yx
 have ix:=Wh hx
 have n1:=dD hp yx h1
 have n2:=dD hp hx h2
 have n3:=dD yx hx h3
 rw[i6 hy.nd hp yx hx h1 h2 h3]
 unfold vY
 rw[i5 ip ix,i5 W0 ix, <-decide_not]
 refine decide_eq_decide.mpr ?_
 unfold jy
 split<;>split<;>omega
theorem DN {y:List Nat} {f g:Int->Nat} (hy:Yd y) (hf:jQ y f) (hg:jQ y g) (h0:f 0=g 0) (h1:f (-1)≠g (-1)):lL y f g 0=!gr y (aC (f (-1))) (aC (g (-1))) (f 0):=by
 have e:lL y f g 0=decide (vY y (aC (f (-1))) (f 0)<vY y (aC (g (-1))) (g 0)):=rfl
 rw[e, <-h0]
 have r1:=hf.red 0
 have r2:=hg.red 0
 rw[show (0:Int) - 1= -1 by omega]at r1 r2
 exact DM hy (hy.cl _ (hf.bW _)) (hy.cl _ (hg.bW _)) (hf.bW 0) (fun z=>h1 (fk (hy.lt _ (hf.bW _)) (hy.lt _ (hg.bW _)) z)) (Ne.symm r1) (by rw[h0];exact Ne.symm r2)
theorem DO {y:List Nat} {f g:Int->Nat} {a:Nat} (h:f a=g a):kZ y f g a=gr y (aC (f a)) (f (a+1)) (g (a+1)):=by
 unfold kZ gg
 rw[show (a:Int)+1 - 1=a by omega, <-h]
 rfl
theorem rN {y:List Nat} {f g:Int->Nat} {n:Nat} (hy:Yd y) (hf:jQ y f) (hg:jQ y g) (hd:f (-1)≠g (-1)->gu f g n 0<n/\f (gu f g n 0)≠g (gu f g n 0)):nq y f g↔0<al y f g n:=by
 unfold al
 by_cases z:f 0≠g 0\/f (-1)=g (-1)
 ·rw[if_pos z]
  refine ⟨fun ⟨a,r,_⟩=>?_,fun h=>absurd h (ZS _)⟩
  rcases z with z | z
  ·exact absurd r.zero z
  ·exact absurd z r.lo
 ·rw[if_neg z]
  have z0:f 0=g 0:=Classical.byContradiction fun q=>z (.inl q)
  have z1:f (-1)≠g (-1):=fun q=>z (.inr q)
  obtain ⟨d1,d2⟩:=hd z1
  obtain ⟨_,_,d3,_⟩:=gZ f g n 0
  generalize gu f g n 0=D at*
  cases D with
  | zero=>exact absurd z0 d2
  | succ a=>
   have r:Run f g a 0:=⟨fun k h1 h2=>by
    obtain ⟨j,rfl⟩: ∃j:Nat,k=j:=⟨k.toNat,by omega⟩
    exact d3 j (YU _) (by omega),d2,z1⟩
   have e1:((a+1:Nat):Int)=(a:Int)+1:=by omega
   rw[e1,show (a:Int)+1 - 1=a by omega]
   have QM:=d3 a (YU _) (Qbb a)
   have rf:=hf.red (a+1)
   have rg:=hg.red (a+1)
   rw[show (a:Int)+1 - 1=a by omega]at rf rg
   have W2:f (a+1)≠g (a+1):=d2
   have eg:=zS hy.nd (hy.cl _ (hf.bW a)) (hf.bW (a+1)) (hg.bW (a+1)) (Ne.symm rf) (by rw[QM];exact Ne.symm rg) W2
   rw[eg, <-DO QM]
   have eb:=DN hy hf hg z0 z1
   have key:nq y f g↔kZ y f g a≠lL y f g 0:=⟨fun ⟨a',r',x⟩=>by obtain ⟨rfl,_⟩:=r.one r';exact x,fun x=>⟨a,r,x⟩⟩
   rw[key,eb]
   generalize gr y (aC (f (-1))) (aC (g (-1))) (f 0)=G
   generalize kZ y f g a=A
   cases G<;>cases A<;>simp
noncomputable def nu (a b a' b':Nat):Bool:=decide (jy a a' b) != decide (jy a b' b)
theorem i_ (a b a' b':Nat):nu a b a' b'=nu a b b' a':=by unfold nu;generalize decide (jy a a' b)=p;generalize decide (jy a b' b)=q;cases p<;>cases q<;>rfl
theorem v_ (a b:Nat):nu a b a b=false:=by
 unfold nu
 have h1: ¬jy a a b:=by unfold jy;omega
 have h2: ¬jy a b b:=by unfold jy;omega
 rw[decide_eq_false h1,decide_eq_false h2]
 rfl
theorem jz {a b:Nat} (h:a≠b):decide (b<a)=!decide (a<b):=by
 rcases Qbd h with q | q
 ·rw[decide_eq_true q,decide_eq_false (Qce q)];rfl
 ·rw[decide_eq_true q,decide_eq_false (Qce q)];rfl
theorem IM {a b c:Nat} (h1:a≠b) (h2:b≠c) (h3:a≠c):decide (jy a b c)=!(decide (a<b) ^^ (decide (b<c) ^^ decide (c<a))):=by
 have e:decide (jy a b c)=((decide (a<b)&&decide (b<c))||((decide (b<c)&&decide (c<a))||(decide (c<a)&&decide (a<b)))):=by
  rw[<-Qd3, <-Qd3, <-Qd3, <-Bool.decide_or, <-Bool.decide_or]
  exact decide_eq_decide.mpr Iff.rfl
 rw[e]
 have k1:decide (a<b)=true->decide (b<c)=true->decide (c<a)=true->False:=fun p q r=>Qce (Qbo (of_decide_eq_true p) (of_decide_eq_true q)) (of_decide_eq_true r)
 have k2:decide (b<a)=true->decide (c<b)=true->decide (a<c)=true->False:=fun p q r=>Qce (Qbo (of_decide_eq_true q) (of_decide_eq_true p)) (of_decide_eq_true r)
 rw[jz h1,jz h2,jz (Ne.symm h3)]at k2
 revert k1 k2
 generalize decide (a<b)=p
 generalize decide (b<c)=q
 generalize decide (c<a)=r
 revert p q r
 decide
theorem DP {a b a' b':Nat} (h1:a≠b) (h3:a≠a') (h4:a≠b') (h5:b≠a') (h6:b≠b'):nu a b a' b'=((decide (a<a') ^^ decide (a'<b)) ^^ (decide (a<b') ^^ decide (b'<b))):=by
 unfold nu
 rw[IM h3 (Ne.symm h5) h1,IM h4 (Ne.symm h6) h1]
 generalize decide (a<a')=p
 generalize decide (a'<b)=q
 generalize decide (a<b')=r
 generalize decide (b'<b)=s
 generalize decide (b<a)=t
 revert p q r s t
 decide
theorem nX {a b a' b':Nat} (h1:a≠b) (h2:a'≠b') (h3:a≠a') (h4:a≠b') (h5:b≠a') (h6:b≠b'):nu a b a' b'=nu a' b' a b:=by
 rw[DP h1 h3 h4 h5 h6,DP h2 (Ne.symm h3) (Ne.symm h5) (Ne.symm h4) (Ne.symm h6),jz h3,jz (Ne.symm h6)]
 generalize decide (a<a')=p
 generalize decide (a'<b)=q
 generalize decide (a<b')=r
 generalize decide (b'<b)=s
 revert p q r s
 decide
theorem wa {a b a' b':Nat} (h1:a≠b) (h2:a'≠b') (h3:a≠a') (h4:a≠b') (h5:b≠a') (h6:b≠b'):nu b a a' b'=nu a b a' b':=by
 rw[nX (Ne.symm h1) h2 h5 h6 h3 h4,i_,nX h2 h1 (Ne.symm h3) (Ne.symm h5) (Ne.symm h4) (Ne.symm h6)]
theorem Hb {a b c i j k:Nat} (n1:i≠j) (n2:i≠k) (n3:j≠k) (h1:i<j->a<b) (h2:j<i->b<a) (h3:i<k->a<c) (h4:k<i->c<a) (h5:j<k->b<c) (h6:k<j->c<b):jy a b c↔jy i j k:=by
 have e: ∀{i j a b:Nat},i≠j->(i<j->a<b)->(j<i->b<a)->(i<j↔a<b):=fun {i j a b} n f g=>⟨f,fun q=>(Qbd n).elim id fun r=>absurd (g r) (Qce q)⟩
 unfold jy
 rw[e n1 h1 h2,e n3 h5 h6,e (Ne.symm n2) h4 h3]
def Sep (y:List Nat) (ps:List (Nat×Nat)):Prop:= ∀p∈ps, ∀q∈ps,y.idxOf p.1<y.idxOf q.1->p.2<q.2
theorem Sep.jy {y:List Nat} {ps:List (Nat×Nat)} (h:Sep y ps) {a b c:Nat×Nat} (ha:a∈ps) (hb:b∈ps) (hc:c∈ps) (n1:y.idxOf a.1≠y.idxOf b.1) (n2:y.idxOf a.1≠y.idxOf c.1) (n3:y.idxOf b.1≠y.idxOf c.1):My.jy a.2 b.2 c.2↔My.jy (y.idxOf a.1) (y.idxOf b.1) (y.idxOf c.1):=Hb n1 n2 n3 (h a ha b hb) (h b hb a ha) (h a ha c hc) (h c hc a ha) (h b hb c hc) (h c hc b hb)
theorem Sep.gr {y:List Nat} {ps:List (Nat×Nat)} (h:Sep y ps) (hn:y.Nodup) {a b c:Nat×Nat} (ha:a∈ps) (hb:b∈ps) (hc:c∈ps) (ya:a.1∈y) (yb:b.1∈y) (yc:c.1∈y) (n1:a.1≠b.1) (n2:a.1≠c.1) (n3:b.1≠c.1):decide (My.jy a.2 b.2 c.2)=My.gr y a.1 b.1 c.1:=by
 rw[i6 hn ya yb yc n1 n2 n3]
 exact decide_eq_decide.mpr (h.jy ha hb hc (dD ya yb n1) (dD ya yc n2) (dD yb yc n3))
theorem Sep.same {y:List Nat} {ps:List (Nat×Nat)} (h:Sep y ps) {a b c:Nat×Nat} (ha:a∈ps) (hb:b∈ps) (hc:c∈ps) (e:b.1=c.1) (n:y.idxOf a.1≠y.idxOf c.1):My.jy a.2 b.2 c.2↔b.2<c.2:=by
 have h1:=h a ha b hb
 have h2:=h b hb a ha
 have h3:=h a ha c hc
 have h4:=h c hc a ha
 rw[e]at h1 h2
 unfold My.jy
 omega
theorem Sep.IQ {y:List Nat} {ps:List (Nat×Nat)} (h:Sep y ps) {a b c:Nat×Nat} (ha:a∈ps) (hb:b∈ps) (hc:c∈ps) (e:a.1=b.1) (n:y.idxOf a.1≠y.idxOf c.1):My.jy a.2 b.2 c.2↔a.2<b.2:=by
 have h1:=h b hb c hc
 have h2:=h c hc b hb
 have h3:=h a ha c hc
 have h4:=h c hc a ha
 rw[<-e]at h1 h2
 unfold My.jy
 omega
section
variable {y:List Nat} {f g:Int->Nat} {a b a' b':Nat}
theorem KG (hy:Yd y) (hf:jQ y f) (hg:jQ y g) (h:Sep y [(aC (f (-1)),a),(f 0,b),(aC (g (-1)),a'),(g 0,b')]) (hb:b≠b') (z0:f 0=g 0) (z1:f (-1)≠g (-1)):nu a b a' b'=true↔decide (b<b')≠lL y f g 0:=by
 have r1:=hf.red 0
 have r2:=hg.red 0
 rw[show (0:Int) - 1= -1 by omega]at r1 r2
 have ya:=hy.cl _ (hf.bW (-1))
 have QN:=hy.cl _ (hg.bW (-1))
 have n1:aC (f (-1))≠aC (g (-1)):=fun z=>z1 (fk (hy.lt _ (hf.bW _)) (hy.lt _ (hg.bW _)) z)
 have e1:=h.gr hy.nd (a:=(aC (f (-1)),a)) (b:=(aC (g (-1)),a')) (c:=(f 0,b)) (by simp) (by simp) (by simp) ya QN (hf.bW 0) n1 (Ne.symm r1) (by rw[z0];exact Ne.symm r2)
 have e2:=h.same (a:=(aC (f (-1)),a)) (b:=(g 0,b')) (c:=(f 0,b)) (by simp) (by simp) (by simp) z0.symm (dD ya (hf.bW 0) (Ne.symm r1))
 unfold nu
 rw[DN hy hf hg z0 z1]
 simp only at e1 e2
 rw[e1]
 generalize gr y (aC (f (-1))) (aC (g (-1))) (f 0)=G
 by_cases q:b<b'
 ·rw[decide_eq_true q,decide_eq_false (by rw[e2];omega)]
  cases G<;>simp
 ·rw[decide_eq_false q,decide_eq_true (by rw[e2];omega)]
  cases G<;>simp
theorem KH (hy:Yd y) (hf:jQ y f) (hg:jQ y g) (h:Sep y [(aC (f (-1)),a),(f 0,b),(aC (g (-1)),a'),(g 0,b')]) (ha:a≠a') (z1:f (-1)=g (-1)) (z0:f 0≠g 0):nu a b a' b'=true↔decide (a'<a)≠kZ y (eY f) (eY g) 0:=by
 have r1:=hf.red 0
 have r2:=hg.red 0
 rw[show (0:Int) - 1= -1 by omega]at r1 r2
 have ya:=hy.cl _ (hf.bW (-1))
 have QN:=hy.cl _ (hg.bW (-1))
 have e1:=h.IQ (a:=(aC (f (-1)),a)) (b:=(aC (g (-1)),a')) (c:=(f 0,b)) (by simp) (by simp) (by simp) (by show aC _=aC _;rw[z1]) (dD ya (hf.bW 0) (Ne.symm r1))
 have e2:=h.gr hy.nd (a:=(aC (f (-1)),a)) (b:=(g 0,b')) (c:=(f 0,b)) (by simp) (by simp) (by simp) ya (hg.bW 0) (hf.bW 0) (by show aC _≠_;rw[z1];exact Ne.symm r2) (Ne.symm r1) (Ne.symm z0)
 have e3:kZ y (eY f) (eY g) 0=gr y (aC (f (-1))) (f 0) (g 0):=DO (f:=eY f) (g:=eY g) (a:=0) z1
 have e4:=DD hy.nd ya (hf.bW 0) (hg.bW 0) (Ne.symm r1) (by rw[z1];exact Ne.symm r2) z0
 unfold nu
 simp only at e1 e2
 rw[e3,e2,e4]
 generalize gr y (aC (f (-1))) (f 0) (g 0)=G
 by_cases q:a'<a
 ·rw[decide_eq_true q,decide_eq_false (by rw[e1];omega)]
  cases G<;>simp
 ·rw[decide_eq_false q,decide_eq_true (by rw[e1];omega)]
  cases G<;>simp
theorem tP (hy:Yd y) (hf:jQ y f) (hg:jQ y g) (h:Sep y [(aC (f (-1)),a),(f 0,b),(aC (g (-1)),a'),(g 0,b')]) (ha:a≠a') (hb:b≠b') (z1:f (-1)=g (-1)) (z0:f 0=g 0):nu a b a' b'=true↔decide (a'<a)≠decide (b<b'):=by
 have r1:=hf.red 0
 rw[show (0:Int) - 1= -1 by omega]at r1
 have ya:=hy.cl _ (hf.bW (-1))
 have e1:=h.IQ (a:=(aC (f (-1)),a)) (b:=(aC (g (-1)),a')) (c:=(f 0,b)) (by simp) (by simp) (by simp) (by show aC _=aC _;rw[z1]) (dD ya (hf.bW 0) (Ne.symm r1))
 have e2:=h.same (a:=(aC (f (-1)),a)) (b:=(g 0,b')) (c:=(f 0,b)) (by simp) (by simp) (by simp) z0.symm (dD ya (hf.bW 0) (Ne.symm r1))
 unfold nu
 simp only at e1 e2
 rw[decide_eq_decide.mpr e1,decide_eq_decide.mpr e2]
 by_cases q:a'<a<;>by_cases q2:b<b'
 ·rw[decide_eq_true q,decide_eq_true q2,decide_eq_false (show ¬a<a' by omega),decide_eq_false (show ¬b'<b by omega)];simp
 ·rw[decide_eq_true q,decide_eq_false q2,decide_eq_false (show ¬a<a' by omega),decide_eq_true (show b'<b by omega)];simp
 ·rw[decide_eq_false q,decide_eq_true q2,decide_eq_true (show a<a' by omega),decide_eq_false (show ¬b'<b by omega)];simp
 ·rw[decide_eq_false q,decide_eq_false q2,decide_eq_true (show a<a' by omega),decide_eq_true (show b'<b by omega)];simp
theorem KI (hy:Yd y) (hf:jQ y f) (hg:jQ y g) (h:Sep y [(aC (f (-1)),a),(f 0,b),(aC (g (-1)),a'),(g 0,b')]) (z0:f 0≠g 0) (z1:f (-1)≠g (-1)) (z2:aC (f (-1))≠g 0) (z3:aC (g (-1))≠f 0):nu a b a' b'=ac y (aC (f (-1))) (f 0) (aC (g (-1))) (g 0):=by
 have r1:=hf.red 0
 have r2:=hg.red 0
 rw[show (0:Int) - 1= -1 by omega]at r1 r2
 have ya:=hy.cl _ (hf.bW (-1))
 have QN:=hy.cl _ (hg.bW (-1))
 have n1:aC (f (-1))≠aC (g (-1)):=fun z=>z1 (fk (hy.lt _ (hf.bW _)) (hy.lt _ (hg.bW _)) z)
 have e1:=h.gr hy.nd (a:=(aC (f (-1)),a)) (b:=(aC (g (-1)),a')) (c:=(f 0,b)) (by simp) (by simp) (by simp) ya QN (hf.bW 0) n1 (Ne.symm r1) z3
 have e2:=h.gr hy.nd (a:=(aC (f (-1)),a)) (b:=(g 0,b')) (c:=(f 0,b)) (by simp) (by simp) (by simp) ya (hg.bW 0) (hf.bW 0) z2 (Ne.symm r1) (Ne.symm z0)
 unfold nu ac
 simp only at e1 e2
 rw[e1,e2,if_neg (fun q=>q.elim (fun q=>n1 q.symm) fun q=>q.elim z3 fun q=>q.elim (fun q=>z2 q.symm) fun q=>z0 q.symm)]
end
noncomputable def sm:Nat->(Int->Int)->Int
 | 0,_=>0
 | n+1,h=>sm n h+h n
theorem bg {h g:Int->Int}: ∀{n:Nat},(∀i:Nat,i<n->h i=g i)->sm n h=sm n g
 | 0,_=>rfl
 | n+1,e=>by
  show sm n h+h n=sm n g+g n
  rw[bg fun i hi=>e i (by omega),e n (by omega)]
theorem oZ (h g:Int->Int): ∀n:Nat,sm n (fun i=>h i+g i)=sm n h+sm n g
 | 0=>rfl
 | n+1=>by
  show sm n _+(h n+g n)=(sm n h+h n)+(sm n g+g n)
  rw[oZ h g n];omega
theorem yy (h g:Int->Int): ∀n:Nat,sm n (fun i=>h i - g i)=sm n h - sm n g
 | 0=>rfl
 | n+1=>by
  show sm n _+(h n - g n)=(sm n h+h n) - (sm n g+g n)
  rw[yy h g n];omega
theorem gE: ∀n:Nat,sm n (fun _=>0)=0
 | 0=>rfl
 | n+1=>by show sm n _+0=0;rw[gE n];rfl
theorem z5 (h:Int->Int): ∀n:Nat,sm n (fun i=>h (i - 1))+h ((n:Int) - 1)=sm n h+h (-1)
 | 0=>rfl
 | n+1=>by
  have:=z5 h n
  show sm n _+h ((n:Int) - 1)+h (((n+1:Nat):Int) - 1)=(sm n h+h n)+h (-1)
  rw[show ((n+1:Nat):Int) - 1=n by omega]
  omega
theorem lh {h:Int->Int} {n:Nat} (P: ∀k,h (k+n)=h k):sm n (fun i=>h (i - 1))=sm n h:=by
 have h1:=z5 h n
 have h2:=P (-1)
 rw[show (-1:Int)+n=(n:Int) - 1 by omega]at h2
 omega
theorem z6 (h:Int->Int): ∀n:Nat,sm n (fun i=>h ((n:Int) - 1 - i))=sm n h
 | 0=>rfl
 | n+1=>by
  have e: ∀(m:Nat) (g:Int->Int),sm (m+1) g=g 0+sm m (fun i=>g (i+1)):=fun m=>by
   induction m with
   | zero=>intro g;show (0:Int)+g 0=g 0+0;omega
   | succ m ih=>intro g;show sm (m+1) g+g ((m+1:Nat):Int)=g 0+(sm m (fun i=>g (i+1))+g ((m:Int)+1));rw[ih];rw[show ((m+1:Nat):Int)=(m:Int)+1 by omega];omega
  rw[e]
  have:=z6 h n
  show h (((n+1:Nat):Int) - 1 - 0)+sm n (fun i=>h (((n+1:Nat):Int) - 1 - (i+1)))=sm n h+h n
  rw[show ((n+1:Nat):Int) - 1 - 0=n by omega, <-this,Int.add_comm]
  congr 1
  exact bg fun i _=>by congr 1;omega
theorem z7 {h:Int->Int} {n:Nat} (P: ∀k,h (k+n)=h k):sm n (fun i=>h (i+1))=sm n h:=by
 have:=lh (h:=fun i=>h (i+1)) (n:=n) (fun k=>by show h (k+n+1)=h (k+1);rw[<-P (k+1)];congr 1;omega)
 rw[<-this]
 exact bg fun i _=>by show h ((i:Int) - 1+1)=h i;congr 1;omega
theorem DQ {h:Int->Int} {n:Nat} (P: ∀k,h (k+n)=h k):sm n (fun i=>h (-i))=sm n h:=by
 rw[<-z6 (fun i=>h (-i)) n, <-z7 P]
 exact bg fun i _=>by
  show h (-((n:Int) - 1 - i))=h (i+1)
  rw[<-P (-((n:Int) - 1 - i))];congr 1;omega
theorem KJ {h:Int->Int} {n:Nat} (P: ∀k,h (k+n)=h k):sm n (fun i=>h (1 - i))=sm n h:=by
 rw[<-z7 P, <-DQ (h:=fun i=>h (i+1)) (fun k=>by show h (k+n+1)=h (k+1);rw[<-P (k+1)];congr 1;omega)]
 exact bg fun i _=>by show h (1 - (i:Int))=h (-(i:Int)+1);congr 1;omega
noncomputable def de (n m:Nat) (h:Int->Int->Int):Int:=sm n fun i=>sm m fun j=>h i j
theorem cG {n m:Nat} {h g:Int->Int->Int} (e: ∀i j:Nat,i<n->j<m->h i j=g i j):de n m h=de n m g:=bg fun i hi=>bg fun j hj=>e i j hi hj
theorem dJ (n m:Nat) (h g:Int->Int->Int):de n m (fun i j=>h i j+g i j)=de n m h+de n m g:=by
 unfold de
 rw[<-oZ]
 exact bg fun i _=>oZ _ _ _
theorem Hc (n m:Nat) (h g:Int->Int->Int):de n m (fun i j=>h i j - g i j)=de n m h - de n m g:=by
 unfold de
 rw[<-yy]
 exact bg fun i _=>yy _ _ _
theorem BJ {n m:Nat} {h:Int->Int->Int} (P: ∀i j,h (i+n) j=h i j) (Q: ∀i j,h i (j+m)=h i j):de n m (fun i j=>h (i - 1) (j - 1))=de n m h:=by
 unfold de
 have e: ∀i:Int,sm m (fun j=>h i (j - 1))=sm m (h i):=fun i=>lh (Q i)
 rw[<-lh (h:=fun i=>sm m fun j=>h i j) (n:=n) (fun k=>bg fun j _=>P k j)]
 exact bg fun i _=>e _
structure L_ (y:List Nat) (n:Nat) (F:Int->Int->Nat) (o i:Int->Nat):Prop where
 pos:0<n
 yA: ∀k,jQ y (F k)
 bk: ∀k,eY (F k)=F (k - 1)
 PB: ∀k,F (k+n)=F k
 own: ∀k x,F k (x+n)=F k x
 op: ∀k,o (k+n)=o k
 ip: ∀k,i (k+n)=i k
structure IS (y:List Nat) (F:Int->Int->Nat) (o i:Int->Nat) (G:Int->Int->Nat) (o' i':Int->Nat):Prop where
 sep: ∀s t,Sep y [(aC (F s (-1)),i (s - 1)),(F s 0,o s),(aC (G t (-1)),i' (t - 1)),(G t 0,o' t)]
 on: ∀s t a b,Run (F s) (G t) a b->o s≠o' t/\i s≠i' t/\decide (o s<o' t)=yt y (F s) (G t) a b/\decide (i' t<i s)=yt y (F s) (G t) a b
def DR (F G:Int->Int->Nat) (s t:Int):Prop:=F s 0=G t 0\/F s (-1)=G t (-1)
def par (F G:Int->Int->Nat) (s t:Int):Prop:= ∀k,F s k=G t k
noncomputable def Hd (o i o' i':Int->Nat) (s t:Int):Bool:=nu (i (s - 1)) (o s) (i' (t - 1)) (o' t)
theorem DS {y:List Nat} {n m:Nat} {F G:Int->Int->Nat} {o i o' i':Int->Nat} (hF:L_ y n F o i) (hG:L_ y m G o' i') {s t:Int}:par F G (s - 1) (t - 1)↔par F G s t:=by
 unfold par
 rw[<-hF.bk, <-hG.bk]
 unfold eY
 exact ⟨fun h k=>by have:=h (k+1);rwa [show k+1 - 1=k by omega]at this,fun h k=>h _⟩
theorem z9 {y:List Nat} {n m:Nat} {F G:Int->Int->Nat} {o i o' i':Int->Nat} (hy:Yd y) (hF:L_ y n F o i) (hG:L_ y m G o' i') (h:IS y F o i G o' i'):
  de n m (fun s t=>one (DR F G s t/\Hd o i o' i' s t=true/\ ¬par F G s t))=de n m fun s t=>one (nq y (F s) (G t)):=by
 have pt: ∀s t:Int,one (DR F G s t/\Hd o i o' i' s t=true/\ ¬par F G s t)=one (nq y (F s) (G t))+one (uB y (F (s - 1)) (G (t - 1))) - one (uB y (F s) (G t)):=fun s t=>by
  by_cases hp:par F G s t
  ·have nr: ∀{a b}, ¬Run (F s) (G t) a b:=fun r=>r.hi (hp _)
   have yx:=(DS hF hG).mpr hp
   have W4: ∀{a b}, ¬Run (F (s - 1)) (G (t - 1)) a b:=fun r=>r.hi (yx _)
   rw[bp (fun z=>z.2.2 hp),bp (fun ⟨_,r,_⟩=>nr r),bp (fun ⟨_,_,r,_⟩=>W4 r),bp (fun ⟨_,_,r,_⟩=>nr r)]
   rfl
  ·by_cases ht:DR F G s t
   ·have dc: ∃k,F s k≠G t k:=Classical.byContradiction fun z=>hp fun k=>Classical.byContradiction fun q=>z ⟨k,q⟩
    have KL: ∃k,F (s - 1) k≠G (t - 1) k:=Classical.byContradiction fun z=>hp ((DS hF hG).mp fun k=>Classical.byContradiction fun q=>z ⟨k,q⟩)
    have e1: ∀s,F (s - 1) 0=F s (-1):=fun s=>by rw[<-hF.bk];rfl
    have e2: ∀t,G (t - 1) 0=G t (-1):=fun s=>by rw[<-hG.bk];rfl
    have ei:one (DR F G s t/\Hd o i o' i' s t=true/\ ¬par F G s t)=one (Hd o i o' i' s t=true):=bo ⟨fun z=>z.2.1,fun z=>⟨ht,z,hp⟩⟩
    rw[ei, <-hF.bk, <-hG.bk]
    refine DL (e0:=decide (o s<o' t)) (e1:=decide (i' (t - 1)<i (s - 1))) (fun z=>?_) (fun z=>?_) (fun a b r=>(h.on s t a b r).2.2.1) (fun a b r=>?_) (fun z0 z1=>?_) (fun z1 z0=>?_) (fun z1 z0=>?_) ht
    ·obtain ⟨a,b,r,_⟩:=dH hF.pos hG.pos (hF.own s) (hG.own t) z dc
     exact ⟨a,b,r⟩
    ·obtain ⟨a,b,r,_⟩:=dH hF.pos hG.pos (hF.own (s - 1)) (hG.own (t - 1)) (by rw[e1,e2];exact z) KL
     rw[hF.bk,hG.bk]
     exact ⟨a,b,r⟩
    ·rw[hF.bk,hG.bk]at r ⊢
     exact (h.on _ _ a b r).2.2.2
    ·obtain ⟨a,b,r,_⟩:=dH hF.pos hG.pos (hF.own s) (hG.own t) z0 dc
     exact KG hy (hF.yA s) (hG.yA t) (h.sep s t) (h.on s t a b r).1 z0 z1
    ·obtain ⟨a,b,r,_⟩:=dH hF.pos hG.pos (hF.own (s - 1)) (hG.own (t - 1)) (by rw[e1,e2];exact z1) KL
     exact KH hy (hF.yA s) (hG.yA t) (h.sep s t) (h.on _ _ a b r).2.1 z1 z0
    ·obtain ⟨a,b,r,_⟩:=dH hF.pos hG.pos (hF.own s) (hG.own t) z0 dc
     obtain ⟨a2,b2,r2,_⟩:=dH hF.pos hG.pos (hF.own (s - 1)) (hG.own (t - 1)) (by rw[e1,e2];exact z1) KL
     exact tP hy (hF.yA s) (hG.yA t) (h.sep s t) (h.on _ _ a2 b2 r2).2.1 (h.on s t a b r).1 z1 z0
   ·have t0:F s 0≠G t 0:=fun z=>ht (.inl z)
    have t1:F (s - 1) 0≠G (t - 1) 0:=by
     rw[<-hF.bk, <-hG.bk]
     exact fun z=>ht (.inr z)
    rw[bp (fun z=>ht z.1),bp (fun ⟨_,r,_⟩=>t0 r.zero),bp (fun ⟨_,_,r,_⟩=>t1 r.zero),bp (fun ⟨_,_,r,_⟩=>t0 r.zero)]
    rfl
 have e:de n m (fun s t=>one (DR F G s t/\Hd o i o' i' s t=true/\ ¬par F G s t))=de n m (fun s t=>(one (nq y (F s) (G t))+one (uB y (F (s - 1)) (G (t - 1)))) - one (uB y (F s) (G t))):=cG fun s t _ _=>pt s t
 rw[e,Hc,dJ,BJ (h:=fun s t=>one (uB y (F s) (G t))) (fun s t=>by rw[hF.PB]) (fun s t=>by rw[hG.PB])]
 omega
theorem bV {y w:List Nat} (h:SW y w) (i:Int):jQ y (sq w i):=⟨fun k=>h.rd _,fun k=>by
 unfold sq
 have:=h.red (i+k)
 rwa [show i+k - 1=i+(k - 1) by omega]at this⟩
theorem gi (w:List Nat) (i:Int):mY (sq w i)=bq w i:=by
 funext k
 unfold mY sq bq
 rw[show i+ -k=i - k by omega]
theorem mh {y w:List Nat} (hy:Yd y) (h:SW y w) (i:Int):jQ y (bq w i):=by rw[<-gi];exact (bV h i).rv hy
theorem yB (w:List Nat) (i:Int):sq w (i+w.length)=sq w i:=by
 funext k
 unfold sq
 rw[show i+(w.length:Int)+k=i+k+w.length by omega,ie]
theorem tQ (w:List Nat) (i:Int):bq w (i+w.length)=bq w i:=by rw[<-gi, <-gi,yB]
theorem DT {y w:List Nat} {po pi:Int->Nat} (h:SW y w) (P: ∀k,po (k+w.length)=po k) (Q: ∀k,pi (k+w.length)=pi k):L_ y w.length (sq w) po pi:=
 ⟨Ut.mpr h.ne,bV h,fun k=>by funext x;unfold eY sq;congr 1;omega,yB w,fun k x=>b_ w k x,P,Q⟩
theorem z_ {n:Nat} {h:Int->Nat} (P: ∀k,h (k+n)=h k) (k:Int):h (-(k+n))=h (-k):=by rw[<-P (-(k+n))];congr 1;omega
theorem KN {y w:List Nat} {po pi:Int->Nat} (hy:Yd y) (h:SW y w) (P: ∀k,po (k+w.length)=po k) (Q: ∀k,pi (k+w.length)=pi k):L_ y w.length (fun k=>bq w (-k)) (fun k=>pi (-k)) (fun k=>po (-k)):=
 ⟨Ut.mpr h.ne,fun k=>mh hy h _,fun k=>by funext x;unfold eY bq;congr 2;omega,fun k=>by
  show bq w (-(k+w.length))=bq w (-k)
  rw[<-tQ w (-(k+w.length))];congr 1;omega,fun k x=>kc w _ x,z_ Q,z_ P⟩
section
variable {y w v:List Nat} {po pi qo qi:Int->Nat}
noncomputable def iO (po pi qo qi:Int->Nat) (i j:Int):Bool:=nu (pi (i - 1)) (po i) (qi (j - 1)) (qo j)
def cH (w v:List Nat) (i j:Int):Prop:= ∀k,sq w i k=sq v j k
def ke (w v:List Nat) (i j:Int):Prop:= ∀k,sq w i k=bq v (j - 1) k
def Ma (w v:List Nat) (i j:Int):Prop:=rd w i=rd v j\/rd w (i - 1)=rd v (j - 1)
def Aa (w v:List Nat) (i j:Int):Prop:=rd w i=aC (rd v (j - 1))\/rd w (i - 1)=aC (rd v j)
theorem He (w v:List Nat) (i j:Int):DR (sq w) (sq v) i j↔Ma w v i j:=by
 unfold DR Ma sq
 rw[show i+0=i by omega,show j+0=j by omega]
 rfl
theorem Hf (w v:List Nat) (i k:Int):DR (sq w) (fun k=>bq v (-k)) i k↔Aa w v i (1 - k):=by
 unfold DR Aa sq bq
 show rd w (i+0)=aC (rd v (-k - 0))\/rd w (i+ -1)=aC (rd v (-k - -1))↔_
 rw[show i+0=i by omega,show -k - 0=1 - k - 1 by omega,show -k - -1=1 - k by omega]
 rfl
theorem Tf (hy:Yd y) (hw:SW y w) (hv:SW y v) {i j:Int} (h:Ma w v i j) (g:Aa w v i j):False:=by
 have qm:=hw.red i
 have UW:=hv.red j
 have l1:=hy.lt _ (hw.rd (i - 1))
 have l2:=hy.lt _ (hv.rd (j - 1))
 have l3:=hy.lt _ (hv.rd j)
 rcases h with h | h<;>rcases g with g | g
 ·exact UW (h.symm.trans g)
 ·rw[<-h]at g;exact qm (by rw[g,aJ (hy.lt _ (hw.rd i))])
 ·rw[<-h]at g;exact qm g
 ·rw[h]at g;exact UW (by rw[g,aJ l3])
theorem wb (hy:Yd y) (hw:SW y w) (hv:SW y v) (P1: ∀k,po (k+w.length)=po k) (P2: ∀k,pi (k+w.length)=pi k) (Q1: ∀k,qo (k+v.length)=qo k) (Q2: ∀k,qi (k+v.length)=qi k)
  (hS:IS y (sq w) po pi (sq v) qo qi) (hO:IS y (sq w) po pi (fun k=>bq v (-k)) (fun k=>qi (-k)) (fun k=>qo (-k))):
  de w.length v.length (fun i j=>one (iO po pi qo qi i j=true))=
   de w.length v.length (fun i j=>one (ac y (aC (rd w (i - 1))) (rd w i) (aC (rd v (j - 1))) (rd v j)=true))+de w.length v.length (fun i j=>one (0<al y (sq w i) (sq v j) (w.length+v.length)))+de w.length v.length (fun i j=>one (0<al y (sq w i) (bq v j) (w.length+v.length)))
   +de w.length v.length (fun i j=>one (cH w v i j/\iO po pi qo qi i j=true))+de w.length v.length (fun i j=>one (ke w v i j/\iO po pi qo qi i j=true)):=by
 have fw:=DT hw P1 P2
 have fv:=DT hv Q1 Q2
 have fo:=KN hy hv Q1 Q2
 have s1:=z9 hy fw fv hS
 have s2:=z9 hy fw fo hO
 have e1:de w.length v.length (fun s t=>one (nq y (sq w s) (sq v t)))=de w.length v.length (fun i j=>one (0<al y (sq w i) (sq v j) (w.length+v.length))):=cG fun i j _ _=>bo (rN hy (bV hw _) (bV hv _) fun z=>dW hw.ne hv.ne (fun k=>b_ w i k) (fun k=>b_ v j k) z)
 have e2:de w.length v.length (fun s t=>one (nq y (sq w s) (bq v (-t))))=de w.length v.length (fun i j=>one (0<al y (sq w i) (bq v j) (w.length+v.length))):=by
  have:de w.length v.length (fun s t=>one (nq y (sq w s) (bq v (-t))))=de w.length v.length (fun s t=>one (nq y (sq w s) (bq v t))):=bg fun i _=>DQ (h:=fun t=>one (nq y (sq w i) (bq v t))) fun k=>by rw[tQ]
  rw[this]
  exact cG fun i j _ _=>bo (rN hy (bV hw _) (mh hy hv _) fun z=>dW hw.ne hv.ne (fun k=>b_ w i k) (fun k=>kc v j k) z)
 have e3:de w.length v.length (fun s t=>one (DR (sq w) (fun k=>bq v (-k)) s t/\Hd po pi (fun k=>qi (-k)) (fun k=>qo (-k)) s t=true/\ ¬par (sq w) (fun k=>bq v (-k)) s t))=de w.length v.length (fun i j=>one (Aa w v i j/\iO po pi qo qi i j=true/\ ¬ke w v i j)):=by
  have P: ∀i:Int, ∀k:Int,(fun j=>one (Aa w v i j/\iO po pi qo qi i j=true/\ ¬ke w v i j)) (k+v.length)=(fun j=>one (Aa w v i j/\iO po pi qo qi i j=true/\ ¬ke w v i j)) k:=fun i k=>by
   show one (Aa w v i (k+v.length)/\iO po pi qo qi i (k+v.length)=true/\ ¬ke w v i (k+v.length))=_
   unfold Aa iO ke
   rw[show k+(v.length:Int) - 1=k - 1+v.length by omega,ie,ie,Q1,Q2,tQ]
  refine bg fun i _=>(bg fun k _=>?_).trans (KJ (P i))
  refine bo ?_
  rw[Hf]
  have ec:Hd po pi (fun k=>qi (-k)) (fun k=>qo (-k)) i k=iO po pi qo qi i (1 - k):=by
   unfold Hd iO
   rw[i_]
   show nu (pi ((i:Int) - 1)) (po i) (qi (-(k:Int))) (qo (-((k:Int) - 1)))=_
   rw[show -((k:Int) - 1)=1 - k by omega,show (1:Int) - k - 1= -k by omega]
  have ep:par (sq w) (fun k=>bq v (-k)) i k↔ke w v i (1 - k):=by
   unfold par ke
   rw[show (1:Int) - k - 1= -k by omega]
  rw[ec,ep]
 rw[e1]at s1
 rw[e2,e3]at s2
 rw[<-s1, <-s2, <-dJ, <-dJ, <-dJ, <-dJ]
 refine cG fun i j _ _=>?_
 have hc:Hd po pi qo qi i j=iO po pi qo qi i j:=rfl
 have et:=He w v i j
 have pS:cH w v i j->Ma w v i j:=fun z=> .inl (by have:=z 0;unfold sq at this;rwa [show (i:Int)+0=i by omega,show (j:Int)+0=j by omega]at this)
 have pO:ke w v i j->Aa w v i j:=fun z=> .inl (by have:=z 0;unfold sq bq at this;rwa [show (i:Int)+0=i by omega,show (j:Int) - 1 - 0=j - 1 by omega]at this)
 have W5:Ma w v i j-> ¬ac y (aC (rd w (i - 1))) (rd w i) (aC (rd v (j - 1))) (rd v j)=true:=fun z=>by
  unfold ac
  rw[if_pos (z.elim (fun z=> .inr (.inr (.inr z.symm))) fun z=> .inl (by rw[z]))]
  decide
 have W6:Aa w v i j-> ¬ac y (aC (rd w (i - 1))) (rd w i) (aC (rd v (j - 1))) (rd v j)=true:=fun z=>by
  unfold ac
  rw[if_pos (z.elim (fun z=> .inr (.inl z.symm)) fun z=> .inr (.inr (.inl (by rw[z,aJ (hy.lt _ (hv.rd _))]))))]
  decide
 have ep:par (sq w) (sq v) i j↔cH w v i j:=Iff.rfl
 by_cases tS:Ma w v i j
 ·have nO: ¬Aa w v i j:=fun z=>Tf hy hw hv tS z
  rw[bp (W5 tS),bp (p:=Aa w v i j/\_) (fun z=>nO z.1),bp (p:=ke w v i j/\_) (fun z=>nO (pO z.1))]
  by_cases c:iO po pi qo qi i j=true
  ·by_cases q:cH w v i j
   ·rw[gD c,bp (fun z=>z.2.2 q),gD ⟨q,c⟩];rfl
   ·rw[gD c,gD ⟨et.mpr tS,c,q⟩,bp (fun z=>q z.1)];rfl
  ·rw[bp c,bp (fun z=>c z.2.1),bp (fun z=>c z.2)];rfl
 ·rw[bp (p:=DR _ _ _ _/\_) (fun z=>tS (et.mp z.1)),bp (p:=cH w v i j/\_) (fun z=>tS (pS z.1))]
  by_cases tO:Aa w v i j
  ·rw[bp (W6 tO)]
   by_cases c:iO po pi qo qi i j=true
   ·by_cases q:ke w v i j
    ·rw[gD c,bp (fun z=>z.2.2 q),gD ⟨q,c⟩];rfl
    ·rw[gD c,gD ⟨tO,c,q⟩,bp (fun z=>q z.1)];rfl
   ·rw[bp c,bp (fun z=>c z.2.1),bp (fun z=>c z.2)];rfl
  ·rw[bp (p:=Aa w v i j/\_) (fun z=>tO z.1),bp (p:=ke w v i j/\_) (fun z=>tO (pO z.1))]
   have l2:=hy.lt _ (hv.rd (j - 1))
   have l3:=hy.lt _ (hv.rd j)
   have l1:=hy.lt _ (hw.rd (i - 1))
   have f0: ∀(u:List Nat) (i:Int),sq u i 0=rd u i:=fun u i=>by unfold sq;rw[show i+0=i by omega]
   have f1: ∀(u:List Nat) (i:Int),sq u i (-1)=rd u (i - 1):=fun u i=>rfl
   have e:=KI hy (bV hw i) (bV hv j) (hS.sep i j) (fun z=>tS (.inl (by rw[f0,f0]at z;exact z))) (fun z=>tS (.inr z)) (fun z=>tO (.inr (by rw[f0,f1]at z;rw[<-z,aJ l1]))) (fun z=>tO (.inl (by rw[f0,f1]at z;exact z.symm)))
   rw[f0,f0,f1,f1]at e
   have e':iO po pi qo qi i j=ac y (aC (rd w (i - 1))) (rd w i) (aC (rd v (j - 1))) (rd v j):=e
   rw[e']
   omega
end
section
variable {y w v:List Nat} {po pi qo qi:Int->Nat}
theorem Hg (hy:Yd y) (hw:SW y w) (hv:SW y v) (hS:IS y (sq w) po pi (sq v) qo qi) (D:Bool)
  (h: ∀i j,cH w v i j->po i≠qo j/\pi i≠qi j/\decide (po i<qo j)=D/\decide (qi j<pi i)=D):de w.length v.length (fun i j=>one (cH w v i j/\iO po pi qo qi i j=true))=0:=by
 have: ∀i j:Int, ¬(cH w v i j/\iO po pi qo qi i j=true):=fun i j ⟨p,c⟩=>by
  have p1:cH w v (i - 1) (j - 1):=fun k=>by
   have:=p (k - 1)
   unfold sq at this ⊢
   rw[show i - 1+k=i+(k - 1) by omega,show j - 1+k=j+(k - 1) by omega]
   exact this
  have h0:=h i j p
  have h1:=h _ _ p1
  have:=(tP hy (bV hw i) (bV hv j) (hS.sep i j) h1.2.1 h0.1 (p (-1)) (p 0)).mp c
  exact this (h1.2.2.2.trans h0.2.2.1.symm)
 rw[show (0:Int)=de w.length v.length (fun _ _=>0) by unfold de;rw[show (fun _:Int=>sm v.length fun _=>0)=fun _=>0 from funext fun _=>gE _,gE]]
 exact cG fun i j _ _=>bp (this i j)
theorem Hh (hy:Yd y) (hw:SW y w) (hv:SW y v) (hO:IS y (sq w) po pi (fun k=>bq v (-k)) (fun k=>qi (-k)) (fun k=>qo (-k))) (D:Bool)
  (h: ∀i j,(∀k,sq w i k=bq v j k)->po i≠qi j/\pi i≠qo j/\decide (po i<qi j)=D/\decide (qo j<pi i)=D):de w.length v.length (fun i j=>one (ke w v i j/\iO po pi qo qi i j=true))=0:=by
 have: ∀i j:Int, ¬(ke w v i j/\iO po pi qo qi i j=true):=fun i j ⟨p,c⟩=>by
  have p1: ∀k,sq w (i - 1) k=bq v j k:=fun k=>by
   have:=p (k - 1)
   unfold sq bq at this ⊢
   rw[show i - 1+k=i+(k - 1) by omega,this]
   congr 2;omega
  have h0:=h i (j - 1) p
  have h1:=h _ _ p1
  have s:=hO.sep i (1 - j)
  simp only[show -(1 - j)=j - 1 by omega,show -(1 - j - 1)=j by omega]at s
  unfold iO at c
  rw[i_]at c
  have:=(tP hy (bV hw i) (mh hy hv (j - 1)) s h1.2.1 h0.1 (p (-1)) (p 0)).mp c
  exact this (h1.2.2.2.trans h0.2.2.1.symm)
 rw[show (0:Int)=de w.length v.length (fun _ _=>0) by unfold de;rw[show (fun _:Int=>sm v.length fun _=>0)=fun _=>0 from funext fun _=>gE _,gE]]
 exact cG fun i j _ _=>bp (this i j)
theorem tR (hy:Yd y) (hw:SW y w) (i j:Int): ¬ ∀k,sq w i k=bq w j k:=fun h=>by
 unfold sq bq at h
 rcases (show (j - i)%2=0\/(j - i)%2=1 by omega) with z | z
 ·have:=h ((j - i) / 2)
  rw[show i+(j - i) / 2=j - (j - i) / 2 by omega]at this
  exact eT (hy.lt _ (hw.rd _)) this.symm
 ·have:=h ((j - i) / 2+1)
  rw[show j - ((j - i) / 2+1)=i+((j - i) / 2+1) - 1 by omega]at this
  exact hw.red _ this
theorem wc (h:Int->Int) (n:Nat): ∀m:Nat,sm (n+m) h=sm n h+sm m (fun i=>h (n+i))
 | 0=>by show sm n h=sm n h+0;omega
 | m+1=>by
  show sm (n+m) h+h ((n+m:Nat):Int)=sm n h+(sm m (fun i=>h (n+i))+h (n+m))
  rw[wc h n m,show ((n+m:Nat):Int)=(n:Int)+m by omega]
  omega
theorem ja {h:Int->Int}: ∀{s:Nat},0<s->(∀i:Nat,0<i->i<s->h i=0)->sm s h=h 0
 | 0,h0,_=>absurd h0 (ZS _)
 | 1,_,_=>by show (0:Int)+h 0=h 0;omega
 | s+2,_,g=>by
  show sm (s+1) h+h ((s+1:Nat):Int)=h 0
  rw[ja (s:=s+1) (by omega) (fun i h1 h2=>g i h1 (by omega)),g (s+1) (by omega) (by omega)]
  omega
theorem Ab {h:Int->Int} {s:Nat} (hs:0<s) (g: ∀i:Nat,h i=if i%s=0 then 1 else 0): ∀k:Nat,sm (k*s) h=k
 | 0=>by rw[Nat.zero_mul];rfl
 | k+1=>by
  rw[Qb2,wc,Ab hs g k,ja hs]
  ·have:=g (k*s)
   rw[if_pos (Nat.mul_mod_left k s)]at this
   show (k:Int)+h (((k*s:Nat):Int)+0)=((k+1:Nat):Int)
   rw[Qac,this]
   omega
  ·intro i h1 h2
   have:=g (k*s+i)
   rw[if_neg (by rw[Qa6,Nat.mul_add_mod,Qa2 h2];omega)]at this
   rw[<-this]
   congr 1
theorem DU (hy:Yd y) (hw:SW y w) (hS:IS y (sq w) po pi (sq w) po pi) {s k:Nat} (hs:0<s) (hn:w.length=k*s) (hk:0<k) (hr: ∀j:Nat,j<w.length->(cH w w 0 j↔j%s=0))
  (h: ∀i j:Int,cH w w i j->i%w.length≠j%w.length->po i≠po j/\pi i≠pi j/\decide (po i<po j)=decide (i%w.length<j%w.length)/\decide (pi j<pi i)=decide (i%w.length<j%w.length)):
  de w.length w.length (fun i j=>one (cH w w i j/\iO po pi po pi i j=true))=2*((k:Int) - 1):=by
 have pt: ∀i j:Nat,i<w.length->j<w.length->one (cH w w i j/\iO po pi po pi i j=true)=(if i=0 then one (j≠0/\cH w w 0 j) else 0)+(if j=0 then one (i≠0/\cH w w 0 i) else 0):=fun i j hi hj=>by
  have sym:cH w w 0 i↔cH w w i 0:=⟨fun q k=>(q k).symm,fun q k=>(q k).symm⟩
  by_cases e:i=j
  ·subst e
   rw[bp (fun q=>by have:=q.2;unfold iO at this;rw[v_]at this;cases this)]
   by_cases z:i=0
   ·rw[if_pos z,bp (fun q=>q.1 z)];rfl
   ·rw[if_neg z];rfl
  ·have key:cH w w i j->(iO po pi po pi i j=true↔(i=0\/j=0)):=fun p=>by
    have p1:cH w w ((i:Int) - 1) ((j:Int) - 1):=fun k=>by
     have:=p (k - 1)
     unfold sq at this ⊢
     rw[show (i:Int) - 1+k=i+(k - 1) by omega,show (j:Int) - 1+k=j+(k - 1) by omega]
     exact this
    have m0: ∀i:Nat,i<w.length->(i:Int)%w.length=i:=fun i hi=>ZH (by omega) (by omega)
    have m1: ∀i:Nat,i<w.length->((i:Int) - 1)%w.length=if i=0 then (w.length:Int) - 1 else i - 1:=fun i hi=>by
     split
     ·rename_i z
      rw[<-Qbf,ZH (by omega) (by omega)];omega
     ·exact ZH (by omega) (by omega)
    have h0:=h i j p (by rw[m0 i hi,m0 j hj];omega)
    have h1:=h _ _ p1 (by rw[m1 i hi,m1 j hj];split<;>split<;>omega)
    have c:=tP hy (bV hw i) (bV hw j) (hS.sep i j) h1.2.1 h0.1 (p (-1)) (p 0)
    rw[h0.2.2.1,h1.2.2.2,m0 i hi,m0 j hj,m1 i hi,m1 j hj]at c
    have c':iO po pi po pi i j=true↔_:=c
    rw[c',Ne,decide_eq_decide]
    split<;>split<;>omega
   by_cases z:i=0
   ·have j0:j≠0:=fun q=>e (z.trans q.symm)
    rw[if_pos z,if_neg j0]
    rw[z]at key ⊢
    have:one (cH w w ((0:Nat):Int) j/\iO po pi po pi ((0:Nat):Int) j=true)=one (j≠0/\cH w w 0 j):=bo ⟨fun q=>⟨j0,q.1⟩,fun q=>⟨q.2,(key q.2).mpr (.inl rfl)⟩⟩
    rw[this];omega
   ·rw[if_neg z]
    by_cases j0:j=0
    ·rw[if_pos j0]
     rw[j0]at key ⊢
     have:one (cH w w i ((0:Nat):Int)/\iO po pi po pi i ((0:Nat):Int)=true)=one (i≠0/\cH w w 0 i):=bo ⟨fun q=>⟨z,sym.mpr q.1⟩,fun q=>⟨sym.mp q.2,(key (sym.mp q.2)).mpr (.inr rfl)⟩⟩
     rw[this];omega
    ·rw[if_neg j0,bp (fun q=>by rcases (key q.1).mp q.2 with q | q<;>contradiction)];rfl
 have cnt:sm w.length (fun j=>one (j≠0/\cH w w 0 j))=(k:Int) - 1:=by
  have e1:sm w.length (fun j=>one (cH w w 0 j))=k:=by
   have:sm w.length (fun j=>one (cH w w 0 j))=sm w.length (fun j=>if j.toNat%s=0 then 1 else 0):=bg fun j hj=>by
    rw[bo (hr j hj),YT]
    by_cases z:j%s=0
    ·rw[gD z,if_pos z]
    ·rw[bp z,if_neg z]
   rw[this,hn]
   exact Ab hs (fun i=>by rw[YT]) k
  have e2:sm w.length (fun j=>one (cH w w 0 j))=sm w.length (fun j=>one (j≠0/\cH w w 0 j))+sm w.length (fun j=>if j=0 then 1 else 0):=by
   rw[<-oZ]
   refine bg fun j hj=>?_
   by_cases z:j=0
   ·subst z
    rw[gD (show cH w w 0 ((0:Nat):Int) from fun k=>rfl),bp (fun q=>q.1 rfl)];rfl
   ·rw[if_neg (by omega),Qac]
    exact bo ⟨fun q=>⟨by omega,q⟩,fun q=>q.2⟩
  have e3:sm w.length (fun j=>if j=0 then (1:Int) else 0)=1:=by
   rw[ja (Ut.mpr hw.ne) (fun i h1 _=>by rw[if_neg (by omega)]),if_pos rfl]
  omega
 have lp:0<w.length:=Ut.mpr hw.ne
 have e:de w.length w.length (fun i j=>one (cH w w i j/\iO po pi po pi i j=true))=de w.length w.length (fun i j=>(if i=0 then one (j≠0/\cH w w 0 j) else 0)+(if j=0 then one (i≠0/\cH w w 0 i) else 0)):=cG fun i j hi hj=>by
  rw[pt i j hi hj]
  congr 1
  ·by_cases z:i=0
   ·rw[if_pos z,if_pos (by omega)]
    exact bo ⟨fun q=>⟨by omega,q.2⟩,fun q=>⟨by omega,q.2⟩⟩
   ·rw[if_neg z,if_neg (by omega)]
  ·by_cases z:j=0
   ·rw[if_pos z,if_pos (by omega)]
    exact bo ⟨fun q=>⟨by omega,q.2⟩,fun q=>⟨by omega,q.2⟩⟩
   ·rw[if_neg z,if_neg (by omega)]
 rw[e,dJ]
 have a1:de w.length w.length (fun i j=>if i=0 then one (j≠0/\cH w w 0 j) else 0)=(k:Int) - 1:=by
  unfold de
  rw[ja lp]
  ·rw[<-cnt]
   exact bg fun j _=>if_pos rfl
  ·intro i h1 _
   refine Eq.trans (bg (g:=fun _=>0) fun j _=>?_) (gE _)
   have: ¬((i:Int)=0):=by omega
   exact if_neg this
 have a2:de w.length w.length (fun i j=>if j=0 then one (i≠0/\cH w w 0 i) else 0)=(k:Int) - 1:=by
  unfold de
  rw[<-cnt]
  refine bg fun i _=>?_
  have: ∀j:Nat,0<j-> ¬((j:Int)=0):=fun j h=>by omega
  rw[ja lp (fun j h1 _=>if_neg (this j h1))]
  exact if_pos rfl
 omega
end
noncomputable def kk (y:List Nat) (f:Int->Nat):Nat->Nat->List Int
 | _,0=>[]
 | k,n+1=>gg y f (k+1)::gg y f (-(k:Int))::kk y f (k+1) n
theorem fE: ∀(l r t:List Int),bL (l++r) (l++t)=bL r t
 | [],_,_=>rfl
 | a::l,r,t=>by
  show (if a=a then bL (l++r) (l++t) else _)=_
  rw[if_pos rfl,fE l r t]
theorem mi {y:List Nat} {f g:Int->Nat} {a b:Nat} (hy:Yd y) (hf:jQ y f) (hg:jQ y g) (h:Run f g a b) (r t:List Int): ∀(n k:Nat),k<=a->k<=b->a<k+n->b<k+n->bL (kk y f k n++r) (kk y g k n++t)=if a<=b then kZ y f g a else lL y f g b
 | 0,k,h1,_,h3,_=>by omega
 | n+1,k,h1,h2,h3,h4=>by
  show (if gg y f (k+1)=gg y g (k+1) then (if gg y f (-(k:Int))=gg y g (-(k:Int)) then bL (kk y f (k+1) n++r) (kk y g (k+1) n++t) else decide (gg y f (-(k:Int))<gg y g (-(k:Int)))) else decide (gg y f (k+1)<gg y g (k+1)))=_
  have e0:=h.qg k (by omega) (by omega)
  have e1:=h.qg (-(k:Int)) (by omega) (by omega)
  by_cases z:k=a
  ·subst z
   rw[if_neg (fun q=>h.hi (by
    unfold gg at q
    rw[show (k:Int)+1 - 1=k by omega, <-e0]at q
    exact k_ (hy.cl _ (hf.bW _)) (hf.bW _) (hg.bW _) q)),if_pos h2]
   rfl
  ·have e2:=h.qg (k+1) (by omega) (by omega)
   rw[if_pos (by unfold gg;rw[show (k:Int)+1 - 1=k by omega,e0,e2])]
   by_cases z2:k=b
   ·subst z2
    rw[if_neg (fun q=>h.lo (by
     unfold gg at q
     rw[<-e1]at q
     have r1:=hf.red (-(k:Int))
     have r2:=hg.red (-(k:Int))
     have c1:=(eZ (hy.cl _ (hf.bW (-(k:Int) - 1))) (hf.bW (-(k:Int))) (Ne.symm r1)).2.2
     have c2:=(eZ (hy.cl _ (hg.bW (-(k:Int) - 1))) (hf.bW (-(k:Int))) (by rw[e1];exact Ne.symm r2)).2.2
     have:=k_ (hf.bW (-(k:Int))) (hy.cl _ (hf.bW (-(k:Int) - 1))) (hy.cl _ (hg.bW (-(k:Int) - 1))) (by rw[c1,c2,q])
     exact fk (hy.lt _ (hf.bW _)) (hy.lt _ (hg.bW _)) this)),if_neg (by omega)]
    rfl
   ·have e3:=h.qg (-(k:Int) - 1) (by omega) (by omega)
    rw[if_pos (by unfold gg;rw[e1,e3])]
    exact mi hy hf hg h r t n (k+1) (by omega) (by omega) (by omega) (by omega)
noncomputable def lM (w:List Nat) (i:Int):Int->Nat:=if aF (rd w i)=true then sq w i else bq w i
noncomputable def FD (n r:Nat) (l low:Bool) (c i:Nat):List Int:=if low=l then [(c:Int),(((if low=true then i else n - 1 - i) / r:Nat):Int)] else [-(c:Int), -(((if low=true then n - 1 - i else i) / r:Nat):Int)]
noncomputable def cK (y:List Nat) (ws:List (List Nat)) (L:Nat->Bool) (r:Nat->Nat) (M c i:Nat):List Int:=kk y (lM (ws.getD c []) i) 0 M++FD (ws.getD c []).length (r c) (L c) (aF (rd (ws.getD c []) i)) c i
def Dl (w:List Nat) (i:Int) (f:Int->Nat):Prop:=f=sq w i\/f=bq w i
theorem tT {y w:List Nat} {i:Int} {f:Int->Nat} (hy:Yd y) (hw:SW y w) (h:Dl w i f):lM w i=if aF (f 0)=true then f else mY f:=by
 have s0:sq w i 0=rd w i:=by unfold sq;rw[show i+0=i by omega]
 have b0:bq w i 0=aC (rd w i):=by unfold bq;rw[show i - 0=i by omega]
 have lc:=fR _ (hy.lt _ (hw.rd i)).mem
 unfold lM
 rcases h with rfl | rfl
 ·rw[s0,gi]
 ·rw[b0,lc, <-gi,vZ hy (bV hw i)]
  cases aF (rd w i)<;>rfl
theorem Dl.yA {y w:List Nat} {i:Int} {f:Int->Nat} (hy:Yd y) (hw:SW y w) (h:Dl w i f):jQ y f:=by
 rcases h with rfl | rfl
 ·exact bV hw i
 ·exact mh hy hw i
theorem Run.sy {f g:Int->Nat} {a b:Nat} (h:Run f g a b):Run g f a b:=⟨fun k h1 h2=>(h.qg k h1 h2).symm,Ne.symm h.hi,Ne.symm h.lo⟩
section
variable {y:List Nat} {ws:List (List Nat)} {L:Nat->Bool} {r:Nat->Nat} {M:Nat} {N:Nat->Nat->Nat->Nat}
structure Lies (y:List Nat) (ws:List (List Nat)) (L:Nat->Bool) (r:Nat->Nat) (M:Nat) (N:Nat->Nat->Nat->Nat):Prop where
 sep: ∀c i d j e e',c<ws.length->d<ws.length->i<(ws.getD c []).length->j<(ws.getD d []).length->(e=rd (ws.getD c []) i\/e=aC (rd (ws.getD c []) i))->(e'=rd (ws.getD d []) j\/e'=aC (rd (ws.getD d []) j))->y.idxOf e<y.idxOf e'->N c i e<N d j e'
 low: ∀c i d j x,c<ws.length->d<ws.length->i<(ws.getD c []).length->j<(ws.getD d []).length->(c,i)≠(d,j)->aF x=true->(rd (ws.getD c []) i=x\/rd (ws.getD c []) i=aC x)->(rd (ws.getD d []) j=x\/rd (ws.getD d []) j=aC x)->
  N c i x≠N d j x/\N c i (aC x)≠N d j (aC x)/\decide (N c i x<N d j x)=bL (cK y ws L r M c i) (cK y ws L r M d j)/\decide (N d j (aC x)<N c i (aC x))=bL (cK y ws L r M c i) (cK y ws L r M d j)
theorem Lies.at (hy:Yd y) (hN:Lies y ws L r M N) {c i d j:Nat} {f g:Int->Nat} (hc:c<ws.length) (hd:d<ws.length) (hi:i<(ws.getD c []).length) (hj:j<(ws.getD d []).length) (hw:SW y (ws.getD c [])) (hv:SW y (ws.getD d []))
  (hf:Dl (ws.getD c []) i f) (hg:Dl (ws.getD d []) j g) (h0:f 0=g 0) (dc:(c,i)≠(d,j)):
  N c i (f 0)≠N d j (f 0)/\N c i (aC (f 0))≠N d j (aC (f 0))/\decide (N c i (f 0)<N d j (f 0))=(if aF (f 0)=true then bL (cK y ws L r M c i) (cK y ws L r M d j) else bL (cK y ws L r M d j) (cK y ws L r M c i))/\decide (N d j (aC (f 0))<N c i (aC (f 0)))=(if aF (f 0)=true then bL (cK y ws L r M c i) (cK y ws L r M d j) else bL (cK y ws L r M d j) (cK y ws L r M c i)):=by
 have s0: ∀(w:List Nat) (i:Int),sq w i 0=rd w i:=fun w i=>by unfold sq;rw[show i+0=i by omega]
 have b0: ∀(w:List Nat) (i:Int),bq w i 0=aC (rd w i):=fun w i=>by unfold bq;rw[show i - 0=i by omega]
 have ly:Lt (f 0):=hy.lt _ ((hf.yA hy hw).bW 0)
 have LX:=aJ ly
 have ef:rd (ws.getD c []) i=f 0\/rd (ws.getD c []) i=aC (f 0):=by
  rcases hf with rfl | rfl
  ·exact .inl (s0 _ _).symm
  ·exact .inr (by rw[b0,aJ (hy.lt _ (hw.rd _))])
 have eg:rd (ws.getD d []) j=f 0\/rd (ws.getD d []) j=aC (f 0):=by
  rw[h0]
  rcases hg with rfl | rfl
  ·exact .inl (s0 _ _).symm
  ·exact .inr (by rw[b0,aJ (hy.lt _ (hv.rd _))])
 by_cases z:aF (f 0)=true
 ·rw[if_pos z]
  exact hN.low c i d j (f 0) hc hd hi hj dc z ef eg
 ·rw[if_neg z]
  have z':aF (aC (f 0))=true:=by rw[fR _ ly.mem];simpa using z
  have:=hN.low d j c i (aC (f 0)) hd hc hj hi (Ne.symm dc) z' (by rw[LX];exact eg.symm) (by rw[LX];exact ef.symm)
  rw[LX]at this
  exact ⟨Ne.symm this.2.1,Ne.symm this.1,this.2.2.2,this.2.2.1⟩
theorem Lies.run (hy:Yd y) (hN:Lies y ws L r M N) {c i d j:Nat} {f g:Int->Nat} {a b:Nat} (hc:c<ws.length) (hd:d<ws.length) (hi:i<(ws.getD c []).length) (hj:j<(ws.getD d []).length) (hw:SW y (ws.getD c [])) (hv:SW y (ws.getD d []))
  (hf:Dl (ws.getD c []) i f) (hg:Dl (ws.getD d []) j g) (hr:Run f g a b) (ha:a<M) (hb:b<M) (dc:(c,i)≠(d,j)):
  N c i (f 0)≠N d j (g 0)/\N c i (aC (f 0))≠N d j (aC (g 0))/\decide (N c i (f 0)<N d j (g 0))=yt y f g a b/\decide (N d j (aC (g 0))<N c i (aC (f 0)))=yt y f g a b:=by
 have h0:=hr.zero
 have lf:=hf.yA hy hw
 have lg:=hg.yA hy hv
 have e:(if aF (f 0)=true then bL (cK y ws L r M c i) (cK y ws L r M d j) else bL (cK y ws L r M d j) (cK y ws L r M c i))=yt y f g a b:=by
  unfold cK
  rw[tT hy hw hf,tT hy hv hg, <-h0]
  by_cases z:aF (f 0)=true
  ·rw[if_pos z,if_pos z,if_pos z,mi hy lf lg hr _ _ M 0 (YU _) (YU _) (by omega) (by omega)]
   unfold yt uO
   by_cases q:a<=b
   ·rw[if_pos q,if_neg (by simp[z];omega)]
   ·rw[if_neg q,if_pos (by simp;omega)]
  ·rw[if_neg z,if_neg z,if_neg z,mi hy (lg.rv hy) (lf.rv hy) (hr.rv hy lf lg).sy _ _ M 0 (YU _) (YU _) (by omega) (by omega), <-KC hy lf lg h0]
   unfold yt uO
   have z':aF (mY g 0)=true:=by
    show aF (aC (g 0))=true
    rw[<-h0,fR _ (hy.lt _ (lf.bW 0)).mem];simpa using z
   by_cases q:b<=a
   ·rw[if_pos q,if_neg (by simp[z'];omega)]
   ·rw[if_neg q,if_pos (by simp;omega)]
 have:=hN.at hy hc hd hi hj hw hv hf hg h0 dc
 rw[e]at this
 rw[<-h0]
 exact this
end
noncomputable def jb (n:Nat) (k:Int):Nat:=(k%(n:Int)).toNat
theorem bM {n:Nat} (h:0<n) (k:Int):jb n k<n:=by
 unfold jb
 have h1:=Qai k (b:=(n:Int)) (by omega)
 have h2:=kb k (b:=(n:Int)) (by omega)
 omega
theorem eI {n:Nat} (h:0<n) (k:Int):((jb n k:Nat):Int)=k%n:=by
 unfold jb
 have h1:=Qai k (b:=(n:Int)) (by omega)
 omega
theorem Ac {n:Nat} (k:Int):jb n (k+n)=jb n k:=by unfold jb;rw[Qbf]
theorem b8 {w:List Nat} (h:w≠[]) (k:Int):rd w (jb w.length k:Nat)=rd w k:=by rw[eI (Ut.mpr h),ig]
theorem cL {w:List Nat} (h:w≠[]) (k:Int):sq w (jb w.length k:Nat)=sq w k:=by
 funext x
 unfold sq
 rw[eI (Ut.mpr h), <-ig w (k%w.length+x),Qdt,ig]
theorem tU {w:List Nat} (h:w≠[]) (k:Int):bq w (jb w.length k:Nat)=bq w k:=by rw[<-gi, <-gi,cL h]
noncomputable def pO (ws:List (List Nat)) (N:Nat->Nat->Nat->Nat) (c:Nat) (k:Int):Nat:=N c (jb (ws.getD c []).length k) (rd (ws.getD c []) k)
noncomputable def pI (ws:List (List Nat)) (N:Nat->Nat->Nat->Nat) (c:Nat) (k:Int):Nat:=N c (jb (ws.getD c []).length k) (aC (rd (ws.getD c []) k))
theorem KO {x x' p p':Int} (h:x≠x'):bL [x,p] [x',p']=decide (x<x'):=by
 show (if x=x' then _ else decide (x<x'))=_
 rw[if_neg h]
theorem tV {x p p':Int} (h:p≠p'):bL [x,p] [x,p']=decide (p<p'):=by
 show (if x=x then (if p=p' then bL [] [] else decide (p<p')) else _)=_
 rw[if_pos rfl,if_neg h]
section
variable {y:List Nat} {ws:List (List Nat)} {L:Nat->Bool} {r:Nat->Nat} {M:Nat} {N:Nat->Nat->Nat->Nat}
structure eO (y:List Nat) (ws:List (List Nat)) (L:Nat->Bool) (r:Nat->Nat) (M:Nat):Prop where
 yd:Yd y
 sw: ∀c,c<ws.length->SW y (ws.getD c [])
 big: ∀c d,c<ws.length->d<ws.length->(ws.getD c []).length+(ws.getD d []).length<=M
 l1: ∀c d i j,c<ws.length->d<ws.length->cH (ws.getD c []) (ws.getD d []) i j->L c=L d
 l2: ∀c d i j,c<ws.length->d<ws.length->(∀k,sq (ws.getD c []) i k=bq (ws.getD d []) j k)->L d=!L c
 rp: ∀c,c<ws.length->0<r c
 rr: ∀c,c<ws.length-> ∀i j:Int,(cH (ws.getD c []) (ws.getD c []) i j↔(i - j)%(r c:Int)=0)
theorem Lies.two (h:eO y ws L r M) (hN:Lies y ws L r M N) {c d:Nat} (hc:c<ws.length) (hd:d<ws.length):IS y (sq (ws.getD c [])) (pO ws N c) (pI ws N c) (sq (ws.getD d [])) (pO ws N d) (pI ws N d):=by
 have hw:=h.sw c hc
 have hv:=h.sw d hd
 have lw:=Ut.mpr hw.ne
 have lv:=Ut.mpr hv.ne
 have s0: ∀(w:List Nat) (i:Int),sq w i 0=rd w i:=fun w i=>by unfold sq;rw[show i+0=i by omega]
 refine ⟨fun s t=>?_,fun s t a b rn=>?_⟩
 ·have key: ∀p∈[(aC (sq (ws.getD c []) s (-1)),pI ws N c (s - 1)),(sq (ws.getD c []) s 0,pO ws N c s),(aC (sq (ws.getD d []) t (-1)),pI ws N d (t - 1)),(sq (ws.getD d []) t 0,pO ws N d t)], ∃e i:Nat,e<ws.length/\i<(ws.getD e []).length/\(p.1=rd (ws.getD e []) i\/p.1=aC (rd (ws.getD e []) i))/\p.2=N e i p.1:=by
   intro p hp
   simp only[Wj,Zy,or_false]at hp
   rcases hp with rfl | rfl | rfl | rfl
   ·exact ⟨c,_,hc,bM lw (s - 1), .inr (by rw[b8 hw.ne];rfl),rfl⟩
   ·exact ⟨c,_,hc,bM lw s, .inl (by rw[b8 hw.ne,s0]),by rw[s0];rfl⟩
   ·exact ⟨d,_,hd,bM lv (t - 1), .inr (by rw[b8 hv.ne];rfl),rfl⟩
   ·exact ⟨d,_,hd,bM lv t, .inl (by rw[b8 hv.ne,s0]),by rw[s0];rfl⟩
  intro p hp q hq cC
  obtain ⟨e,i,he,hi,h1,h2⟩:=key p hp
  obtain ⟨e',j,zH,hj,h3,h4⟩:=key q hq
  rw[h2,h4]
  exact hN.sep e i e' j _ _ he zH hi hj h1 h3 cC
 ·obtain ⟨a',b',Tg,ha,hb⟩:=dH lw lv (fun k=>b_ _ s k) (fun k=>b_ _ t k) rn.zero ⟨_,rn.hi⟩
  obtain ⟨rfl,rfl⟩:=rn.one Tg
  have:=h.big c d hc hd
  have key:=hN.run h.yd hc hd (bM lw s) (bM lv t) hw hv (.inl (cL hw.ne s).symm) (.inl (cL hv.ne t).symm) rn (by omega) (by omega) (fun z=>rn.hi (by
   obtain ⟨z1,z2⟩:=Prod.mk.inj z
   subst z1
   rw[<-cL hw.ne s, <-cL hw.ne t,z2]))
  rw[s0,s0]at key
  exact key
theorem Lies.UX (h:eO y ws L r M) (hN:Lies y ws L r M N) {c d:Nat} (hc:c<ws.length) (hd:d<ws.length):IS y (sq (ws.getD c [])) (pO ws N c) (pI ws N c) (fun k=>bq (ws.getD d []) (-k)) (fun k=>pI ws N d (-k)) (fun k=>pO ws N d (-k)):=by
 have hw:=h.sw c hc
 have hv:=h.sw d hd
 have lw:=Ut.mpr hw.ne
 have lv:=Ut.mpr hv.ne
 have s0: ∀(w:List Nat) (i:Int),sq w i 0=rd w i:=fun w i=>by unfold sq;rw[show i+0=i by omega]
 have b0: ∀(w:List Nat) (i:Int),bq w i 0=aC (rd w i):=fun w i=>by unfold bq;rw[show i - 0=i by omega]
 have bb: ∀t:Int,aC (bq (ws.getD d []) (-t) (-1))=rd (ws.getD d []) (-(t - 1)):=fun t=>by
  unfold bq
  rw[aJ (h.yd.lt _ (hv.rd _))]
  congr 1;omega
 refine ⟨fun s t=>?_,fun s t a b rn=>?_⟩
 ·have key: ∀p∈[(aC (sq (ws.getD c []) s (-1)),pI ws N c (s - 1)),(sq (ws.getD c []) s 0,pO ws N c s),(aC (bq (ws.getD d []) (-t) (-1)),pO ws N d (-(t - 1))),(bq (ws.getD d []) (-t) 0,pI ws N d (-t))], ∃e i:Nat,e<ws.length/\i<(ws.getD e []).length/\(p.1=rd (ws.getD e []) i\/p.1=aC (rd (ws.getD e []) i))/\p.2=N e i p.1:=by
   intro p hp
   simp only[Wj,Zy,or_false]at hp
   rcases hp with rfl | rfl | rfl | rfl
   ·exact ⟨c,_,hc,bM lw (s - 1), .inr (by rw[b8 hw.ne];rfl),rfl⟩
   ·exact ⟨c,_,hc,bM lw s, .inl (by rw[b8 hw.ne,s0]),by rw[s0];rfl⟩
   ·exact ⟨d,_,hd,bM lv (-(t - 1)), .inl (by rw[b8 hv.ne];exact bb t),by rw[bb t];rfl⟩
   ·exact ⟨d,_,hd,bM lv (-t), .inr (by rw[b8 hv.ne,b0]),by rw[b0];rfl⟩
  intro p hp q hq cC
  obtain ⟨e,i,he,hi,h1,h2⟩:=key p hp
  obtain ⟨e',j,zH,hj,h3,h4⟩:=key q hq
  rw[h2,h4]
  exact hN.sep e i e' j _ _ he zH hi hj h1 h3 cC
 ·obtain ⟨a',b',Tg,ha,hb⟩:=dH lw lv (fun k=>b_ _ s k) (fun k=>kc _ (-t) k) rn.zero ⟨_,rn.hi⟩
  obtain ⟨rfl,rfl⟩:=rn.one Tg
  have:=h.big c d hc hd
  have key:=hN.run h.yd hc hd (bM lw s) (bM lv (-t)) hw hv (.inl (cL hw.ne s).symm) (.inr (tU hv.ne (-t)).symm) rn (by omega) (by omega) (fun z=>by
   obtain ⟨z1,z2⟩:=Prod.mk.inj z
   subst z1
   have z0:=rn.zero
   rw[s0,b0, <-b8 hw.ne s, <-b8 hw.ne (-t),z2]at z0
   exact eT (h.yd.lt _ (hw.rd _)) z0.symm)
  rw[s0,b0,aJ (h.yd.lt _ (hv.rd _))]at key
  exact key
theorem tW {n n' r r' c d i j:Nat} {l low KP:Bool} (h:c≠d):bL (FD n r l low c i) (FD n' r' (if KP=low then l else !l) KP d j)=if low=l then decide (c<d) else decide (d<c):=by
 unfold FD
 cases low<;>cases KP<;>cases l<;>simp only[Qdg,Bool.not_false,if_true,if_false,Bool.true_eq_false,Qav]<;>rw[KO (by omega)]<;>exact decide_eq_decide.mpr (by omega)
theorem Lies.DV (h:eO y ws L r M) (hN:Lies y ws L r M N) {c d:Nat} (hc:c<ws.length) (hd:d<ws.length) (m8:c≠d) {i j:Nat} {f g:Int->Nat} (hi:i<(ws.getD c []).length) (hj:j<(ws.getD d []).length) (hf:Dl (ws.getD c []) i f) (hg:Dl (ws.getD d []) j g) (hp: ∀k,f k=g k)
  (hl:L d=if aF (rd (ws.getD d []) j)=aF (rd (ws.getD c []) i) then L c else !L c) (hs:f=sq (ws.getD c []) i):
  N c i (f 0)≠N d j (g 0)/\N c i (aC (f 0))≠N d j (aC (g 0))/\decide (N c i (f 0)<N d j (g 0))=(if L c=true then decide (c<d) else decide (d<c))/\decide (N d j (aC (g 0))<N c i (aC (f 0)))=(if L c=true then decide (c<d) else decide (d<c)):=by
 have hw:=h.sw c hc
 have hv:=h.sw d hd
 have e:(if aF (f 0)=true then bL (cK y ws L r M c i) (cK y ws L r M d j) else bL (cK y ws L r M d j) (cK y ws L r M c i))=if L c=true then decide (c<d) else decide (d<c):=by
  have es:lM (ws.getD c []) i=lM (ws.getD d []) j:=by
   rw[tT h.yd hw hf,tT h.yd hv hg,show f=g from funext hp]
  have f0:f 0=rd (ws.getD c []) i:=by rw[hs];unfold sq;rw[show (i:Int)+0=i by omega]
  unfold cK
  rw[es,fE,fE,f0]
  have zq:L c=if aF (rd (ws.getD c []) i)=aF (rd (ws.getD d []) j) then L d else !L d:=by
   rw[hl]
   cases aF (rd (ws.getD d []) j)<;>cases aF (rd (ws.getD c []) i)<;>cases L c<;>rfl
  have e1:= @tW (ws.getD c []).length (ws.getD d []).length (r c) (r d) c d i j (L c) (aF (rd (ws.getD c []) i)) (aF (rd (ws.getD d []) j)) m8
  have e2:= @tW (ws.getD d []).length (ws.getD c []).length (r d) (r c) d c j i (L d) (aF (rd (ws.getD d []) j)) (aF (rd (ws.getD c []) i)) (Ne.symm m8)
  rw[<-hl]at e1
  rw[<-zq]at e2
  rw[e1,e2,hl]
  cases aF (rd (ws.getD d []) j)<;>cases aF (rd (ws.getD c []) i)<;>cases L c<;>rfl
 have:=hN.at h.yd hc hd hi hj hw hv hf hg (hp 0) (fun z=>m8 (Prod.mk.inj z).1)
 rw[e]at this
 rw[<-hp 0]
 exact this
end
theorem we {n k r i:Nat} (hr:0<r) (hn:n=k*r) (hi:i<n):(n - 1 - i) / r=k - 1 - i / r:=by
 have h1:=Qca i r
 have h2:=Qby i hr
 have h3:i / r<k:=by
  rw[Qc3 hr];omega
 rw[Nat.div_eq_iff hr]
 obtain ⟨t,rfl⟩: ∃t,k=i / r+1+t:=⟨k - 1 - i / r,by omega⟩
 generalize hq:i / r=q at*
 rw[Nat.add_mul,Nat.add_mul,Nat.one_mul,Qa6 q r]at hn
 have e:q+1+t - 1 - q=t:=by omega
 rw[e]
 generalize r*q=A at*
 generalize t*r=B at*
 omega
theorem BK {r i j:Nat} (hr:0<r) (h:i%r=j%r) (dc:i≠j):(i / r<j / r↔i<j)/\i / r≠j / r:=by
 have h1:=Qca i r
 have h2:=Qca j r
 have tX:i / r≠j / r:=fun z=>dc (by rw[<-h1, <-h2,z,h])
 refine ⟨⟨fun q=>?_,fun q=>?_⟩,tX⟩
 ·have:r*(i / r+1)<=r*(j / r):=Nat.mul_le_mul_left r q
  rw[Nat.mul_add,Nat.mul_one]at this
  omega
 ·refine Classical.byContradiction fun z=>?_
  have h3:j / r+1<=i / r:=by omega
  have:r*(j / r+1)<=r*(i / r):=Nat.mul_le_mul_left r h3
  rw[Nat.mul_add,Nat.mul_one]at this
  omega
theorem yC {n k r c i j:Nat} {l low:Bool} (hr:0<r) (hn:n=k*r) (hi:i<n) (hj:j<n) (h:i%r=j%r) (dc:i≠j):(if low=true then bL (FD n r l low c i) (FD n r l low c j) else bL (FD n r l low c j) (FD n r l low c i))=decide (i<j):=by
 obtain ⟨d1,d2⟩:=BK hr h dc
 have e1:=we hr hn hi
 have e2:=we hr hn hj
 have b1:i / r<k:=by rw[Qc3 hr];omega
 have b2:j / r<k:=by rw[Qc3 hr];omega
 unfold FD
 cases low<;>cases l<;>simp only[if_true,if_false,Bool.true_eq_false,Qav]
 ·rw[e1,e2,tV (by omega)];exact decide_eq_decide.mpr (by omega)
 ·rw[tV (by omega)];exact decide_eq_decide.mpr (by omega)
 ·rw[e1,e2,tV (by omega)];exact decide_eq_decide.mpr (by omega)
 ·rw[tV (by omega)];exact decide_eq_decide.mpr (by omega)
noncomputable def fc (y w v:List Nat) (i j:Int):Int:=one (ac y (aC (rd w (i - 1))) (rd w i) (aC (rd v (j - 1))) (rd v j)=true)+one (0<al y (sq w i) (sq v j) (w.length+v.length))+one (0<al y (sq w i) (bq v j) (w.length+v.length))
section
variable {y:List Nat} {ws:List (List Nat)} {L:Nat->Bool} {r:Nat->Nat} {M:Nat} {N:Nat->Nat->Nat->Nat}
theorem tY (ws:List (List Nat)) (N:Nat->Nat->Nat->Nat) (c:Nat) (k:Int):pO ws N c (k+(ws.getD c []).length)=pO ws N c k:=by unfold pO;rw[Ac,ie]
theorem tZ (ws:List (List Nat)) (N:Nat->Nat->Nat->Nat) (c:Nat) (k:Int):pI ws N c (k+(ws.getD c []).length)=pI ws N c k:=by unfold pI;rw[Ac,ie]
theorem eO.root (h:eO y ws L r M) {c:Nat} (hc:c<ws.length):(ws.getD c []).length=(ws.getD c []).length / r c*r c/\0<(ws.getD c []).length / r c:=by
 have hp:=h.rp c hc
 have hl:=Ut.mpr (h.sw c hc).ne
 have h1:=(h.rr c hc (ws.getD c []).length 0).mp (fun k=>by
  have:=congrFun (yB (ws.getD c []) 0) k
  rwa [Qaw]at this)
 rw[Qbq]at h1
 have h2:(ws.getD c []).length%r c=0:=by
  have:((((ws.getD c []).length%r c:Nat)):Int)=0:=by rw[<-h1];rfl
  omega
 have h3:=Qca (ws.getD c []).length (r c)
 rw[h2,Qdl,Qa6]at h3
 refine ⟨h3.symm,Qdi fun z=>?_⟩
 rw[z,Nat.zero_mul]at h3
 omega
theorem BL (h:eO y ws L r M) (hN:Lies y ws L r M N) {c d:Nat} (hc:c<ws.length) (hd:d<ws.length) (m8:c≠d):
  de (ws.getD c []).length (ws.getD d []).length (fun i j=>one (iO (pO ws N c) (pI ws N c) (pO ws N d) (pI ws N d) i j=true))=de (ws.getD c []).length (ws.getD d []).length (fc y (ws.getD c []) (ws.getD d [])):=by
 have hw:=h.sw c hc
 have hv:=h.sw d hd
 have lw:=Ut.mpr hw.ne
 have lv:=Ut.mpr hv.ne
 have s0: ∀(w:List Nat) (i:Int),sq w i 0=rd w i:=fun w i=>by unfold sq;rw[show i+0=i by omega]
 have b0: ∀(w:List Nat) (i:Int),bq w i 0=aC (rd w i):=fun w i=>by unfold bq;rw[show i - 0=i by omega]
 have hS:=hN.two h hc hd
 have hO:=hN.UX h hc hd
 rw[wb h.yd hw hv (tY ws N c) (tZ ws N c) (tY ws N d) (tZ ws N d) hS hO,Hg h.yd hw hv hS (if L c=true then decide (c<d) else decide (d<c)),Hh h.yd hw hv hO (if L c=true then decide (c<d) else decide (d<c)), <-dJ, <-dJ]
 ·unfold fc
  omega
 ·intro i j p
  have p0:=p 0
  rw[s0,b0]at p0
  have lo:=fR _ (h.yd.lt _ (hv.rd j)).mem
  have:=hN.DV h hc hd m8 (bM lw i) (bM lv j) (f:=sq (ws.getD c []) i) (g:=bq (ws.getD d []) j) (.inl (cL hw.ne i).symm) (.inr (tU hv.ne j).symm) p (by
   rw[b8 hw.ne,b8 hv.ne,p0,lo,h.l2 c d i j hc hd p]
   cases aF (rd (ws.getD d []) j)<;>rfl) (cL hw.ne i).symm
  rw[s0,b0,aJ (h.yd.lt _ (hv.rd _))]at this
  exact this
 ·intro i j p
  have p0:=p 0
  rw[s0,s0]at p0
  have:=hN.DV h hc hd m8 (bM lw i) (bM lv j) (f:=sq (ws.getD c []) i) (g:=sq (ws.getD d []) j) (.inl (cL hw.ne i).symm) (.inl (cL hv.ne j).symm) p (by
   rw[b8 hw.ne,b8 hv.ne,p0,if_pos rfl]
   exact (h.l1 c d i j hc hd p).symm) (cL hw.ne i).symm
  rw[s0,s0]at this
  exact this
theorem yD (h:eO y ws L r M) (hN:Lies y ws L r M N) {c:Nat} (hc:c<ws.length):
  de (ws.getD c []).length (ws.getD c []).length (fun i j=>one (iO (pO ws N c) (pI ws N c) (pO ws N c) (pI ws N c) i j=true))=de (ws.getD c []).length (ws.getD c []).length (fc y (ws.getD c []) (ws.getD c []))+2*(((ws.getD c []).length / r c:Nat) - 1):=by
 have hw:=h.sw c hc
 have lw:=Ut.mpr hw.ne
 have s0: ∀(w:List Nat) (i:Int),sq w i 0=rd w i:=fun w i=>by unfold sq;rw[show i+0=i by omega]
 have hS:=hN.two h hc hc
 have hO:=hN.UX h hc hc
 obtain ⟨FA,Pk⟩:=h.root hc
 have UY:=h.rp c hc
 have e0:de (ws.getD c []).length (ws.getD c []).length (fun i j=>one (ke (ws.getD c []) (ws.getD c []) i j/\iO (pO ws N c) (pI ws N c) (pO ws N c) (pI ws N c) i j=true))=0:=by
  rw[show (0:Int)=de (ws.getD c []).length (ws.getD c []).length (fun _ _=>0) by unfold de;rw[show (fun _:Int=>sm (ws.getD c []).length fun _=>0)=fun _=>0 from funext fun _=>gE _,gE]]
  exact cG fun i j _ _=>bp fun z=>tR h.yd hw _ _ z.1
 rw[wb h.yd hw hw (tY ws N c) (tZ ws N c) (tY ws N c) (tZ ws N c) hS hO,e0,DU h.yd hw hS UY FA Pk, <-dJ, <-dJ]
 ·unfold fc
  omega
 ·intro j hj
  rw[h.rr c hc]
  constructor
  ·intro q
   have:(j:Int)%(r c:Int)=0:=by
    rw[Int.zero_sub]at q
    exact Int.emod_eq_zero_of_dvd (Int.dvd_neg.mp (Int.dvd_of_emod_eq_zero q))
   have h2:((j%r c:Nat):Int)=0:=by rw[<-this];rfl
   omega
  ·intro q
   have:(j:Int)%(r c:Int)=0:=by
    have h2:((j%r c:Nat):Int)=(j:Int)%(r c:Int):=rfl
    rw[<-h2,q];rfl
   rw[Int.zero_sub]
   exact Int.emod_eq_zero_of_dvd (Int.dvd_neg.mpr (Int.dvd_of_emod_eq_zero this))
 ·intro i j p dc
  have p0:=p 0
  rw[s0,s0]at p0
  have tX:jb (ws.getD c []).length i≠jb (ws.getD c []).length j:=fun z=>dc (by rw[<-eI lw, <-eI lw,z])
  have:=hN.at h.yd hc hc (bM lw i) (bM lw j) hw hw (f:=sq (ws.getD c []) i) (g:=sq (ws.getD c []) j) (.inl (cL hw.ne i).symm) (.inl (cL hw.ne j).symm) (p 0) (fun z=>tX (Prod.mk.inj z).2)
  have Hi:jb (ws.getD c []).length i%r c=jb (ws.getD c []).length j%r c:=by
   have p':cH (ws.getD c []) (ws.getD c []) (jb (ws.getD c []).length i:Nat) (jb (ws.getD c []).length j:Nat):=fun k=>by rw[cL hw.ne,cL hw.ne];exact p k
   have q:=(h.rr c hc _ _).mp p'
   have q2:=Int.emod_eq_emod_iff_emod_sub_eq_zero.mpr q
   have q3:((jb (ws.getD c []).length i%r c:Nat):Int)=((jb (ws.getD c []).length j%r c:Nat):Int):=q2
   omega
  have es:lM (ws.getD c []) (jb (ws.getD c []).length i:Nat)=lM (ws.getD c []) (jb (ws.getD c []).length j:Nat):=by
   unfold lM
   rw[b8 hw.ne,b8 hw.ne,p0,cL hw.ne,cL hw.ne,tU hw.ne,tU hw.ne,show sq (ws.getD c []) i=sq (ws.getD c []) j from funext p, <-gi, <-gi,show sq (ws.getD c []) i=sq (ws.getD c []) j from funext p]
  have e:= @yC (ws.getD c []).length _ (r c) c _ _ (L c) (aF (rd (ws.getD c []) j)) UY FA (bM lw i) (bM lw j) Hi tX
  unfold cK at this
  rw[es,fE,fE,s0,b8 hw.ne,b8 hw.ne,p0,e,decide_eq_decide.mpr (show jb (ws.getD c []).length i<jb (ws.getD c []).length j↔i%((ws.getD c []).length:Int)<j%((ws.getD c []).length:Int) by rw[<-eI lw, <-eI lw];omega)]at this
  unfold pO pI
  rw[p0]
  exact this
end
noncomputable def uQ:Nat->(Int->Int->Int)->Int
 | 0,_=>0
 | n+1,h=>uQ n h+sm n (fun j=>h j n)
theorem t5 (n m:Nat) (h:Int->Int->Int):de (n+1) m h=de n m h+sm m (fun j=>h n j):=rfl
theorem Ad (m:Nat) (h:Int->Int->Int): ∀n:Nat,de n (m+1) h=de n m h+sm n (fun i=>h i m)
 | 0=>rfl
 | n+1=>by
  rw[t5,t5,Ad m h n]
  show de n m h+sm n (fun i=>h i m)+(sm m (fun j=>h n j)+h n m)=de n m h+sm m (fun j=>h n j)+(sm n (fun i=>h i m)+h n m)
  omega
theorem Ae {h:Int->Int->Int}: ∀{n:Nat},(∀i j:Nat,i<n->j<n->h i j=h j i)->(∀i:Nat,i<n->h i i=0)->de n n h=2*uQ n h
 | 0,_,_=>rfl
 | n+1,sy,dg=>by
  rw[Ad,t5,Ae (n:=n) (fun i j hi hj=>sy i j (by omega) (by omega)) (fun i hi=>dg i (by omega))]
  show 2*uQ n h+sm n (fun j=>h n j)+(sm n (fun i=>h i n)+h n n)=2*(uQ n h+sm n (fun j=>h j n))
  rw[dg n (by omega),bg (h:=fun j=>h n j) (g:=fun j=>h j n) (fun j hj=>sy n j (by omega) (by omega))]
  omega
theorem mj {h g:Int->Int->Int}: ∀{n:Nat},(∀i j:Nat,i<j->j<n->h i j=g i j)->uQ n h=uQ n g
 | 0,_=>rfl
 | n+1,e=>by
  show uQ n h+_=uQ n g+_
  rw[mj (n:=n) fun i j h1 h2=>e i j h1 (by omega),bg (g:=fun j=>g j n) fun j hj=>e j n hj (by omega)]
section
variable {y:List Nat} {ws:List (List Nat)} {L:Nat->Bool} {r:Nat->Nat} {M:Nat} {N:Nat->Nat->Nat->Nat}
theorem Lies.inj (h:eO y ws L r M) (hN:Lies y ws L r M N) {c i d j e e':Nat} (hc:c<ws.length) (hd:d<ws.length) (hi:i<(ws.getD c []).length) (hj:j<(ws.getD d []).length) (he:e=rd (ws.getD c []) i\/e=aC (rd (ws.getD c []) i)) (zH:e'=rd (ws.getD d []) j\/e'=aC (rd (ws.getD d []) j))
  (dc:(c,i,e)≠(d,j,e')):N c i e≠N d j e':=by
 have ly: ∀{c i e:Nat},c<ws.length->(e=rd (ws.getD c []) i\/e=aC (rd (ws.getD c []) i))->e∈y:=fun hc he=>he.elim (fun z=>z▸(h.sw _ hc).rd _) fun z=>z▸h.yd.cl _ ((h.sw _ hc).rd _)
 have ye:=ly hc he
 have W7:=ly hd zH
 by_cases z:e=e'
 ·subst z
  have tX:(c,i)≠(d,j):=fun q=>dc (by rw[(Prod.mk.inj q).1,(Prod.mk.inj q).2])
  have le:=h.yd.lt _ ye
  have lc:=h.yd.lt _ ((h.sw c hc).rd i)
  have ld:=h.yd.lt _ ((h.sw d hd).rd j)
  by_cases l:aF e=true
  ·exact (hN.low c i d j e hc hd hi hj tX l (he.elim (fun z=> .inl z.symm) fun z=> .inr (by rw[z,aJ lc])) (zH.elim (fun z=> .inl z.symm) fun z=> .inr (by rw[z,aJ ld]))).1
  ·have:=(hN.low c i d j (aC e) hc hd hi hj tX (by rw[fR _ le.mem];simpa using l) (by rw[aJ le];exact he.elim (fun z=> .inr z.symm) fun z=> .inl (by rw[z,aJ lc])) (by rw[aJ le];exact zH.elim (fun z=> .inr z.symm) fun z=> .inl (by rw[z,aJ ld]))).2.1
   rwa [aJ le]at this
 ·have n:=dD ye W7 z
  rcases Qbd n with q | q
  ·exact Zu (hN.sep c i d j e e' hc hd hi hj he zH q)
  ·exact Qcx (hN.sep d j c i e' e hd hc hj hi zH he q)
theorem Af {n i j:Nat} {k:Int} (hi:i<n) (hj:j<n) (q:jb n ((i:Int) - k)=jb n ((j:Int) - k)):i=j:=by
 have lw:0<n:=ZO (YU _) hi
 have q2:((i:Int) - k)%n=((j:Int) - k)%n:=by rw[<-eI lw, <-eI lw,q]
 have q3:=(Int.emod_sub_cancel_right k).mp q2
 rw[ZH (Qdk _) (Int.ofNat_lt.mpr hi),ZH (Qdk _) (Int.ofNat_lt.mpr hj)]at q3
 exact Int.ofNat.inj q3
theorem eJ (h:eO y ws L r M) (hN:Lies y ws L r M N) {c d i j:Nat} (hc:c<ws.length) (hd:d<ws.length) (hi:i<(ws.getD c []).length) (hj:j<(ws.getD d []).length):
  pI ws N c ((i:Int) - 1)≠pO ws N d j/\((c,i)≠(d,j)->pI ws N c ((i:Int) - 1)≠pI ws N d ((j:Int) - 1)/\pO ws N c i≠pO ws N d j):=by
 have hw:=h.sw c hc
 have hv:=h.sw d hd
 have lw:=Ut.mpr hw.ne
 have lv:=Ut.mpr hv.ne
 have vo: ∀{c:Nat} (hw:SW y (ws.getD c [])) (k:Int),rd (ws.getD c []) k=rd (ws.getD c []) (jb (ws.getD c []).length k:Nat)\/rd (ws.getD c []) k=aC (rd (ws.getD c []) (jb (ws.getD c []).length k:Nat)):=fun hw k=> .inl (b8 hw.ne k).symm
 have vi: ∀{c:Nat} (hw:SW y (ws.getD c [])) (k:Int),aC (rd (ws.getD c []) k)=rd (ws.getD c []) (jb (ws.getD c []).length k:Nat)\/aC (rd (ws.getD c []) k)=aC (rd (ws.getD c []) (jb (ws.getD c []).length k:Nat)):=fun hw k=> .inr (by rw[b8 hw.ne k])
 refine ⟨hN.inj h hc hd (bM lw _) (bM lv _) (vi hw _) (vo hv _) fun q=>?_,fun dc=>⟨hN.inj h hc hd (bM lw _) (bM lv _) (vi hw _) (vi hv _) fun q=>?_,hN.inj h hc hd (bM lw _) (bM lv _) (vo hw _) (vo hv _) fun q=>?_⟩⟩
 ·obtain ⟨q1,q⟩:=Prod.mk.inj q
  obtain ⟨q2,q3⟩:=Prod.mk.inj q
  subst q1
  rw[<-b8 hw.ne ((i:Int) - 1), <-b8 hw.ne (j:Int),q2]at q3
  exact eT (h.yd.lt _ (hw.rd _)) q3
 ·obtain ⟨q1,q⟩:=Prod.mk.inj q
  subst q1
  exact dc (by rw[Af hi hj (Prod.mk.inj q).1])
 ·obtain ⟨q1,q⟩:=Prod.mk.inj q
  subst q1
  exact dc (by rw[Af (k:=0) hi hj (by rw[Qbq,Qbq];exact (Prod.mk.inj q).1)])
theorem Hj (h:eO y ws L r M) (hN:Lies y ws L r M N) {c d:Nat} (hc:c<ws.length) (hd:d<ws.length) {i j:Nat} (hi:i<(ws.getD c []).length) (hj:j<(ws.getD d []).length):iO (pO ws N c) (pI ws N c) (pO ws N d) (pI ws N d) i j=iO (pO ws N d) (pI ws N d) (pO ws N c) (pI ws N c) j i:=by
 by_cases z:(c,i)=(d,j)
 ·obtain ⟨rfl,rfl⟩:=Prod.mk.inj z
  rfl
 have n:=eJ h hN hc hd hi hj
 exact nX (eJ h hN hc hc hi hi).1 (eJ h hN hd hd hj hj).1 (n.2 z).1 n.1 (Ne.symm (eJ h hN hd hc hj hi).1) (n.2 z).2
theorem DW (h:eO y ws L r M) (hN:Lies y ws L r M N) {c:Nat} (hc:c<ws.length):
  2*uQ (ws.getD c []).length (fun i j=>one (iO (pO ws N c) (pI ws N c) (pO ws N c) (pI ws N c) i j=true))=de (ws.getD c []).length (ws.getD c []).length (fc y (ws.getD c []) (ws.getD c []))+2*(((ws.getD c []).length / r c:Nat) - 1):=by
 rw[<-yD h hN hc]
 exact (Ae (fun i j hi hj=>by rw[Hj h hN hc hc hi hj]) (fun i hi=>bp (by unfold iO;rw[v_];decide))).symm
end
theorem KQ {y:List Nat} {f g:Int->Nat} {a:Nat} (hy:Yd y) (hf:jQ y f) (hg:jQ y g) (h:f a=g a) (hn:f (a+1)≠g (a+1)):kZ y g f a=!kZ y f g a:=by
 have:gg y f (a+1)≠gg y g (a+1):=fun q=>hn (by
  unfold gg at q
  rw[show (a:Int)+1 - 1=a by omega, <-h]at q
  exact k_ (hy.cl _ (hf.bW _)) (hf.bW _) (hg.bW _) q)
 unfold kZ
 rw[<-decide_not]
 exact decide_eq_decide.mpr (by omega)
theorem DX {y:List Nat} {f g:Int->Nat} {b:Nat} (hy:Yd y) (hf:jQ y f) (hg:jQ y g) (h:f (-(b:Int))=g (-(b:Int))) (hn:f (-(b:Int) - 1)≠g (-(b:Int) - 1)):lL y g f b=!lL y f g b:=by
 have:gg y f (-(b:Int))≠gg y g (-(b:Int)):=fun q=>hn (by
  unfold gg at q
  rw[<-h]at q
  have r1:=hf.red (-(b:Int))
  have r2:=hg.red (-(b:Int))
  have c1:=(eZ (hy.cl _ (hf.bW (-(b:Int) - 1))) (hf.bW (-(b:Int))) (Ne.symm r1)).2.2
  have c2:=(eZ (hy.cl _ (hg.bW (-(b:Int) - 1))) (hf.bW (-(b:Int))) (by rw[h];exact Ne.symm r2)).2.2
  have:=k_ (hf.bW (-(b:Int))) (hy.cl _ (hf.bW (-(b:Int) - 1))) (hy.cl _ (hg.bW (-(b:Int) - 1))) (by rw[c1,c2,q])
  exact fk (hy.lt _ (hf.bW _)) (hy.lt _ (hg.bW _)) this)
 unfold lL
 rw[<-decide_not]
 exact decide_eq_decide.mpr (by omega)
theorem DY {Q:Int->Prop} {P:Nat->Bool}: ∀{m:Nat},(∀j:Nat,j<m->(Q j↔P j=true))->sm m (fun j=>one (Q j))=((List.range m).filter P).length
 | 0,_=>rfl
 | m+1,h=>by
  show sm m _+one (Q m)=_
  rw[DY (m:=m) fun j hj=>h j (by omega),Qah,Qbe,L5,bo (h m (by omega))]
  cases e:P m
  ·rw[ZK (by rw[e];decide),bp (by decide)];simp
  ·rw[ZV e,gD rfl];simp
section
variable {y w:List Nat}
end
section
variable {y w:List Nat}
end
section
variable {y:List Nat} {ws:List (List Nat)}
end
theorem mm (h:Nat->Int): ∀n:Nat,((List.range n).map h).sum=sm n (fun i=>h i.toNat)
 | 0=>rfl
 | n+1=>by
  rw[Qah,Zn,List.sum_append,mm h n]
  show _=sm n _+h (((n:Nat):Int).toNat)
  rw[YT]
  simp
theorem Ag (ws:List (List Nat)) (h:Nat×Nat->Int): ∀n:Nat,((vW ws n).map h).sum=sm n fun c=>sm (ws.getD c.toNat []).length fun i=>h (c.toNat,i.toNat)
 | 0=>rfl
 | n+1=>by
  unfold vW
  rw[Zn,List.sum_append,Ag ws h n,Z_]
  show _+((List.range _).map fun i=>h (n,i)).sum=_
  rw[mm]
  rfl
noncomputable def cl {α:Type} (p:α->α->Bool):List α->Nat
 | []=>0
 | x::r=>(r.filter (p x)).length+cl p r
theorem yE {α:Type} (p:α->α->Bool) (m:List α): ∀l:List α,(cl p (l++m):Int)=cl p l+cl p m+(l.map fun x=>((m.filter (p x)).length:Int)).sum
 | []=>by show (cl p m:Int)=((0:Nat):Int)+cl p m+0;omega
 | a::l=>by
  show ((((l++m).filter (p a)).length+cl p (l++m):Nat):Int)=(((l.filter (p a)).length+cl p l:Nat):Int)+cl p m+(((a::l).map fun x=>((m.filter (p x)).length:Int)).sum)
  rw[Qbe,L5,ZC,Qba,Z0,Z0,yE p m l,Z0]
  omega
theorem DZ (p:Nat×Nat->Nat×Nat->Bool) (c:Nat): ∀n:Nat,(cl p ((List.range n).map fun i=>(c,i)):Int)=uQ n (fun i j=>one (p (c,i.toNat) (c,j.toNat)=true))
 | 0=>rfl
 | n+1=>by
  rw[Qah,Zn,yE,DZ p c n,Z_]
  show _+((0:Nat):Int)+((List.range n).map fun i=>((([(c,n)]:List (Nat×Nat)).filter (p (c,i))).length:Int)).sum=uQ n _+sm n _
  rw[mm,Int.add_assoc]
  congr 1
  rw[show ((0:Nat):Int)=0 from rfl,Qaw]
  refine bg fun i _=>?_
  show (((([(c,n)]:List (Nat×Nat)).filter (p (c,i))).length:Int))=one (p (c,((i:Nat):Int).toNat) (c,((n:Nat):Int).toNat)=true)
  rw[YT,YT]
  cases e:p (c,i) (c,n)
  ·rw[ZK (by rw[e];decide),bp (by decide)];rfl
  ·rw[ZV e,gD rfl];rfl
theorem Hk (P:Nat×Nat->Bool) (c n:Nat):((((List.range n).map fun i=>(c,i)).filter P).length:Int)=sm n (fun j=>one (P (c,j.toNat)=true)):=by
 rw[List.filter_map,Us,DY (P:=fun j=>P (c,j)) fun j _=>by rw[YT]]
 rfl
theorem D0 (ws:List (List Nat)) (p:Nat×Nat->Nat×Nat->Bool): ∀n:Nat,(cl p (vW ws n):Int)=sm n (fun c=>uQ (ws.getD c.toNat []).length (fun i j=>one (p (c.toNat,i.toNat) (c.toNat,j.toNat)=true)))+uQ n (fun c d=>de (ws.getD c.toNat []).length (ws.getD d.toNat []).length fun i j=>one (p (c.toNat,i.toNat) (d.toNat,j.toNat)=true))
 | 0=>rfl
 | n+1=>by
  unfold vW
  rw[yE,D0 ws p n,DZ,Ag]
  have u:((n:Nat):Int).toNat=n:=YT n
  show _+_+sm n _=(sm n _+uQ (ws.getD ((n:Nat):Int).toNat []).length (fun i j=>one (p (((n:Nat):Int).toNat,i.toNat) (((n:Nat):Int).toNat,j.toNat)=true)))+(uQ n _+sm n (fun c=>de (ws.getD c.toNat []).length (ws.getD ((n:Nat):Int).toNat []).length fun i j=>one (p (c.toNat,i.toNat) (((n:Nat):Int).toNat,j.toNat)=true)))
  rw[u]
  have:sm n (fun c=>sm (ws.getD c.toNat []).length fun i=>(((((List.range (ws.getD n []).length).map fun i=>(n,i)).filter (p (c.toNat,i.toNat))).length:Nat):Int))=sm n (fun c=>de (ws.getD c.toNat []).length (ws.getD n []).length fun i j=>one (p (c.toNat,i.toNat) (n,j.toNat)=true)):=bg fun c _=>bg fun i _=>Hk _ _ _
  rw[this]
  omega
section
variable {y:List Nat} {ws:List (List Nat)} {L:Nat->Bool} {r:Nat->Nat} {M:Nat} {N:Nat->Nat->Nat->Nat}
noncomputable def Mb (ws:List (List Nat)) (N:Nat->Nat->Nat->Nat) (o p:Nat×Nat):Bool:=iO (pO ws N o.1) (pI ws N o.1) (pO ws N p.1) (pI ws N p.1) o.2 p.2
end
def Lx (f g:Int->Nat):Prop:= ∃m:Nat,f m<g m/\ ∀l:Nat,l<m->f l=g l
theorem t6 {w:List Nat} (hw:w≠[]) {i k:Nat} (hi:i<=w.length) (hk:k<w.length):(gs w i)[k]? =some (rd w ((i:Int)+k)):=by
 rw[nR hi hk]
 unfold Fw
 have:=eW hw ((i:Int)+k)
 rw[<-this]
 congr 1
 have e:(((k+i)%w.length:Nat):Int)=((i:Int)+k)%w.length:=by rw[Qcr,Z0,Int.add_comm]
 omega
theorem D1 {w u:List Nat} (hw:w≠[]) (hl:u.length=w.length) {i j:Nat} (hi:i<=w.length) (hj:j<=w.length):gs w i<gs u j↔Lx (sq w i) (sq u j):=by
 have hu:u≠[]:=fun z=>hw (by rw[z]at hl;exact Qar.mp hl.symm)
 have g1: ∀{k:Nat} (hk:k<(gs w i).length),(gs w i)[k]=sq w i k:=fun {k} hk=>by
  have:=t6 hw hi (k:=k) (by rw[cJ]at hk;exact hk)
  rw[J0 hk]at this
  exact YS this
 have g2: ∀{k:Nat} (hk:k<(gs u j).length),(gs u j)[k]=sq u j k:=fun {k} hk=>by
  have:=t6 hu (i:=j) (k:=k) (by omega) (by rw[cJ]at hk;exact hk)
  rw[J0 hk]at this
  exact YS this
 rw[List.lt_iff_exists]
 constructor
 ·rintro (⟨_,h⟩ | ⟨m,h1,h2,h3,h4⟩)
  ·rw[cJ,cJ,hl]at h;omega
  ·refine ⟨m,by rw[<-g1 h1, <-g2 h2];exact h4,fun l zq=>?_⟩
   rw[<-g1 (by omega), <-g2 (by omega)]
   exact h3 l zq
 ·rintro ⟨m,h1,h2⟩
  have hp:=Ut.mpr hw
  have hm:m<w.length:=by
   refine Classical.byContradiction fun z=>?_
   have d:=Qc2 m w.length
   have c1:=ik (f:=sq w i) (p:=w.length) (fun k=>b_ w i k) (m%w.length:Nat) (m / w.length)
   have c2:=ik (f:=sq u j) (p:=w.length) (fun k=>by rw[<-hl];exact b_ u j k) (m%w.length:Nat) (m / w.length)
   have e:((m%w.length:Nat):Int)+((m / w.length:Nat):Int)*(w.length:Nat)=m:=by
    rw[Int.mul_comm];exact_mod_cast d
   rw[e]at c1 c2
   rw[c1,c2,h2 (m%w.length) (by have:=Qby m hp;omega)]at h1
   omega
  refine .inr ⟨m,by rw[cJ];exact hm,by rw[cJ,hl];exact hm,fun l zq=>?_,?_⟩
  ·rw[g1,g2];exact h2 l zq
  ·rw[g1,g2];exact h1
theorem lj {w:List Nat} (hw:w≠[]): ∃i:Nat,i<w.length/\fM w=gs w i:=by
 have hp:=Ut.mpr hw
 rcases j_ (kW w (w.length - 1)) w with h | h
 ·exact ⟨0,hp,by unfold fM;rw[h,vS]⟩
 ·unfold kW at h
  obtain ⟨k,hk,e⟩:=ZJ.mp h
  have:=Qad.mp hk
  exact ⟨k+1,by omega,by unfold fM;exact e.symm⟩
theorem mZ {w:List Nat} {i:Nat} (hi:i<w.length): ¬gs w i<fM w:=by
 unfold fM
 refine ka _ _ _ ?_
 cases i with
 | zero=>rw[vS];exact Wi
 | succ i=>exact Uq _ (ZJ.mpr ⟨i,Qad.mpr (by omega),rfl⟩)
noncomputable def leads (w:List Nat):Bool:=decide (fM w<fM (gR w))
theorem jA {v:List Nat} (h:v≠[]) (k:Int):sq (gR v) k=bq v (-1 - k):=by
 funext x
 unfold sq bq
 rw[me h]
 congr 2;omega
theorem o4 {v:List Nat} (h:v≠[]):gR v≠[]:=fun z=>h (Qar.mp (by rw[<-cD v,z];rfl))
theorem rO {w:List Nat} (hw:w≠[]):leads w=true↔ ∃i:Int, ∀j:Int,Lx (sq w i) (bq w j):=by
 have hp:=Ut.mpr hw
 have hl:=cD w
 have ht:=o4 hw
 unfold leads
 rw[decide_eq_true_iff]
 constructor
 ·intro h
  obtain ⟨i,hi,ei⟩:=lj hw
  refine ⟨i,fun j=>?_⟩
  have hj:=bM (n:=(gR w).length) (by rw[hl];exact hp) (-1 - j)
  have h2:fM w<gs (gR w) (jb (gR w).length (-1 - j)):=List.not_le.mp fun z=>by
   have:=List.lt_of_le_of_lt z h
   exact mZ hj this
  rw[ei]at h2
  have h3:=(D1 hw hl (by omega) (by omega)).mp h2
  rw[cL ht,jA hw,show -1 - (-1 - j)=j by omega]at h3
  exact h3
 ·rintro ⟨i,h⟩
  obtain ⟨j,hj,ej⟩:=lj ht
  have h2:=h (-1 - j)
  rw[show (-1:Int) - (j:Int)= -1 - j by omega, <-jA hw, <-cL hw]at h2
  have hi:=bM hp i
  have h3:=(D1 hw hl (by omega) (by omega)).mpr h2
  rw[<-ej]at h3
  exact List.lt_of_le_of_lt (List.not_lt.mp (mZ hi)) h3
theorem rP {w v:List Nat} (hw:w≠[]) (hv:v≠[]) {i j:Int} (h:cH w v i j):leads w=leads v:=by
 have e1: ∀k,sq w k=sq v (k - i+j):=fun k=>by
  funext x
  have:=h (k - i+x)
  unfold sq at this ⊢
  rw[show k+x=i+(k - i+x) by omega,this]
  congr 1;omega
 have e2: ∀k,bq w k=bq v (k - i+j):=fun k=>by rw[<-gi, <-gi,e1]
 rw[Qbx,rO hw,rO hv]
 constructor
 ·rintro ⟨a,h⟩
  refine ⟨a - i+j,fun b=>?_⟩
  have:=h (b - j+i)
  rwa [e1,e2,show b - j+i - i+j=b by omega]at this
 ·rintro ⟨a,h⟩
  refine ⟨a - j+i,fun b=>?_⟩
  rw[e1,e2,show a - j+i - i+j=a by omega]
  exact h _
theorem rQ {y w:List Nat} (hy:Yd y) (hw:SW y w):leads (gR w)=!leads w:=by
 have hl:AllLt w:=fun c hc=>hy.lt c (hw.bW c hc)
 have ne:fM w≠fM (gR w):=fun z=>by
  obtain ⟨i,hi,ei⟩:=lj hw.ne
  obtain ⟨j,hj,ej⟩:=lj (o4 hw.ne)
  rw[cD]at hj
  have: ∀k:Nat,k<w.length->sq w i k=sq (gR w) j k:=fun k hk=>by
   have h1:=t6 hw.ne (i:=i) (k:=k) (by omega) hk
   have h2:=t6 (o4 hw.ne) (i:=j) (k:=k) (by rw[cD];omega) (by rw[cD];exact hk)
   rw[<-ei,z,ej,h2]at h1
   exact (YS h1).symm
  refine tR hy hw i (-1 - j) ?_
  rw[<-jA hw.ne]
  have hp:=Ut.mpr hw.ne
  refine fw (p:=w.length) (q:=w.length) hp hp (fun k=>b_ w i k) (fun k=>by rw[<-cD w];exact b_ (gR w) j k) fun n hn=>?_
  by_cases q:n<w.length
  ·exact this n q
  ·have c1:=b_ w i ((n - w.length:Nat):Int)
   have c2:=b_ (gR w) j ((n - w.length:Nat):Int)
   rw[show ((n - w.length:Nat):Int)+w.length=n by omega]at c1
   rw[cD,show ((n - w.length:Nat):Int)+w.length=n by omega]at c2
   rw[c1,c2]
   exact this _ (by omega)
 unfold leads
 rw[G2 hl, <-decide_not]
 refine decide_eq_decide.mpr ⟨fun h z=>?_,fun h=>?_⟩
 ·exact Qb3 _ (List.lt_trans h z)
 ·exact List.not_le.mp fun z=>ne (List.le_antisymm z (List.not_lt.mp h))
theorem BM {y w v:List Nat} (hy:Yd y) (hw:SW y w) (hv:SW y v) {i j:Int} (h: ∀k,sq w i k=bq v j k):leads v=!leads w:=by
 have:cH w (gR v) i (-1 - j):=fun k=>by rw[jA hv.ne,show -1 - (-1 - j)=j by omega];exact h k
 rw[rP hw.ne (o4 hv.ne) this,rQ hy hv,Bool.not_not]
theorem D5 {w:List Nat} (hw:w≠[]) {d:Nat}:xg w d↔ ∀k:Int,rd w (k+d)=rd w k:=by
 have hp:=Ut.mpr hw
 have fr: ∀i:Nat,Fw w i=some (rd w i):=fun i=>by
  unfold Fw
  rw[<-eW hw (i:Int)]
  congr 1
 constructor
 ·intro h k
  have:=h (jb w.length k)
  rw[fr,fr]at this
  have:=YS this
  rw[b8 hw]at this
  rw[<-this, <-ig w (k+d), <-ig w (((jb w.length k+d:Nat)):Int),Z0,eI hp,Qdt]
 ·intro h i
  rw[fr,fr,Z0,h]
theorem jc {w:List Nat} (hw:w≠[]) {s:Nat} (h:bZ w s):0<s/\ ∀i j:Int,cH w w i j↔(i - j)%(s:Int)=0:=by
 rcases h with ⟨z,_⟩ | h'
 ·exact absurd z hw
 have h:bZ w s:= .inr h'
 obtain ⟨h1,h2,h3,_⟩:=h'
 have ps: ∀k:Int,rd w (k+s)=rd w k:=(D5 hw).mp ((gC hw h2).mp (tG h1 h2 h3))
 have pm: ∀(k t:Int),rd w (k+t*s)=rd w k:=fun k t=>by
  rcases Int.le_total 0 t with q | q
  ·obtain ⟨n,rfl⟩: ∃n:Nat,t=n:=⟨t.toNat,by omega⟩
   exact ik ps k n
  ·obtain ⟨n,rfl⟩: ∃n:Nat,t= -(n:Int):=⟨(-t).toNat,by omega⟩
   have:=ik ps (k+ -(n:Int)*s) n
   rw[<-this]
   congr 1
   rw[Int.neg_mul];omega
 refine ⟨h1,fun i j=>⟨fun p=>?_,fun p k=>?_⟩⟩
 ·have pd: ∀k:Int,rd w (k+(i - j))=rd w k:=fun k=>by
   have:=p (k - j)
   unfold sq at this
   rw[show i+(k - j)=k+(i - j) by omega,show j+(k - j)=k by omega]at this
   exact this
  have e:=Qc6 (i - j) s
  have hn:=Qai (i - j) (b:=(s:Int)) (by omega)
  have cC:=kb (i - j) (b:=(s:Int)) (by omega)
  refine Classical.byContradiction fun z=>?_
  obtain ⟨d,hd⟩: ∃d:Nat,(i - j)%(s:Int)=d:=⟨((i - j)%(s:Int)).toNat,by omega⟩
  refine bZ.least h (j:=d) (by omega) (by omega) ((D5 hw).mpr fun k=>?_)
  have q:=pd k
  rw[<-e,hd,Int.mul_comm, <-Int.add_assoc,pm]at q
  exact q
 ·unfold sq
  have e:=Qc6 (i - j) s
  rw[p,Qaw,Int.mul_comm]at e
  rw[show i+k=j+k+(i - j) by omega, <-e,pm]
theorem D6 {y:List Nat} {ws:List (List Nat)} {r:Nat->Nat} {M:Nat} (hy:Yd y) (hw: ∀c,c<ws.length->SW y (ws.getD c [])) (hr: ∀c,c<ws.length->bZ (ws.getD c []) (r c)) (hM: ∀c d,c<ws.length->d<ws.length->(ws.getD c []).length+(ws.getD d []).length<=M):eO y ws (fun c=>leads (ws.getD c [])) r M:=
 ⟨hy,hw,hM,fun c d i j hc hd h=>rP (hw c hc).ne (hw d hd).ne h,fun c d i j hc hd h=>BM hy (hw c hc) (hw d hd) h,fun c hc=>(jc (hw c hc).ne (hr c hc)).1,fun c hc=>(jc (hw c hc).ne (hr c hc)).2⟩
noncomputable def bs (y w v:List Nat) (i j:Int):Int:=one (ac y (aC (rd w (i - 1))) (rd w i) (aC (rd v (j - 1))) (rd v j)=true)+one (nq y (sq w i) (sq v j))+one (nq y (sq w i) (bq v j))
noncomputable def SS (y w v:List Nat):Int:=de w.length v.length (bs y w v)
theorem IT {y w v:List Nat} (hy:Yd y) (hw:SW y w) (hv:SW y v):de w.length v.length (fc y w v)=SS y w v:=cG fun i j _ _=>by
 unfold fc bs
 rw[bo (rN (n:=w.length+v.length) hy (bV hw i) (bV hv j) fun z=>dW hw.ne hv.ne (fun k=>b_ w i k) (fun k=>b_ v j k) z),bo (rN (n:=w.length+v.length) hy (bV hw i) (mh hy hv j) fun z=>dW hw.ne hv.ne (fun k=>b_ w i k) (fun k=>kc v j k) z)]
structure W8 (y z:List Nat) (σ:Nat->Nat) (neg:Bool):Prop where
 yd:Yd y
 zd:Yd z
 UZ: ∀a∈y,σ a∈z
 inj: ∀a∈y, ∀b∈y,σ a=σ b->a=b
 YW: ∀a∈y,σ (aC a)=aC (σ a)
 gr: ∀a∈y, ∀b∈y, ∀c∈y,a≠b->a≠c->b≠c->gr z (σ a) (σ b) (σ c)=(neg ^^ gr y a b c)
section
variable {y z w v:List Nat} {σ:Nat->Nat} {neg:Bool}
end
theorem KR {a b:List Nat} {x y z:Nat} (hn:(a++b).Nodup) (hx:x∈a++b) (hy:y∈a++b) (hz:z∈a++b) (xy:x≠y) (xz:x≠z) (yz:y≠z):gr (b++a) x y z=gr (a++b) x y z:=by
 have pm: ∀{e:Nat},e∈a++b->e∈b++a:=fun {e} he=>Qa4.mem_iff.mp he
 rw[i6 hn hx hy hz xy xz yz,i6 (Qa4.nodup_iff.mp hn) (pm hx) (pm hy) (pm hz) xy xz yz]
 refine decide_eq_decide.mpr ?_
 rw[nU hn hx,nU hn hy,nU hn hz]
 have ix:=Wh hx
 have iy:=Wh hy
 have iz:=Wh hz
 rw[L5]at ix iy iz
 unfold jy
 split<;>split<;>split<;>omega
noncomputable def fS (y:List Nat):List Nat:=(y.filter aF).mergeSort fun a b=>decide (a<=b)
theorem jB (y:List Nat):(fS y).Perm (y.filter aF):=List.mergeSort_perm _ _
theorem wg (y:List Nat):(fS y).Pairwise (· <= ·):=
 (List.pairwise_mergeSort (le:=fun a b=>decide (a<=b)) (fun a b c h1 h2=>decide_eq_true (ZI (of_decide_eq_true h1) (of_decide_eq_true h2))) (fun a b=>by
  rcases Nat.le_total a b with z | z
  ·rw[decide_eq_true z];rfl
  ·rw[decide_eq_true z,Bool.or_true]) (y.filter aF)).imp fun z=>of_decide_eq_true z
theorem Ah {y l:List Nat} (h:l.Perm (y.filter aF)) (p:l.Pairwise (· <= ·)):l=fS y:=BD (h.trans (jB y).symm) p (wg y)
theorem D7 {y:List Nat} (h:Yd y) {e:Nat} (he:e∈y):PyProof.Rows.lo1 e∈fS y:=by
 refine (jB y).mem_iff.mpr (ZZ.mpr ?_)
 rcases h.lt e he with z | z
 ·rw[(br e z).2.1];exact ⟨he,(br e z).1⟩
 ·rw[(b5 e z).2.1];exact ⟨h.cl e he,(br _ (b5 e z).2.2.2).1⟩
theorem jd {y:List Nat} (h:Yd y):2*(fS y).length=y.length:=by rw[(jB y).length_eq];exact DE h
structure Pr where
 t:Addr
 c:Nat
 i:Nat
noncomputable def rR (ps:List Pr):List V:=ps.map fun p=>V.ref p.t
theorem t9 (ps:List Pr):(rR ps).length=ps.length:=by unfold rR;rw[Us]
theorem D8 (a:List Pr) (p:Pr):rR a++[V.ref p.t]=rR (a++[p]):=by unfold rR;rw[Zn];rfl
theorem Hl (a:List Pr):(rR a).reverse=rR a.reverse:=by unfold rR;rw[Qbp]
theorem D9 {ps:List Pr} {i:Nat} {x:V} (h:(rR ps)[i]? =some x): ∃p,ps[i]? =some p/\x=V.ref p.t:=by
 unfold rR at h
 rw[Zv]at h
 cases e:ps[i]? with
 | none=>rw[e]at h;cases h
 | some p=>rw[e]at h;cases h;exact ⟨p,rfl,rfl⟩
structure ny (H:Hp) (p:Pr):Prop where
 tp:H p.t=some (.tup [.int p.c, .int p.i])
 cz:p.c<1000
 iz:p.i<1000
theorem ny.same {H H':Hp} {p:Pr} (h:ny H p) (s:ar H H'):ny H' p:=⟨s _ _ h.tp,h.cz,h.iz⟩
structure Od where
 o:Addr
 ps:List Pr
structure BN (H:Hp) (o:Od):Prop where
 tp:H o.o=some (.tup (rR o.ps))
 pr: ∀p∈o.ps,ny H p
 fw:o.ps.length<=100
theorem BN.same {H H':Hp} {o:Od} (h:BN H o) (s:ar H H'):BN H' o:=⟨s _ _ h.tp,fun p hp=>(h.pr p hp).same s,h.fw⟩
noncomputable def Hm (os:List Od):List V:=os.map fun o=>V.ref o.o
theorem D_ (a:List Od) (p:Od):Hm a++[V.ref p.o]=Hm (a++[p]):=by unfold Hm;rw[Zn];rfl
theorem KS {os:List Od} {i:Nat} {o:Od} (h:os[i]? =some o):(Hm os)[i]? =some (V.ref o.o):=by unfold Hm;rw[Zv,h];rfl
structure yF (H:Hp) (dr:Addr) (ws:List (List Nat)) (os:List Od):Prop where
 ex: ∃wt ot,H dr=some (.tup [.ref wt, .ref ot])/\H wt=some (.tup (tE ws))/\H ot=some (.tup (Hm os))
 od: ∀o∈os,BN H o
theorem yF.same {H H':Hp} {dr:Addr} {ws:List (List Nat)} {os:List Od} (h:yF H dr ws os) (s:ar H H'):yF H' dr ws os:=by
 obtain ⟨⟨wt,ot,h1,h2,h3⟩,g⟩:=h
 exact ⟨⟨wt,ot,s _ _ h1,s _ _ h2,s _ _ h3⟩,fun o ho=>(g o ho).same s⟩
noncomputable def yG (y:List Nat) (os:List Od) (e:Nat):List Pr:=((os[(fS y).idxOf (PyProof.Rows.lo1 e)]?).map Od.ps).getD []
noncomputable def nZ (y:List Nat) (os:List Od) (e:Nat):List Pr:=if isUp e=true then (yG y os e).reverse else yG y os e
theorem je {y:List Nat} {os:List Od} {e:Nat} (h:Yd y) (he:e∈y) (ho:2*os.length=y.length): ∃o∈os,os[(fS y).idxOf (PyProof.Rows.lo1 e)]? =some o/\yG y os e=o.ps:=by
 have hi:=Wh (D7 h he)
 have hl:=jd h
 have PC:(fS y).idxOf (PyProof.Rows.lo1 e)<os.length:=by omega
 exact ⟨os[(fS y).idxOf (PyProof.Rows.lo1 e)],ZR PC,J0 PC,by unfold yG;rw[J0 PC];rfl⟩
structure Pt where
 t:Addr
 c:Nat
 i:Nat
 e:Nat
noncomputable def FE (ps:List Pt):List V:=ps.map fun p=>V.ref p.t
theorem Ai (ps:List Pt):(FE ps).length=ps.length:=by unfold FE;rw[Us]
theorem Ea (a:List Pt) (p:Pt):FE a++[V.ref p.t]=FE (a++[p]):=by unfold FE;rw[Zn];rfl
noncomputable def Pt.is (p:Pt):Nat×Nat×Nat:=(p.c,p.i,p.e)
structure qz (H:Hp) (p:Pt):Prop where
 tp:H p.t=some (.tup [.int p.c, .int p.i, .str (S [p.e])])
 cz:p.c<1000
 iz:p.i<1000
 ez:p.e<128
theorem qz.same {H H':Hp} {p:Pt} (h:qz H p) (s:ar H H'):qz H' p:=⟨s _ _ h.tp,h.cz,h.iz,h.ez⟩
theorem qz.upd {H:Hp} {p:Pt} {q:Addr} {o:HO} (h:qz H p) (n:p.t≠q):qz (L2.upd H q o) p:=⟨by rw[aD n];exact h.tp,h.cz,h.iz,h.ez⟩
noncomputable def fN (y:List Nat) (os:List Od) (e:Nat):List (Nat×Nat×Nat):=(nZ y os e).map fun p=>(p.c,p.i,e)
noncomputable def n0 (y:List Nat) (os:List Od):List (Nat×Nat×Nat):=y.flatMap (fN y os)
noncomputable def Pr.pair (p:Pr):Nat×Nat:=(p.c,p.i)
noncomputable def yH (band l:Nat):Bool:=decide (l=band)||decide (l=aC band)
noncomputable def iG (band c:Nat) (w:List Nat) (n:Nat):List (Nat×Nat):=((List.range n).filter fun i=>yH band (w.getD i 0)).map fun i=>(c,i)
noncomputable def dk (band:Nat) (ws:List (List Nat)) (n:Nat):List (Nat×Nat):=(List.range n).flatMap fun c=>iG band c (ws.getD c []) (ws.getD c []).length
theorem yI {band c i l:Nat} {w:List Nat} (h:w[i]? =some l):iG band c w (i+1)=iG band c w i++if yH band l=true then [(c,i)] else []:=by
 have e:w.getD i 0=l:=by rw[Zp,h];rfl
 unfold iG
 rw[Qah,Qbe,Zn]
 congr 1
 by_cases z:yH band l=true
 ·rw[if_pos z,ZV (by rw[e];exact z)];rfl
 ·rw[if_neg z,ZK (by rw[e];exact z)];rfl
theorem wj {band i:Nat} {ws:List (List Nat)} {w:List Nat} (h:ws[i]? =some w):dk band ws (i+1)=dk band ws i++iG band i w w.length:=by
 have e:ws.getD i []=w:=by rw[Zp,h];rfl
 unfold dk
 rw[Qah,Z6]
 congr 1
 rw[ZU,Qdw,Z7,e]
structure PD (y:List Nat) (ws:List (List Nat)):Prop where
 uN:ws.length<=4
 all: ∀w∈ws,(∀c∈w,c∈y)/\w.length<=12
def wm (y:List Nat) (ws:List (List Nat)) (os:List Od):Prop:=os.length=(fS y).length/\ ∀(j:Nat) (o:Od) (b:Nat),os[j]? =some o->(fS y)[j]? =some b->(o.ps.map Pr.pair).Perm (dk b ws ws.length)
def jR (_:PySem.W.Frag):Sp:=fun vs H Q _=> ∃(y:List Nat) (dr:Addr) (ws:List (List Nat)) (os:List Od) (e:Nat),vs=[.str (S y), .ref dr, .str (S [e])]/\Yd y/\y.length<=8/\e∈y/\2*os.length=y.length/\yF H dr ws os/\ ∀(q:Addr) (H':Hp),H q=none->H' q=some (.lst (rR (nZ y os e)))->ar H H'->Q (.ref q) H'
theorem o5 {K:PySem.W.Frag} {vs:List V} {H:Hp} {Q:VK} {E:XK} (h:jR K vs H Q E):vs.length=3:=by obtain ⟨c,_,_,_,_,rfl,_⟩:=h;rfl
def rS (_:PySem.W.Frag):Sp:=fun vs H Q _=> ∃(y:List Nat) (dr:Addr) (ws:List (List Nat)) (os:List Od),vs=[.str (S y), .ref dr]/\Yd y/\y.length<=8/\2*os.length=y.length/\yF H dr ws os/\ ∀(q:Addr) (ps:List Pt) (H':Hp),H q=none->H' q=some (.lst (FE ps))->(∀p∈ps,qz H' p/\p.t≠q)->ps.map Pt.is=n0 y os->ps.length<=800->ar H H'->Q (.ref q) H'
theorem yJ {K:PySem.W.Frag} {vs:List V} {H:Hp} {Q:VK} {E:XK} (h:rS K vs H Q E):vs.length=2:=by obtain ⟨c,_,_,_,rfl,_⟩:=h;rfl
theorem Hn {y:List Nat} {os:List Od} {e:Nat} {p:Pr} (h:Yd y) (he:e∈y) (ho:2*os.length=y.length) (hp:p∈nZ y os e): ∃o∈os,p∈o.ps:=by
 obtain ⟨o,h1,h2,h3⟩:=je h he ho
 refine ⟨o,h1,?_⟩
 unfold nZ at hp
 rw[h3]at hp
 split at hp
 ·exact Qcp.mp hp
 ·exact hp
theorem Ho {H:Hp} {y:List Nat} {os:List Od} {e:Nat} (h:Yd y) (he:e∈y) (ho:2*os.length=y.length) (hd: ∀o∈os,BN H o):(nZ y os e).length<=100:=by
 obtain ⟨o,h1,h2,h3⟩:=je h he ho
 have:=(hd o h1).fw
 unfold nZ
 rw[h3]
 split
 ·rw[ZF];exact this
 ·exact this
theorem ny.ts {H H':Hp} {p:Pr} (h:ny H p) (s:fL H H'):ny H' p:=⟨s _ _ h.tp,h.cz,h.iz⟩
theorem Eb {band l:Nat} (hb:band∈aR) (hl:Lt l):decide (PyProof.Rows.lo1 l=band)=yH band l:=by
 unfold yH
 rcases hl with h | h
 ·have e:=(br l h).2.1
  have n:l≠aC band:=fun z=>rH _ (br band hb).2.2 (z▸h)
  rw[e,decide_eq_false n,Qb7]
 ·have e:=(b5 l h).2.1
  have n:l≠band:=fun z=>rH l h (z▸hb)
  rw[e,decide_eq_false n,Qdh]
  refine decide_eq_decide.mpr ⟨fun z=>by rw[<-z,aJ (.inr h)],fun z=>by rw[z,aJ (.inl hb)]⟩
theorem W9 {α:Type} {l:List α} (h:l.Nodup) {i j:Nat} (hi:i<l.length) (hj:j<l.length) (e:l[i]=l[j]):i=j:=by
 have hp:=Qbr.mp h
 rcases Nat.lt_trichotomy i j with z | z | z
 ·exact absurd e (hp i j hi hj z)
 ·exact z
 ·exact absurd e.symm (hp j i hj hi z)
theorem rT {l:List (Nat×Nat×Nat)} (h:l.Nodup) {n:Nat} {p:Nat×Nat×Nat} (e:l[n]? =some p):l.idxOf p=n:=by
 obtain ⟨hn,e2⟩:=J1.mp e
 have hm:p∈l:=Zs e
 have hi:=Wh hm
 exact W9 h hi hn ((Qao hi).trans e2.symm)
theorem o6 {α:Type} {f:Nat->List α} (g:α->Nat): ∀{l:List Nat},l.Nodup->(∀e∈l,(f e).Nodup)->(∀e∈l, ∀p∈f e,g p=e)->(l.flatMap f).Nodup
 | [],_,_,_=>Qcg
 | a::l,hn,h1,h2=>by
  obtain ⟨n1,n2⟩:=ZN.mp hn
  rw[ZU,Qaa]
  refine ⟨h1 a Wi,o6 g n2 (fun e he=>h1 e (Uq _ he)) (fun e he=>h2 e (Uq _ he)),fun x hx y hy z=>?_⟩
  subst z
  obtain ⟨e,he,W_⟩:=ZX.mp hy
  have g1:=h2 a Wi x hx
  have g2:=h2 e (Uq _ he) x W_
  exact n1 (by rw[<-g1,g2];exact he)
theorem Ec (band c:Nat) (w:List Nat) (n:Nat):(iG band c w n).Nodup:=by
 unfold iG
 show (List.map _ _).Pairwise (· ≠ ·)
 rw[Qak]
 exact (List.nodup_range.filter _).imp fun {i j} h z=>h (by cases z;rfl)
theorem rV (band:Nat) (ws:List (List Nat)) (n:Nat):(dk band ws n).Nodup:=
 o6 Prod.fst List.nodup_range (fun c _=>Ec _ _ _ _) fun c _ p hp=>by
  unfold iG at hp
  obtain ⟨i,_,rfl⟩:=ZJ.mp hp
  rfl
theorem yK {band c i n:Nat} {ws:List (List Nat)} (hc:c<n) (hi:i<(ws.getD c []).length) (hb:yH band ((ws.getD c []).getD i 0)=true):(c,i)∈dk band ws n:=
 ZX.mpr ⟨c,Qad.mpr hc,ZJ.mpr ⟨i,ZZ.mpr ⟨Qad.mpr hi,hb⟩,rfl⟩⟩
theorem wm.at {y:List Nat} {ws:List (List Nat)} {os:List Od} {e:Nat} (h:Yd y) (ho:wm y ws os) (he:e∈y):(((nZ y os e).map Pr.pair)).Perm (dk (PyProof.Rows.lo1 e) ws ws.length):=by
 have hl:=jd h
 have Bj:=ho.1
 obtain ⟨o,o1,o2,o3⟩:=je (os:=os) h he (by omega)
 have hm:=D7 h he
 have hb:(fS y)[(fS y).idxOf (PyProof.Rows.lo1 e)]? =some (PyProof.Rows.lo1 e):=by
  have hi:=Wh hm
  rw[J0 hi,Qao hi]
 have p:=ho.2 _ o _ o2 hb
 unfold nZ
 rw[o3]
 split
 ·rw[Qbp]
  exact (Qdo _).trans p
 ·exact p
theorem Ed {y:List Nat} {ws:List (List Nat)} {os:List Od} (h:Yd y) (ho:wm y ws os):(n0 y os).Nodup:=by
 refine o6 (fun p=>p.2.2) h.nd (fun e he=>?_) fun e _ p hp=>?_
 ·have hn:=(ho.at h he).nodup_iff.mpr (rV _ _ _)
  have e1:fN y os e=((nZ y os e).map Pr.pair).map fun x=>(x.1,x.2,e):=by unfold fN;rw[Z_];rfl
  rw[e1]
  show (List.map _ _).Pairwise (· ≠ ·)
  rw[Qak]
  exact hn.imp fun {a b} g z=>g (by cases a;cases b;cases z;rfl)
 ·unfold fN at hp
  obtain ⟨x,_,rfl⟩:=ZJ.mp hp
  rfl
theorem Ee {y:List Nat} {ws:List (List Nat)} {os:List Od} {c i l e:Nat} {w:List Nat} (h:Yd y) (ho:wm y ws os) (hw:ws[c]? =some w) (hl:w[i]? =some l) (Hq:l∈y) (he:e=l\/e=aC l):(c,i,e)∈n0 y os:=by
 have cC:=h.lt l Hq
 have FF:e∈y:=by rcases he with rfl | rfl;exact Hq;exact h.cl l Hq
 have e1:PyProof.Rows.lo1 e=PyProof.Rows.lo1 l:=by
  rcases he with rfl | rfl
  ·rfl
  ·rcases cC with g | g
   ·rw[(b5 _ (br l g).2.2).2.1,(br l g).2.1,aJ (.inl g)]
   ·rw[(br _ (b5 l g).2.2.2).2.1,(b5 l g).2.1]
 have hb:PyProof.Rows.lo1 l∈aR:=by
  rcases cC with g | g
  ·rw[(br l g).2.1];exact g
  ·rw[(b5 l g).2.1];exact (b5 l g).2.2.2
 have Xa:yH (PyProof.Rows.lo1 l) l=true:=by rw[<-Eb hb cC];exact decide_eq_true rfl
 have d1:ws.getD c []=w:=by rw[Zp,hw];rfl
 have d2:w.getD i 0=l:=by rw[Zp,hl];rfl
 have hm:(c,i)∈(nZ y os e).map Pr.pair:=by
  rw[(ho.at h FF).mem_iff,e1]
  exact yK (J1.mp hw).1 (by rw[d1];exact (J1.mp hl).1) (by rw[d1,d2];exact Xa)
 obtain ⟨p,hp,ep⟩:=ZJ.mp hm
 refine ZX.mpr ⟨e,FF,ZJ.mpr ⟨p,hp,?_⟩⟩
 have e2:p.c=c:=congrArg Prod.fst ep
 have e3:p.i=i:=congrArg Prod.snd ep
 rw[e2,e3]
noncomputable def t_ (p:Nat×Nat×Nat):List Key:=[Sum.inl (p.1:Int),Sum.inl (p.2.1:Int),Sum.inr (S [p.2.2])]
theorem Ef {p q:Nat×Nat×Nat} (h:t_ p=t_ q):p=q:=by
 unfold t_ at h
 injection h with h1 h2
 injection h2 with h2 h3
 injection h3 with h3 _
 have a1:(p.1:Int)=q.1:=Sum.inl.inj h1
 have a2:(p.2.1:Int)=q.2.1:=Sum.inl.inj h2
 have a3:[p.2.2]=[q.2.2]:=by
  have:=Sum.inr.inj h3
  rw[<-eR [p.2.2],this,eR]
 have a4:p.2.2=q.2.2:=by simpa using a3
 exact Prod.ext (by omega) (Prod.ext (by omega) a4)
def Nums (ps:List (Nat×Nat×Nat)) (aT:List (List Key×V)) (n:Nat):Prop:= ∀p∈ps.take n,dG aT (t_ p)=some (.int (ps.idxOf p:Nat))
theorem Nums.put {ps:List (Nat×Nat×Nat)} {aT:List (List Key×V)} {n:Nat} {p:Nat×Nat×Nat} (h:Nums ps aT n) (hn:ps.Nodup) (e:ps[n]? =some p):Nums ps (putK aT (t_ p) (.int (n:Nat))) (n+1):=fun r hr=>by
 rw[C6]
 by_cases z:r=p
 ·rw[if_pos (by rw[z]),z,rT hn e]
 ·rw[if_neg fun g=>z (Ef g)]
  rw[<-take_snoc e]at hr
  exact h r ((Zx.mp hr).resolve_right fun g=>z (Wg.mp g))
noncomputable def xh (n i:Nat):Nat:=if i=0 then n - 1 else i - 1
theorem yL {n i:Nat} (h:i<n):xh n i<n:=by unfold xh;split<;>omega
theorem Aj {n i:Nat} (h:i<n):((i:Int) - 1)%(n:Int)=((xh n i:Nat):Int):=by
 unfold xh
 split
 ·rename_i z
  subst z
  have:((0:Nat):Int) - 1+(n:Int)=((n - 1:Nat):Int):=by omega
  rw[<-Qbf,this]
  exact ZH (by omega) (by omega)
 ·have:(i:Int) - 1=((i - 1:Nat):Int):=by omega
  rw[this]
  exact ZH (by omega) (by omega)
noncomputable abbrev C4:=Nat×Nat×Nat×Nat
noncomputable def jS (ps:List (Nat×Nat×Nat)) (c:Nat) (w:List Nat) (i:Nat):C4:=(c,i,ps.idxOf (c,xh w.length i,aC (w.getD (xh w.length i) 0)),ps.idxOf (c,i,w.getD i 0))
noncomputable def mq (ps:List (Nat×Nat×Nat)) (c:Nat) (w:List Nat) (n:Nat):List C4:=(List.range n).map (jS ps c w)
noncomputable def gF (ps:List (Nat×Nat×Nat)) (ws:List (List Nat)) (n:Nat):List C4:=(List.range n).flatMap fun c=>mq ps c (ws.getD c []) (ws.getD c []).length
theorem wo (ps:List (Nat×Nat×Nat)) (c:Nat) (w:List Nat) (n:Nat):mq ps c w (n+1)=mq ps c w n++[jS ps c w n]:=by unfold mq;rw[Qah,Zn];rfl
theorem ua {ps:List (Nat×Nat×Nat)} {ws:List (List Nat)} {i:Nat} {w:List Nat} (h:ws[i]? =some w):gF ps ws (i+1)=gF ps ws i++mq ps i w w.length:=by
 have e:ws.getD i []=w:=by rw[Zp,h];rfl
 unfold gF
 rw[Qah,Z6]
 congr 1
 rw[ZU,Qdw,Z7,e]
structure Q4 where
 t:Addr
 v:C4
noncomputable def BO (qs:List Q4):List V:=qs.map fun q=>V.ref q.t
theorem Ak (qs:List Q4):(BO qs).length=qs.length:=by unfold BO;rw[Us]
theorem Eg (a:List Q4) (q:Q4):BO a++[V.ref q.t]=BO (a++[q]):=by unfold BO;rw[Zn];rfl
theorem KU {qs:List Q4} {i:Nat} {x:V} (h:(BO qs)[i]? =some x): ∃q,qs[i]? =some q/\x=V.ref q.t:=by
 unfold BO at h
 rw[Zv]at h
 cases e:qs[i]? with
 | none=>rw[e]at h;cases h
 | some p=>rw[e]at h;cases h;exact ⟨p,rfl,rfl⟩
def qA (H:Hp) (q:Q4):Prop:=H q.t=some (.tup [.int q.v.1, .int q.v.2.1, .int q.v.2.2.1, .int q.v.2.2.2])
theorem qA.ts {H H':Hp} {q:Q4} (h:qA H q) (s:fL H H'):qA H' q:=s _ _ h
noncomputable def rW (y:List Nat) (ws:List (List Nat)) (os:List Od):List C4:=gF (n0 y os) ws ws.length
theorem PH {y:List Nat} {os:List Od} {p:Pt} {ps:List Pt} (h:ps.map Pt.is=n0 y os) {i:Nat} (hi:ps[i]? =some p):(n0 y os)[i]? =some p.is:=by rw[<-h,Zv,hi];rfl
def g6 (_:PySem.W.Frag):Sp:=fun vs H Q _=> ∃(w:List Nat) (c i:Nat),vs=[.str (S w), .int c, .int i]/\(∀l∈w,l<128)/\i<w.length/\w.length<=1000/\ ∀(t t1 t2:Addr) (H':Hp),H' t=some (.tup [.ref t1, .ref t2])->H' t1=some (.tup ((t_ (c,xh w.length i,aC (w.getD (xh w.length i) 0))).map kV))->H' t2=some (.tup ((t_ (c,i,w.getD i 0)).map kV))->ar H H'->Q (.ref t) H'
theorem lq {K:PySem.W.Frag} {vs:List V} {H:Hp} {Q:VK} {E:XK} (h:g6 K vs H Q E):vs.length=3:=by obtain ⟨c,_,_,rfl,_⟩:=h;rfl
def o7 (_:PySem.W.Frag):Sp:=fun vs H Q _=> ∃(y:List Nat) (dr:Addr) (ws:List (List Nat)) (os:List Od),vs=[.str (S y), .ref dr]/\Yd y/\y.length<=8/\PD y ws/\wm y ws os/\yF H dr ws os/\ ∀(q:Addr) (qs:List Q4) (H':Hp),H q=none->H' q=some (.lst (BO qs))->(∀x∈qs,qA H' x)->qs.map Q4.v=rW y ws os->ar H H'->Q (.ref q) H'
theorem wq {K:PySem.W.Frag} {vs:List V} {H:Hp} {Q:VK} {E:XK} (h:o7 K vs H Q E):vs.length=2:=by obtain ⟨c,_,_,_,rfl,_⟩:=h;rfl
theorem Hr {y:List Nat} {os:List Od} {i m e:Nat} {p:Pr} (he:y[i]? =some e) (hp:(nZ y os e)[m]? =some p):(n0 y os)[((y.take i).flatMap (fN y os)).length+m]? =some (p.c,p.i,e):=by
 obtain ⟨hi,e1⟩:=J1.mp he
 have hy:y=y.take i++e::y.drop (i+1):=by
  rw[<-e1, <-Z1 hi,ZL]
 have h1:n0 y os=(y.take i).flatMap (fN y os)++(fN y os e++(y.drop (i+1)).flatMap (fN y os)):=by
  unfold n0
  conv=>lhs;arg 2;rw[hy]
  rw[Z6,ZU]
 have h2:(fN y os e)[m]? =some (p.c,p.i,e):=by unfold fN;rw[Zv,hp];rfl
 rw[h1,Qaf (Nat.le_add_right _ _),Nat.add_sub_cancel_left,ZW (J1.mp h2).1]
 exact h2
structure Eh (y:List Nat) (ws:List (List Nat)) (L:Nat->Bool) (r:Nat->Nat) (M:Nat) (os:List Od):Prop where
 ok:wm y ws os
 asc: ∀o∈os,(o.ps.map Pr.pair).Pairwise fun s t=>bL (cK y ws L r M s.1 s.2) (cK y ws L r M t.1 t.2)=true
theorem yM: ∀c∈aR++j8,PyProof.Rows.lo1 (aC c)=PyProof.Rows.lo1 c/\isUp c=!aF c:=by decide+kernel
theorem BP {α:Type} {y:List Nat} (F:Nat->List α) {k k' e:Nat} (he:y[k]? =some e) (h:k<k'):((y.take k).flatMap F).length+(F e).length<=((y.take k').flatMap F).length:=by
 have e1:(y.take k').take (k+1)=y.take (k+1):=by rw[List.take_take,Qag (by omega)]
 have e2:y.take k'=y.take (k+1)++(y.take k').drop (k+1):=by rw[<-e1,ZL]
 rw[e2,Z6,L5, <-take_snoc he,Z6,L5]
 simp
theorem mr {y:List Nat} {ws:List (List Nat)} {os:List Od} (hy:Yd y) (ho:wm y ws os) (hs: ∀c,c<ws.length->SW y (ws.getD c [])) {c i e:Nat} (hc:c<ws.length) (hi:i<(ws.getD c []).length) (he:e=rd (ws.getD c []) i\/e=aC (rd (ws.getD c []) i)):
  e∈y/\ ∃(m:Nat) (p:Pr),(nZ y os e)[m]? =some p/\p.pair=(c,i)/\(n0 y os).idxOf (c,i,e)=((y.take (y.idxOf e)).flatMap (fN y os)).length+m:=by
 have hw:=hs c hc
 have ey:e∈y:=he.elim (fun z=>z▸hw.rd _) fun z=>z▸hy.cl _ (hw.rd _)
 have uR:=Ee hy ho (c:=c) (i:=i) (l:=rd (ws.getD c []) i) (e:=e) (w:=ws.getD c []) (by rw[Zp,J0 hc];rfl) (md hi) (hw.rd _) he
 unfold n0 at uR
 obtain ⟨e',zH,hp⟩:=ZX.mp uR
 unfold fN at hp
 obtain ⟨p,Al,xf⟩:=ZJ.mp hp
 obtain ⟨q1,U0⟩:=Prod.mk.inj xf
 obtain ⟨q2,q3⟩:=Prod.mk.inj U0
 clear U0
 subst q3
 obtain ⟨m,hm,em⟩:=Qbv Al
 have Mc:(nZ y os e')[m]? =some p:=by rw[J0 hm,em]
 refine ⟨ey,m,p,Mc,by unfold Pr.pair;rw[q1,q2],?_⟩
 have hk:y[y.idxOf e']? =some e':=by rw[J0 (Wh ey),Qao]
 have:=Hr (os:=os) hk Mc
 rw[q1,q2]at this
 exact rT (Ed hy ho) this
theorem Ei (y:List Nat) (os:List Od) (e:Nat):(fN y os e).length=(nZ y os e).length:=by unfold fN;rw[Us]
theorem Ej {l:List Pr} {y:List Nat} {ws:List (List Nat)} {L:Nat->Bool} {r:Nat->Nat} {M:Nat} (h:(l.map Pr.pair).Pairwise fun s t=>bL (cK y ws L r M s.1 s.2) (cK y ws L r M t.1 t.2)=true) {m n c i d j:Nat} {p q:Pr} (hp:l[m]? =some p) (hq:l[n]? =some q) (ep:p.pair=(c,i)) (eq:q.pair=(d,j)) (dc:(c,i)≠(d,j)):
  m≠n/\decide (m<n)=bL (cK y ws L r M c i) (cK y ws L r M d j):=by
 have QO:m≠n:=fun z=>dc (by rw[z,hq]at hp;rw[<-ep, <-eq,YS hp])
 obtain ⟨hm,em⟩:=J1.mp hp
 obtain ⟨hn,en⟩:=J1.mp hq
 refine ⟨QO,?_⟩
 have key:=Qbr.mp h
 by_cases z:m<n
 ·have:=key m n (by rw[Us];exact hm) (by rw[Us];exact hn) z
  rw[Qcq,Qcq,em,en,ep,eq]at this
  rw[decide_eq_true z]
  exact this.symm
 ·have:=key n m (by rw[Us];exact hn) (by rw[Us];exact hm) (by omega)
  rw[Qcq,Qcq,em,en,ep,eq]at this
  rw[decide_eq_false z]
  exact (mf this).1.symm
theorem Am {α:Type} {l:List α} {m:Nat} {p:α} (h:l.reverse[m]? =some p):m<l.length/\l[l.length - 1 - m]? =some p:=by
 obtain ⟨hm,_⟩:=J1.mp h
 rw[ZF]at hm
 rw[Qbj hm]at h
 exact ⟨hm,h⟩
theorem lies_of {y:List Nat} {ws:List (List Nat)} {L:Nat->Bool} {r:Nat->Nat} {M:Nat} {os:List Od} (hy:Yd y) (hs: ∀c,c<ws.length->SW y (ws.getD c [])) (h:Eh y ws L r M os):Lies y ws L r M fun c i e=>(n0 y os).idxOf (c,i,e):=by
 have ol:2*os.length=y.length:=by rw[h.ok.1];exact jd hy
 refine ⟨fun c i d j e e' hc hd hi hj he zH cC=>?_,fun c i d j x hc hd hi hj dc hx OF Xb=>?_⟩
 ·obtain ⟨ey,m,p,hm,_,e1⟩:=mr hy h.ok hs hc hi he
  obtain ⟨YX,m',p',Mc,_,e2⟩:=mr hy h.ok hs hd hj zH
  rw[e1,e2]
  have hk:y[y.idxOf e]? =some e:=by rw[J0 (Wh ey),Qao]
  have:=BP (fN y os) hk cC
  rw[Ei]at this
  have GP:=(J1.mp hm).1
  omega
 ·have lc:Lt (rd (ws.getD c []) i):=hy.lt _ ((hs c hc).rd _)
  have ld:Lt (rd (ws.getD d []) j):=hy.lt _ ((hs d hd).rd _)
  have vi:(x=rd (ws.getD c []) i\/x=aC (rd (ws.getD c []) i))/\(aC x=rd (ws.getD c []) i\/aC x=aC (rd (ws.getD c []) i))/\Lt x:=by
   rcases OF with z | z
   ·exact ⟨.inl z.symm, .inr (by rw[z]),z▸lc⟩
   ·have Xc:x<128/\x∈aR:=by
     have h9:97<=x/\x<=122:=by unfold aF at hx;simpa using hx
     refine ⟨by omega,?_⟩
     have: ∀k,k<26->k+97∈aR:=by decide
     have h8:=this (x - 97) (by omega)
     rwa [show x - 97+97=x by omega]at h8
    have lx:Lt x:= .inl Xc.2
    exact ⟨.inr (by rw[z,aJ lx]), .inl z.symm,lx⟩
  have lx:=vi.2.2
  have vj:(x=rd (ws.getD d []) j\/x=aC (rd (ws.getD d []) j))/\(aC x=rd (ws.getD d []) j\/aC x=aC (rd (ws.getD d []) j)):=by
   rcases Xb with z | z
   ·exact ⟨.inl z.symm, .inr (by rw[z])⟩
   ·exact ⟨.inr (by rw[z,aJ lx]), .inl z.symm⟩
  obtain ⟨xy,m,p,hm,ep,e1⟩:=mr hy h.ok hs hc hi vi.1
  obtain ⟨_,n,q,hn,eq,e2⟩:=mr hy h.ok hs hd hj vj.1
  obtain ⟨_,m',p',Mc,NS,CU⟩:=mr hy h.ok hs hc hi vi.2.1
  obtain ⟨_,n',q',Qr,Xd,KW⟩:=mr hy h.ok hs hd hj vj.2
  obtain ⟨o,U1,_,eo⟩:=je hy xy ol
  have Xe:isUp x=false:=by rw[(yM x lx.mem).2,hx];rfl
  have up1:isUp (aC x)=true:=by rw[(yM _ lx.aC.mem).2,fR x lx.mem,hx];rfl
  have s0:nZ y os x=o.ps:=by unfold nZ;rw[Xe,if_neg (by decide),eo]
  have s1:nZ y os (aC x)=o.ps.reverse:=by
   unfold nZ
   rw[up1,if_pos rfl]
   have:yG y os (aC x)=yG y os x:=by unfold yG;rw[(yM x lx.mem).1]
   rw[this,eo]
  rw[s0]at hm hn
  rw[s1]at Mc Qr
  obtain ⟨b1,GP⟩:=Am Mc
  obtain ⟨b2,xx⟩:=Am Qr
  have k1:=Ej (h.asc o U1) hm hn ep eq dc
  have k2:=Ej (h.asc o U1) GP xx NS Xd dc
  rw[e1,e2,CU,KW]
  refine ⟨by omega,by omega,?_,?_⟩
  ·rw[<-k1.2];exact decide_eq_decide.mpr (by omega)
  ·rw[<-k2.2];exact decide_eq_decide.mpr (by omega)
noncomputable def n_ (st:Nat->Nat) (T R:List Nat):List Nat:=T.filter fun x=>R.any fun e=>decide (st e=x)
noncomputable def BQ (st:Nat->Nat) (T R:List Nat) (p:Nat):Nat:=if st p=p then 0 else ((n_ st T (p::R)).filter fun x=>decide (st p<x)).length
noncomputable def FG (st:Nat->Nat):List Nat->List Nat->Nat
 | _,[]=>0
 | T,p::R=>BQ st T R p+FG st (T++[p]) R
structure Ek (ch:List (Nat×Nat)) (st:Nat->Nat) (P:List Nat):Prop where
 lt: ∀x∈ch,x.1<x.2
 nd:(ch.flatMap fun x=>[x.1,x.2]).Nodup
 pm:P.Perm (ch.flatMap fun x=>[x.1,x.2])
 up:P.Pairwise (· < ·)
 st: ∀x∈ch,st x.1=x.1/\st x.2=x.1
section
variable {ch:List (Nat×Nat)} {st:Nat->Nat} {P:List Nat}
theorem Ek.pt (h:Ek ch st P) {p:Nat} (hp:p∈P): ∃x∈ch,p=x.1\/p=x.2:=by
 obtain ⟨x,hx,e⟩:=ZX.mp (h.pm.mem_iff.mp hp)
 exact ⟨x,hx,by simpa using e⟩
theorem Ek.in1 (h:Ek ch st P) {x:Nat×Nat} (hx:x∈ch):x.1∈P/\x.2∈P:=⟨h.pm.mem_iff.mpr (ZX.mpr ⟨x,hx,by simp⟩),h.pm.mem_iff.mpr (ZX.mpr ⟨x,hx,by simp⟩)⟩
theorem wu: ∀{ch:List (Nat×Nat)},(ch.flatMap fun x=>[x.1,x.2]).Nodup-> ∀x∈ch, ∀z∈ch,(x.1=z.1\/x.2=z.2\/x.1=z.2)->x=z
 | [],_,x,hx,_,_,_=>absurd hx Zy
 | a::r,nd,x,hx,z,hz,e=>by
  rw[ZU,Qaa]at nd
  obtain ⟨n1,n2,n3⟩:=nd
  have inr: ∀z∈r,z.1∈r.flatMap (fun x=>[x.1,x.2])/\z.2∈r.flatMap (fun x=>[x.1,x.2]):=fun z hz=>⟨ZX.mpr ⟨z,hz,by simp⟩,ZX.mpr ⟨z,hz,by simp⟩⟩
  have a12:a.1≠a.2:=by
   rw[ZN]at n1
   simpa using n1.1
  rcases Wj.mp hx with rfl | Ft<;>rcases Wj.mp hz with rfl | GY
  ·rfl
  ·exfalso
   rcases e with e | e | e
   ·exact n3 x.1 (by simp) z.1 (inr z GY).1 e
   ·exact n3 x.2 (by simp) z.2 (inr z GY).2 e
   ·exact n3 x.1 (by simp) z.2 (inr z GY).2 e
  ·exfalso
   rcases e with e | e | e
   ·exact n3 z.1 (by simp) x.1 (inr x Ft).1 e.symm
   ·exact n3 z.2 (by simp) x.2 (inr x Ft).2 e.symm
   ·exact n3 z.2 (by simp) x.1 (inr x Ft).1 e.symm
  ·exact wu n2 x Ft z GY e
theorem El (h:Ek ch st P) {T R:List Nat} {p:Nat} (e:P=T++p::R) (hs:st p=p):n_ st (T++[p]) R=n_ st T (p::R)++[p]:=by
 obtain ⟨x,hx,hp⟩:=h.pt (p:=p) (by rw[e];simp)
 have KY:p=x.1:=hp.elim id fun z=>by rw[z,(h.st x hx).2]at hs;rw[z, <-hs]
 have up:=h.up
 rw[e,Qa8,Qa3]at up
 obtain ⟨u1,⟨u2,u3⟩,u4⟩:=up
 have hR:x.2∈R:=by
  have:=(h.in1 hx).2
  rw[e]at this
  rcases Zx.mp this with q | q
  ·have:=u4 _ q p Wi
   have:=h.lt x hx
   omega
  ·rcases Wj.mp q with q | q
   ·have:=h.lt x hx
    omega
   ·exact q
 unfold n_
 rw[Qbe]
 congr 1
 ·refine Qdp fun z hz=>?_
  rw[Qa1,decide_eq_false (fun q=>by have:=u4 z hz p Wi;omega),Qdh]
 ·have:(R.any fun e=>decide (st e=p))=true:=List.any_eq_true.mpr ⟨x.2,hR,decide_eq_true (by rw[(h.st x hx).2,KY])⟩
  rw[ZV (p:=fun x=>R.any fun e=>decide (st e=x)) this]
  rfl
theorem erase_filter {s:Nat} {p q:Nat->Bool}: ∀{T:List Nat},T.Nodup->q s=true->p s=false->(∀x,x≠s->q x=p x)->(T.filter q).erase s=T.filter p
 | [],_,_,_,_=>rfl
 | a::T,nd,hq,hp,h=>by
  rw[ZN]at nd
  by_cases z:a=s
  ·subst z
   rw[ZV hq,List.erase_cons_head,ZK (by rw[hp];decide)]
   exact Qdp fun x hx=>h x fun q=>nd.1 (q▸hx)
  ·have ih:=erase_filter nd.2 hq hp h
   cases e:p a
   ·rw[ZK (by rw[h a z,e];decide),ZK (by rw[e];decide)]
    exact ih
   ·rw[ZV (by rw[h a z,e]),ZV e,List.erase_cons_tail (by simpa using z),ih]
theorem KZ (h:Ek ch st P) {T R:List Nat} {p:Nat} (e:P=T++p::R) (hs:st p≠p):n_ st (T++[p]) R=(n_ st T (p::R)).erase (st p)/\st p∈n_ st T (p::R):=by
 obtain ⟨x,hx,hp⟩:=h.pt (p:=p) (by rw[e];simp)
 have KY:p=x.2:=hp.elim (fun z=>absurd (by rw[z,(h.st x hx).1]) hs) id
 have jH:st p=x.1:=by rw[KY,(h.st x hx).2]
 have up:=h.up
 rw[e,Qa8,Qa3]at up
 obtain ⟨u1,⟨u2,u3⟩,u4⟩:=up
 have only: ∀z∈R,st z≠x.1:=fun z hz q=>by
  obtain ⟨v,hv,GG⟩:=h.pt (p:=z) (by rw[e];simp[hz])
  have YY:=u2 z hz
  rcases GG with r | r
  ·rw[r,(h.st v hv).1]at q
   have:=wu h.nd v hv x hx (.inl q)
   subst this
   have:=h.lt v hv
   omega
  ·rw[r,(h.st v hv).2]at q
   have:=wu h.nd v hv x hx (.inl q)
   subst this
   omega
 have none: ∀z∈R,st z≠p:=fun z hz q=>by
  obtain ⟨v,hv,GG⟩:=h.pt (p:=z) (by rw[e];simp[hz])
  have:st z=v.1:=GG.elim (fun r=>by rw[r,(h.st v hv).1]) fun r=>by rw[r,(h.st v hv).2]
  rw[this,KY]at q
  have:=wu h.nd v hv x hx (.inr (.inr q))
  subst this
  have:=h.lt v hv
  omega
 have hT:x.1∈T:=by
  have:=(h.in1 hx).1
  rw[e]at this
  have l:=h.lt x hx
  rcases Zx.mp this with q | q
  ·exact q
  ·rcases Wj.mp q with q | q
   ·omega
   ·have:=u2 _ q
    omega
 have nd:T.Nodup:=Qdr (fun h=>Zu h) u1
 have hq:((p::R).any fun e=>decide (st e=x.1))=true:=by rw[Qa1,decide_eq_true jH];rfl
 refine ⟨?_,?_⟩
 ·rw[jH]
  unfold n_
  rw[Qbe,ZK (by
   rw[Bool.not_eq_true,Qdq]
   exact fun z hz=>by simpa using none z hz),List.filter_nil,Z7]
  refine (erase_filter nd hq ?_ fun z hz=>?_).symm
  ·rw[Qdq]
   exact fun z hz=>by simpa using only z hz
  ·rw[Qa1,decide_eq_false (by rw[jH];exact Ne.symm hz),Qdh]
 ·rw[jH]
  exact ZZ.mpr ⟨hT,hq⟩
noncomputable def lN (x z:Nat×Nat):Bool:=decide (x.1<z.1)&&(decide (z.1<x.2)&&decide (x.2<z.2))
theorem Em (h:Ek ch st P) {T R:List Nat} {x:Nat×Nat} (hx:x∈ch) (e:P=T++x.2::R):BQ st T R x.2=(ch.filter (lN x)).length:=by
 have l:=h.lt x hx
 have jH:=(h.st x hx).2
 have up:=h.up
 rw[e,Qa8,Qa3]at up
 obtain ⟨u1,⟨u2,u3⟩,u4⟩:=up
 unfold BQ
 rw[if_neg (by omega),jH, <-Us (as:=ch.filter (lN x)) (f:=Prod.fst)]
 refine List.Perm.length_eq ((List.perm_ext_iff_of_nodup ?_ ?_).mpr fun a=>?_)
 ·exact (Qdr (fun h=>Zu h) ((u1.filter _).filter _))
 ·have nd:(ch.map Prod.fst).Nodup:=by
   have: ∀{ch:List (Nat×Nat)},(ch.flatMap fun x=>[x.1,x.2]).Nodup->(ch.map Prod.fst).Nodup:=fun {ch}=>by
    induction ch with
    | nil=>exact fun _=>List.Pairwise.nil
    | cons a r ih=>
     intro nd
     rw[ZU,Qaa]at nd
     rw[ZC,ZN]
     refine ⟨fun q=>?_,ih nd.2.1⟩
     obtain ⟨z,hz,ez⟩:=ZJ.mp q
     exact nd.2.2 a.1 (by simp) z.1 (ZX.mpr ⟨z,hz,by simp⟩) ez.symm
   exact this h.nd
  exact List.Nodup.sublist (List.Sublist.map _ List.filter_sublist) nd
 ·rw[ZZ,ZJ]
  unfold n_
  rw[ZZ,decide_eq_true_iff,List.any_eq_true]
  constructor
  ·rintro ⟨⟨a1,p,hp,ep⟩,a2⟩
   have ep:=of_decide_eq_true ep
   obtain ⟨z,hz,Th⟩:=h.pt (p:=p) (by rw[e];exact ZD _ hp)
   have:st p=z.1:=Th.elim (fun r=>by rw[r,(h.st z hz).1]) fun r=>by rw[r,(h.st z hz).2]
   rw[this]at ep
   have ax:=u4 a a1 x.2 Wi
   have pz:p=z.2:=Th.elim (fun r=>by
    have:=u4 a a1 p hp
    omega) id
   have px:x.2<p:=by
    rcases Wj.mp hp with q | q
    ·rw[q]at pz
     have:=wu h.nd x hx z hz (.inr (.inl pz))
     subst this
     omega
    ·exact u2 p q
   refine ⟨z,ZZ.mpr ⟨hz,?_⟩,ep⟩
   unfold lN
   rw[Z8,Z8,decide_eq_true_iff,decide_eq_true_iff,decide_eq_true_iff]
   omega
  ·rintro ⟨z,hz,rfl⟩
   obtain ⟨hz,q⟩:=ZZ.mp hz
   unfold lN at q
   rw[Z8,Z8,decide_eq_true_iff,decide_eq_true_iff,decide_eq_true_iff]at q
   have i1:=(h.in1 hz).1
   have i2:=(h.in1 hz).2
   rw[e]at i1 i2
   refine ⟨⟨?_,z.2,?_,decide_eq_true (h.st z hz).2⟩,q.1⟩
   ·rcases Zx.mp i1 with r | r
    ·exact r
    ·rcases Wj.mp r with r | r
     ·omega
     ·have:=u2 _ r;omega
   ·rcases Zx.mp i2 with r | r
    ·have:=u4 _ r x.2 Wi;omega
    ·exact r
theorem En (h:Ek ch st P): ∀(R T:List Nat),P=T++R->FG st T R=(R.map fun p=>if st p=p then 0 else (ch.filter (lN (st p,p))).length).sum
 | [],_,_=>rfl
 | p::R,T,e=>by
  rw[ZC,Qba, <-En h R (T++[p]) (by rw[e];simp)]
  show BQ st T R p+_=_
  congr 1
  by_cases z:st p=p
  ·rw[if_pos z];unfold BQ;rw[if_pos z]
  ·rw[if_neg z]
   obtain ⟨x,hx,hp⟩:=h.pt (p:=p) (by rw[e];simp)
   have KY:p=x.2:=hp.elim (fun q=>absurd (by rw[q,(h.st x hx).1]) z) id
   have jH:st p=x.1:=by rw[KY,(h.st x hx).2]
   rw[jH]
   subst KY
   exact Em h hx e
theorem K0 (h:Ek ch st P):FG st [] P=(ch.map fun x=>(ch.filter (lN x)).length).sum:=by
 rw[En h P [] rfl,(h.pm.map _).sum_nat]
 have: ∀l:List (Nat×Nat),(∀x∈l,x∈ch)->(((l.flatMap fun x=>[x.1,x.2]).map fun p=>if st p=p then 0 else (ch.filter (lN (st p,p))).length).sum)=(l.map fun x=>(ch.filter (lN x)).length).sum:=fun l hl=>by
  induction l with
  | nil=>rfl
  | cons a r ih=>
   have ha:=h.st a (hl a Wi)
   have la:=h.lt a (hl a Wi)
   rw[ZU,Zn,List.sum_append_nat,ih fun x hx=>hl x (Uq _ hx),ZC,Qba]
   congr 1
   show (if st a.1=a.1 then 0 else _)+((if st a.2=a.2 then 0 else (ch.filter (lN (st a.2,a.2))).length)+0)=_
   rw[if_pos ha.1,if_neg (by omega),ha.2,Qcw,Qdl]
 exact this ch fun x hx=>hx
theorem BR {α:Type} (X:α->α->Bool) (hd: ∀x,X x x=false) (ha: ∀x z,X x z=true->X z x=false): ∀l:List α,(l.map fun x=>(l.filter (X x)).length).sum=cl (fun x z=>X x z||X z x) l:=fun l=>by
 have key: ∀(a:α) (l:List α),((l.filter fun z=>X a z||X z a)).length=(l.filter (X a)).length+(l.map fun z=>if X z a=true then 1 else 0).sum:=fun a l=>by
  induction l with
  | nil=>rfl
  | cons b r ih=>
   have:=ha a b
   simp only[List.filter_cons,ZC,Qba]
   cases e1:X a b<;>cases e2:X b a
   ·simp[ih]
   ·simp[ih];omega
   ·simp[ih];omega
   ·rw[this e1]at e2;cases e2
 induction l with
 | nil=>rfl
 | cons a r ih=>
  show (((a::r).map fun x=>((a::r).filter (X x)).length).sum)=(r.filter fun z=>X a z||X z a).length+cl _ r
  rw[ZC,Qba,ZK (by rw[hd a];decide),key a r, <-ih]
  have e: ∀l:List α,(l.map fun x=>((a::r).filter (X x)).length).sum=(l.map fun z=>if X z a=true then 1 else 0).sum+(l.map fun x=>(r.filter (X x)).length).sum:=fun l=>by
   induction l with
   | nil=>rfl
   | cons b l Xf=>
    rw[ZC,Qba,Xf,ZC,Qba,ZC,Qba]
    cases e1:X b a
    ·rw[ZK (by rw[e1];decide)]
     simp;omega
    ·rw[ZV e1]
     simp;omega
  rw[e r]
  omega
theorem PJ (h:Ek ch st P):FG st [] P=cl (fun x z=>lN x z||lN z x) ch:=by
 rw[K0 h,BR]
 ·intro x;unfold lN;rw[decide_eq_false (ZS _)];rfl
 ·intro x z q
  unfold lN at q ⊢
  rw[Z8,Z8,decide_eq_true_iff,decide_eq_true_iff,decide_eq_true_iff]at q
  rw[decide_eq_false (by omega)]
  rfl
end
noncomputable def IU (p q:Nat):Int:=if (q:Int)<p then q else p
noncomputable def eK (cs:List C4):List Nat:=cs.flatMap fun x=>[x.2.2.1,x.2.2.2]
noncomputable def gw (cs:List C4):List (Key×V):=cs.flatMap fun x=>[(Sum.inl (x.2.2.1:Int),V.int (IU x.2.2.1 x.2.2.2)),(Sum.inl (x.2.2.2:Int),V.int (IU x.2.2.1 x.2.2.2))]
noncomputable def o8 (cs:List C4):List (Nat×Nat):=cs.map fun x=>(min x.2.2.1 x.2.2.2,max x.2.2.1 x.2.2.2)
theorem g7: ∀cs:List C4,(gw cs).map (·.1)=(eK cs).map fun n:Nat=>(Sum.inl (n:Int):Key)
 | []=>rfl
 | x::r=>by
  unfold gw eK
  rw[ZU,ZU,Zn,Zn]
  exact congrArg _ (g7 r)
theorem wx {aT:List (Key×V)} {k:Key} (h:k∉aT.map (·.1)):dG aT k=none:=by
 induction aT with
 | nil=>rfl
 | cons a r ih=>
  rw[ZC,Wj,not_or]at h
  rw[cF (fun e=>h.1 e.symm),ih h.2]
theorem Eo {aT:List (Key×V)} (nd:(aT.map (·.1)).Nodup) {k:Key} {v:V} (h:(k,v)∈aT):dG aT k=some v:=by
 induction aT with
 | nil=>exact absurd h Zy
 | cons a r ih=>
  rw[ZC,ZN]at nd
  rcases Wj.mp h with e | e
  ·subst e;exact cT rfl
  ·rw[cF (fun z=>nd.1 (ZJ.mpr ⟨_,e,z.symm⟩))]
   exact ih nd.2 e
theorem K1: ∀{l:List Nat},l.Nodup->(l.map fun n:Nat=>(Sum.inl (n:Int):Key)).Nodup:=fun {l} h=>Qak.mpr (h.imp fun Co z=>Co (by have:=Sum.inl.inj z;omega))
noncomputable def ins (l:List Nat):List V:=l.map fun n=>V.int (n:Nat)
theorem lr (l:List Nat):(ins l).length=l.length:=by unfold ins;rw[Us]
theorem Ep (l:List Nat) (n:Nat):ins l++[V.int (n:Nat)]=ins (l++[n]):=by unfold ins;rw[Zn];rfl
theorem Er {l:List Nat} {i n:Nat} (h:l[i]? =some n):(ins l)[i]? =some (V.int (n:Nat)):=by unfold ins;rw[Zv,h];rfl
def iH (_:PySem.W.Frag):Sp:=fun vs H Q _=> ∃(a:Addr) (qs:List Q4),vs=[.ref a]/\H a=some (.lst (BO qs))/\(∀x∈qs,qA H x)/\qs.length<=1000/\(eK (qs.map Q4.v)).Nodup/\ ∀d H',H d=none->H' d=some (.dK (gw (qs.map Q4.v)))->ar H H'->Q (.ref d) H'
theorem mw {K:PySem.W.Frag} {vs:List V} {H:Hp} {Q:VK} {E:XK} (h:iH K vs H Q E):vs.length=1:=by obtain ⟨_,_,rfl,_⟩:=h;rfl
def lA (_:PySem.W.Frag):Sp:=fun vs H Q _=> ∃(a:Addr) (l:List Nat) (p:Nat),vs=[.ref a, .int p]/\H a=some (.lst (ins l))/\l.Pairwise (· < ·)/\p∈l/\l.length<=100000/\Q (.int (l.idxOf p:Nat)) H
theorem qB {K:PySem.W.Frag} {vs:List V} {H:Hp} {Q:VK} {E:XK} (h:lA K vs H Q E):vs.length=2:=by obtain ⟨_,_,_,rfl,_⟩:=h;rfl
def gG (_:PySem.W.Frag):Sp:=fun vs H Q _=> ∃(a:Addr) (qs:List Q4),vs=[.ref a]/\H a=some (.lst (BO qs))/\(∀x∈qs,qA H x)/\qs.length<=24/\(eK (qs.map Q4.v)).Nodup/\ ∀H',ar H H'->Q (.int (cl (fun x z=>lN x z||lN z x) (o8 (qs.map Q4.v)):Nat)) H'
theorem kf {K:PySem.W.Frag} {vs:List V} {H:Hp} {Q:VK} {E:XK} (h:gG K vs H Q E):vs.length=1:=by obtain ⟨_,_,rfl,_⟩:=h;rfl
theorem BS (cs:List C4) (x:C4):eK (cs++[x])=eK cs++[x.2.2.1,x.2.2.2]:=by unfold eK;rw[Z6,Qb4]
theorem BU (cs:List C4) (x:C4):gw (cs++[x])=gw cs++[(Sum.inl (x.2.2.1:Int),V.int (IU x.2.2.1 x.2.2.2)),(Sum.inl (x.2.2.2:Int),V.int (IU x.2.2.1 x.2.2.2))]:=by unfold gw;rw[Z6,Qb4]
theorem wA (cs:List C4):(gw cs).length=2*cs.length:=by
 induction cs with
 | nil=>rfl
 | cons x r ih=>
  unfold gw at ih ⊢
  rw[ZU,L5,ih,ZM]
  show 2+2*r.length=2*(r.length+1)
  omega
theorem Hs {cs:List C4} {x:C4} (nd:(eK (cs++[x])).Nodup):putK (putK (gw cs) (Sum.inl (x.2.2.1:Int)) (V.int (IU x.2.2.1 x.2.2.2))) (Sum.inl (x.2.2.2:Int)) (V.int (IU x.2.2.1 x.2.2.2))=gw (cs++[x]):=by
 rw[BS,Qaa]at nd
 obtain ⟨n1,n2,n3⟩:=nd
 have k: ∀n:Nat,n∉eK cs->(Sum.inl (n:Int):Key)∉(gw cs).map (·.1):=fun n hn z=>by
  rw[g7]at z
  obtain ⟨m,hm,e⟩:=ZJ.mp z
  have:m=n:=by have:=Sum.inl.inj e;omega
  exact hn (this▸hm)
 have h1:x.2.2.1∉eK cs:=fun z=>n3 _ z _ (by simp) rfl
 have h2:x.2.2.2∉eK cs:=fun z=>n3 _ z _ (by simp) rfl
 have h3:x.2.2.1≠x.2.2.2:=by
  rw[ZN]at n2
  simpa using n2.1
 rw[vA _ (wx (k _ h1)),vA,BU,Qab]
 ·rfl
 ·refine wx fun z=>?_
  rw[Zn,Zx]at z
  rcases z with z | z
  ·exact k _ h2 z
  ·have:=Sum.inl.inj (Wg.mp z)
   omega
noncomputable def cM (cs:List C4) (p:Nat):Nat:=(((dG (gw cs) (Sum.inl (p:Int))).map fun v=>match v with | .int i=>i.toNat | _=>0).getD 0)
theorem Es (p q:Nat):IU p q=(min p q:Nat):=by unfold IU;split<;>omega
theorem IV {cs:List C4} (nd:(eK cs).Nodup) {x:C4} (hx:x∈cs):(dG (gw cs) (Sum.inl (x.2.2.1:Int))=some (.int (min x.2.2.1 x.2.2.2:Nat))/\dG (gw cs) (Sum.inl (x.2.2.2:Int))=some (.int (min x.2.2.1 x.2.2.2:Nat)))/\cM cs x.2.2.1=min x.2.2.1 x.2.2.2/\cM cs x.2.2.2=min x.2.2.1 x.2.2.2:=by
 have kn:((gw cs).map (·.1)).Nodup:=by rw[g7];exact K1 nd
 have e1:dG (gw cs) (Sum.inl (x.2.2.1:Int))=some (.int (min x.2.2.1 x.2.2.2:Nat)):=by
  rw[<-Es]
  exact Eo kn (ZX.mpr ⟨x,hx,by simp⟩)
 have e2:dG (gw cs) (Sum.inl (x.2.2.2:Int))=some (.int (min x.2.2.1 x.2.2.2:Nat)):=by
  rw[<-Es]
  exact Eo kn (ZX.mpr ⟨x,hx,by simp⟩)
 refine ⟨⟨e1,e2⟩,?_,?_⟩
 ·unfold cM;rw[e1];exact YT _
 ·unfold cM;rw[e2];exact YT _
theorem An (cs:List C4):((o8 cs).flatMap fun x=>[x.1,x.2]).Perm (eK cs):=by
 induction cs with
 | nil=>exact .nil
 | cons x r ih=>
  unfold o8 eK at ih ⊢
  rw[ZC,ZU,ZU]
  refine List.Perm.append ?_ ih
  show [min x.2.2.1 x.2.2.2,max x.2.2.1 x.2.2.2].Perm [x.2.2.1,x.2.2.2]
  by_cases z:x.2.2.1<=x.2.2.2
  ·rw[Qag z,Qbn z]
  ·rw[Qaj (by omega),Qbg (by omega)]
   exact List.Perm.swap _ _ _
theorem K2 {cs:List C4} {P:List Nat} (nd:(eK cs).Nodup) (hp:P.Perm (eK cs)) (up:P.Pairwise (· < ·)):Ek (o8 cs) (cM cs) P:=by
 refine ⟨fun x hx=>?_,((An cs).nodup_iff).mpr nd,hp.trans (An cs).symm,up,fun x hx=>?_⟩
 ·obtain ⟨c,hc,rfl⟩:=ZJ.mp hx
  have dc:c.2.2.1≠c.2.2.2:=fun z=>by
   have: ∀{cs:List C4},(eK cs).Nodup-> ∀c∈cs,c.2.2.1≠c.2.2.2:=fun {cs}=>by
    induction cs with
    | nil=>exact fun _ _ h=>absurd h Zy
    | cons a r ih=>
     intro nd c hc
     unfold eK at nd
     rw[ZU,Qaa]at nd
     rcases Wj.mp hc with e | e
     ·subst e
      have:=nd.1
      rw[ZN]at this
      simpa using this.1
     ·exact ih nd.2.1 c e
   exact this nd c hc z
  show min c.2.2.1 c.2.2.2<max c.2.2.1 c.2.2.2
  omega
 ·obtain ⟨c,hc,rfl⟩:=ZJ.mp hx
  obtain ⟨_,e1,e2⟩:=IV nd hc
  show cM cs (min c.2.2.1 c.2.2.2)=min c.2.2.1 c.2.2.2/\cM cs (max c.2.2.1 c.2.2.2)=min c.2.2.1 c.2.2.2
  by_cases z:c.2.2.1<=c.2.2.2
  ·rw[Qag z,Qbn z]at*
   exact ⟨e1,e2⟩
  ·rw[Qaj (by omega),Qbg (by omega)]at*
   exact ⟨e2,e1⟩
theorem Et {l:List Nat} {p:Nat} (h:p∈l):l.eraseIdx (l.idxOf p)=l.erase p:=(List.erase_eq_eraseIdx_of_idxOf rfl).symm
theorem behind {l:List Nat} (up:l.Pairwise (· < ·)) {p:Nat} (h:p∈l):(l.erase p).length - l.idxOf p=(l.filter fun x=>decide (p<x)).length:=by
 induction l with
 | nil=>exact absurd h Zy
 | cons a r ih=>
  rw[Qa3]at up
  by_cases z:a=p
  ·subst z
   rw[List.erase_cons_head,List.idxOf_cons_self,ZK (by simp),List.filter_eq_self.mpr (fun x hx=>decide_eq_true (up.1 x hx))]
   rfl
  ·have hr:=(Wj.mp h).resolve_left (Ne.symm z)
   rw[List.erase_cons_tail (by simpa using z),Kz,if_neg z,ZK (by
    have:=up.1 p hr
    simp;omega), <-ih up.2 hr,ZM]
   omega
theorem K3 {st:Nat->Nat} {P T R:List Nat} (h:P.Pairwise (· < ·)) (e:P=T++R) (R':List Nat):(n_ st T R').Pairwise (· < ·):=by
 rw[e,Qa8]at h
 exact h.1.filter _
theorem Ht {st:Nat->Nat} {T R:List Nat}:(n_ st T R).length<=T.length:=Qc4 _ _
theorem K4 {cs:List C4} (nd:(eK cs).Nodup) {p:Nat} (hp:p∈eK cs):dG (gw cs) (Sum.inl (p:Int))=some (.int (cM cs p:Nat)):=by
 unfold eK at hp
 obtain ⟨x,hx,e⟩:=ZX.mp hp
 obtain ⟨⟨e1,e2⟩,e3,e4⟩:=IV nd hx
 have e':p=x.2.2.1\/p=x.2.2.2:=by simpa using e
 rcases e' with rfl | rfl
 ·rw[e1,e3]
 ·rw[e2,e4]
theorem yN {ms:List Int} {l:List Nat} (nd:l.Nodup) (hp:ms.Perm (l.map fun n:Nat=>(n:Int))) (hw:ms.Pairwise fun a b=> ¬b<a): ∃P:List Nat,ms.map V.int=ins P/\P.Perm l/\P.Pairwise (· < ·):=by
 have uR: ∀m∈ms, ∃n:Nat,m=n:=fun m hm=>by
  obtain ⟨n,_,rfl⟩:=ZJ.mp (hp.mem_iff.mp hm)
  exact ⟨n,rfl⟩
 have e1:ms=(ms.map Int.toNat).map fun n:Nat=>(n:Int):=by
  rw[Z_]
  refine (Qdz ms).symm.trans (Qcd fun m hm=>?_)
  obtain ⟨n,rfl⟩:=uR m hm
  exact (congrArg _ (YT n)).symm
 have p1:(ms.map Int.toNat).Perm l:=by
  have:=hp.map Int.toNat
  rw[Z_]at this
  have e2:l.map (Int.toNat ∘ fun n:Nat=>(n:Int))=l:=(Qcd fun n _=>YT n).trans (Qdz l)
  rwa [e2]at this
 refine ⟨ms.map Int.toNat,?_,p1,?_⟩
 ·unfold ins
  conv=>lhs;rw[e1]
  rw[Z_]
  rfl
 ·have QL:(ms.map Int.toNat).Nodup:=p1.nodup_iff.mpr nd
  have Xg:(ms.map Int.toNat).Pairwise fun a b=> ¬b<a:=by
   rw[e1,Qak]at hw
   exact hw.imp fun h z=>h (by omega)
  refine Qdr (fun {a b} h=>?_) (List.Pairwise.and Xg QL)
  have:=h.1
  have:=h.2
  omega
theorem Eu {st:Nat->Nat} {P:List Nat} {k p:Nat} (h:P[k]? =some p):FG st (P.take k) (P.drop k)=BQ st (P.take k) (P.drop (k+1)) p+FG st (P.take (k+1)) (P.drop (k+1)):=by
 obtain ⟨hk,e⟩:=J1.mp h
 rw[Z1 hk,e]
 show BQ st _ _ p+FG st (P.take k++[p]) _=_
 rw[take_snoc h]
theorem IW {n k:Nat} (h:k<n):seqIndex? (k:Int) n=some k:=by
 unfold seqIndex?
 simp
 omega
theorem rX: ∀(l:List Nat) (k:Nat),(ins l).eraseIdx k=ins (l.eraseIdx k)
 | [],_=>rfl
 | _::_,0=>rfl
 | a::l,k+1=>congrArg (V.int (a:Nat):: ·) (rX l k)
noncomputable def cst (y w:List Nat) (i:Int):Int:=vY y (aC (rd w (i - 1))) (rd w i)
theorem Ew (y w:List Nat) (p k:Int):gg y (sq w p) k=cst y w (p+k):=by
 unfold gg cst sq
 rw[show p+(k - 1)=p+k - 1 by omega]
noncomputable def xi (n:Int):Nat:=(48+n).toNat
noncomputable def stx (y w:List Nat):List Nat:=(List.range w.length).map fun i:Nat=>xi (cst y w i)
theorem dy (y w:List Nat):(stx y w).length=w.length:=by unfold stx;rw[Us,Qci]
theorem K5: ∀n:Nat,n<10->dg n=[48+n]:=by decide+kernel
noncomputable def jf (lg n:Nat):Nat:=3+lg / max n 1
noncomputable def mz (y u:List Nat) (lg r:Nat):List (Str×V):=eE "backward" (.str (S (dQ (jf lg u.length) (stx y u).reverse))) (eE "onward" (.str (S (dQ (jf lg u.length) (stx y u)))) (eE "leads" (.bl (leads u)) (eE "root_size" (.int r) (eE "size" (.int u.length) []))))
noncomputable def IX (t w:Addr) (p:Nat):List (Str×V):=eE "place" (.int p) (eE "way" (.ref w) (eE "strand" (.ref t) []))
section
variable {y u:List Nat} {lg r:Nat} {t w:Addr} {p:Nat}
theorem Ao:(mz y u lg r).lookup ("size":Str)=some (.int u.length):=by
 unfold mz
 rw[aQ,if_neg (by decide+kernel),aQ,if_neg (by decide+kernel),aQ,if_neg (by decide+kernel),aQ,if_neg (by decide+kernel),aQ,if_pos rfl]
theorem oa:(mz y u lg r).lookup ("root_size":Str)=some (.int r):=by
 unfold mz
 rw[aQ,if_neg (by decide+kernel),aQ,if_neg (by decide+kernel),aQ,if_neg (by decide+kernel),aQ,if_pos rfl]
theorem Ex:(mz y u lg r).lookup ("leads":Str)=some (.bl (leads u)):=by
 unfold mz
 rw[aQ,if_neg (by decide+kernel),aQ,if_neg (by decide+kernel),aQ,if_pos rfl]
theorem PK:(mz y u lg r).lookup ("onward":Str)=some (.str (S (dQ (jf lg u.length) (stx y u)))):=by
 unfold mz
 rw[aQ,if_neg (by decide+kernel),aQ,if_pos rfl]
theorem Hu:(mz y u lg r).lookup ("backward":Str)=some (.str (S (dQ (jf lg u.length) (stx y u).reverse))):=by
 unfold mz
 rw[aQ,if_pos rfl]
theorem lB:(IX t w p).lookup ("place":Str)=some (.int p):=by unfold IX;rw[aQ,if_pos rfl]
theorem mB:(IX t w p).lookup ("way":Str)=some (.ref w):=by unfold IX;rw[aQ,if_neg (by decide+kernel),aQ,if_pos rfl]
theorem rY:(IX t w p).lookup ("strand":Str)=some (.ref t):=by unfold IX;rw[aQ,if_neg (by decide+kernel),aQ,if_neg (by decide+kernel),aQ,if_pos rfl]
end
theorem dm (f:Str) (v:V): ∀fs:List (Str×V),(eE f v fs).length<=fs.length+1
 | []=>Ur _
 |(g,x)::r=>by
  unfold eE
  split
  ·exact Qa0 _
  ·exact Qap (dm f v r)
structure Sn where
 a:Addr
 t:Addr
 wy:Addr
 c:Nat
 i:Nat
 u:List Nat
 p:Nat
 r:Nat
structure BV (H:Hp) (C a:Addr) (y u:List Nat) (lg r:Nat):Prop where
 ob: ∃dx,H a=some (.ins C dx (mz y u lg r))
 sw:SW y u
 uz:u.length<=lg
 lz:lg<=1000
 rt:bZ u r
theorem BV.same {H H':Hp} {C a:Addr} {y u:List Nat} {lg r:Nat} (h:BV H C a y u lg r) (s:ar H H'):BV H' C a y u lg r:=by
 obtain ⟨dx,e⟩:=h.ob
 exact ⟨⟨dx,s _ _ e⟩,h.sw,h.uz,h.lz,h.rt⟩
structure jg (H:Hp) (CW CS:Addr) (y:List Nat) (lg:Nat) (s:Sn):Prop where
 ob: ∃dx,H s.a=some (.ins CS dx (IX s.t s.wy s.p))
 st:H s.t=some (.tup [.int s.c, .int s.i])
 wy:BV H CW s.wy y s.u lg s.r
 pz:s.p<s.u.length
theorem jg.same {H H':Hp} {CW CS:Addr} {y:List Nat} {lg:Nat} {s:Sn} (h:jg H CW CS y lg s) (sm:ar H H'):jg H' CW CS y lg s:=by
 obtain ⟨dx,e⟩:=h.ob
 exact ⟨⟨dx,sm _ _ e⟩,sm _ _ h.st,h.wy.same sm,h.pz⟩
noncomputable def Cp (y:List Nat) (lg:Nat) (s:Sn):List Nat:=(dQ (jf lg s.u.length) (stx y s.u)).drop (s.p+1)
noncomputable def Cq (y:List Nat) (lg:Nat) (s:Sn):List Nat:=(dQ (jf lg s.u.length) (stx y s.u).reverse).drop (s.u.length - 1 - s.p)
noncomputable def seg (l:List Nat) (x z:Nat):List Nat:=(l.drop x).take (z - x)
def iI (_:PySem.W.Frag):Sp:=fun vs H Q _=> ∃(y w:List Nat) (i:Nat),vs=[.str (S y), .str (S w), .int i]/\Yd y/\y.length<=8/\SW y w/\w.length<=1000/\i<w.length/\ ∀(n:Nat) H',cst y w i=n->n<8->ar H H'->Q (.int n) H'
theorem mC {K:PySem.W.Frag} {vs:List V} {H:Hp} {Q:VK} {E:XK} (h:iI K vs H Q E):vs.length=3:=by obtain ⟨_,_,_,rfl,_⟩:=h;rfl
def wB (_:PySem.W.Frag) (C:Addr):Sp:=fun vs H Q _=> ∃(x dx:Addr) (y w:List Nat) (lg:Nat),vs=[.ref x, .str (S y), .str (S w), .int lg]/\H x=some (.ins C dx [])/\Yd y/\y.length<=8/\SW y w/\w.length<=lg/\lg<=1000/\ ∀(r:Nat) H',bZ w r->H' x=some (.ins C dx (mz y w lg r))->aV x H H'->Q .fH H'
theorem BW {K:PySem.W.Frag} {C:Addr} {vs:List V} {H:Hp} {Q:VK} {E:XK} (h:wB K C vs H Q E):vs.length=4:=by obtain ⟨_,_,_,_,_,rfl,_⟩:=h;rfl
def rZ (_:PySem.W.Frag) (C:Addr):Sp:=fun vs H Q _=> ∃(x dx t w:Addr) (p:Nat),vs=[.ref x, .ref t, .ref w, .int p]/\H x=some (.ins C dx [])/\ ∀H',H' x=some (.ins C dx (IX t w p))->aV x H H'->Q .fH H'
theorem yO {K:PySem.W.Frag} {C:Addr} {vs:List V} {H:Hp} {Q:VK} {E:XK} (h:rZ K C vs H Q E):vs.length=4:=by obtain ⟨_,_,_,_,_,rfl,_⟩:=h;rfl
def gj (_:PySem.W.Frag) (CW CS:Addr):Sp:=fun vs H Q _=> ∃(y:List Nat) (lg:Nat) (s:Sn) (x z:Nat),vs=[.ref s.a, .int x, .int z]/\y.length<=8/\jg H CW CS y lg s/\x<=z/\Q (.str (S (seg (Cp y lg s) x z))) H
theorem nz {K:PySem.W.Frag} {CW CS:Addr} {vs:List V} {H:Hp} {Q:VK} {E:XK} (h:gj K CW CS vs H Q E):vs.length=3:=by obtain ⟨_,_,_,_,_,rfl,_⟩:=h;rfl
def gJ (_:PySem.W.Frag) (CW CS:Addr):Sp:=fun vs H Q _=> ∃(y:List Nat) (lg:Nat) (s:Sn) (x z:Nat),vs=[.ref s.a, .int x, .int z]/\y.length<=8/\jg H CW CS y lg s/\x<=z/\Q (.str (S (seg (Cq y lg s) x z))) H
theorem o9 {K:PySem.W.Frag} {CW CS:Addr} {vs:List V} {H:Hp} {Q:VK} {E:XK} (h:gJ K CW CS vs H Q E):vs.length=3:=by obtain ⟨_,_,_,_,_,rfl,_⟩:=h;rfl
theorem Hv {l:List Nat} {a b:Nat} (h:a<=b):cut l (some (a:Int)) (some (b:Int))=(l.drop a).take (b - a):=by
 unfold cut
 rw[HT.fP,HT.fP]
 by_cases z:a<=l.length
 ·rw[Qag z]
  by_cases z2:b<=l.length
  ·rw[Qag z2]
  ·rw[Qaj (by omega),ZG (by rw[Zz];omega),ZG (by rw[Zz];omega)]
 ·rw[Qaj (by omega),Qaj (by omega),Qaz (Ur _),Qaz (by omega)]
  simp
theorem Ap {l:List Nat} {f x z:Nat} (h:x<=z):cut l (some ((f:Int)+x)) (some ((f:Int)+z))=seg (l.drop f) x z:=by
 rw[show (f:Int)+x=((f+x:Nat):Int) by omega,show (f:Int)+z=((f+z:Nat):Int) by omega,Hv (by omega)]
 unfold seg
 rw[List.drop_drop,show f+z - (f+x)=z - x by omega]
theorem lC {lg n:Nat} (h:1<=n):n*jf lg n<=3*n+lg/\2*n+lg<n*jf lg n:=by
 unfold jf
 rw[Qbg h,Nat.mul_add]
 have h1:=Qca lg n
 have h2:=Qby lg (show 0<n by omega)
 omega
theorem r6 (m:Nat) (l:List Nat):(dQ m l).length=l.length*m:=by
 unfold dQ
 rw[List.length_flatten,List.map_replicate,Qcy,Qa6]
theorem SW.dU {y w:List Nat} (hy:Yd y) (h:SW y w):My.dU w=fM w:=by unfold My.dU;rw[h.core hy]
theorem ub (l:List Nat) (x z j:Nat):(seg l x z)[j]? =if j<z - x then l[x+j]? else none:=by
 unfold seg
 rw[Qbz]
 split
 ·rw[Qau]
 ·rfl
theorem yP {l m:List Nat} {x z:Nat}:seg l x (x+z)=seg m x (x+z)↔ ∀k,x<=k->k<x+z->l[k]? =m[k]?:= by
 constructor
 ·intro h k h1 h2
  have:=congrArg (·[k - x]?) h
  simp only[ub]at this
  rwa [if_pos (by omega),if_pos (by omega),show x+(k - x)=k by omega]at this
 ·intro h
  refine Qck fun j=>?_
  rw[ub,ub]
  by_cases z':j<x+z - x
  ·rw[if_pos z',if_pos z',h (x+j) (by omega) (by omega)]
  ·rw[if_neg z',if_neg z']
noncomputable def K6 (b:Bool) (y:List Nat) (lg:Nat) (s:Sn):List Nat:=if b=true then Cp y lg s else Cq y lg s
def jh (l m:List Nat) (n:Nat):Prop:= ∀k,k<n->l[k]? =m[k]?
def o_ (_:PySem.W.Frag) (CW CS fa fb:Addr):Sp:=fun vs H Q _=> ∃(y:List Nat) (lg:Nat) (s t:Sn) (b:Bool) (en:Nat),vs=[.ref (if b=true then fa else fb), .ref s.a, .ref t.a, .int en]/\y.length<=8/\jg H CW CS y lg s/\jg H CW CS y lg t/\en<=100000/\ ∀m:Nat,jh (K6 b y lg s) (K6 b y lg t) m->(en<=m\/(K6 b y lg s)[m]?≠ (K6 b y lg t)[m]?)->Q (.int m) H
theorem wC {K:PySem.W.Frag} {CW CS fa fb:Addr} {vs:List V} {H:Hp} {Q:VK} {E:XK} (h:o_ K CW CS fa fb vs H Q E):vs.length=4:=by obtain ⟨_,_,_,_,_,_,rfl,_⟩:=h;rfl
theorem jh.more {l m:List Nat} {x z:Nat} (h:jh l m x) (e:seg l x (x+z)=seg m x (x+z)):jh l m (x+z):=fun k hk=>by
 by_cases q:k<x
 ·exact h k q
 ·exact yP.mp e k (by omega) hk
theorem Ey {l m:List Nat} {x z:Nat} (h:seg l x (x+z)≠seg m x (x+z)): ∃k,x<=k/\k<x+z/\l[k]?≠ m[k]?:= Classical.byContradiction fun q=>h (yP.mpr fun k h1 h2=>Classical.byContradiction fun r=>q ⟨k,h1,h2,r⟩)
noncomputable def yQ (s:Sn):Int×Int:=if leads s.u=true then ((s.c:Int),((s.p / s.r:Nat):Int)) else (-(s.c:Int), -(((s.u.length - 1 - s.p) / s.r:Nat):Int))
def ph (_:PySem.W.Frag) (CW CS:Addr):Sp:=fun vs H Q _=> ∃(y:List Nat) (lg:Nat) (s:Sn),vs=[.ref s.a]/\jg H CW CS y lg s/\ ∀p H',H p=none->H' p=some (.tup [.int (yQ s).1, .int (yQ s).2])->ar H H'->Q (.ref p) H'
theorem wD {K:PySem.W.Frag} {CW CS:Addr} {vs:List V} {H:Hp} {Q:VK} {E:XK} (h:ph K CW CS vs H Q E):vs.length=1:=by obtain ⟨_,_,_,rfl,_⟩:=h;rfl
noncomputable def jG (y:List Nat) (M:Nat) (s:Sn):List Int:=kk y (sq s.u s.p) 0 M++[(yQ s).1,(yQ s).2]
def ji (_:PySem.W.Frag) (CW CS:Addr):Sp:=fun vs H Q _=> ∃(y:List Nat) (lg:Nat) (s t:Sn),vs=[.ref s.a, .ref t.a]/\Yd y/\y.length<=8/\jg H CW CS y lg s/\jg H CW CS y lg t/\rd s.u s.p=rd t.u t.p/\ ∀H',ar H H'->Q (.bl (bL (jG y (2*lg) s) (jG y (2*lg) t))) H'
theorem nA {K:PySem.W.Frag} {CW CS:Addr} {vs:List V} {H:Hp} {Q:VK} {E:XK} (h:ji K CW CS vs H Q E):vs.length=2:=by obtain ⟨_,_,_,_,rfl,_⟩:=h;rfl
theorem jj {u:List Nat} {r:Nat} (hn:u≠[]) (h:bZ u r):1<=r/\r<=u.length:=by
 rcases h with ⟨z,_⟩ | ⟨h1,h2,_⟩
 ·exact absurd z hn
 ·exact ⟨h1,h2⟩
theorem Aq {y u:List Nat} {i:Nat} (h:i<u.length):(stx y u)[i]? =some (xi (cst y u i)):=by
 unfold stx
 rw[Zv,List.getElem?_range h]
 rfl
theorem uc (y u:List Nat) (i:Int):cst y u (i%u.length)=cst y u i:=by
 unfold cst
 rw[ig, <-ig u (i%u.length - 1),Qds,Qb9 _ (Int.dvd_refl _), <-Qds,ig]
theorem Ez {y:List Nat} {lg:Nat} {s:Sn} (hn:s.u≠[]) {k:Nat} (h:s.p+1+k<s.u.length*jf lg s.u.length):(Cp y lg s)[k]? =some (xi (gg y (sq s.u s.p) (k+1))):=by
 have hp:=Ut.mpr hn
 unfold Cp
 rw[Qau,kX _ _ _ (by rw[dy,Qa6];exact h),dy,Aq (Qby _ hp),Ew,Qcr,uc]
 congr 3
 omega
theorem EA {y:List Nat} {lg:Nat} {s:Sn} (hn:s.u≠[]) (hp:s.p<s.u.length) {k:Nat} (h:s.u.length - 1 - s.p+k<s.u.length*jf lg s.u.length):(Cq y lg s)[k]? =some (xi (gg y (sq s.u s.p) (-(k:Int)))):=by
 have hl:=Ut.mpr hn
 unfold Cq
 rw[Qau,kX _ _ _ (by rw[ZF,dy,Qa6];exact h),ZF,dy]
 have hm:=Qby (s.u.length - 1 - s.p+k) hl
 rw[Qbj (by rw[dy];exact hm),dy,Aq (by omega),Ew]
 congr 2
 rw[<-uc y s.u (s.p+ -(k:Int)), <-uc y s.u ((s.u.length - 1 - (s.u.length - 1 - s.p+k)%s.u.length:Nat):Int)]
 congr 1
 have e:((s.u.length - 1 - (s.u.length - 1 - s.p+k)%s.u.length:Nat):Int)=(s.u.length:Int) - 1 - ((s.u.length:Int) - 1 - s.p+k)%s.u.length:=by
  have:(((s.u.length - 1 - s.p+k)%s.u.length:Nat):Int)=((s.u.length:Int) - 1 - s.p+k)%s.u.length:=by
   rw[Qcr];congr 1;omega
  omega
 rw[e,Qds,Qb9 _ (Int.dvd_refl _), <-Qds]
 congr 1
 omega
theorem r9 {lg:Nat} {s:Sn} {en:Nat} (hp:s.p<s.u.length) (he:en<=s.u.length+lg):s.p+1+en<s.u.length*jf lg s.u.length+1/\s.u.length - 1 - s.p+en<s.u.length*jf lg s.u.length:=by
 have:=(lC (lg:=lg) (n:=s.u.length) (by omega)).2
 omega
theorem Ar {u:List Nat} {r:Nat} (hn:u≠[]) (h:bZ u r) (p k:Int):sq u p (k+r)=sq u p k:=by
 have:=((jc hn h).2 (p+r) p).mpr (by rw[show p+(r:Int) - p=r by omega,Int.emod_self])
 have e:=this k
 unfold sq at e ⊢
 rw[show p+(k+r)=p+r+k by omega]
 exact e
theorem As {a b:Int} (ha:0<=a) (hb:0<=b) (h:xi a=xi b):a=b:=by unfold xi at h;omega
theorem EB {a b:Int} (ha:0<=a) (hb:0<=b):xi a<xi b↔a<b:=by unfold xi;omega
theorem Au {y:List Nat} {f:Int->Nat} (hy:Yd y) (h:jQ y f) (k:Int):0<=gg y f k:=by
 have:=(eZ (hy.cl _ (h.bW (k - 1))) (h.bW k) (Ne.symm (h.red k))).1
 unfold gg
 omega
theorem Av {l m:List Nat} {en a n:Nat} (ha:a<en) (h1: ∀k,k<a->l[k]? =m[k]?) (h2:l[a]?≠ m[a]?) (g1:jh l m n) (g2:en<=n\/l[n]?≠ m[n]?):n=a:=by
 by_cases z:a<n
 ·exact absurd (g1 a z) h2
 ·by_cases z2:n<a
  ·rcases g2 with g2 | g2
   ·omega
   ·exact absurd (h1 n z2) g2
  ·omega
theorem Aw {l m:List Nat} {en n:Nat} (h1: ∀k,k<en->l[k]? =m[k]?) (g2:en<=n\/l[n]?≠ m[n]?):en<=n:=by
 rcases g2 with g2 | g2
 ·exact g2
 ·exact Classical.byContradiction fun z=>g2 (h1 n (by omega))
theorem oe {l:List Nat} {a x:Nat} (h:l[a]? =some x):seg l a (a+1)=[x]:=by
 obtain ⟨ha,e⟩:=J1.mp h
 unfold seg
 rw[Z1 ha,e,show a+1 - a=1 by omega]
 rfl
theorem EC (x z:Nat):decide ([x]<[z])=decide (x<z):=decide_eq_decide.mpr ⟨fun h=>(Qc5.mp h).elim id fun q=>absurd q.2 (Qb3 _),fun h=>Qc5.mpr (.inl h)⟩
theorem Hw (a b c d:Int):Fz a b c d=bL [a,b] [c,d]:=by
 unfold Fz
 show _=if a=c then (if b=d then bL [] [] else decide (b<d)) else decide (a<c)
 by_cases z:a=c
 ·rw[if_pos z,if_pos z]
  by_cases q:b=d
  ·rw[if_pos q,q];simp[bL]
  ·rw[if_neg q]
 ·rw[if_neg z,if_neg z]
noncomputable def Ax (ss:List Sn):List V:=ss.map fun s=>V.ref s.a
theorem lD (ss:List Sn):(Ax ss).length=ss.length:=by unfold Ax;rw[Us]
theorem K7 {ss:List Sn} {i:Nat} {s:Sn} (h:ss[i]? =some s):(Ax ss)[i]? =some (V.ref s.a):=by unfold Ax;rw[Zv,h];rfl
theorem Hx {ss:List Sn} {i:Nat} {x:V} (h:(Ax ss)[i]? =some x): ∃s,ss[i]? =some s/\x=V.ref s.a:=by
 unfold Ax at h
 rw[Zv]at h
 cases e:ss[i]? with
 | none=>rw[e]at h;cases h
 | some p=>rw[e]at h;cases h;exact ⟨p,rfl,rfl⟩
def BX (y:List Nat) (M:Nat) (ss:List Sn):Prop:=ss.Pairwise fun s t=>bL (jG y M t) (jG y M s)=false
def iJ (_:PySem.W.Frag) (CW CS:Addr):Sp:=fun vs H Q _=> ∃(y:List Nat) (lg:Nat) (a:Addr) (ss:List Sn) (t:Sn),vs=[.ref a, .ref t.a]/\Yd y/\y.length<=8/\H a=some (.lst (Ax ss))/\(∀s∈ss,jg H CW CS y lg s/\rd s.u s.p=rd t.u t.p)/\jg H CW CS y lg t/\BX y (2*lg) ss/\ss.length<=100000/\
 ∀(n:Nat) H',n<=ss.length->(∀k s,ss[k]? =some s->k<n->bL (jG y (2*lg) s) (jG y (2*lg) t)=true)->(∀k s,ss[k]? =some s->n<=k->bL (jG y (2*lg) s) (jG y (2*lg) t)=false)->ar H H'->Q (.int n) H'
theorem mD {K:PySem.W.Frag} {CW CS:Addr} {vs:List V} {H:Hp} {Q:VK} {E:XK} (h:iJ K CW CS vs H Q E):vs.length=2:=by obtain ⟨_,_,_,_,_,rfl,_⟩:=h;rfl
structure Wp where
 t:Addr
 a:Addr
 b:Addr
 r:Nat
 q:Nat
noncomputable def FH (l:List Wp):List V:=l.map fun p=>V.ref p.t
theorem ED {l:List Wp} {i:Nat} {p:Wp} (h:l[i]? =some p):(FH l)[i]? =some (V.ref p.t):=by unfold FH;rw[Zv,h];rfl
theorem EE (l:List Wp) (p:Wp):FH l++[V.ref p.t]=FH (l++[p]):=by unfold FH;rw[Zn];rfl
structure ud (H:Hp) (C:Addr) (y:List Nat) (lg:Nat) (w:List Nat) (p:Wp):Prop where
 tp:H p.t=some (.tup [.ref p.a, .ref p.b])
 on:BV H C p.a y w lg p.r
 bk:BV H C p.b y (gR w) lg p.q
theorem ud.same {H H':Hp} {C:Addr} {y:List Nat} {lg:Nat} {w:List Nat} {p:Wp} (h:ud H C y lg w p) (s:ar H H'):ud H' C y lg w p:=⟨s _ _ h.tp,h.on.same s,h.bk.same s⟩
structure yR (w:List Nat) (c i:Nat) (s:Sn):Prop where
 ec:s.c=c
 ei:s.i=i
 eu:s.u=if aF (rd w i)=true then w else gR w
 ep:s.p=if aF (rd w i)=true then i else w.length - 1 - i
def jk (_:PySem.W.Frag) (CW CS:Addr):Sp:=fun vs H Q _=> ∃(y:List Nat) (lg:Nat) (wt vt st:Addr) (w:List Nat) (ws:List (List Nat)) (lO:List Wp) (p:Wp) (c i:Nat),vs=[.ref wt, .ref vt, .ref st]/\Yd y/\H wt=some (.tup (tE ws))/\H vt=some (.lst (FH lO))/\H st=some (.tup [.int c, .int i])/\ws[c]? =some w/\lO[c]? =some p/\ud H CW y lg w p/\i<w.length/\
 ∀(s:Sn) H',yR w c i s->s.t=st->jg H' CW CS y lg s->H s.a=none->ar H H'->Q (.ref s.a) H'
theorem nB {K:PySem.W.Frag} {CW CS:Addr} {vs:List V} {H:Hp} {Q:VK} {E:XK} (h:jk K CW CS vs H Q E):vs.length=3:=by obtain ⟨_,_,_,_,_,_,_,_,_,_,_,rfl,_⟩:=h;rfl
def jT (_:PySem.W.Frag):Sp:=fun vs H Q _=> ∃(wt:Addr) (ws:List (List Nat)) (band:Nat),vs=[.ref wt, .str (S [band])]/\H wt=some (.tup (tE ws))/\ws.length<=4/\(∀w∈ws,(∀c∈w,Lt c)/\w.length<=12)/\band∈aR/\ ∀(q:Addr) (ps:List Pr) (H':Hp),H q=none->H' q=some (.lst (rR ps))->(∀p∈ps,ny H' p)->ps.map Pr.pair=dk band ws ws.length->ar H H'->Q (.ref q) H'
theorem pj {K:PySem.W.Frag} {vs:List V} {H:Hp} {Q:VK} {E:XK} (h:jT K vs H Q E):vs.length=2:=by obtain ⟨c,_,_,rfl,_⟩:=h;rfl
open Classical in
noncomputable def QP (w:List Nat):Nat:=if h: ∃s,bZ w s then choose h else 0
theorem ue {w:List Nat} (hn:w≠[]):bZ w (QP w):=by
 have h:=zY hn
 unfold QP
 rw[dif_pos h]
 exact Classical.choose_spec h
theorem EF {y w:List Nat} {r q:Nat} (hy:Yd y) (hw:SW y w) (h:bZ w r) (g:bZ (gR w) q):q=r:=by
 have hn:=hw.ne
 have ht:=o4 hn
 have p1:=jj hn h
 have p2:=jj ht g
 have key: ∀d:Nat,(d:Int)%(r:Int)=0↔(d:Int)%(q:Int)=0:=fun d=>by
  have a:=(jc hn h).2 d 0
  have b:=(jc ht g).2 d 0
  rw[Qbq]at a b
  rw[<-a, <-b]
  constructor
  ·intro p k
   rw[jA hn,jA hn]
   unfold bq
   have:=p (-1 - (d:Int) - k)
   unfold sq at this
   have e1:rd w (-1 - (0:Int) - k)=rd w ((d:Int)+(-1 - (d:Int) - k)):=by congr 1;omega
   have e2:rd w (-1 - (d:Int) - k)=rd w (0+(-1 - (d:Int) - k)):=by congr 1;omega
   rw[e1,e2,this]
  ·intro p k
   have e: ∀x:Int,rd w x=aC (rd (gR w) (-1 - x)):=fun x=>by
    rw[me hn,show -1 - (-1 - x)=x by omega,aJ (hy.lt _ (hw.rd _))]
   unfold sq
   rw[e,e]
   have:=p (-1 - (d:Int) - k)
   unfold sq at this
   rw[show -1 - ((d:Int)+k)=0+(-1 - (d:Int) - k) by omega, <-this]
   congr 2
   omega
 have a:=(key r).mp (Int.emod_self)
 have b:=(key q).mpr (Int.emod_self)
 have a':r%q=0:=by
  have:((r%q:Nat):Int)=0:=by rw[<-a];rfl
  omega
 have b':q%r=0:=by
  have:((q%r:Nat):Int)=0:=by rw[<-b];rfl
  omega
 exact Qd0 (Nat.le_of_dvd (by omega) (Nat.dvd_of_mod_eq_zero a')) (Nat.le_of_dvd (by omega) (Nat.dvd_of_mod_eq_zero b'))
noncomputable def FI (ws:List (List Nat)) (c:Nat):Bool:=leads (ws.getD c [])
noncomputable def FJ (ws:List (List Nat)) (c:Nat):Nat:=QP (ws.getD c [])
noncomputable def QQ (y:List Nat) (ws:List (List Nat)) (M:Nat) (x:Nat×Nat):List Int:=cK y ws (FI ws) (FJ ws) M x.1 x.2
theorem yR.line {y w:List Nat} {c i:Nat} {s:Sn} (hy:Yd y) (hw:SW y w) (hi:i<w.length) (h:yR w c i s):sq s.u s.p=lM w i:=by
 rw[h.eu,h.ep]
 unfold lM
 by_cases z:aF (rd w i)=true
 ·rw[if_pos z,if_pos z,if_pos z]
 ·rw[if_neg z,if_neg z,if_neg z, <-KA hw.ne,show ((w.length - 1 - i:Nat):Int)=(w.length:Int) - 1 - i by omega]
theorem Ay {y w:List Nat} {ws:List (List Nat)} {c i M:Nat} {s:Sn} (hy:Yd y) (hw:SW y w) (hi:i<w.length) (e:ws.getD c []=w) (h:yR w c i s) (rt:bZ s.u s.r):jG y M s=QQ y ws M (c,i):=by
 unfold jG QQ cK
 rw[h.line hy hw hi]
 simp only[e]
 congr 1
 unfold yQ FD FI FJ
 rw[e,h.ec]
 have qm:=ue hw.ne
 by_cases z:aF (rd w i)=true
 ·have eu:s.u=w:=by rw[h.eu,if_pos z]
  have ep:s.p=i:=by rw[h.ep,if_pos z]
  rw[eu]at rt ⊢
  have er:=DH hw.ne rt qm
  rw[er,ep,z]
  by_cases l:leads w=true
  ·rw[if_pos l,l];rfl
  ·rw[if_neg l,if_neg (fun q=>l q.symm)];rfl
 ·have eu:s.u=gR w:=by rw[h.eu,if_neg z]
  have ep:s.p=w.length - 1 - i:=by rw[h.ep,if_neg z]
  rw[eu]at rt ⊢
  have er:=EF hy hw qm rt
  have z':aF (rd w i)=false:=by simpa using z
  rw[er,ep,z',rQ hy hw,cD]
  have ei:w.length - 1 - (w.length - 1 - i)=i:=by omega
  rw[ei]
  cases leads w<;>rfl
theorem yR.band {y w:List Nat} {c i band:Nat} {s:Sn} (hy:Yd y) (hw:SW y w) (hi:i<w.length) (hb:band∈aR) (ho:yH band (rd w i)=true) (h:yR w c i s):rd s.u s.p=band:=by
 have lb:Lt band:= .inl hb
 have lo:aF band=true:=by rw[jx lb];exact decide_eq_true hb
 have FV:rd w i=band\/rd w i=aC band:=by
  unfold yH at ho
  simpa using ho
 rw[h.eu,h.ep]
 rcases FV with e | e
 ·rw[if_pos (by rw[e];exact lo),if_pos (by rw[e];exact lo)]
  exact e
 ·have z: ¬aF (rd w i)=true:=by rw[e,fR _ lb.mem,lo];decide
  rw[if_neg z,if_neg z,me hw.ne,show -1 - ((w.length - 1 - i:Nat):Int)=i - w.length by omega,yo,e,aJ lb]
def EG (y:List Nat) (ws:List (List Nat)) (M:Nat) (l:List (Nat×Nat)):Prop:=l.Pairwise fun s t=>bL (QQ y ws M t) (QQ y ws M s)=false
def jU (_:PySem.W.Frag) (CW CS:Addr):Sp:=fun vs H Q _=> ∃(y:List Nat) (lg:Nat) (wt vt:Addr) (ws:List (List Nat)) (lO:List Wp) (band:Nat),vs=[.ref wt, .ref vt, .str (S [band])]/\Yd y/\y.length<=8/\H wt=some (.tup (tE ws))/\ws.length<=4/\(∀w∈ws,SW y w/\w.length<=12)/\band∈aR/\H vt=some (.lst (FH lO))/\lO.length=ws.length/\(∀(c:Nat) (w:List Nat) (p:Wp),ws[c]? =some w->lO[c]? =some p->ud H CW y lg w p)/\
 ∀(q:Addr) (ps:List Pr) (H':Hp),H q=none->H' q=some (.tup (rR ps))->(∀p∈ps,ny H' p)->(ps.map Pr.pair).Perm (dk band ws ws.length)->EG y ws (2*lg) (ps.map Pr.pair)->ar H H'->Q (.ref q) H'
theorem pq {K:PySem.W.Frag} {CW CS:Addr} {vs:List V} {H:Hp} {Q:VK} {E:XK} (h:jU K CW CS vs H Q E):vs.length=3:=by obtain ⟨_,_,_,_,_,_,_,rfl,_⟩:=h;rfl
theorem K8 {y:List Nat} {M:Nat} {ss:List Sn} {t:Sn} {n:Nat} (up:BX y M ss) (h1: ∀k s,ss[k]? =some s->k<n->bL (jG y M s) (jG y M t)=true) (h2: ∀k s,ss[k]? =some s->n<=k->bL (jG y M s) (jG y M t)=false):BX y M (ss.take n++t::ss.drop n):=by
 have tk: ∀s∈ss.take n,bL (jG y M s) (jG y M t)=true:=fun s hs=>by
  obtain ⟨k,hk,e⟩:=Qbv hs
  rw[Zo]at hk
  rw[List.getElem_take]at e
  exact h1 k s (by rw[<-e];exact J0 (by omega)) (by omega)
 have dr: ∀s∈ss.drop n,bL (jG y M s) (jG y M t)=false:=fun s hs=>by
  obtain ⟨k,hk,e⟩:=Qbv hs
  rw[Zz]at hk
  rw[List.getElem_drop]at e
  exact h2 (n+k) s (by rw[<-e];exact J0 (by omega)) (by omega)
 have Ti:BX y M (ss.take n++ss.drop n):=by rw[ZL];exact up
 unfold BX at Ti ⊢
 rw[Qa8]at Ti ⊢
 rw[Qa3]
 obtain ⟨u1,u2,u3⟩:=Ti
 refine ⟨u1,⟨fun s hs=>dr s hs,u2⟩,fun a ha b hb=>?_⟩
 rcases Wj.mp hb with e | e
 ·rw[e];exact (mf (tk a ha)).1
 ·exact u3 a ha b e
theorem jl (band:Nat) {ws:List (List Nat)} (hw: ∀w∈ws,w.length<=12): ∀n,n<=ws.length->(dk band ws n).length<=12*n
 | 0,_=>YU _
 | n+1,h=>by
  have ih:=jl band hw n (by omega)
  unfold dk at ih ⊢
  rw[Qah,Z6,L5,Qb4]
  have h1:(iG band n (ws.getD n []) (ws.getD n []).length).length<=12:=by
   unfold iG
   rw[Us]
   refine ZI (Qc4 _ _) ?_
   rw[Qci]
   exact hw _ (getD_in (by omega))
  omega
theorem yS {band:Nat} {ws:List (List Nat)} {x:Nat×Nat} (h:x∈dk band ws ws.length): ∃w,ws[x.1]? =some w/\x.2<w.length/\yH band (rd w x.2)=true:=by
 unfold dk at h
 obtain ⟨c,hc,h⟩:=ZX.mp h
 have qk:=Qad.mp hc
 unfold iG at h
 obtain ⟨i,hi,e⟩:=ZJ.mp h
 obtain ⟨i1,i2⟩:=ZZ.mp hi
 have U2:=Qad.mp i1
 subst e
 refine ⟨ws.getD c [],by rw[Zp,J0 qk];rfl,U2,?_⟩
 have:(ws.getD c []).getD i 0=rd (ws.getD c []) i:=by
  have:=md U2
  rw[Zp,this];rfl
 show yH band (rd (ws.getD c []) i)=true
 rw[<-this]
 exact i2
theorem r_ {H H':Hp} {x dx C:Addr} (nx:H x=none) (K9:H dx=none) (sm:aV x (L2.upd (L2.upd H dx (.own x)) x (.ins C dx [])) H'):ar H H':=fun a o e=>by
 refine sm a o ?_ (aB e nx)
 rw[aD (aB e nx),aD (aB e K9)]
 exact e
noncomputable def Hy (ws:List (List Nat)):List Int:=ws.map fun w=>(w.length:Int)
theorem Hz (l:List Int): ∀a:Int,a<=l.foldl (fun x y=>if y>x then y else x) a/\(∀x∈l,x<=l.foldl (fun x y=>if y>x then y else x) a)/\(l.foldl (fun x y=>if y>x then y else x) a=a\/l.foldl (fun x y=>if y>x then y else x) a∈l):=by
 induction l with
 | nil=>exact fun a=>⟨Int.le_refl _,fun _ h=>absurd h Zy, .inl rfl⟩
 | cons b r ih=>
  intro a
  rw[Qcc]
  obtain ⟨h1,h2,h3⟩:=ih (if b>a then b else a)
  have h4:a<=(if b>a then b else a)/\b<=(if b>a then b else a):=by split<;>omega
  refine ⟨by omega,fun x hx=>?_,?_⟩
  ·rcases Wj.mp hx with e | e
   ·rw[e];omega
   ·exact h2 x e
  ·rcases h3 with e | e
   ·rw[e]
    split
    ·exact .inr Wi
    ·exact .inl rfl
   ·exact .inr (Uq _ e)
theorem yT {ws:List (List Nat)} (h: ∀w∈ws,w.length<=12): ∃lg:Nat,Ku 0 (Hy ws)=lg/\lg<=12/\ ∀w∈ws,w.length<=lg:=by
 cases ws with
 | nil=>exact ⟨0,rfl,by decide,fun _ h=>absurd h Zy⟩
 | cons v r=>
  obtain ⟨h1,h2,h3⟩:=Hz (Hy r) (v.length:Int)
  have e:Ku 0 (Hy (v::r))=(Hy r).foldl (fun x y=>if y>x then y else x) (v.length:Int):=rfl
  rw[e]
  generalize (Hy r).foldl (fun x y=>if y>x then y else x) (v.length:Int)=m at*
  have hm: ∃w∈v::r,m=(w.length:Int):=by
   rcases h3 with q | q
   ·exact ⟨v,Wi,q⟩
   ·obtain ⟨w,hw,e'⟩:=ZJ.mp q
    exact ⟨w,Uq _ hw,e'.symm⟩
  obtain ⟨w,hw,rfl⟩:=hm
  refine ⟨w.length,rfl,h w hw,fun u hu=>?_⟩
  rcases Wj.mp hu with q | q
  ·rw[q];omega
  ·have:=h2 _ (ZJ.mpr ⟨u,q,rfl⟩)
   omega
def uf (y:List Nat) (ws:List (List Nat)) (os:List Od):Prop:= ∃M,(∀w∈ws, ∀v∈ws,w.length+v.length<=M)/\wm y ws os/\ ∀o∈os,EG y ws M (o.ps.map Pr.pair)
def Az (_:PySem.W.Frag):Sp:=fun vs H Q _=> ∃(y:List Nat) (wt:Addr) (ws:List (List Nat)),vs=[.str (S y), .ref wt]/\Yd y/\y.length<=8/\H wt=some (.tup (tE ws))/\ws.length<=4/\(∀w∈ws,SW y w/\w.length<=12)/\ ∀(dr:Addr) (os:List Od) (H':Hp),yF H' dr ws os->uf y ws os->ar H H'->Q (.ref dr) H'
theorem EH {K:PySem.W.Frag} {vs:List V} {H:Hp} {Q:VK} {E:XK} (h:Az K vs H Q E):vs.length=2:=by obtain ⟨_,_,_,rfl,_⟩:=h;rfl
theorem HA {H:Hp} {C:Addr} {y:List Nat} {lg i:Nat} {ws:List (List Nat)} {lO:List Wp} {w:List Nat} {p:Wp} (hl:lO.length=i) (h: ∀(c:Nat) (w:List Nat) (p:Wp),ws[c]? =some w->lO[c]? =some p->ud H C y lg w p) (hw:ws[i]? =some w) (hp:ud H C y lg w p): ∀(c:Nat) (w:List Nat) (q:Wp),ws[c]? =some w->(lO++[p])[c]? =some q->ud H C y lg w q:=fun c v q hv hq=>by
 by_cases z:c<lO.length
 ·rw[ZW z]at hq
  exact h c v q hv hq
 ·rw[Qaf (by omega)]at hq
  have:c=i:=by
   have:=(J1.mp hq).1
   simp at this
   omega
  subst this
  rw[hl,Nat.sub_self]at hq
  rw[hw]at hv
  cases hv
  cases hq
  exact hp
theorem wF {y:List Nat} (h:Yd y) {b:Nat} (hb:b∈fS y):b∈aR:=by
 obtain ⟨h1,h2⟩:=ZZ.mp ((jB y).mem_iff.mp hb)
 rw[jx (h.lt b h1)]at h2
 exact of_decide_eq_true h2
theorem EI {y:List Nat} {ws:List (List Nat)} {L:Nat->Bool} {r:Nat->Nat} {M:Nat} (h:eO y ws L r M) {c i d j x:Nat} (hc:c<ws.length) (hd:d<ws.length) (hi:i<(ws.getD c []).length) (hj:j<(ws.getD d []).length) (dc:(c,i)≠(d,j)) (hx:aF x=true) (e1:rd (ws.getD c []) i=x\/rd (ws.getD c []) i=aC x) (e2:rd (ws.getD d []) j=x\/rd (ws.getD d []) j=aC x):
  bL (cK y ws L r M c i) (cK y ws L r M d j)=true\/bL (cK y ws L r M d j) (cK y ws L r M c i)=true:=by
 have hw:=h.sw c hc
 have hv:=h.sw d hd
 have hy:=h.yd
 have lw:=Ut.mpr hw.ne
 have lv:=Ut.mpr hv.ne
 have xs: ∀{w:List Nat} {k:Nat},SW y w->(rd w k=x\/rd w k=aC x)->Lt x:=fun {w k} hw e=>by
  have h9:97<=x/\x<=122:=by unfold aF at hx;simpa using hx
  refine .inl ?_
  have: ∀k,k<26->k+97∈aR:=by decide
  have h8:=this (x - 97) (by omega)
  rwa [show x - 97+97=x by omega]at h8
 have lx:=xs hw e1
 have yA: ∀{w:List Nat} {k:Nat},SW y w->Dl w k (lM w k)/\((rd w k=x\/rd w k=aC x)->lM w k 0=x)/\(lM w k=if aF (rd w k)=true then sq w k else bq w k):=fun {w k} hw=>by
  refine ⟨?_,fun e=>?_,rfl⟩
  ·unfold lM
   by_cases z:aF (rd w k)=true
   ·rw[if_pos z];exact .inl rfl
   ·rw[if_neg z];exact .inr rfl
  ·unfold lM
   rcases e with e | e
   ·rw[if_pos (by rw[e];exact hx)]
    unfold sq
    rw[Qac];exact e
   ·have z: ¬aF (rd w k)=true:=by rw[e,fR _ lx.mem,hx];decide
    rw[if_neg z]
    unfold bq
    rw[Qbq,e,aJ lx]
 obtain ⟨df,f0,fe⟩:=yA (k:=i) hw
 obtain ⟨Xh,g0,ge⟩:=yA (k:=j) hv
 have lf:=df.yA hy hw
 have lg:=Xh.yA hy hv
 by_cases par: ∀k,lM (ws.getD c []) i k=lM (ws.getD d []) j k
 ·unfold cK
  rw[show lM (ws.getD c []) i=lM (ws.getD d []) j from funext par,fE,fE]
  by_cases cd:c=d
  ·subst cd
   have ij:i≠j:=fun z=>dc (by rw[z])
   obtain ⟨h1,h2⟩:=h.root hc
   have hr:=h.rp c hc
   -- one and Fu same way
   have low:aF (rd (ws.getD c []) i)=aF (rd (ws.getD c []) j):=by
    by_cases z1:aF (rd (ws.getD c []) i)=true<;>by_cases z2:aF (rd (ws.getD c []) j)=true
    ·rw[z1,z2]
    ·exfalso
     rw[fe,ge,if_pos z1,if_neg z2]at par
     exact tR hy hw _ _ par
    ·exfalso
     rw[fe,ge,if_neg z1,if_pos z2]at par
     exact tR hy hw _ _ fun k=>(par k).symm
    ·rw[show aF (rd (ws.getD c []) i)=false by simpa using z1,show aF (rd (ws.getD c []) j)=false by simpa using z2]
   have ps:cH (ws.getD c []) (ws.getD c []) i j:=by
    by_cases z1:aF (rd (ws.getD c []) i)=true
    ·have z2:aF (rd (ws.getD c []) j)=true:=by rw[<-low];exact z1
     rw[fe,ge,if_pos z1,if_pos z2]at par
     exact par
    ·have z2: ¬aF (rd (ws.getD c []) j)=true:=by rw[<-low];exact z1
     rw[fe,ge,if_neg z1,if_neg z2]at par
     have e:=congrArg mY (funext par)
     rw[<-gi, <-gi,vZ hy (bV hw _),vZ hy (bV hw _)]at e
     exact fun k=>congrFun e k
   have q:=(h.rr c hc _ _).mp ps
   have Hi:i%r c=j%r c:=by
    have q2:=Int.emod_eq_emod_iff_emod_sub_eq_zero.mpr q
    have q3:((i%r c:Nat):Int)=((j%r c:Nat):Int):=q2
    omega
   have k1:= @yC (ws.getD c []).length _ (r c) c i j (L c) (aF (rd (ws.getD c []) j)) hr h1 hi hj Hi ij
   have k2:= @yC (ws.getD c []).length _ (r c) c j i (L c) (aF (rd (ws.getD c []) j)) hr h1 hj hi Hi.symm (Ne.symm ij)
   rw[low]
   by_cases z:aF (rd (ws.getD c []) j)=true
   ·rw[if_pos z]at k1 k2
    rw[k1,k2,decide_eq_true_iff,decide_eq_true_iff]
    omega
   ·rw[if_neg z]at k1 k2
    rw[k1,k2,decide_eq_true_iff,decide_eq_true_iff]
    omega
  ·have hl:L d=if aF (rd (ws.getD d []) j)=aF (rd (ws.getD c []) i) then L c else !L c:=by
    by_cases z1:aF (rd (ws.getD c []) i)=true<;>by_cases z2:aF (rd (ws.getD d []) j)=true
    ·rw[z1,z2,if_pos rfl]
     rw[fe,ge,if_pos z1,if_pos z2]at par
     exact (h.l1 c d i j hc hd par).symm
    ·rw[if_neg (fun q=>z2 (q.trans z1))]
     rw[fe,ge,if_pos z1,if_neg z2]at par
     exact h.l2 c d i j hc hd par
    ·rw[if_neg (fun q=>z1 (q.symm.trans z2))]
     rw[fe,ge,if_neg z1,if_pos z2]at par
     have:=h.l2 d c j i hd hc fun k=>(par k).symm
     rw[this,Bool.not_not]
    ·rw[show aF (rd (ws.getD c []) i)=false by simpa using z1,show aF (rd (ws.getD d []) j)=false by simpa using z2,if_pos rfl]
     rw[fe,ge,if_neg z1,if_neg z2]at par
     have e:=congrArg mY (funext par)
     rw[<-gi, <-gi,vZ hy (bV hw _),vZ hy (bV hv _)]at e
     exact (h.l1 c d i j hc hd fun k=>congrFun e k).symm
   have CU:= @tW (ws.getD c []).length (ws.getD d []).length (r c) (r d) c d i j (L c) (aF (rd (ws.getD c []) i)) (aF (rd (ws.getD d []) j)) cd
   have zq:L c=if aF (rd (ws.getD c []) i)=aF (rd (ws.getD d []) j) then L d else !L d:=by
    rw[hl]
    cases aF (rd (ws.getD d []) j)<;>cases aF (rd (ws.getD c []) i)<;>cases L c<;>rfl
   have KW:= @tW (ws.getD d []).length (ws.getD c []).length (r d) (r c) d c j i (L d) (aF (rd (ws.getD d []) j)) (aF (rd (ws.getD c []) i)) (Ne.symm cd)
   rw[<-hl]at CU
   rw[<-zq]at KW
   rw[CU,KW,hl]
   cases aF (rd (ws.getD d []) j)<;>cases aF (rd (ws.getD c []) i)<;>cases L c<;>simp<;>omega
 ·have tX: ∃k,lM (ws.getD c []) i k≠lM (ws.getD d []) j k:=Classical.byContradiction fun z=>par fun k=>Classical.byContradiction fun w=>z ⟨k,w⟩
  have PB: ∀{w:List Nat} {k:Nat} (z:Int),lM w k (z+w.length)=lM w k z:=fun {w k} z=>by
   unfold lM
   split
   ·exact b_ w k z
   ·exact kc w k z
  obtain ⟨a,b,rn,ha,hb⟩:=dH lw lv PB PB ((f0 e1).trans (g0 e2).symm) tX
  have big:=h.big c d hc hd
  unfold cK
  rw[mi hy lf lg rn _ _ M 0 (YU _) (YU _) (by omega) (by omega),mi hy lg lf rn.sy _ _ M 0 (YU _) (YU _) (by omega) (by omega),KQ hy lf lg (rn.qg a (by omega) (by omega)) rn.hi,DX hy lf lg (rn.qg _ (by omega) (by omega)) rn.lo]
  by_cases z:a<=b
  ·rw[if_pos z,if_pos z]
   cases kZ y (lM (ws.getD c []) i) (lM (ws.getD d []) j) a
   ·exact .inr rfl
   ·exact .inl rfl
  ·rw[if_neg z,if_neg z]
   cases lL y (lM (ws.getD c []) i) (lM (ws.getD d []) j) b
   ·exact .inr rfl
   ·exact .inl rfl
theorem K_ {y:List Nat} {ws:List (List Nat)} {os:List Od} (hy:Yd y) (hw: ∀w∈ws,SW y w) (h:uf y ws os): ∃M,eO y ws (FI ws) (FJ ws) M/\Eh y ws (FI ws) (FJ ws) M os:=by
 obtain ⟨M,hM,ok,up⟩:=h
 have hs: ∀c,c<ws.length->SW y (ws.getD c []):=fun c hc=>hw _ (getD_in hc)
 have hC:eO y ws (FI ws) (FJ ws) M:=D6 hy hs (fun c hc=>ue (hs c hc).ne) fun c d hc hd=>hM _ (getD_in hc) _ (getD_in hd)
 refine ⟨M,hC,ok,fun o ho=>?_⟩
 obtain ⟨j,hj,ej⟩:=Qbv ho
 have QK:j<(fS y).length:=by rw[<-ok.1];exact hj
 have pm:=ok.2 j o (fS y)[j] (by rw[J0 hj,ej]) (J0 QK)
 have bs:=wF hy (ZR QK)
 have lb:Lt (fS y)[j]:= .inl bs
 have lo:aF (fS y)[j]=true:=by rw[jx lb];exact decide_eq_true bs
 have nd:(o.ps.map Pr.pair).Nodup:=pm.nodup_iff.mpr (rV _ _ _)
 have u:=up o ho
 unfold EG at u
 refine Qcn (fun {s t} h1 h2 h=>?_) (List.Pairwise.and u nd)
 obtain ⟨w1,e1,i1,o1⟩:=yS (pm.mem_iff.mp h1)
 obtain ⟨w2,e2,i2,o2⟩:=yS (pm.mem_iff.mp h2)
 have c1:=(J1.mp e1).1
 have c2:=(J1.mp e2).1
 have g1:ws.getD s.1 []=w1:=by rw[Zp,e1];rfl
 have g2:ws.getD t.1 []=w2:=by rw[Zp,e2];rfl
 have on: ∀{l:Nat},yH (fS y)[j] l=true->l=(fS y)[j]\/l=aC (fS y)[j]:=fun {l} q=>by unfold yH at q;simpa using q
 have tr:=EI hC (c:=s.1) (i:=s.2) (d:=t.1) (j:=t.2) c1 c2 (by rw[g1];exact i1) (by rw[g2];exact i2) h.2 lo (by rw[g1];exact on o1) (by rw[g2];exact on o2)
 rcases tr with q | q
 ·exact q
 ·have hf:bL (cK y ws (FI ws) (FJ ws) M t.1 t.2) (cK y ws (FI ws) (FJ ws) M s.1 s.2)=false:=h.1
  rw[hf]at q
  cases q
theorem EJ {α β:Type} (p:β->β->Bool) (f:α->β): ∀l:List α,cl p (l.map f)=cl (fun a b=>p (f a) (f b)) l
 | []=>rfl
 | a::l=>by
  show ((l.map f).filter (p (f a))).length+cl p (l.map f)=(l.filter fun b=>p (f a) (f b)).length+cl _ l
  rw[EJ p f l,List.filter_map,Us]
  rfl
theorem wG {α:Type} {p q:α->α->Bool}: ∀{l:List α},l.Pairwise (fun a b=>p a b=q a b)->cl p l=cl q l
 | [],_=>rfl
 | a::l,h=>by
  rw[Qa3]at h
  show (l.filter (p a)).length+cl p l=(l.filter (q a)).length+cl q l
  rw[wG h.2,Qdp fun b hb=>h.1 b hb]
theorem EK {a b a' b':Nat} (h1:a<b) (h2:a'<b') (h4:a<a') (h5:b≠a') (h6:b≠b'):(lN (a,b) (a',b')||lN (a',b') (a,b))=nu a b a' b':=by
 have g4:=Qbo h4 h2
 rw[DP (Zu h1) (Zu h4) (Zu g4) h5 h6]
 unfold lN
 rw[decide_eq_true h4,decide_eq_true g4,decide_eq_false (Qce h4),jz (Ne.symm h6)]
 have k:decide (b'<b)=true->decide (a'<b)=true:=fun q=>decide_eq_true (Qbo h2 (of_decide_eq_true q))
 revert k
 generalize decide (a'<b)=p
 generalize decide (b'<b)=q
 revert p q
 decide
theorem ui {a b a' b':Nat} (h1:a<b) (h2:a'<b') (h3:a≠a') (h4:a≠b') (h5:b≠a') (h6:b≠b'):(lN (a,b) (a',b')||lN (a',b') (a,b))=nu a b a' b':=by
 rcases Qbd h3 with q | q
 ·exact EK h1 h2 q h5 h6
 ·rw[Bool.or_comm,EK h2 h1 q (Ne.symm h4) (Ne.symm h6),nX (Zu h2) (Zu h1) (Ne.symm h3) (Ne.symm h5) (Ne.symm h4) (Ne.symm h6)]
theorem HB {a b a' b':Nat} (h1:a≠b) (h2:a'≠b') (h3:a≠a') (h4:a≠b') (h5:b≠a') (h6:b≠b'):(lN (min a b,max a b) (min a' b',max a' b')||lN (min a' b',max a' b') (min a b,max a b))=nu a b a' b':=by
 rcases Qbd h1 with q | q<;>rcases Qbd h2 with r | r
 ·rw[Qag (ZT q),Qbn (ZT q),Qag (ZT r),Qbn (ZT r)]
  exact ui q r h3 h4 h5 h6
 ·rw[Qag (ZT q),Qbn (ZT q),Qaj (ZT r),Qbg (ZT r),i_]
  exact ui q r h4 h3 h6 h5
 ·rw[Qaj (ZT q),Qbg (ZT q),Qag (ZT r),Qbn (ZT r), <-wa h1 h2 h3 h4 h5 h6]
  exact ui q r h5 h6 h3 h4
 ·rw[Qaj (ZT q),Qbg (ZT q),Qaj (ZT r),Qbg (ZT r), <-wa h1 h2 h3 h4 h5 h6,i_]
  exact ui q r h6 h5 h4 h3
section
variable {y:List Nat} {ws:List (List Nat)} {L:Nat->Bool} {r:Nat->Nat} {M:Nat}
noncomputable def nC (ps:List (Nat×Nat×Nat)) (c i e:Nat):Nat:=ps.idxOf (c,i,e)
theorem HC {n i:Nat} (h:i<n):jb n ((i:Int) - 1)=xh n i/\jb n (i:Int)=i:=by
 have h1:=eI (n:=n) (by omega) ((i:Int) - 1)
 have h2:=eI (n:=n) (by omega) (i:Int)
 rw[Aj h]at h1
 rw[ZH (by omega) (by omega)]at h2
 omega
theorem lE {ps:List (Nat×Nat×Nat)} {c i:Nat} (hi:i<(ws.getD c []).length):(jS ps c (ws.getD c []) i).2.2.1=pI ws (nC ps) c ((i:Int) - 1)/\(jS ps c (ws.getD c []) i).2.2.2=pO ws (nC ps) c i:=by
 obtain ⟨e1,e2⟩:=HC hi
 have g: ∀k,k<(ws.getD c []).length->(ws.getD c []).getD k 0=rd (ws.getD c []) k:=fun k hk=>by
  rw[Zp,md hk];rfl
 have dc:ws.getD c []≠[]:=fun z=>by rw[z]at hi;exact absurd hi (Qc1 _)
 unfold jS pI pO nC
 rw[e1,e2,g _ (yL hi),g _ hi]
 refine ⟨?_,rfl⟩
 have:rd (ws.getD c []) (xh (ws.getD c []).length i:Nat)=rd (ws.getD c []) ((i:Int) - 1):=by rw[<-e1,b8 dc]
 rw[this]
theorem mE (ps:List (Nat×Nat×Nat)) (ws:List (List Nat)): ∀n,gF ps ws n=(vW ws n).map fun x=>jS ps x.1 (ws.getD x.1 []) x.2
 | 0=>rfl
 | n+1=>by
  have ih:=mE ps ws n
  unfold gF at ih ⊢
  unfold vW
  rw[Qah,Z6,ih,Zn,Qb4,Z_]
  rfl
theorem EL (ws:List (List Nat)) (n:Nat):(vW ws n).Nodup:=(zT n).imp fun {a b} h z=>by
 rw[z]at h
 unfold Fz at h
 simp at h
theorem EM (h:eO y ws L r M) {ps:List (Nat×Nat×Nat)} (hN:Lies y ws L r M (nC ps)) (l:List (Nat×Nat)) (hl:l.Nodup) (uR: ∀x∈l,x.1<ws.length/\x.2<(ws.getD x.1 []).length):(eK (l.map fun x=>jS ps x.1 (ws.getD x.1 []) x.2)).Nodup:=by
 unfold eK
 induction l with
 | nil=>exact List.Pairwise.nil
 | cons x t ih=>
  rw[ZN]at hl
  rw[ZC,ZU,Qaa]
  obtain ⟨x1,x2⟩:=uR x Wi
  have ex:=lE (ps:=ps) (ws:=ws) (c:=x.1) x2
  refine ⟨?_,ih hl.2 fun z hz=>uR z (Uq _ hz),fun a ha b hb e=>?_⟩
  ·rw[ex.1,ex.2,ZN]
   exact ⟨by simpa using (eJ h hN x1 x1 x2 x2).1,by simp⟩
  ·obtain ⟨c4,Xi,IL⟩:=ZX.mp hb
   obtain ⟨z,hz,rfl⟩:=ZJ.mp Xi
   obtain ⟨z1,z2⟩:=uR z (Uq _ hz)
   have ez:=lE (ps:=ps) (ws:=ws) (c:=z.1) z2
   have dc:(x.1,x.2)≠(z.1,z.2):=fun q=>hl.1 (by
    have:x=z:=Prod.ext (Prod.mk.inj q).1 (Prod.mk.inj q).2
    rw[this];exact hz)
   have n1:=eJ h hN x1 z1 x2 z2
   have n2:=eJ h hN z1 x1 z2 x2
   rw[ex.1,ex.2]at ha
   rw[ez.1,ez.2]at IL
   have U3:a=pI ws (nC ps) x.1 ((x.2:Int) - 1)\/a=pO ws (nC ps) x.1 x.2:=by simpa using ha
   have jN:b=pI ws (nC ps) z.1 ((z.2:Int) - 1)\/b=pO ws (nC ps) z.1 z.2:=by simpa using IL
   rw[e]at U3
   rcases U3 with p | p<;>rcases jN with q | q<;>rw[p]at q
   ·exact (n1.2 dc).1 q
   ·exact n1.1 q
   ·exact n2.1 q.symm
   ·exact (n1.2 dc).2 q
theorem EN (h:eO y ws L r M) {ps:List (Nat×Nat×Nat)} (hN:Lies y ws L r M (nC ps)) (l:List (Nat×Nat)) (hl:l.Nodup) (uR: ∀x∈l,x.1<ws.length/\x.2<(ws.getD x.1 []).length):cl (fun x z=>lN x z||lN z x) (o8 (l.map fun x=>jS ps x.1 (ws.getD x.1 []) x.2))=cl (Mb ws (nC ps)) l:=by
 unfold o8
 rw[Z_,EJ]
 refine wG (Qcn (fun {a b} ha hb Co=>?_) hl)
 obtain ⟨a1,a2⟩:=uR a ha
 obtain ⟨b1,b2⟩:=uR b hb
 have ea:=lE (ps:=ps) (ws:=ws) (c:=a.1) a2
 have eb:=lE (ps:=ps) (ws:=ws) (c:=b.1) b2
 have dc:(a.1,a.2)≠(b.1,b.2):=Co
 have n1:=eJ h hN a1 b1 a2 b2
 have n2:=eJ h hN b1 a1 b2 a2
 have n3:=eJ h hN a1 a1 a2 a2
 have n4:=eJ h hN b1 b1 b2 b2
 show (lN (min _ _,max _ _) (min _ _,max _ _)||lN (min _ _,max _ _) (min _ _,max _ _))=Mb ws (nC ps) a b
 rw[ea.1,ea.2,eb.1,eb.2,HB n3.1 n4.1 (n1.2 dc).1 n1.1 (Ne.symm n2.1) (n1.2 dc).2]
 rfl
end
noncomputable def kr (w:List Nat):Int:=((w.length / QP w:Nat):Int)
noncomputable def pA (y w:List Nat):Int:=SS y w w+2*(kr w - 1)
noncomputable def EO (y:List Nat) (ws:List (List Nat)):Int:=sm ws.length (fun c=>pA y (ws.getD c.toNat []))+2*uQ ws.length (fun c d=>SS y (ws.getD c.toNat []) (ws.getD d.toNat []))
theorem La (h:Int->Int) (n:Nat):2*sm n h=sm n fun i=>2*h i:=by
 rw[show (fun i=>2*h i)=fun i=>h i+h i from funext fun i=>Int.two_mul _,oZ,Int.two_mul]
theorem Lc {y:List Nat} {ws:List (List Nat)} {M:Nat} {N:Nat->Nat->Nat->Nat} (h:eO y ws (FI ws) (FJ ws) M) (hN:Lies y ws (FI ws) (FJ ws) M N):2*(cl (Mb ws N) (places ws):Int)=EO y ws:=by
 unfold places EO
 rw[D0,Int.mul_add,La]
 congr 1
 ·refine bg fun c hc=>?_
  rw[YT]
  have a:=DW h hN hc
  rw[IT h.yd (h.sw c hc) (h.sw c hc)]at a
  rw[show uQ (ws.getD c []).length (fun i j=>one (Mb ws N (c,i.toNat) (c,j.toNat)=true))=uQ (ws.getD c []).length (fun i j=>one (iO (pO ws N c) (pI ws N c) (pO ws N c) (pI ws N c) i j=true)) from mj fun i j _ _=>by
   unfold Mb
   rw[YT,YT],a]
  rfl
 ·congr 1
  refine mj fun c d m8 hd=>?_
  rw[YT,YT, <-IT h.yd (h.sw c (Qbo m8 hd)) (h.sw d hd), <-BL h hN (c:=c) (d:=d) (Qbo m8 hd) hd (Zu m8)]
  exact cG fun i j _ _=>by
   unfold Mb
   rw[YT,YT]
theorem BY {y:List Nat} {ws:List (List Nat)} {os:List Od} (hy:Yd y) (hw: ∀w∈ws,SW y w) (h:uf y ws os):(eK (rW y ws os)).Nodup/\2*(cl (fun x z=>lN x z||lN z x) (o8 (rW y ws os)):Int)=EO y ws:=by
 obtain ⟨M,hC,hT⟩:=K_ hy hw h
 have hN:Lies y ws (FI ws) (FJ ws) M (nC (n0 y os)):=lies_of hy hC.sw hT
 have uR: ∀x∈places ws,x.1<ws.length/\x.2<(ws.getD x.1 []).length:=fun x hx=>tI.mp hx
 unfold rW
 rw[mE]
 refine ⟨EM hC hN _ (EL ws _) uR,?_⟩
 rw[EN hC hN _ (EL ws _) uR]
 exact Lc hC hN
theorem ER (y w:List Nat):EO y [w]=pA y w:=by
 show (0+pA y w)+2*(0+0)=_
 omega
theorem Py.ok {y:List Nat} {ws:List (List Nat)} (h:Py y ws):PD y ws:=⟨h.uN,fun w hw=>⟨(h.sw w hw).1.bW,(h.sw w hw).2⟩⟩
theorem BZ {y:List Nat} {ws:List (List Nat)} {os:List Od} (h:Py y ws):(rW y ws os).length<=24:=by
 unfold rW
 rw[mE,Us]
 exact h.all
theorem HD {y w:List Nat} (h:SW y w) (hz:w.length<=12):Py y [w]:=⟨fun v hv=>by rw[Wg.mp hv];exact ⟨h,hz⟩,by show 1<=4;decide,by
 have:=zZ (ws:=[w]) (m:=12) (fun v hv=>by rw[Wg.mp hv];exact hz) 1 (Ur _)
 unfold places
 show (vW [w] 1).length<=24
 omega⟩
def wH (_:PySem.W.Frag):Sp:=fun vs H Q _=> ∃(y:List Nat) (wt:Addr) (ws:List (List Nat)),vs=[.str (S y), .ref wt]/\Yd y/\y.length<=8/\Py y ws/\H wt=some (.tup (tE ws))/\ ∀(n:Nat) H',ar H H'->2*(n:Int)=EO y ws->Q (.int n) H'
theorem B2 {K:PySem.W.Frag} {vs:List V} {H:Hp} {Q:VK} {E:XK} (h:wH K vs H Q E):vs.length=2:=by obtain ⟨_,_,_,rfl,_⟩:=h;rfl
def ES (_:PySem.W.Frag):Sp:=fun vs H Q _=> ∃(y w:List Nat),vs=[.str (S y), .str (S w)]/\Yd y/\y.length<=8/\SW y w/\w.length<=12/\ ∀(n:Nat) H',ar H H'->2*(n:Int)=pA y w->Q (.int n) H'
theorem len_own {K:PySem.W.Frag} {vs:List V} {H:Hp} {Q:VK} {E:XK} (h:ES K vs H Q E):vs.length=2:=by obtain ⟨_,_,rfl,_⟩:=h;rfl
theorem one_le (p:Prop):0<=one p/\one p<=1:=by
 by_cases z:p
 ·rw[gD z];decide
 ·rw[bp z];decide
theorem ET {h:Int->Int} {b:Nat} (k: ∀i:Int,0<=h i/\h i<=b): ∀n:Nat,0<=sm n h/\sm n h<=(n*b:Nat)
 | 0=>by rw[Nat.zero_mul];exact ⟨Int.le_refl _,Int.le_refl _⟩
 | n+1=>by
  have a:=ET k n
  have c:=k n
  rw[Qb2]
  show 0<=sm n h+h n/\sm n h+h n<=_
  omega
theorem PL (y w v:List Nat):0<=SS y w v/\SS y w v<=(w.length*(v.length*3):Nat):=ET (fun i=>ET (b:=3) (fun j=>by
 unfold bs
 have a:=one_le (ac y (aC (rd w (i - 1))) (rd w i) (aC (rd v (j - 1))) (rd v j)=true)
 have b:=one_le (nq y (sq w i) (sq v j))
 have c:=one_le (nq y (sq w i) (bq v j))
 omega) v.length) w.length
theorem HE {y:List Nat} (hy:Yd y) (k:Nat):W8 y (y.drop k++y.take k) id false:=by
 have e:y.take k++y.drop k=y:=ZL k y
 have hz:Yd (y.drop k++y.take k):=hy.perm ((List.Perm.of_eq e.symm).trans Qa4)
 refine ⟨hy,hz,fun a ha=>?_,fun a _ b _ q=>q,fun a _=>rfl,fun a ha b hb c hc ab ac bc=>?_⟩
 ·rw[<-e]at ha
  exact (Zx.mp ha).elim (fun g=>ZD _ g) fun g=>Qae _ g
 ·have g:=KR (a:=y.take k) (b:=y.drop k) (x:=a) (y:=b) (z:=c) (by rw[e];exact hy.nd) (by rw[e];exact ha) (by rw[e];exact hb) (by rw[e];exact hc) ab ac bc
  rw[e]at g
  show My.gr _ a b c=_
  rw[g]
  cases My.gr y a b c<;>rfl
noncomputable def Tj (y c:List Nat):Bool:=decide (pA y c=0)
theorem Ld {y w:List Nat} (hw:w≠[]):0<=pA y w/\SS y w w<=pA y w:=by
 have k:1<=kr w:=by
  unfold kr
  have r:=ue hw
  rcases r with g | ⟨h1,h2,_⟩
  ·exact absurd g.1 hw
  ·have:=Nat.div_pos h2 h1
   omega
 have s:=(PL y w w).1
 unfold pA
 omega
def m3 (_:PySem.W.Frag):Sp:=fun vs H Q _=> ∃(b:Addr),vs=[.ref b, .int 2, .int 4]/\bT H b/\ ∀(t:Addr) (z:List Nat) (x y:Nat) H',Yd z->4<=z.length->z.length<=8->x∈z->y∈z->x∈aR->y∈aR->x≠y->H' t=some (.tup [.str (S z), .str (S [x]), .str (S [y])])->t≠b->bT H' b->aV b H H'->Q (.ref t) H'
theorem uj {K:PySem.W.Frag} {vs:List V} {H:Hp} {Q:VK} {E:XK} (h:m3 K vs H Q E):vs.length=3:=by obtain ⟨_,rfl,_⟩:=h;rfl
def wI (_:PySem.W.Frag):Sp:=fun vs H Q _=> ∃(b:Addr) (z:List Nat) (x y:Nat),vs=[.ref b, .str (S [x]), .str (S [y]), .int 12]/\bT H b/\Yd z/\x∈z/\y∈z/\x∈aR/\y∈aR/\x≠y/\ ∀(w:List Nat) H',SW z w->w.length<=12->bT H' b->aV b H H'->Q (.str (S w)) H'
theorem B3 {K:PySem.W.Frag} {vs:List V} {H:Hp} {Q:VK} {E:XK} (h:wI K vs H Q E):vs.length=4:=by obtain ⟨_,_,_,_,rfl,_⟩:=h;rfl
theorem EU (a:List Nat): ∀ls:List (List Nat),A3 (.str (S a)) (tE ls)=decide (a∈ls)
 | []=>by simp[A3,tE]
 | l::ls=>by
  have ih:=EU a ls
  have e:A3 (.str (S a)) (tE (l::ls))=(CD (.str (S l)) (.str (S a))||A3 (.str (S a)) (tE ls)):=rfl
  rw[e,ih]
  have e2:CD (.str (S l)) (.str (S a))=decide (a=l):=by
   show (S l==S a)=_
   by_cases z:a=l
   ·subst z;simp
   ·rw[decide_eq_false z]
    exact beq_eq_false_iff_ne.mpr fun q=>z (by rw[<-eR l,q,eR])
  rw[e2]
  by_cases z:a=l
  ·subst z;simp
  ·simp[z]
theorem Le {y w:List Nat} {x u:Nat} (hy:Yd y) (hx:x∈y) (hu:u∈y) (n1:u≠aC x) (n2:x≠aC u) (hw:w≠[]) (h: ∀c∈w,c=x\/c=u):SW y w:=⟨hw,fun c hc=>(h c hc).elim (fun g=>by rw[g];exact hx) fun g=>by rw[g];exact hu,fun k q=>by
 rcases h _ (eX hw k) with a | a<;>rcases h _ (eX hw (k - 1)) with b | b<;>rw[a,b]at q
 ·exact eT (hy.lt x hx) q.symm
 ·exact n2 q
 ·exact n1 q
 ·exact eT (hy.lt u hu) q.symm⟩
noncomputable def IZ (y:List Nat) (f g:Int->Nat) (p n:Nat):Bool:=if f 0=g 0 then gr y (f (gu f g n 0)) (g (gu f g n 0)) (aC (f ((gu f g n 0:Nat) - 1))) else gr y (f 0) (g 0) p
noncomputable def EV (y w v:List Nat) (i j:Int):Bool:=if aC (rd w (i - 1))=rd v j\/aC (rd w (i - 1))=aC (rd v (j - 1)) then false else (IZ y (sq w i) (sq v j) (aC (rd w (i - 1))) (w.length+v.length) != IZ y (sq w i) (bq v (j - 1)) (aC (rd w (i - 1))) (w.length+v.length))
theorem og {y:List Nat} {p x b:Nat} (hy:Yd y) (hp:p∈y) (hx:x∈y) (hb:b∈y) (px:p≠x) (pb:p≠b) (xb:x≠b):gr y p b x=!gr y x b p:=by
 rw[zS hy.nd hp hx hb px pb xb,DD hy.nd hp hx hb px pb xb]
theorem wJ {y:List Nat} {f g:Int->Nat} {n:Nat} (h:f 0≠g 0\/f (-1)=g (-1)):one (0<al y f g n)=0:=bp (by unfold al;rw[if_pos h];exact ZS 0)
theorem PM {y:List Nat} {f g:Int->Nat} {n:Nat} (h0:f 0=g 0) (h1:f (-1)≠g (-1)) (hd:f (gu f g n 0)≠g (gu f g n 0)):0<al y f g n↔gr y (aC (f (-1))) (aC (g (-1))) (f 0)=gr y (f (gu f g n 0)) (g (gu f g n 0)) (aC (f ((gu f g n 0:Nat) - 1))):=by
 unfold al
 rw[if_neg (fun z=>z.elim (fun q=>q h0) h1)]
 have hp:0<gu f g n 0:=Qdi fun z=>hd (by rw[z];exact h0)
 by_cases e:gr y (aC (f (-1))) (aC (g (-1))) (f 0)=gr y (f (gu f g n 0)) (g (gu f g n 0)) (aC (f ((gu f g n 0:Nat) - 1)))
 ·rw[if_pos e];exact ⟨fun _=>e,fun _=>hp⟩
 ·rw[if_neg e];exact ⟨fun z=>absurd z (ZS 0),fun z=>absurd z e⟩
theorem Lf {y w v:List Nat} (hy:Yd y) (hw:SW y w) (hv:SW y v) (i j:Int):one (EV y w v i j=true)=one (ac y (aC (rd w (i - 1))) (rd w i) (aC (rd v (j - 1))) (rd v j)=true)+one (nq y (sq w i) (sq v j))+one (nq y (sq w i) (bq v (j - 1))):=by
 have ug:sq w i (-1)≠sq v j (-1)->_:=fun z=>dW (f:=sq w i) (g:=sq v j) hw.ne hv.ne (fun k=>b_ w i k) (fun k=>b_ v j k) z
 have uh:sq w i (-1)≠bq v (j - 1) (-1)->_:=fun z=>dW (f:=sq w i) (g:=bq v (j - 1)) hw.ne hv.ne (fun k=>b_ w i k) (fun k=>kc v (j - 1) k) z
 rw[bo (rN (n:=w.length+v.length) hy (bV hw i) (bV hv j) ug),bo (rN (n:=w.length+v.length) hy (bV hw i) (mh hy hv (j - 1)) uh)]
 have f0:sq w i 0=rd w i:=by unfold sq;rw[Qac]
 have g0:sq v j 0=rd v j:=by unfold sq;rw[Qac]
 have h0:bq v (j - 1) 0=aC (rd v (j - 1)):=by unfold bq;rw[Qbq]
 have f1:sq w i (-1)=rd w (i - 1):=rfl
 have g1:sq v j (-1)=rd v (j - 1):=rfl
 have h1:bq v (j - 1) (-1)=aC (rd v j):=by unfold bq;rw[show j - 1 - -1=j by omega]
 have lv:=hy.lt _ (hv.rd j)
 have Xj:=hy.lt _ (hv.rd (j - 1))
 have U4:=hy.lt _ (hw.rd (i - 1))
 have hx:=hw.rd i
 have ha:=hv.rd j
 have hp:=hy.cl _ (hw.rd (i - 1))
 have hb:=hy.cl _ (hv.rd (j - 1))
 have px:aC (rd w (i - 1))≠rd w i:=Ne.symm (hw.red i)
 have ba:aC (rd v (j - 1))≠rd v j:=Ne.symm (hv.red j)
 unfold EV ac
 by_cases pa:aC (rd w (i - 1))=rd v j
 ·rw[if_pos (.inl pa),if_pos (.inr (.inr (.inl pa.symm))),wJ (.inl (by rw[f0,g0, <-pa];exact Ne.symm px)),wJ (.inr (by rw[f1,h1, <-pa,aJ U4])),Qac,Qac]
 by_cases pb:aC (rd w (i - 1))=aC (rd v (j - 1))
 ·rw[if_pos (.inr pb),if_pos (.inl pb.symm),wJ (.inr (by rw[f1,g1];exact fk U4 Xj pb)),wJ (.inl (by rw[f0,h0, <-pb];exact Ne.symm px)),Qac,Qac]
 rw[if_neg (fun z=>z.elim pa pb)]
 have U5:sq w i (-1)≠sq v j (-1):=fun z=>pb (by rw[f1,g1]at z;rw[z])
 have U6:sq w i (-1)≠bq v (j - 1) (-1):=fun z=>pa (by rw[f1,h1]at z;rw[z,aJ lv])
 by_cases xa:rd w i=rd v j
 ·have xb:rd w i≠aC (rd v (j - 1)):=by rw[xa];exact Ne.symm ba
  have U7:sq w i 0=sq v j 0:=by rw[f0,g0,xa]
  rw[if_pos (.inr (.inr (.inr xa.symm))),wJ (g:=bq v (j - 1)) (.inl (by rw[f0,h0];exact xb)),bo (PM U7 U5 (ug U5).2)]
  unfold IZ
  rw[if_pos U7,if_neg (by rw[f0,h0];exact xb),f0,h0,f1,g1,og hy hp hx hb px pb xb]
  generalize gr y (rd w i) (aC (rd v (j - 1))) (aC (rd w (i - 1)))=G
  generalize gr y (sq w i _) _ _=A
  rw[bp (p:=false=true) Zw,Qaw,Qac]
  exact bo (by cases G<;>cases A<;>simp)
 by_cases xb:rd w i=aC (rd v (j - 1))
 ·have U8:sq w i 0=bq v (j - 1) 0:=by rw[f0,h0,xb]
  rw[if_pos (.inr (.inl xb.symm)),wJ (g:=sq v j) (.inl (by rw[f0,g0];exact xa)),bo (PM U8 U6 (uh U6).2)]
  unfold IZ
  rw[if_pos U8,if_neg (by rw[f0,g0];exact xa),f0,g0,f1,h1,aJ lv,og hy hp hx ha px pa xa]
  generalize gr y (rd w i) (rd v j) (aC (rd w (i - 1)))=G
  generalize gr y (sq w i _) _ _=A
  rw[bp (p:=false=true) Zw,Qaw,Qaw]
  exact bo (by cases G<;>cases A<;>simp)
 rw[if_neg (fun z=>by rcases z with z | z | z | z;exact pb z.symm;exact xb z.symm;exact pa z.symm;exact xa z.symm),wJ (g:=sq v j) (.inl (by rw[f0,g0];exact xa)),wJ (g:=bq v (j - 1)) (.inl (by rw[f0,h0];exact xb))]
 unfold IZ
 rw[if_neg (by rw[f0,g0];exact xa),if_neg (by rw[f0,h0];exact xb),f0,g0,h0,og hy hp hx hb px pb xb,og hy hp hx ha px pa xa,Qac,Qac]
 generalize gr y (rd w i) (aC (rd v (j - 1))) (aC (rd w (i - 1)))=G
 generalize gr y (rd w i) (rd v j) (aC (rd w (i - 1)))=A
 exact bo (by cases G<;>cases A<;>simp)
theorem HF {y w v:List Nat} (hy:Yd y) (hw:SW y w) (hv:SW y v):de w.length v.length (fun i j=>one (EV y w v i j=true))=SS y w v:=by
 rw[show de w.length v.length (fun i j=>one (EV y w v i j=true))=de w.length v.length (fun i j=>(one (ac y (aC (rd w (i - 1))) (rd w i) (aC (rd v (j - 1))) (rd v j)=true)+one (nq y (sq w i) (sq v j)))+one (nq y (sq w i) (bq v (j - 1)))) from cG fun i j _ _=>Lf hy hw hv i j,dJ]
 rw[show de w.length v.length (fun i j=>one (nq y (sq w i) (bq v (j - 1))))=de w.length v.length (fun i j=>one (nq y (sq w i) (bq v j))) from bg fun i _=>lh (h:=fun j=>one (nq y (sq w i) (bq v j))) fun k=>by rw[tQ], <-dJ]
 rfl
def jm (H:Hp) (p:Addr) (w:List Nat) (f:Int->Nat):Prop:= ∃i d:Int,H p=some (.tup [.str (S []), .str (S w), .int i, .int d])/\((d=1/\f=sq w i)\/(d= -1/\f=bq w (i - 1)))
theorem jm.same {H H':Hp} {p:Addr} {w:List Nat} {f:Int->Nat} (h:jm H p w f) (s:ar H H'):jm H' p w f:=by
 obtain ⟨i,d,e,r⟩:=h
 exact ⟨i,d,s p _ e,r⟩
def FK (w:List Nat):Prop:=w≠[]/\(∀c∈w,Lt c)/\w.length<=1000
theorem jm.lt {H:Hp} {p:Addr} {w:List Nat} {f:Int->Nat} (h:jm H p w f) (l:FK w) (k:Int):Lt (f k):=by
 obtain ⟨i,d,_,r⟩:=h
 rcases r with ⟨_,rfl⟩ | ⟨_,rfl⟩
 ·exact l.2.1 _ (eX l.1 _)
 ·exact (l.2.1 _ (eX l.1 _)).aC
def AA (_:PySem.W.Frag):Sp:=fun vs H Q _=> ∃(w:List Nat) (i d:Int),vs=[.str (S w), .int i, .int d]/\ ∀p,H p=none->Q (.ref p) (upd H p (.tup [.str (S []), .str (S w), .int i, .int d]))
theorem EW {K:PySem.W.Frag} {vs:List V} {H:Hp} {Q:VK} {E:XK} (h:AA K vs H Q E):vs.length=3:=by obtain ⟨_,_,_,rfl,_⟩:=h;rfl
def pB (_:PySem.W.Frag):Sp:=fun vs H Q _=> ∃(p:Addr) (w:List Nat) (f:Int->Nat) (k:Nat),vs=[.ref p, .int k]/\jm H p w f/\FK w/\Q (.str (S [f k])) H
theorem wK {K:PySem.W.Frag} {vs:List V} {H:Hp} {Q:VK} {E:XK} (h:pB K vs H Q E):vs.length=2:=by obtain ⟨_,_,_,_,rfl,_⟩:=h;rfl
def pE (_:PySem.W.Frag):Sp:=fun vs H Q _=> ∃(p q:Addr) (w v:List Nat) (f g:Int->Nat) (n:Nat),vs=[.ref p, .ref q, .int 0]/\jm H p w f/\jm H q v g/\FK w/\FK v/\f 0=g 0/\f (gu f g n 0)≠g (gu f g n 0)/\ ∀t,H t=none->Q (.ref t) (upd H t (.tup [.int (gu f g n 0:Nat), .str (S [aC (f ((gu f g n 0:Nat) - 1))])]))
theorem wL {K:PySem.W.Frag} {vs:List V} {H:Hp} {Q:VK} {E:XK} (h:pE K vs H Q E):vs.length=3:=by obtain ⟨_,_,_,_,_,_,_,rfl,_⟩:=h;rfl
def sd (_:PySem.W.Frag):Sp:=fun vs H Q _=> ∃(y:List Nat) (p q r:Addr) (w v u:List Nat) (f g h:Int->Nat) (n:Nat),vs=[.str (S y), .ref p, .ref q, .ref r]/\Yd y/\y.length<=8/\jm H p w f/\jm H q v g/\jm H r u h/\FK w/\FK v/\FK u/\(∀k,f k∈y)/\(∀k,g k∈y)/\(∀k,h k∈y)/\f 0≠h 0/\g 0≠h 0/\(f 0=g 0->f (gu f g n 0)≠g (gu f g n 0))/\ ∀H',ar H H'->Q (.bl (IZ y f g (h 0) n)) H'
theorem yU {K:PySem.W.Frag} {vs:List V} {H:Hp} {Q:VK} {E:XK} (h:sd K vs H Q E):vs.length=4:=by obtain ⟨_,_,_,_,_,_,_,_,_,_,_,rfl,_⟩:=h;rfl
def se (_:PySem.W.Frag):Sp:=fun vs H Q _=> ∃(y w v:List Nat) (i j:Nat),vs=[.str (S y), .str (S w), .int i, .str (S v), .int j]/\Yd y/\y.length<=8/\SW y w/\w.length<=12/\SW y v/\v.length<=12/\ ∀H',ar H H'->Q (.bl (EV y w v i j)) H'
theorem yV {K:PySem.W.Frag} {vs:List V} {H:Hp} {Q:VK} {E:XK} (h:se K vs H Q E):vs.length=5:=by obtain ⟨_,_,_,_,_,rfl,_⟩:=h;rfl
def m4 (_:PySem.W.Frag):Sp:=fun vs H Q _=> ∃(y w v:List Nat),vs=[.str (S y), .str (S w), .str (S v)]/\Yd y/\y.length<=8/\SW y w/\w.length<=12/\SW y v/\v.length<=12/\ ∀(n:Nat) H',ar H H'->(n:Int)=SS y w v->Q (.int n) H'
theorem uk {K:PySem.W.Frag} {vs:List V} {H:Hp} {Q:VK} {E:XK} (h:m4 K vs H Q E):vs.length=3:=by obtain ⟨_,_,_,rfl,_⟩:=h;rfl
def AB (_:PySem.W.Frag):Sp:=fun vs H Q _=> ∃(y w:List Nat),vs=[.str (S y), .str (S w)]/\Yd y/\y.length<=8/\SW y w/\w.length<=12/\ ∀(n:Nat) H',ar H H'->(n:Int)=SS y w w / 2+kr w - 1->Q (.int n) H'
theorem EX {K:PySem.W.Frag} {vs:List V} {H:Hp} {Q:VK} {E:XK} (h:AB K vs H Q E):vs.length=2:=by obtain ⟨_,_,rfl,_⟩:=h;rfl
structure HG (y w c:List Nat):Prop where
 lt: ∀l∈w,Lt l
 uN:w.length<=100
 is:core (red w)=c
 sw:c=[]\/SW y c
 len:c.length<=12
noncomputable def EY (y c:List Nat):Bool:=!decide (c=[])&&Tj y c
def pF (_:PySem.W.Frag):Sp:=fun vs H Q _=> ∃(y w c:List Nat),vs=[.str (S y), .str (S w)]/\Yd y/\y.length<=8/\HG y w c/\ ∀H',ar H H'->(SW y c-> ∃k:Nat,2*(k:Int)=pA y c)->Q (.bl (EY y c)) H'
theorem wM {K:PySem.W.Frag} {vs:List V} {H:Hp} {Q:VK} {E:XK} (h:pF K vs H Q E):vs.length=2:=by obtain ⟨_,_,_,rfl,_⟩:=h;rfl
def pG (_:PySem.W.Frag):Sp:=fun vs H Q _=> ∃(y w c:List Nat),vs=[.str (S y), .str (S w)]/\Yd y/\y.length<=8/\HG y w c/\(SW y c-> ∃k:Nat,2*(k:Int)=pA y c)/\ ∀H',ar H H'->Q (.bl (EY y c)) H'
theorem wN {K:PySem.W.Frag} {vs:List V} {H:Hp} {Q:VK} {E:XK} (h:pG K vs H Q E):vs.length=2:=by obtain ⟨_,_,_,rfl,_⟩:=h;rfl
def sg (_:PySem.W.Frag):Sp:=fun vs H Q _=> ∃(y w c:List Nat),vs=[.str (S y), .str (S w)]/\Yd y/\y.length<=8/\HG y w c/\ ∀H',ar H H'->Q (.bl true) H'
theorem yW {K:PySem.W.Frag} {vs:List V} {H:Hp} {Q:VK} {E:XK} (h:sg K vs H Q E):vs.length=2:=by obtain ⟨_,_,_,rfl,_⟩:=h;rfl
def jV (_:PySem.W.Frag):Sp:=fun vs H Q _=> ∃l:List Nat,vs=[.str (S l)]/\(∀c∈l,Lt c)/\l.length<=10000/\ ∀H',ar H H'->Q (.str (S (red l))) H'
theorem pH {K:PySem.W.Frag} {vs:List V} {H:Hp} {Q:VK} {E:XK} (h:jV K vs H Q E):vs.length=1:=by obtain ⟨_,rfl,_⟩:=h;rfl
def lF (_:PySem.W.Frag):Sp:=fun vs H Q _=> ∃l:List Nat,vs=[.str (S l)]/\(∀c∈l,Lt c)/\l.length<=1000/\ ∀H',ar H H'->Q (.str (S (core (red l)))) H'
theorem qC {K:PySem.W.Frag} {vs:List V} {H:Hp} {Q:VK} {E:XK} (h:lF K vs H Q E):vs.length=1:=by obtain ⟨_,rfl,_⟩:=h;rfl
theorem EZ (g:Int->Bool): ∀n:Nat,((((List.range n).map fun j:Nat=>g j).countP id:Nat):Int)=sm n fun b=>one (g b=true)
 | 0=>rfl
 | n+1=>by
  rw[Qah,Zn,List.countP_append,Z0,EZ g n]
  show _=sm n _+one (g n=true)
  congr 1
  show ((List.countP id [g n]:Nat):Int)=_
  cases g n
  ·rw[bp (by decide)];rfl
  ·rw[gD rfl];rfl
theorem wO: ∀(l st:List Nat) {x:Nat},x∈l.foldl dB st->x∈st\/x∈l
 | [],_,_,h=> .inl h
 | a::l,st,x,h=>by
  rcases wO l (dB st a) h with g | g
  ·rcases rD g with g | g
   ·exact .inl g
   ·exact .inr (by rw[g];exact Wi)
  ·exact .inr (Uq _ g)
theorem HH {w:List Nat} {x:Nat} (h:x∈red w):x∈w:=(wO w [] h).resolve_left Zy
theorem AD: ∀{l:List Nat},jw l-> ∀k a b,l[k]? =some a->l[k+1]? =some b->a≠aC b
 | [],_,k,a,b,h1,_=>by simp at h1
 | [x],_,k,a,b,_,h2=>by simp at h2
 | x::z::r,h,0,a,b,h1,h2=>by
  cases YS h1
  cases YS h2
  exact h.1
 | x::z::r,h,k+1,a,b,h1,h2=>AD (l:=z::r) h.2 k a b h1 h2
theorem HI {y r:List Nat} (hy:Yd y) (hr:jw r) (hl: ∀c∈r,c∈y):core r=[]\/SW y (core r):=by
 by_cases z:core r=[]
 ·exact .inl z
 refine .inr (SW.of z (fun c hc=>hl c (oW hc)) (fun k a b h1 h2 e=>?_) fun a b h1 h2 e=>?_)
 ·have ia:=hy.lt a (hl a (oW (Zs h1)))
  exact AD (Dw hr) k a b h1 h2 (by rw[e,aJ ia])
 ·have cc:=Bz r
  have lb:Lt b:=hy.lt b (hl b (oW (List.mem_of_getLast? h2)))
  by_cases q:(core r).length<2
  ·have ha:a=b:=by
    clear cc
    generalize core r=g at h1 h2 q
    rcases g with _ | ⟨x,_ | ⟨x2,t⟩⟩
    ·simp at h1
    ·simp at h1 h2;rw[<-h1, <-h2]
    ·simp at q;omega
   rw[ha]at e
   exact absurd e.symm (eT lb)
  ·obtain ⟨a',m,b',em⟩:=zP (l:=core r) (by omega)
   rw[em]at h1 h2 cc
   have e1:a'=a:=by simpa using h1
   have e2:b'=b:=by
    have:(a'::(m++[b'])).getLast? =some b':=by rw[<-Qdx,List.getLast?_append];simp
    rw[this]at h2
    exact YS h2
   rw[nQ (by rw[e1,e2];exact e)]at cc
   have:=kT m
   rw[cc]at this
   simp at this
   omega
theorem HJ {y l:List Nat} (hy:Yd y) (hl: ∀c∈l,c∈y) (hz:l.length<=12):HG y l (core (red l)):=
 ⟨fun c hc=>hy.lt c (hl c hc),by omega,rfl,HI hy (G4 l) fun c hc=>hl c (HH hc),ZI (kT _) (ZI (gB l) hz)⟩
theorem kg {y w:List Nat} (hy:Yd y) (h:SW y w) (hz:w.length<=12):HG y w w:=⟨fun l hl=>hy.lt l (h.bW l hl),by omega,h.core hy, .inr h,hz⟩
theorem Yd.same {y z:List Nat} (h:Yd y) (p:List.Perm y z):Yd z:=⟨p.nodup_iff.mp h.nd,fun c hc=>h.lt c (p.mem_iff.mpr hc),fun c hc=>p.mem_iff.mp (h.cl c (p.mem_iff.mpr hc))⟩
theorem SW.same {y z w:List Nat} (h:SW y w) (p:List.Perm y z):SW z w:=⟨h.ne,fun c hc=>p.mem_iff.mp (h.bW c hc),h.red⟩
def kh (H:Hp) (p:Addr):Prop:= ∃y w c:List Nat,H p=some (.tup [.str (S y), .str (S w)])/\Yd y/\y.length<=8/\HG y w c
structure fO (H:Hp) (L:Addr) (ps:List Addr):Prop where
 ls:H L=some (.lst (ps.map V.ref))
 ak: ∀p∈ps,kh H p
theorem kh.same {H H':Hp} {p:Addr} (h:kh H p) (s:ar H H'):kh H' p:=by
 obtain ⟨y,w,c,e,r⟩:=h
 exact ⟨y,w,c,s _ _ e,r⟩
theorem kh.vy {H:Hp} {p l:Addr} {xs ys:List V} (h:kh H p) (e:H l=some (.lst xs)):kh (upd H l (.lst ys)) p:=by
 obtain ⟨y,w,c,e1,r⟩:=h
 exact ⟨y,w,c,by rw[aD fun z=>by rw[z,e]at e1;cases e1];exact e1,r⟩
theorem kh.sb {H H':Hp} {p b:Addr} (h:kh H p) (s:aV b H H') (hb:bT H b):kh H' p:=by
 obtain ⟨y,w,c,e1,r⟩:=h
 obtain ⟨_,_,e2⟩:=hb
 exact ⟨y,w,c,s _ _ e1 (fun z=>by rw[z,e2]at e1;cases e1),r⟩
theorem fO.same {H H':Hp} {L:Addr} {ps:List Addr} (h:fO H L ps) (s:ar H H'):fO H' L ps:=⟨s _ _ h.ls,fun p hp=>(h.ak p hp).same s⟩
theorem fO.sb {H H':Hp} {L b:Addr} {ps:List Addr} (h:fO H L ps) (s:aV b H H') (hb:bT H b) (n:L≠b):fO H' L ps:=⟨s _ _ h.ls n,fun p hp=>(h.ak p hp).sb s hb⟩
theorem fO.app {H:Hp} {L:Addr} {ps qs:List Addr} (h:fO H L ps) (g: ∀q∈qs,kh H q):fO (upd H L (.lst (ps.map V.ref++qs.map V.ref))) L (ps++qs):=
 ⟨by rw[ah,Zn],fun p hp=>by
  rcases Zx.mp hp with q | q
  ·exact (h.ak p q).vy h.ls
  ·exact (g p q).vy h.ls⟩
theorem fO.one {H:Hp} {L t:Addr} {ps:List Addr} {y w c:List Nat} (h:fO H L ps) (n:H t=none) (hy:Yd y) (hz:y.length<=8) (hc:HG y w c):fO (upd (upd H t (.tup [.str (S y), .str (S w)])) L (.lst (ps.map V.ref++[.ref t]))) L (ps++[t]):=
 (h.same (ar.upd n)).app (qs:=[t]) fun q hq=>by
  rw[Wg.mp hq]
  exact ⟨y,w,c,ah,hy,hz,hc⟩
structure I_ (H H':Hp) (L b W Y:Addr) (ws ys:List V) (ps:List Addr):Prop where
 sm:ar H H'
 ak:fO H' L ps
 bx:bT H' b
 hW:H' W=some (.lst ws)
 hY:H' Y=some (.lst ys)
theorem I_.add {H H':Hp} {L b W Y t:Addr} {ws ys:List V} {ps:List Addr} {y w c:List Nat} (h:I_ H H' L b W Y ws ys ps) (nL:H L=none) (nt:H' t=none) (Lb:L≠b) (LW:L≠W) (LY:L≠Y) (hy:Yd y) (hz:y.length<=8) (hc:HG y w c):I_ H (upd (upd H' t (.tup [.str (S y), .str (S w)])) L (.lst (ps.map V.ref++[.ref t]))) L b W Y ws ys (ps++[t]):=by
 have s:=ar.upd (o:= .tup [.str (S y), .str (S w)]) nt
 exact ⟨fun d o e=>by rw[aD (aB e nL)];exact s _ _ (h.sm _ _ e),h.ak.one nt hy hz hc,(h.bx.same s).dY Lb,by rw[aD (Ne.symm LW)];exact s _ _ h.hW,by rw[aD (Ne.symm LY)];exact s _ _ h.hY⟩
theorem I_.sb {H H' H2:Hp} {L b W Y:Addr} {ws ys:List V} {ps:List Addr} (h:I_ H H' L b W Y ws ys ps) (s:aV b H' H2) (bx:bT H2 b) (nb:H b=none) (Lb:L≠b) (Wb:W≠b) (Yb:Y≠b):I_ H H2 L b W Y ws ys ps:=
 ⟨fun d o e=>s _ _ (h.sm _ _ e) (aB e nb),h.ak.sb s h.bx Lb,bx,s _ _ h.hW Wb,s _ _ h.hY Yb⟩
theorem AE {p q:Nat} {r:List Nat} (h:Yd (p::q::r)):Yd ([q]++[p]++r):=h.same (List.Perm.swap q p r)
theorem Lg {y:List Nat} (h:Yd y) (k:Nat):Yd (y.drop k++y.take k):=h.same (by
 have:=Qa4 (l₁:=y.take k) (l₂:=y.drop k)
 rw[ZL]at this
 exact this)
local macro_rules | `(tactic| walk_at "rd") => `(tactic| repeat (first
 | refine ⟨_,rfl,?_⟩
 | refine ⟨_,_,rfl,rfl,?_⟩
 | refine ⟨rfl,?_⟩
 | refine And.intro (by first | decide | omega | assumption | exact Nat.le_of_ble_eq_true rfl | exact .inl ⟨by decide,by decide⟩ | exact .inr ⟨by decide,by decide⟩ | exact ⟨by decide,by decide⟩ | exact ⟨by omega,by omega⟩) ?_))
local macro_rules | `(tactic| walk_at "wk") => `(tactic| repeat (first
 | refine ⟨_,rfl,?_⟩
 | refine ⟨_,_,rfl,rfl,?_⟩
 | refine ⟨_,_,_,rfl,rfl,by first | assumption | omega,by assumption,?_⟩
 | refine ⟨rfl,?_⟩
 | refine And.intro (by first | decide | omega | assumption | exact Nat.le_of_ble_eq_true rfl | exact .inl ⟨by decide,by decide⟩ | exact .inr ⟨by decide,by decide⟩ | exact ⟨by decide,by decide⟩ | exact ⟨by omega,by omega⟩) ?_))
local macro_rules | `(tactic| walk_at "bd") => `(tactic| first | assumption | exact Xk _ | exact YZ (by walk_at "bd") (by walk_at "bd"))
noncomputable def top (i:Nat):Stmt:=PySem.Challenge.pw_mustmeet_k39_what_is_lone.main.body.getD i (.Pass ⟨0,0,0,0⟩)
noncomputable abbrev ki:Stmt:=top 1
noncomputable abbrev pJ:Stmt:=top 2
noncomputable abbrev um:Stmt:=top 4
noncomputable abbrev gK:Stmt:=top 5
noncomputable abbrev il:Stmt:=top 7
noncomputable abbrev pK:Stmt:=top 8
noncomputable abbrev fK:Stmt:=top 9
noncomputable abbrev mF:Stmt:=top 10
noncomputable abbrev gk:Stmt:=top 11
noncomputable abbrev jn:Stmt:=top 12
noncomputable abbrev e_:Stmt:=top 13
noncomputable abbrev iq:Stmt:=top 15
noncomputable abbrev gL:Stmt:=top 17
noncomputable abbrev jo:Stmt:=top 19
noncomputable abbrev kj:Stmt:=top 20
noncomputable abbrev yX:Stmt:=top 21
noncomputable abbrev yY:Stmt:=top 22
noncomputable abbrev gm:Stmt:=top 24
noncomputable abbrev gM:Stmt:=top 27
noncomputable abbrev ir:Stmt:=top 28
noncomputable abbrev mG:Stmt:=top 29
noncomputable abbrev mH:Stmt:=top 30
noncomputable abbrev gN:Stmt:=top 31
noncomputable abbrev gn:Stmt:=top 32
noncomputable abbrev gO:Stmt:=top 33
noncomputable abbrev iu:Stmt:=top 34
noncomputable abbrev yZ:Stmt:=top 35
noncomputable abbrev uo:Stmt:=top 37
noncomputable abbrev E1:Stmt:=top 38
noncomputable abbrev mI:Stmt:=top 40
noncomputable abbrev y6:Stmt:=top 42
noncomputable abbrev uq:Stmt:=top 43
noncomputable abbrev pL:Stmt:=top 44
noncomputable abbrev ur:Stmt:=top 45
noncomputable abbrev km:Stmt:=top 46
noncomputable abbrev uu:Stmt:=top 47
noncomputable abbrev uv:Stmt:=top 48
noncomputable abbrev pM:Stmt:=top 49
noncomputable abbrev uw:Stmt:=top 50
noncomputable abbrev iw:Stmt:=top 51
noncomputable abbrev jq:Stmt:=top 52
noncomputable abbrev y7:Stmt:=top 53
noncomputable abbrev mJ:Stmt:=top 54
noncomputable abbrev pN:Stmt:=top 55
noncomputable abbrev mK:Stmt:=top 56
noncomputable abbrev pQ:Stmt:=top 57
noncomputable abbrev pR:Stmt:=top 58
noncomputable abbrev ko:Stmt:=top 59
noncomputable abbrev y9:Stmt:=top 60
noncomputable abbrev mL:Stmt:=top 61
noncomputable abbrev pT:Stmt:=top 63
noncomputable abbrev E2:Stmt:=top 64
structure bj (K:PySem.W.Frag) (mg:Str->Option Value) (x:Str) (st:Stmt) (ps:List Str) (f:Addr) (fd:FuncData):Prop where
 fn:Gp K x x st f fd
 mg:mg x=some (.ref f)
 bd:Binds K fd ps []
noncomputable abbrev jC:Stmt:=UL (top 25) 0
noncomputable abbrev g8:Stmt:=UL (top 26) 0
structure Txt (K:PySem.W.Frag) (mg:Str->Option Value) (f0 f1 f2 f3 f4 f5 f6 f7 f8 f9 Md Me Mf Mg Mh Mi Mj Ml E3 E4 Mm Mn Mo Mp Mq Mr Ms Mt Mu Mv Mw Mx Mz MA MB MC MD ME MF MG MH MI MJ MK ML MM MN MO MP MQ MR MS aU a_ jW gP:Addr) (d0 d1 d2 d3 d4 d5 d6 d7 d8 d9 MT MU MV MW MX MY MZ M0 M1 M3 M4 M5 M6 M7 M8 M9 M_ Na Nb Nd Nf Ng Nh Ni Nj Nk Nl Nm Nn Np Nq Nr Nt Nu Nv Nw Ny Nz NA NB NC ND wQ pU:FuncData):Prop where
 F0:bj K mg "contrary" ki ["letter"] f0 d0
 F1:bj K mg "turned" pJ ["word"] f1 d1
 F2:bj K mg "bands" um ["yard"] f2 d2
 F3:bj K mg "steps_round" gK ["yard","start","end"] f3 d3
 F4:bj K mg "strands_at" il ["yard","drawing","end"] f4 d4
 F5:bj K mg "points" pK ["yard","drawing"] f5 d5
 F6:bj K mg "corner_points" fK ["word","cord","place"] f6 d6
 F7:bj K mg "corners" mF ["yard","drawing"] f7 d7
 F8:bj K mg "chord_starts" gk ["some"] f8 d8
 F9:bj K mg "number_in" jn ["rising","point"] f9 d9
 QR:bj K mg "count_meetings" e_ ["some"] Md MT
 QS:bj K mg "strands_in" iq ["words","band"] Me MU
 QT:bj K mg "corner_ends" gL ["word","place"] Mf MV
 QU:bj K mg "shortened" jo ["word"] Mg MW
 Lh:bj K mg "shortest" kj ["word"] Mh MX
 FL:bj K mg "ring" yX ["word"] Mi MY
 QV:bj K mg "root" yY ["word"] Mj MZ
 QW:bj K mg "corner_steps" gm ["yard","word","place"] Ml M0
 xj:bj K mg "steps_ahead" gM ["seen","start","end"] E3 M1
 xk:bj K mg "steps_back" ir ["seen","start","end"] E4 M3
 Li:bj K mg "parting" mG ["steps","one","other","enough"] Mm M4
 Lj:bj K mg "side_of" mH ["seen"] Mn M5
 QX:bj K mg "comes_ahead" gN ["one","other"] Mo M6
 QY:bj K mg "number_among" gn ["order","seen"] Mp M7
 QZ:bj K mg "seen_strand" gO ["words","ways","strand"] Mq M8
 Q0:bj K mg "taut_order" iu ["words","ways","band"] Mr M9
 Q3:bj K mg "taut" yZ ["yard","words"] Ms M_
 Q5:bj K mg "least" uo ["yard","words"] Mt Na
 Q6:bj K mg "own" E1 ["yard","word"] Mu Nb
 Lk:bj K mg "is_lone" mI ["yard","word"] Mv Nd
 Ll:bj K mg "_law_box" y6 ["_law_script","_law_k"] Mw Nf
 dZ:bj K mg "_law_take" uq ["_law_box_here","_law_many"] Mx Ng
 gQ:bj K mg "_law_other" pL ["_law_letter_here"] Mz Nh
 Q7:bj K mg "_law_yard" ur ["_law_box_here","_law_few","_law_top"] MA Ni
 Q8:bj K mg "_law_handled" km ["_law_box_here","_law_few","_law_top"] MB Nj
 Q9:bj K mg "_law_even" uu ["_law_box_here","_law_x","_law_y","_law_top"] MC Nk
 Q_:bj K mg "_law_word" uv ["_law_box_here","_law_yard_here","_law_top"] MD Nl
 FN:bj K mg "_law_short" pM ["_law_box_here","_law_yard_here","_law_top"] ME Nm
 Ra:bj K mg "_law_near" uw ["_law_box_here","_law_yard_here","_law_word_here","_law_top"] MF Nn
 Rb:bj K mg "_law_shortened" iw ["_law_word_here"] MG Np
 Rc:bj K mg "_law_shortest" jq ["_law_word_here"] MH Nq
 B4:bj K mg "_law_ray" y7 ["_law_word_here","_law_at","_law_way"] MI Nr
 hJ:bj K mg "_law_letter" mJ ["_law_ray_here","_law_k"] MJ Nt
 Rf:bj K mg "_law_round" pN ["_law_yard_here","_law_x","_law_y","_law_z"] MK Nu
 FO:bj K mg "_law_parted" mK ["_law_one","_law_other_here","_law_k"] ML Nv
 Lm:bj K mg "_law_sense" pQ ["_law_yard_here","_law_one","_law_other_here","_law_third"] MM Nw
 Rg:bj K mg "_law_meets" pR ["_law_yard_here","_law_w","_law_i","_law_v","_law_j"] MN Ny
 Rh:bj K mg "_law_between" ko ["_law_yard_here","_law_w","_law_v"] MO Nz
 Ri:bj K mg "_law_own" y9 ["_law_yard_here","_law_w"] MP NA
 Rj:bj K mg "_law_is_lone" mL ["_law_yard_here","_law_word_here"] MQ NB
 Rk:bj K mg "_law_right" pT ["_law_yard_here","_law_word_here"] MR NC
 Xl:bj K mg "law" E2 ["_law_script"] MS ND
 E5:mg "Seen"=some (.ref aU)
 dR:Ge K aU
 n_Seen_strand:eF K aU "strand"
 n_Seen_way:eF K aU "way"
 n_Seen_place:eF K aU "place"
 Ja:mg "Way"=some (.ref a_)
 gH:Ge K a_
 n_Way_size:eF K a_ "size"
 n_Way_root_size:eF K a_ "root_size"
 n_Way_leads:eF K a_ "leads"
 n_Way_onward:eF K a_ "onward"
 n_Way_backward:eF K a_ "backward"
 Jb:Mk K a_ jW
 PN:Gp K "__init__" "Way.__init__" jC jW wQ
 Jc:Binds K wQ ["self","yard","word","longest"] []
 E6:Mk K aU gP
 Ln:Gp K "__init__" "Seen.__init__" g8 gP pU
 E7:Binds K pU ["self","strand","way","place"] []
 z_all:mg "all"=none
 z_bool:mg "bool"=none
 z_enumerate:mg "enumerate"=none
 z_int:mg "int"=none
 z_isinstance:mg "isinstance"=none
 z_len:mg "len"=none
 z_list:mg "list"=none
 z_max:mg "max"=none
 z_min:mg "min"=none
 z_range:mg "range"=none
 z_reversed:mg "reversed"=none
 z_set:mg "set"=none
 z_sorted:mg "sorted"=none
 z_str:mg "str"=none
 z_tuple:mg "tuple"=none
theorem wR:aH ["letter"] ["letter"] (au ki):=⟨rfl,rfl,rfl,by decide+kernel,rfl,by decide+kernel,by decide+kernel⟩
theorem B5:aH ["word"] ["word"] (au pJ):=⟨rfl,rfl,rfl,by decide+kernel,rfl,by decide+kernel,by decide+kernel⟩
theorem E8:aH ["yard"] ["yard"] (au um):=⟨rfl,rfl,rfl,by decide+kernel,rfl,by decide+kernel,by decide+kernel⟩
theorem pV:aH ["yard","start","end"] ["yard","start","end"] (au gK):=⟨rfl,rfl,rfl,by decide+kernel,rfl,by decide+kernel,by decide+kernel⟩
theorem jX:aH ["yard","drawing","end","order"] ["yard","drawing","end"] (au il):=⟨rfl,rfl,rfl,by decide+kernel,rfl,by decide+kernel,by decide+kernel⟩
theorem jD:aH ["yard","drawing","told","end","strand"] ["yard","drawing"] (au pK):=⟨rfl,rfl,rfl,by decide+kernel,rfl,by decide+kernel,by decide+kernel⟩
theorem g9:aH ["word","cord","place","ahead"] ["word","cord","place"] (au fK):=⟨rfl,rfl,rfl,by decide+kernel,rfl,by decide+kernel,by decide+kernel⟩
theorem cO:aH ["yard","drawing","numbers","number","point","told","cord","word","place","pair"] ["yard","drawing"] (au mF):=⟨rfl,rfl,rfl,by decide+kernel,rfl,by decide+kernel,by decide+kernel⟩
theorem dM:aH ["some","starts","corner","first"] ["some"] (au gk):=⟨rfl,rfl,rfl,by decide+kernel,rfl,by decide+kernel,by decide+kernel⟩
theorem dz:aH ["rising","point","low","high","middle"] ["rising","point"] (au jn):=⟨rfl,rfl,rfl,by decide+kernel,rfl,by decide+kernel,by decide+kernel⟩
theorem bK:aH ["some","starts","begun","many","point","number"] ["some"] (au e_):=⟨rfl,rfl,rfl,by decide+kernel,rfl,by decide+kernel,by decide+kernel⟩
theorem cW:aH ["words","band","found","cord","word","place","letter"] ["words","band"] (au iq):=⟨rfl,rfl,rfl,by decide+kernel,rfl,by decide+kernel,by decide+kernel⟩
theorem pW:aH ["word","place"] ["word","place"] (au gL):=⟨rfl,rfl,rfl,by decide+kernel,rfl,by decide+kernel,by decide+kernel⟩
theorem iA:aH ["word","kept","letter"] ["word"] (au jo):=⟨rfl,rfl,rfl,by decide+kernel,rfl,by decide+kernel,by decide+kernel⟩
theorem dX:aH ["word","left","start","end"] ["word"] (au kj):=⟨rfl,rfl,rfl,by decide+kernel,rfl,by decide+kernel,by decide+kernel⟩
theorem jE:aH ["word","whole","least","start","begun"] ["word"] (au yX):=⟨rfl,rfl,rfl,by decide+kernel,rfl,by decide+kernel,by decide+kernel⟩
theorem oh:aH ["word","whole","size","times"] ["word"] (au yY):=⟨rfl,rfl,rfl,by decide+kernel,rfl,by decide+kernel,by decide+kernel⟩
theorem iK:aH ["yard","word","place","ends"] ["yard","word","place"] (au gm):=⟨rfl,rfl,rfl,by decide+kernel,rfl,by decide+kernel,by decide+kernel⟩
theorem jr:aH ["seen","start","end","first"] ["seen","start","end"] (au gM):=⟨rfl,rfl,rfl,by decide+kernel,rfl,by decide+kernel,by decide+kernel⟩
theorem jY:aH ["seen","start","end","first"] ["seen","start","end"] (au ir):=⟨rfl,rfl,rfl,by decide+kernel,rfl,by decide+kernel,by decide+kernel⟩
theorem dS:aH ["steps","one","other","enough","many","size"] ["steps","one","other","enough"] (au mG):=⟨rfl,rfl,rfl,by decide+kernel,rfl,by decide+kernel,by decide+kernel⟩
theorem ku:aH ["seen","way","cord"] ["seen"] (au mH):=⟨rfl,rfl,rfl,by decide+kernel,rfl,by decide+kernel,by decide+kernel⟩
theorem eM:aH ["one","other","enough","ahead","back"] ["one","other"] (au gN):=⟨rfl,rfl,rfl,by decide+kernel,rfl,by decide+kernel,by decide+kernel⟩
theorem ck:aH ["order","seen","low","high","middle"] ["order","seen"] (au gn):=⟨rfl,rfl,rfl,by decide+kernel,rfl,by decide+kernel,by decide+kernel⟩
theorem gp:aH ["words","ways","strand","word","place"] ["words","ways","strand"] (au gO):=⟨rfl,rfl,rfl,by decide+kernel,rfl,by decide+kernel,by decide+kernel⟩
theorem ft:aH ["words","ways","band","order","strand","seen"] ["words","ways","band"] (au iu):=⟨rfl,rfl,rfl,by decide+kernel,rfl,by decide+kernel,by decide+kernel⟩
theorem ux:aH ["yard","words","longest","ways"] ["yard","words"] (au yZ):=⟨rfl,rfl,rfl,by decide+kernel,rfl,by decide+kernel,by decide+kernel⟩
theorem E9:aH ["yard","words"] ["yard","words"] (au uo):=⟨rfl,rfl,rfl,by decide+kernel,rfl,by decide+kernel,by decide+kernel⟩
theorem Lo:aH ["yard","word"] ["yard","word"] (au E1):=⟨rfl,rfl,rfl,by decide+kernel,rfl,by decide+kernel,by decide+kernel⟩
theorem pX:aH ["yard","word","short"] ["yard","word"] (au mI):=⟨rfl,rfl,rfl,by decide+kernel,rfl,by decide+kernel,by decide+kernel⟩
theorem lG:aH ["_law_script","_law_k","_law_cell","_law_seed"] ["_law_script","_law_k"] (au y6):=⟨rfl,rfl,rfl,by decide+kernel,rfl,by decide+kernel,by decide+kernel⟩
theorem pY:aH ["_law_box_here","_law_many","_law_digit","_law_one"] ["_law_box_here","_law_many"] (au uq):=⟨rfl,rfl,rfl,by decide+kernel,rfl,by decide+kernel,by decide+kernel⟩
theorem mM:aH ["_law_letter_here","_law_small","_law_capital"] ["_law_letter_here"] (au pL):=⟨rfl,rfl,rfl,by decide+kernel,rfl,by decide+kernel,by decide+kernel⟩
theorem fF:aH ["_law_box_here","_law_few","_law_top","_law_left","_law_ends","_law_k","_law_letter_here","_law_found"] ["_law_box_here","_law_few","_law_top"] (au ur):=⟨rfl,rfl,rfl,by decide+kernel,rfl,by decide+kernel,by decide+kernel⟩
theorem b9:aH ["_law_box_here","_law_few","_law_top","_law_left","_law_names","_law_x","_law_y","_law_found","_law_name","_law_end","_law_at"] ["_law_box_here","_law_few","_law_top"] (au km):=⟨rfl,rfl,rfl,by decide+kernel,rfl,by decide+kernel,by decide+kernel⟩
theorem lH:aH ["_law_box_here","_law_x","_law_y","_law_top","_law_many","_law_few","_law_one"] ["_law_box_here","_law_x","_law_y","_law_top"] (au uu):=⟨rfl,rfl,rfl,by decide+kernel,rfl,by decide+kernel,by decide+kernel⟩
theorem E_:aH ["_law_box_here","_law_yard_here","_law_top"] ["_law_box_here","_law_yard_here","_law_top"] (au uv):=⟨rfl,rfl,rfl,by decide+kernel,rfl,by decide+kernel,by decide+kernel⟩
theorem cX:aH ["_law_box_here","_law_yard_here","_law_top","_law_many","_law_form","_law_word_here","_law_letter_here"] ["_law_box_here","_law_yard_here","_law_top"] (au pM):=⟨rfl,rfl,rfl,by decide+kernel,rfl,by decide+kernel,by decide+kernel⟩
theorem js:aH ["_law_box_here","_law_yard_here","_law_word_here","_law_top","_law_form","_law_at","_law_letter_here","_law_some"] ["_law_box_here","_law_yard_here","_law_word_here","_law_top"] (au uw):=⟨rfl,rfl,rfl,by decide+kernel,rfl,by decide+kernel,by decide+kernel⟩
theorem dI:aH ["_law_word_here","_law_left","_law_letter_here"] ["_law_word_here"] (au iw):=⟨rfl,rfl,rfl,by decide+kernel,rfl,by decide+kernel,by decide+kernel⟩
theorem iB:aH ["_law_word_here","_law_left"] ["_law_word_here"] (au jq):=⟨rfl,rfl,rfl,by decide+kernel,rfl,by decide+kernel,by decide+kernel⟩
theorem HK:aH ["_law_word_here","_law_at","_law_way"] ["_law_word_here","_law_at","_law_way"] (au y7):=⟨rfl,rfl,rfl,by decide+kernel,rfl,by decide+kernel,by decide+kernel⟩
theorem ff:aH ["_law_ray_here","_law_k","_law_head","_law_word_here","_law_at","_law_way"] ["_law_ray_here","_law_k"] (au mJ):=⟨rfl,rfl,rfl,by decide+kernel,rfl,by decide+kernel,by decide+kernel⟩
theorem mN:aH ["_law_yard_here","_law_x","_law_y","_law_z","_law_at","_law_rest"] ["_law_yard_here","_law_x","_law_y","_law_z"] (au pN):=⟨rfl,rfl,rfl,by decide+kernel,rfl,by decide+kernel,by decide+kernel⟩
theorem pZ:aH ["_law_one","_law_other_here","_law_k"] ["_law_one","_law_other_here","_law_k"] (au mK):=⟨rfl,rfl,rfl,by decide+kernel,rfl,by decide+kernel,by decide+kernel⟩
theorem bF:aH ["_law_yard_here","_law_one","_law_other_here","_law_third","_law_k","_law_some","_law_x","_law_y","_law_z","_law_at","_law_back"] ["_law_yard_here","_law_one","_law_other_here","_law_third"] (au pQ):=⟨rfl,rfl,rfl,by decide+kernel,rfl,by decide+kernel,by decide+kernel⟩
theorem g_:aH ["_law_yard_here","_law_w","_law_i","_law_v","_law_j","_law_on","_law_back","_law_other_on","_law_other_back","_law_others","_law_one"] ["_law_yard_here","_law_w","_law_i","_law_v","_law_j"] (au pR):=⟨rfl,rfl,rfl,by decide+kernel,rfl,by decide+kernel,by decide+kernel⟩
theorem gI:aH ["_law_yard_here","_law_w","_law_v","_law_found","_law_i"] ["_law_yard_here","_law_w","_law_v"] (au ko):=⟨rfl,rfl,rfl,by decide+kernel,rfl,by decide+kernel,by decide+kernel⟩
theorem uy:aH ["_law_yard_here","_law_w","_law_size"] ["_law_yard_here","_law_w"] (au y9):=⟨rfl,rfl,rfl,by decide+kernel,rfl,by decide+kernel,by decide+kernel⟩
theorem p5:aH ["_law_yard_here","_law_word_here","_law_short_here"] ["_law_yard_here","_law_word_here"] (au mL):=⟨rfl,rfl,rfl,by decide+kernel,rfl,by decide+kernel,by decide+kernel⟩
theorem sh:aH ["_law_yard_here","_law_word_here","_law_found"] ["_law_yard_here","_law_word_here"] (au pT):=⟨rfl,rfl,rfl,by decide+kernel,rfl,by decide+kernel,by decide+kernel⟩
theorem dE:aH ["_law_script","_law_asked","_law_k","_law_box_here","_law_yard_here","_law_top","_law_word_here","_law_words","_law_at","_law_yards","_law_one","_law_x","_law_y"] ["_law_script"] (au E2):=⟨rfl,rfl,rfl,by decide+kernel,rfl,by decide+kernel,by decide+kernel⟩
theorem p6:aH ["self","yard","word","longest","steps","rounds"] ["self","yard","word","longest"] (au jC):=⟨rfl,rfl,rfl,by decide+kernel,rfl,by decide+kernel,by decide+kernel⟩
theorem B6:aH ["self","strand","way","place"] ["self","strand","way","place"] (au g8):=⟨rfl,rfl,rfl,by decide+kernel,rfl,by decide+kernel,by decide+kernel⟩
section
variable {P:Program} {w:World} {K:PySem.W.Frag} {mg:Str->Option Value} {base:Heap} {f0 f1 f2 f3 f4 f5 f6 f7 f8 f9 Md Me Mf Mg Mh Mi Mj Ml E3 E4 Mm Mn Mo Mp Mq Mr Ms Mt Mu Mv Mw Mx Mz MA MB MC MD ME MF MG MH MI MJ MK ML MM MN MO MP MQ MR MS aU a_ jW gP:Addr} {d0 d1 d2 d3 d4 d5 d6 d7 d8 d9 MT MU MV MW MX MY MZ M0 M1 M3 M4 M5 M6 M7 M8 M9 M_ Na Nb Nd Nf Ng Nh Ni Nj Nk Nl Nm Nn Np Nq Nr Nt Nu Nv Nw Ny Nz NA NB NC ND wQ pU:FuncData}
variable (T:Txt K mg f0 f1 f2 f3 f4 f5 f6 f7 f8 f9 Md Me Mf Mg Mh Mi Mj Ml E3 E4 Mm Mn Mo Mp Mq Mr Ms Mt Mu Mv Mw Mx Mz MA MB MC MD ME MF MG MH MI MJ MK ML MM MN MO MP MQ MR MS aU a_ jW gP d0 d1 d2 d3 d4 d5 d6 d7 d8 d9 MT MU MV MW MX MY MZ M0 M1 M3 M4 M5 M6 M7 M8 M9 M_ Na Nb Nd Nf Ng Nh Ni Nj Nk Nl Nm Nn Np Nq Nr Nt Nu Nv Nw Ny Nz NA NB NC ND wQ pU)
include T
theorem fG:bB P w K mg base d_ 1 f0 d0 ["letter"] (mV K):=by
 refine T.F0.fn.ok wR (fun vs H Q E h=>tD h) (fun cA A outer s H vs Q E hr h=>?_)
 refine ⟨_,(ag (b7 (lS (fi K rfl Zt Qcm Qcl j6 (pv 0))) (aj (aI (fi K rfl Zt PySem.F.slot_str_upper PySem.F.type_str_upper CM (pv 0)))) bG)
   (aj (aI (fi K rfl Zt Qcu Qct oG (pv 0))))),?_⟩
 obtain ⟨c,rfl,hc,q⟩:=h
 refine ⟨_,rfl,rfl,c,rfl,rfl,hc,_,rfl,cq (fun e=>?_) (fun e=>?_)⟩
 ·refine ⟨_,rfl,rfl,c,rfl,rfl,hc,?_⟩
  have z:aC c=PyProof.Rows.up1 c:=if_pos e
  rw[<-z]
  exact q
 ·refine ⟨_,rfl,rfl,c,rfl,rfl,hc,?_⟩
  have z:aC c=PyProof.Rows.lo1 c:=if_neg e
  rw[<-z]
  exact q
theorem mO:bB P w K mg base d_ 2 f6 d6 ["word","cord","place"] (g6 K):=by
 have cP:=fG (P:=P) (w:=w) (base:=base) T
 refine T.F6.fn.ok g9 (fun vs H Q E h=>lq h) (fun cA A outer s H vs Q E hr h=>?_)
 refine ⟨_,(ag (aq (i:=3) g9.nd rfl (Or.inl rfl) (az eB (az cf (pv 2) ai) (aE aM rfl T.z_len YV (aa (pv 0) ae))))
   (aj (aI (bS (aa (bS (aa (pv 1) (aa (pv 3) (aa (ao cP (hr.mono (by decide)) rfl T.F0.mg T.F0.fn.kp T.F0.bd .nil aA (aa (aP eN (pv 0) (pv 3) (fun _ _=>rfl)) ae)) ae)))) (aa (bS (aa (pv 1) (aa (pv 2) (aa (aP eN (pv 0) (pv 2) (fun _ _=>rfl)) ae)))) ae)))))),?_⟩
 obtain ⟨w,c,i,rfl,Tn,hi,hz,q⟩:=h
 have hs:(100000:Nat)<sizeLine:=by decide
 have hp:(0:Int)<(w.length:Int):=by omega
 have Xm:=Aj hi
 have jI:=yL hi
 have e1:w.getD (xh w.length i) 0=w[xh w.length i]:=by rw[Zp,J0 jI];rfl
 have e2:w.getD i 0=w[i]:=by rw[Zp,J0 hi];rfl
 rw[e1,e2]at q
 refine ⟨_,rfl,_,_,rfl,rfl,_,rfl,w,rfl,by omega,_,_,rfl,rfl,hp,?_⟩
 show u5 3 (V.int (((i:Int) - 1)%(w.length:Int))) _ _ _
 rw[Xm]
 refine ⟨_,rfl,_,rfl,_,rfl,_,rfl,w,_,_,rfl,rfl,by omega,bN (J0 jI),_,rfl,Tn _ (ZR jI),by show 3<=sizeLine;decide,fun t1 n1=>?_⟩
 refine ⟨_,rfl,_,rfl,_,rfl,_,rfl,w,_,_,rfl,rfl,by omega,bN (J0 hi),by show 3<=sizeLine;decide,fun t2 n2=>?_⟩
 refine ⟨by show 2<=sizeLine;decide,fun t nt=>?_⟩
 have To:=(ar.upd (o:= .tup [.ref t1, .ref t2]) nt)
 refine q t t1 t2 _ ah (To _ _ ((ar.upd n2) _ _ ah)) (To _ _ ah) ((ar.upd n1).trans ((ar.upd n2).trans To))
theorem dA:bB P w K mg base d_ 1 Mz Nh ["_law_letter_here"] (rA K):=by
 refine T.gQ.fn.ok mM (fun vs H Q E h=>yi h) (fun cA A outer s H vs Q E hr h=>?_)
 refine ⟨_,(ag (aq (i:=1) mM.nd rfl (Or.inl rfl) (gv [97,98,99,100,101,102,103,104,105,106,107,108,109,110,111,112,113,114,115,116,117,118,119,120,121,122] (by decide+kernel)))
   (ag (aq (i:=2) mM.nd rfl (Or.inl rfl) (gv [65,66,67,68,69,70,71,72,73,74,75,76,77,78,79,80,81,82,83,84,85,86,87,88,89,90] (by decide+kernel)))
   (ag (b7 (aL J9 (pv 0) (pv 1) (by with_unfolding_all rfl)) (aj (aI (aP eN (pv 2) (bE K rfl Zt Qay Qax fU (pv 1) (aa (pv 0) ae)) (fun _ _=>rfl)))) bG)
   (aj (aI (aP eN (pv 1) (bE K rfl Zt Qay Qax fU (pv 2) (aa (pv 0) ae)) (fun _ _=>rfl))))))),?_⟩
 obtain ⟨c,rfl,hc,q⟩:=h
 refine ⟨_,rfl,_,rfl,c,aR,rfl,rfl,_,rfl,cq (fun e=>?_) (fun e=>?_)⟩
 ·have hm:c∈aR:=of_decide_eq_true e
  exact ⟨_,rfl,_,rfl,rfl,_,rfl,aR,c,rfl,rfl,hm,j8,_,aC c,rfl,rfl,by decide,vK c hm,q⟩
 ·have hm:c∈j8:=hc.resolve_left fun z=>e (decide_eq_true z)
  exact ⟨_,rfl,_,rfl,rfl,_,rfl,j8,c,rfl,rfl,hm,aR,_,aC c,rfl,rfl,by decide,Br c hm,q⟩
theorem qD:bB P w K mg base d_ 2 MG Np ["_law_word_here"] (jV K):=by
 have bz:=dA (P:=P) (w:=w) (base:=base) T
 refine T.Rb.fn.ok dI (fun vs H Q E h=>pH h) (fun cA A outer s H vs Q E hr h=>?_)
 refine ⟨_,(ag (aq (i:=1) dI.nd rfl (Or.inl rfl) (gv [] (by decide+kernel)))
   (ag (cE PassesOwn.never rfl (oJ (pv 0)) (aG (i:=2) dI.nd rfl (Or.inl rfl)) (aj (b7 (PW.pt (hU (aL oK (pv 1) (gv [] (by decide+kernel)) (aN _)) (gx (aL eG (aP eN (pv 1) (fW dN ai) (fun _ _=>rfl)) (ao bz (hr.mono (by decide)) rfl T.gQ.mg T.gQ.fn.kp T.gQ.bd .nil aA (aa (pv 2) ae)) (aN _))))) (aj (aq (i:=1) dI.nd rfl (Or.inl rfl) (aX fz (pv 1) bH (aY (fW dN ai))))) (aj (aq (i:=1) dI.nd rfl (Or.inl rfl) (az bX (pv 1) (pv 2)))))))
   (aj (aI (pv 1))))),?_⟩
 obtain ⟨l,rfl,hl,hz,q⟩:=h
 have hs:(100000:Nat)<sizeLine:=by decide
 refine ⟨_,rfl,l,rfl,?_⟩
 refine sP (xs:=bP l) (fun i σ H'=> ∃lv,σ=[some (.str (S l)),some (.str (S (red (l.take i)))),lv]/\H'=H) ⟨none,rfl,rfl⟩ ?_ ?_
 ·rintro i x σ H1 hx ⟨lv,rfl,rfl⟩
  obtain ⟨c,hc,rfl⟩:=gz hx
  have lc:=hl c (Zs hc)
  have NF:(red (l.take i)).length<=10000:=ZI (gB _) (by rw[Zo];omega)
  have e:=vR hc
  unfold dB at e
  refine ⟨_,rfl,_,_,rfl,rfl,?_⟩
  rcases snoc_cases (red (l.take i)) with e0 | ⟨m,a,e0⟩
  ·rw[e0]at e NF ⊢
   refine ⟨_,rfl,j9 rfl (vc ?_)⟩
   refine ⟨_,rfl,_,rfl,_,_,rfl,rfl,by show 0+1<=sizeLine;decide,some (.str (S [c])),?_,rfl⟩
   rw[e,if_neg (by simp)]
   rfl
  ·rw[e0]at e NF ⊢
   have Xn:m.length<=10000:=by simp at NF;omega
   refine ⟨_,rfl,oS (by simp) ?_⟩
   refine ⟨_,rfl,_,rfl,_,_,_,rfl,rfl,by rw[L5];show m.length+1<=sizeLine;omega,oz _ _,_,rfl,c,rfl,lc,[a],[aC c],rfl,rfl,_,rfl,cq (fun z=>?_) (fun z=>?_)⟩
   ·have ea:a=aC c:=by simpa using of_decide_eq_true z
    refine ⟨_,rfl,_,rfl,_,rfl,_,rfl,by rw[L5];show m.length+1<=sizeLine;omega,some (.str (S [c])),?_,rfl⟩
    rw[e,if_pos (by simp[ea]),Qbl,Dy]
    rfl
   ·have ea:a≠aC c:=fun w=>z (decide_eq_true (by rw[w]))
    refine ⟨_,rfl,_,rfl,_,_,rfl,rfl,by rw[L5];show m.length+1+1<=sizeLine;omega,some (.str (S [c])),?_,rfl⟩
    rw[e,if_neg (by simpa using ea)]
    rfl
 ·rintro σ H1 ⟨lv,rfl,rfl⟩
  rw[oT]
  exact ⟨_,rfl,q _ (ar.refl _)⟩
theorem uA:bB P w K mg base d_ 3 MH Nq ["_law_word_here"] (lF K):=by
 have uC:=qD (P:=P) (w:=w) (base:=base) T
 have bz:=dA (P:=P) (w:=w) (base:=base) T
 refine T.Rc.fn.ok iB (fun vs H Q E h=>qC h) (fun cA A outer s H vs Q E hr h=>?_)
 refine ⟨_,(ag (aq (i:=1) iB.nd rfl (Or.inl rfl) (ao uC (hr.mono (by decide)) rfl T.Rb.mg T.Rb.fn.kp T.Rb.bd .nil aA (aa (pv 0) ae)))
   (ag (cj PassesOwn.never (PW.pt (hU (aL kB (aE aM rfl T.z_len YV (aa (pv 1) ae)) ai (aN _)) (gx (aL eG (aP eN (pv 1) ai (fun _ _=>rfl)) (ao bz (hr.mono (by decide)) rfl T.gQ.mg T.gQ.fn.kp T.gQ.bd .nil aA (aa (aP eN (pv 1) (fW dN ai) (fun _ _=>rfl)) ae)) (aN _))))) (aj (aq (i:=1) iB.nd rfl (Or.inl rfl) (aX fz (pv 1) (aY ai) (aY (fW dN ai))))))
   (aj (aI (pv 1))))),?_⟩
 obtain ⟨l,rfl,hl,hz,q⟩:=h
 have hs:(100000:Nat)<sizeLine:=by decide
 refine ⟨_,rfl,l,rfl,hl,by omega,fun H1 s1=>?_⟩
 have FA:=gB l
 have cC:=Du hl
 generalize red l=r at FA cC q ⊢
 refine ⟨fun m σ H'=> ∃c:List Nat,σ=[some (.str (S l)),some (.str (S c))]/\m=c.length/\c.length<=r.length/\(∀x∈c,Lt x)/\core c=core r/\H'=H1,⟨_,r,rfl,rfl,Ur _,cC,rfl,rfl⟩,?_⟩
 rintro m σ H2 ⟨c,rfl,rfl,Rl,Rm,Tp,rfl⟩
 refine ⟨_,rfl,_,rfl,by omega,_,_,rfl,rfl,?_⟩
 by_cases z:1<c.length
 ·obtain ⟨a,m,b,rfl⟩: ∃a m b,c=a::(m++[b]):=by
   rcases c with _ | ⟨a,c⟩
   ·exact absurd z (by decide)
   ·rcases snoc_cases c with e | ⟨m,b,e⟩
    ·rw[e]at z;exact absurd z (by show ¬1<1;decide)
    ·exact ⟨a,m,b,by rw[e]⟩
  have hlen:(a::(m++[b])).length=m.length+2:=by simp
  have GG:(a::(m++[b])).length<=sizeLine:=by omega
  have lb:Lt b:=Rm b (by simp)
  refine ⟨_,rfl,oS (decide_eq_true (by show (1:Int)<_;omega)) ?_⟩
  refine ⟨_,rfl,_,_,_,rfl,rfl,GG,(bN rfl:iD (a::(m++[b])) ((0:Nat):Int)=some a),?_⟩
  refine ⟨_,rfl,_,rfl,_,_,_,rfl,rfl,GG,oz (a::m) b,b,rfl,lb,_,_,rfl,rfl,_,rfl,cq (fun y=>?_) (fun y=>?_)⟩
  ·have ea:a=aC b:=by simpa using of_decide_eq_true y
   refine ⟨_,rfl,_,rfl,_,rfl,_,rfl,_,rfl,GG,?_⟩
   rw[Dz]
   exact ⟨m.length,by omega,m,rfl,rfl,by omega,fun x hx=>Rm x (by simp[hx]),by rw[<-Tp,nQ ea],rfl⟩
  ·have ea:a≠aC b:=fun w=>y (decide_eq_true (by rw[w]))
   refine ⟨_,rfl,?_⟩
   have:=q H2 s1
   rw[<-Tp,gW ea]at this
   exact this
 ·refine ⟨_,rfl,j9 (decide_eq_false (by show ¬(1:Int)<_;omega)) (vc ?_)⟩
  refine ⟨_,rfl,?_⟩
  have:=q H2 s1
  rw[<-Tp,eV (by omega)]at this
  exact this
theorem HL:bB P w K mg base d_ 1 MI Nr ["_law_word_here","_law_at","_law_way"] (AA K):=by
 refine T.B4.fn.ok HK (fun vs H Q E h=>EW h) (fun cA A outer s H vs Q E hr h=>?_)
 refine ⟨_,(aj (aI (bS (aa (gv [] (by decide+kernel)) (aa (pv 0) (aa (pv 1) (aa (pv 2) ae))))))),?_⟩
 obtain ⟨w',i,d,rfl,q⟩:=h
 refine ⟨_,rfl,_,rfl,_,rfl,by show 4<=sizeLine;decide,fun p np=>q p np⟩
theorem kx:bB P w K mg base d_ 2 MJ Nt ["_law_ray_here","_law_k"] (pB K):=by
 have bz:=dA (P:=P) (w:=w) (base:=base) T
 refine T.hJ.fn.ok ff (fun vs H Q E h=>wK h) (fun cA A outer s H vs Q E hr h=>?_)
 refine ⟨_,(ag (iR (pv 0) (fj (n:=4) K rfl rfl (bf (aG (i:=2) ff.nd rfl (Or.inl rfl)) (bf (aG (i:=3) ff.nd rfl (Or.inl rfl)) (bf (aG (i:=4) ff.nd rfl (Or.inl rfl)) (bf (aG (i:=5) ff.nd rfl (Or.inl rfl)) eA))))))
   (ag (b7 (aL kA (pv 1) (aE aM rfl T.z_len YV (aa (pv 2) ae)) (aN _)) (aj (aI (aP eN (pv 2) (pv 1) (fun _ _=>rfl)))) bG)
   (ag (aq (i:=1) ff.nd rfl (Or.inl rfl) (az cf (pv 1) (aE aM rfl T.z_len YV (aa (pv 2) ae))))
   (ag (b7 (aL kB (pv 5) ai (aN _)) (aj (aI (aP eN (pv 3) (az eB (az aW (pv 4) (pv 1)) (aE aM rfl T.z_len YV (aa (pv 3) ae))) (fun _ _=>rfl)))) bG)
   (aj (aI (ao bz (hr.mono (by decide)) rfl T.gQ.mg T.gQ.fn.kp T.gQ.bd .nil aA (aa (aP eN (pv 3) (az eB (az cf (az cf (pv 4) ai) (pv 1)) (aE aM rfl T.z_len YV (aa (pv 3) ae))) (fun _ _=>rfl)) ae)))))))),?_⟩
 obtain ⟨p,w',f,k,rfl,⟨i,d,hp,r⟩,⟨dc,hl,hz⟩,q⟩:=h
 have hs:(100000:Nat)<sizeLine:=by decide
 have kP:=Ut.mpr dc
 have Rn: ∀x:Int,iD w' (x%(w'.length:Int))=some (rd w' x):=fun x=>by
  have h1:=Qai x (show (w'.length:Int)≠0 by omega)
  have h2:=kb x (show (0:Int)<w'.length by omega)
  rw[jP (by omega) h2]
  unfold rd
  rw[Int.emod_emod]
 refine ⟨_,rfl,p,_,rfl,cR.of hp,rfl,_,_,rfl,_,_,rfl,_,_,rfl,_,_,rfl,rfl,?_⟩
 refine ⟨_,rfl,_,rfl,_,rfl,YU _,_,_,rfl,rfl,_,rfl,j9 ?_ ?_⟩
 ·exact decide_eq_false (by show ¬((k:Int)<0);omega)
 refine ⟨_,rfl,_,rfl,_,rfl,YU _,_,_,rfl,rfl,?_⟩
 rcases r with ⟨rfl,rfl⟩ | ⟨rfl,rfl⟩
 ·refine ⟨_,rfl,_,_,rfl,rfl,_,rfl,oS (by decide) ?_⟩
  refine ⟨_,rfl,_,rfl,_,rfl,_,_,rfl,rfl,_,rfl,w',rfl,by omega,_,_,rfl,rfl,by omega,?_⟩
  refine ⟨w',_,_,rfl,rfl,by omega,Rn _,?_⟩
  have e:i+((k:Int) - (([]:List Nat).length:Int))=i+k:=by show i+((k:Int) - 0)=_;omega
  rw[e]
  exact q
 ·refine ⟨_,rfl,_,_,rfl,rfl,_,rfl,j9 (by decide) ?_⟩
  refine ⟨_,rfl,_,rfl,_,_,rfl,rfl,_,rfl,_,_,rfl,rfl,_,rfl,w',rfl,by omega,_,_,rfl,rfl,by omega,?_⟩
  refine ⟨w',_,_,rfl,rfl,by omega,Rn _,_,rfl,hl _ (eX dc _),?_⟩
  have e:i - 1 - ((k:Int) - (([]:List Nat).length:Int))=i - 1 - k:=by show i - 1 - ((k:Int) - 0)=_;omega
  rw[e]
  exact q
theorem y_:bB P w K mg base d_ 3 ML Nv ["_law_one","_law_other_here","_law_k"] (pE K):=by
 have bO:=kx (P:=P) (w:=w) (base:=base) T
 have bz:=dA (P:=P) (w:=w) (base:=base) T
 refine T.FO.fn.ok pZ (fun vs H Q E h=>wL h) (fun cA A outer s H vs Q E hr h=>?_)
 refine ⟨_,(ag (cj PassesOwn.never (aL eG (ao bO (hr.mono (by decide)) rfl T.hJ.mg T.hJ.fn.kp T.hJ.bd .nil aA (aa (pv 0) (aa (pv 2) ae))) (ao bO (hr.mono (by decide)) rfl T.hJ.mg T.hJ.fn.kp T.hJ.bd .nil aA (aa (pv 1) (aa (pv 2) ae))) (aN _)) (aj (aq (i:=2) pZ.nd rfl (Or.inl rfl) (az aW (pv 2) ai))))
   (aj (aI (bS (aa (pv 2) (aa (ao bz (hr.mono (by decide)) rfl T.gQ.mg T.gQ.fn.kp T.gQ.bd .nil aA (aa (ao bO (hr.mono (by decide)) rfl T.hJ.mg T.hJ.fn.kp T.hJ.bd .nil aA (aa (pv 0) (aa (az cf (pv 2) ai) ae))) ae)) ae)))))),?_⟩
 obtain ⟨p,q,w',v,f,g,n,rfl,hp,hq,lw,lv,h0,hd,Qk⟩:=h
 have hs:(100000:Nat)<sizeLine:=by decide
 obtain ⟨_,_,d3,_⟩:=gZ f g n 0
 have Y0:0<gu f g n 0:=Qdi fun z=>hd (by rw[z];exact h0)
 generalize gu f g n 0=D at*
 refine ⟨fun m σ H'=> ∃k:Nat,σ=[some (.ref p),some (.ref q),some (.int k)]/\m=D - k/\k<=D/\H'=H,⟨_,0,rfl,rfl,YU _,rfl⟩,?_⟩
 rintro m σ H2 ⟨k,rfl,rfl,hk,rfl⟩
 refine ⟨_,rfl,_,rfl,p,w',f,k,rfl,hp,lw,_,rfl,_,rfl,q,v,g,k,rfl,hq,lv,_,_,rfl,rfl,_,rfl,?_⟩
 by_cases z:k<D
 ·refine oS (decide_eq_true (by rw[d3 k (YU _) z])) ?_
  refine ⟨_,rfl,_,_,rfl,rfl,D - (k+1),by omega,k+1,rfl,rfl,z,rfl⟩
 ·have e:k=D:=by omega
  subst e
  refine j9 (decide_eq_false fun x=>hd (by simpa using x)) ?_
  refine ⟨_,rfl,_,rfl,_,rfl,_,_,rfl,rfl,p,w',f,k - 1,?_,hp,lw,_,rfl,hp.lt lw _,by show 2<=sizeLine;decide,fun t nt=>?_⟩
  ·show [V.ref p,V.int ((k:Int) - 1)]=_
   rw[show (k:Int) - 1=((k - 1:Nat):Int) by omega]
  ·have:=Qk t nt
   rw[show (k:Int) - 1=((k - 1:Nat):Int) by omega]at this
   exact this
theorem B7:bB P w K mg base d_ 1 MK Nu ["_law_yard_here","_law_x","_law_y","_law_z"] (rM K):=by
 refine T.Rf.fn.ok mN (fun vs H Q E h=>yq h) (fun cA A outer s H vs Q E hr h=>?_)
 refine ⟨_,(ag (aq (i:=4) mN.nd rfl (Or.inl rfl) (bE K rfl Zt Qay Qax fU (pv 0) (aa (pv 1) ae)))
   (ag (aq (i:=5) mN.nd rfl (Or.inl rfl) (az bX (aX fz (pv 0) (aY (pv 4)) bH) (aX fz (pv 0) bH (aY (pv 4)))))
   (aj (aI (du kA (bE K rfl Zt Qay Qax fU (pv 5) (aa (pv 2) ae)) (bE K rfl Zt Qay Qax fU (pv 5) (aa (pv 3) ae)) (aN _)))))),?_⟩
 obtain ⟨y,a,b,c,rfl,hn,ha,hb,hc,hz,q⟩:=h
 have hs:(100000:Nat)<sizeLine:=by decide
 have hlen:(cut y (some ((y.idxOf a:Nat):Int)) none).length+(cut y none (some ((y.idxOf a:Nat):Int))).length<=sizeLine:=by rw[cg,bU,Zz,Zo];omega
 have za:cut y (some ((y.idxOf a:Nat):Int)) none++cut y none (some ((y.idxOf a:Nat):Int))=y.drop (y.idxOf a)++y.take (y.idxOf a):=by rw[cg,bU]
 have hm: ∀e∈y,e∈y.drop (y.idxOf a)++y.take (y.idxOf a):=fun e he=>Qa4.mem_iff.mp (by rw[ZL];exact he)
 refine ⟨_,rfl,rfl,_,rfl,y,a,rfl,rfl,ha,?_⟩
 refine ⟨_,rfl,_,rfl,_,rfl,y,rfl,by omega,_,rfl,_,rfl,_,rfl,y,rfl,by omega,_,_,rfl,rfl,hlen,?_⟩
 rw[za]
 refine ⟨_,rfl,rfl,_,rfl,_,b,rfl,rfl,hm b hb,_,rfl,rfl,_,rfl,_,c,rfl,rfl,hm c hc,_,_,rfl,rfl,?_⟩
 rw[<-DI hn ha hb hc]at q
 exact q
theorem B8:bB P w K mg base d_ 4 MM Nw ["_law_yard_here","_law_one","_law_other_here","_law_third"] (sd K):=by
 have bO:=kx (P:=P) (w:=w) (base:=base) T
 have mP:=y_ (P:=P) (w:=w) (base:=base) T
 have Fb:=B7 (P:=P) (w:=w) (base:=base) T
 refine T.Lm.fn.ok bF (fun vs H Q E h=>yU h) (fun cA A outer s H vs Q E hr h=>?_)
 refine ⟨_,(ag (aq (i:=4) bF.nd rfl (Or.inr rfl) ai)
   (ag (kM (i:=5) ["_law_ray_here","_law_k"] [none,some 4] bF.nd rfl (Or.inl rfl) (ju K rfl (bS (aa (pv 1) (aa (pv 2) (aa (pv 3) ae))))) ⟨⟨rfl,rfl,by first | exact .inl rfl | exact .inr rfl⟩,trivial⟩ (fun _ _ _ _=>(aG (i:=0) (by decide+kernel:List.Nodup (["_law_ray_here","_law_k"]:List Str)) rfl (Or.inl rfl))) (fun _ _ _ _=>dP) (fun _ _ _ _=>(ao bO (hr.mono (by decide)) rfl T.hJ.mg T.hJ.fn.kp T.hJ.bd .nil aA (aa (pv 0) (aa (pv 1) ae)))))
   (ag (cj PassesOwn.never (aL hZ (aE vD rfl T.z_len YV (aa (cV (Bl K rfl rfl) rfl T.z_set boot_set (aa (pv 5) ae)) ae)) ai (aN _)) (ag (aq (i:=4) bF.nd rfl (Or.inr rfl) (az aW (pv 4) ai))
   (aj (kM (i:=5) ["_law_ray_here","_law_k"] [none,some 4] bF.nd rfl (Or.inl rfl) (ju K rfl (bS (aa (pv 1) (aa (pv 2) (aa (pv 3) ae))))) ⟨⟨rfl,rfl,by first | exact .inl rfl | exact .inr rfl⟩,trivial⟩ (fun _ _ _ _=>(aG (i:=0) (by decide+kernel:List.Nodup (["_law_ray_here","_law_k"]:List Str)) rfl (Or.inl rfl))) (fun _ _ _ _=>dP) (fun _ _ _ _=>(ao bO (hr.mono (by decide)) rfl T.hJ.mg T.hJ.fn.kp T.hJ.bd .nil aA (aa (pv 0) (aa (pv 1) ae))))))))
   (ag (iR (pv 5) (GN (n:=3) K rfl rfl (bf (aG (i:=6) bF.nd rfl (Or.inl rfl)) (bf (aG (i:=7) bF.nd rfl (Or.inl rfl)) (bf (aG (i:=8) bF.nd rfl (Or.inl rfl)) eA)))))
   (ag (b7 (aL eG (pv 6) (pv 7) (aN _)) (ag (iR (ao mP (hr.mono (by decide)) rfl T.FO.mg T.FO.fn.kp T.FO.bd .nil aA (aa (pv 1) (aa (pv 2) (aa (pv 4) ae)))) (fj (n:=2) K rfl rfl (bf (aG (i:=9) bF.nd rfl (Or.inl rfl)) (bf (aG (i:=10) bF.nd rfl (Or.inl rfl)) eA))))
   (aj (tu (i:=6) (j:=7) (k:=8) rfl bF.nd rfl rfl rfl (by decide) rfl rfl rfl (aa (ao bO (hr.mono (by decide)) rfl T.hJ.mg T.hJ.fn.kp T.hJ.bd .nil aA (aa (pv 1) (aa (pv 9) ae))) (aa (ao bO (hr.mono (by decide)) rfl T.hJ.mg T.hJ.fn.kp T.hJ.bd .nil aA (aa (pv 2) (aa (pv 9) ae))) (aa (pv 10) ae))) rfl))) (aj (b7 (aL eG (pv 7) (pv 8) (aN _)) (ag (iR (ao mP (hr.mono (by decide)) rfl T.FO.mg T.FO.fn.kp T.FO.bd .nil aA (aa (pv 2) (aa (pv 3) (aa (pv 4) ae)))) (fj (n:=2) K rfl rfl (bf (aG (i:=9) bF.nd rfl (Or.inl rfl)) (bf (aG (i:=10) bF.nd rfl (Or.inl rfl)) eA))))
   (aj (tu (i:=6) (j:=7) (k:=8) rfl bF.nd rfl rfl rfl (by decide) rfl rfl rfl (aa (pv 10) (aa (ao bO (hr.mono (by decide)) rfl T.hJ.mg T.hJ.fn.kp T.hJ.bd .nil aA (aa (pv 2) (aa (pv 9) ae))) (aa (ao bO (hr.mono (by decide)) rfl T.hJ.mg T.hJ.fn.kp T.hJ.bd .nil aA (aa (pv 3) (aa (pv 9) ae))) ae))) rfl))) (aj (b7 (aL eG (pv 6) (pv 8) (aN _)) (ag (iR (ao mP (hr.mono (by decide)) rfl T.FO.mg T.FO.fn.kp T.FO.bd .nil aA (aa (pv 1) (aa (pv 3) (aa (pv 4) ae)))) (fj (n:=2) K rfl rfl (bf (aG (i:=9) bF.nd rfl (Or.inl rfl)) (bf (aG (i:=10) bF.nd rfl (Or.inl rfl)) eA))))
   (aj (tu (i:=6) (j:=7) (k:=8) rfl bF.nd rfl rfl rfl (by decide) rfl rfl rfl (aa (ao bO (hr.mono (by decide)) rfl T.hJ.mg T.hJ.fn.kp T.hJ.bd .nil aA (aa (pv 1) (aa (pv 9) ae))) (aa (pv 10) (aa (ao bO (hr.mono (by decide)) rfl T.hJ.mg T.hJ.fn.kp T.hJ.bd .nil aA (aa (pv 3) (aa (pv 9) ae))) ae))) rfl))) bG)))))
   (aj (aI (ao Fb (hr.mono (by decide)) rfl T.Rf.mg T.Rf.fn.kp T.Rf.bd .nil aA (aa (pv 0) (aa (pv 6) (aa (pv 7) (aa (pv 8) ae)))))))))))),?_⟩
 obtain ⟨y,p,q,r,w',v,u,f,g,h,n,rfl,hy,hz,hp,hq,Xo,lw,lv,lu,fy,gy,Xp,fh,gh,hd,Qk⟩:=h
 have hs:(100000:Nat)<sizeLine:=by decide
 refine ⟨_,rfl,_,rfl,_,rfl,by show 3<=sizeLine;decide,fun t nt=>?_⟩
 have ht:upd H t (.tup [.ref p, .ref q, .ref r]) t=some (.tup [.ref p, .ref q, .ref r]):=ah
 have s1:=ar.upd (o:= .tup [.ref p, .ref q, .ref r]) nt
 generalize upd H t (.tup [.ref p, .ref q, .ref r])=H1 at ht s1 ⊢
 refine ⟨t,rfl,⟨_,cR.of ht⟩,?_⟩
 refine kN (K:=K) (a:=t) (xs:=[.ref p, .ref q, .ref r]) (fun n acc H'=>H'=H1/\acc=(bP [f 0,g 0,h 0]).take n) (by show 3<sizeLine;decide) (fun n acc H' h=>by rw[h.1];exact cR.of ht) ⟨rfl,rfl⟩ ?_ ?_
 ·rintro n x acc H5 Nx hn hx p7 ⟨rfl,rfl⟩ nx
  refine ⟨⟨rfl,trivial⟩,da ?_⟩
  have key: ∃(a:Addr) (l:List Nat) (F:Int->Nat),x= .ref a/\jm H5 a l F/\FK l/\(bP [f 0,g 0,h 0])[n]? =some (.str (S [F 0])):=by
   rcases n with _ | _ | _ | n
   ·exact ⟨p,w',f,(YS hx).symm,hp.same s1,lw,rfl⟩
   ·exact ⟨q,v,g,(YS hx).symm,hq.same s1,lv,rfl⟩
   ·exact ⟨r,u,h,(YS hx).symm,Xo.same s1,lu,rfl⟩
   ·exact absurd hn (by show ¬n+1+1+1<3;omega)
  obtain ⟨a,l,F,rfl,ra,la,e⟩:=key
  refine ⟨_,rfl,_,rfl,a,l,F,0,rfl,ra,la,nx _ _ (by simpa using p7) ⟨rfl,?_⟩⟩
  exact take_snoc e
 rintro acc H5 D p7 ⟨rfl,rfl⟩ hD
 rw[show (bP [f 0,g 0,h 0]).take [V.ref p,V.ref q,V.ref r].length=bP [f 0,g 0,h 0] from rfl]
 have NG:upd H5 D (.lst (bP [f 0,g 0,h 0])) D=some (.lst (bP [f 0,g 0,h 0])):=ah
 have s2:=s1.trans (ar.upd (o:= .lst (bP [f 0,g 0,h 0])) hD)
 generalize upd H5 D (.lst (bP [f 0,g 0,h 0]))=H6 at NG s2 ⊢
 have Y1:(dd [] ([[f 0],[g 0],[h 0]].map S)).length≠1:=fun z=>by
  have s0: ∀{a b:Nat},S [a]=S [b]->a=b:=fun {a b} e=>by
   have:=congrArg (fun x:Str=>x.cps.toList) e
   simpa [S]using this
  have e:dd [] ([[f 0],[g 0],[h 0]].map S)=dd [] [S [f 0],S [g 0],S [h 0]]:=rfl
  rw[e]at z
  unfold dd at z
  rw[if_neg (by simp)]at z
  unfold dd at z
  by_cases q1:g 0=f 0
  ·rw[if_pos (by rw[q1];simp)]at z
   unfold dd at z
   rw[if_neg (show ¬S [h 0]∈([]++[S [f 0]]:List Str) from fun q=>fh (s0 (Wg.mp q)).symm)]at z
   unfold dd at z
   simp at z
  ·rw[if_neg (show ¬S [g 0]∈([]++[S [f 0]]:List Str) from fun q=>q1 (s0 (Wg.mp q)))]at z
   unfold dd at z
   split at z
   ·unfold dd at z;simp at z
   ·unfold dd at z;simp at z
 refine ⟨fun m σ H'=>m=0/\σ=[some (.str (S y)),some (.ref p),some (.ref q),some (.ref r),some (.int 0),some (.ref D),none,none,none,none,none]/\H'=H6,⟨0,rfl,rfl,rfl⟩,?_⟩
 rintro m σ H7 ⟨rfl,rfl,rfl⟩
 refine ⟨_,rfl,D,[[f 0],[g 0],[h 0]],rfl,bD.of NG,by show 3<=20;decide,fun t2 Lp=>?_⟩
 refine ⟨t2,_,rfl,ah,ZI (x_ _ _) (by show 0+3<=1000;decide),_,_,rfl,rfl,_,rfl,j9 (decide_eq_false (by omega)) ?_⟩
 have s3:=s2.trans (ar.upd (o:=yf t2 (dd [] ([[f 0],[g 0],[h 0]].map S)).length) Lp)
 have Ro:upd H7 t2 (yf t2 (dd [] ([[f 0],[g 0],[h 0]].map S)).length) D=some (.lst (bP [f 0,g 0,h 0])):=(ar.upd Lp) D _ NG
 generalize upd H7 t2 (yf t2 (dd [] ([[f 0],[g 0],[h 0]].map S)).length)=H8 at s3 Ro ⊢
 refine ⟨_,rfl,D,_,rfl,bD.of Ro,rfl,_,_,rfl,_,_,rfl,_,_,rfl,rfl,?_⟩
 by_cases z:f 0=g 0
 ·obtain hd:=hd z
  refine ⟨_,rfl,_,rfl,_,_,rfl,rfl,_,rfl,oS (decide_eq_true (by rw[z])) ?_⟩
  refine ⟨_,rfl,_,rfl,_,rfl,p,q,w',v,f,g,n,rfl,hp.same s3,hq.same s3,lw,lv,z,hd,fun t3 Rp=>?_⟩
  have s4:=s3.trans (ar.upd (o:= .tup [.int (gu f g n 0:Nat), .str (S [aC (f ((gu f g n 0:Nat) - 1))])]) Rp)
  refine ⟨t3,_,rfl,cR.of ah,rfl,_,_,rfl,_,_,rfl,rfl,?_⟩
  generalize upd H8 t3 (.tup [.int (gu f g n 0:Nat), .str (S [aC (f ((gu f g n 0:Nat) - 1))])])=H9 at s4 ⊢
  refine ⟨_,rfl,_,rfl,p,w',f,_,rfl,hp.same s4,lw,_,rfl,_,rfl,q,v,g,_,rfl,hq.same s4,lv,_,rfl,_,_,_,rfl,?_⟩
  refine ⟨_,rfl,_,rfl,_,rfl,_,rfl,y,_,_,_,rfl,hy.nd,fy _,gy _,hy.cl _ (fy _),by omega,?_⟩
  have:=Qk H9 s4
  unfold IZ at this
  rw[if_pos z]at this
  exact this
 ·refine ⟨_,rfl,_,rfl,_,_,rfl,rfl,_,rfl,j9 (decide_eq_false fun q=>z (by simpa using q)) ?_⟩
  refine ⟨_,rfl,_,rfl,_,_,rfl,rfl,_,rfl,j9 (decide_eq_false fun q=>gh (by simpa using q)) ?_⟩
  refine ⟨_,rfl,_,rfl,_,_,rfl,rfl,_,rfl,j9 (decide_eq_false fun q=>fh (by simpa using q)) ?_⟩
  refine ⟨_,rfl,_,rfl,_,rfl,_,rfl,y,_,_,_,rfl,hy.nd,fy _,gy _,Xp _,by omega,?_⟩
  have:=Qk H8 s3
  unfold IZ at this
  rw[if_neg z]at this
  exact this
theorem B9:bB P w K mg base d_ 5 MN Ny ["_law_yard_here","_law_w","_law_i","_law_v","_law_j"] (se K):=by
 have uD:=HL (P:=P) (w:=w) (base:=base) T
 have bO:=kx (P:=P) (w:=w) (base:=base) T
 have wU:=B8 (P:=P) (w:=w) (base:=base) T
 refine T.Rg.fn.ok g_ (fun vs H Q E h=>yV h) (fun cA A outer s H vs Q E hr h=>?_)
 refine ⟨_,(ag (xq (i:=5) (j:=6) rfl g_.nd rfl rfl (by decide) rfl rfl (aa (ao uD (hr.mono (by decide)) rfl T.B4.mg T.B4.fn.kp T.B4.bd .nil aA (aa (pv 1) (aa (pv 2) (aa ai ae)))) (aa (ao uD (hr.mono (by decide)) rfl T.B4.mg T.B4.fn.kp T.B4.bd .nil aA (aa (pv 1) (aa (pv 2) (aa (fW dN ai) ae)))) ae)) rfl)
   (ag (xq (i:=7) (j:=8) rfl g_.nd rfl rfl (by decide) rfl rfl (aa (ao uD (hr.mono (by decide)) rfl T.B4.mg T.B4.fn.kp T.B4.bd .nil aA (aa (pv 3) (aa (pv 4) (aa ai ae)))) (aa (ao uD (hr.mono (by decide)) rfl T.B4.mg T.B4.fn.kp T.B4.bd .nil aA (aa (pv 3) (aa (pv 4) (aa (fW dN ai) ae)))) ae)) rfl)
   (ag (kM (i:=9) ["_law_ray_here"] [none] g_.nd rfl (Or.inl rfl) (ju K rfl (bS (aa (pv 7) (aa (pv 8) ae)))) trivial (fun _ _ _ _=>(aG (i:=0) (by decide+kernel:List.Nodup (["_law_ray_here"]:List Str)) rfl (Or.inl rfl))) (fun _ _ _ _=>dP) (fun _ _ _ _=>(ao bO (hr.mono (by decide)) rfl T.hJ.mg T.hJ.fn.kp T.hJ.bd .nil aA (aa (pv 0) (aa ai ae)))))
   (ag (b7 (aL (Ke K rfl) (ao bO (hr.mono (by decide)) rfl T.hJ.mg T.hJ.fn.kp T.hJ.bd .nil aA (aa (pv 6) (aa ai ae))) (pv 9) (by with_unfolding_all rfl)) (aj (aI zt)) bG)
   (ag (aq (i:=10) g_.nd rfl (Or.inl rfl) (ao wU (hr.mono (by decide)) rfl T.Lm.mg T.Lm.fn.kp T.Lm.bd .nil aA (aa (pv 0) (aa (pv 5) (aa (pv 7) (aa (pv 6) ae))))))
   (aj (aI (du Kd (pv 10) (ao wU (hr.mono (by decide)) rfl T.Lm.mg T.Lm.fn.kp T.Lm.bd .nil aA (aa (pv 0) (aa (pv 5) (aa (pv 8) (aa (pv 6) ae))))) (aN _))))))))),?_⟩
 obtain ⟨y,w',v,i,j,rfl,hy,hz,hw,lQ,hv,U9,Qk⟩:=h
 have hs:(100000:Nat)<sizeLine:=by decide
 have lw:FK w':=⟨hw.ne,fun c hc=>hy.lt c (hw.bW c hc),by omega⟩
 have lv:FK v:=⟨hv.ne,fun c hc=>hy.lt c (hv.bW c hc),by omega⟩
 refine ⟨_,rfl,_,rfl,w',i,1,rfl,fun p1 n1=>?_⟩
 have r1:jm (upd H p1 (.tup [.str (S []), .str (S w'), .int i, .int 1])) p1 w' (sq w' i):=⟨i,1,ah, .inl ⟨rfl,rfl⟩⟩
 have s1:=ar.upd (o:= .tup [.str (S []), .str (S w'), .int i, .int 1]) n1
 generalize upd H p1 (.tup [.str (S []), .str (S w'), .int i, .int 1])=H1 at r1 s1 ⊢
 refine ⟨_,rfl,_,rfl,_,rfl,w',i, -1,rfl,fun p2 n2=>?_⟩
 have r2:jm (upd H1 p2 (.tup [.str (S []), .str (S w'), .int i, .int (-1)])) p2 w' (bq w' (i - 1)):=⟨i, -1,ah, .inr ⟨rfl,rfl⟩⟩
 have t2:=ar.upd (o:= .tup [.str (S []), .str (S w'), .int i, .int (-1)]) n2
 generalize upd H1 p2 (.tup [.str (S []), .str (S w'), .int i, .int (-1)])=H2 at r2 t2 ⊢
 refine ⟨_,_,rfl,?_⟩
 refine ⟨_,rfl,_,rfl,v,j,1,rfl,fun p3 n3=>?_⟩
 have r3:jm (upd H2 p3 (.tup [.str (S []), .str (S v), .int j, .int 1])) p3 v (sq v j):=⟨j,1,ah, .inl ⟨rfl,rfl⟩⟩
 have t3:=ar.upd (o:= .tup [.str (S []), .str (S v), .int j, .int 1]) n3
 generalize upd H2 p3 (.tup [.str (S []), .str (S v), .int j, .int 1])=H3 at r3 t3 ⊢
 refine ⟨_,rfl,_,rfl,_,rfl,v,j, -1,rfl,fun p4 n4=>?_⟩
 have r4:jm (upd H3 p4 (.tup [.str (S []), .str (S v), .int j, .int (-1)])) p4 v (bq v (j - 1)):=⟨j, -1,ah, .inr ⟨rfl,rfl⟩⟩
 have t4:=ar.upd (o:= .tup [.str (S []), .str (S v), .int j, .int (-1)]) n4
 generalize upd H3 p4 (.tup [.str (S []), .str (S v), .int j, .int (-1)])=H4 at r4 t4 ⊢
 have s4:=((s1.trans t2).trans t3).trans t4
 replace r1:=((r1.same t2).same t3).same t4
 replace r2:=(r2.same t3).same t4
 replace r3:=r3.same t4
 clear t2 t3 t4 n1 n2 n3 n4
 refine ⟨_,_,rfl,?_⟩
 refine ⟨_,rfl,_,rfl,by show 2<=sizeLine;decide,fun t nt=>?_⟩
 have ht:upd H4 t (.tup [.ref p3, .ref p4]) t=some (.tup [.ref p3, .ref p4]):=ah
 have s5:=ar.upd (o:= .tup [.ref p3, .ref p4]) nt
 generalize upd H4 t (.tup [.ref p3, .ref p4])=H5 at ht s5 ⊢
 refine ⟨t,rfl,⟨_,cR.of ht⟩,?_⟩
 have e3:sq v j 0=rd v j:=by unfold sq;rw[Qac]
 have e4:bq v (j - 1) 0=aC (rd v (j - 1)):=by unfold bq;rw[Qbq]
 have e1:sq w' i 0=rd w' i:=by unfold sq;rw[Qac]
 have e2:bq w' (i - 1) 0=aC (rd w' (i - 1)):=by unfold bq;rw[Qbq]
 refine kN (K:=K) (a:=t) (xs:=[.ref p3, .ref p4]) (fun n acc H'=>H'=H5/\acc=(bP [rd v j,aC (rd v (j - 1))]).take n) (by show 2<sizeLine;decide) (fun n acc H' h=>by rw[h.1];exact cR.of ht) ⟨rfl,rfl⟩ ?_ ?_
 ·rintro n x acc H5 Nx hn hx p7 ⟨rfl,rfl⟩ nx
  refine ⟨trivial,da ?_⟩
  have key: ∃(a:Addr) (F:Int->Nat),x= .ref a/\jm H5 a v F/\(bP [rd v j,aC (rd v (j - 1))])[n]? =some (.str (S [F 0])):=by
   rcases n with _ | _ | n
   ·exact ⟨p3,_,(YS hx).symm,r3.same s5,by rw[e3];rfl⟩
   ·exact ⟨p4,_,(YS hx).symm,r4.same s5,by rw[e4];rfl⟩
   ·exact absurd hn (by show ¬n+1+1<2;omega)
  obtain ⟨a,F,rfl,ra,e⟩:=key
  refine ⟨_,rfl,a,v,F,0,rfl,ra,lv,nx _ _ (by simpa using p7) ⟨rfl,?_⟩⟩
  exact take_snoc e
 rintro acc H5 D p7 ⟨rfl,rfl⟩ hD
 rw[show (bP [rd v j,aC (rd v (j - 1))]).take [V.ref p3,V.ref p4].length=bP [rd v j,aC (rd v (j - 1))] from rfl]
 have NG:upd H5 D (.lst (bP [rd v j,aC (rd v (j - 1))])) D=some (.lst (bP [rd v j,aC (rd v (j - 1))])):=ah
 have s6:=(s4.trans s5).trans (ar.upd (o:= .lst (bP [rd v j,aC (rd v (j - 1))])) hD)
 have s7:=s5.trans (ar.upd (o:= .lst (bP [rd v j,aC (rd v (j - 1))])) hD)
 generalize upd H5 D (.lst (bP [rd v j,aC (rd v (j - 1))]))=H6 at NG s6 s7 ⊢
 replace r1:=r1.same s7
 replace r2:=r2.same s7
 replace r3:=r3.same s7
 replace r4:=r4.same s7
 have uR:A3 (.str (S [bq w' (i - 1) 0])) (bP [rd v j,aC (rd v (j - 1))])=decide ([bq w' (i - 1) 0]∈[[rd v j],[aC (rd v (j - 1))]]):=EU [bq w' (i - 1) 0] [[rd v j],[aC (rd v (j - 1))]]
 refine ⟨_,rfl,p2,w',_,0,rfl,r2,lw,_,rfl,D,_,rfl, .inl (bD.of NG),rfl,rfl,?_⟩
 refine ⟨_,rfl,?_⟩
 by_cases z:aC (rd w' (i - 1))=rd v j\/aC (rd w' (i - 1))=aC (rd v (j - 1))
 ·refine oS (by show A3 _ _=true;exact uR.trans (decide_eq_true (by rw[e2];rcases z with z | z<;>rw[z]<;>simp))) ?_
  have:=Qk H6 s6
  unfold EV at this
  rw[if_pos z]at this
  exact this
 ·refine j9 (by show A3 _ _=false;exact uR.trans (decide_eq_false (by rw[e2];intro q;exact z (by simpa using q)))) ?_
  have z1:aC (rd w' (i - 1))≠rd v j:=fun q=>z (.inl q)
  have z2:aC (rd w' (i - 1))≠aC (rd v (j - 1)):=fun q=>z (.inr q)
  have b1: ∀k,sq w' i k∈y:=fun k=>hw.rd _
  have b2: ∀k,bq w' (i - 1) k∈y:=fun k=>hy.cl _ (hw.rd _)
  have b3: ∀k,sq v j k∈y:=fun k=>hv.rd _
  have b4: ∀k,bq v (j - 1) k∈y:=fun k=>hy.cl _ (hv.rd _)
  have c1:sq w' i 0≠bq w' (i - 1) 0:=by rw[e1,e2];exact hw.red i
  have u3:=dW (f:=sq w' i) (g:=sq v j) hw.ne hv.ne (fun k=>b_ w' i k) (fun k=>b_ v j k) (fun q=>z2 (congrArg aC q))
  have u4:=dW (f:=sq w' i) (g:=bq v (j - 1)) hw.ne hv.ne (fun k=>b_ w' i k) (fun k=>kc v (j - 1) k) (fun q=>z1 (by
   have q1:rd w' (i - 1)=aC (rd v j):=q.trans (by unfold bq;rw[show (j:Int) - 1 - -1=j by omega])
   rw[q1,aJ (hy.lt _ (hv.rd j))]))
  refine ⟨_,rfl,_,rfl,_,rfl,_,rfl,y,p1,p3,p2,w',v,w',_,_,_,w'.length+v.length,rfl,hy,hz,r1,r3,r2,lw,lv,lw,b1,b3,b2,c1,by rw[e3,e2];exact Ne.symm z1,fun _=>u3.2,fun H7 s8=>?_⟩
  refine ⟨_,rfl,_,rfl,_,rfl,_,rfl,_,rfl,y,p1,p4,p2,w',v,w',_,_,_,w'.length+v.length,rfl,hy,hz,r1.same s8,r4.same s8,r2.same s8,lw,lv,lw,b1,b4,b2,c1,by rw[e4,e2];exact Ne.symm z2,fun _=>u4.2,fun H8 s9=>?_⟩
  refine ⟨_,_,rfl,rfl,?_⟩
  have:=Qk H8 ((s6.trans s8).trans s9)
  unfold EV at this
  rw[if_neg z,e2.symm]at this
  refine Eq.mp ?_ this
  congr 2
theorem wV:bB P w K mg base d_ 6 MO Nz ["_law_yard_here","_law_w","_law_v"] (m4 K):=by
 have Fc:=B9 (P:=P) (w:=w) (base:=base) T
 refine T.Rh.fn.ok gI (fun vs H Q E h=>uk h) (fun cA A outer s H vs Q E hr h=>?_)
 refine ⟨_,(ag (aq (i:=3) gI.nd rfl (Or.inl rfl) ai)
   (ag (cE PassesOwn.never rfl (dq rfl T.z_range (aa (aE aM rfl T.z_len YV (aa (pv 1) ae)) ae)) (aG (i:=4) gI.nd rfl (Or.inr rfl)) (aj (aq (i:=3) gI.nd rfl (Or.inl rfl) (az aW (pv 3) (bE K rfl ZA PySem.F.slot_list_count PySem.F.type_list_count (Bq K rfl) (cS ["_law_j","_law_yard_here","_law_w","_law_i","_law_v"] [none,some 0,some 1,some 4,some 2] (dq rfl T.z_range (aa (aE aM rfl T.z_len YV (aa (pv 2) ae)) ae)) ⟨⟨rfl,rfl,by first | exact .inl rfl | exact .inr rfl⟩,⟨⟨rfl,rfl,by first | exact .inl rfl | exact .inr rfl⟩,⟨⟨rfl,rfl,by first | exact .inl rfl | exact .inr rfl⟩,⟨⟨rfl,rfl,by first | exact .inl rfl | exact .inr rfl⟩,trivial⟩⟩⟩⟩ (fun _ _ _ _=>(aG (i:=0) (by decide+kernel:List.Nodup (["_law_j","_law_yard_here","_law_w","_law_i","_law_v"]:List Str)) rfl (Or.inl rfl))) (fun _ _ _ _=>dP) (fun _ _ _ _=>(ao Fc (hr.mono (by decide)) rfl T.Rg.mg T.Rg.fn.kp T.Rg.bd .nil aA (aa (pv 1) (aa (pv 2) (aa (pv 3) (aa (pv 4) (aa (pv 0) ae)))))))) (aa zt ae))))))
   (aj (aI (pv 3))))),?_⟩
 obtain ⟨y,w',v,rfl,hy,hz,hw,lQ,hv,U9,Qk⟩:=h
 have hs:(100000:Nat)<sizeLine:=by decide
 refine ⟨_,rfl,w',rfl,by omega,_,rfl,by omega,by omega,?_⟩
 rw[YT]
 refine fT (fun i σ H'=>ar H H'/\ ∃(F:Nat) (iv:Option V),(F:Int)=sm i (fun a=>sm v.length fun b=>one (EV y w' v a b=true))/\σ=[some (.str (S y)),some (.str (S w')),some (.str (S v)),some (.int F),iv]) ⟨ar.refl H,0,none,rfl,rfl⟩ ?_ ?_
 ·rintro i σ H1 hi ⟨s1,F,iv,hF,rfl⟩
  have lK:i<w'.length:=by omega
  refine ⟨_,rfl,_,rfl,v,rfl,by omega,_,rfl,by omega,by omega,?_⟩
  rw[YT]
  refine iZ (fun n acc H'=>ar H H'/\acc=((List.range n).map fun j:Nat=>EV y w' v i j).map V.bl) (by omega) ⟨s1,rfl⟩ ?_ ?_
  ·rintro n acc H2 Nx hn p7 ⟨s2,rfl⟩ nx
   refine ⟨⟨rfl,rfl,rfl,rfl,trivial⟩,da ?_⟩
   refine ⟨_,rfl,_,rfl,_,rfl,_,rfl,_,rfl,y,w',v,i,n,?_,hy,hz,hw,lQ,hv,U9,fun H3 s3=>nx _ _ (by simp) ⟨s2.trans s3,?_⟩⟩
   ·show [V.str (S y),V.str (S w'),V.int (0+(i:Int)),V.str (S v),V.int (0+(n:Int))]=_
    rw[Qaw,Qaw]
   ·rw[Qah,Zn,Zn]
    rfl
  rintro acc H2 D p7 ⟨s2,rfl⟩ hD
  refine ⟨.inl ⟨rfl,_,bD.of ah⟩,D,_,rfl,rfl,ah,?_⟩
  refine ⟨_,_,rfl,rfl,?_⟩
  refine ⟨s2.trans (ar.upd hD),F+(((List.range v.length).map fun j:Nat=>EV y w' v i j).countP id),_,?_,rfl⟩
  rw[Z0,hF,EZ (fun j=>EV y w' v i j)]
  rfl
 ·rintro σ H1 ⟨s1,F,iv,hF,rfl⟩
  refine ⟨_,rfl,?_⟩
  exact Qk F H1 s1 (hF.trans (HF hy hw hv))
theorem HM:bB P w K mg base d_ 7 MP NA ["_law_yard_here","_law_w"] (AB K):=by
 have zc:=wV (P:=P) (w:=w) (base:=base) T
 refine T.Ri.fn.ok uy (fun vs H Q E h=>EX h) (fun cA A outer s H vs Q E hr h=>?_)
 refine ⟨_,(ag (aq (i:=2) uy.nd rfl (Or.inl rfl) ai)
   (ag (cj PassesOwn.never (aL oK (az bX (aX fz (pv 1) (aY (pv 2)) bH) (aX fz (pv 1) bH (aY (pv 2)))) (pv 1) (aN _)) (aj (aq (i:=2) uy.nd rfl (Or.inl rfl) (az aW (pv 2) ai))))
   (aj (aI (az cf (az aW (az cU (ao zc (hr.mono (by decide)) rfl T.Rh.mg T.Rh.fn.kp T.Rh.bd .nil aA (aa (pv 0) (aa (pv 1) (aa (pv 1) ae)))) ai) (az cU (aE aM rfl T.z_len YV (aa (pv 1) ae)) (pv 2))) ai))))),?_⟩
 obtain ⟨y,w',rfl,hy,hz,hw,lQ,Qk⟩:=h
 have hs:(100000:Nat)<sizeLine:=by decide
 have kP:=Ut.mpr hw.ne
 refine ⟨fun m σ H'=> ∃k:Nat,σ=[some (.str (S y)),some (.str (S w')),some (.int k)]/\m=w'.length - k/\1<=k/\k<=w'.length/\(∀d,1<=d->d<k-> ¬gf w' d)/\H'=H,⟨_,1,rfl,rfl,Ur _,kP,fun d h1 h2=>by omega,rfl⟩,?_⟩
 rintro m σ H2 ⟨k,rfl,rfl,GS,sV,Lq,rfl⟩
 have PQ:cut w' (some (k:Int)) none++cut w' none (some (k:Int))=gs w' k:=by rw[cg,bU];rfl
 have hl:(cut w' (some (k:Int)) none).length+(cut w' none (some (k:Int))).length<=sizeLine:=by rw[cg,bU,Zz,Zo];omega
 refine ⟨_,rfl,_,rfl,_,rfl,w',rfl,by omega,_,rfl,_,rfl,_,rfl,w',rfl,by omega,_,_,rfl,rfl,hl,?_⟩
 refine ⟨_,rfl,_,_,rfl,rfl,_,rfl,?_⟩
 by_cases z:gf w' k
 ·refine j9 (by rw[PQ,decide_eq_true (show gs w' k=w' from z)];rfl) ?_
  have hr:=gY (ue hw.ne) (.inr ⟨GS,sV,z,Lq⟩:i4 w' k)
  have Xq:kr w'=((w'.length / k:Nat):Int):=by unfold kr;rw[hr]
  have hk:1<=w'.length / k:=Nat.div_pos sV GS
  refine ⟨_,rfl,_,rfl,_,rfl,y,w',w',rfl,hy,hz,hw,lQ,hw,lQ,fun n H3 s3 e=>?_⟩
  refine ⟨_,_,rfl,rfl,⟨by decide,by omega⟩,?_⟩
  refine ⟨_,rfl,w',rfl,by omega,_,rfl,_,_,rfl,rfl,⟨by omega,by omega⟩,?_⟩
  refine ⟨_,_,rfl,rfl,_,_,rfl,rfl,?_⟩
  have:=Qk (n / 2+w'.length / k - 1) H3 s3 (by rw[<-e,Xq];omega)
  refine Eq.mp ?_ this
  congr 2
  show _=(n:Int) / 2+(w'.length:Int) / (k:Int) - 1
  rw[<-Qb6]
  omega
 ·refine oS (by rw[PQ,decide_eq_false (show ¬gs w' k=w' from z)];rfl) ?_
  have cC:k<w'.length:=Nat.lt_of_le_of_ne sV fun q=>z (by rw[q];exact G8 w')
  refine ⟨_,rfl,_,_,rfl,rfl,w'.length - (k+1),by omega,k+1,rfl,rfl,by omega,cC,fun d h1 h2=>?_,rfl⟩
  by_cases q:d=k
  ·rw[q];exact z
  ·exact Lq d h1 (by omega)
theorem ze:bB P w K mg base d_ 8 MQ NB ["_law_yard_here","_law_word_here"] (pG K):=by
 have wW:=uA (P:=P) (w:=w) (base:=base) T
 have Lr:=HM (P:=P) (w:=w) (base:=base) T
 refine T.Rj.fn.ok p5 (fun vs H Q E h=>wN h) (fun cA A outer s H vs Q E hr h=>?_)
 refine ⟨_,(ag (aq (i:=2) p5.nd rfl (Or.inl rfl) (ao wW (hr.mono (by decide)) rfl T.Rc.mg T.Rc.fn.kp T.Rc.bd .nil aA (aa (pv 1) ae)))
   (aj (aI (xp (du oK (pv 2) (gv [] (by decide+kernel)) (aN _)) (xo (du hZ (ao Lr (hr.mono (by decide)) rfl T.Ri.mg T.Ri.fn.kp T.Ri.bd .nil aA (aa (pv 0) (aa (pv 2) ae))) ai (aN _))))))),?_⟩
 obtain ⟨y,w',c,rfl,hy,hz,hc,ev,q⟩:=h
 have hs:(100000:Nat)<sizeLine:=by decide
 have uN:=hc.uN
 refine ⟨_,rfl,w',rfl,hc.lt,by omega,fun H1 s1=>?_⟩
 rw[hc.is]
 refine ⟨_,rfl,_,_,rfl,rfl,_,rfl,?_⟩
 rcases hc.sw with e | Ck
 ·refine j9 (by rw[decide_eq_true e];rfl) ?_
  have:=q H1 s1
  unfold EY at this
  rw[decide_eq_true e]at this
  exact this
 ·have hn:=Ck.ne
  refine oS (by rw[decide_eq_false (show ¬c=[] from hn)];rfl) ?_
  refine ⟨_,rfl,_,rfl,y,c,rfl,hy,hz,Ck,hc.len,fun n H2 s2 e=>?_⟩
  refine ⟨_,_,rfl,rfl,?_⟩
  have ed:decide ((n:Int)=0)=EY y c:=by
   unfold EY Tj
   rw[decide_eq_false (show ¬c=[] from hn)]
   obtain ⟨k,hk⟩:=ev Ck
   have B_:=(Ld (y:=y) hn).1
   unfold pA at hk B_ ⊢
   exact decide_eq_decide.mpr ⟨fun z=>by omega,fun z=>by omega⟩
  show Q (.bl (decide ((n:Int)=0))) H2
  rw[ed]
  exact q H2 (s1.trans s2)
theorem gq:bB P w K mg base d_ 1 Mx Ng ["_law_box_here","_law_many"] (vL K):=by
 refine T.dZ.fn.ok pY (fun vs H Q E h=>Bs h) (fun cA A outer s H vs Q E hr h=>?_)
 refine ⟨_,(ag (b7 (aL kB (aP (bu K rfl) (pv 0) ai (fun _ _=>rfl)) ai (aN _)) (ag (aq (i:=2) pY.nd rfl (Or.inl rfl) (az eB (aP (bu K rfl) (pv 0) ai (fun _ _=>rfl)) (pv 1)))
   (ag (iR (az cU (aP (bu K rfl) (pv 0) ai (fun _ _=>rfl)) (pv 1)) (Cu (pv 0) ai set_list))
   (aj (aI (pv 2))))) bG)
   (ag (aq (i:=3) pY.nd rfl (Or.inl rfl) (az eB (az hX (aP (bu K rfl) (pv 0) ai (fun _ _=>rfl)) ai) ai))
   (ag (iR (az aW (az eB (az aW (az hX (pv 3) ai) ai) ai) ai) (Cu (pv 0) ai set_list))
   (aj (aI (az eB (az cU (az aW (az hX (pv 3) ai) (aP (bu K rfl) (pv 0) ai (fun _ _=>rfl))) ai) (pv 1))))))),?_⟩
 obtain ⟨b,m,rfl,⟨x,y,hb⟩,h1,h2,q⟩:=h
 have fin: ∀(r x' y':Int),0<=r->r<m->Q (.int r) (upd H b (.lst [.int x', .int y'])):=fun r x' y' h3 h4=>by
  have e:r=((r.toNat:Nat):Int):=by omega
  rw[e]
  exact q r.toNat _ (by omega) ⟨x',y',ah⟩ (aV.upd b H _)
 refine ⟨_,rfl,b,_,0,_,rfl,rfl,bD.of hb,rfl,_,_,rfl,rfl,_,rfl,cq (fun e=>?_) (fun e=>?_)⟩
 ·refine ⟨_,rfl,b,_,0,_,rfl,rfl,bD.of hb,rfl,_,rfl,_,_,rfl,rfl,(by omega:0<m),?_⟩
  refine ⟨_,rfl,b,_,0,_,rfl,rfl,bD.of hb,rfl,_,rfl,_,_,rfl,rfl,⟨by omega,by omega⟩,_,rfl,b,_,0,0,rfl,rfl,hb,rfl,_,rfl,?_⟩
  exact fin (x%m) (x / m) y (Qai _ (by omega)) (kb _ (by omega))
 ·refine ⟨_,rfl,b,_,1,_,rfl,rfl,bD.of hb,rfl,_,_,rfl,rfl, .inr ⟨by decide,by decide⟩,_,_,rfl,rfl,(by decide:(0:Int)<2147483647),?_⟩
  refine ⟨_,rfl,_,_,rfl,rfl, .inr ⟨by decide,by decide⟩,_,_,rfl,rfl,_,_,rfl,rfl,(by decide:(0:Int)<2147483629),_,_,rfl,rfl,_,rfl,b,_,1,1,rfl,rfl,hb,rfl,?_⟩
  refine ⟨_,rfl,_,_,rfl,rfl, .inr ⟨by decide,by decide⟩,_,rfl,b,_,1,_,rfl,rfl,bD.of ah,rfl,_,_,rfl,rfl,_,_,rfl,rfl,⟨by decide,by decide⟩,_,rfl,_,_,rfl,rfl,(by omega:0<m),?_⟩
  exact fin _ _ _ (Qai _ (by omega)) (kb _ (by omega))
theorem wX:bB P w K mg base d_ 2 MB Nj ["_law_box_here","_law_few","_law_top"] (m3 K):=by
 have bA:=gq (P:=P) (w:=w) (base:=base) T
 have bz:=dA (P:=P) (w:=w) (base:=base) T
 refine T.Q8.fn.ok b9 (fun vs H Q E h=>uj h) (fun cA A outer s H vs Q E hr h=>?_)
 refine ⟨_,(ag (aq (i:=3) b9.nd rfl (Or.inr rfl) (cV (oE rfl) rfl T.z_list boot_list (aa (gv [97,98,99,100,101,102,103,104,105,106,107,108,109,110,111,112,113,114,115,116,117,118,119,120,121,122] (by decide+kernel)) ae)))
   (ag (kM (i:=4) ["_law_k","_law_left","_law_box_here"] [none,some 3,some 0] b9.nd rfl (Or.inl rfl) (dq rfl T.z_range (aa (az aW (pv 1) (ao bA (hr.mono (by decide)) rfl T.dZ.mg T.dZ.fn.kp T.dZ.bd .nil aA (aa (pv 0) (aa (az aW (az cf (pv 2) (pv 1)) ai) ae)))) ae)) ⟨⟨rfl,rfl,by first | exact .inl rfl | exact .inr rfl⟩,⟨⟨rfl,rfl,by first | exact .inl rfl | exact .inr rfl⟩,trivial⟩⟩ (fun _ _ _ _=>(aG (i:=0) (by decide+kernel:List.Nodup (["_law_k","_law_left","_law_box_here"]:List Str)) rfl (Or.inl rfl))) (fun _ _ _ _=>dP) (fun _ _ _ _=>(bE K rfl ZA Qbi Qbh kF (pv 1) (aa (ao bA (hr.mono (by decide)) rfl T.dZ.mg T.dZ.fn.kp T.dZ.bd .nil aA (aa (pv 2) (aa (aE (bI K rfl) rfl T.z_len YV (aa (pv 1) ae)) ae))) ae))))
   (ag (xq (i:=5) (j:=6) rfl b9.nd rfl rfl (by decide) rfl rfl (aa (aP (bu K rfl) (pv 4) ai (fun _ _=>rfl)) (aa (aP (bu K rfl) (pv 4) ai (fun _ _=>rfl)) ae)) rfl)
   (ag (aq (i:=7) b9.nd rfl (Or.inl rfl) (az bX (az bX (az bX (pv 5) (pv 6)) (ao bz (hr.mono (by decide)) rfl T.gQ.mg T.gQ.fn.kp T.gQ.bd .nil aA (aa (pv 5) ae))) (ao bz (hr.mono (by decide)) rfl T.gQ.mg T.gQ.fn.kp T.gQ.bd .nil aA (aa (pv 6) ae))))
   (ag (cE PassesOwn.never rfl (fA K rfl (aX (vh K rfl) (pv 4) (aY ai) bH)) (aG (i:=8) b9.nd rfl (Or.inl rfl)) (aj (cE PassesOwn.never rfl (ju K rfl (bS (aa (pv 8) (aa (ao bz (hr.mono (by decide)) rfl T.gQ.mg T.gQ.fn.kp T.gQ.bd .nil aA (aa (pv 8) ae)) ae)))) (aG (i:=9) b9.nd rfl (Or.inl rfl)) (ag (aq (i:=10) b9.nd rfl (Or.inl rfl) (ao bA (hr.mono (by decide)) rfl T.dZ.mg T.dZ.fn.kp T.dZ.bd .nil aA (aa (pv 0) (aa (az aW (aE aM rfl T.z_len YV (aa (pv 7) ae)) ai) ae))))
   (aj (aq (i:=7) b9.nd rfl (Or.inl rfl) (az bX (az bX (aX fz (pv 7) bH (aY (pv 10))) (pv 9)) (aX fz (pv 7) (aY (pv 10)) bH))))))))
   (ag (aq (i:=10) b9.nd rfl (Or.inl rfl) (ao bA (hr.mono (by decide)) rfl T.dZ.mg T.dZ.fn.kp T.dZ.bd .nil aA (aa (pv 0) (aa (aE aM rfl T.z_len YV (aa (pv 7) ae)) ae))))
   (aj (aI (bS (aa (az bX (aX fz (pv 7) (aY (pv 10)) bH) (aX fz (pv 7) bH (aY (pv 10)))) (aa (pv 5) (aa (pv 6) ae)))))))))))),?_⟩
 obtain ⟨b,rfl,hb,q⟩:=h
 have hs:(100000:Nat)<sizeLine:=by decide
 have Xr:aR.length=26:=rfl
 have sc: ∀a∈aR,aC a∉aR:=by decide+kernel
 refine ⟨aR,rfl,by rw[Xr];omega,fun L0 nL=>?_⟩
 have Lb:=hb.ne nL
 have vG:=hb.dY (o:= .lst (bP aR)) Lb
 have U_:upd H L0 (.lst (bP aR)) L0=some (.lst (bP aR)):=ah
 have s1:aV b H (upd H L0 (.lst (bP aR))):=aV.of (ar.upd nL)
 generalize upd H L0 (.lst (bP aR))=H1 at vG U_ s1 ⊢
 refine ⟨_,rfl,_,rfl,_,rfl,_,rfl,_,_,rfl,rfl,_,_,rfl,rfl,b,_,rfl,vG,by decide,by decide,fun r H2 hr jN s2=>?_⟩
 have PR:r<3:=by omega
 refine ⟨_,_,rfl,rfl,_,rfl,by omega,by omega,?_⟩
 rw[show ((2:Int)+(r:Int)).toNat=r+2 by omega]
 refine iZ (fun i acc H'=> ∃(L M:List Nat),acc=bP M/\M.length=i/\H' L0=some (.lst (bP L))/\L.length+i=26/\(M++L).Perm aR/\bT H' b/\aV b H H') (by omega) ⟨aR,[],rfl,rfl,s2 _ _ U_ Lb,rfl,Qc9 _,jN,s1.trans s2⟩ ?_ ?_
 ·rintro i acc H3 Nx hi p7 ⟨L,M,rfl,ml,Rq,ll,pm,m5,s3⟩ nx
  refine ⟨⟨rfl,rfl,trivial⟩,da ?_⟩
  refine ⟨_,rfl, .inl ⟨rfl,_,bD.of Rq⟩,_,rfl,_,rfl,L0,_,rfl, .inl (bD.of Rq),b,_,rfl,m5,by rw[aZ];omega,by rw[aZ];omega,fun k H4 hk zf s4=>?_⟩
  rw[aZ]at hk
  have Cj:k<L.length:=by omega
  have Xs:=s4 _ _ Rq Lb
  refine ⟨L0,_,_,k,_,rfl,rfl,Xs,by omega,by omega,IW (by rw[aZ];exact Cj),yl Cj,?_⟩
  rw[l_]
  refine nx _ _ (by rw[L5];simpa using p7) ⟨L.eraseIdx k,M++[L[k]],by rw[dj],by rw[L5,ml];rfl,ah,by rw[List.length_eraseIdx_of_lt Cj];omega,?_,zf.dY Lb,(s3.trans s4).dY nL⟩
  rw[Qab]
  exact ((h7 (J0 Cj)).append_left M).trans pm
 ·rintro acc H3 D p7 ⟨L,M,rfl,ml,Rq,ll,pm,m5,s3⟩ hD
  have Db:=m5.ne hD
  have nd:M.Nodup:=(Qaa.mp (pm.nodup_iff.mpr rC)).1
  have sm: ∀c∈M,c∈aR:=fun c hc=>pm.mem_iff.mp (Qae _ hc)
  have PU:upd H3 D (.lst (bP M)) D=some (.lst (bP M)):=ah
  have zf:=m5.dY (o:= .lst (bP M)) Db
  have s4:=s3.after (ar.upd (o:= .lst (bP M)) hD)
  generalize upd H3 D (.lst (bP M))=H4 at PU zf s4 ⊢
  obtain ⟨x,y,N,rfl⟩: ∃x y N,M=x::y::N:=by
   match M,ml with
   | x::y::N,_=>exact ⟨x,y,N,rfl⟩
  have nl:N.length=r:=by simp at ml;exact ml
  have x1:=sm x Wi
  have y1:=sm y (Uq _ Wi)
  have lx:Lt x:= .inl x1
  have ly:Lt y:= .inl y1
  have xy:x≠y:=fun g=>by
   have:=(ZN.mp nd).1
   exact this (by rw[g];exact Wi)
  have ax:iD (bP (x::y::N)) (0:Int)=some (.str (S [x])):=bN (j:=0) rfl
  have ay:iD (bP (x::y::N)) (1:Int)=some (.str (S [y])):=bN (j:=1) rfl
  refine ⟨_,rfl,D,_,_,_,rfl,rfl,bD.of PU,ax,_,rfl,D,_,_,_,rfl,rfl,bD.of PU,ay,_,_,rfl,?_⟩
  refine ⟨_,rfl,_,rfl,_,_,rfl,rfl,by show 1+1<=sizeLine;decide,_,rfl,x,rfl,lx,_,_,rfl,rfl,by show 2+1<=sizeLine;decide,_,rfl,y,rfl,ly,_,_,rfl,rfl,by show 3+1<=sizeLine;decide,?_⟩
  have y4:Yd [x,y,aC x,aC y]:=by
   have n2:x≠aC y:=fun g=>sc y y1 (by rw[<-g];exact x1)
   have n3:y≠aC x:=fun g=>sc x x1 (by rw[<-g];exact y1)
   have n4:aC x≠aC y:=fun g=>xy (fk lx ly g)
   have n5:=eT lx
   have n6:=eT ly
   refine ⟨?_,fun a ha=>?_,fun a ha=>?_⟩
   ·simp only[ZN,Wj,Zy,or_false,not_or,Qcg,and_true,not_false_eq_true]
    exact ⟨⟨xy,Ne.symm n5,n2⟩,⟨n3,Ne.symm n6⟩,n4⟩
   ·simp only[Wj,Zy,or_false]at ha
    rcases ha with g | g | g | g<;>rw[g]
    ·exact lx
    ·exact ly
    ·exact lx.aC
    ·exact ly.aC
   ·simp only[Wj,Zy,or_false]at ha ⊢
    rcases ha with g | g | g | g<;>rw[g]
    ·exact .inr (.inr (.inl rfl))
    ·exact .inr (.inr (.inr rfl))
    ·exact .inl (aJ lx)
    ·exact .inr (.inl (aJ ly))
  show Jx _ _ _ [some (.ref b),some (.int 2),some (.int 4),some (.ref L0),some (.ref D),some (.str (S [x])),some (.str (S [y])),some (.str (S [x,y,aC x,aC y])),none,none,none] H4
  refine ⟨_,rfl,_,rfl,D,_,rfl,bD.of PU,fun p2 n2=>?_⟩
  have ec:A2 (bP (x::y::N)) (some 2) none=bP N:=by
   show cut (bP (x::y::N)) (some ((2:Nat):Int)) none=_
   rw[bU]
   rfl
  rw[ec]
  have Va:=zf.ne n2
  have xf:upd H4 p2 (.lst (bP N)) p2=some (.lst (bP N)):=ah
  have Vb:=zf.dY (o:= .lst (bP N)) Va
  have s5:=s4.after (ar.upd (o:= .lst (bP N)) n2)
  generalize upd H4 p2 (.lst (bP N))=H5 at xf Vb s5 ⊢
  refine ⟨p2,rfl,⟨_,bD.of xf⟩,?_⟩
  refine gT (K:=K) (a:=p2) (xs:=bP N) (fun i σ H'=> ∃(z:List Nat) (v8 v9 v10:Option V),σ=[some (.ref b),some (.int 2),some (.int 4),some (.ref L0),some (.ref D),some (.str (S [x])),some (.str (S [y])),some (.str (S z)),v8,v9,v10]/\Yd z/\z.length=4+2*i/\x∈z/\y∈z/\(∀c∈z,c∈x::y::N.take i\/aC c∈x::y::N.take i)/\H' p2=some (.lst (bP N))/\bT H' b/\aV b H H') ⟨[x,y,aC x,aC y],none,none,none,rfl,y4,rfl,Wi,Uq _ Wi,fun c hc=>?_,xf,Vb,s5⟩ (fun i σ H' _ h=>by obtain ⟨_,_,_,_,_,_,_,_,_,_,g,_⟩:=h;exact bD.of g) ?_ ?_
  ·simp only[Wj,Zy,or_false]at hc
   rcases hc with g | g | g | g<;>rw[g]
   ·exact .inl Wi
   ·exact .inl (Uq _ Wi)
   ·right;rw[aJ lx];exact Wi
   ·right;rw[aJ ly];exact Uq _ Wi
  ·rintro i e σ H6 he ⟨z,v8,v9,v10,rfl,hz,zl,xz,yz,Tq,NH,Rr,s6⟩
   obtain ⟨c,hc,rfl⟩:=gz he
   have uR:=(J1.mp hc).1
   have c1:=sm c (Uq _ (Uq _ (Zs hc)))
   have lc:Lt c:= .inl c1
   have cN:c∉x::y::N.take i:=by
    have hp:(x::y::N.take i).Sublist (x::y::N):=((Qdn i N).cons₂ y).cons₂ x
    have Tr:(x::y::N.take i++[c]).Nodup:=by
     refine nd.sublist ?_
     have:x::y::N.take i++[c]=x::y::N.take (i+1):=by rw[<-take_snoc hc];rfl
     rw[this]
     exact ((Qdn _ N).cons₂ y).cons₂ x
    intro g
    exact (Qaa.mp Tr).2.2 c g c Wi rfl
   have c2:c∉z:=fun g=>(Tq c g).elim cN fun k=>by
    have:aC c∈aR:=sm _ (by
     rcases Wj.mp k with k | k
     ·rw[k];exact Wi
     ·rcases Wj.mp k with k | k
      ·rw[k];exact Uq _ Wi
      ·exact Uq _ (Uq _ (Qa9 k)))
    exact sc c c1 this
   have c3:aC c∉z:=fun g=>c2 (by have:=hz.cl _ g;rwa [aJ lc]at this)
   refine ⟨_,rfl,_,rfl,c,rfl,lc,by show 2<=sizeLine;decide,fun T nT=>?_⟩
   have Tb:=Rr.ne nT
   have hT:upd H6 T (.tup [.str (S [c]), .str (S [aC c])]) T=some (.tup [.str (S [c]), .str (S [aC c])]):=ah
   have PV:=Rr.dY (o:= .tup [.str (S [c]), .str (S [aC c])]) Tb
   have s7:=s6.after (ar.upd (o:= .tup [.str (S [c]), .str (S [aC c])]) nT)
   have Vc:=(ar.upd (o:= .tup [.str (S [c]), .str (S [aC c])]) nT) _ _ NH
   generalize upd H6 T (.tup [.str (S [c]), .str (S [aC c])])=H7 at hT PV s7 Vc ⊢
   refine ⟨T,rfl,⟨_,cR.of hT⟩,?_⟩
   refine FZ (K:=K) (a:=T) (xs:=[.str (S [c]), .str (S [aC c])]) (fun j σ H'=> ∃(z':List Nat) (v9 v10:Option V),σ=[some (.ref b),some (.int 2),some (.int 4),some (.ref L0),some (.ref D),some (.str (S [x])),some (.str (S [y])),some (.str (S z')),some (.str (S [c])),v9,v10]/\z'.Perm ([c,aC c].take j++z)/\H' T=some (.tup [.str (S [c]), .str (S [aC c])])/\H' p2=some (.lst (bP N))/\bT H' b/\aV b H H') ⟨z,_,_,rfl,Qc9 _,hT,Vc,PV,s7⟩ (fun i σ H' _ h=>by obtain ⟨_,_,_,_,_,g,_⟩:=h;exact cR.of g) ?_ ?_
   ·rintro j e σ H8 he ⟨z',v9,v10,rfl,pz,Vd,Ts,Tt,s8⟩
    obtain ⟨e,rfl,et⟩: ∃d,e= .str (S [d])/\[c,aC c].take (j+1)=[c,aC c].take j++[d]:=by
     match j,he with
     | 0,he=>cases he;exact ⟨c,rfl,rfl⟩
     | 1,he=>cases he;exact ⟨aC c,rfl,rfl⟩
    have Y2:z'.length<=20:=by
     have:=pz.length_eq
     rw[L5,Zo]at this
     have h2:[c,aC c].length=2:=rfl
     omega
    refine ⟨_,rfl,_,rfl,z',rfl,by omega,_,_,rfl,rfl,b,_,rfl,Tt,by omega,by omega,fun k H9 hk Xt s9=>?_⟩
    have FP:(cut z' none (some (k:Int))).length+[e].length<=sizeLine:=by rw[cg,Zo];show _+1<=_;omega
    have xN:(cut z' none (some (k:Int))++[e]).length+(cut z' (some (k:Int)) none).length<=sizeLine:=by rw[cg,bU,L5,Zz,Zo];show _+1+_<=_;omega
    refine ⟨_,rfl,_,rfl,_,rfl,z',rfl,by omega,_,rfl,_,_,rfl,rfl,FP,_,rfl,_,rfl,_,rfl,z',rfl,by omega,_,_,rfl,rfl,xN,?_⟩
    rw[cg,bU]
    refine ⟨z'.take k++[e]++z'.drop k,_,_,rfl,?_,s9 _ _ Vd Tb,s9 _ _ Ts Va,Xt,s8.trans s9⟩
    rw[et]
    have p1:(z'.take k++[e]++z'.drop k).Perm (e::z'):=by
     rw[Qab]
     show (z'.take k++e::z'.drop k).Perm (e::z')
     refine Qdv.trans ?_
     rw[ZL]
    refine p1.trans ((pz.cons e).trans ?_)
    rw[Qab]
    exact Qdv.symm
   ·rintro σ H8 ⟨z',v9,v10,rfl,pz,Vd,Ts,Tt,s8⟩
    have PX:z'.Perm (c::aC c::z):=pz
    have Xu:Yd (c::aC c::z):=⟨by
     refine ZN.mpr ⟨fun g=>?_,ZN.mpr ⟨c3,hz.nd⟩⟩
     rcases Wj.mp g with g | g
     ·exact eT lc g.symm
     ·exact c2 g,fun a ha=>by
     rcases Wj.mp ha with g | g
     ·rw[g];exact lc
     ·rcases Wj.mp g with g | g
      ·rw[g];exact lc.aC
      ·exact hz.lt a g,fun a ha=>by
     rcases Wj.mp ha with g | g
     ·rw[g];simp
     ·rcases Wj.mp g with g | g
      ·rw[g,aJ lc];simp
      ·exact Uq _ (Uq _ (hz.cl a g))⟩
    have Ve: ∀{d},d∈x::y::N.take i->d∈x::y::N.take (i+1):=fun {d} hd=>by
     rcases Wj.mp hd with g | g
     ·rw[g];exact Wi
     ·rcases Wj.mp g with g | g
      ·rw[g];exact Uq _ Wi
      ·refine Uq _ (Uq _ ?_)
       rw[<-take_snoc hc]
       exact Qae _ g
    have cin:c∈x::y::N.take (i+1):=Uq _ (Uq _ (by rw[<-take_snoc hc];simp))
    refine ⟨z',_,_,_,rfl,Xu.perm PX.symm,by rw[PX.length_eq,ZM,ZM,zl];omega,PX.mem_iff.mpr (Uq _ (Uq _ xz)),PX.mem_iff.mpr (Uq _ (Uq _ yz)),fun d hd=>?_,Ts,Tt,s8⟩
    rcases Wj.mp (PX.mem_iff.mp hd) with g | g
    ·rw[g];exact .inl cin
    ·rcases Wj.mp g with g | g
     ·rw[g,aJ lc];exact .inr cin
     ·exact (Tq d g).imp Ve Ve
  ·rintro σ H6 ⟨z,v8,v9,v10,rfl,hz,zl,xz,yz,Tq,NH,Rr,s6⟩
   rw[aZ,nl]at zl
   refine ⟨_,rfl,_,rfl,z,rfl,by omega,b,_,rfl,Rr,by omega,by omega,fun k H7 hk PV s7=>?_⟩
   have hlen:(cut z (some (k:Int)) none).length+(cut z none (some (k:Int))).length<=sizeLine:=by rw[cg,bU,Zz,Zo];omega
   have za:cut z (some (k:Int)) none++cut z none (some (k:Int))=z.drop k++z.take k:=by rw[cg,bU]
   refine ⟨_,rfl,_,rfl,_,rfl,z,rfl,by omega,_,rfl,_,rfl,_,rfl,z,rfl,by omega,_,_,rfl,rfl,hlen,?_⟩
   rw[za]
   have T:=HE hz k
   have ul:(z.drop k++z.take k).length=z.length:=by rw[L5,Zz,Zo];omega
   have xu:=T.UZ x xz
   have yu:=T.UZ y yz
   have hu:=T.zd
   show Iu _ _ _ _ _
   refine ⟨_,rfl,_,rfl,by show 3<=sizeLine;decide,fun t nt=>?_⟩
   have tb:=PV.ne nt
   exact q t _ x y _ hu (by omega) (by omega) xu yu x1 y1 xy ah tb (PV.dY tb) ((s6.trans s7).after (ar.upd nt))
theorem si:bB P w K mg base d_ 2 f1 d1 ["word"] (rB K):=by
 have cP:=fG (P:=P) (w:=w) (base:=base) T
 refine T.F1.fn.ok B5 (fun vs H Q E h=>yj h) (fun cA A outer s H vs Q E hr h=>?_)
 refine ⟨_,(aj (aI (bE K rfl Zt Z5 Qal (f_ K rfl) (gv [] (by decide+kernel)) (aa (cS ["letter"] [none] (CY rfl T.z_reversed (aa (pv 0) ae)) trivial (fun _ _ _ _=>(aG (i:=0) (by decide+kernel:List.Nodup (["letter"]:List Str)) rfl (Or.inl rfl))) (fun _ _ _ _=>dP) (fun _ _ _ _=>(ao cP (hr.mono (by decide)) rfl T.F0.mg T.F0.fn.kp T.F0.bd .nil aA (aa (pv 0) ae)))) ae)))),?_⟩
 obtain ⟨l,rfl,hc,hz,q⟩:=h
 have hs:(1000:Nat)<sizeLine:=by decide
 refine ⟨rfl,_,rfl,l,rfl,by omega,?_⟩
 rw[zN]
 refine kK (xs:=bP l.reverse) (fun i acc H'=>ar H H'/\acc=bP ((l.reverse.take i).map aC)) (by rw[aZ,ZF];omega) ⟨ar.refl H,rfl⟩ ?_ ?_
 ·rintro i x acc H1 Nx hi hx hl ⟨s1,rfl⟩ nx
  obtain ⟨c,qk,rfl⟩:=gz hx
  refine ⟨trivial,da ⟨_,rfl,c,rfl,hc c (Qcp.mp (Zs qk)),nx _ _ (by simpa using hl) ⟨s1,?_⟩⟩⟩
  rw[dj, <-take_snoc qk,Zn]
  rfl
 ·rintro acc H1 D hl ⟨s1,rfl⟩ hD
  refine ⟨D,(gR l).map fun c=>[c],rfl,rfl,bD.of ?_,?_,?_⟩
  ·rw[ah, <-eU,aZ,ZG (Ur _),Qbp]
   rfl
  ·rw[vO]
   unfold gR
   rw[ZF,Us]
   omega
  ·rw[mW]
   exact q _ (s1.trans (ar.upd hD))
theorem wY:bB P w K mg base d_ 1 f2 d2 ["yard"] (vT K):=by
 refine T.F2.fn.ok E8 (fun vs H Q E h=>BE h) (fun cA A outer s H vs Q E hr h=>?_)
 refine ⟨_,(aj (aI (bE K rfl Zt Z5 Qal (f_ K rfl) (gv [] (by decide+kernel)) (aa (aE (sW K rfl) rfl T.z_sorted boot_sorted (aa (cS ["letter"] [none] (oJ (pv 0)) trivial (fun _ _ _ _=>(aG (i:=0) (by decide+kernel:List.Nodup (["letter"]:List Str)) rfl (Or.inl rfl))) (fun _ _ _ _=>(J3 (lS (fi K rfl Zt Qcm Qcl j6 (pv 0))))) (fun _ _ _ _=>(pv 0))) ae)) ae)))),?_⟩
 obtain ⟨l,rfl,hl,hz,q⟩:=h
 have hs:(1000:Nat)<sizeLine:=by decide
 refine ⟨rfl,_,rfl,l,rfl,?_⟩
 refine kK (xs:=bP l) (fun i acc H'=>ar H H'/\acc=bP ((l.take i).filter aF)) (by rw[aZ];omega) ⟨ar.refl H,rfl⟩ ?_ ?_
 ·rintro i x acc H1 Nx hi hx p7 ⟨s1,rfl⟩ nx
  obtain ⟨c,hc,rfl⟩:=gz hx
  have e:=vU (p:=aF) hc
  refine ⟨trivial,?_⟩
  refine ⟨_,rfl,rfl,c,rfl,rfl,hl c (Zs hc),_,rfl,?_⟩
  refine cq (fun z=>?_) (fun z=>?_)
  ·rw[if_pos z]at e
   exact ⟨_,rfl,nx _ _ (by simpa using p7) ⟨s1,by rw[e, <-dj]⟩⟩
  ·rw[if_neg z,Z7]at e
   exact nx _ _ (Nat.le_succ_of_le p7) ⟨s1,by rw[e]⟩
 ·rintro acc H1 D p7 ⟨s1,rfl⟩ hD
  rw[oT,eU]
  have Y3:(l.filter aF).length<=l.length:=Qc4 _ _
  refine ⟨D,(l.filter aF).map fun c=>[c],rfl,bD.of ah,by rw[Us];omega,fun p ls hp uE PY=>?_⟩
  obtain ⟨l',rfl,pl⟩:=GH uE
  have zq:=pl.length_eq
  refine ⟨p,l'.map fun c=>[c],rfl,rfl,bD.of ah,by rw[vO];omega,?_⟩
  rw[mW]
  exact q l' _ pl (GI PY) ((s1.trans (ar.upd hD)).trans (ar.upd hp))
theorem qE:bB P w K mg base d_ 2 f4 d4 ["yard","drawing","end"] (jR K):=by
 have uF:=wY (P:=P) (w:=w) (base:=base) T
 refine T.F4.fn.ok jX (fun vs H Q E h=>o5 h) (fun cA A outer s H vs Q E hr h=>?_)
 refine ⟨_,(ag (aq (i:=3) jX.nd rfl (Or.inl rfl) (cV (qu K rfl) rfl T.z_list boot_list (aa (aP (bJ K rfl) (aP (bJ K rfl) (pv 1) ai (fun _ _=>rfl)) (bE K rfl Zt Qay Qax fU (ao uF (hr.mono (by decide)) rfl T.F2.mg T.F2.fn.kp T.F2.bd .nil aA (aa (pv 0) ae)) (aa (fi K rfl Zt Qcu Qct oG (pv 2)) ae)) (fun _ _=>rfl)) ae)))
   (ag (b7 (lS (fi K rfl Zt PySem.F.slot_str_isupper PySem.F.type_str_isupper xV (pv 2))) (aj (c_ (fi K rfl ZA PySem.F.slot_list_reverse PySem.F.type_list_reverse xO (pv 3)))) bG)
   (aj (aI (pv 3))))),?_⟩
 obtain ⟨y,dr,ws,os,e,rfl,hy,hz,he,ho,hd,q⟩:=h
 have hs:(100000:Nat)<sizeLine:=by decide
 have Rt: ∀c∈y,c<128:=IG hy.lt
 have Vf:=Rt e he
 obtain ⟨⟨wt,ot,d1,d2,d3⟩,dO⟩:=hd
 obtain ⟨o,o1,o2,o3⟩:=je hy he ho
 refine ⟨_,rfl,dr,_,1,_,rfl,rfl,cR.of d1,rfl,?_⟩
 refine ⟨_,rfl,y,rfl,Rt,by omega,fun l' H1 zq Tu s1=>?_⟩
 have el:=Ah zq Tu
 subst el
 refine ⟨rfl,_,rfl,rfl,e,rfl,rfl,Vf,?_⟩
 refine ⟨fS y,_,rfl,rfl,D7 hy he,?_⟩
 refine ⟨ot,_,_,_,rfl,rfl,cR.of (s1 _ _ d3),bN (KS o2),?_⟩
 refine ⟨o.o,_,rfl, .inr (cR.of (s1 _ _ (dO o o1).tp)),fun p1 n1=>?_⟩
 refine ⟨_,rfl,rfl,e,rfl,rfl,Vf,_,rfl,cq (fun z=>?_) (fun z=>?_)⟩
 ·refine ⟨_,rfl, .inl ⟨rfl,_,bD.of ah⟩,p1,_,rfl,rfl,ah,?_⟩
  refine ⟨_,rfl,q p1 _ (ar.free s1 n1) ?_ ?_⟩
  ·rw[ah,Hl]
   unfold nZ
   rw[if_pos z,o3]
  ·exact fun a u ea=>by rw[aD (aB ea (ar.free s1 n1)),aD (aB ea (ar.free s1 n1))];exact s1 a u ea
 ·refine ⟨_,rfl,q p1 _ (ar.free s1 n1) ?_ (s1.trans (ar.upd n1))⟩
  rw[ah]
  unfold nZ
  rw[if_neg z,o3]
theorem Ca:bB P w K mg base d_ 3 f5 d5 ["yard","drawing"] (rS K):=by
 have uG:=qE (P:=P) (w:=w) (base:=base) T
 refine T.F5.fn.ok jD (fun vs H Q E h=>yJ h) (fun cA A outer s H vs Q E hr h=>?_)
 refine ⟨_,(ag (aq (i:=2) jD.nd rfl (Or.inl rfl) (cY ae))
   (ag (cE PassesOwn.never rfl (oJ (pv 0)) (aG (i:=3) jD.nd rfl (Or.inl rfl)) (aj (cE PassesOwn.never rfl (fA K rfl (ao uG (hr.mono (by decide)) rfl T.F4.mg T.F4.fn.kp T.F4.bd .nil aA (aa (pv 0) (aa (pv 1) (aa (pv 3) ae))))) (aG (i:=4) jD.nd rfl (Or.inl rfl)) (aj (c_ (bE K rfl ZA Z3 Z2 dv (pv 2) (aa (bS (aa (aP (bJ K rfl) (pv 4) ai (fun _ _=>rfl)) (aa (aP (bJ K rfl) (pv 4) ai (fun _ _=>rfl)) (aa (pv 3) ae)))) ae)))))))
   (aj (aI (pv 2))))),?_⟩
 obtain ⟨y,dr,ws,os,rfl,hy,hz,ho,hd,q⟩:=h
 have hs:(100000:Nat)<sizeLine:=by decide
 walk_at "wk"
 intro p1 n1
 refine ⟨_,rfl,y,rfl,?_⟩
 refine sP (xs:=bP y) (fun i σ H'=> ∃(ps:List Pt) (ev sv:Option V),σ=[some (.str (S y)),some (.ref dr),some (.ref p1),ev,sv]/\H' p1=some (.lst (FE ps))/\(∀p∈ps,qz H' p/\p.t≠p1)/\ps.map Pt.is=(y.take i).flatMap (fN y os)/\ps.length<=100*i/\aV p1 H H') ⟨[],none,none,rfl,ah,fun _ h=>absurd h Zy,rfl,YU _,aV.of (ar.upd n1)⟩ ?_ ?_
 ·rintro i x σ H1 hx ⟨ps,ev,sv,rfl,hp,AF,qh,jI,s1⟩
  obtain ⟨e,he,rfl⟩:=gz hx
  have FF:=Zs he
  have hi:i<y.length:=(J1.mp he).1
  have Ls:ar H H1:=fun a u ea=>s1 a u ea (aB ea n1)
  refine ⟨_,rfl,_,rfl,_,rfl,y,dr,ws,os,e,rfl,hy,hz,FF,ho,hd.same Ls,fun p2 H2 n2 xf s2=>?_⟩
  have PZ:=Ho (H:=H) hy FF ho hd.od
  refine ⟨p2,rfl,⟨_,bD.of xf⟩,?_⟩
  have Xv:p2≠p1:=fun z=>by rw[z,hp]at n2;cases n2
  refine gT (K:=K) (a:=p2) (xs:=rR (nZ y os e)) (fun j σ H'=> ∃(us:List Pt) (sv:Option V),σ=[some (.str (S y)),some (.ref dr),some (.ref p1),some (.str (S [e])),sv]/\H' p1=some (.lst (FE us))/\H' p2=some (.lst (rR (nZ y os e)))/\(∀p∈us,qz H' p/\p.t≠p1)/\us.map Pt.is=ps.map Pt.is++((nZ y os e).take j).map (fun p=>(p.c,p.i,e))/\us.length<=100*i+j/\aV p1 H1 H')
   ⟨ps,sv,rfl,s2 _ _ hp,xf,fun p yx=>⟨(AF p yx).1.same s2,(AF p yx).2⟩,by simp,by omega,aV.of s2⟩ (fun j σ H' _ ⟨_,_,_,_,h,_⟩=>bD.of h) ?_ ?_
  ·rintro j x σ H3 Tv ⟨us,Xw,rfl,uS,P0,P4,Cb,Cr,s3⟩
   obtain ⟨p,Tw,rfl⟩:=D9 Tv
   obtain ⟨o,oo,po⟩:=Hn hy FF ho (Zs Tw)
   have hj:j<(nZ y os e).length:=(J1.mp Tw).1
   have FQ:ar H H3:=fun a u ea=>s3 a u (Ls a u ea) (aB ea n1)
   have pk:=(hd.od o oo).pr p po
   have tp:=FQ _ _ pk.tp
   refine ⟨_,rfl, .inl ⟨rfl,_,bD.of uS⟩,?_⟩
   refine ⟨_,rfl,p.t,_,0,_,rfl,rfl,cR.of tp,rfl,_,rfl,p.t,_,1,_,rfl,rfl,cR.of tp,rfl,?_⟩
   walk_at "wk"
   intro t nt
   have Jd:t≠p1:=fun z=>by rw[z,uS]at nt;cases nt
   refine ⟨p1,_,_,rfl,rfl,(ar.upd nt) _ _ uS,by rw[Ai];omega,?_⟩
   refine ⟨us++[⟨t,p.c,p.i,e⟩],_,rfl,by rw[ah];exact congrArg (fun x=>some (HO.lst x)) (Ea us ⟨t,p.c,p.i,e⟩),by rw[aD Xv];exact (ar.upd nt) _ _ P0,fun r hr=>?_,?_,by rw[L5];show us.length+1<=_;omega,fun a u ea z=>by rw[aD z];exact (ar.upd nt) _ _ (s3 a u ea z)⟩
   ·rcases Zx.mp hr with z | z
    ·exact ⟨((P4 r z).1.same (ar.upd nt)).upd (P4 r z).2,(P4 r z).2⟩
    ·have e2:=Wg.mp z
     subst e2
     exact ⟨qz.upd ⟨ah,pk.cz,pk.iz,(hy.lt e FF).lt⟩ Jd,Jd⟩
   ·rw[Zn,Cb, <-take_snoc Tw,Zn,Qab]
    rfl
  ·rintro σ H3 ⟨us,Xw,rfl,uS,P0,P4,Cb,Cr,s3⟩
   rw[t9]at Cr Cb
   refine ⟨us,_,_,rfl,uS,P4,?_,by omega,fun a u ea z=>s3 a u (s1 a u ea z) z⟩
   rw[Cb,qh, <-take_snoc he,Z6,Qaq,ZU,Qdw,Z7]
   rfl
 ·rintro σ H1 ⟨ps,ev,sv,rfl,hp,AF,qh,jI,s1⟩
  rw[aZ]at jI qh
  rw[Qaq]at qh
  exact ⟨_,rfl,q p1 ps H1 n1 hp AF qh (by omega) (fun a u ea=>s1 a u ea (aB ea n1))⟩
theorem qF:bB P w K mg base d_ 1 Me MU ["words","band"] (jT K):=by
 refine T.QS.fn.ok cW (fun vs H Q E h=>pj h) (fun cA A outer s H vs Q E hr h=>?_)
 refine ⟨_,(ag (aq (i:=2) cW.nd rfl (Or.inl rfl) (cY ae))
   (ag (cE PassesOwn.never rfl (vx K rfl rfl T.z_enumerate (aa (pv 0) ae)) (fj (n:=2) K rfl rfl (bf (aG (i:=3) cW.nd rfl (Or.inl rfl)) (bf (aG (i:=4) cW.nd rfl (Or.inl rfl)) eA))) (aj (cE PassesOwn.never rfl (C0 rfl T.z_enumerate (aa (pv 4) ae)) (fj (n:=2) K rfl rfl (bf (aG (i:=5) cW.nd rfl (Or.inl rfl)) (bf (aG (i:=6) cW.nd rfl (Or.inl rfl)) eA))) (aj (b7 (aL eG (fi K rfl Zt Qcu Qct oG (pv 6)) (pv 1) (aN _)) (aj (c_ (bE K rfl ZA Z3 Z2 dv (pv 2) (aa (bS (aa (pv 3) (aa (pv 5) ae))) ae)))) bG)))))
   (aj (aI (pv 2))))),?_⟩
 obtain ⟨wt,ws,band,rfl,uT,hf,hw,hb,q⟩:=h
 have hs:(100000:Nat)<sizeLine:=by decide
 walk_at "wk"
 intro p1 n1
 refine ⟨_,rfl,wt,rfl,⟨_,cR.of ((ar.upd n1) _ _ uT)⟩,?_⟩
 refine rh (K:=K) (a:=wt) (xs:=tE ws) (fun j σ H'=> ∃(ps:List Pr) (cv wv pv lv:Option V),σ=[some (.ref wt),some (.str (S [band])),some (.ref p1),cv,wv,pv,lv]/\H' p1=some (.lst (rR ps))/\(∀p∈ps,ny H' p)/\ps.map Pr.pair=dk band ws j/\ps.length<=12*j/\ar H H')
  ⟨[],none,none,none,none,rfl,ah,fun _ h=>absurd h Zy,rfl,YU _,ar.upd n1⟩ (fun j σ H' _ ⟨_,_,_,_,_,_,_,_,_,_,h⟩=>cR.of (h _ _ uT)) ?_ ?_
 ·rintro j x σ H1 T hx ⟨ps,cv,wv,pv,lv,rfl,hp,AF,qh,jI,s1⟩ nT
  have hj:j<ws.length:=by
   have:=(J1.mp hx).1
   rwa [fq]at this
  rw[oU hj]at hx
  cases hx
  have Lu:ws[j]? =some ws[j]:=J0 hj
  obtain ⟨xP,lQ⟩:=hw _ (ZR hj)
  generalize ws[j]=w at Lu xP lQ ⊢
  refine ⟨T,_,rfl,cR.of ah,rfl,_,_,rfl,_,_,rfl,rfl,?_⟩
  have sT:=ar.upd (o:= .tup [.int j, .str (S w)]) nT
  refine ⟨_,rfl,w,rfl,?_⟩
  refine C1 (l:=w) (fun m σ H'=> ∃(us:List Pr) (pv lv:Option V),σ=[some (.ref wt),some (.str (S [band])),some (.ref p1),some (.int j),some (.str (S w)),pv,lv]/\H' p1=some (.lst (rR us))/\(∀p∈us,ny H' p)/\us.map Pr.pair=dk band ws j++iG band j w m/\us.length<=12*j+m/\ar H H')
   ⟨ps,pv,lv,rfl,sT _ _ hp,fun p yx=>(AF p yx).same sT,by rw[qh];show _=_++[];rw[Z7],by omega,s1.trans sT⟩ ?_ ?_
  ·rintro m l σ H2 T2 hm ⟨us,Xx,Xy,rfl,xf,Ci,Cb,Cr,s2⟩ Xz
   have Y4:m<w.length:=(J1.mp hm).1
   have Tx:=xP l (Zs hm)
   have es:=yI (band:=band) (c:=j) hm
   have Ru:=ar.upd (o:= .tup [.int m, .str (S [l])]) Xz
   refine ⟨T2,_,rfl,cR.of ah,rfl,_,_,rfl,_,_,rfl,rfl,?_⟩
   refine ⟨_,rfl,rfl,l,rfl,rfl,Tx.lt,_,rfl,[PyProof.Rows.lo1 l],[band],rfl,rfl,_,rfl,?_⟩
   have ev:decide ([PyProof.Rows.lo1 l]=[band])=yH band l:=by rw[<-Eb hb Tx];simp
   rw[ev]
   have Lv:=Ru _ _ xf
   refine cq (fun z=>?_) (fun z=>?_)
   ·rw[if_pos z]at es
    refine ⟨_,rfl, .inl ⟨rfl,_,bD.of Lv⟩,_,rfl,_,rfl,by show 2<=sizeLine;decide,fun t nt=>?_⟩
    have uS:=(ar.upd (o:= .tup [.int j, .int m]) nt) _ _ Lv
    have s3:=Ru.trans (ar.upd (o:= .tup [.int j, .int m]) nt)
    refine ⟨p1,_,_,rfl,rfl,uS,by rw[t9];omega,?_⟩
    refine ⟨us++[⟨t,j,m⟩],_,_,rfl,by rw[ah];exact congrArg (fun x=>some (HO.lst x)) (D8 us ⟨t,j,m⟩),fun p yx=>?_,by rw[Zn,Cb,es,Qab];rfl,by rw[L5];show us.length+1<=_;omega,fun a o ea=>by rw[aD (aB ea n1)];exact s3 _ _ (s2 a o ea)⟩
    rcases Zx.mp yx with g | g
    ·exact ((Ci p g).same s3).ts (fL.vy uS)
    ·have e2:=Wg.mp g
     subst e2
     exact ny.ts (H:=upd (upd H2 T2 (.tup [.int m, .str (S [l])])) t (.tup [.int j, .int m])) ⟨ah,by show j<1000;omega,by show m<1000;omega⟩ (fL.vy uS)
   ·rw[if_neg z,Z7]at es
    exact ⟨us,_,_,rfl,Lv,fun p yx=>(Ci p yx).same Ru,by rw[Cb,es],by omega,s2.trans Ru⟩
  ·rintro σ H2 ⟨us,Xx,Xy,rfl,xf,Ci,Cb,Cr,s2⟩
   exact ⟨us,_,_,_,_,rfl,xf,Ci,by rw[Cb,wj Lu],by omega,s2⟩
 ·rintro σ H1 ⟨ps,cv,wv,pv,lv,rfl,hp,AF,qh,jI,s1⟩
  rw[fq]at qh
  exact ⟨_,rfl,q p1 ps H1 n1 hp AF qh s1⟩
theorem jt:bB P w K mg base d_ 1 E3 M1 ["seen","start","end"] (gj K a_ aU):=by
 refine T.xj.fn.ok jr (fun vs H Q E h=>nz h) (fun cA A outer s H vs Q E hr h=>?_)
 refine ⟨_,(ag (aq (i:=3) jr.nd rfl (Or.inl rfl) (az aW (bQ K rfl (pv 0) rfl) ai))
   (aj (aI (aX fz (bQ K rfl (bQ K rfl (pv 0) rfl) rfl) (aY (az aW (pv 3) (pv 1))) (aY (az aW (pv 3) (pv 2))))))),?_⟩
 obtain ⟨y,lg,s,x,z,rfl,hz,hs,Tz,q⟩:=h
 obtain ⟨d1,e1⟩:=hs.ob
 obtain ⟨d2,e2⟩:=hs.wy.ob
 have:=hs.wy.uz
 have:=hs.wy.lz
 have h1:1<=s.u.length:=ZO (YU _) hs.pz
 have rl:=lC (lg:=lg) h1
 have PZ:(100000:Nat)<sizeLine:=by decide
 refine ⟨_,rfl,s.a,aU,d1,_,_,rfl,e1,T.dR,T.n_Seen_place,lB,?_⟩
 walk_at "rd"
 refine ⟨s.a,aU,d1,_,_,rfl,e1,T.dR,T.n_Seen_way,mB,s.wy,a_,d2,_,_,rfl,e2,T.gH,T.n_Way_onward,PK,?_⟩
 walk_at "rd"
 refine ⟨by rw[r6,dy];omega,?_⟩
 rw[show (s.p:Int)+1=((s.p+1:Nat):Int) by omega,Ap Tz]
 exact q
theorem jZ:bB P w K mg base d_ 1 E4 M3 ["seen","start","end"] (gJ K a_ aU):=by
 refine T.xk.fn.ok jY (fun vs H Q E h=>o9 h) (fun cA A outer s H vs Q E hr h=>?_)
 refine ⟨_,(ag (aq (i:=3) jY.nd rfl (Or.inl rfl) (az cf (az cf (bQ K rfl (bQ K rfl (pv 0) rfl) rfl) ai) (bQ K rfl (pv 0) rfl)))
   (aj (aI (aX fz (bQ K rfl (bQ K rfl (pv 0) rfl) rfl) (aY (az aW (pv 3) (pv 1))) (aY (az aW (pv 3) (pv 2))))))),?_⟩
 obtain ⟨y,lg,s,x,z,rfl,hz,hs,Tz,q⟩:=h
 obtain ⟨d1,e1⟩:=hs.ob
 obtain ⟨d2,e2⟩:=hs.wy.ob
 have:=hs.wy.uz
 have:=hs.wy.lz
 have hp:=hs.pz
 have h1:1<=s.u.length:=ZO (YU _) hs.pz
 have rl:=lC (lg:=lg) h1
 have PZ:(100000:Nat)<sizeLine:=by decide
 refine ⟨_,rfl,s.a,aU,d1,_,_,rfl,e1,T.dR,T.n_Seen_way,mB,s.wy,a_,d2,_,_,rfl,e2,T.gH,T.n_Way_size,Ao,?_⟩
 walk_at "rd"
 refine ⟨s.a,aU,d1,_,_,rfl,e1,T.dR,T.n_Seen_place,lB,?_⟩
 walk_at "rd"
 refine ⟨s.a,aU,d1,_,_,rfl,e1,T.dR,T.n_Seen_way,mB,s.wy,a_,d2,_,_,rfl,e2,T.gH,T.n_Way_backward,Hu,?_⟩
 walk_at "rd"
 refine ⟨by rw[r6,ZF,dy];omega,?_⟩
 rw[show (s.u.length:Int) - 1 - s.p=((s.u.length - 1 - s.p:Nat):Int) by omega,Ap Tz]
 exact q
theorem zg:bB P w K mg base d_ 2 Mm M4 ["steps","one","other","enough"] (o_ K a_ aU E3 E4):=by
 have cy:=jt (P:=P) (w:=w) (base:=base) T
 have cQ:=jZ (P:=P) (w:=w) (base:=base) T
 refine T.Li.fn.ok dS (fun vs H Q E h=>wC h) (fun cA A outer s H vs Q E hr h=>?_)
 refine ⟨_,(ag (aq (i:=4) dS.nd rfl (Or.inl rfl) ai)
   (ag (aq (i:=5) dS.nd rfl (Or.inl rfl) ai)
   (jv (cj PassesOwn.never (PW.pt (hU (aL kA (pv 4) (pv 3) (aN _)) (gx (aL eG (kQ (pv 0) cy (hr.mono (by decide)) T.xj.fn.kp T.xj.bd cQ (hr.mono (by decide)) T.xk.fn.kp T.xk.bd aA (aa (pv 1) (aa (pv 4) (aa (az aW (pv 4) (pv 5)) ae)))) (kQ (pv 0) cy (hr.mono (by decide)) T.xj.fn.kp T.xj.bd cQ (hr.mono (by decide)) T.xk.fn.kp T.xk.bd aA (aa (pv 2) (aa (pv 4) (aa (az aW (pv 4) (pv 5)) ae)))) (aN _))))) (ag (j5 (i:=4) dS.nd rfl (Or.inl rfl) (pv 5) sE)
   (aj (j5 (i:=5) dS.nd rfl (Or.inl rfl) ai Kv))))
   (jv (cj PassesOwn.never (aL kB (pv 5) ai (aN _)) (ag (j5 (i:=5) dS.nd rfl (Or.inl rfl) ai GW)
   (aj (b7 (aL eG (kQ (pv 0) cy (hr.mono (by decide)) T.xj.fn.kp T.xj.bd cQ (hr.mono (by decide)) T.xk.fn.kp T.xk.bd aA (aa (pv 1) (aa (pv 4) (aa (az aW (pv 4) (pv 5)) ae)))) (kQ (pv 0) cy (hr.mono (by decide)) T.xj.fn.kp T.xj.bd cQ (hr.mono (by decide)) T.xk.fn.kp T.xk.bd aA (aa (pv 2) (aa (pv 4) (aa (az aW (pv 4) (pv 5)) ae)))) (aN _)) (aj (j5 (i:=4) dS.nd rfl (Or.inl rfl) (pv 5) sE)) bG))))
   (aj (aI (pv 4))))))),?_⟩
 obtain ⟨y,lg,s1,t1,b,en,rfl,hz,hs,ht,Y5,q⟩:=h
 have call: ∀(u:Sn) (x d:Nat) (t:TA) (σ:L2.St) (Q':VK),σ[0]? =some (some (V.ref (if b=true then E3 else E4)))->jg H a_ aU y lg u->(∀R:List V->Hp->Prop,R [V.ref u.a,V.int x,V.int ((x:Int)+d)] H->t σ H R)->Q' (V.str (S (seg (K6 b y lg u) x (x+d)))) H->Dk E3 E4 (gj K a_ aU) (gJ K a_ aU) E0 (Jt 0) t σ H Q':=by
  intro u x d t σ Q' h0 hu Vg hq
  refine ⟨_,h0,?_⟩
  cases b
  ·exact .inr ⟨rfl,Vg _ ⟨y,lg,u,x,x+d,by rw[Z0],hz,hu,by omega,hq⟩⟩
  ·exact .inl ⟨rfl,Vg _ ⟨y,lg,u,x,x+d,by rw[Z0],hz,hu,by omega,hq⟩⟩
 generalize (if b=true then E3 else E4)=fx at call ⊢
 generalize el:K6 b y lg s1=l at q
 generalize em:K6 b y lg t1=m at q
 walk_at "rd"
 refine ⟨fun σ H'=> ∃(mn sz e:Nat),σ=[some (.ref fx),some (.ref s1.a),some (.ref t1.a),some (.int en),some (.int mn),some (.int sz)]/\H'=H/\sz=2 ^ e/\sz<=1000000/\mn<=1000000/\jh l m mn/\(en<=mn\/ ∃k,mn<=k/\k<mn+sz/\l[k]?≠ m[k]?),?_,?_⟩
 ·refine ⟨fun w σ H'=> ∃(mn sz e:Nat),σ=[some (.ref fx),some (.ref s1.a),some (.ref t1.a),some (.int en),some (.int mn),some (.int sz)]/\H'=H/\w=en - mn/\sz=2 ^ e/\mn+1=sz/\mn<=2*en/\jh l m mn,⟨_,0,1,0,rfl,rfl,rfl,rfl,rfl,YU _,fun k hk=>absurd hk (Qc1 _)⟩,?_⟩
  rintro w' σ H2 ⟨mn,sz,e,rfl,rfl,rfl,he,Y6,QO,ha⟩
  walk_at "rd"
  refine cq (fun z=>?_) (fun z=>?_)
  ·have z1:(mn:Int)<en:=of_decide_eq_true z
   refine call s1 mn sz _ _ _ rfl hs (fun R hR=>⟨_,rfl,_,rfl,_,rfl,_,rfl,_,_,rfl,rfl,hR⟩) ?_
   refine call t1 mn sz _ _ _ rfl ht (fun R hR=>⟨_,rfl,_,rfl,_,rfl,_,rfl,_,_,rfl,rfl,hR⟩) ?_
   rw[el,em]
   walk_at "rd"
   refine cq (fun y1=>?_) (fun y1=>?_)
   ·have y2:seg l mn (mn+sz)=seg m mn (mn+sz):=by simpa using of_decide_eq_true y1
    refine ⟨_,rfl,_,rfl,_,_,rfl,rfl,_,rfl,_,_,rfl,rfl, .inl ⟨by omega,by omega⟩,?_⟩
    refine ⟨en - (mn+sz),by omega,mn+sz,sz*2,e+1,by rw[Z0,Qd2];rfl,rfl,rfl,by rw[he,Nat.pow_succ],by omega,by omega,ha.more y2⟩
   ·have y2:seg l mn (mn+sz)≠seg m mn (mn+sz):=fun w=>y1 (decide_eq_true (by rw[w]))
    exact ⟨mn,sz,e,rfl,rfl,he,by omega,by omega,ha, .inr (Ey y2)⟩
  ·have z1: ¬(mn:Int)<en:=fun w=>z (decide_eq_true w)
   exact ⟨mn,sz,e,rfl,rfl,he,by omega,by omega,ha, .inl (by omega)⟩
 ·rintro σ H2 ⟨mn,sz,e,rfl,rfl,he,hsz,QO,ha,hb⟩
  refine ⟨fun σ H'=> ∃mn:Nat,σ=[some (.ref fx),some (.ref s1.a),some (.ref t1.a),some (.int en),some (.int mn),some (.int 1)]/\H'=H2/\jh l m mn/\(en<=mn\/l[mn]?≠ m[mn]?),?_,?_⟩
  ·refine ⟨fun w σ H'=> ∃(mn sz e:Nat),σ=[some (.ref fx),some (.ref s1.a),some (.ref t1.a),some (.int en),some (.int mn),some (.int sz)]/\H'=H2/\sz=w/\sz=2 ^ e/\sz<=1000000/\mn<=3000000 - 2*sz/\jh l m mn/\(en<=mn\/ ∃k,mn<=k/\k<mn+sz/\l[k]?≠ m[k]?),⟨_,mn,sz,e,rfl,rfl,rfl,he,hsz,by omega,ha,hb⟩,?_⟩
   rintro w' σ H3 ⟨mn,sz,e,rfl,rfl,rfl,he,hsz,QO,ha,hb⟩
   walk_at "rd"
   refine cq (fun z=>?_) (fun z=>?_)
   ·have z1:(1:Int)<sz:=of_decide_eq_true z
    obtain ⟨e',rfl⟩: ∃e',e=e'+1:=⟨e - 1,by
     cases e with
     | zero=>rw[he]at z1;simp at z1
     | succ e=>rfl⟩
    have hh:sz=2*2 ^ e':=by rw[he,Nat.pow_succ,Qa6]
    have hp:0<2 ^ e':=Nat.pow_pos (by decide)
    generalize P5:2 ^ e'=h2 at hh hp
    have TB:=P5.symm
    have ed:(sz:Int) / 2=(h2:Nat):=by omega
    refine ⟨_,rfl,_,_,rfl,rfl,⟨by decide,by decide⟩,?_⟩
    refine call s1 mn h2 _ _ _ rfl hs (fun R hR=>⟨_,rfl,_,rfl,_,rfl,_,rfl,_,_,rfl,rfl,by rw[ed];exact hR⟩) ?_
    refine call t1 mn h2 _ _ _ rfl ht (fun R hR=>⟨_,rfl,_,rfl,_,rfl,_,rfl,_,_,rfl,rfl,by rw[ed];exact hR⟩) ?_
    rw[el,em]
    walk_at "rd"
    have PY: ∃e2,h2=2 ^ e2:=⟨e',TB⟩
    obtain ⟨e2,Vh⟩:=PY
    refine cq (fun y1=>?_) (fun y1=>?_)
    ·have y2:seg l mn (mn+h2)=seg m mn (mn+h2):=by simpa using of_decide_eq_true y1
     refine ⟨_,rfl,_,rfl,_,_,rfl,rfl,?_⟩
     refine ⟨h2,by omega,mn+h2,h2,e2,by rw[Z0, <-ed];rfl,rfl,rfl,Vh,by omega,by omega,ha.more y2,?_⟩
     rcases hb with hb | ⟨k,k1,k2,k3⟩
     ·exact .inl (by omega)
     ·refine .inr ⟨k,Classical.byContradiction fun w=>k3 (yP.mp y2 k k1 (by omega)),by omega,k3⟩
    ·have y2:seg l mn (mn+h2)≠seg m mn (mn+h2):=fun w=>y1 (decide_eq_true (by rw[w]))
     exact ⟨h2,by omega,mn,h2,e2,by rw[<-ed];rfl,rfl,rfl,Vh,by omega,by omega,ha, .inr (Ey y2)⟩
   ·have z1: ¬(1:Int)<sz:=fun w=>z (decide_eq_true w)
    have hp:0<2 ^ e:=Nat.pow_pos (by decide)
    have e1:sz=1:=by omega
    subst e1
    exact ⟨mn,rfl,rfl,ha,hb.imp id fun ⟨k,k1,k2,k3⟩=>by rwa [show k=mn by omega]at k3⟩
  ·rintro σ H3 ⟨mn,rfl,rfl,ha,hb⟩
   exact ⟨_,rfl,q mn ha hb⟩
theorem zh:bB P w K mg base d_ 1 Mn M5 ["seen"] (ph K a_ aU):=by
 refine T.Lj.fn.ok ku (fun vs H Q E h=>wD h) (fun cA A outer s H vs Q E hr h=>?_)
 refine ⟨_,(ag (aq (i:=1) ku.nd rfl (Or.inl rfl) (bQ K rfl (pv 0) rfl))
   (ag (aq (i:=2) ku.nd rfl (Or.inl rfl) (aP (bJ K rfl) (bQ K rfl (pv 0) rfl) ai (fun _ _=>rfl)))
   (ag (b7 (lS (bQ K rfl (pv 1) rfl)) (aj (aI (bS (aa (pv 2) (aa (az cU (bQ K rfl (pv 0) rfl) (bQ K rfl (pv 1) rfl)) ae))))) bG)
   (aj (aI (bS (aa (fW dN (pv 2)) (aa (fW dN (az cU (az cf (az cf (bQ K rfl (pv 1) rfl) ai) (bQ K rfl (pv 0) rfl)) (bQ K rfl (pv 1) rfl))) ae)))))))),?_⟩
 obtain ⟨y,lg,s1,rfl,hs,q⟩:=h
 obtain ⟨d1,e1⟩:=hs.ob
 obtain ⟨d2,e2⟩:=hs.wy.ob
 have hp:=hs.pz
 have rp:=jj hs.wy.sw.ne hs.wy.rt
 have u1:=hs.wy.uz
 have u2:=hs.wy.lz
 refine ⟨_,rfl,s1.a,aU,d1,_,_,rfl,e1,T.dR,T.n_Seen_way,mB,?_⟩
 refine ⟨_,rfl,s1.a,aU,d1,_,_,rfl,e1,T.dR,T.n_Seen_strand,rY,s1.t,_,0,_,rfl,rfl,cR.of hs.st,rfl,?_⟩
 refine ⟨_,rfl,s1.wy,a_,d2,_,_,rfl,e2,T.gH,T.n_Way_leads,Ex,?_⟩
 walk_at "rd"
 have XA:(s1.p:Int) / (s1.r:Int)=((s1.p / s1.r:Nat):Int):=(Qb6 _ _).symm
 have XB:((s1.u.length:Int) - 1 - s1.p) / (s1.r:Int)=(((s1.u.length - 1 - s1.p) / s1.r:Nat):Int):=by
  rw[Qb6];congr 1;omega
 refine cq (fun z=>?_) (fun z=>?_)
 ·refine ⟨_,rfl,_,rfl,s1.a,aU,d1,_,_,rfl,e1,T.dR,T.n_Seen_place,lB,_,rfl,s1.wy,a_,d2,_,_,rfl,e2,T.gH,T.n_Way_root_size,oa,_,_,rfl,rfl,⟨by omega,by omega⟩,by show 2<=sizeLine;decide,fun p np=>?_⟩
  refine q p _ np ?_ (ar.upd np)
  rw[ah]
  unfold yQ
  rw[if_pos z, <-XA]
 ·refine ⟨_,rfl,_,rfl,_,rfl,s1.wy,a_,d2,_,_,rfl,e2,T.gH,T.n_Way_size,Ao,_,_,rfl,rfl,_,rfl,s1.a,aU,d1,_,_,rfl,e1,T.dR,T.n_Seen_place,lB,_,_,rfl,rfl,_,rfl,s1.wy,a_,d2,_,_,rfl,e2,T.gH,T.n_Way_root_size,oa,_,_,rfl,rfl,⟨by omega,by omega⟩,_,rfl,by show 2<=sizeLine;decide,fun p np=>?_⟩
  refine q p _ np ?_ (ar.upd np)
  rw[ah]
  unfold yQ
  rw[if_neg z, <-XB]
theorem p8:bB P w K mg base d_ 3 Mo M6 ["one","other"] (ji K a_ aU):=by
 have sj:=zg (P:=P) (w:=w) (base:=base) T
 have sk:=zh (P:=P) (w:=w) (base:=base) T
 have cy:=jt (P:=P) (w:=w) (base:=base) T
 have cQ:=jZ (P:=P) (w:=w) (base:=base) T
 refine T.QX.fn.ok eM (fun vs H Q E h=>nA h) (fun cA A outer s H vs Q E hr h=>?_)
 refine ⟨_,(ag (aq (i:=2) eM.nd rfl (Or.inl rfl) (az aW (bQ K rfl (bQ K rfl (pv 0) rfl) rfl) (bQ K rfl (bQ K rfl (pv 1) rfl) rfl)))
   (ag (aq (i:=3) eM.nd rfl (Or.inl rfl) (ao sj (hr.mono (by decide)) rfl T.Li.mg T.Li.fn.kp T.Li.bd .nil aA (aa (zu (v:= .ref E3) rfl T.xj.mg rfl) (aa (pv 0) (aa (pv 1) (aa (pv 2) ae))))))
   (ag (aq (i:=4) eM.nd rfl (Or.inl rfl) (ao sj (hr.mono (by decide)) rfl T.Li.mg T.Li.fn.kp T.Li.bd .nil aA (aa (zu (v:= .ref E4) rfl T.xk.mg rfl) (aa (pv 0) (aa (pv 1) (aa (pv 2) ae))))))
   (ag (b7 (aL Cz (aE (qO rfl) rfl T.z_min boot_min (aa (pv 3) (aa (pv 4) ae))) (pv 2) (aN _)) (aj (aI (du (Ks K rfl hr) (ao sk (hr.mono (by decide)) rfl T.Lj.mg T.Lj.fn.kp T.Lj.bd .nil aA (aa (pv 0) ae)) (ao sk (hr.mono (by decide)) rfl T.Lj.mg T.Lj.fn.kp T.Lj.bd .nil aA (aa (pv 1) ae)) (aN _)))) bG)
   (ag (b7 (aL Ir (pv 3) (pv 4) (aN _)) (aj (aI (du sR (ao cy (hr.mono (by decide)) rfl T.xj.mg T.xj.fn.kp T.xj.bd .nil aA (aa (pv 0) (aa (pv 3) (aa (az aW (pv 3) ai) ae)))) (ao cy (hr.mono (by decide)) rfl T.xj.mg T.xj.fn.kp T.xj.bd .nil aA (aa (pv 1) (aa (pv 3) (aa (az aW (pv 3) ai) ae)))) (aN _)))) bG)
   (aj (aI (du sR (ao cQ (hr.mono (by decide)) rfl T.xk.mg T.xk.fn.kp T.xk.bd .nil aA (aa (pv 0) (aa (pv 4) (aa (az aW (pv 4) ai) ae)))) (ao cQ (hr.mono (by decide)) rfl T.xk.mg T.xk.fn.kp T.xk.bd .nil aA (aa (pv 1) (aa (pv 4) (aa (az aW (pv 4) ai) ae)))) (aN _))))))))),?_⟩
 obtain ⟨y,lg,s1,t1,rfl,hy,hz,hs,ht,h0,q⟩:=h
 obtain ⟨d1,e1⟩:=hs.ob
 obtain ⟨d2,e2⟩:=hs.wy.ob
 obtain ⟨d3,e3⟩:=ht.ob
 obtain ⟨d4,e4⟩:=ht.wy.ob
 have rp:=jj hs.wy.sw.ne hs.wy.rt
 have Y7:=jj ht.wy.sw.ne ht.wy.rt
 have u1:=hs.wy.uz
 have Y8:=ht.wy.uz
 have u2:=hs.wy.lz
 have ns:=hs.wy.sw.ne
 have nt:=ht.wy.sw.ne
 have lf:=bV hs.wy.sw (s1.p:Int)
 have Rv:=bV ht.wy.sw (t1.p:Int)
 have as:=r9 (lg:=lg) (s:=s1) (en:=s1.r+t1.r) hs.pz (by omega)
 have at':=r9 (lg:=lg) (s:=t1) (en:=s1.r+t1.r) ht.pz (by omega)
 refine ⟨_,rfl,s1.a,aU,d1,_,_,rfl,e1,T.dR,T.n_Seen_way,mB,s1.wy,a_,d2,_,_,rfl,e2,T.gH,T.n_Way_root_size,oa,_,rfl,t1.a,aU,d3,_,_,rfl,e3,T.dR,T.n_Seen_way,mB,t1.wy,a_,d4,_,_,rfl,e4,T.gH,T.n_Way_root_size,oa,_,_,rfl,rfl,?_⟩
 refine ⟨_,rfl,_,rfl,_,rfl,y,lg,s1,t1,true,s1.r+t1.r,by rw[Z0];rfl,hz,hs,ht,by omega,fun m Ph GP=>?_⟩
 refine ⟨_,rfl,_,rfl,_,rfl,y,lg,s1,t1,false,s1.r+t1.r,by rw[Z0];rfl,hz,hs,ht,by omega,fun n XC xx=>?_⟩
 have TC:jh (Cp y lg s1) (Cp y lg t1) m:=Ph
 have P6:s1.r+t1.r<=m\/(Cp y lg s1)[m]?≠ (Cp y lg t1)[m]?:= GP
 have TF:jh (Cq y lg s1) (Cq y lg t1) n:=XC
 have P7:s1.r+t1.r<=n\/(Cq y lg s1)[n]?≠ (Cq y lg t1)[n]?:= xx
 have ga: ∀k,k<s1.r+t1.r->(Cp y lg s1)[k]? =some (xi (gg y (sq s1.u s1.p) (k+1)))/\(Cp y lg t1)[k]? =some (xi (gg y (sq t1.u t1.p) (k+1))):=fun k hk=>⟨Ez ns (by omega),Ez nt (by omega)⟩
 have gb: ∀k,k<s1.r+t1.r->(Cq y lg s1)[k]? =some (xi (gg y (sq s1.u s1.p) (-(k:Int))))/\(Cq y lg t1)[k]? =some (xi (gg y (sq t1.u t1.p) (-(k:Int)))):=fun k hk=>⟨EA ns hs.pz (by omega),EA nt ht.pz (by omega)⟩
 refine ⟨_,rfl,_,rfl,_,_,rfl,?_⟩
 walk_at "rd"
 by_cases par: ∀k,sq s1.u s1.p k=sq t1.u t1.p k
 ·have ef:sq s1.u s1.p=sq t1.u t1.p:=funext par
  have m1:s1.r+t1.r<=m:=Aw (fun k hk=>by rw[(ga k hk).1,(ga k hk).2,ef]) P6
  have n1:s1.r+t1.r<=n:=Aw (fun k hk=>by rw[(gb k hk).1,(gb k hk).2,ef]) P7
  refine cq (fun z=>?_) (fun z=>absurd (decide_eq_true (show ((s1.r:Int)+t1.r)<=(if (n:Int)<m then (n:Int) else m) by split<;>omega)) z)
  refine ⟨_,rfl,y,lg,s1,rfl,hs,fun p1 H1 Y9 Al P8=>⟨_,rfl,y,lg,t1,rfl,ht.same P8,fun p2 H2 TH xf de=>?_⟩⟩
  refine ⟨p1,p2,_,_,_,_,rfl,rfl,cR.of (de _ _ Al),cR.of xf,?_⟩
  have e:Fz (yQ s1).1 (yQ s1).2 (yQ t1).1 (yQ t1).2=bL (jG y (2*lg) s1) (jG y (2*lg) t1):=by
   unfold jG
   rw[ef,fE,Hw]
  have kq:=q H2 (P8.trans de)
  rw[<-e]at kq
  exact kq
 ·have dc: ∃k,sq s1.u s1.p k≠sq t1.u t1.p k:=Classical.byContradiction fun z=>par fun k=>Classical.byContradiction fun w=>z ⟨k,w⟩
  have z0:sq s1.u s1.p 0=sq t1.u t1.p 0:=by unfold sq;rw[Qac,Qac];exact h0
  obtain ⟨a,b,rn,ha,hb⟩:=dH (p:=s1.r) (q:=t1.r) (by omega) (by omega) (Ar ns hs.wy.rt s1.p) (Ar nt ht.wy.rt t1.p) z0 dc
  have pf:=Au hy lf
  have pg:=Au hy Rv
  have key:=mi hy lf Rv rn [(yQ s1).1,(yQ s1).2] [(yQ t1).1,(yQ t1).2] (2*lg) 0 (YU _) (YU _) (by omega) (by omega)
  have sa:gg y (sq s1.u s1.p) (a+1)≠gg y (sq t1.u t1.p) (a+1):=fun w=>rn.hi (by
   unfold gg at w
   rw[show (a:Int)+1 - 1=a by omega, <-rn.qg a (by omega) (by omega)]at w
   exact k_ (hy.cl _ (lf.bW _)) (lf.bW _) (Rv.bW _) w)
  have sb:gg y (sq s1.u s1.p) (-(b:Int))≠gg y (sq t1.u t1.p) (-(b:Int)):=fun w=>by
   have c:=DX hy lf Rv (rn.qg (-(b:Int)) (by omega) (by omega)) rn.lo
   unfold lL at c
   rw[w]at c
   simp at c
  have em:m=a:=Av ha (fun k hk=>by
   rw[(ga k (by omega)).1,(ga k (by omega)).2]
   unfold gg
   rw[show (k:Int)+1 - 1=k by omega,rn.qg k (by omega) (by omega),rn.qg (k+1) (by omega) (by omega)]) (fun w=>sa (As (pf _) (pg _) (by rw[(ga a ha).1,(ga a ha).2]at w;exact YS w))) TC P6
  have en:n=b:=Av hb (fun k hk=>by
   rw[(gb k (by omega)).1,(gb k (by omega)).2]
   unfold gg
   rw[rn.qg (-(k:Int)) (by omega) (by omega),rn.qg (-(k:Int) - 1) (by omega) (by omega)]) (fun w=>sb (As (pf _) (pg _) (by rw[(gb b hb).1,(gb b hb).2]at w;exact YS w))) TF P7
  subst em
  subst en
  refine cq (fun z=>absurd (show ((s1.r:Int)+t1.r)<=(if (n:Int)<m then (n:Int) else m) from of_decide_eq_true z) (by split<;>omega)) (fun z=>?_)
  walk_at "rd"
  have CU:(m:Int)+1=((m+1:Nat):Int):=by omega
  have KW:(n:Int)+1=((n+1:Nat):Int):=by omega
  refine cq (fun z2=>?_) (fun z2=>?_)
  ·have z3:m<=n:=by have:=of_decide_eq_true z2;omega
   refine ⟨_,rfl,_,rfl,_,rfl,_,_,rfl,rfl,y,lg,s1,m,m+1,by rw[<-CU];rfl,hz,hs,by omega,?_⟩
   refine ⟨_,rfl,_,rfl,_,rfl,_,_,rfl,rfl,y,lg,t1,m,m+1,by rw[<-CU];rfl,hz,ht,by omega,?_⟩
   refine ⟨_,_,rfl,rfl,?_⟩
   rw[if_pos z3]at key
   have e:decide (seg (Cp y lg s1) m (m+1)<seg (Cp y lg t1) m (m+1))=bL (jG y (2*lg) s1) (jG y (2*lg) t1):=by
    rw[oe (ga m ha).1,oe (ga m ha).2,EC]
    exact (decide_eq_decide.mpr (EB (pf _) (pg _))).trans key.symm
   have kq:=q H (ar.refl H)
   rw[<-e]at kq
   exact kq
  ·have z3: ¬m<=n:=fun w=>z2 (decide_eq_true (by omega))
   refine ⟨_,rfl,_,rfl,_,rfl,_,_,rfl,rfl,y,lg,s1,n,n+1,by rw[<-KW];rfl,hz,hs,by omega,?_⟩
   refine ⟨_,rfl,_,rfl,_,rfl,_,_,rfl,rfl,y,lg,t1,n,n+1,by rw[<-KW];rfl,hz,ht,by omega,?_⟩
   refine ⟨_,_,rfl,rfl,?_⟩
   rw[if_neg z3]at key
   have e:decide (seg (Cq y lg s1) n (n+1)<seg (Cq y lg t1) n (n+1))=bL (jG y (2*lg) s1) (jG y (2*lg) t1):=by
    rw[oe (gb n hb).1,oe (gb n hb).2,EC]
    exact (decide_eq_decide.mpr (EB (pf _) (pg _))).trans key.symm
   have kq:=q H (ar.refl H)
   rw[<-e]at kq
   exact kq
theorem nE:bB P w K mg base d_ 4 Mp M7 ["order","seen"] (iJ K a_ aU):=by
 have qG:=p8 (P:=P) (w:=w) (base:=base) T
 refine T.QY.fn.ok ck (fun vs H Q E h=>mD h) (fun cA A outer s H vs Q E hr h=>?_)
 refine ⟨_,(ag (aq (i:=2) ck.nd rfl (Or.inl rfl) ai)
   (ag (aq (i:=3) ck.nd rfl (Or.inl rfl) (aE (bI K rfl) rfl T.z_len YV (aa (pv 0) ae)))
   (ag (cj PassesOwn.never (aL kA (pv 2) (pv 3) (aN _)) (ag (aq (i:=4) ck.nd rfl (Or.inl rfl) (az cU (az aW (pv 2) (pv 3)) ai))
   (aj (b7 (lS (ao qG (hr.mono (by decide)) rfl T.QX.mg T.QX.fn.kp T.QX.bd .nil aA (aa (aP (bu K rfl) (pv 0) (pv 4) (fun _ _=>rfl)) (aa (pv 1) ae)))) (aj (aq (i:=2) ck.nd rfl (Or.inl rfl) (az aW (pv 4) ai))) (aj (aq (i:=3) ck.nd rfl (Or.inl rfl) (pv 4)))))))
   (aj (aI (pv 2)))))),?_⟩
 obtain ⟨y,lg,a,ss,t1,rfl,hy,hz,ha,B_,ht,up,hn,q⟩:=h
 have hs:(100000:Nat)<sizeLine:=by decide
 have key:=Qbr.mp up
 refine ⟨_,rfl,a,_,rfl, .inl (bD.of ha),?_⟩
 walk_at "rd"
 refine ⟨fun m σ H'=> ∃(lo hi:Nat) (mv:Option V),σ=[some (.ref a),some (.ref t1.a),some (.int lo),some (.int hi),mv]/\m=hi - lo/\lo<=hi/\hi<=ss.length/\(∀k s,ss[k]? =some s->k<lo->bL (jG y (2*lg) s) (jG y (2*lg) t1)=true)/\(∀k s,ss[k]? =some s->hi<=k->bL (jG y (2*lg) s) (jG y (2*lg) t1)=false)/\ar H H',⟨_,0,ss.length,none,by rw[lD];rfl,rfl,YU _,Ur _,fun k s _ hk=>absurd hk (Qc1 _),(fun k s e hk=>by rw[Qam hk]at e;cases e),ar.refl H⟩,?_⟩
 rintro m σ H2 ⟨lo,hi,mv,rfl,rfl,h1,h2,h3,h4,s2⟩
 walk_at "rd"
 refine cq (fun z=>?_) (fun z=>?_)
 ·have z1:(lo:Int)<hi:=of_decide_eq_true z
  have em:(((lo:Int)+hi) / 2)=(((lo+hi) / 2:Nat):Int):=by omega
  have hm:(lo+hi) / 2<ss.length:=by omega
  have hg:ss[(lo+hi) / 2]? =some ss[(lo+hi) / 2]:=J0 hm
  obtain ⟨ok,e0⟩:=B_ _ (ZR hm)
  walk_at "rd"
  refine ⟨a,_,((lo:Int)+hi) / 2,_,rfl,rfl,bD.of (s2 _ _ ha),by rw[em];exact bN (K7 hg),_,rfl,y,lg,ss[(lo+hi) / 2],t1,rfl,hy,hz,ok.same s2,ht.same s2,e0,fun H3 s3=>?_⟩
  walk_at "rd"
  refine cq (fun y1=>?_) (fun y1=>?_)
  ·walk_at "rd"
   have e1:((lo:Int)+hi) / 2+1=(((lo+hi) / 2+1:Nat):Int):=by omega
   refine ⟨hi - ((lo+hi) / 2+1),by omega,(lo+hi) / 2+1,hi,_,by rw[<-e1];rfl,rfl,by omega,h2,fun k s e hk=>?_,h4,s2.trans s3⟩
   by_cases q1:k=(lo+hi) / 2
   ·subst q1
    rw[hg]at e
    cases e
    exact y1
   ·obtain ⟨Cj,ek⟩:=J1.mp e
    have P9:=key k ((lo+hi) / 2) Cj hm (by omega)
    rw[ek]at P9
    cases r:bL (jG y (2*lg) s) (jG y (2*lg) t1)
    ·have:=L2.tf _ _ _ r P9
     rw[this]at y1
     cases y1
    ·rfl
  ·walk_at "rd"
   have y2:bL (jG y (2*lg) ss[(lo+hi) / 2]) (jG y (2*lg) t1)=false:=by simpa using y1
   refine ⟨(lo+hi) / 2 - lo,by omega,lo,(lo+hi) / 2,_,by rw[<-em];rfl,rfl,by omega,by omega,h3,fun k s e hk=>?_,s2.trans s3⟩
   by_cases q1:k=(lo+hi) / 2
   ·subst q1
    rw[hg]at e
    cases e
    exact y2
   ·obtain ⟨Cj,ek⟩:=J1.mp e
    have P9:=key ((lo+hi) / 2) k hm Cj (by omega)
    rw[ek]at P9
    exact L2.tf _ _ _ y2 P9
 ·have z1: ¬(lo:Int)<hi:=fun w=>z (decide_eq_true w)
  walk_at "rd"
  have e:hi=lo:=by omega
  subst e
  exact q hi H2 h2 h3 h4 s2
theorem p9:bB P w K mg base d_ 2 Mf MV ["word","place"] (i9 K):=by
 have cP:=fG (P:=P) (w:=w) (base:=base) T
 refine T.QT.fn.ok pW (fun vs H Q E h=>nk h) (fun cA A outer s H vs Q E hr h=>?_)
 refine ⟨_,(aj (aI (bS (aa (ao cP (hr.mono (by decide)) rfl T.F0.mg T.F0.fn.kp T.F0.bd .nil aA (aa (aP eN (pv 0) (az cf (pv 1) ai) (fun _ _=>rfl)) ae)) (aa (aP eN (pv 0) (pv 1) (fun _ _=>rfl)) ae))))),?_⟩
 obtain ⟨w,i,rfl,hl,hz,hi,q⟩:=h
 have hs:(100000:Nat)<sizeLine:=by decide
 have dc:w≠[]:=fun z=>by rw[z]at hi;simp at hi
 refine ⟨_,rfl,_,rfl,_,_,rfl,rfl,w,_,_,rfl,rfl,by omega,jP (by omega) (by omega),_,rfl,(hl _ (eX dc _)).lt,?_⟩
 refine ⟨_,rfl,_,rfl,w,_,_,rfl,rfl,by omega,jP (by omega) (by omega),by show 2<=sizeLine;decide,fun t nt=>?_⟩
 exact q t _ nt ah (ar.upd nt)
theorem p_:bB P w K mg base d_ 1 f3 d3 ["yard","start","end"] (i7 K):=by
 refine T.F3.fn.ok pV (fun vs H Q E h=>nj h) (fun cA A outer s H vs Q E hr h=>?_)
 refine ⟨_,(aj (aI (az eB (az cf (bE K rfl Zt PySem.F.slot_str_find PySem.F.type_str_find vg (pv 0) (aa (pv 2) ae)) (bE K rfl Zt PySem.F.slot_str_find PySem.F.type_str_find vg (pv 0) (aa (pv 1) ae))) (aE aM rfl T.z_len YV (aa (pv 0) ae))))),?_⟩
 obtain ⟨y,a,b,rfl,ha,hb,hz,q⟩:=h
 have hs:(1000:Nat)<sizeLine:=by decide
 have hp:(0:Int)<(y.length:Int):=by have:=List.length_pos_of_mem ha;omega
 refine ⟨_,rfl,rfl,_,rfl,y,b,rfl,rfl,?_⟩
 rw[if_pos hb]
 refine ⟨_,rfl,rfl,_,rfl,y,a,rfl,rfl,?_⟩
 rw[if_pos ha]
 exact ⟨_,_,rfl,rfl,_,rfl,y,rfl,by omega,_,_,rfl,rfl,hp,q⟩
theorem nF:bB P w K mg base d_ 3 Ml M0 ["yard","word","place"] (iI K):=by
 have qH:=p9 (P:=P) (w:=w) (base:=base) T
 have qI:=p_ (P:=P) (w:=w) (base:=base) T
 refine T.QW.fn.ok iK (fun vs H Q E h=>mC h) (fun cA A outer s H vs Q E hr h=>?_)
 refine ⟨_,(ag (aq (i:=3) iK.nd rfl (Or.inl rfl) (ao qH (hr.mono (by decide)) rfl T.QT.mg T.QT.fn.kp T.QT.bd .nil aA (aa (pv 1) (aa (pv 2) ae))))
   (aj (aI (ao qI (hr.mono (by decide)) rfl T.F3.mg T.F3.fn.kp T.F3.bd .nil aA (aa (pv 0) (aa (aP (bJ K rfl) (pv 3) ai (fun _ _=>rfl)) (aa (aP (bJ K rfl) (pv 3) ai (fun _ _=>rfl)) ae))))))),?_⟩
 obtain ⟨y,w,i,rfl,hy,hz,hw,lQ,hi,q⟩:=h
 refine ⟨_,rfl,_,rfl,w,i,rfl,fun c hc=>hy.lt c (hw.bW c hc),lQ,hi,fun p H1 np hp s1=>?_⟩
 refine ⟨_,rfl,_,rfl,p,_,0,_,rfl,rfl,cR.of hp,rfl,_,rfl,p,_,1,_,rfl,rfl,cR.of hp,rfl,y,_,_,rfl,hy.cl _ (hw.rd _),hw.rd _,by omega,?_⟩
 have rg:=eZ (hy.cl _ (hw.rd ((i:Int) - 1))) (hw.rd i) (Ne.symm (hw.red i))
 obtain ⟨n,hn⟩: ∃n:Nat,cst y w i=n:=⟨(cst y w i).toNat,by have:=rg.1;unfold cst;omega⟩
 have:=rg.2.1
 have e:vY y (aC (rd w ((i:Int) - 1))) (rd w i)=n:=hn
 have key:=q n H1 hn (by omega) s1
 rw[<-e]at key
 exact key
theorem Cc:bB P w K mg base d_ 1 gP pU ["self","strand","way","place"] (rZ K aU):=by
 refine T.Ln.ok B6 (fun vs H Q E h=>yO h) (fun cA A outer s H vs Q E hr h=>?_)
 refine ⟨_,(ag (iT (pv 0) (pv 1) rfl)
   (ag (iT (pv 0) (pv 2) rfl)
   (aj (iT (pv 0) (pv 3) rfl)))),?_⟩
 obtain ⟨x,dx,t,w',p,rfl,hx,q⟩:=h
 refine ⟨_,rfl,_,rfl,x,aU,dx,_,rfl,hx,T.dR,T.n_Seen_strand,by show 0<1000;decide,?_⟩
 refine ⟨_,rfl,_,rfl,x,aU,dx,_,rfl,ah,T.dR,T.n_Seen_way,ZO (dm _ _ _) (by show 0+1<1000;decide),?_⟩
 refine ⟨_,rfl,_,rfl,x,aU,dx,_,rfl,ah,T.dR,T.n_Seen_place,ZO (dm _ _ _) (ZO (Qap (dm _ _ _)) (by show 0+1+1<1000;decide)),?_⟩
 exact q _ ah fun b o e z=>by rw[aD z,aD z,aD z];exact e
theorem qa:bB P w K mg base d_ 3 Mq M8 ["words","ways","strand"] (jk K a_ aU):=by
 have wZ:=Cc (P:=P) (w:=w) (base:=base) T
 refine T.QZ.fn.ok gp (fun vs H Q E h=>nB h) (fun cA A outer s H vs Q E hr h=>?_)
 refine ⟨_,(ag (aq (i:=3) gp.nd rfl (Or.inl rfl) (aP (bJ K rfl) (pv 0) (aP (bJ K rfl) (pv 2) ai (fun _ _=>rfl)) (fun _ _=>rfl)))
   (ag (aq (i:=4) gp.nd rfl (Or.inl rfl) (aP (bJ K rfl) (pv 2) ai (fun _ _=>rfl)))
   (ag (b7 (lS (fi K rfl Zt Qcm Qcl j6 (aP eN (pv 3) (pv 4) (fun _ _=>rfl)))) (aj (aI (nK T.E6 wZ (hr.mono (by decide)) rfl T.E5 T.E7 .nil aA (aa (pv 2) (aa (aP (bJ K rfl) (aP (bu K rfl) (pv 1) (aP (bJ K rfl) (pv 2) ai (fun _ _=>rfl)) (fun _ _=>rfl)) ai (fun _ _=>rfl)) (aa (pv 4) ae)))))) bG)
   (aj (aI (nK T.E6 wZ (hr.mono (by decide)) rfl T.E5 T.E7 .nil aA (aa (pv 2) (aa (aP (bJ K rfl) (aP (bu K rfl) (pv 1) (aP (bJ K rfl) (pv 2) ai (fun _ _=>rfl)) (fun _ _=>rfl)) ai (fun _ _=>rfl)) (aa (az cf (az cf (aE aM rfl T.z_len YV (aa (pv 3) ae)) ai) (pv 4)) ae))))))))),?_⟩
 obtain ⟨y,lg,wt,vt,st,w',ws,lO,p,c,i,rfl,hy,uT,Rw,jH,hw,hp,ok,hi,q⟩:=h
 have hs:(100000:Nat)<sizeLine:=by decide
 have lQ:=ok.on.uz
 have Vi:=ok.on.lz
 have Ck:=ok.on.sw
 have h8:(rd w' i)<128:=(hy.lt _ (Ck.rd _)).lt
 have hc:(tE ws)[c]? =some (V.str (S w')):=by
  have hl:=(J1.mp hw).1
  rw[oU hl,(J1.mp hw).2]
 refine ⟨_,rfl,_,rfl,st,_,0,_,rfl,rfl,cR.of jH,rfl,wt,_,_,_,rfl,rfl,cR.of uT,bN hc,?_⟩
 refine ⟨_,rfl,st,_,1,_,rfl,rfl,cR.of jH,rfl,?_⟩
 refine ⟨_,rfl,_,rfl,w',_,_,rfl,rfl,by omega,by rw[jP (by omega) (by omega)],?_⟩
 have made: ∀(x dx:Addr) (H':Hp) (t w2:Addr) (pl:Nat),H x=none->H dx=none->dx≠x->aV x (L2.upd (L2.upd H dx (.own x)) x (.ins aU dx [])) H'->ar H H':=fun x dx H' t w2 pl nx K9 ne sm a o e=>by
  refine sm a o ?_ (aB e nx)
  rw[aD (aB e nx),aD (aB e K9)]
  exact e
 refine ⟨rfl,_,rfl,rfl,h8,?_⟩
 walk_at "rd"
 refine cq (fun z=>?_) (fun z=>?_)
 ·refine ⟨_,rfl,_,rfl,_,rfl,st,_,0,_,rfl,rfl,cR.of jH,rfl,vt,_,_,_,rfl,rfl,bD.of Rw,bN (ED hp),p.t,_,0,_,rfl,rfl,cR.of ok.tp,rfl,_,rfl,fun x dx nx K9 ne=>⟨x,dx,st,p.a,i,rfl,ah,fun H' hx sm=>⟨rfl,?_⟩⟩⟩
  have Lw:=made x dx H' st p.a i nx K9 ne sm
  exact q ⟨x,st,p.a,c,i,w',i,p.r⟩ H' ⟨rfl,rfl,by rw[if_pos z],by rw[if_pos z]⟩ rfl ⟨⟨dx,hx⟩,Lw _ _ jH,ok.on.same Lw,hi⟩ nx Lw
 ·have ei:(w'.length:Int) - 1 - i=((w'.length - 1 - i:Nat):Int):=by omega
  refine ⟨_,rfl,_,rfl,_,rfl,st,_,0,_,rfl,rfl,cR.of jH,rfl,vt,_,_,_,rfl,rfl,bD.of Rw,bN (ED hp),p.t,_,1,_,rfl,rfl,cR.of ok.tp,rfl,_,rfl,w',rfl,by omega,_,_,rfl,rfl,_,rfl,_,_,rfl,rfl,fun x dx nx K9 ne=>⟨x,dx,st,p.b,w'.length - 1 - i,by rw[<-ei];rfl,ah,fun H' hx sm=>⟨rfl,?_⟩⟩⟩
  have Lw:=made x dx H' st p.b 0 nx K9 ne sm
  exact q ⟨x,st,p.b,c,i,gR w',w'.length - 1 - i,p.q⟩ H' ⟨rfl,rfl,by rw[if_neg z],by rw[if_neg z]⟩ rfl ⟨⟨dx,hx⟩,Lw _ _ jH,ok.bk.same Lw,by show w'.length - 1 - i<(gR w').length;rw[cD];omega⟩ nx Lw
theorem qJ:bB P w K mg base d_ 5 Mr M9 ["words","ways","band"] (jU K a_ aU):=by
 have uH:=qF (P:=P) (w:=w) (base:=base) T
 have qK:=qa (P:=P) (w:=w) (base:=base) T
 have qb:=nE (P:=P) (w:=w) (base:=base) T
 refine T.Q0.fn.ok ft (fun vs H Q E h=>pq h) (fun cA A outer s H vs Q E hr h=>?_)
 refine ⟨_,(ag (aq (i:=3) ft.nd rfl (Or.inl rfl) (cY ae))
   (ag (cE PassesOwn.never rfl (fA K rfl (ao uH (hr.mono (by decide)) rfl T.QS.mg T.QS.fn.kp T.QS.bd .nil aA (aa (pv 0) (aa (pv 2) ae)))) (aG (i:=4) ft.nd rfl (Or.inl rfl)) (ag (aq (i:=5) ft.nd rfl (Or.inl rfl) (ao qK (hr.mono (by decide)) rfl T.QZ.mg T.QZ.fn.kp T.QZ.bd .nil aA (aa (pv 0) (aa (pv 1) (aa (pv 4) ae)))))
   (aj (c_ (bE K rfl ZA PySem.F.slot_list_insert PySem.F.type_list_insert Bo (pv 3) (aa (ao qb (hr.mono (by decide)) rfl T.QY.mg T.QY.fn.kp T.QY.bd .nil aA (aa (pv 3) (aa (pv 5) ae))) (aa (pv 5) ae)))))))
   (aj (aI (cV (gc K rfl) rfl T.z_tuple boot_tuple (aa (cS ["seen"] [none] (fA K rfl (pv 3)) trivial (fun _ _ _ _=>(aG (i:=0) (by decide+kernel:List.Nodup (["seen"]:List Str)) rfl (Or.inl rfl))) (fun _ _ _ _=>dP) (fun _ _ _ _=>(bQ K rfl (pv 0) rfl))) ae)))))),?_⟩
 obtain ⟨y,lg,wt,vt,ws,lO,band,rfl,hy,hz,uT,TJ,xl,hb,Rw,xP,P_,q⟩:=h
 have hs:(100000:Nat)<sizeLine:=by decide
 walk_at "rd"
 intro a na
 have s0:=ar.upd (o:= .lst []) na
 refine ⟨_,rfl,_,rfl,wt,ws,band,rfl,s0 _ _ uT,TJ,fun w hw=>⟨fun c hc=>hy.lt c ((xl w hw).1.bW c hc),(xl w hw).2⟩,hb,fun b ps H1 nb vG AF qh s1=>?_⟩
 have Ls:=s0.trans s1
 have XD:b≠a:=fun z=>by rw[z,ah]at nb;cases nb
 have XE:ps.length<=48:=by
  have h1:(ps.map Pr.pair).length<=48:=by
   rw[qh]
   have:=jl band (fun w hw=>(xl w hw).2) ws.length (Ur _)
   omega
  rwa [Us]at h1
 have pin: ∀p∈ps, ∃w,ws[p.c]? =some w/\p.i<w.length/\yH band (rd w p.i)=true:=fun p hp=>by
  have hm:p.pair∈dk band ws ws.length:=by rw[<-qh];exact ZJ.mpr ⟨p,hp,rfl⟩
  exact yS hm
 refine ⟨b,rfl,⟨_,bD.of vG⟩,?_⟩
 refine gT (K:=K) (a:=b) (xs:=rR ps) (fun k σ H'=> ∃(ss:List Sn) (sv nv:Option V),σ=[some (.ref wt),some (.ref vt),some (.str (S [band])),some (.ref a),sv,nv]/\H' a=some (.lst (Ax ss))/\(∀s∈ss,jg H' a_ aU y lg s/\rd s.u s.p=band/\ ∃w,ws[s.c]? =some w/\yR w s.c s.i s/\s.i<w.length)/\(ss.map fun s=>(s.c,s.i)).Perm ((ps.take k).map Pr.pair)/\BX y (2*lg) ss/\aV a H1 H')
  ⟨[],none,none,rfl,s1 _ _ ah,fun _ h=>absurd h Zy, .nil,List.Pairwise.nil,aV.refl _ _⟩ (fun k σ H' _ ⟨_,_,_,_,_,_,_,_,h⟩=>bD.of (h _ _ vG XD)) ?_ ?_
 ·rintro k x σ H2 hx ⟨ss,sv,nv,rfl,ha,B_,uE,NI,s2⟩
  obtain ⟨p,hp,rfl⟩:=D9 hx
  have hk:k<ps.length:=(J1.mp hp).1
  have Qa:=Zs hp
  obtain ⟨w,hw,hi,ho⟩:=pin p Qa
  have XF:=Zs hw
  have Kt:p.c<lO.length:=by rw[xP];exact (J1.mp hw).1
  have b6:=P_ p.c w lO[p.c] hw (J0 Kt)
  have go: ∀c o,H c=some o->H2 c=some o:=fun c o e=>s2 _ _ (Ls c o e) (aB e na)
  have TK:=(AF p Qa).tp
  have XG:p.t≠a:=fun z=>by rw[z,s1 _ _ ah]at TK;cases TK
  have TL:=s2 _ _ TK XG
  have XH:ss.length=k:=by
   have:=uE.length_eq
   rw[Us,Us,Zo]at this
   omega
  refine ⟨_,rfl,_,rfl,_,rfl,y,lg,wt,vt,p.t,w,ws,lO,lO[p.c],p.c,p.i,rfl,hy,go _ _ uT,go _ _ Rw,TL,hw,J0 Kt,b6.same go,hi,fun s H3 Je jH Vj Y_ s3=>?_⟩
  have O8:=Je.band hy (xl w XF).1 hi hb ho
  refine ⟨_,rfl, .inl ⟨rfl,_,bD.of (s3 _ _ ha)⟩,_,rfl,_,rfl,y,lg,a,ss,s,rfl,hy,hz,s3 _ _ ha,fun t ht=>⟨(B_ t ht).1.same s3,by rw[(B_ t ht).2.1,O8]⟩,Vj,NI,by omega,fun n H4 hn h1 h2 s4=>?_⟩
  have Vk:=s4 _ _ (s3 _ _ ha)
  refine ⟨_,rfl,a,_,n,_,rfl,rfl,Vk,by rw[lD];exact hn,by rw[lD];omega,?_⟩
  have e1:(Ax ss).take n++V.ref s.a::(Ax ss).drop n=Ax (ss.take n++s::ss.drop n):=by
   unfold Ax
   rw[Zn,List.map_take,ZC,List.map_drop]
  rw[e1]
  have su: ∀t,jg H4 a_ aU y lg t->jg (L2.upd H4 a (.lst (Ax (ss.take n++s::ss.drop n)))) a_ aU y lg t:=fun t ot=>by
   have ne: ∀{c:Addr} {o:HO},H4 c=some o->(∀l,o≠ .lst l)->c≠a:=fun {c o} e no z=>by rw[z,Vk]at e;exact no _ (YS e).symm
   obtain ⟨dx,eo⟩:=ot.ob
   obtain ⟨dw,ew⟩:=ot.wy.ob
   exact ⟨⟨dx,by rw[aD (ne eo (fun l z=>by cases z))];exact eo⟩,by rw[aD (ne ot.st (fun l z=>by cases z))];exact ot.st,⟨⟨dw,by rw[aD (ne ew (fun l z=>by cases z))];exact ew⟩,ot.wy.sw,ot.wy.uz,ot.wy.lz,ot.wy.rt⟩,ot.pz⟩
  refine ⟨ss.take n++s::ss.drop n,_,_,rfl,ah,fun t ht=>?_,?_,K8 NI h1 h2,fun c o e z=>by rw[aD z];exact s4 _ _ (s3 _ _ (s2 c o e z))⟩
  ·have:t=s\/t∈ss:=by
    rcases Zx.mp ht with r | r
    ·exact .inr (Qa9 r)
    ·rcases Wj.mp r with r | r
     ·exact .inl r
     ·exact .inr (Qc8 r)
   rcases this with r | r
   ·subst r
    refine ⟨su _ (Vj.same s4),O8,w,?_,?_,?_⟩
    ·rw[Je.ec];exact hw
    ·rw[Je.ec,Je.ei];exact Je
    ·rw[Je.ei];exact hi
   ·exact ⟨su _ (((B_ t r).1.same s3).same s4),(B_ t r).2⟩
  ·rw[Zn,ZC, <-take_snoc hp,Zn,Je.ec,Je.ei]
   have p1:(ss.take n).map (fun s=>(s.c,s.i))++(p.c,p.i)::(ss.drop n).map (fun s=>(s.c,s.i)) |>.Perm ((p.c,p.i)::ss.map fun s=>(s.c,s.i)):=by
    refine Qdv.trans (List.Perm.cons _ ?_)
    rw[<-Zn,ZL]
   exact p1.trans ((List.Perm.cons _ uE).trans (List.perm_append_singleton _ _).symm)
 ·rintro σ H2 ⟨ss,sv,nv,rfl,ha,B_,uE,NI,s2⟩
  rw[t9,Qaq,qh]at uE
  have XH:ss.length<=48:=by
   have:=uE.length_eq
   rw[Us, <-qh,Us]at this
   omega
  have uU:ar H H2:=fun c o e=>s2 _ _ (Ls c o e) (aB e na)
  refine ⟨_,rfl,a,rfl,⟨_,bD.of ha⟩,?_⟩
  refine q5 (K:=K) (a:=a) (xs:=Ax ss) (fun i acc H'=>H'=H2/\acc=(ss.take i).map fun s=>V.ref s.t) (by rw[lD];omega) (fun i acc H' h=>by rw[h.1];exact bD.of ha) ⟨rfl,rfl⟩ ?_ ?_
  ·rintro i x acc H3 Nx hi hx hl ⟨rfl,rfl⟩ nx
   obtain ⟨t,ht,rfl⟩:=Hx hx
   obtain ⟨dx,e⟩:=(B_ t (Zs ht)).1.ob
   refine ⟨trivial,da ⟨_,rfl,t.a,aU,dx,_,_,rfl,e,T.dR,T.n_Seen_strand,rY,nx _ _ (by simpa using hl) ⟨rfl,?_⟩⟩⟩
   rw[<-take_snoc ht,Zn]
   rfl
  ·rintro acc H3 D hl ⟨rfl,rfl⟩ hD
   rw[lD,Qaq]
   refine ⟨D,_,rfl, .inl ⟨bD.of ah,fun t nt=>?_⟩⟩
   have sA:=(ar.upd (o:= .lst (ss.map fun s=>V.ref s.t)) hD).trans (ar.upd (o:= .tup (ss.map fun s=>V.ref s.t)) nt)
   have ep:(ss.map fun s=>(⟨s.t,s.c,s.i⟩:Pr)).map Pr.pair=ss.map fun s=>(s.c,s.i):=by rw[Z_];rfl
   refine q t (ss.map fun s=>(⟨s.t,s.c,s.i⟩:Pr)) _ (ar.free (uU.trans (ar.upd hD)) nt) (by rw[ah];unfold rR;rw[Z_];rfl) (fun p hp=>?_) (by rw[ep];exact uE) ?_ (uU.trans sA)
   ·obtain ⟨s,J6,rfl⟩:=ZJ.mp hp
    obtain ⟨ok,_,w,hw,_,hi⟩:=B_ s J6
    have h1:=(J1.mp hw).1
    have h2:=(xl w (Zs hw)).2
    exact ⟨sA _ _ ok.st,by show s.c<1000;omega,by show s.i<1000;omega⟩
   ·rw[ep]
    unfold EG
    rw[Qak]
    refine Qcn (fun {s t} h1 h2 h=>?_) NI
    obtain ⟨o1,_,w1,e1,i1,l1⟩:=B_ s h1
    obtain ⟨o2,_,w2,e2,i2,l2⟩:=B_ t h2
    have g1:ws.getD s.c []=w1:=by rw[Zp,e1];rfl
    have g2:ws.getD t.c []=w2:=by rw[Zp,e2];rfl
    rw[<-Ay hy (xl w1 (Zs e1)).1 l1 g1 i1 o1.wy.rt, <-Ay hy (xl w2 (Zs e2)).1 l2 g2 i2 o2.wy.rt]
    exact h
theorem Fd:bB P w K mg base d_ 2 MD Nl ["_law_box_here","_law_yard_here","_law_top"] (vN K):=by
 have bA:=gq (P:=P) (w:=w) (base:=base) T
 refine T.Q_.fn.ok E_ (fun vs H Q E h=>Bu h) (fun cA A outer s H vs Q E hr h=>?_)
 refine ⟨_,(aj (aI (bE K rfl Zt Z5 Qal (f_ K rfl) (gv [] (by decide+kernel)) (aa (cS ["_law_k","_law_yard_here","_law_box_here"] [none,some 1,some 0] (dq rfl T.z_range (aa (ao bA (hr.mono (by decide)) rfl T.dZ.mg T.dZ.fn.kp T.dZ.bd .nil aA (aa (pv 0) (aa (az aW (pv 2) ai) ae))) ae)) ⟨⟨rfl,rfl,by first | exact .inl rfl | exact .inr rfl⟩,⟨⟨rfl,rfl,by first | exact .inl rfl | exact .inr rfl⟩,trivial⟩⟩ (fun _ _ _ _=>(aG (i:=0) (by decide+kernel:List.Nodup (["_law_k","_law_yard_here","_law_box_here"]:List Str)) rfl (Or.inl rfl))) (fun _ _ _ _=>dP) (fun _ _ _ _=>(aP eN (pv 1) (ao bA (hr.mono (by decide)) rfl T.dZ.mg T.dZ.fn.kp T.dZ.bd .nil aA (aa (pv 2) (aa (aE aM rfl T.z_len YV (aa (pv 1) ae)) ae))) (fun _ _=>rfl)))) ae)))),?_⟩
 obtain ⟨b,y,top,rfl,hb,hy,Za,ht,q⟩:=h
 have hs:(100000:Nat)<sizeLine:=by decide
 walk_at "rd"
 refine ⟨b,_,rfl,hb,by omega,by omega,fun n H1 hn vG s1=>?_⟩
 walk_at "rd"
 refine iZ (fun i acc H'=>bT H' b/\aV b H H'/\ ∃l:List Nat,acc=bP l/\l.length=i/\ ∀c∈l,c∈y) (by simp;omega) ⟨vG,s1,[],rfl,rfl,by simp⟩ ?_ ?_
 ·rintro i acc H2 Nx hi hl ⟨jN,s2,l,rfl,xN,hm⟩ nx
  have kP:0<y.length:=Ut.mpr hy
  refine ⟨⟨rfl,rfl,trivial⟩,da ?_⟩
  walk_at "rd"
  refine ⟨b,_,rfl,jN,by omega,by omega,fun r H3 PR m5 s3=>?_⟩
  have HN:r<y.length:=by omega
  refine ⟨y,_,y[r],rfl,rfl,by omega,bN (J0 HN),?_⟩
  refine nx _ _ (by simpa using hl) ⟨m5,s2.trans s3,l++[y[r]],dj _ _,by simp[xN],fun c hc=>?_⟩
  rcases Zx.mp hc with z | z
  ·exact hm c z
  ·rw[Wg.mp z];exact ZR HN
 ·rintro acc H2 D hl ⟨jN,s2,l,rfl,xN,hm⟩ hD
  have XI:l.length<=top:=by simp at xN;omega
  refine ⟨D,l.map fun c=>[c],rfl,rfl,bD.of ?_,?_,?_⟩
  ·rw[ah, <-eU]
  ·rw[vO];omega
  ·rw[mW]
   exact q l _ hm XI (jN.same (ar.upd hD)) (s2.trans (aV.of (ar.upd hD)))
theorem HP:bB P w K mg base d_ 1 Mw Nf ["_law_script","_law_k"] (zM K):=by
 refine T.Ll.fn.ok lG (fun vs H Q E h=>Dr h) (fun cA A outer s H vs Q E hr h=>?_)
 refine ⟨_,(ag (aq (i:=2) lG.nd rfl (Or.inl rfl) (az aW (az hX ai (pv 1)) ai))
   (ag (b7 (aL kA (pv 1) (aE (bI K rfl) rfl T.z_len YV (aa (pv 0) ae)) (aN _)) (aj (aq (i:=2) lG.nd rfl (Or.inl rfl) (aP (bu K rfl) (pv 0) (pv 1) (fun _ _=>rfl)))) (aj (b7 (aL kB (aE (bI K rfl) rfl T.z_len YV (aa (pv 0) ae)) ai (aN _)) (aj (aq (i:=2) lG.nd rfl (Or.inl rfl) (az aW (pv 2) (az hX (az eB (aP (bu K rfl) (pv 0) (az eB (pv 1) (aE (bI K rfl) rfl T.z_len YV (aa (pv 0) ae))) (fun _ _=>rfl)) ai) ai)))) bG)))
   (ag (aq (i:=3) lG.nd rfl (Or.inl rfl) (az eB (az Cv (az aW (az aW (az eB (pv 2) ai) (az hX ai (pv 1))) ai) ai) ai))
   (aj (aI (cY (aa (aP (bu K rfl) (cY (aa ai (aa (pv 2) ae))) (cV qP rfl T.z_int boot_int (aa (du Cz (pv 2) (az Cv ai ai) (aN _)) ae)) (fun _ _=>rfl)) (aa (az aW (az eB (pv 3) ai) ai) ae)))))))),?_⟩
 obtain ⟨a,ns,k,rfl,hS,hk,q⟩:=h
 have hp:(0:Int)<2147483629:=by decide
 walk_at "rd"
 refine ⟨a,_,rfl, .inl hS,?_⟩
 walk_at "rd"
 refine cq (fun e=>?_) (fun e=>?_)
 ·have e':(k:Int)<((ns.map V.int).length:Nat):=of_decide_eq_true e
  rw[Us]at e'
  obtain ⟨z,hz⟩:=zO (ns:=ns) (i:=k) (by omega)
  walk_at "rd"
  refine ⟨a,_,k,_,rfl,rfl,hS,bN hz,?_⟩
  walk_at "rd"
  refine fun p1 n1=>?_
  walk_at "rd"
  refine .inr ⟨_,rfl,?_⟩
  obtain ⟨y,hy⟩:=yk _ z
  refine ⟨p1,_,_,_,rfl,rfl,bD.of ah,hy,?_⟩
  walk_at "rd"
  exact fun p2 n2=>q p2 _ (ar.free (ar.upd n1) n2) ⟨_,_,ah⟩ ((ar.upd n1).trans (ar.upd n2))
 ·walk_at "rd"
  refine ⟨a,_,rfl, .inl hS,?_⟩
  walk_at "rd"
  refine cq (fun e2=>?_) (fun e2=>?_)
  ·have e':(0:Int)<((ns.map V.int).length:Nat):=of_decide_eq_true e2
   have hl:(0:Int)<(ns.length:Int):=by rw[Us]at e';exact e'
   have m1:0<=(k:Int)%(ns.length:Int):=Qai _ (by omega)
   have m2:(k:Int)%(ns.length:Int)<(ns.length:Int):=kb _ hl
   obtain ⟨z,hz⟩:=zO (ns:=ns) (i:=((k:Int)%(ns.length:Int)).toNat) (by omega)
   have GY:iD (ns.map V.int) ((k:Int)%((ns.map V.int).length:Nat))=some (V.int z):=by
    have:=bN hz
    rw[Int.toNat_of_nonneg m1]at this
    rw[Us]
    exact this
   walk_at "rd"
   refine ⟨a,_,rfl, .inl hS,?_⟩
   walk_at "rd"
   refine ⟨a,_,_,_,rfl,rfl,hS,GY,?_⟩
   walk_at "rd"
   refine fun p1 n1=>?_
   walk_at "rd"
   refine .inr ⟨_,rfl,?_⟩
   obtain ⟨y,hy⟩:=yk _ _
   refine ⟨p1,_,_,_,rfl,rfl,bD.of ah,hy,?_⟩
   walk_at "rd"
   exact fun p2 n2=>q p2 _ (ar.free (ar.upd n1) n2) ⟨_,_,ah⟩ ((ar.upd n1).trans (ar.upd n2))
  ·walk_at "rd"
   refine fun p1 n1=>?_
   walk_at "rd"
   refine .inr ⟨_,rfl,?_⟩
   obtain ⟨y,hy⟩:=yk _ _
   refine ⟨p1,_,_,_,rfl,rfl,bD.of ah,hy,?_⟩
   walk_at "rd"
   exact fun p2 n2=>q p2 _ (ar.free (ar.upd n1) n2) ⟨_,_,ah⟩ ((ar.upd n1).trans (ar.upd n2))
theorem so:bB P w K mg base d_ 2 ME Nm ["_law_box_here","_law_yard_here","_law_top"] (rL K):=by
 have bA:=gq (P:=P) (w:=w) (base:=base) T
 have bz:=dA (P:=P) (w:=w) (base:=base) T
 refine T.FN.fn.ok cX (fun vs H Q E h=>yp h) (fun cA A outer s H vs Q E hr h=>?_)
 refine ⟨_,(ag (aq (i:=3) cX.nd rfl (Or.inl rfl) (az aW ai (ao bA (hr.mono (by decide)) rfl T.dZ.mg T.dZ.fn.kp T.dZ.bd .nil aA (aa (pv 0) (aa (pv 2) ae)))))
   (ag (aq (i:=4) cX.nd rfl (Or.inl rfl) (ao bA (hr.mono (by decide)) rfl T.dZ.mg T.dZ.fn.kp T.dZ.bd .nil aA (aa (pv 0) (aa ai ae))))
   (ag (aq (i:=5) cX.nd rfl (Or.inl rfl) (gv [] (by decide+kernel)))
   (jv (cj PassesOwn.never (aL kA (aE aM rfl T.z_len YV (aa (pv 5) ae)) (pv 3) (aN _)) (ag (aq (i:=6) cX.nd rfl (Or.inl rfl) (aP eN (pv 1) (ao bA (hr.mono (by decide)) rfl T.dZ.mg T.dZ.fn.kp T.dZ.bd .nil aA (aa (pv 0) (aa (aE aM rfl T.z_len YV (aa (pv 1) ae)) ae))) (fun _ _=>rfl)))
   (jv (b7 (PW.pt (hU (aL hZ (pv 4) ai (aN _)) (hU (aL kB (aE aM rfl T.z_len YV (aa (pv 5) ae)) ai (aN _)) (gx (aL kA (aE aM rfl T.z_len YV (aa (pv 5) ae)) ai (aN _)))))) (aj (aq (i:=6) cX.nd rfl (Or.inl rfl) (aP eN (pv 5) (az eB (aE aM rfl T.z_len YV (aa (pv 5) ae)) ai) (fun _ _=>rfl)))) bG)
   (aj (b7 (PW.pt (NV (aL eG (pv 5) (gv [] (by decide+kernel)) (aN _)) (Jw (aL oK (pv 6) (ao bz (hr.mono (by decide)) rfl T.gQ.mg T.gQ.fn.kp T.gQ.bd .nil aA (aa (aP eN (pv 5) (fW dN ai) (fun _ _=>rfl)) ae)) (aN _))))) (aj (aq (i:=5) cX.nd rfl (Or.inl rfl) (az bX (pv 5) (pv 6)))) (aj (aq (i:=5) cX.nd rfl (Or.inl rfl) (az bX (pv 5) (aP eN (pv 5) (fW dN ai) (fun _ _=>rfl))))))))))
   (jv (cj PassesOwn.never (PW.pt (hU (aL kB (aE aM rfl T.z_len YV (aa (pv 5) ae)) ai (aN _)) (gx (aL eG (aP eN (pv 5) ai (fun _ _=>rfl)) (ao bz (hr.mono (by decide)) rfl T.gQ.mg T.gQ.fn.kp T.gQ.bd .nil aA (aa (aP eN (pv 5) (fW dN ai) (fun _ _=>rfl)) ae)) (aN _))))) (aj (aq (i:=5) cX.nd rfl (Or.inl rfl) (aX fz (pv 5) bH (aY (fW dN ai))))))
   (jv (b7 (PW.pt (hU (aL hZ (pv 4) ai (aN _)) (gx (aL Ir (az hX (aE aM rfl T.z_len YV (aa (pv 5) ae)) ai) (pv 2) (aN _))))) (aj (aq (i:=5) cX.nd rfl (Or.inl rfl) (az bX (pv 5) (pv 5)))) bG)
   (aj (aI (pv 5))))))))),?_⟩
 obtain ⟨b,y,top,rfl,hb,hy,NJ,Rx,Jd,Qb,q⟩:=h
 have hs:(100000:Nat)<sizeLine:=by decide
 have Qc:y.length<=sizeLine:=by omega
 refine ⟨_,rfl,_,rfl,b,_,rfl,hb,by omega,by omega,fun n H1 hn vG s1=>?_⟩
 refine ⟨_,_,rfl,rfl,_,rfl,b,5,rfl,vG,by decide,by decide,fun fm H2 XJ jN s2=>?_⟩
 have Zb:n+1<=top:=by omega
 have uU:=s1.trans s2
 walk_at "wk"
 refine ⟨fun σ' H'=> ∃(w:List Nat) (lv:Option V),σ'=[some (.ref b),some (.str (S y)),some (.int top),some (.int (1+(n:Int))),some (.int fm),some (.str (S w)),lv]/\Wd y w/\1<=w.length/\w.length<=n+1/\bT H' b/\aV b H H',?_,?_⟩
 ·refine ⟨fun k σ H'=> ∃(w:List Nat) (lv:Option V),σ=[some (.ref b),some (.str (S y)),some (.int top),some (.int (1+(n:Int))),some (.int fm),some (.str (S w)),lv]/\k=n+1 - w.length/\Wd y w/\w.length<=n+1/\bT H' b/\aV b H H',⟨_,[],none,rfl,rfl,⟨BF.nil,fun _ h=>absurd h Zy⟩,YU _,jN,uU⟩,?_⟩
  rintro k σ H3 ⟨w,lv,rfl,rfl,hw,lQ,m5,s3⟩
  have nG:w.length<=sizeLine:=by omega
  refine ⟨_,rfl,w,rfl,nG,_,rfl,_,_,rfl,rfl,_,rfl,cq (fun z=>?_) (fun z=>?_)⟩
  ·have z1:(w.length:Int)<1+(n:Int):=of_decide_eq_true z
   refine ⟨_,rfl,_,rfl,_,rfl,y,rfl,Qc,b,_,rfl,m5,by omega,by omega,fun r H4 HN zf s4=>?_⟩
   have hr:r<y.length:=by omega
   refine ⟨y,_,_,rfl,rfl,Qc,bN (J0 hr),?_⟩
   have zI:y[r]∈y:=ZR hr
   generalize y[r]=c at zI ⊢
   refine ⟨fun σ' H'=>H'=H4/\ ∃e,e∈y/\σ'=[some (.ref b),some (.str (S y)),some (.int top),some (.int (1+(n:Int))),some (.int fm),some (.str (S w)),some (.str (S [e]))],?_,?_⟩
   ·refine ⟨_,rfl,_,_,rfl,rfl,_,rfl,cq (fun f1=>?_) (fun f1=>?_)⟩
    ·refine ⟨_,rfl,w,rfl,nG,_,_,rfl,rfl,_,rfl,cq (fun f2=>?_) (fun f2=>?_)⟩
     ·have g2:(1:Int)<w.length:=of_decide_eq_true f2
      have dc:w≠[]:=fun g=>by rw[g]at g2;simp at g2
      refine ⟨_,rfl,w,rfl,nG,_,_,rfl,rfl,_,rfl,cq (fun f3=>?_) (fun f3=>?_)⟩
      ·refine ⟨_,rfl,_,rfl,w,rfl,nG,_,_,rfl,rfl,by show (0:Int)<2;decide,w,_,_,rfl,rfl,nG,jP (by show -(w.length:Int)<=(w.length:Int)%2;omega) (by show (w.length:Int)%2<_;omega),?_⟩
       exact ⟨rfl,_,hw.bW _ (eX dc _),rfl⟩
      ·exact ⟨rfl,c,zI,rfl⟩
     ·refine vc ?_
      exact ⟨rfl,c,zI,rfl⟩
    ·refine vc ?_
     exact ⟨rfl,c,zI,rfl⟩
   rintro σ5 H5 ⟨rfl,e,FF,rfl⟩
   have s5:=s3.trans s4
   refine ⟨_,rfl,w,[],rfl,rfl,_,rfl,cq (fun f=>?_) (fun f=>?_)⟩
   ·have XM:w=[]:=of_decide_eq_true f
    refine OA ?_
    refine ⟨_,rfl,_,rfl,w,[e],rfl,rfl,by show w.length+1<=_;omega,?_⟩
    exact ⟨n+1 - (w++[e]).length,by rw[L5];show n+1 - (w.length+1)<_;omega,w++[e],_,rfl,rfl,hw.more FF fun g=>absurd XM g,by rw[L5];show w.length+1<=_;omega,zf,s5⟩
   ·have dc:w≠[]:=fun g=>f (decide_eq_true g)
    have kP:0<w.length:=Ut.mpr dc
    have Hq:rd w (-1)∈y:=hw.bW _ (eX dc _)
    have FP:iD w (-1)=some (rd w (-1)):=jP (by omega) (by omega)
    refine ⟨_,rfl,_,rfl,_,rfl,w,_,_,rfl,rfl,nG,FP,_,rfl,hy.lt _ Hq,[e],_,rfl,rfl,_,rfl,cq (fun f2=>?_) (fun f2=>?_)⟩
    ·have TM:e≠aC (rd w (-1)):=fun g=>by rw[g]at f2;simp at f2
     refine ⟨_,rfl,_,rfl,w,[e],rfl,rfl,by show w.length+1<=_;omega,?_⟩
     exact ⟨n+1 - (w++[e]).length,by rw[L5];show n+1 - (w.length+1)<_;omega,w++[e],_,rfl,rfl,hw.more FF fun _=>TM,by rw[L5];show w.length+1<=_;omega,zf,s5⟩
    ·refine ⟨_,rfl,_,rfl,_,rfl,w,_,_,rfl,rfl,nG,FP,w,[rd w (-1)],rfl,rfl,by show w.length+1<=_;omega,?_⟩
     exact ⟨n+1 - (w++[rd w (-1)]).length,by rw[L5];show n+1 - (w.length+1)<_;omega,w++[rd w (-1)],_,rfl,rfl,hw.more Hq fun _ g=>eT (hy.lt _ Hq) g.symm,by rw[L5];show w.length+1<=_;omega,zf,s5⟩
  ·have z1: ¬(w.length:Int)<1+(n:Int):=fun g=>z (decide_eq_true g)
   exact ⟨w,lv,rfl,hw,by omega,lQ,m5,s3⟩
 rintro σ6 H3 ⟨w,lv,rfl,hw,NK,lQ,m5,s3⟩
 refine ⟨fun σ' H'=>H'=H3/\ ∃w:List Nat,σ'=[some (.ref b),some (.str (S y)),some (.int top),some (.int (1+(n:Int))),some (.int fm),some (.str (S w)),lv]/\SW y w/\w.length<=n+1,?_,?_⟩
 ·refine ⟨fun k σ H'=>H'=H3/\ ∃w:List Nat,σ=[some (.ref b),some (.str (S y)),some (.int top),some (.int (1+(n:Int))),some (.int fm),some (.str (S w)),lv]/\k=w.length/\Wd y w/\1<=w.length/\w.length<=n+1,⟨_,rfl,w,rfl,rfl,hw,NK,lQ⟩,?_⟩
  clear hw lQ NK w
  rintro k σ H4 ⟨rfl,w,rfl,rfl,hw,NK,lQ⟩
  have nG:w.length<=sizeLine:=by omega
  have dc:w≠[]:=fun g=>by rw[g]at NK;simp at NK
  have Hq: ∀k,rd w k∈y:=fun k=>hw.bW _ (eX dc k)
  refine ⟨_,rfl,w,rfl,nG,_,_,rfl,rfl,_,rfl,cq (fun f=>?_) (fun f=>?_)⟩
  ·have g1:(1:Int)<w.length:=of_decide_eq_true f
   have FP:iD w (-1)=some (rd w (-1)):=jP (by omega) (by omega)
   refine ⟨_,rfl,w,_,_,rfl,rfl,nG,jP (k:=0) (by omega) (by omega),_,rfl,_,rfl,w,_,_,rfl,rfl,nG,FP,_,rfl,hy.lt _ (Hq _),[rd w 0],_,rfl,rfl,_,rfl,cq (fun f2=>?_) (fun f2=>?_)⟩
   ·refine ⟨_,rfl,_,rfl,_,rfl,w,rfl,nG,?_⟩
    rw[DJ]
    exact ⟨(w.take (w.length - 1)).length,by rw[Zo];omega,rfl,w.take (w.length - 1),rfl,rfl,⟨hw.FC.take _,fun c hc=>hw.bW c (Qa9 hc)⟩,by rw[Zo];omega,by rw[Zo];omega⟩
   ·have TM:rd w 0≠aC (rd w (-1)):=fun g=>f2 (by simp[g])
    exact ⟨rfl,w,rfl,hw.sw dc TM,lQ⟩
  ·have g1: ¬(1:Int)<w.length:=fun g=>f (decide_eq_true g)
   refine vc ?_
   exact ⟨rfl,w,rfl,hw.one hy (by omega),lQ⟩
 rintro σ7 H7 ⟨rfl,w7,rfl,sw,XN⟩
 clear hw NK lQ w
 refine ⟨fun σ' H'=>H'=H7/\ ∃w:List Nat,σ'=[some (.ref b),some (.str (S y)),some (.int top),some (.int (1+(n:Int))),some (.int fm),some (.str (S w)),lv]/\SW y w/\w.length<=top,?_,?_⟩
 ·refine ⟨_,rfl,_,_,rfl,rfl,_,rfl,cq (fun f=>?_) (fun f=>?_)⟩
  ·refine ⟨_,rfl,w7,rfl,by omega,_,_,rfl,rfl, .inl ⟨by omega,by omega⟩,_,rfl,_,_,rfl,rfl,_,rfl,cq (fun f2=>?_) (fun f2=>?_)⟩
   ·have g2:(w7.length:Int)*2<=top:=of_decide_eq_true f2
    refine ⟨_,rfl,_,rfl,w7,w7,rfl,rfl,by omega,?_⟩
    exact ⟨rfl,_,rfl,sw.twice,by rw[L5];omega⟩
   ·exact ⟨rfl,_,rfl,sw,by omega⟩
  ·refine vc ?_
   exact ⟨rfl,_,rfl,sw,by omega⟩
 rintro σ8 H8 ⟨rfl,w8,rfl,XO,TN⟩
 exact ⟨_,rfl,q w8 _ XO TN m5 s3⟩
theorem Fe:bB P w K mg base d_ 3 MF Nn ["_law_box_here","_law_yard_here","_law_word_here","_law_top"] (vX K):=by
 have bA:=gq (P:=P) (w:=w) (base:=base) T
 have bz:=dA (P:=P) (w:=w) (base:=base) T
 have lI:=so (P:=P) (w:=w) (base:=base) T
 refine T.Ra.fn.ok js (fun vs H Q E h=>BI h) (fun cA A outer s H vs Q E hr h=>?_)
 refine ⟨_,(ag (aq (i:=4) js.nd rfl (Or.inl rfl) (ao bA (hr.mono (by decide)) rfl T.dZ.mg T.dZ.fn.kp T.dZ.bd .nil aA (aa (pv 0) (aa ai ae))))
   (ag (aq (i:=5) js.nd rfl (Or.inl rfl) (ao bA (hr.mono (by decide)) rfl T.dZ.mg T.dZ.fn.kp T.dZ.bd .nil aA (aa (pv 0) (aa (aE aM rfl T.z_len YV (aa (pv 2) ae)) ae))))
   (ag (b7 (aL hZ (pv 4) ai (aN _)) (aj (aI (az bX (aX fz (pv 2) (aY (pv 5)) bH) (aX fz (pv 2) bH (aY (pv 5)))))) bG)
   (ag (b7 (aL hZ (pv 4) ai (aN _)) (aj (aI (bE K rfl Zt Z5 Qal (f_ K rfl) (gv [] (by decide+kernel)) (aa (cS ["_law_letter_here"] [none] (CY rfl T.z_reversed (aa (pv 2) ae)) trivial (fun _ _ _ _=>(aG (i:=0) (by decide+kernel:List.Nodup (["_law_letter_here"]:List Str)) rfl (Or.inl rfl))) (fun _ _ _ _=>dP) (fun _ _ _ _=>(ao bz (hr.mono (by decide)) rfl T.gQ.mg T.gQ.fn.kp T.gQ.bd .nil aA (aa (pv 0) ae)))) ae)))) bG)
   (ag (b7 (aL hZ (pv 4) ai (aN _)) (ag (aq (i:=6) js.nd rfl (Or.inl rfl) (aP eN (pv 1) (ao bA (hr.mono (by decide)) rfl T.dZ.mg T.dZ.fn.kp T.dZ.bd .nil aA (aa (pv 0) (aa (aE aM rfl T.z_len YV (aa (pv 1) ae)) ae))) (fun _ _=>rfl)))
   (ag (aq (i:=7) js.nd rfl (Or.inl rfl) (az bX (aX fz (pv 2) bH (aY (pv 5))) (pv 6)))
   (aj (b7 (aL (GC K rfl) (pv 6) (cY (aa (ao bz (hr.mono (by decide)) rfl T.gQ.mg T.gQ.fn.kp T.gQ.bd .nil aA (aa (aP eN (pv 7) ai (fun _ _=>rfl)) ae)) (aa (ao bz (hr.mono (by decide)) rfl T.gQ.mg T.gQ.fn.kp T.gQ.bd .nil aA (aa (aP eN (aX fz (pv 7) (aY (fW dN ai)) bH) ai (fun _ _=>rfl)) ae)) ae))) (by with_unfolding_all rfl)) (aj (aI (pv 7))) bG)))) bG)
   (aj (aI (ao lI (hr.mono (by decide)) rfl T.FN.mg T.FN.fn.kp T.FN.bd .nil aA (aa (pv 0) (aa (pv 1) (aa (pv 3) ae))))))))))),?_⟩
 obtain ⟨b,y,w,top,rfl,hb,hy,NJ,Rx,Jd,Qb,sw,uT,q⟩:=h
 have hs:(100000:Nat)<sizeLine:=by decide
 have Qc:y.length<=sizeLine:=by omega
 have lQ:w.length<=sizeLine:=by omega
 have kP:0<w.length:=Ut.mpr sw.ne
 have lw: ∀c∈w,Lt c:=fun c hc=>hy.lt c (sw.bW c hc)
 refine ⟨_,rfl,b,5,rfl,hb,by decide,by decide,fun fm H1 XJ vG s1=>?_⟩
 refine ⟨_,rfl,_,rfl,w,rfl,lQ,b,_,rfl,vG,by omega,by omega,fun at' H2 Rn jN s2=>?_⟩
 have uU:=s1.trans s2
 have XQ:at'<w.length:=by omega
 refine ⟨_,rfl,_,_,rfl,rfl,_,rfl,cq (fun f0=>?_) (fun f0=>?_)⟩
 ·have hlen:(cut w (some (at':Int)) none).length+(cut w none (some (at':Int))).length<=sizeLine:=by rw[cg,bU,Zz,Zo];omega
  have za:cut w (some (at':Int)) none++cut w none (some (at':Int))=w.drop at'++w.take at':=by rw[cg,bU]
  refine ⟨_,rfl,_,rfl,_,rfl,w,rfl,lQ,_,rfl,_,rfl,_,rfl,w,rfl,lQ,_,_,rfl,rfl,hlen,?_⟩
  rw[za]
  exact q _ _ (sw.gs (by omega)) (by rw[L5,Zz,Zo];omega) jN uU
 ·refine ⟨_,rfl,_,_,rfl,rfl,_,rfl,cq (fun f1=>?_) (fun f1=>?_)⟩
  ·refine ⟨rfl,_,rfl,w,rfl,by omega,?_⟩
   rw[zN]
   refine kK (xs:=bP w.reverse) (fun i acc H'=>ar H2 H'/\acc=bP ((w.reverse.take i).map aC)) (by rw[aZ,ZF];omega) ⟨ar.refl H2,rfl⟩ ?_ ?_
   ·rintro i x acc H3 Nx hi hx hl ⟨s3,rfl⟩ nx
    obtain ⟨c,qk,rfl⟩:=gz hx
    refine ⟨trivial,da ⟨_,rfl,c,rfl,lw c (Qcp.mp (Zs qk)),nx _ _ (by simpa using hl) ⟨s3,?_⟩⟩⟩
    rw[dj, <-take_snoc qk,Zn]
    rfl
   ·rintro acc H3 D hl ⟨s3,rfl⟩ hD
    refine ⟨D,(gR w).map fun c=>[c],rfl,rfl,bD.of ?_,?_,?_⟩
    ·rw[ah, <-eU,aZ,ZG (Ur _),Qbp]
     rfl
    ·rw[vO]
     unfold gR
     rw[ZF,Us]
     omega
    ·rw[mW]
     exact q _ _ (sw.gR hy) (by rw[cD];omega) ((jN.same s3).same (ar.upd hD)) (uU.after (s3.trans (ar.upd hD)))
  ·refine ⟨_,rfl,_,_,rfl,rfl,_,rfl,cq (fun f2=>?_) (fun f2=>?_)⟩
   ·refine ⟨_,rfl,_,rfl,_,rfl,y,rfl,Qc,b,_,rfl,jN,by omega,by omega,fun r H3 PR m5 s3=>?_⟩
    have FQ:=uU.trans s3
    have hr:r<y.length:=by omega
    refine ⟨y,_,_,rfl,rfl,Qc,bN (J0 hr),?_⟩
    have zI:y[r]∈y:=ZR hr
    generalize y[r]=c at zI ⊢
    have Zc:=hy.lt c zI
    have hlen:(cut w none (some (at':Int))).length+[c].length<=sizeLine:=by rw[cg,Zo];show _+1<=_;omega
    refine ⟨_,rfl,_,rfl,_,rfl,w,rfl,lQ,_,rfl,_,_,rfl,rfl,hlen,?_⟩
    rw[cg]
    have Cr:(w.take at').length=at':=by rw[Zo];omega
    have Qd:=sw.FC.take at'
    have Ly: ∀a∈w.take at',a∈y:=fun a ha=>sw.bW a (Qa9 ha)
    generalize w.take at'=u at Cr Qd Ly ⊢
    have PZ:(u++[c]).length=at'+1:=by rw[L5,Cr];rfl
    have Qe:u++[c]≠[]:=by simp
    have Vl: ∀a∈u++[c],a∈y:=fun a ha=>(Zx.mp ha).elim (Ly a) fun g=>by rw[Wg.mp g];exact zI
    have g0:iD (u++[c]) (0:Int)=some (rd (u++[c]) 0):=jP (by omega) (by omega)
    have Rm:cut (u++[c]) (some (-2)) none=(u++[c]).drop (at'+1 - 2):=by rw[Ky,PZ]
    have L8:((u++[c]).drop (at'+1 - 2)).length=at'+1 - (at'+1 - 2):=by rw[Zz,PZ]
    have Qf:(u++[c]).drop (at'+1 - 2)≠[]:=fun z=>by rw[z]at L8;simp at L8;omega
    have g2:iD ((u++[c]).drop (at'+1 - 2)) (0:Int)=some (rd ((u++[c]).drop (at'+1 - 2)) 0):=jP (by omega) (by omega)
    have Vm:=Vl _ (eX Qe 0)
    have Vn:=Vl _ (Qc8 (eX Qf 0))
    have e0: ∀a,u.head? =some a->rd (u++[c]) 0=a:=fun a ha=>by
     have h1:=nS Qe
     cases u with
     | nil=>cases ha
     | cons x r=>exact (YS (h1.symm.trans (show (x::r++[c]).head? =some a from ha)))
    have e2: ∀a,u.getLast? =some a->rd ((u++[c]).drop (at'+1 - 2)) 0=a:=fun a ha=>by
     have h1:=nS Qf
     have KD:u≠[]:=fun z=>by rw[z]at ha;cases ha
     have Al:=Ut.mpr KD
     rw[Qcz, Qau,ZW (by omega)]at h1
     rw[Qbs, Cr]at ha
     rw[show at'+1 - 2+0=at' - 1 by omega]at h1
     exact YS (h1.symm.trans ha)
    generalize rd (u++[c]) 0=x0 at g0 Vm e0
    generalize rd ((u++[c]).drop (at'+1 - 2)) 0=x2 at g2 Vn e2
    refine ⟨_,rfl,_,rfl,_,_,_,rfl,rfl,by omega,g0,_,rfl,hy.lt _ Vm,?_⟩
    refine ⟨_,rfl,_,rfl,_,rfl,u++[c],rfl,by omega,?_⟩
    rw[Rm]
    refine ⟨_,_,_,rfl,rfl,by rw[L8];omega,g2,_,rfl,hy.lt _ Vn,by show 2<=sizeLine;decide,fun p np=>?_⟩
    have TQ:=m5.ne np
    have Vo:=FQ.none np TQ
    refine ⟨p,_,rfl, .inl (bD.of ah),rfl,rfl,?_⟩
    have iv:=GJ c (aC x0) (aC x2)
    rw[show (if true=true then !A3 (.str (S [c])) [.str (S [aC x0]), .str (S [aC x2])] else A3 (.str (S [c])) [.str (S [aC x0]), .str (S [aC x2])])=!(decide (c=aC x0)||decide (c=aC x2)) by rw[if_pos rfl,iv]]
    refine ⟨_,rfl,cq (fun f3=>?_) (fun f3=>?_)⟩
    ·have hn:c≠aC x0/\c≠aC x2:=by simpa using f3
     refine ⟨_,rfl,q (u++[c]) _ (SW.snoc hy Qd Ly zI (fun a ha=>by rw[<-e2 a ha];exact hn.2) fun a ha=>by rw[<-e0 a ha];exact hn.1) (by omega) (m5.dY TQ) (FQ.dY Vo)⟩
    ·exact ⟨_,rfl,_,rfl,_,rfl,b,y,top,rfl,m5.dY TQ,hy,NJ,Rx,Jd,Qb,fun l H4 hl FP zf s4=>q l H4 hl FP zf ((FQ.dY Vo).trans s4)⟩
   ·exact ⟨_,rfl,_,rfl,_,rfl,b,y,top,rfl,jN,hy,NJ,Rx,Jd,Qb,fun l H3 hl FP m5 s3=>q l H3 hl FP m5 (uU.trans s3)⟩
theorem uI:bB P w K mg base d_ 2 Mg MW ["word"] (kU K):=by
 have cP:=fG (P:=P) (w:=w) (base:=base) T
 refine T.QU.fn.ok iA (fun vs H Q E h=>qy h) (fun cA A outer s H vs Q E hr h=>?_)
 refine ⟨_,(ag (aq (i:=1) iA.nd rfl (Or.inl rfl) (cY ae))
   (ag (cE PassesOwn.never rfl (oJ (pv 0)) (aG (i:=2) iA.nd rfl (Or.inl rfl)) (aj (b7 (PW.pt (hU (GB K rfl (pv 1)) (gx (aL eG (aP (bu K rfl) (pv 1) (fW dN ai) (fun _ _=>rfl)) (ao cP (hr.mono (by decide)) rfl T.F0.mg T.F0.fn.kp T.F0.bd .nil aA (aa (pv 2) ae)) (aN _))))) (aj (c_ (fi K rfl ZA Qbi Qbh JV (pv 1)))) (aj (c_ (bE K rfl ZA Z3 Z2 dv (pv 1) (aa (pv 2) ae)))))))
   (aj (aI (bE K rfl Zt Z5 Qal (f_ K rfl) (gv [] (by decide+kernel)) (aa (pv 1) ae)))))),?_⟩
 obtain ⟨l,rfl,hl,hz,q⟩:=h
 have hs:(100000:Nat)<sizeLine:=by decide
 walk_at "rd"
 intro p1 n1
 refine ⟨_,rfl,l,rfl,?_⟩
 refine sP (xs:=bP l) (fun i σ H'=> ∃lv,σ=[some (.str (S l)),some (.ref p1),lv]/\H' p1=some (.lst (bP (red (l.take i))))/\aV p1 H H') ⟨none,rfl,ah,aV.of (ar.upd n1)⟩ ?_ ?_
 ·rintro i x σ H1 hx ⟨lv,rfl,hp,s1⟩
  obtain ⟨c,hc,rfl⟩:=gz hx
  have hi:i<l.length:=(J1.mp hc).1
  have h8:c<128:=(hl c (Zs hc)).lt
  have NF:(red (l.take i)).length<=1000:=ZI (gB _) (by rw[Zo];omega)
  have fin: ∀st,st=dB (red (l.take i)) c-> ∃lv,[some (V.str (S l)),some (V.ref p1),some (V.str (S [c]))]=[some (V.str (S l)),some (.ref p1),lv]/\(upd H1 p1 (.lst (bP st))) p1=some (.lst (bP (red (l.take (i+1)))))/\aV p1 H (upd H1 p1 (.lst (bP st))):=fun st e=>
   ⟨_,rfl,by rw[ah,vR hc,e],fun b o e z=>by rw[aD z];exact s1 b o e z⟩
  refine ⟨_,rfl,p1,_,rfl,bD.of hp,?_⟩
  rcases snoc_cases (red (l.take i)) with e | ⟨m,a,e⟩
  ·rw[e]at hp ⊢
   refine j9 rfl ?_
   refine vc ?_
   refine ⟨_,rfl, .inl ⟨rfl,_,bD.of hp⟩,_,rfl,p1,_,_,rfl,rfl,hp,by rw[aZ];exact (by decide:(0:Nat)<sizeLine),?_⟩
   rw[dj]
   refine fin _ ?_
   rw[e]
   unfold dB
   rw[if_neg (by simp)]
  ·rw[e]at hp NF ⊢
   have Xn:m.length<=1000:=by simp at NF;omega
   rw[<-dj]at hp ⊢
   refine oS (by simp) ?_
   refine ⟨_,rfl,_,rfl,p1,_,_,_,rfl,rfl,bD.of hp,oz _ _,_,rfl,c,rfl,h8,[a],[aC c],rfl,rfl,_,rfl,cq (fun z=>?_) (fun z=>?_)⟩
   ·have ea:a=aC c:=by simpa using of_decide_eq_true z
    refine ⟨_,rfl, .inl ⟨rfl,_,bD.of hp⟩,p1,_,V.str (S [a]),rfl,rfl,hp,by simp,?_⟩
    rw[Qbl]
    refine fin _ ?_
    rw[e]
    unfold dB
    rw[if_pos (by simp[ea]),Qbl]
   ·have ea:a≠aC c:=fun w=>z (decide_eq_true (by rw[w]))
    refine ⟨_,rfl, .inl ⟨rfl,_,bD.of hp⟩,_,rfl,p1,_,_,rfl,rfl,hp,by rw[L5,aZ];show m.length+1<sizeLine;omega,?_⟩
    rw[dj,dj]
    refine fin _ ?_
    rw[e]
    unfold dB
    rw[if_neg (by simpa using ea)]
 ·rintro σ H1 ⟨lv,rfl,hp,s1⟩
  rw[oT]at hp
  refine ⟨rfl,_,rfl,p1,(red l).map fun c=>[c],rfl,rfl,bD.of (by rw[<-eU];exact hp),?_,?_⟩
  ·rw[vO]
   have:=gB l
   omega
  ·rw[mW]
   exact q _ (fun b o e=>s1 b o e (aB e n1))
theorem m6:bB P w K mg base d_ 3 Mh MX ["word"] (mX K):=by
 have w5:=uI (P:=P) (w:=w) (base:=base) T
 have cP:=fG (P:=P) (w:=w) (base:=base) T
 refine T.Lh.fn.ok dX (fun vs H Q E h=>tF h) (fun cA A outer s H vs Q E hr h=>?_)
 refine ⟨_,(ag (aq (i:=1) dX.nd rfl (Or.inl rfl) (ao w5 (hr.mono (by decide)) rfl T.QU.mg T.QU.fn.kp T.QU.bd .nil aA (aa (pv 0) ae)))
   (ag (aq (i:=2) dX.nd rfl (Or.inl rfl) ai)
   (ag (aq (i:=3) dX.nd rfl (Or.inl rfl) (aE aM rfl T.z_len YV (aa (pv 1) ae)))
   (ag (cj PassesOwn.never (PW.pt (hU (aL Cz (az cf (pv 3) (pv 2)) ai (aN _)) (gx (aL eG (aP eN (pv 1) (pv 2) (fun _ _=>rfl)) (ao cP (hr.mono (by decide)) rfl T.F0.mg T.F0.fn.kp T.F0.bd .nil aA (aa (aP eN (pv 1) (az cf (pv 3) ai) (fun _ _=>rfl)) ae)) (aN _))))) (ag (j5 (i:=2) dX.nd rfl (Or.inl rfl) ai sE)
   (aj (j5 (i:=3) dX.nd rfl (Or.inl rfl) ai JB))))
   (aj (aI (aX fz (pv 1) (aY (pv 2)) (aY (pv 3))))))))),?_⟩
 obtain ⟨l,rfl,hl,hz,q⟩:=h
 have hs:(100000:Nat)<sizeLine:=by decide
 refine ⟨_,rfl,l,rfl,hl,hz,fun H1 s1=>?_⟩
 have FA:=gB l
 have cC:=Du hl
 generalize red l=r at FA cC q ⊢
 have Vp:r.length<=sizeLine:=by omega
 walk_at "rd"
 refine ⟨fun m σ H'=> ∃(a e:Nat),σ=[some (.str (S l)),some (.str (S r)),some (.int a),some (.int e)]/\m=e - a/\a<=e/\e<=r.length/\core (Cn r a e)=core r/\H'=H1,⟨_,0,r.length,rfl,rfl,YU _,Ur _,by rw[G6],rfl⟩,?_⟩
 rintro m σ H2 ⟨a,e,rfl,rfl,h1,h2,hc,rfl⟩
 have fin:core (Cn r a e)=Cn r a e->Q (.str (S (cut r (some (a:Int)) (some (e:Int))))) H2:=fun z=>by
  have e1:cut r (some (a:Int)) (some (e:Int))=Cn r a e:=by
   unfold cut Cn
   rw[HT.fP,HT.fP]
   have e1:min a r.length=a:=by omega
   have e2:min e r.length=e:=by omega
   rw[e1,e2]
  rw[e1, <-z,hc]
  exact q H2 s1
 walk_at "rd"
 refine cq (fun z=>?_) (fun z=>?_)
 ·have z1:(2:Int)<=(e:Int) - (a:Int):=of_decide_eq_true z
  have ha:a<r.length:=by omega
  have he:e - 1<r.length:=by omega
  have g0:iD r (a:Int)=some r[a]:=bN (J0 ha)
  have g1:iD r ((e:Int) - 1)=some r[e - 1]:=by
   have:(e:Int) - 1=((e - 1:Nat):Int):=by omega
   rw[this];exact bN (J0 he)
  have h8:r[e - 1]<128:=(cC _ (ZR he)).lt
  have hw:=Kx (l:=r) (s:=a) (e:=e) (by omega) h2
  refine ⟨_,rfl,_,rfl,r,_,_,rfl,rfl,Vp,g0,?_⟩
  walk_at "rd"
  refine ⟨r,_,_,rfl,rfl,Vp,g1,?_⟩
  walk_at "rd"
  refine cq (fun y=>?_) (fun y=>?_)
  ·have ey:r[a]=aC r[e - 1]:=by simpa using of_decide_eq_true y
   walk_at "rd"
   refine ⟨(e - 1) - (a+1),by omega,a+1,e - 1,?_,rfl,by omega,by omega,?_,rfl⟩
   ·have e1:(a:Int)+1=((a+1:Nat):Int):=by omega
    have e2:(e:Int) - 1=((e - 1:Nat):Int):=by omega
    rw[<-e1, <-e2]
    rfl
   ·rw[<-hc,hw,nQ ey]
  ·have ey:r[a]≠aC r[e - 1]:=fun w=>y (decide_eq_true (by rw[w]))
   walk_at "rd"
   exact fin (by rw[hw,gW ey])
 ·have z1: ¬(2:Int)<=(e:Int) - (a:Int):=fun w=>z (decide_eq_true w)
  walk_at "rd"
  exact fin (eV (by rw[G5 h2];omega))
theorem AG:bB P w K mg base d_ 4 Mi MY ["word"] (zQ K):=by
 have ky:=m6 (P:=P) (w:=w) (base:=base) T
 refine T.FL.fn.ok jE (fun vs H Q E h=>Dx h) (fun cA A outer s H vs Q E hr h=>?_)
 refine ⟨_,(ag (aq (i:=1) jE.nd rfl (Or.inl rfl) (ao ky (hr.mono (by decide)) rfl T.Lh.mg T.Lh.fn.kp T.Lh.bd .nil aA (aa (pv 0) ae)))
   (ag (aq (i:=2) jE.nd rfl (Or.inl rfl) (pv 1))
   (ag (cE PassesOwn.never rfl (qN rfl T.z_range (aa ai (aa (aE aM rfl T.z_len YV (aa (pv 1) ae)) ae))) (aG (i:=3) jE.nd rfl (Or.inl rfl)) (ag (aq (i:=4) jE.nd rfl (Or.inl rfl) (az bX (aX fz (pv 1) (aY (pv 3)) bH) (aX fz (pv 1) bH (aY (pv 3)))))
   (aj (b7 (aL sR (pv 4) (pv 2) (aN _)) (aj (aq (i:=2) jE.nd rfl (Or.inl rfl) (pv 4))) bG))))
   (aj (aI (pv 2)))))),?_⟩
 obtain ⟨l,rfl,hl,hz,q⟩:=h
 have hs:(100000:Nat)<sizeLine:=by decide
 refine ⟨_,rfl,l,rfl,hl,hz,fun H1 s1=>?_⟩
 have Rl:(core (red l)).length<=1000:=ZI (kT _) (ZI (gB l) hz)
 unfold dU fM at q
 generalize core (red l)=c at Rl q ⊢
 have XR:c.length<=sizeLine:=by omega
 walk_at "rd"
 refine ⟨_,_,rfl,⟨by decide,by decide,by omega,by omega⟩,?_⟩
 refine fT (fun i σ H'=>H'=H1/\ ∃sv bv,σ=[some (.str (S l)),some (.str (S c)),some (.str (S (cw c (kW c i)))),sv,bv]) ⟨rfl,none,none,rfl⟩ ?_ ?_
 ·rintro i σ H2 hi ⟨rfl,sv,bv,rfl⟩
  have e1:(1:Int)+(i:Int)=((i+1:Nat):Int):=by omega
  rw[e1]
  have hlen:(cut c (some ((i+1:Nat):Int)) none).length+(cut c none (some ((i+1:Nat):Int))).length<=sizeLine:=by rw[cg,bU,Zz,Zo];omega
  have za:cut c (some ((i+1:Nat):Int)) none++cut c none (some ((i+1:Nat):Int))=gs c (i+1):=by rw[cg,bU];rfl
  walk_at "rd"
  rw[za]
  refine cq (fun z=>?_) (fun z=>?_)
  ·have z':gs c (i+1)<cw c (kW c i):=of_decide_eq_true z
   have hle:cw c (kW c (i+1))=gs c (i+1):=by rw[rE,h_];unfold cZ;rw[if_pos z']
   refine ⟨_,rfl,?_⟩
   rw[hle]
   exact ⟨rfl,_,_,rfl⟩
  ·have z': ¬gs c (i+1)<cw c (kW c i):=fun y=>z (decide_eq_true y)
   have hle:cw c (kW c (i+1))=cw c (kW c i):=by rw[rE,h_];unfold cZ;rw[if_neg z']
   rw[hle]
   exact ⟨rfl,_,_,rfl⟩
 ·rintro σ H2 ⟨rfl,sv,bv,rfl⟩
  have e:((c.length:Int) - 1).toNat=c.length - 1:=by omega
  rw[e]
  exact ⟨_,rfl,q _ s1⟩
theorem HQ:bB P w K mg base d_ 5 Mj MZ ["word"] (zR K):=by
 have uJ:=AG (P:=P) (w:=w) (base:=base) T
 refine T.QV.fn.ok oh (fun vs H Q E h=>DB h) (fun cA A outer s H vs Q E hr h=>?_)
 refine ⟨_,(ag (aq (i:=1) oh.nd rfl (Or.inl rfl) (ao uJ (hr.mono (by decide)) rfl T.FL.mg T.FL.fn.kp T.FL.bd .nil aA (aa (pv 0) ae)))
   (ag (cE PassesOwn.never rfl (qN rfl T.z_range (aa ai (aa (az aW (aE aM rfl T.z_len YV (aa (pv 1) ae)) ai) ae))) (aG (i:=2) oh.nd rfl (Or.inl rfl)) (ag (aq (i:=3) oh.nd rfl (Or.inl rfl) (az cU (aE aM rfl T.z_len YV (aa (pv 1) ae)) (pv 2)))
   (aj (b7 (aL eG (az sS (aX fz (pv 1) bH (aY (pv 2))) (pv 3)) (pv 1) (aN _)) (aj (aI (bS (aa (aX fz (pv 1) bH (aY (pv 2))) (aa (pv 3) ae))))) bG))))
   (aj (aI (bS (aa (gv [] (by decide+kernel)) (aa ai ae))))))),?_⟩
 obtain ⟨l,rfl,hl,hz,q⟩:=h
 have hs:(100000:Nat)<sizeLine:=by decide
 walk_at "wk"
 intro H1 s1
 have hw:(dU l).length<=1000:=ZI (BA l) hz
 generalize dU l=c at hw q ⊢
 have XR:c.length<=sizeLine:=by omega
 walk_at "wk"
 refine ⟨_,_,rfl,⟨by decide,by decide,by omega,by omega⟩,?_⟩
 refine fT (fun i σ H'=>H'=H1/\(∀j,1<=j->j<=i-> ¬gX c j)/\ ∃sv tv,σ=[some (.str (S l)),some (.str (S c)),sv,tv]) ⟨rfl,fun j h1 h2=>by omega,none,none,rfl⟩ ?_ ?_
 ·rintro i σ H2 hi ⟨rfl,Lq,sv,tv,rfl⟩
  have e1:(1:Int)+(i:Int)=((i+1:Nat):Int):=by omega
  rw[e1]
  have e2:(c.length:Int) / ((i+1:Nat):Int)=((c.length / (i+1):Nat):Int):=(Qb6 _ _).symm
  have hd:=Nat.div_le_self c.length (i+1)
  have hmul:(c.take (i+1)).length*(c.length / (i+1))<=sizeLine:=by
   have h1:(c.take (i+1)).length<=i+1:=by rw[Zo];omega
   have h2:=Nat.mul_div_le c.length (i+1)
   have h3:=Nat.mul_le_mul_right (c.length / (i+1)) h1
   omega
  walk_at "wk"
  refine ⟨⟨by rw[e2];exact Qdk _,by rw[e2];exact Int.ofNat_le.mpr (ZI hd (by omega:c.length<=1000000))⟩,by rw[e2,cg,YT];exact hmul,?_⟩
  walk_at "wk"
  refine cq (fun z=>?_) (fun z=>?_)
  ·have z1:gX c (i+1):=by
    have:=of_decide_eq_true z
    rw[e2,cg,YT]at this
    exact this
   walk_at "wk"
   intro p np
   refine q p (i+1) _ (ar.free s1 np) ?_ (.inr ⟨by omega,by omega,z1,fun j j1 j2=>Lq j j1 (by omega)⟩) (s1.trans (ar.upd np))
   rw[ah]
   unfold II
   rw[<-cg, <-e2]
  ·have z1: ¬gX c (i+1):=fun y=>z (decide_eq_true (by
    rw[e2,cg,YT]
    exact y))
   refine ⟨rfl,fun j j1 j2=>?_,_,_,rfl⟩
   by_cases y:j=i+1
   ·rw[y];exact z1
   ·exact Lq j j1 (by omega)
 ·rintro σ H2 ⟨rfl,Lq,sv,tv,rfl⟩
  have hc:c=[]:=by
   by_cases z:c=[]
   ·exact z
   ·have hl:0<c.length:=Ut.mpr z
    exact absurd (BB c z) (Lq _ hl (by omega))
  subst hc
  walk_at "wk"
  intro p np
  exact q p 0 _ (ar.free s1 np) (by rw[ah];rfl) (.inl ⟨rfl,rfl⟩) (s1.trans (ar.upd np))
theorem Ff:bB P w K mg base d_ 6 jW wQ ["self","yard","word","longest"] (wB K a_):=by
 have Lz:=HQ (P:=P) (w:=w) (base:=base) T
 have uJ:=AG (P:=P) (w:=w) (base:=base) T
 have qc:=si (P:=P) (w:=w) (base:=base) T
 have qd:=nF (P:=P) (w:=w) (base:=base) T
 refine T.PN.ok p6 (fun vs H Q E h=>BW h) (fun cA A outer s H vs Q E hr h=>?_)
 refine ⟨_,(ag (iT (pv 0) (aE aM rfl T.z_len YV (aa (pv 2) ae)) rfl)
   (ag (iT (pv 0) (aE aM rfl T.z_len YV (aa (aP (bJ K rfl) (ao Lz (hr.mono (by decide)) rfl T.QV.mg T.QV.fn.kp T.QV.bd .nil aA (aa (pv 2) ae)) ai (fun _ _=>rfl)) ae)) rfl)
   (ag (iT (pv 0) (du sR (ao uJ (hr.mono (by decide)) rfl T.FL.mg T.FL.fn.kp T.FL.bd .nil aA (aa (pv 2) ae)) (ao uJ (hr.mono (by decide)) rfl T.FL.mg T.FL.fn.kp T.FL.bd .nil aA (aa (ao qc (hr.mono (by decide)) rfl T.F1.mg T.F1.fn.kp T.F1.bd .nil aA (aa (pv 2) ae)) ae)) (aN _)) rfl)
   (ag (aq (i:=4) p6.nd rfl (Or.inl rfl) (bE K rfl Zt Z5 Qal (f_ K rfl) (gv [] (by decide+kernel)) (aa (cS ["place","yard","word"] [none,some 1,some 2] (dq rfl T.z_range (aa (aE aM rfl T.z_len YV (aa (pv 2) ae)) ae)) ⟨⟨rfl,rfl,by first | exact .inl rfl | exact .inr rfl⟩,⟨⟨rfl,rfl,by first | exact .inl rfl | exact .inr rfl⟩,trivial⟩⟩ (fun _ _ _ _=>(aG (i:=0) (by decide+kernel:List.Nodup (["place","yard","word"]:List Str)) rfl (Or.inl rfl))) (fun _ _ _ _=>dP) (fun _ _ _ _=>(cV Bn rfl T.z_str boot_str (aa (ao qd (hr.mono (by decide)) rfl T.QW.mg T.QW.fn.kp T.QW.bd .nil aA (aa (pv 1) (aa (pv 2) (aa (pv 0) ae)))) ae)))) ae)))
   (ag (aq (i:=5) p6.nd rfl (Or.inl rfl) (az aW ai (az cU (pv 3) (aE (AU rfl) rfl T.z_max boot_max (aa (aE aM rfl T.z_len YV (aa (pv 2) ae)) (aa ai ae))))))
   (ag (iT (pv 0) (az sS (pv 4) (pv 5)) rfl)
   (aj (iT (pv 0) (az sS (GR (pv 4) (aY (fW dN ai))) (pv 5)) rfl)))))))),?_⟩
 obtain ⟨x,dx,y,w',lg,rfl,hx,hy,hz,hw,xP,Ry,q⟩:=h
 have hs:(100000:Nat)<sizeLine:=by decide
 have cC: ∀c∈w',Lt c:=fun c hc=>hy.lt c (hw.bW c hc)
 have h8: ∀c∈w',c<128:=fun c hc=>(cC c hc).lt
 have ht:=hw.gR hy
 have XS: ∀c∈gR w',Lt c:=fun c hc=>hy.lt c (ht.bW c hc)
 have h1:1<=w'.length:=Ut.mpr hw.ne
 have rl:=lC (lg:=lg) h1
 obtain ⟨rt,Rz⟩:=zY hw.ne
 refine ⟨_,rfl,w',rfl,by omega,_,rfl,x,a_,dx,_,rfl,hx,T.gH,T.n_Way_size,by show 0<1000;decide,?_⟩
 refine ⟨_,rfl,w',rfl,cC,by omega,fun p1 s1 H1 n1 Al FA P8=>?_⟩
 obtain ⟨er,el⟩:=BH hy hw FA Rz
 subst er
 have et:((dU w').take s1).length=s1:=by
  rw[Zo,el]
  rcases Rz with ⟨z,_⟩ | ⟨_,h2,_⟩
  ·exact absurd z hw.ne
  ·omega
 have XT:s1<=w'.length:=by
  rcases Rz with ⟨z,_⟩ | ⟨_,h2,_⟩
  ·exact absurd z hw.ne
  ·exact h2
 have XU:=P8 _ _ (ah (H:=H) (a:=x))
 refine ⟨p1,_,0,_,rfl,rfl,cR.of Al,rfl,_,rfl,by rw[et];omega,_,rfl,x,a_,dx,_,rfl,XU,T.gH,T.n_Way_root_size,ZO (dm _ _ _) (by show 0+1<1000;decide),?_⟩
 rw[et]
 refine ⟨_,rfl,w',rfl,cC,by omega,fun H2 s2=>⟨_,rfl,w',rfl,h8,by omega,fun H3 s3=>⟨gR w',rfl,XS,by rw[cD];omega,fun H4 s4=>?_⟩⟩⟩
 have Vq:=s2.trans (s3.trans s4)
 have XW:=Vq _ _ (ah (a:=x))
 refine ⟨_,_,rfl,rfl,_,rfl,x,a_,dx,_,rfl,XW,T.gH,T.n_Way_leads,ZO (dm _ _ _) (ZO (Qap (dm _ _ _)) (by show 0+1+1<1000;decide)),?_⟩
 have XX:decide (dU w'<dU (gR w'))=leads w':=by
  unfold leads
  rw[hw.dU hy,ht.dU hy]
 refine ⟨rfl,_,rfl,w',rfl,by omega,_,rfl,by omega,by omega,?_⟩
 rw[YT]
 refine iZ (fun i acc H'=>ar _ H'/\acc=bP ((stx y w').take i)) (by omega) ⟨ar.refl _,rfl⟩ ?_ ?_
 ·rintro i acc H5 Nx hi hl ⟨s5,rfl⟩ nx
  refine ⟨⟨rfl,rfl,trivial⟩,da ⟨_,rfl,_,rfl,_,rfl,y,w',i,by rw[Qaw];rfl,hy,hz,hw,by omega,hi,fun n H6 hn Zd s6=>⟨n,rfl,by omega,nx _ _ (by simpa using hl) ⟨s5.trans s6,?_⟩⟩⟩⟩
  have eg:(stx y w')[i]? =some (48+n):=by
   unfold stx
   rw[Zv,List.getElem?_range hi]
   show some (xi (cst y w' i))=_
   rw[hn]
   unfold xi
   congr 1
  rw[K5 n (by omega),dj,take_snoc eg]
 ·rintro acc H5 D hl ⟨s5,rfl⟩ hD
  have Qg:(stx y w').take w'.length=stx y w':=ZG (by rw[dy];exact Ur _)
  rw[Qg]at hl ⊢
  refine ⟨D,(stx y w').map fun c=>[c],rfl,rfl,bD.of (by rw[ah, <-eU]),by rw[vO,dy];omega,?_⟩
  rw[mW]
  have Vr:=s5.trans (ar.upd (o:= .lst (bP (stx y w'))) hD)
  have TR:=Vr _ _ (ah (a:=x))
  have TU:(if (1:Int)>(w'.length:Int) then (1:Int) else (w'.length:Int))=(max w'.length 1:Nat):=by split<;>omega
  have LA:(3:Int)+(lg:Int) / (if (1:Int)>(w'.length:Int) then (1:Int) else (w'.length:Int))=(jf lg w'.length:Nat):=by
   rw[TU]
   unfold jf
   rw[Z0,Qb6]
   rfl
  have rb:jf lg w'.length<=1003:=by unfold jf;have:=Nat.div_le_self lg (max w'.length 1);omega
  refine ⟨_,rfl,_,rfl,w',rfl,by omega,_,_,rfl,_,_,rfl,rfl,⟨by rw[TU];omega,by rw[TU];omega⟩,_,_,rfl,rfl,?_⟩
  have l3: ∀(a b c:V),(eE "leads" a (eE "root_size" b (eE "size" c []))).length<=3:=fun a b c=>ZI (dm _ _ _) (Qap (ZI (dm _ _ _) (Qap (dm _ _ _))))
  refine ⟨_,rfl,_,rfl,stx y w',_,rfl,rfl,⟨by rw[LA];omega,by rw[LA];omega⟩,by rw[LA,YT,dy];omega,_,rfl,x,a_,dx,_,rfl,TR,T.gH,T.n_Way_onward,ZO (l3 _ _ _) (by decide),?_⟩
  refine ⟨_,rfl,1,rfl,_,rfl,rfl,stx y w',rfl,by rw[dy];omega,_,rfl,(stx y w').reverse,_,rfl,rfl,⟨by rw[LA];omega,by rw[LA];omega⟩,by rw[LA,YT,ZF,dy];omega,_,rfl,x,a_,dx,_,rfl,ah,T.gH,T.n_Way_backward,ZO (dm _ _ _) (ZO (Qap (l3 _ _ _)) (by decide)),?_⟩
  refine q s1 _ Rz ?_ fun b o eb zb=>?_
  ·rw[ah]
   unfold mz
   rw[<-XX,LA,YT]
  ·rw[aD zb,aD zb]
   refine Vr _ _ ?_
   rw[aD zb]
   refine Vq _ _ ?_
   rw[aD zb]
   refine P8 _ _ ?_
   rw[aD zb]
   exact eb
theorem Fg:bB P w K mg base d_ 2 MA Ni ["_law_box_here","_law_few","_law_top"] (vM K):=by
 have bA:=gq (P:=P) (w:=w) (base:=base) T
 have bz:=dA (P:=P) (w:=w) (base:=base) T
 refine T.Q7.fn.ok fF (fun vs H Q E h=>Bt h) (fun cA A outer s H vs Q E hr h=>?_)
 refine ⟨_,(ag (aq (i:=3) fF.nd rfl (Or.inl rfl) (cV (oE rfl) rfl T.z_list boot_list (aa (gv [97,98,99,100,101,102,103,104,105,106,107,108,109,110,111,112,113,114,115,116,117,118,119,120,121,122] (by decide+kernel)) ae)))
   (ag (aq (i:=4) fF.nd rfl (Or.inl rfl) (cY ae))
   (ag (cE PassesOwn.never rfl (dq rfl T.z_range (aa (az aW (pv 1) (ao bA (hr.mono (by decide)) rfl T.dZ.mg T.dZ.fn.kp T.dZ.bd .nil aA (aa (pv 0) (aa (az aW (az cf (pv 2) (pv 1)) ai) ae)))) ae)) (aG (i:=5) fF.nd rfl (Or.inl rfl)) (ag (aq (i:=6) fF.nd rfl (Or.inl rfl) (bE K rfl ZA Qbi Qbh kF (pv 3) (aa (ao bA (hr.mono (by decide)) rfl T.dZ.mg T.dZ.fn.kp T.dZ.bd .nil aA (aa (pv 0) (aa (aE (bI K rfl) rfl T.z_len YV (aa (pv 3) ae)) ae))) ae)))
   (aj (aq (i:=4) fF.nd rfl (Or.inl rfl) (az CJ (pv 4) (cY (aa (pv 6) (aa (ao bz (hr.mono (by decide)) rfl T.gQ.mg T.gQ.fn.kp T.gQ.bd .nil aA (aa (pv 6) ae)) ae))))))))
   (ag (aq (i:=7) fF.nd rfl (Or.inl rfl) (gv [] (by decide+kernel)))
   (ag (cj PassesOwn.never (aL kB (aE (bI K rfl) rfl T.z_len YV (aa (pv 4) ae)) ai (aN _)) (aj (aq (i:=7) fF.nd rfl (Or.inl rfl) (az bX (pv 7) (bE K rfl ZA Qbi Qbh kF (pv 4) (aa (ao bA (hr.mono (by decide)) rfl T.dZ.mg T.dZ.fn.kp T.dZ.bd .nil aA (aa (pv 0) (aa (aE (bI K rfl) rfl T.z_len YV (aa (pv 4) ae)) ae))) ae))))))
   (aj (aI (pv 7)))))))),?_⟩
 obtain ⟨b,uN,top,rfl,hb,h1,h2,h3,q⟩:=h
 have hs:(100000:Nat)<sizeLine:=by decide
 walk_at "rd"
 intro p1 n1
 walk_at "rd"
 intro p2 n2
 have s1:ar H (upd (upd H p1 (.lst (bP aR))) p2 (.lst [])):=(ar.upd n1).trans (ar.upd n2)
 have RA:p1≠b:=hb.ne n1
 have TH:H p2=none:=ar.free (ar.upd n1) n2
 have XY:p2≠b:=hb.ne TH
 have Vs:p1≠p2:=fun z=>by rw[<-z,ah]at n2;cases n2
 walk_at "rd"
 refine ⟨b,_,rfl,hb.same s1,by omega,by omega,fun n H1 hn vG s2=>?_⟩
 walk_at "rd"
 refine fT (fun i σ H'=> ∃(pe:Addr) (L E:List Nat) (kv lv:Option V),σ=[some (.ref b),some (.int uN),some (.int top),some (.ref p1),some (.ref pe),kv,lv,none]/\Kw i L E/\H' p1=some (.lst (bP L))/\H' pe=some (.lst (bP E))/\p1≠pe/\H pe=none/\bT H' b/\aV b H H')
  ⟨p2,aR,[],none,none,rfl,Kw.start,s2 _ _ (by rw[aD Vs,ah];rfl) RA,s2 _ _ ah XY,Vs,TH,vG,(aV.of s1).trans s2⟩ ?_ ?_
 ·rintro i σ H2 hi ⟨pe,L,E,kv,lv,rfl,yw,Al,qh,Vt,RB,jN,s3⟩
  have PC:i<26:=by simp at hi;omega
  have Tx:=yw.ll
  have RC:=yw.el
  refine ⟨_,rfl, .inl ⟨rfl,_,bD.of Al⟩,?_⟩
  walk_at "rd"
  refine ⟨p1,_,rfl, .inl (bD.of Al),b,_,rfl,jN,by rw[aZ];omega,by rw[aZ];omega,fun r H3 PR m5 s4=>?_⟩
  rw[aZ]at PR
  have HN:r<L.length:=by omega
  have TV:=s4 _ _ Al RA
  have TX:=s4 _ _ qh (hb.ne RB)
  refine ⟨p1,_,_,r,_,rfl,rfl,TV,by omega,by omega,by rw[aZ,seqIndex_of (by omega) (by omega),YT],yl HN,?_⟩
  rw[l_]
  have cC:Lt L[r]:= .inl (yw.sm _ (ZR HN))
  have Qh:(upd H3 p1 (.lst (bP (L.eraseIdx r)))) pe=some (.lst (bP E)):=by rw[aD (Ne.symm Vt)];exact TX
  walk_at "rd"
  intro p3 n3
  have e3:pe≠p3:=aB Qh n3
  refine ⟨pe,p3,_,_,rfl,rfl,by rw[aD e3];exact Qh,ah,by rw[aZ];show E.length+2<=_;omega,fun p4 n4=>?_⟩
  have Vu:H p3=none:=((s3.trans s4).dY n1).none n3 (m5.dY RA |>.ne n3)
  have Vv:=(m5.dY (o:= .lst (bP (L.eraseIdx r))) RA).dY (o:= .lst [V.str (S [L[r]]),V.str (S [aC L[r]])]) (hb.ne Vu)
  have Vw:=((s3.trans s4).dY (o:= .lst (bP (L.eraseIdx r))) n1).dY (o:= .lst [V.str (S [L[r]]),V.str (S [aC L[r]])]) Vu
  have TY:H p4=none:=Vw.none n4 (Vv.ne n4)
  have Vx:p1≠p4:=fun z=>by rw[<-z]at n4;by_cases z3:p1=p3<;>simp[upd,z3]at n4
  have XZ:p1≠p3:=fun z=>by rw[<-z,ah]at n3;cases n3
  refine ⟨p4,L.eraseIdx r,E++[L[r],aC L[r]],_,_,rfl,yw.turn PC HN,by rw[aD Vx,aD XZ,ah],?_,Vx,TY,Vv.dY (hb.ne TY),Vw.dY TY⟩
  rw[ah, <-G1]
  rfl
 ·rintro σ H2 ⟨pe,L,E,kv,lv,rfl,yw,Al,qh,Vt,RB,jN,s3⟩
  have RC:=yw.el
  have Fp:=hb.ne RB
  walk_at "rd"
  refine ⟨fun m σ H'=> ∃F E':List Nat,σ=[some (.ref b),some (.int uN),some (.int top),some (.ref p1),some (.ref pe),kv,lv,some (.str (S F))]/\m=E'.length/\(F++E').Perm E/\H' pe=some (.lst (bP E'))/\bT H' b/\aV b H H',⟨_,[],E,rfl,rfl,Qc9 _,qh,jN,s3⟩,?_⟩
  rintro m σ H3 ⟨F,E',rfl,rfl,uE,HR,m5,s4⟩
  have hlen:=uE.length_eq
  rw[L5]at hlen
  have xx:(uN:Int)+n<=9:=by omega
  have X0:E.length<=100:=by rw[RC];omega
  walk_at "rd"
  refine ⟨pe,_,rfl, .inl (bD.of HR),_,_,rfl,rfl,_,rfl,cq (fun e=>?_) (fun e=>?_)⟩
  ·have e':(0:Int)<((bP E').length:Nat):=of_decide_eq_true e
   rw[aZ]at e'
   refine ⟨_,rfl,_,rfl, .inl ⟨rfl,_,bD.of HR⟩,?_⟩
   walk_at "rd"
   refine ⟨pe,_,rfl, .inl (bD.of HR),b,_,rfl,m5,by rw[aZ];omega,by rw[aZ];omega,fun r H4 HN zf s5=>?_⟩
   rw[aZ]at HN
   have Vy:r<E'.length:=by omega
   refine ⟨pe,_,_,r,_,rfl,rfl,s5 _ _ HR Fp,by omega,by omega,by rw[aZ,seqIndex_of (by omega) (by omega),YT],yl Vy,?_⟩
   rw[l_]
   have hp:=h7 (J0 Vy)
   have jI:=hp.length_eq
   rw[ZM]at jI
   refine ⟨F,_,rfl,rfl,by show F.length+1<=_;omega,(E'.eraseIdx r).length,by omega,F++[E'[r]],E'.eraseIdx r,rfl,rfl,?_,ah,zf.dY Fp,(s4.trans s5).dY RB⟩
   rw[Qab]
   exact (List.Perm.append_left F hp).trans uE
  ·have e':E'=[]:=by
    cases E' with
    | nil=>rfl
    | cons c r=>exact absurd (decide_eq_true (by rw[aZ];show (0:Int)<((r.length+1:Nat):Int);omega)) e
   subst e'
   rw[Z7]at uE
   have xN:=uE.length_eq
   refine ⟨_,rfl,q F H3 (yw.yd.perm uE.symm) ?_ ?_ m5 s4⟩
   ·rw[xN,RC];omega
   ·rw[xN,RC];omega
theorem Fh:bB P w K mg base d_ 2 MC Nk ["_law_box_here","_law_x","_law_y","_law_top"] (wI K):=by
 have bA:=gq (P:=P) (w:=w) (base:=base) T
 have bz:=dA (P:=P) (w:=w) (base:=base) T
 refine T.Q9.fn.ok lH (fun vs H Q E h=>B3 h) (fun cA A outer s H vs Q E hr h=>?_)
 refine ⟨_,(ag (aq (i:=4) lH.nd rfl (Or.inr rfl) (az aW ai (ao bA (hr.mono (by decide)) rfl T.dZ.mg T.dZ.fn.kp T.dZ.bd .nil aA (aa (pv 0) (aa (az cf (pv 3) ai) ae)))))
   (ag (aq (i:=5) lH.nd rfl (Or.inr rfl) (az aW ai (ao bA (hr.mono (by decide)) rfl T.dZ.mg T.dZ.fn.kp T.dZ.bd .nil aA (aa (pv 0) (aa (az cf (pv 4) ai) ae)))))
   (ag (aq (i:=6) lH.nd rfl (Or.inr rfl) (aP (bu K rfl) (cY (aa (pv 1) (aa (ao bz (hr.mono (by decide)) rfl T.gQ.mg T.gQ.fn.kp T.gQ.bd .nil aA (aa (pv 1) ae)) ae))) (ao bA (hr.mono (by decide)) rfl T.dZ.mg T.dZ.fn.kp T.dZ.bd .nil aA (aa (pv 0) (aa ai ae))) (fun _ _=>rfl)))
   (aj (aI (bE K rfl Zt Z5 Qal (f_ K rfl) (gv [] (by decide+kernel)) (aa (cS ["_law_i","_law_one","_law_y","_law_few","_law_many"] [none,some 6,some 2,some 5,some 4] (dq rfl T.z_range (aa (pv 4) ae)) ⟨⟨rfl,rfl,by first | exact .inl rfl | exact .inr rfl⟩,⟨⟨rfl,rfl,by first | exact .inl rfl | exact .inr rfl⟩,⟨⟨rfl,rfl,by first | exact .inl rfl | exact .inr rfl⟩,⟨⟨rfl,rfl,by first | exact .inl rfl | exact .inr rfl⟩,trivial⟩⟩⟩⟩ (fun _ _ _ _=>(aG (i:=0) (by decide+kernel:List.Nodup (["_law_i","_law_one","_law_y","_law_few","_law_many"]:List Str)) rfl (Or.inl rfl))) (fun _ _ _ _=>dP) (fun _ _ _ _=>(aP (bu K rfl) (cY (aa (pv 1) (aa (pv 2) ae))) (cV qP rfl T.z_int boot_int (aa (du kB (az cU (az hX (az aW (pv 0) ai) (pv 3)) (pv 4)) (az cU (az hX (pv 0) (pv 3)) (pv 4)) (aN _)) ae)) (fun _ _=>rfl)))) ae))))))),?_⟩
 obtain ⟨b,z,x,y,rfl,hb,hz,hx,hy,x1,y1,ne,q⟩:=h
 have hs:(100000:Nat)<sizeLine:=by decide
 have lx:Lt x:= .inl x1
 have ly:Lt y:= .inl y1
 have sc: ∀a∈aR,aC a∉aR:=by decide+kernel
 refine ⟨_,rfl,_,rfl,_,_,rfl,rfl,b,_,rfl,hb,by decide,by decide,fun m0 H1 Ze vG s1=>?_⟩
 have X1:m0<11:=by omega
 refine ⟨_,_,rfl,rfl,?_⟩
 refine ⟨_,rfl,_,rfl,_,_,rfl,rfl,b,_,rfl,vG,by omega,by omega,fun f0 H2 Zf jN s2=>?_⟩
 refine ⟨_,_,rfl,rfl,?_⟩
 refine ⟨_,rfl,_,rfl,x,rfl,lx,by show 2<=sizeLine;decide,fun t nt=>?_⟩
 have tb:=jN.ne nt
 have ht:upd H2 t (.lst [.str (S [x]), .str (S [aC x])]) t=some (.lst [.str (S [x]), .str (S [aC x])]):=ah
 have m5:=jN.dY (o:= .lst [.str (S [x]), .str (S [aC x])]) tb
 have s3:=(s1.trans s2).after (ar.upd (o:= .lst [.str (S [x]), .str (S [aC x])]) nt)
 generalize upd H2 t (.lst [.str (S [x]), .str (S [aC x])])=H3 at ht m5 s3 ⊢
 refine ⟨_,rfl,b,2,rfl,m5,by decide,by decide,fun g H4 hg zf s4=>?_⟩
 obtain ⟨u,hu,eu⟩: ∃u,(u=x\/u=aC x)/\iD [V.str (S [x]), .str (S [aC x])] (g:Int)=some (.str (S [u])):=by
  rcases (show g=0\/g=1 by omega) with rfl | rfl
  ·exact ⟨x, .inl rfl,rfl⟩
  ·exact ⟨aC x, .inr rfl,rfl⟩
 refine ⟨t,_,_,_,rfl,rfl,bD.of (s4 _ _ ht tb),eu,?_⟩
 have RD:=s3.trans s4
 have X2:u∈z:=hu.elim (fun g=>by rw[g];exact hx) fun g=>by rw[g];exact hz.cl x hx
 have n1:y≠aC u:=fun g=>by
  rcases hu with a | a<;>rw[a]at g
  ·exact sc x x1 (by rw[<-g];exact y1)
  ·rw[aJ lx]at g;exact ne g.symm
 have n2:u≠aC y:=fun g=>n1 (by rw[g,aJ ly])
 refine ⟨rfl,_,rfl,_,rfl,by omega,by omega,?_⟩
 rw[show ((2:Int)+(m0:Int)).toNat=m0+2 by omega]
 refine iZ (fun i acc H'=>ar H4 H'/\ ∃l:List Nat,acc=bP l/\l.length=i/\ ∀c∈l,c=u\/c=y) (by omega) ⟨ar.refl _,[],rfl,rfl,fun _ h=>absurd h Zy⟩ ?_ ?_
 ·rintro i acc H5 Nx hi p7 ⟨s5,l,rfl,ll,hl⟩ nx
  refine ⟨⟨rfl,rfl,rfl,rfl,trivial⟩,da ?_⟩
  refine ⟨_,rfl,_,rfl,by show 2<=sizeLine;decide,fun t2 Lp=>?_⟩
  refine ⟨_,rfl,_,_,rfl,rfl,_,rfl,_,_,rfl,rfl, .inl ⟨by omega,by omega⟩,_,rfl,_,_,rfl,rfl,⟨by omega,by omega⟩,_,rfl,_,rfl,_,_,rfl,rfl, .inl ⟨by omega,by omega⟩,_,rfl,_,_,rfl,rfl,⟨by omega,by omega⟩,_,_,rfl,rfl, .inr ⟨_,rfl,?_⟩⟩
  have pick: ∀c:Bool, ∃e,(e=u\/e=y)/\iD [V.str (S [u]), .str (S [y])] (if c=true then 1 else 0)=some (.str (S [e])):=fun c=>by
   cases c with
   | true=>exact ⟨y, .inr rfl,rfl⟩
   | false=>exact ⟨u, .inl rfl,rfl⟩
  obtain ⟨e,he,ee⟩:=pick _
  refine ⟨t2,_,_,_,rfl,rfl,bD.of ah,ee,nx _ _ (by rw[L5];simpa using p7) ⟨s5.trans (ar.upd Lp),l++[e],by rw[dj],by rw[L5,ll];rfl,fun c hc=>?_⟩⟩
  rcases Zx.mp hc with k | k
  ·exact hl c k
  ·rw[Wg.mp k];exact he
 ·rintro acc H5 D p7 ⟨s5,l,rfl,ll,hl⟩ hD
  refine ⟨D,l.map fun c=>[c],rfl,rfl,bD.of (by rw[ah, <-eU]),by rw[vO];omega,?_⟩
  rw[mW]
  have a5:=s5.trans (ar.upd (o:= .lst (bP l)) hD)
  exact q l _ (Le hz X2 hy n1 n2 (fun e=>by rw[e]at ll;exact absurd ll (by simp)) hl) (by omega) (zf.same a5) (RD.after a5)
theorem nH:bB P w K mg base d_ 1 f8 d8 ["some"] (iH K):=by
 refine T.F8.fn.ok dM (fun vs H Q E h=>mw h) (fun cA A outer s H vs Q E hr h=>?_)
 refine ⟨_,(ag (aq (i:=1) dM.nd rfl (Or.inl rfl) Dd)
   (ag (cE PassesOwn.never rfl (fA K rfl (pv 0)) (aG (i:=2) dM.nd rfl (Or.inl rfl)) (ag (aq (i:=3) dM.nd rfl (Or.inl rfl) (aE (qO rfl) rfl T.z_min boot_min (aa (aP (bJ K rfl) (pv 2) ai (fun _ _=>rfl)) (aa (aP (bJ K rfl) (pv 2) ai (fun _ _=>rfl)) ae))))
   (ag (sY (oA hr) (pv 1) (aP (bJ K rfl) (pv 2) ai (fun _ _=>rfl)) (pv 3) rfl)
   (aj (sY (oA hr) (pv 1) (aP (bJ K rfl) (pv 2) ai (fun _ _=>rfl)) (pv 3) rfl)))))
   (aj (aI (pv 1))))),?_⟩
 obtain ⟨a,qs,rfl,ha,hq,hn,nd,q⟩:=h
 have hs:(100000:Nat)<sizeLine:=by decide
 walk_at "wk"
 intro d RE
 have Vz:a≠d:=aB ha RE
 refine ⟨_,rfl,a,rfl,⟨_,bD.of (by rw[aD Vz];exact ha)⟩,?_⟩
 refine gT (K:=K) (a:=a) (xs:=BO qs) (fun k σ H'=> ∃(cv fv:Option V),σ=[some (.ref a),some (.ref d),cv,fv]/\H' d=some (.dK (gw ((qs.take k).map Q4.v)))/\aV d H H')
  ⟨none,none,rfl,ah,fun b o e z=>by rw[aD z];exact e⟩ (fun k σ H' _ ⟨_,_,_,_,h⟩=>bD.of (h _ _ ha Vz)) ?_ ?_
 ·rintro k x σ H1 hx ⟨cv,fv,rfl,hd,s1⟩
  obtain ⟨c,hc,rfl⟩:=KU hx
  have hk:k<qs.length:=(J1.mp hc).1
  have tc:=hq c (Zs hc)
  have m8:c.t≠d:=fun z=>by have h9:H c.t=_:=tc;rw[z,RE]at h9;cases h9
  have RF:qA H1 c:=s1 _ _ tc m8
  have lc:(gw ((qs.take k).map Q4.v)).length<=2000:=by rw[wA,Us,Zo];omega
  have e:(qs.take (k+1)).map Q4.v=(qs.take k).map Q4.v++[c.v]:=by rw[<-take_snoc hc,Zn];rfl
  have VA:(eK ((qs.take k).map Q4.v++[c.v])).Nodup:=by
   rw[<-e]
   have:qs.map Q4.v=(qs.take (k+1)).map Q4.v++(qs.drop (k+1)).map Q4.v:=by rw[<-Zn,ZL]
   rw[this]at nd
   unfold eK at nd ⊢
   rw[Z6,Qaa]at nd
   exact nd.1
  refine ⟨_,rfl,c.t,_,2,_,rfl,rfl,cR.of RF,rfl,_,rfl,c.t,_,3,_,rfl,rfl,cR.of RF,rfl,_,_,rfl,?_⟩
  refine ⟨_,rfl,_,rfl,_,rfl,c.t,_,2,_,rfl,rfl,cR.of RF,rfl,d,_,rfl,sX.k (k:=Sum.inl (c.v.2.2.1:Int)) hd (by omega),?_⟩
  have X3: ∀o,qA (L2.upd H1 d o) c:=fun o=>by show L2.upd H1 d o c.t=_;rw[aD m8];exact RF
  refine ⟨_,rfl,_,rfl,_,rfl,c.t,_,3,_,rfl,rfl,cR.of (X3 _),rfl,d,_,rfl,sX.k (k:=Sum.inl (c.v.2.2.2:Int)) ah (ZO (gA _ _ _) (by omega)),?_⟩
  refine ⟨_,_,rfl,?_,fun b o eb z=>by rw[aD z,aD z];exact s1 b o eb z⟩
  rw[ah,e, <-Hs VA]
  rfl
 ·rintro σ H1 ⟨cv,fv,rfl,hd,s1⟩
  rw[Ak,Qaq]at hd
  exact ⟨_,rfl,q d H1 RE hd fun b o eb=>s1 b o eb (aB eb RE)⟩
theorem uK:bB P w K mg base d_ 1 f9 d9 ["rising","point"] (lA K):=by
 refine T.F9.fn.ok dz (fun vs H Q E h=>qB h) (fun cA A outer s H vs Q E hr h=>?_)
 refine ⟨_,(ag (aq (i:=2) dz.nd rfl (Or.inl rfl) ai)
   (ag (aq (i:=3) dz.nd rfl (Or.inl rfl) (az cf (aE (bI K rfl) rfl T.z_len YV (aa (pv 0) ae)) ai))
   (ag (cj PassesOwn.never (aL kA (pv 2) (pv 3) (aN _)) (ag (aq (i:=4) dz.nd rfl (Or.inl rfl) (az cU (az aW (pv 2) (pv 3)) ai))
   (aj (b7 (aL kA (aP (bu K rfl) (pv 0) (pv 4) (fun _ _=>rfl)) (pv 1) (aN _)) (aj (aq (i:=2) dz.nd rfl (Or.inl rfl) (az aW (pv 4) ai))) (aj (aq (i:=3) dz.nd rfl (Or.inl rfl) (pv 4)))))))
   (aj (aI (pv 2)))))),?_⟩
 obtain ⟨a,l,p,rfl,ha,up,hp,hn,q⟩:=h
 have hs:(100000:Nat)<sizeLine:=by decide
 have hi:=Wh hp
 have TZ:l[l.idxOf p]=p:=Qao hi
 have key:=Qbr.mp up
 refine ⟨_,rfl,a,_,rfl, .inl (bD.of ha),?_⟩
 rw[lr]
 walk_at "wk"
 refine ⟨fun m σ H'=> ∃(lo hi:Nat) (mv:Option V),σ=[some (.ref a),some (.int p),some (.int lo),some (.int hi),mv]/\m=hi - lo/\lo<=l.idxOf p/\l.idxOf p<=hi/\hi<l.length/\H'=H,⟨_,0,l.length - 1,none,?_,rfl,YU _,by omega,by omega,rfl⟩,?_⟩
 ·have:((l.length:Int) - 1)=((l.length - 1:Nat):Int):=by omega
  rw[<-this];rfl
 rintro m σ H2 ⟨lo,lK,mv,rfl,rfl,h1,h2,h3,rfl⟩
 walk_at "wk"
 refine cq (fun z=>?_) (fun z=>?_)
 ·have z1:(lo:Int)<lK:=of_decide_eq_true z
  have em:(((lo:Int)+lK) / 2)=(((lo+lK) / 2:Nat):Int):=by omega
  have hm:(lo+lK) / 2<l.length:=by omega
  walk_at "rd"
  refine ⟨a,_,((lo:Int)+lK) / 2,_,rfl,rfl,bD.of ha,by rw[em];exact bN (Er (J0 hm)),?_⟩
  walk_at "rd"
  refine cq (fun y=>?_) (fun y=>?_)
  ·have y1:((l[(lo+lK) / 2]:Nat):Int)<p:=of_decide_eq_true y
   have lt:(lo+lK) / 2<l.idxOf p:=by
    refine Classical.byContradiction fun w=>?_
    by_cases e:(lo+lK) / 2=l.idxOf p
    ·have:l[(lo+lK) / 2]=p:=by simp only[e];exact TZ
     omega
    ·have:=key (l.idxOf p) ((lo+lK) / 2) hi hm (by omega)
     rw[TZ]at this
     omega
   walk_at "rd"
   have e1:((lo:Int)+lK) / 2+1=(((lo+lK) / 2+1:Nat):Int):=by omega
   refine ⟨lK - ((lo+lK) / 2+1),by omega,(lo+lK) / 2+1,lK,_,by rw[<-e1];rfl,rfl,by omega,h2,h3,rfl⟩
  ·have y1: ¬((l[(lo+lK) / 2]:Nat):Int)<p:=fun w=>y (decide_eq_true w)
   have le:l.idxOf p<=(lo+lK) / 2:=by
    refine Classical.byContradiction fun w=>?_
    have:=key ((lo+lK) / 2) (l.idxOf p) hm hi (by omega)
    rw[TZ]at this
    omega
   walk_at "rd"
   refine ⟨(lo+lK) / 2 - lo,by omega,lo,(lo+lK) / 2,_,by rw[<-em];rfl,rfl,h1,le,by omega,rfl⟩
 ·have z1: ¬(lo:Int)<lK:=fun w=>z (decide_eq_true w)
  have e:lo=l.idxOf p:=by omega
  walk_at "rd"
  rw[e]
  exact q
theorem lJ:bB P w K mg base d_ 2 Md MT ["some"] (gG K):=by
 have qe:=nH (P:=P) (w:=w) (base:=base) T
 have w6:=uK (P:=P) (w:=w) (base:=base) T
 refine T.QR.fn.ok bK (fun vs H Q E h=>kf h) (fun cA A outer s H vs Q E hr h=>?_)
 refine ⟨_,(ag (aq (i:=1) bK.nd rfl (Or.inl rfl) (ao qe (hr.mono (by decide)) rfl T.F8.mg T.F8.fn.kp T.F8.bd .nil aA (aa (pv 0) ae)))
   (ag (aq (i:=2) bK.nd rfl (Or.inl rfl) (cY ae))
   (ag (aq (i:=3) bK.nd rfl (Or.inl rfl) ai)
   (ag (cE PassesOwn.never rfl (fA K rfl (aE (qw rfl) rfl T.z_sorted boot_sorted (aa (pv 1) ae))) (aG (i:=4) bK.nd rfl (Or.inl rfl)) (aj (b7 (aL hZ (nP (oA hr) (pv 1) (pv 4) (fun _ _=>rfl)) (pv 4) (aN _)) (aj (c_ (bE K rfl ZA Z3 Z2 dv (pv 2) (aa (pv 4) ae)))) (ag (aq (i:=5) bK.nd rfl (Or.inl rfl) (ao w6 (hr.mono (by decide)) rfl T.F9.mg T.F9.fn.kp T.F9.bd .nil aA (aa (pv 2) (aa (nP (oA hr) (pv 1) (pv 4) (fun _ _=>rfl)) ae))))
   (ag (c_ (bE K rfl ZA Qbi Qbh kF (pv 2) (aa (pv 5) ae)))
   (aj (j5 (i:=3) bK.nd rfl (Or.inl rfl) (az cf (aE (bI K rfl) rfl T.z_len YV (aa (pv 2) ae)) (pv 5)) sE)))))))
   (aj (aI (pv 3))))))),?_⟩
 obtain ⟨a,qs,rfl,ha,hq,hn,nd,q⟩:=h
 have hs:(100000:Nat)<sizeLine:=by decide
 refine ⟨_,rfl,a,qs,rfl,ha,hq,by omega,nd,fun d H1 VA hd s1=>?_⟩
 have X4:(qs.map Q4.v).length<=24:=by rw[Us];exact hn
 generalize qs.map Q4.v=cs at nd hd q X4
 have kl:=wA cs
 have Zg:(eK cs).length=2*cs.length:=by
  have:=congrArg List.length (g7 cs)
  rw[Us,Us]at this
  omega
 walk_at "wk"
 intro b nb
 have VB:d≠b:=aB hd nb
 have hd2:L2.upd H1 b (.lst []) d=some (.dK (gw cs)):=by rw[aD VB];exact hd
 have sb:=ar.upd (o:= .lst []) nb
 refine ⟨_,rfl,d,_,(eK cs).map fun n:Nat=>(n:Int),rfl,hd2,by rw[g7,Z_];rfl,by rw[Us];omega,fun p2 ms n2 uE PY=>?_⟩
 obtain ⟨P,eP,pP,uP⟩:=yN nd uE PY
 rw[eP]
 have ch:=K2 nd pP uP
 have lP:P.length<=2000:=by rw[pP.length_eq];omega
 have VC:p2≠b:=fun z=>by rw[z,ah]at n2;cases n2
 have s2:=sb.trans (ar.upd (o:= .lst (ins P)) n2)
 refine ⟨p2,rfl,⟨_,bD.of ah⟩,?_⟩
 refine gT (K:=K) (a:=p2) (xs:=ins P) (fun k σ H'=> ∃(m:Nat) (pv nv:Option V),σ=[some (.ref a),some (.ref d),some (.ref b),some (.int m),pv,nv]/\H' b=some (.lst (ins (n_ (cM cs) (P.take k) (P.drop k))))/\m+FG (cM cs) (P.take k) (P.drop k)=FG (cM cs) [] P/\aV b (L2.upd (L2.upd H1 b (.lst [])) p2 (.lst (ins P))) H')
  ⟨0,none,none,rfl,by rw[aD (Ne.symm VC),ah];rfl,by rw[Qcw];rfl,aV.refl _ _⟩ (fun k σ H' _ ⟨_,_,_,_,_,_,h⟩=>bD.of (h _ _ ah VC)) ?_ ?_
 ·rintro k x σ H3 hx ⟨m,pv,nv,rfl,hb,hm,s3⟩
  obtain ⟨p,hp,rfl⟩: ∃p,P[k]? =some p/\x=V.int (p:Nat):=by
   unfold ins at hx
   rw[Zv]at hx
   cases e:P[k]? with
   | none=>rw[e]at hx;cases hx
   | some p=>rw[e]at hx;cases hx;exact ⟨p,rfl,rfl⟩
  have hk:k<P.length:=(J1.mp hp).1
  have X5:p∈eK cs:=pP.mem_iff.mp (Zs hp)
  have VD:=K4 nd X5
  have VE:H3 d=some (.dK (gw cs)):=s3 _ _ (s2 _ _ hd) VB
  have VF:P=P.take k++p::P.drop (k+1):=by
   have:=ZL k P
   rw[Z1 hk,(J1.mp hp).2]at this
   exact this.symm
  have T1:P.drop k=p::P.drop (k+1):=by rw[Z1 hk,(J1.mp hp).2]
  have Qg:P.take (k+1)=P.take k++[p]:=(take_snoc hp).symm
  have bl:(n_ (cM cs) (P.take k) (P.drop k)).length<=2000:=ZI Ht (by rw[Zo];omega)
  have vY:=Eu (st:=cM cs) hp
  refine ⟨_,rfl,_,rfl,d,_,rfl,by rw[<-VD];exact oN.k (k:=Sum.inl (p:Int)) VE,?_⟩
  walk_at "rd"
  refine cq (fun z=>?_) (fun z=>?_)
  ·have z1:cM cs p=p:=by have:=of_decide_eq_true z;omega
   refine ⟨_,rfl, .inl ⟨rfl,_,bD.of hb⟩,_,rfl,b,_,_,rfl,rfl,hb,by rw[lr];omega,?_⟩
   refine ⟨m,_,_,rfl,?_,?_,s3.trans (aV.upd _ _ _)⟩
   ·rw[ah,Ep,Qg,El ch VF z1, <-T1]
   ·have e0:BQ (cM cs) (P.take k) (P.drop (k+1)) p=0:=by unfold BQ;rw[if_pos z1]
    omega
  ·have z1:cM cs p≠p:=fun w=>z (decide_eq_true (by rw[w]))
   obtain ⟨en,em⟩:=KZ ch VF z1
   rw[<-T1]at en em
   have up:=K3 (st:=cM cs) uP (ZL k P).symm (P.drop k)
   have xS:=Wh em
   refine ⟨_,rfl,_,rfl,_,rfl,d,_,rfl,by rw[<-VD];exact oN.k (k:=Sum.inl (p:Int)) VE,b,_,cM cs p,rfl,hb,up,em,by omega,?_⟩
   refine ⟨_,rfl, .inl ⟨rfl,_,bD.of hb⟩,_,rfl,b,_,_,_,_,rfl,rfl,hb,by omega,by omega,?_,Er (J0 xS),?_⟩
   ·rw[lr]
    exact IW xS
   have ee:(ins (n_ (cM cs) (P.take k) (P.drop k))).eraseIdx ((n_ (cM cs) (P.take k) (P.drop k)).idxOf (cM cs p))=ins (n_ (cM cs) (P.take (k+1)) (P.drop (k+1))):=by
    rw[Qg,en, <-Et em]
    exact rX _ _
   rw[ee]
   refine ⟨_,rfl,_,rfl,b,_,rfl, .inl (bD.of ah),?_⟩
   walk_at "rd"
   have bh:=behind up em
   have lb:(n_ (cM cs) (P.take (k+1)) (P.drop (k+1))).length=((n_ (cM cs) (P.take k) (P.drop k)).erase (cM cs p)).length:=by rw[Qg,en]
   have le:((n_ (cM cs) (P.take k) (P.drop k)).erase (cM cs p)).length+1=(n_ (cM cs) (P.take k) (P.drop k)).length:=by rw[List.length_erase_of_mem em];omega
   have ec:BQ (cM cs) (P.take k) (P.drop (k+1)) p=((n_ (cM cs) (P.take k) (P.drop k)).filter fun x=>decide (cM cs p<x)).length:=by unfold BQ;rw[if_neg z1,T1]
   have ei:(m:Int)+(((ins (n_ (cM cs) (P.take (k+1)) (P.drop (k+1)))).length:Nat) - ((n_ (cM cs) (P.take k) (P.drop k)).idxOf (cM cs p):Nat))=((m+BQ (cM cs) (P.take k) (P.drop (k+1)) p:Nat):Int):=by rw[lr];omega
   exact ⟨m+BQ (cM cs) (P.take k) (P.drop (k+1)) p,some (.int p),some (.int ((n_ (cM cs) (P.take k) (P.drop k)).idxOf (cM cs p):Nat)),by rw[<-ei];rfl,ah,by omega,s3.trans (aV.upd _ _ _)⟩
 ·rintro σ H3 ⟨m,pv,nv,rfl,hb,hm,s3⟩
  rw[lr,List.drop_length,Qaq]at hm
  have GP:m=FG (cM cs) [] P:=hm
  refine ⟨_,rfl,?_⟩
  rw[GP,PJ ch]
  exact q H3 fun c o e=>s3 c o (s2 c o (s1 c o e)) (aB e (ar.free s1 nb))
theorem zi:bB P w K mg base d_ 4 f7 d7 ["yard","drawing"] (o7 K):=by
 have Fi:=Ca (P:=P) (w:=w) (base:=base) T
 have nI:=mO (P:=P) (w:=w) (base:=base) T
 refine T.F7.fn.ok cO (fun vs H Q E h=>wq h) (fun cA A outer s H vs Q E hr h=>?_)
 refine ⟨_,(ag (aq (i:=2) cO.nd rfl (Or.inl rfl) De)
   (ag (cE PassesOwn.never rfl (C5 K rfl rfl T.z_enumerate (aa (ao Fi (hr.mono (by decide)) rfl T.F5.mg T.F5.fn.kp T.F5.bd .nil aA (aa (pv 0) (aa (pv 1) ae))) ae)) (fj (n:=2) K rfl rfl (bf (aG (i:=3) cO.nd rfl (Or.inl rfl)) (bf (aG (i:=4) cO.nd rfl (Or.inl rfl)) eA))) (aj (sY (oA hr) (pv 2) (pv 4) (pv 3) rfl)))
   (ag (aq (i:=5) cO.nd rfl (Or.inl rfl) (cY ae))
   (ag (cE PassesOwn.never rfl (vx K rfl rfl T.z_enumerate (aa (aP (bJ K rfl) (pv 1) ai (fun _ _=>rfl)) ae)) (fj (n:=2) K rfl rfl (bf (aG (i:=6) cO.nd rfl (Or.inl rfl)) (bf (aG (i:=7) cO.nd rfl (Or.inl rfl)) eA))) (aj (cE PassesOwn.never rfl (dq rfl T.z_range (aa (aE aM rfl T.z_len YV (aa (pv 7) ae)) ae)) (aG (i:=8) cO.nd rfl (Or.inl rfl)) (ag (aq (i:=9) cO.nd rfl (Or.inl rfl) (ao nI (hr.mono (by decide)) rfl T.F6.mg T.F6.fn.kp T.F6.bd .nil aA (aa (pv 7) (aa (pv 6) (aa (pv 8) ae)))))
   (aj (c_ (bE K rfl ZA Z3 Z2 dv (pv 5) (aa (bS (aa (pv 6) (aa (pv 8) (aa (nP (oA hr) (pv 2) (aP (bJ K rfl) (pv 9) ai (fun _ _=>rfl)) (fun _ _=>rfl)) (aa (nP (oA hr) (pv 2) (aP (bJ K rfl) (pv 9) ai (fun _ _=>rfl)) (fun _ _=>rfl)) ae))))) ae))))))))
   (aj (aI (pv 5))))))),?_⟩
 obtain ⟨y,dr,ws,os,rfl,hy,hz,xl,RG,hd,q⟩:=h
 have hs:(100000:Nat)<sizeLine:=by decide
 have Tr:=Ed hy RG
 have X6:=jd hy
 have Bj:=RG.1
 have Zh:=xl.uN
 obtain ⟨⟨wt,ot,d1,d2,d3⟩,dO⟩:=id hd
 walk_at "wk"
 intro d nd
 refine ⟨_,rfl,_,rfl,y,dr,ws,os,rfl,hy,hz,by omega,hd.same (ar.upd nd),fun p1 ps H1 n1 Al AF qh Th s1=>?_⟩
 have VG:=s1 _ _ (ah (H:=H) (a:=d) (o:=HO.dT []))
 have Ls:ar H H1:=(ar.upd nd).trans s1
 have jI:ps.length=(n0 y os).length:=by rw[<-qh,Us]
 refine ⟨p1,rfl,⟨_,bD.of Al⟩,?_⟩
 have X7:p1≠d:=fun z=>by rw[z,ah]at n1;cases n1
 refine Be (K:=K) (a:=p1) (xs:=FE ps) (fun i σ H'=> ∃(aT:List (List Key×V)) (nv pv:Option V),σ=[some (.str (S y)),some (.ref dr),some (.ref d),nv,pv,none,none,none,none,none]/\H' d=some (.dT aT)/\Nums (n0 y os) aT i/\aT.length<=i/\aV d H1 H')
  ⟨[],none,none,rfl,VG,fun p hp=>absurd hp (by simp),YU _,aV.refl _ _⟩ (fun i σ H' _ ⟨_,_,_,_,_,_,_,h⟩=>bD.of (h _ _ Al X7)) ?_ ?_
 ·rintro i x σ H2 T hx ⟨aT,nv,pv,rfl,hd2,HS,X8,s2⟩ nT
  obtain ⟨p,hp,rfl⟩: ∃p,ps[i]? =some p/\x=V.ref p.t:=by
   unfold FE at hx
   rw[Zv]at hx
   cases e:ps[i]? with
   | none=>rw[e]at hx;cases hx
   | some p=>rw[e]at hx;cases hx;exact ⟨p,rfl,rfl⟩
  have hi:i<ps.length:=(J1.mp hp).1
  have pk:=(AF p (Zs hp)).1.tp
  have X9:p.t≠d:=fun z=>by rw[z,VG]at pk;cases pk
  have X_:d≠T:=aB hd2 nT
  refine ⟨T,_,rfl,cR.of ah,rfl,_,_,rfl,_,_,rfl,rfl,?_⟩
  refine ⟨_,rfl,_,rfl,_,rfl,d,_,rfl,sX.t (k:=t_ p.is) (by rw[aD X_];exact hd2) ((ar.upd nT) _ _ (s2 _ _ pk X9)) (by omega),?_⟩
  exact ⟨_,_,_,rfl,ah,HS.put Tr (PH qh hp),ZI (gA _ _ _) (by omega),fun a o ea z=>by rw[aD z];exact (ar.upd nT) _ _ (s2 a o ea z)⟩
 ·rintro σ H2 ⟨aT,nv,pv,rfl,hd2,HS,X8,s2⟩
  rw[Ai,jI]at HS
  have Jf: ∀p∈n0 y os,dG aT (t_ p)=some (.int ((n0 y os).idxOf p:Nat)):=fun p hp=>HS p (by rw[Qaq];exact hp)
  have uU:ar H H2:=fun a o ea=>s2 a o (Ls a o ea) (aB ea nd)
  walk_at "wk"
  intro p2 n2
  have T3:=ar.upd (o:= .lst []) n2
  have Ya:H p2=none:=ar.free uU n2
  refine ⟨_,rfl,dr,_,0,_,rfl,rfl,cR.of (T3 _ _ (uU _ _ d1)),rfl,?_⟩
  refine ⟨wt,rfl,⟨_,cR.of (T3 _ _ (uU _ _ d2))⟩,?_⟩
  refine rh (K:=K) (a:=wt) (xs:=tE ws) (fun j σ H'=> ∃(qs:List Q4) (cv wv iv av:Option V),σ=[some (.str (S y)),some (.ref dr),some (.ref d),nv,pv,some (.ref p2),cv,wv,iv,av]/\H' p2=some (.lst (BO qs))/\(∀x∈qs,qA H' x)/\qs.map Q4.v=gF (n0 y os) ws j/\qs.length<=12*j/\ar H2 H')
   ⟨[],none,none,none,none,rfl,ah,fun _ h=>absurd h Zy,rfl,YU _,T3⟩ (fun j σ H' _ ⟨_,_,_,_,_,_,_,_,_,_,h⟩=>cR.of (h _ _ (uU _ _ d2))) ?_ ?_
  ·rintro j x σ H3 T hx ⟨qs,cv,wv,iv,av,rfl,uS,Qi,Jg,T4,s3⟩ nT
   have hj:j<ws.length:=by
    have:=(J1.mp hx).1
    rwa [fq]at this
   rw[oU hj]at hx
   cases hx
   have Lu:ws[j]? =some ws[j]:=J0 hj
   obtain ⟨RH,lQ⟩:=xl.all _ (ZR hj)
   generalize ws[j]=w at Lu RH lQ ⊢
   have Tn: ∀l∈w,l<128:=fun l hl=>(hy.lt l (RH l hl)).lt
   have sT:=ar.upd (o:= .tup [.int j, .str (S w)]) nT
   refine ⟨T,_,rfl,cR.of ah,rfl,_,_,rfl,_,_,rfl,rfl,?_⟩
   refine ⟨_,rfl,w,rfl,by omega,_,rfl,by omega,by omega,?_⟩
   rw[YT]
   refine fT (fun i σ H'=> ∃(us:List Q4) (iv av:Option V),σ=[some (.str (S y)),some (.ref dr),some (.ref d),nv,pv,some (.ref p2),some (.int j),some (.str (S w)),iv,av]/\H' p2=some (.lst (BO us))/\(∀x∈us,qA H' x)/\us.map Q4.v=gF (n0 y os) ws j++mq (n0 y os) j w i/\us.length<=12*j+i/\ar H2 H')
    ⟨qs,iv,av,rfl,sT _ _ uS,fun x hx=>(Qi x hx).ts (fL.of sT),by rw[Jg];show _=_++[];rw[Z7],by omega,s3.trans sT⟩ ?_ ?_
   ·rintro i σ H4 hi ⟨us,Yc,Ye,rfl,RI,Ci,Cb,Cr,s4⟩
    have e1:w[xh w.length i]? =some (w.getD (xh w.length i) 0):=by rw[Zp,J0 (yL hi)];rfl
    have e2:w[i]? =some (w.getD i 0):=by rw[Zp,J0 hi];rfl
    have m1:=Jf _ (Ee hy RG Lu e1 (RH _ (Zs e1)) (.inr rfl))
    have m2:=Jf _ (Ee hy RG Lu e2 (RH _ (Zs e2)) (.inl rfl))
    refine ⟨_,rfl,_,rfl,_,rfl,w,j,i,by rw[Qaw];rfl,Tn,hi,by omega,fun t t1 t2 H5 ht Jd Qb s5=>?_⟩
    have Yf:=s5 _ _ RI
    have VH:=s5 _ _ (s4 _ _ hd2)
    refine ⟨_,rfl, .inl ⟨rfl,_,bD.of Yf⟩,_,rfl,_,rfl,?_⟩
    refine ⟨_,rfl,_,rfl,t,_,0,_,rfl,rfl,cR.of ht,rfl,d,_,rfl,by rw[<-m1];exact oN.t VH Jd,?_⟩
    refine ⟨_,rfl,_,rfl,t,_,1,_,rfl,rfl,cR.of ht,rfl,d,_,rfl,by rw[<-m2];exact oN.t VH Qb,?_⟩
    rw[Qaw]
    refine ⟨by show 4<=sizeLine;decide,fun tq Yg=>?_⟩
    have s6:=s5.trans (ar.upd (o:= .tup [.int j, .int i, .int ((n0 y os).idxOf (j,xh w.length i,aC (w.getD (xh w.length i) 0)):Nat), .int ((n0 y os).idxOf (j,i,w.getD i 0):Nat)]) Yg)
    have NH:=s6 _ _ RI
    refine ⟨p2,_,_,rfl,rfl,NH,by rw[Ak];omega,?_⟩
    refine ⟨us++[⟨tq,jS (n0 y os) j w i⟩],_,_,rfl,by rw[ah];exact congrArg (fun x=>some (HO.lst x)) (Eg us ⟨tq,jS (n0 y os) j w i⟩),fun x hx=>?_,by rw[Zn,Cb,wo,Qab];rfl,by rw[L5];show us.length+1<=_;omega,fun a o ea=>by rw[aD (aB ea n2)];exact s6 _ _ (s4 a o ea)⟩
    rcases Zx.mp hx with g | g
    ·exact (Ci x g).ts ((fL.of s6).trans (fL.vy NH))
    ·have e3:=Wg.mp g
     subst e3
     exact (fL.vy NH) _ _ ah
   ·rintro σ H4 ⟨us,Yc,Ye,rfl,RI,Ci,Cb,Cr,s4⟩
    exact ⟨us,_,_,_,_,rfl,RI,Ci,by rw[Cb,ua Lu],by omega,s4⟩
  ·rintro σ H3 ⟨qs,cv,wv,iv,av,rfl,uS,Qi,Jg,T4,s3⟩
   rw[fq]at Jg
   exact ⟨_,rfl,q p2 qs H3 Ya uS Qi Jg (uU.trans s3)⟩
theorem HU:bB P w K mg base d_ 8 Ms M_ ["yard","words"] (Az K):=by
 have qc:=si (P:=P) (w:=w) (base:=base) T
 have uF:=wY (P:=P) (w:=w) (base:=base) T
 have uL:=qJ (P:=P) (w:=w) (base:=base) T
 have AH:=Ff (P:=P) (w:=w) (base:=base) T
 refine T.Q3.fn.ok ux (fun vs H Q E h=>EH h) (fun cA A outer s H vs Q E hr h=>?_)
 refine ⟨_,(ag (aq (i:=2) ux.nd rfl (Or.inr rfl) (GV K rfl rfl rfl T.z_max (aa (cS ["word"] [none] (ju K rfl (pv 1)) trivial (fun _ _ _ _=>(aG (i:=0) (by decide+kernel:List.Nodup (["word"]:List Str)) rfl (Or.inl rfl))) (fun _ _ _ _=>dP) (fun _ _ _ _=>(aE aM rfl T.z_len YV (aa (pv 0) ae)))) ae)))
   (ag (aq (i:=3) ux.nd rfl (Or.inr rfl) (cS ["word","yard","longest"] [none,some 0,some 2] (ju K rfl (pv 1)) ⟨⟨rfl,rfl,by first | exact .inl rfl | exact .inr rfl⟩,⟨⟨rfl,rfl,by first | exact .inl rfl | exact .inr rfl⟩,trivial⟩⟩ (fun _ _ _ _=>(aG (i:=0) (by decide+kernel:List.Nodup (["word","yard","longest"]:List Str)) rfl (Or.inl rfl))) (fun _ _ _ _=>dP) (fun _ _ _ _=>(bS (aa (nK T.Jb AH (hr.mono (by decide)) rfl T.Ja T.Jc .nil aA (aa (pv 1) (aa (pv 0) (aa (pv 2) ae)))) (aa (nK T.Jb AH (hr.mono (by decide)) rfl T.Ja T.Jc .nil aA (aa (pv 1) (aa (ao qc (hr.mono (by decide)) rfl T.F1.mg T.F1.fn.kp T.F1.bd .nil aA (aa (pv 0) ae)) (aa (pv 2) ae)))) ae))))))
   (aj (aI (bS (aa (cV (gc K rfl) rfl T.z_tuple boot_tuple (aa (pv 1) ae)) (aa (cV (gc K rfl) rfl T.z_tuple boot_tuple (aa (cS ["band","words","ways"] [none,some 1,some 3] (oJ (ao uF (hr.mono (by decide)) rfl T.F2.mg T.F2.fn.kp T.F2.bd .nil aA (aa (pv 0) ae))) ⟨⟨rfl,rfl,by first | exact .inl rfl | exact .inr rfl⟩,⟨⟨rfl,rfl,by first | exact .inl rfl | exact .inr rfl⟩,trivial⟩⟩ (fun _ _ _ _=>(aG (i:=0) (by decide+kernel:List.Nodup (["band","words","ways"]:List Str)) rfl (Or.inl rfl))) (fun _ _ _ _=>dP) (fun _ _ _ _=>(ao uL (hr.mono (by decide)) rfl T.Q0.mg T.Q0.fn.kp T.Q0.bd .nil aA (aa (pv 1) (aa (pv 2) (aa (pv 0) ae)))))) ae)) ae))))))),?_⟩
 obtain ⟨y,wt,ws,rfl,hy,hz,uT,TJ,xl,q⟩:=h
 have hs:(100000:Nat)<sizeLine:=by decide
 have Rt: ∀c∈y,c<128:=IG hy.lt
 have X6:=jd hy
 obtain ⟨lg,Yh,Yi,Ry⟩:=yT fun w hw=>(xl w hw).2
 refine ⟨_,rfl,wt,rfl,⟨_,cR.of uT⟩,?_⟩
 refine kN (K:=K) (a:=wt) (xs:=tE ws) (fun i acc H'=>H'=H/\acc=(Hy (ws.take i)).map V.int) (by rw[fq];omega) (fun i acc H' h=>by rw[h.1];exact cR.of uT) ⟨rfl,rfl⟩ ?_ ?_
 ·rintro i x acc H1 Nx hi hx hl ⟨rfl,rfl⟩ nx
  rw[fq]at hi
  rw[oU hi]at hx
  cases hx
  have LB:=xl ws[i] (ZR hi)
  refine ⟨trivial,da ⟨_,rfl,ws[i],rfl,by omega,nx _ _ (by simpa using hl) ⟨rfl,?_⟩⟩⟩
  rw[<-take_snoc (J0 hi)]
  unfold Hy
  rw[Zn,Zn]
  rfl
 ·rintro acc H1 D hl ⟨rfl,rfl⟩ hD
  rw[fq,Qaq]
  refine ⟨D,Hy ws,rfl,bD.of ah,?_⟩
  rw[Yh]
  have sD:=ar.upd (o:= .lst ((Hy ws).map V.int)) hD
  refine ⟨_,rfl,wt,rfl,⟨_,cR.of (sD _ _ uT)⟩,?_⟩
  refine kN (K:=K) (a:=wt) (xs:=tE ws) (fun i acc H'=>ar H1 H'/\ ∃lO:List Wp,acc=FH lO/\lO.length=i/\ ∀(c:Nat) (w:List Nat) (p:Wp),ws[c]? =some w->lO[c]? =some p->ud H' a_ y lg w p) (by rw[fq];omega) (fun i acc H' h=>cR.of (h.1 _ _ uT)) ⟨sD,[],rfl,rfl,fun c w p _ h=>by simp at h⟩ ?_ ?_
  ·rintro i x acc H2 Nx hi hx xN ⟨s2,lO,rfl,xP,P_⟩ nx
   rw[fq]at hi
   rw[oU hi]at hx
   cases hx
   have LB:=xl ws[i] (ZR hi)
   have VI:ws[i]? =some ws[i]:=J0 hi
   have Qj:=Ry ws[i] (ZR hi)
   generalize ws[i]=w' at LB VI Qj ⊢
   have h8: ∀c∈w',c<128:=fun c hc=>(hy.lt c (LB.1.bW c hc)).lt
   refine ⟨⟨rfl,rfl,trivial⟩,da ?_⟩
   refine ⟨_,rfl,_,rfl,_,rfl,fun x1 VJ Yj T5 ne1=>⟨x1,VJ,y,w',lg,rfl,ah,hy,hz,LB.1,Qj,by omega,fun r H3 hr Tv Yk=>⟨rfl,?_⟩⟩⟩
   have Yl:=r_ Yj T5 Yk
   refine ⟨_,rfl,_,rfl,w',rfl,h8,by omega,fun H4 Ym=>⟨_,rfl,fun x2 VL Yn T6 ne2=>⟨x2,VL,y,gR w',lg,rfl,ah,hy,hz,LB.1.gR hy,by rw[cD];exact Qj,by omega,fun r2 H5 Pk TR Yo=>⟨rfl,?_⟩⟩⟩⟩
   have Yp:=r_ Yn T6 Yo
   refine ⟨by show 2<=sizeLine;decide,fun t nt=>?_⟩
   have VM:=ar.upd (o:= .tup [.ref x1, .ref x2]) nt
   have VN:=Ym.trans (Yp.trans VM)
   have all:=Yl.trans VN
   refine nx _ _ (by simpa using xN) ⟨s2.trans all,lO++[⟨t,x1,x2,r,r2⟩],EE lO ⟨t,x1,x2,r,r2⟩,by rw[L5,xP];rfl,HA xP (fun c w p a b=>(P_ c w p a b).same all) VI ⟨ah,⟨⟨VJ,VN _ _ Tv⟩,LB.1,Qj,by omega,hr⟩,⟨⟨VL,VM _ _ TR⟩,LB.1.gR hy,by rw[cD];exact Qj,by omega,Pk⟩⟩⟩
  ·rintro acc H2 D2 xN ⟨s2,lO,rfl,xP,P_⟩ Ro
   rw[fq]at xP
   have VO:=ar.upd (o:= .lst (FH lO)) Ro
   have uU:=s2.trans VO
   refine ⟨_,rfl,wt,_,rfl, .inr ⟨cR.of (uU _ _ uT),?_⟩⟩
   refine ⟨_,rfl,y,rfl,Rt,by omega,fun l' H3 zq Tu s3=>?_⟩
   have el:=Ah zq Tu
   subst el
   refine ⟨_,rfl,?_⟩
   have FQ:=uU.trans s3
   have Yq:=s3 _ _ (ah (H:=H2) (a:=D2) (o:=HO.lst (FH lO)))
   refine kK (xs:=bP (fS y)) (fun i acc H'=>ar H3 H'/\ ∃os:List Od,acc=Hm os/\(∀o∈os,BN H' o)/\os.length=i/\(∀(j:Nat) (o:Od) (b:Nat),os[j]? =some o->(fS y)[j]? =some b->(o.ps.map Pr.pair).Perm (dk b ws ws.length))/\ ∀o∈os,EG y ws (2*lg) (o.ps.map Pr.pair)) (by rw[aZ];omega) ⟨ar.refl _,[],rfl,fun _ h=>absurd h Zy,rfl,fun j o b h=>by simp at h,fun _ h=>absurd h Zy⟩ ?_ ?_
   ·rintro i x acc H4 Nx hi hx p7 ⟨s4,os,rfl,Pd,Bj,T7,T8⟩ nx
    obtain ⟨b,hb,rfl⟩:=gz hx
    have Yr:=wF hy (Zs hb)
    refine ⟨⟨rfl,rfl,trivial⟩,da ?_⟩
    refine ⟨_,rfl,_,rfl,_,rfl,y,lg,wt,D2,ws,lO,b,rfl,hy,hz,s4 _ _ (FQ _ _ uT),TJ,xl,Yr,s4 _ _ Yq,xP,fun c w p a1 a2=>(P_ c w p a1 a2).same (VO.trans (s3.trans s4)),fun t ps H5 nt ht AF uE NI s5=>?_⟩
    have Vi:ps.length<=100:=by
     have h1:=uE.length_eq
     have h2:=jl b (fun w hw=>(xl w hw).2) ws.length (Ur _)
     rw[Us]at h1
     omega
    refine nx _ _ (by simpa using p7) ⟨s4.trans s5,os++[⟨t,ps⟩],D_ os ⟨t,ps⟩,fun o ho=>?_,by rw[L5,Bj];rfl,fun j o b' ho IL=>?_,fun o ho=>?_⟩
    ·rcases Zx.mp ho with g | g
     ·exact (Pd o g).same s5
     ·rw[Wg.mp g]
      exact ⟨ht,AF,Vi⟩
    ·by_cases z:j<os.length
     ·rw[ZW z]at ho
      exact T7 j o b' ho IL
     ·rw[Qaf (by omega)]at ho
      have:j=i:=by
       have:=(J1.mp ho).1
       simp at this
       omega
      subst this
      rw[Bj,Nat.sub_self]at ho
      cases ho
      rw[hb]at IL
      cases IL
      exact uE
    ·rcases Zx.mp ho with g | g
     ·exact T8 o g
     ·rw[Wg.mp g]
      exact NI
   ·rintro acc H4 D3 p7 ⟨s4,os,rfl,Pd,Bj,T7,T8⟩ Ys
    rw[aZ]at Bj
    refine ⟨D3,_,rfl, .inl ⟨bD.of ah,fun t nt=>?_⟩⟩
    refine ⟨by show 2<=sizeLine;decide,fun dr T9=>?_⟩
    have sA:=(ar.upd (o:= .lst (Hm os)) Ys).trans ((ar.upd (o:= .tup (Hm os)) nt).trans (ar.upd (o:= .tup [.ref wt, .ref t]) T9))
    have Yt:t≠dr:=fun z=>by rw[<-z,ah]at T9;cases T9
    have RD:=FQ.trans s4
    exact q dr os _ ⟨⟨wt,t,ah,sA _ _ (RD _ _ uT),by rw[aD Yt,ah]⟩,fun o ho=>(Pd o ho).same sA⟩ ⟨2*lg,fun w hw v hv=>by have:=Ry w hw;have:=Ry v hv;omega,⟨Bj,T7⟩,T8⟩ (RD.trans sA)
theorem Fj:bB P w K mg base d_ 9 Mt Na ["yard","words"] (wH K):=by
 have mQ:=lJ (P:=P) (w:=w) (base:=base) T
 have Cd:=zi (P:=P) (w:=w) (base:=base) T
 have LC:=HU (P:=P) (w:=w) (base:=base) T
 refine T.Q5.fn.ok E9 (fun vs H Q E h=>B2 h) (fun cA A outer s H vs Q E hr h=>?_)
 refine ⟨_,(aj (aI (ao mQ (hr.mono (by decide)) rfl T.QR.mg T.QR.fn.kp T.QR.bd .nil aA (aa (ao Cd (hr.mono (by decide)) rfl T.F7.mg T.F7.fn.kp T.F7.bd .nil aA (aa (pv 0) (aa (ao LC (hr.mono (by decide)) rfl T.Q3.mg T.Q3.fn.kp T.Q3.bd .nil aA (aa (pv 0) (aa (pv 1) ae))) ae))) ae)))),?_⟩
 obtain ⟨y,wt,ws,rfl,hy,hz,hk,uT,q⟩:=h
 refine ⟨_,rfl,_,rfl,_,rfl,y,wt,ws,rfl,hy,hz,uT,hk.uN,hk.sw,fun dr os H1 QJ ht s1=>?_⟩
 obtain ⟨nd,e⟩:=BY hy (fun w hw=>(hk.sw w hw).1) ht
 obtain ⟨M,_,ok,_⟩:=id ht
 refine ⟨y,dr,ws,os,rfl,hy,hz,hk.ok,ok,QJ,fun p qs H2 np hp Qi Jg s2=>?_⟩
 have hl:=BZ (os:=os) hk
 have T4:qs.length<=24:=by rw[<-Jg,Us]at hl;omega
 refine ⟨p,qs,rfl,hp,Qi,T4,by rw[Jg];exact nd,fun H3 s3=>?_⟩
 rw[Jg]
 exact q _ H3 (s1.trans (s2.trans s3)) e
theorem LD:bB P w K mg base d_ 10 Mu Nb ["yard","word"] (ES K):=by
 have HV:=Fj (P:=P) (w:=w) (base:=base) T
 refine T.Q6.fn.ok Lo (fun vs H Q E h=>len_own h) (fun cA A outer s H vs Q E hr h=>?_)
 refine ⟨_,(aj (aI (ao HV (hr.mono (by decide)) rfl T.Q5.mg T.Q5.fn.kp T.Q5.bd .nil aA (aa (pv 0) (aa (bS (aa (pv 1) ae)) ae))))),?_⟩
 obtain ⟨y,w',rfl,hy,hz,hw,lQ,q⟩:=h
 refine ⟨_,rfl,_,rfl,by show 1<=sizeLine;decide,fun t nt=>?_⟩
 refine ⟨y,t,[w'],rfl,hy,hz,HD hw lQ,ah,fun n H1 s1 e=>?_⟩
 exact q n H1 ((ar.upd nt).trans s1) (e.trans (ER y w'))
theorem qf:bB P w K mg base d_ 11 Mv Nd ["yard","word"] (pF K):=by
 have ky:=m6 (P:=P) (w:=w) (base:=base) T
 have Ql:=LD (P:=P) (w:=w) (base:=base) T
 refine T.Lk.fn.ok pX (fun vs H Q E h=>wM h) (fun cA A outer s H vs Q E hr h=>?_)
 refine ⟨_,(ag (aq (i:=2) pX.nd rfl (Or.inl rfl) (ao ky (hr.mono (by decide)) rfl T.Lh.mg T.Lh.fn.kp T.Lh.bd .nil aA (aa (pv 1) ae)))
   (aj (aI (xp (du oK (pv 2) (gv [] (by decide+kernel)) (aN _)) (xo (du hZ (ao Ql (hr.mono (by decide)) rfl T.Q6.mg T.Q6.fn.kp T.Q6.bd .nil aA (aa (pv 0) (aa (pv 2) ae))) ai (aN _))))))),?_⟩
 obtain ⟨y,w',c,rfl,hy,hz,hc,q⟩:=h
 have hs:(100000:Nat)<sizeLine:=by decide
 have uN:=hc.uN
 refine ⟨_,rfl,w',rfl,hc.lt,by omega,fun H1 s1=>?_⟩
 rw[hc.is]
 refine ⟨_,rfl,_,_,rfl,rfl,_,rfl,?_⟩
 rcases hc.sw with e | Ck
 ·refine j9 (by rw[decide_eq_true e];rfl) ?_
  have:=q H1 s1 (fun z=>absurd e z.ne)
  unfold EY at this
  rw[decide_eq_true e]at this
  exact this
 ·have hn:=Ck.ne
  refine oS (by rw[decide_eq_false (show ¬c=[] from hn)];rfl) ?_
  refine ⟨_,rfl,_,rfl,y,c,rfl,hy,hz,Ck,hc.len,fun n H2 s2 e=>?_⟩
  refine ⟨_,_,rfl,rfl,?_⟩
  have ed:decide ((n:Int)=0)=EY y c:=by
   unfold EY Tj
   rw[decide_eq_false (show ¬c=[] from hn)]
   exact decide_eq_decide.mpr ⟨fun z=>by omega,fun z=>by omega⟩
  show Q (.bl (decide ((n:Int)=0))) H2
  rw[ed]
  exact q H2 (s1.trans s2) (fun _=>⟨n,e⟩)
theorem Ce:bB P w K mg base d_ 12 MR NC ["_law_yard_here","_law_word_here"] (sg K):=by
 have mR:=qf (P:=P) (w:=w) (base:=base) T
 have Cf:=ze (P:=P) (w:=w) (base:=base) T
 refine T.Rk.fn.ok sh (fun vs H Q E h=>yW h) (fun cA A outer s H vs Q E hr h=>?_)
 refine ⟨_,(ag (aq (i:=2) sh.nd rfl (Or.inl rfl) (ao mR (hr.mono (by decide)) rfl T.Lk.mg T.Lk.fn.kp T.Lk.bd .nil aA (aa (pv 0) (aa (pv 1) ae))))
   (aj (aI (xp (aE vE rfl T.z_isinstance boot_isinstance (aa (pv 2) (aa (FW (v:= .ty "bool") rfl T.z_bool boot_bool rfl) ae))) (xo (du Kc (pv 2) (ao Cf (hr.mono (by decide)) rfl T.Rj.mg T.Rj.fn.kp T.Rj.bd .nil aA (aa (pv 0) (aa (pv 1) ae))) (aN _))))))),?_⟩
 obtain ⟨y,w',c,rfl,hy,hz,hc,q⟩:=h
 refine ⟨_,rfl,_,rfl,y,w',c,rfl,hy,hz,hc,fun H1 s1 ev=>?_⟩
 refine ⟨_,rfl,EY y c,rfl,_,rfl,oS rfl ?_⟩
 refine ⟨_,rfl,_,rfl,_,rfl,y,w',c,rfl,hy,hz,hc,ev,fun H2 s2=>?_⟩
 refine ⟨_,_,rfl,rfl,?_⟩
 have:=q H2 (s1.trans s2)
 rw[show true=decide (EY y c=EY y c) from (decide_eq_true rfl).symm]at this
 exact this
theorem LF:bB P w K mg base d_ 13 MS ND ["_law_script"] (lU K):=by
 have Fl:=HP (P:=P) (w:=w) (base:=base) T
 have HW:=Fg (P:=P) (w:=w) (base:=base) T
 have lI:=so (P:=P) (w:=w) (base:=base) T
 have HX:=Fd (P:=P) (w:=w) (base:=base) T
 have HY:=Fe (P:=P) (w:=w) (base:=base) T
 have bA:=gq (P:=P) (w:=w) (base:=base) T
 have zj:=wX (P:=P) (w:=w) (base:=base) T
 have HZ:=Fh (P:=P) (w:=w) (base:=base) T
 have mR:=qf (P:=P) (w:=w) (base:=base) T
 have Fm:=Ce (P:=P) (w:=w) (base:=base) T
 refine T.Xl.fn.ok dE (fun vs H Q E h=>G0 h) (fun cA A outer s H vs Q E hr h=>?_)
 refine ⟨_,(ag (aq (i:=1) dE.nd rfl (Or.inl rfl) (cY ae))
   (ag (cE PassesOwn.never rfl (dq rfl T.z_range (aa ai ae)) (aG (i:=2) dE.nd rfl (Or.inl rfl)) (ag (aq (i:=3) dE.nd rfl (Or.inl rfl) (ao Fl (hr.mono (by decide)) rfl T.Ll.mg T.Ll.fn.kp T.Ll.bd .nil aA (aa (pv 0) (aa (pv 2) ae))))
   (ag (aq (i:=4) dE.nd rfl (Or.inl rfl) (ao HW (hr.mono (by decide)) rfl T.Q7.mg T.Q7.fn.kp T.Q7.bd .nil aA (aa (pv 3) (aa ai (aa ai ae)))))
   (ag (aq (i:=5) dE.nd rfl (Or.inl rfl) (aP (bu K rfl) (cY (aa ai (aa ai ae))) (pv 2) (fun _ _=>rfl)))
   (ag (aq (i:=6) dE.nd rfl (Or.inl rfl) (ao lI (hr.mono (by decide)) rfl T.FN.mg T.FN.fn.kp T.FN.bd .nil aA (aa (pv 3) (aa (pv 4) (aa (pv 5) ae)))))
   (ag (aq (i:=7) dE.nd rfl (Or.inl rfl) (cY (aa (ao HX (hr.mono (by decide)) rfl T.Q_.mg T.Q_.fn.kp T.Q_.bd .nil aA (aa (pv 3) (aa (pv 4) (aa (pv 5) ae)))) (aa (pv 6) (aa (ao HY (hr.mono (by decide)) rfl T.Ra.mg T.Ra.fn.kp T.Ra.bd .nil aA (aa (pv 3) (aa (pv 4) (aa (pv 6) (aa (pv 5) ae))))) ae)))))
   (ag (c_ (bE K rfl ZA Z3 Z2 dv (pv 7) (aa (ao lI (hr.mono (by decide)) rfl T.FN.mg T.FN.fn.kp T.FN.bd .nil aA (aa (pv 3) (aa (pv 4) (aa ai ae)))) ae)))
   (ag (aq (i:=8) dE.nd rfl (Or.inl rfl) (ao bA (hr.mono (by decide)) rfl T.dZ.mg T.dZ.fn.kp T.dZ.bd .nil aA (aa (pv 3) (aa (aE aM rfl T.z_len YV (aa (pv 4) ae)) ae))))
   (ag (aq (i:=9) dE.nd rfl (Or.inl rfl) (cY (aa (pv 4) (aa (az bX (aX fz (pv 4) (aY (pv 8)) bH) (aX fz (pv 4) bH (aY (pv 8)))) (aa (yh rfl (gv [] (by decide+kernel)) rfl T.z_reversed (aa (pv 4) ae)) (aa (az bX (az bX (aP eN (pv 4) ai (fun _ _=>rfl)) (aP eN (pv 4) ai (fun _ _=>rfl))) (aX fz (pv 4) (aY ai) bH)) ae))))))
   (ag (cE PassesOwn.never rfl (fA K rfl (pv 7)) (aG (i:=10) dE.nd rfl (Or.inl rfl)) (aj (c_ (bE K rfl ZA Z3 Z2 dv (pv 1) (aa (bS (aa (pv 4) (aa (pv 10) ae))) ae)))))
   (ag (c_ (bE K rfl ZA Z3 Z2 dv (pv 1) (aa (bS (aa (aP (bu K rfl) (pv 9) (az aW ai (ao bA (hr.mono (by decide)) rfl T.dZ.mg T.dZ.fn.kp T.dZ.bd .nil aA (aa (pv 3) (aa ai ae)))) (fun _ _=>rfl)) (aa (pv 6) ae))) ae)))
   (aj (c_ (bE K rfl ZA Z3 Z2 dv (pv 1) (aa (bS (aa (aP (bu K rfl) (pv 9) ai (fun _ _=>rfl)) (aa (aP (bu K rfl) (pv 7) ai (fun _ _=>rfl)) ae))) ae)))))))))))))))
   (ag (aq (i:=3) dE.nd rfl (Or.inl rfl) (ao Fl (hr.mono (by decide)) rfl T.Ll.mg T.Ll.fn.kp T.Ll.bd .nil aA (aa (pv 0) (aa ai ae))))
   (ag (iR (ao zj (hr.mono (by decide)) rfl T.Q8.mg T.Q8.fn.kp T.Q8.bd .nil aA (aa (pv 3) (aa ai (aa ai ae)))) (fj (n:=3) K rfl rfl (bf (aG (i:=4) dE.nd rfl (Or.inl rfl)) (bf (aG (i:=11) dE.nd rfl (Or.inl rfl)) (bf (aG (i:=12) dE.nd rfl (Or.inl rfl)) eA)))))
   (ag (aq (i:=6) dE.nd rfl (Or.inl rfl) (ao HZ (hr.mono (by decide)) rfl T.Q9.mg T.Q9.fn.kp T.Q9.bd .nil aA (aa (pv 3) (aa (pv 11) (aa (pv 12) (aa ai ae))))))
   (ag (c_ (bE K rfl ZA PySem.F.slot_list_extend PySem.F.type_list_extend A6 (pv 1) (aa (cY (aa (bS (aa (pv 4) (aa (pv 6) ae))) (aa (bS (aa (pv 4) (aa (az bX (aX fz (pv 6) (aY ai) bH) (aP eN (pv 6) ai (fun _ _=>rfl))) ae))) ae))) ae)))
   (ag (b7 (aL GD (ao mR (hr.mono (by decide)) rfl T.Lk.mg T.Lk.fn.kp T.Lk.bd .nil aA (aa (aP (bJ K rfl) (aP (bu K rfl) (pv 1) ai (fun _ _=>rfl)) ai (fun _ _=>rfl)) (aa (gv [] (by decide+kernel)) ae))) zt (aN _)) (aj (aI zt)) bG)
   (aj (aI (aE (Bb K rfl rfl) rfl T.z_all boot_all (aa (cS ["_law_yard_here","_law_word_here"] [none,none] (fA K rfl (az CJ (pv 1) (aX (vh K rfl) (pv 1) bH (aY ai)))) trivial (fun _ _ _ _=>(fj (n:=2) K rfl rfl (bf (aG (i:=0) (by decide+kernel:List.Nodup (["_law_yard_here","_law_word_here"]:List Str)) rfl (Or.inl rfl)) (bf (aG (i:=1) (by decide+kernel:List.Nodup (["_law_yard_here","_law_word_here"]:List Str)) rfl (Or.inl rfl)) eA)))) (fun _ _ _ _=>dP) (fun _ _ _ _=>(ao Fm (hr.mono (by decide)) rfl T.Rk.mg T.Rk.fn.kp T.Rk.bd .nil aA (aa (pv 0) (aa (pv 1) ae))))) ae))))))))))),?_⟩
 obtain ⟨a,ns,rfl,hS,hl,q⟩:=h
 have hs:(100000:Nat)<sizeLine:=by decide
 refine ⟨by show 0<=sizeLine;decide,fun L nL=>?_⟩
 have a0:fO (upd H L (.lst [])) L []:=⟨ah,fun p hp=>absurd hp Zy⟩
 have s0:=ar.upd (o:= .lst []) nL
 generalize upd H L (.lst [])=H1 at a0 s0 ⊢
 refine ⟨_,rfl,by decide,by decide,?_⟩
 refine fT (n:=2) (fun i σ H'=> ∃(ps:List Addr) (v2 v3 v4 v5 v6 v7 v8 v9 v10 v11 RJ:Option V),σ=[some (.ref a),some (.ref L),v2,v3,v4,v5,v6,v7,v8,v9,v10,v11,RJ]/\ar H H'/\fO H' L ps/\ps.length<=6*i/\(0<i->ps≠[])) ⟨[],none,none,none,none,none,none,none,none,none,none,none,rfl,s0,a0,Ur _,fun z=>absurd z (ZS 0)⟩ ?_ ?_
 ·rintro i σ H2 hi ⟨ps,v2,v3,v4,v5,v6,v7,v8,v9,v10,v11,RJ,rfl,s2,a2,pl,pn⟩
  refine ⟨_,rfl,_,rfl,a,ns,i,by rw[Qaw];rfl,s2.seq hS,by omega,fun b H3 nb bx s3=>?_⟩
  have Lb:L≠b:=fun z=>by rw[<-z,a2.ls]at nb;cases nb
  have a3:=a2.same s3
  have FQ:=s2.trans s3
  refine ⟨_,rfl,b,1,4,rfl,bx,by decide,by decide,by decide,fun y H4 hy NJ Rx Qm s4=>?_⟩
  have a4:=a3.sb s4 bx Lb
  have y2:2<=y.length:=by omega
  have y8:y.length<=8:=by omega
  refine ⟨by show 2<=sizeLine;decide,fun t nt=>?_⟩
  have bt:b≠t:=Ne.symm (Qm.ne nt)
  have Qn:=Qm.dY (o:= .lst [.int 12, .int 7]) (Ne.symm bt)
  have s5:=s4.dY (o:= .lst [.int 12, .int 7]) (s4.none nt (Ne.symm bt))
  have a5:=a4.same (ar.upd (o:= .lst [.int 12, .int 7]) nt)
  have ht:upd H4 t (.lst [.int 12, .int 7]) t=some (.lst [.int 12, .int 7]):=ah
  obtain ⟨top,etop,Zi,Zj⟩: ∃top:Nat,iD [V.int 12,V.int 7] (0+(i:Int))=some (.int top)/\4<=top/\top<=12:=by
   rcases i with _ | _ | i
   ·exact ⟨12,rfl,by decide,by decide⟩
   ·exact ⟨7,rfl,by decide,by decide⟩
   ·omega
  refine ⟨_,rfl,t,_,_,_,rfl,rfl,bD.of ht,etop,?_⟩
  generalize upd H4 t (.lst [.int 12, .int 7])=H5 at Qn s5 a5 ⊢
  refine ⟨_,rfl,_,rfl,_,rfl,b,y,top,rfl,Qn,hy,y2,y8,by omega,by omega,fun w0 H6 sw wl VP s6=>?_⟩
  refine ⟨_,rfl,_,rfl,_,rfl,b,y,top,rfl,VP,fun z=>by rw[z]at y2;simp at y2,by omega,by omega,fun u H7 hu ul VQ s7=>?_⟩
  refine ⟨_,rfl,_,rfl,_,rfl,_,rfl,_,rfl,b,y,w0,top,rfl,VQ,hy,y2,y8,by omega,by omega,sw,wl,fun v H8 sv vl VR s8=>?_⟩
  refine ⟨by show 3<=sizeLine;decide,fun W nW=>?_⟩
  have Wb:W≠b:=VR.ne nW
  have c8:=s5.trans (s6.trans (s7.trans s8))
  have a8:=a5.sb (s6.trans (s7.trans s8)) Qn Lb
  have LW:L≠W:=fun z=>by rw[<-z,a8.ls]at nW;cases nW
  have W3:=c8.none nW Wb
  have RK:=VR.dY (o:= .lst [.str (S u), .str (S w0), .str (S v)]) Wb
  have a9:=a8.same (ar.upd (o:= .lst [.str (S u), .str (S w0), .str (S v)]) nW)
  have c9:=c8.dY (o:= .lst [.str (S u), .str (S w0), .str (S v)]) W3
  have hW:upd H8 W (.lst [.str (S u), .str (S w0), .str (S v)]) W=some (.lst [.str (S u), .str (S w0), .str (S v)]):=ah
  generalize upd H8 W (.lst [.str (S u), .str (S w0), .str (S v)])=H9 at RK a9 c9 hW ⊢
  clear s4 s5 s6 s7 s8 a3 a4 a5 Qm Qn VP VQ c8 a8 nW ht
  refine ⟨_,rfl, .inl ⟨rfl,_,bD.of hW⟩,_,rfl,_,rfl,b,y,4,rfl,RK,hy,y2,y8,by decide,by decide,fun w4 LG T_ Zk Qo NL=>?_⟩
  have LH:=NL _ _ hW Wb
  have a10:=a9.sb NL RK Lb
  refine ⟨W,_,_,rfl,rfl,LH,by show 3<sizeLine;decide,?_⟩
  have H_:=Qo.dY (o:= .lst ([.str (S u), .str (S w0), .str (S v)]++[.str (S w4)])) Wb
  have c11:=(c9.trans NL).dY (o:= .lst ([.str (S u), .str (S w0), .str (S v)]++[.str (S w4)])) W3
  have a11:fO (upd LG W (.lst ([.str (S u), .str (S w0), .str (S v)]++[.str (S w4)]))) L ps:=⟨by rw[aD LW];exact a10.ls,fun p hp=>(a10.ak p hp).vy LH⟩
  have LI:upd LG W (.lst ([.str (S u), .str (S w0), .str (S v)]++[.str (S w4)])) W=some (.lst [.str (S u), .str (S w0), .str (S v), .str (S w4)]):=ah
  generalize upd LG W (.lst ([.str (S u), .str (S w0), .str (S v)]++[.str (S w4)]))=VS at H_ c11 a11 LI ⊢
  clear RK a9 c9 hW LH a10 NL Qo
  refine ⟨_,rfl,_,rfl,y,rfl,by omega,b,_,rfl,H_,by omega,by omega,fun xm RL Rn LJ Jh=>?_⟩
  have hl:(cut y (some (xm:Int)) none).length+(cut y none (some (xm:Int))).length<=sizeLine:=by rw[cg,bU,Zz,Zo];omega
  refine ⟨_,rfl,?_⟩
  refine ⟨_,rfl,_,rfl,_,rfl,y,rfl,by omega,_,rfl,_,rfl,_,rfl,y,rfl,by omega,_,_,rfl,rfl,hl,?_⟩
  rw[cg,bU]
  obtain ⟨p0,q0,yr,ey⟩: ∃p q r,y=p::q::r:=by
   rcases y with _ | ⟨p,_ | ⟨q,r⟩⟩
   ·simp at y2
   ·simp at y2
   ·exact ⟨p,q,r,rfl⟩
  have e0:iD y 0=some p0:=by rw[ey];exact (bN rfl:iD (p0::q0::yr) ((0:Nat):Int)=some p0)
  have e1:iD y 1=some q0:=by rw[ey];exact (bN rfl:iD (p0::q0::yr) ((1:Nat):Int)=some q0)
  have e2:cut y (some 2) none=yr:=by rw[ey];exact bU (p0::q0::yr) 2
  have yz:yr.length+2=y.length:=by rw[ey];rfl
  refine ⟨_,rfl,y,rfl,by omega,by omega,?_⟩
  refine ⟨_,rfl,y,_,_,rfl,rfl,by omega,e1,_,rfl,y,_,_,rfl,rfl,by omega,e0,_,_,rfl,rfl,by show 1+1<=sizeLine;decide,_,rfl,_,rfl,y,rfl,by omega,_,_,rfl,rfl,by rw[e2];show 2+yr.length<=sizeLine;omega,?_⟩
  rw[e2]
  refine ⟨by show 4<=sizeLine;decide,fun Y nY=>?_⟩
  have Yb:Y≠b:=LJ.ne nY
  have a12:=a11.sb Jh H_ Lb
  have LY:L≠Y:=fun z=>by rw[<-z,a12.ls]at nY;cases nY
  have VT:H b=none:=ar.free s2 nb
  have st:I_ H (upd RL Y (.lst [.str (S y), .str (S (y.drop xm++y.take xm)), .str (S y.reverse), .str (S ([q0]++[p0]++yr))])) L b W Y [.str (S u), .str (S w0), .str (S v), .str (S w4)] [.str (S y), .str (S (y.drop xm++y.take xm)), .str (S y.reverse), .str (S ([q0]++[p0]++yr))] ps:=
   ⟨(aV.same VT FQ (c11.trans Jh)).trans (ar.upd nY),a12.same (ar.upd nY),LJ.same (ar.upd nY),ar.upd nY _ _ (Jh _ _ LI Wb),ah⟩
  generalize upd RL Y (.lst [.str (S y), .str (S (y.drop xm++y.take xm)), .str (S y.reverse), .str (S ([q0]++[p0]++yr))])=Yu at st ⊢
  clear a12 a11 c11 Jh H_ LJ LI hl
  have Yv:=kg hy sw (by omega)
  have Yw:=kg hy T_ (by omega)
  have Yx: ∀(i:Nat) (x:V),[V.str (S u), .str (S w0), .str (S v), .str (S w4)][i]? =some x-> ∃wd c,x= .str (S wd)/\HG y wd c:=fun i x e=>by
   rcases i with _ | _ | _ | _ | i
   ·exact ⟨u,_,(YS e).symm,HJ hy hu (by omega)⟩
   ·exact ⟨w0,_,(YS e).symm,Yv⟩
   ·exact ⟨v,_,(YS e).symm,kg hy sv (by omega)⟩
   ·exact ⟨w4,_,(YS e).symm,Yw⟩
   ·simp at e
  refine ⟨_,rfl,W,rfl,⟨_,bD.of st.hW⟩,?_⟩
  refine gT (K:=K) (a:=W) (xs:=[.str (S u), .str (S w0), .str (S v), .str (S w4)]) (fun n σ H'=> ∃(qs:List Addr) (v10:Option V),σ=[some (.ref a),some (.ref L),some (.int (0+(i:Int))),some (.ref b),some (.str (S y)),some (.int top),some (.str (S w0)),some (.ref W),some (.int xm),some (.ref Y),v10,v11,RJ]/\qs.length=n/\I_ H H' L b W Y [.str (S u), .str (S w0), .str (S v), .str (S w4)] [.str (S y), .str (S (y.drop xm++y.take xm)), .str (S y.reverse), .str (S ([q0]++[p0]++yr))] (ps++qs)) ⟨[],_,rfl,rfl,by rw[Z7];exact st⟩ (fun n σ H' _ h=>by obtain ⟨_,_,_,_,h⟩:=h;exact bD.of h.hW) ?_ ?_
  ·rintro n x σ Yy hx ⟨qs,v10,rfl,rfl,st⟩
   obtain ⟨wd,c,rfl,hc⟩:=Yx _ _ hx
   have hn:qs.length<4:=(J1.mp hx).1
   refine ⟨_,rfl, .inl ⟨rfl,_,bD.of st.ak.ls⟩,_,rfl,_,rfl,by show 2<=sizeLine;decide,fun t nt=>?_⟩
   refine ⟨L,_,_,rfl,rfl,ar.upd nt _ _ st.ak.ls,by rw[Us,L5];omega,?_⟩
   refine ⟨qs++[t],_,rfl,by simp,?_⟩
   rw[<-Qab]
   exact st.add nL nt Lb LW LY hy y8 hc
  rintro σ Yy ⟨qs,v10,rfl,hq,st⟩
  have hq:qs.length=4:=hq
  refine ⟨_,rfl, .inl ⟨rfl,_,bD.of st.ak.ls⟩,_,rfl,_,rfl,b,3,rfl,st.bx,by decide,by decide,fun r Yz PR Ua YA=>?_⟩
  replace st:=st.sb YA Ua VT Lb Wb Yb
  obtain ⟨yv,YB,VU,YC,YD⟩: ∃yv:List Nat,iD [V.str (S y), .str (S (y.drop xm++y.take xm)), .str (S y.reverse), .str (S ([q0]++[p0]++yr))] (1+(r:Int))=some (.str (S yv))/\Yd yv/\yv.length<=8/\SW yv w0:=by
   rcases r with _ | _ | _ | r
   ·refine ⟨_,rfl,Lg hy xm,by rw[L5,Zz,Zo];omega,sw.same ?_⟩
    have:=Qa4 (l₁:=y.take xm) (l₂:=y.drop xm)
    rw[ZL]at this
    exact this
   ·exact ⟨_,rfl,hy.same (Qdo y).symm,by rw[ZF];omega,sw.same (Qdo y).symm⟩
   ·refine ⟨_,rfl,AE (by rw[<-ey];exact hy),by show yr.length+1+1<=8;omega,?_⟩
    rw[ey]at sw
    exact sw.same (List.Perm.swap q0 p0 yr)
   ·omega
  refine ⟨_,_,rfl,rfl,Y,_,_,_,rfl,rfl,bD.of st.hY,YB,_,rfl,by show 2<=sizeLine;decide,fun t2 Lp=>?_⟩
  refine ⟨L,_,_,rfl,rfl,ar.upd Lp _ _ st.ak.ls,by rw[Us,L5];omega,?_⟩
  replace st:=st.add nL Lp Lb LW LY VU YC (kg VU YD (by omega))
  generalize upd (upd Yz t2 (.tup [.str (S yv), .str (S w0)])) L (.lst ((ps++qs).map V.ref++[.ref t2]))=Zl at st ⊢
  refine ⟨_,rfl, .inl ⟨rfl,_,bD.of st.ak.ls⟩,_,rfl,Y,_,_,_,rfl,rfl,bD.of st.hY,rfl,_,rfl,W,_,_,_,rfl,rfl,bD.of st.hW,rfl,by show 2<=sizeLine;decide,fun t3 Rp=>?_⟩
  refine ⟨L,_,_,rfl,rfl,ar.upd Rp _ _ st.ak.ls,by rw[Us,L5,L5];show _+1<_;omega,?_⟩
  have VV:Yd ([q0]++[p0]++yr):=AE (by rw[<-ey];exact hy)
  have YE:SW ([q0]++[p0]++yr) w4:=by
   rw[ey]at T_
   exact T_.same (List.Perm.swap q0 p0 yr)
  replace st:=st.add nL Rp Lb LW LY VV (by show yr.length+1+1<=8;omega) (kg VV YE (by omega))
  refine ⟨_,_,_,_,_,_,_,_,_,_,_,_,rfl,st.sm,st.ak,?_,fun _=>by simp⟩
  rw[L5,L5,L5,hq]
  show ps.length+4+1+1<=_
  omega
 ·rintro σ H2 ⟨ps,v2,v3,v4,v5,v6,v7,v8,v9,v10,v11,RJ,rfl,s2,a2,pl,pn⟩
  refine ⟨_,rfl,a,ns,2,rfl,s2.seq hS,by decide,fun b H3 nb bx s3=>?_⟩
  have Lb:L≠b:=fun z=>by rw[<-z,a2.ls]at nb;cases nb
  have a3:=a2.same s3
  refine ⟨_,rfl,b,rfl,bx,fun t z x y H4 hz z4 z8 xz yz x1 y1 xy ht tb Qm s4=>?_⟩
  refine ⟨t,_,rfl,cR.of ht,rfl,_,_,rfl,_,_,rfl,_,_,rfl,rfl,?_⟩
  refine ⟨_,rfl,_,rfl,_,rfl,b,z,x,y,rfl,Qm,hz,xz,yz,x1,y1,xy,fun w' H5 sw wl Qn s5=>?_⟩
  have a5:=a3.sb (s4.trans s5) bx Lb
  obtain ⟨c0,wr,ew⟩: ∃c r,w'=c::r:=by
   rcases w' with _ | ⟨c,r⟩
   ·exact absurd rfl sw.ne
   ·exact ⟨c,r,rfl⟩
  have e0:iD w' 0=some c0:=by rw[ew];exact (bN rfl:iD (c0::wr) ((0:Nat):Int)=some c0)
  have e1:cut w' (some 1) none=wr:=by rw[ew];exact bU (c0::wr) 1
  have wz:wr.length+1=w'.length:=by rw[ew];rfl
  have YF:SW z (wr++[c0]):=by
   have:=sw.gs (n:=1) (by omega)
   rw[ew]at this
   exact this
  refine ⟨_,rfl, .inl ⟨rfl,_,bD.of a5.ls⟩,_,rfl,_,rfl,by show 2<=sizeLine;decide,fun t1 n1=>?_⟩
  have u1:=ar.upd (o:= .tup [.str (S z), .str (S w')]) n1
  have k1:kh (upd H5 t1 (.tup [.str (S z), .str (S w')])) t1:=⟨z,w',_,ah,hz,z8,kg hz sw wl⟩
  generalize upd H5 t1 (.tup [.str (S z), .str (S w')])=H6 at u1 k1 ⊢
  refine ⟨_,rfl,_,rfl,_,rfl,w',rfl,by omega,_,rfl,w',_,_,rfl,rfl,by omega,e0,_,_,rfl,rfl,by rw[e1];show wr.length+1<=sizeLine;omega,?_⟩
  rw[e1]
  refine ⟨by show 2<=sizeLine;decide,fun t2 n2=>?_⟩
  have u2:=ar.upd (o:= .tup [.str (S z), .str (S (wr++[c0]))]) n2
  have k2:kh (upd H6 t2 (.tup [.str (S z), .str (S (wr++[c0]))])) t2:=⟨z,wr++[c0],_,ah,hz,z8,kg hz YF (by rw[L5];show wr.length+1<=12;omega)⟩
  generalize upd H6 t2 (.tup [.str (S z), .str (S (wr++[c0]))])=H7 at u2 k2 ⊢
  refine ⟨by show 2<=sizeLine;decide,fun M nM=>?_⟩
  have u3:=ar.upd (o:= .lst [.ref t1, .ref t2]) nM
  have hM:upd H7 M (.lst [.ref t1, .ref t2]) M=some (.lst [.ref t1, .ref t2]):=ah
  generalize upd H7 M (.lst [.ref t1, .ref t2])=H8 at u3 hM ⊢
  have a8:=((a5.same u1).same u2).same u3
  have k8: ∀q∈[t1,t2],kh H8 q:=fun q hq=>by
   rcases Wj.mp hq with e | e
   ·rw[e];exact (k1.same u2).same u3
   ·rw[Wg.mp e];exact k2.same u3
  refine ⟨L,M,_,_,rfl,rfl,a8.ls,hM,by rw[Us];show _+2<=_;omega,?_⟩
  have a9:=a8.app k8
  have dc:ps++[t1,t2]≠[]:=by simp
  have jI:(ps++[t1,t2]).length<=14:=by rw[L5];show _+2<=_;omega
  show Jx _ _ _ _ (upd H8 L (.lst (ps.map V.ref++[t1,t2].map V.ref)))
  generalize upd H8 L (.lst (ps.map V.ref++[t1,t2].map V.ref))=H9 at a9 ⊢
  generalize ps++[t1,t2]=rs at a9 dc jI ⊢
  clear a8 k8 k1 k2 a5 u1 u2 u3 hM
  obtain ⟨p0,rt,er⟩: ∃p r,rs=p::r:=by
   rcases rs with _ | ⟨p,r⟩
   ·exact absurd rfl dc
   ·exact ⟨p,r,rfl⟩
  obtain ⟨y0,w9,c9,ep,YG,YH,Zm⟩:=a9.ak p0 (by rw[er];exact Wi)
  have e9:iD (rs.map V.ref) 0=some (.ref p0):=by rw[er];exact (bN rfl:iD ((p0::rt).map V.ref) ((0:Nat):Int)=some (.ref p0))
  refine ⟨_,rfl,L,_,_,_,rfl,rfl,bD.of a9.ls,e9,p0,_,_,_,rfl,rfl,cR.of ep,rfl,?_⟩
  refine ⟨y0,[],[],rfl,YG,YH,⟨fun _ h=>absurd h Zy,YU _,rfl, .inl rfl,YU _⟩,fun LG NL _=>?_⟩
  refine ⟨_,_,rfl,rfl,_,rfl,j9 rfl ?_⟩
  have a10:=a9.same NL
  have ec:A2 (rs.map V.ref) none (some 2)=(rs.take 2).map V.ref:=by
   rw[List.map_take]
   exact cg (rs.map V.ref) 2
  refine ⟨_,rfl,_,rfl,_,rfl,L,_,rfl,bD.of a10.ls,fun p2 n2=>?_⟩
  rw[ec]
  have u2:=ar.upd (o:= .lst ((rs.take 2).map V.ref)) n2
  refine ⟨L,p2,_,_,rfl,rfl,u2 _ _ a10.ls,ah,by rw[Us,Us,Zo];omega,fun p3 n3=>?_⟩
  rw[<-Zn]
  have k3: ∀p∈rs++rs.take 2,kh (upd (upd LG p2 (.lst ((rs.take 2).map V.ref))) p3 (.lst ((rs++rs.take 2).map V.ref))) p:=fun p hp=>((a10.ak p ((Zx.mp hp).elim id Qa9)).same u2).same (ar.upd n3)
  have uS:upd (upd LG p2 (.lst ((rs.take 2).map V.ref))) p3 (.lst ((rs++rs.take 2).map V.ref)) p3=some (.lst ((rs++rs.take 2).map V.ref)):=ah
  have Cr:(rs++rs.take 2).length<=100:=by rw[L5,Zo];omega
  generalize upd (upd LG p2 (.lst ((rs.take 2).map V.ref))) p3 (.lst ((rs++rs.take 2).map V.ref))=VS at k3 uS ⊢
  generalize rs++rs.take 2=us at k3 uS Cr ⊢
  refine ⟨p3,rfl,⟨_,bD.of uS⟩,?_⟩
  refine q5 (K:=K) (a:=p3) (xs:=us.map V.ref) (fun i acc H'=>ar VS H'/\acc=(List.replicate i true).map V.bl) (by rw[Us];omega) (fun i acc H' h=>bD.of (h.1 _ _ uS)) ⟨ar.refl _,rfl⟩ ?_ ?_
  ·rintro i x acc RL Nx hi hx p7 ⟨Jh,rfl⟩ nx
   rw[Zv]at hx
   obtain ⟨k,Cj,rfl⟩:=Option.map_eq_some_iff.mp hx
   obtain ⟨y1,w1,c1,YI,NJ,YJ,Rl⟩:=(k3 k (Zs Cj)).same Jh
   refine ⟨k,_,rfl,cR.of YI,rfl,_,_,rfl,_,_,rfl,rfl,trivial,da ?_⟩
   refine ⟨_,rfl,_,rfl,y1,w1,c1,rfl,NJ,YJ,Rl,fun Yu YK=>?_⟩
   exact nx _ _ (by simpa using p7) ⟨Jh.trans YK,Ds _⟩
  ·rintro acc RL D4 p7 ⟨Jh,rfl⟩ PU
   refine ⟨D4,_,rfl,bD.of ah,?_⟩
   rw[G3]
   exact q _
end
theorem bR {M:List Value->Prop} (h:M []): ∀us:List Value,us.length=0->M us
 | [],_=>h
theorem aK {M:List Value->Prop} {n:Nat} (h: ∀(a:Value) (us:List Value),us.length=n->M (a::us)): ∀us:List Value,us.length=n+1->M us
 | a::us,e=>h a us (Nat.succ.inj e)
def Dn (K:PySem.W.Frag) (x:Str) (st:Stmt) (f:Addr) (fd:FuncData):Prop:=PySem.W.nsIn K mainGlobals x=some (some (.ref f))/\Gp K x x st f fd
theorem dn {K:PySem.W.Frag} {x:Str} {st:Stmt} {f:Addr} {oc:Value} {od an:Option Addr} {Fv:Array (Option Value)} {kV doc pm cA ct:Value} (a:PySem.W.nsIn K mainGlobals x=some (some (.ref f))) (l:K.lookup f=some ⟨oc,od, .func (PySem.W.fnOf x x (fQ st) (fg st) (au st) .none kV doc pm an cA ct),Fv⟩) (c:PySem.W.codeIn K cA x=true) (k:PySem.W.keepIn K (.ref f)=true):Dn K x st f (PySem.W.fnOf x x (fQ st) (fg st) (au st) .none kV doc pm an cA ct):=⟨a,xQ l c k⟩
theorem fI {K:PySem.W.Frag} {h:Heap} {mg:Str->Option Value} {x:Str} {st:Stmt} {f:Addr} {fd:FuncData} {ps:List Str} (X:K.In h) (G:h.Ns mainGlobals mg) (a:Dn K x st f fd) (b: ∀(kV doc pm:Value) (an:Option Addr) (cA ct:Value) (us:List Value),us.length=ps.length->bindArgs (PySem.W.fnOf x x (fQ st) (fg st) (au st) .none kV doc pm an cA ct) ⟨us,[]⟩=pure (ps.zip us)):bj K mg x st ps f fd:=⟨a.2,Qde X G a.1,a.2.binds b⟩
theorem all_mk {l:PySem.W.OpenLaw} {w:World} {K:PySem.W.Frag} {h:Heap} {mg:Str->Option Value} {fa f0 f1 f2 f3 f4 f5 f6 f7 f8 f9 Md Me Mf Mg Mh Mi Mj Ml E3 E4 Mm Mn Mo Mp Mq Mr Ms Mt Mu Mv Mw Mx Mz MA MB MC MD ME MF MG MH MI MJ MK ML MM MN MO MP MQ MR MS aU a_ jW gP:Addr} (X:K.In h) (G:h.Ns mainGlobals mg) (QM:mg "law"=some (.ref fa))
  {d0 d1 d2 d3 d4 d5 d6 d7 d8 d9 MT MU MV MW MX MY MZ M0 M1 M3 M4 M5 M6 M7 M8 M9 M_ Na Nb Nd Nf Ng Nh Ni Nj Nk Nl Nm Nn Np Nq Nr Nt Nu Nv Nw Ny Nz NA NB NC ND:FuncData}
  {LK LL Ia Ib:Option Addr} {LM Ic:Array (Option Value)} {LN LO LP LQ Fn LR Ie Ig Ih Ii AI Ij:Value}
  (a0:Dn K "contrary" ki f0 d0)
  (a1:Dn K "turned" pJ f1 d1)
  (a2:Dn K "bands" um f2 d2)
  (a3:Dn K "steps_round" gK f3 d3)
  (a4:Dn K "strands_at" il f4 d4)
  (a5:Dn K "points" pK f5 d5)
  (a6:Dn K "corner_points" fK f6 d6)
  (a7:Dn K "corners" mF f7 d7)
  (a8:Dn K "chord_starts" gk f8 d8)
  (a9:Dn K "number_in" jn f9 d9)
  (a10:Dn K "count_meetings" e_ Md MT)
  (a11:Dn K "strands_in" iq Me MU)
  (a12:Dn K "corner_ends" gL Mf MV)
  (a13:Dn K "shortened" jo Mg MW)
  (a14:Dn K "shortest" kj Mh MX)
  (a15:Dn K "ring" yX Mi MY)
  (a16:Dn K "root" yY Mj MZ)
  (a17:Dn K "corner_steps" gm Ml M0)
  (a18:Dn K "steps_ahead" gM E3 M1)
  (a19:Dn K "steps_back" ir E4 M3)
  (a20:Dn K "parting" mG Mm M4)
  (a21:Dn K "side_of" mH Mn M5)
  (a22:Dn K "comes_ahead" gN Mo M6)
  (a23:Dn K "number_among" gn Mp M7)
  (a24:Dn K "seen_strand" gO Mq M8)
  (a25:Dn K "taut_order" iu Mr M9)
  (a26:Dn K "taut" yZ Ms M_)
  (a27:Dn K "least" uo Mt Na)
  (a28:Dn K "own" E1 Mu Nb)
  (a29:Dn K "is_lone" mI Mv Nd)
  (a30:Dn K "_law_box" y6 Mw Nf)
  (a31:Dn K "_law_take" uq Mx Ng)
  (a32:Dn K "_law_other" pL Mz Nh)
  (a33:Dn K "_law_yard" ur MA Ni)
  (a34:Dn K "_law_handled" km MB Nj)
  (a35:Dn K "_law_even" uu MC Nk)
  (a36:Dn K "_law_word" uv MD Nl)
  (a37:Dn K "_law_short" pM ME Nm)
  (a38:Dn K "_law_near" uw MF Nn)
  (a39:Dn K "_law_shortened" iw MG Np)
  (a40:Dn K "_law_shortest" jq MH Nq)
  (a41:Dn K "_law_ray" y7 MI Nr)
  (a42:Dn K "_law_letter" mJ MJ Nt)
  (a43:Dn K "_law_round" pN MK Nu)
  (a44:Dn K "_law_parted" mK ML Nv)
  (a45:Dn K "_law_sense" pQ MM Nw)
  (a46:Dn K "_law_meets" pR MN Ny)
  (a47:Dn K "_law_between" ko MO Nz)
  (a48:Dn K "_law_own" y9 MP NA)
  (a49:Dn K "_law_is_lone" mL MQ NB)
  (a51:Dn K "_law_right" pT MR NC)
  (a52:Dn K "law" E2 MS ND)
  (q_Seen:PySem.W.nsIn K mainGlobals "Seen"=some (some (.ref aU)))
  (pg_Seen:PySem.W.plainGet K aU Str.empty=true)
  (hd_Seen:PySem.W.hasDictIn K aU=true)
  (po_Seen:PySem.W.plainOver K aU=true)
  (sa_Seen:PySem.W.findIn K (.ref aU) "__setattr__"=some (some (.builtin "object.__setattr__")))
  (n_Seen_strand:PySem.W.findIn K (.ref aU) "strand"=some none)
  (n_Seen_way:PySem.W.findIn K (.ref aU) "way"=some none)
  (n_Seen_place:PySem.W.findIn K (.ref aU) "place"=some none)
  (q_Way:PySem.W.nsIn K mainGlobals "Way"=some (some (.ref a_)))
  (pg_Way:PySem.W.plainGet K a_ Str.empty=true)
  (hd_Way:PySem.W.hasDictIn K a_=true)
  (po_Way:PySem.W.plainOver K a_=true)
  (sa_Way:PySem.W.findIn K (.ref a_) "__setattr__"=some (some (.builtin "object.__setattr__")))
  (n_Way_size:PySem.W.findIn K (.ref a_) "size"=some none)
  (n_Way_root_size:PySem.W.findIn K (.ref a_) "root_size"=some none)
  (n_Way_leads:PySem.W.findIn K (.ref a_) "leads"=some none)
  (n_Way_onward:PySem.W.findIn K (.ref a_) "onward"=some none)
  (n_Way_backward:PySem.W.findIn K (.ref a_) "backward"=some none)
  (mk_Way:PySem.W.makesIn K a_=true)
  (qi_Way:PySem.W.findIn K (.ref a_) "__init__"=some (some (.ref jW)))
  (fi_Way:PySem.W.isFn K (.ref jW)=true)
  (kc_Way:PySem.W.keepIn K (.ref a_)=true)
  (li_Way:K.lookup jW=some ⟨LN,LK, .func (PySem.W.fnOf "__init__" "Way.__init__" (fQ jC) (fg jC) (au jC) .none LO LP LQ LL Fn LR),LM⟩)
  (ci_Way:PySem.W.codeIn K Fn "Way.__init__"=true)
  (ki_Way:PySem.W.keepIn K (.ref jW)=true)
  (mk_Seen:PySem.W.makesIn K aU=true)
  (qi_Seen:PySem.W.findIn K (.ref aU) "__init__"=some (some (.ref gP)))
  (fi_Seen:PySem.W.isFn K (.ref gP)=true)
  (kc_Seen:PySem.W.keepIn K (.ref aU)=true)
  (li_Seen:K.lookup gP=some ⟨Ie,Ia, .func (PySem.W.fnOf "__init__" "Seen.__init__" (fQ g8) (fg g8) (au g8) .none Ig Ih Ii Ib AI Ij),Ic⟩)
  (ci_Seen:PySem.W.codeIn K AI "Seen.__init__"=true)
  (ki_Seen:PySem.W.keepIn K (.ref gP)=true)
  (z_all:PySem.W.nsIn K mainGlobals "all"=some none)
  (z_bool:PySem.W.nsIn K mainGlobals "bool"=some none)
  (z_enumerate:PySem.W.nsIn K mainGlobals "enumerate"=some none)
  (z_int:PySem.W.nsIn K mainGlobals "int"=some none)
  (z_isinstance:PySem.W.nsIn K mainGlobals "isinstance"=some none)
  (z_len:PySem.W.nsIn K mainGlobals "len"=some none)
  (z_list:PySem.W.nsIn K mainGlobals "list"=some none)
  (z_max:PySem.W.nsIn K mainGlobals "max"=some none)
  (z_min:PySem.W.nsIn K mainGlobals "min"=some none)
  (z_range:PySem.W.nsIn K mainGlobals "range"=some none)
  (z_reversed:PySem.W.nsIn K mainGlobals "reversed"=some none)
  (z_set:PySem.W.nsIn K mainGlobals "set"=some none)
  (z_sorted:PySem.W.nsIn K mainGlobals "sorted"=some none)
  (z_str:PySem.W.nsIn K mainGlobals "str"=some none)
  (z_tuple:PySem.W.nsIn K mainGlobals "tuple"=some none):
  ∃fd:FuncData,(∀(s:Shared) (v:Value),BindsTo s fd ⟨[v],[]⟩ [("_law_script",v)])/\ ∀base:Heap,K.In base->base.Ns mainGlobals mg->bB l.prog w K mg base d_ 13 fa fd ["_law_script"] (lU K):=by
 have e:=QM.symm.trans (Qde X G a52.1)
 cases e
 obtain ⟨_,_,_,_,_,_,_,_,_,rfl,_⟩:=a52.2.ex
 have Fo:=xQ (st:=jC) li_Way ci_Way ki_Way
 have LS:=Fo.binds (ps:=["self","yard","word","longest"]) fun _ _ _ _ _ _=>aK fun _=>aK fun _=>aK fun _=>aK fun _=>bR rfl
 have AJ:=xQ (st:=g8) li_Seen ci_Seen ki_Seen
 have Ik:=AJ.binds (ps:=["self","strand","way","place"]) fun _ _ _ _ _ _=>aK fun _=>aK fun _=>aK fun _=>aK fun _=>bR rfl
 have T:Txt K mg _ _ _ _ _ _ _ _ _ _ _ _ _ _ _ _ _ _ _ _ _ _ _ _ _ _ _ _ _ _ _ _ _ _ _ _ _ _ _ _ _ _ _ _ _ _ _ _ _ _ _ _ _ _ _ _ _ _ _ _ _ _ _ _ _ _ _ _ _ _ _ _ _ _ _ _ _ _ _ _ _ _ _ _ _ _ _ _ _ _ _ _ _ _ _ _ _ _ _ _ _ _ _ _ _ _ _ _ _ _:=⟨fI X G a0 fun _ _ _ _ _ _=>aK fun _=>bR rfl,fI X G a1 fun _ _ _ _ _ _=>aK fun _=>bR rfl,fI X G a2 fun _ _ _ _ _ _=>aK fun _=>bR rfl,fI X G a3 fun _ _ _ _ _ _=>aK fun _=>aK fun _=>aK fun _=>bR rfl,fI X G a4 fun _ _ _ _ _ _=>aK fun _=>aK fun _=>aK fun _=>bR rfl,fI X G a5 fun _ _ _ _ _ _=>aK fun _=>aK fun _=>bR rfl,fI X G a6 fun _ _ _ _ _ _=>aK fun _=>aK fun _=>aK fun _=>bR rfl,fI X G a7 fun _ _ _ _ _ _=>aK fun _=>aK fun _=>bR rfl,fI X G a8 fun _ _ _ _ _ _=>aK fun _=>bR rfl,fI X G a9 fun _ _ _ _ _ _=>aK fun _=>aK fun _=>bR rfl,fI X G a10 fun _ _ _ _ _ _=>aK fun _=>bR rfl,fI X G a11 fun _ _ _ _ _ _=>aK fun _=>aK fun _=>bR rfl,fI X G a12 fun _ _ _ _ _ _=>aK fun _=>aK fun _=>bR rfl,fI X G a13 fun _ _ _ _ _ _=>aK fun _=>bR rfl,fI X G a14 fun _ _ _ _ _ _=>aK fun _=>bR rfl,fI X G a15 fun _ _ _ _ _ _=>aK fun _=>bR rfl,fI X G a16 fun _ _ _ _ _ _=>aK fun _=>bR rfl,fI X G a17 fun _ _ _ _ _ _=>aK fun _=>aK fun _=>aK fun _=>bR rfl,fI X G a18 fun _ _ _ _ _ _=>aK fun _=>aK fun _=>aK fun _=>bR rfl,fI X G a19 fun _ _ _ _ _ _=>aK fun _=>aK fun _=>aK fun _=>bR rfl,fI X G a20 fun _ _ _ _ _ _=>aK fun _=>aK fun _=>aK fun _=>aK fun _=>bR rfl,fI X G a21 fun _ _ _ _ _ _=>aK fun _=>bR rfl,fI X G a22 fun _ _ _ _ _ _=>aK fun _=>aK fun _=>bR rfl,fI X G a23 fun _ _ _ _ _ _=>aK fun _=>aK fun _=>bR rfl,fI X G a24 fun _ _ _ _ _ _=>aK fun _=>aK fun _=>aK fun _=>bR rfl,fI X G a25 fun _ _ _ _ _ _=>aK fun _=>aK fun _=>aK fun _=>bR rfl,fI X G a26 fun _ _ _ _ _ _=>aK fun _=>aK fun _=>bR rfl,fI X G a27 fun _ _ _ _ _ _=>aK fun _=>aK fun _=>bR rfl,fI X G a28 fun _ _ _ _ _ _=>aK fun _=>aK fun _=>bR rfl,fI X G a29 fun _ _ _ _ _ _=>aK fun _=>aK fun _=>bR rfl,fI X G a30 fun _ _ _ _ _ _=>aK fun _=>aK fun _=>bR rfl,fI X G a31 fun _ _ _ _ _ _=>aK fun _=>aK fun _=>bR rfl,fI X G a32 fun _ _ _ _ _ _=>aK fun _=>bR rfl,fI X G a33 fun _ _ _ _ _ _=>aK fun _=>aK fun _=>aK fun _=>bR rfl,fI X G a34 fun _ _ _ _ _ _=>aK fun _=>aK fun _=>aK fun _=>bR rfl,fI X G a35 fun _ _ _ _ _ _=>aK fun _=>aK fun _=>aK fun _=>aK fun _=>bR rfl,fI X G a36 fun _ _ _ _ _ _=>aK fun _=>aK fun _=>aK fun _=>bR rfl,fI X G a37 fun _ _ _ _ _ _=>aK fun _=>aK fun _=>aK fun _=>bR rfl,fI X G a38 fun _ _ _ _ _ _=>aK fun _=>aK fun _=>aK fun _=>aK fun _=>bR rfl,fI X G a39 fun _ _ _ _ _ _=>aK fun _=>bR rfl,fI X G a40 fun _ _ _ _ _ _=>aK fun _=>bR rfl,fI X G a41 fun _ _ _ _ _ _=>aK fun _=>aK fun _=>aK fun _=>bR rfl,fI X G a42 fun _ _ _ _ _ _=>aK fun _=>aK fun _=>bR rfl,fI X G a43 fun _ _ _ _ _ _=>aK fun _=>aK fun _=>aK fun _=>aK fun _=>bR rfl,fI X G a44 fun _ _ _ _ _ _=>aK fun _=>aK fun _=>aK fun _=>bR rfl,fI X G a45 fun _ _ _ _ _ _=>aK fun _=>aK fun _=>aK fun _=>aK fun _=>bR rfl,fI X G a46 fun _ _ _ _ _ _=>aK fun _=>aK fun _=>aK fun _=>aK fun _=>aK fun _=>bR rfl,fI X G a47 fun _ _ _ _ _ _=>aK fun _=>aK fun _=>aK fun _=>bR rfl,fI X G a48 fun _ _ _ _ _ _=>aK fun _=>aK fun _=>bR rfl,fI X G a49 fun _ _ _ _ _ _=>aK fun _=>aK fun _=>bR rfl,fI X G a51 fun _ _ _ _ _ _=>aK fun _=>aK fun _=>bR rfl,fI X G a52 fun _ _ _ _ _ _=>aK fun _=>bR rfl,Qde X G q_Seen,⟨pg_Seen,hd_Seen,po_Seen,sa_Seen⟩,n_Seen_strand,n_Seen_way,n_Seen_place,Qde X G q_Way,⟨pg_Way,hd_Way,po_Way,sa_Way⟩,n_Way_size,n_Way_root_size,n_Way_leads,n_Way_onward,n_Way_backward,⟨mk_Way,qi_Way,fi_Way,kc_Way⟩,Fo,LS,⟨mk_Seen,qi_Seen,fi_Seen,kc_Seen⟩,AJ,Ik,ZQ X G z_all,ZQ X G z_bool,ZQ X G z_enumerate,ZQ X G z_int,ZQ X G z_isinstance,ZQ X G z_len,ZQ X G z_list,ZQ X G z_max,ZQ X G z_min,ZQ X G z_range,ZQ X G z_reversed,ZQ X G z_set,ZQ X G z_sorted,ZQ X G z_str,ZQ X G z_tuple⟩
 exact ⟨_,fun s v=> .of_eq rfl,fun base _ _=>LF T⟩
theorem walk {l:PySem.W.OpenLaw} {q:Program} {loose:List Str} {XP:(Str->Option Value)->Heap->Prop} {YP:World->Heap->Prop} {d:DefRec} {K:Params->PySem.W.Frag} (hn:l.most=some 63) (Oy:d.params.defaults=[])
  (hY: ∀(w:World) (h:Heap),YP w h->(K w.params).In h)
  (F: ∀(w:World) (mg:Str->Option Value) (fa:Addr) (h:Heap),(K w.params).In h->h.Ns mainGlobals mg->mg d.name=some (.ref fa)->
   ∃fd:FuncData,(∀(s:Shared) (u:Value),BindsTo s fd ⟨[u],[]⟩ [("_law_script",u)])/\ ∀base:Heap,(K w.params).In base->base.Ns mainGlobals mg->bB l.prog w (K w.params) mg base d_ 13 fa fd ["_law_script"] (lU (K w.params))):
  PySem.W.WalkO q loose XP YP l.row.toRowW d [] (fun f vs=>PySem.call f vs):=
 L2.zD (n:=63) (k:=13) (x:="_law_script") (CX:=fun _=>d_) (sp:=fun w=>lU (K w.params)) hn (by decide) Oy ⟨rfl,by decide,by decide,rfl⟩ hY F (fun _ _ a ns hl _ hS=>⟨a,ns,rfl,hS,hl,fun _=>rfl⟩) fun _ _ _ _ _ z=>z
end My
namespace PySem.W.Fast
def tw10011020289715181917:=Nat
def tw10033650666657822080:=Nat
def tw10174598438896202860:=Nat
def tw10382041106895984599:=Nat
def tw10454384091331215286:=Nat
def tw10758326556077992074:=Nat
def tw10825503496583618408:=Nat
def tw10870239190502169332:=Nat
def tw1089336196521343642:=Nat
def tw10945510487460983464:=Nat
def tw11022659071315900811:=Nat
def tw11038331659141505330:=Nat
def tw1114502361966395819:=Nat
def tw11208113554740660975:=Nat
def tw11225844135564055426:=Nat
def tw11352529754204347261:=Nat
def tw11490175846587264867:=Nat
def tw11494123384533679479:=Nat
def tw11545315009706075837:=Nat
def tw11672881376532773588:=Nat
def tw11888280785421371433:=Nat
def tw11958025536677721914:=Nat
def tw12055595274900934178:=Nat
def tw12381691528531893540:=Nat
def tw12419811014225122877:=Nat
def tw12659494082410708847:=Nat
def tw12687532108699736845:=Nat
def tw12844479440453138761:=Nat
def tw12948526396256154022:=Nat
def tw12968646585136983148:=Nat
def tw1299499879471406307:=Nat
def tw13069231441409520133:=Nat
def tw13082303605366061233:=Nat
def tw13137338599153896277:=Nat
def tw13310461862098659708:=Nat
def tw13326888441548982554:=Nat
def tw1345033559621519221:=Nat
def tw13524017449455210483:=Nat
def tw13543257300394070421:=Nat
def tw13591611633896698253:=Nat
def tw13607825354823152597:=Nat
def tw13641426027329812276:=Nat
def tw13666746288822020493:=Nat
def tw13916369385270513541:=Nat
def tw13978974099829920682:=Nat
def tw14072541718713221338:=Nat
def tw14257358373902366988:=Nat
def tw14474871253345479331:=Nat
def tw14547932951915901504:=Nat
def tw1462055373928318851:=Nat
def tw1462196259474644585:=Nat
def tw14776698169097408008:=Nat
def tw14819836518061595781:=Nat
def tw14915693998653735384:=Nat
def tw14917791614118547700:=Nat
def tw14966924940596456992:=Nat
def tw14985886723579356272:=Nat
def tw1498706751112748753:=Nat
def tw15028911449162045850:=Nat
def tw15330716692134949469:=Nat
def tw15453123154666806693:=Nat
def tw15459642884791183832:=Nat
def tw15551628433849802595:=Nat
def tw15572647675368481081:=Nat
def tw15631182746586752352:=Nat
def tw15780640920837592399:=Nat
def tw15989127126594201432:=Nat
def tw16047976521446388159:=Nat
def tw1621015932428099137:=Nat
def tw16374033228839714202:=Nat
def tw16427826473234796342:=Nat
def tw16490732453238121095:=Nat
def tw16504451255967968452:=Nat
def tw16632008212109000735:=Nat
def tw16650681550371561258:=Nat
def tw16730835381784123271:=Nat
def tw16828783049430006694:=Nat
def tw17015228272681079203:=Nat
def tw17195092200838813988:=Nat
def tw17310560917273668383:=Nat
def tw17560761980884597804:=Nat
def tw17785612643455216190:=Nat
def tw17817682671993034100:=Nat
def tw17869684055381415825:=Nat
def tw17898920175461140109:=Nat
def tw18180196448568211422:=Nat
def tw18220022880162745980:=Nat
def tw18279418913069535884:=Nat
def tw18284768917143382989:=Nat
def tw18296936533549758877:=Nat
def tw18336978220866885722:=Nat
def tw1914323633405722491:=Nat
def tw1922544842365648659:=Nat
def tw2021916445832265595:=Nat
def tw2076011774360699263:=Nat
def tw2107122603992728021:=Nat
def tw2123763574198462816:=Nat
def tw2126622098315165115:=Nat
def tw2126856103992631904:=Nat
def tw2175577838159561641:=Nat
def tw2485578765906980510:=Nat
def tw2531194867891945294:=Nat
def tw2569382996935859340:=Nat
def tw2601828779681992851:=Nat
def tw2627636892210717457:=Nat
def tw2682468170955704977:=Nat
def tw2697336099298032625:=Nat
def tw2703085824247562269:=Nat
def tw2712586625292186017:=Nat
def tw2887983550799064348:=Nat
def tw3001903454653507648:=Nat
def tw3343186452744199293:=Nat
def tw33640739768244013:=Nat
def tw3420695785404347445:=Nat
def tw3605058159049706929:=Nat
def tw3691208264788597869:=Nat
def tw3742029752914491750:=Nat
def tw4030582247387693829:=Nat
def tw4376672897270021147:=Nat
def tw4399623335205616970:=Nat
def tw4474792433459641046:=Nat
def tw4545445995930695636:=Nat
def tw4587281094127182693:=Nat
def tw4655617875517997739:=Nat
def tw4724899273849217297:=Nat
def tw473013139988847840:=Nat
def tw4813982912479689207:=Nat
def tw4870008411676940222:=Nat
def tw4915657743441081583:=Nat
def tw492924275989824389:=Nat
def tw5082601323412134830:=Nat
def tw5196286792965533013:=Nat
def tw5239362739189514441:=Nat
def tw5343221134065474645:=Nat
def tw5402758824307701212:=Nat
def tw5488506335764197745:=Nat
def tw576686297054541536:=Nat
def tw5828959306330460244:=Nat
def tw6153744192480317061:=Nat
def tw6157484025896288363:=Nat
def tw6169770835941469663:=Nat
def tw620648672731044389:=Nat
def tw6252336498257350176:=Nat
def tw6258519476194280903:=Nat
def tw6375044033444970671:=Nat
def tw6498562585035829142:=Nat
def tw6744526478856183474:=Nat
def tw6762939781614907626:=Nat
def tw6821320612883446119:=Nat
def tw6824560236796098746:=Nat
def tw6909907798574251972:=Nat
def tw6955095360269125869:=Nat
def tw7076064733541239588:=Nat
def tw7150995119082654234:=Nat
def tw7219867910131097355:=Nat
def tw7280131395724284609:=Nat
def tw7435802627148841558:=Nat
def tw7475899432939810057:=Nat
def tw7644995689529184469:=Nat
def tw766972105989476076:=Nat
def tw7692399029044733871:=Nat
def tw7716420231629272450:=Nat
def tw7759552197369700028:=Nat
def tw7803709026429571465:=Nat
def tw7896478902314058956:=Nat
def tw7906354666952135638:=Nat
def tw7927324110672112512:=Nat
def tw7931467545552230966:=Nat
def tw7933236267399445389:=Nat
def tw796015826945403675:=Nat
def tw8061182726832642335:=Nat
def tw8097621810676292977:=Nat
def tw8114487488487701849:=Nat
def tw8209800057772785378:=Nat
def tw8242206029023178218:=Nat
def tw847543308917470360:=Nat
def tw8493934314273688893:=Nat
def tw8515854571088431227:=Nat
def tw8545265540950394772:=Nat
def tw8558732375466363243:=Nat
def tw8648305939170042527:=Nat
def tw8744542891469699444:=Nat
def tw8779870884346569011:=Nat
def tw8786318707454841459:=Nat
def tw8883706418239000084:=Nat
def tw9298764109970400837:=Nat
def tw9308823586740921414:=Nat
def tw9399644783200485412:=Nat
def tw9512053788898458454:=Nat
def tw9516171438730262452:=Nat
def tw9599644420605820981:=Nat
def tw9638088559352285129:=Nat
def tw9641240064289439436:=Nat
def tw964160215418223475:=Nat
def tw9692562783782438932:=Nat
def tw9807865823340002166:=Nat
def tw9813087477054605684:=Nat
def tw9813793308772924990:=Nat
def tw9965709029800392462:=Nat
def tw9980540970731508022:=Nat
end PySem.W.Fast
open PySem PySem.W PyProof.Rows
set_option maxRecDepth 100000 in
set_option maxHeartbeats 0 in
theorem PySem.Challenge.cw_mustmeet_k39_what_is_lone_holds : PySem.Challenge.rw_mustmeet_k39_what_is_lone.Holds := by
 w_on;o_law;k_head;(case hw=>w_witness2)
 k_fill
 refine My.walk (l:=PySem.Challenge.rw_mustmeet_k39_what_is_lone) rfl rfl (fun w h Y=>PySem.W.kIn_of Y) ?F
 case F=>
  intro w mg fa h KX G hmg
  refine' My.all_mk KX G hmg (My.dn ?a0 ?l0 ?c0 ?k0) (My.dn ?a1 ?l1 ?c1 ?k1) (My.dn ?a2 ?l2 ?c2 ?k2) (My.dn ?a3 ?l3 ?c3 ?k3) (My.dn ?a4 ?l4 ?c4 ?k4) (My.dn ?a5 ?l5 ?c5 ?k5) (My.dn ?a6 ?l6 ?c6 ?k6) (My.dn ?a7 ?l7 ?c7 ?k7) (My.dn ?a8 ?l8 ?c8 ?k8) (My.dn ?a9 ?l9 ?c9 ?k9) (My.dn ?a10 ?l10 ?c10 ?k10) (My.dn ?a11 ?l11 ?c11 ?k11) (My.dn ?a12 ?l12 ?c12 ?k12) (My.dn ?a13 ?l13 ?c13 ?k13) (My.dn ?a14 ?l14 ?c14 ?k14) (My.dn ?a15 ?l15 ?c15 ?k15) (My.dn ?a16 ?l16 ?c16 ?k16) (My.dn ?a17 ?l17 ?c17 ?k17) (My.dn ?a18 ?l18 ?c18 ?k18) (My.dn ?a19 ?l19 ?c19 ?k19) (My.dn ?a20 ?l20 ?c20 ?k20) (My.dn ?a21 ?l21 ?c21 ?k21) (My.dn ?a22 ?l22 ?c22 ?k22) (My.dn ?a23 ?l23 ?c23 ?k23) (My.dn ?a24 ?l24 ?c24 ?k24) (My.dn ?a25 ?l25 ?c25 ?k25) (My.dn ?a26 ?l26 ?c26 ?k26) (My.dn ?a27 ?l27 ?c27 ?k27) (My.dn ?a28 ?l28 ?c28 ?k28) (My.dn ?a29 ?l29 ?c29 ?k29) (My.dn ?a30 ?l30 ?c30 ?k30) (My.dn ?a31 ?l31 ?c31 ?k31) (My.dn ?a32 ?l32 ?c32 ?k32) (My.dn ?a33 ?l33 ?c33 ?k33) (My.dn ?a34 ?l34 ?c34 ?k34) (My.dn ?a35 ?l35 ?c35 ?k35) (My.dn ?a36 ?l36 ?c36 ?k36) (My.dn ?a37 ?l37 ?c37 ?k37) (My.dn ?a38 ?l38 ?c38 ?k38) (My.dn ?a39 ?l39 ?c39 ?k39) (My.dn ?a40 ?l40 ?c40 ?k40) (My.dn ?a41 ?l41 ?c41 ?k41) (My.dn ?a42 ?l42 ?c42 ?k42) (My.dn ?a43 ?l43 ?c43 ?k43) (My.dn ?a44 ?l44 ?c44 ?k44) (My.dn ?a45 ?l45 ?c45 ?k45) (My.dn ?a46 ?l46 ?c46 ?k46) (My.dn ?a47 ?l47 ?c47 ?k47) (My.dn ?a48 ?l48 ?c48 ?k48) (My.dn ?a49 ?l49 ?c49 ?k49) (My.dn ?a51 ?l51 ?c51 ?k51) (My.dn ?a52 ?l52 ?c52 ?k52) ?q_Seen ?pg_Seen ?hd_Seen ?po_Seen ?sa_Seen ?n_Seen_strand ?n_Seen_way ?n_Seen_place ?q_Way ?pg_Way ?hd_Way ?po_Way ?sa_Way ?n_Way_size ?n_Way_root_size ?n_Way_leads ?n_Way_onward ?n_Way_backward ?mk_Way ?qi_Way ?fi_Way ?kc_Way ?li_Way ?ci_Way ?ki_Way ?mk_Seen ?qi_Seen ?fi_Seen ?kc_Seen ?li_Seen ?ci_Seen ?ki_Seen ?z_all ?z_bool ?z_enumerate ?z_int ?z_isinstance ?z_len ?z_list ?z_max ?z_min ?z_range ?z_reversed ?z_set ?z_sorted ?z_str ?z_tuple
  case a0|l0|c0|k0|a1|l1|c1|k1|a2|l2|c2|k2|a3|l3|c3|k3|a4|l4|c4|k4|a5|l5|c5|k5|a6|l6|c6|k6|a7|l7|c7|k7|a8|l8|c8|k8|a9|l9|c9|k9|a10|l10|c10|k10|a11|l11|c11|k11|a12|l12|c12|k12|a13|l13|c13|k13|a14|l14|c14|k14|a15|l15|c15|k15|a16|l16|c16|k16|a17|l17|c17|k17|a18|l18|c18|k18|a19|l19|c19|k19|a20|l20|c20|k20|a21|l21|c21|k21|a22|l22|c22|k22|a23|l23|c23|k23|a24|l24|c24|k24|a25|l25|c25|k25|a26|l26|c26|k26|a27|l27|c27|k27|a28|l28|c28|k28|a29|l29|c29|k29|a30|l30|c30|k30|a31|l31|c31|k31|a32|l32|c32|k32|a33|l33|c33|k33|a34|l34|c34|k34|a35|l35|c35|k35|a36|l36|c36|k36|a37|l37|c37|k37|a38|l38|c38|k38|a39|l39|c39|k39|a40|l40|c40|k40|a41|l41|c41|k41|a42|l42|c42|k42|a43|l43|c43|k43|a44|l44|c44|k44|a45|l45|c45|k45|a46|l46|c46|k46|a47|l47|c47|k47|a48|l48|c48|k48|a49|l49|c49|k49|a51|l51|c51|k51|a52|l52|c52|k52|q_Seen|pg_Seen|hd_Seen|po_Seen|sa_Seen|n_Seen_strand|n_Seen_way|n_Seen_place|q_Way|pg_Way|hd_Way|po_Way|sa_Way|n_Way_size|n_Way_root_size|n_Way_leads|n_Way_onward|n_Way_backward|mk_Way|qi_Way|fi_Way|kc_Way|li_Way|ci_Way|ki_Way|mk_Seen|qi_Seen|fi_Seen|kc_Seen|li_Seen|ci_Seen|ki_Seen|z_all|z_bool|z_enumerate|z_int|z_isinstance|z_len|z_list|z_max|z_min|z_range|z_reversed|z_set|z_sorted|z_str|z_tuple=>k_is
