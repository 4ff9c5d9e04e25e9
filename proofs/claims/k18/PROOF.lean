import PyProof.Rows.All
import Wide.All
import OpenK.AllK
import Wide.FinOn
import Lean
import PyProof.EqAt
import PyProof.EqKinds
import PyProof.TupleCall
import PySem.Challenge.RW_mustmeet_k18_texts_of_no_drawing
set_option Elab.async false
set_option linter.all false
set_option maxRecDepth 100000
open List renaming length_append→JQ,getElem?_eq_getElem→Mn,mem_singleton→QB,getElem?_eq_some_iff→Xy,append_assoc→Xz,mem_cons→XB,length_cons→Zy,mem_cons_of_mem→Zz,mem_cons_self→ZC,map_cons→ZD,length_map→kb,mem_append→Qaa,length_take→Qab,size_toArray→Qad,mem_append_right→Qag,append_nil→Qal,not_mem_nil→Qam,take_append_drop→Qan,take_of_length_le→Qao,map_append→Qar,length_drop→Qat,getElem?_map→Qau,getElem?_take_of_lt→Qav,getElem?_append_right→Qax,mem_of_getElem?→Qay,sum_cons→Qaz,getElem_mem→Qa4,mem_map→Qa5,drop_eq_getElem_cons→Qa7,pairwise_append→Qa8,mem_of_mem_take→Qba,mem_filter→Qbb,getElem?_append_left→Qbd,lookup_cons→Qbe,length_reverse→Qbf,mem_of_mem_drop→Qbg,take_length→Qbh,take_append_of_le_length→Qbm,pairwise_singleton→Qbn,getElem?_drop→Qbp,length_pos_iff→Qbq,mem_append_left→Qbr,map_map→Qbs,drop_of_length_le→Qbt,drop_eq_nil_of_le→Qbu,drop_zero→Qbz,pairwise_map→Qb2,perm_append_comm→Qb3,getD_eq_getElem?_getD→Qca,filterMap_cons→Qcc,length_nil→Qcd,all_eq_true→Qcf,getElem?_of_mem→Qch,eq_nil_of_length_eq_zero→Qci,filter_cons_of_pos→Qck,nil_append→Qcl,map_congr_left→Qcm,any_cons→Qcp,length_filter_le→Qcr,nodup_cons→Qcs,forIn_cons→Qct,find?_cons→Qcu,flatten_cons→Qcw,reverse_append→Qcy,mem_reverse→Qc0,mem_range→Qc1,filter_cons_of_neg→Qc2,drop_append_of_le_length→Qc3,getElem?_set_self→Qc4,cons_append→Qc8,rel_of_pairwise_cons→Qc9,length_set→Qde,contains_cons→Qdg,take_succ_eq_append_getElem→Qdl,take_add_one→Qdm,map_nil→Qdn,sum_append→Qdr,zip_cons_cons→Qds,pairwise_cons→Qdt,filter_append→Qdu,pairwise_iff_getElem→Qdw,findIdx?_eq_none_iff→Qdx,length_range→Qdy,map_take→Qdz,map_drop→Qd0,mem_flatMap→Qd2,eraseIdx_cons_succ→Qd3,drop_length→Qd4,of_mem_zip→Qea,reverse_reverse→Qee,getElem?_set_ne→Qef,drop_left→Qeg,length_zipWith→Qeh,getElem_of_mem→Qei,findIdx?_cons→Qen,take_sublist→Qeq,reverse_perm→Qer,filter_congr→Qes,ext_getElem?→Qet,zipIdx_cons→Qex,perm_middle→Qey,flatten_nil→Qez,drop_append→Qe0,map_id→Qe1
open PySem.Heap renaming get?_push_of_some→JR,lt_size→Qac,get?_push_size→Qai,get?_update_other→Qa6,size_push→Qbx,get?_update_self→Qby,get?_none_of_le→Qdv
open Nat renaming le_refl→XA,lt_of_lt_of_le→Qaf,zero_le→Qaq,ne_of_lt→Qa0,le_trans→Qa1,add_sub_cancel_left→Qbc,lt_irrefl→Qb1,ne_of_gt→Qb4,lt_succ_of_lt→Qb9,lt_succ_self→Qce,le_succ_of_le→Qcj,zero_add→Qcn,le_succ→Qco,sub_zero→Qcv,succ_le_succ→Qcz,le_of_lt→Qc7,min_eq_left→Qdc,le_antisymm→Qdd,sub_self→Qdi,eq_zero_of_not_pos→Qdj,add_zero→Qdk,succ_ne_self→Qd1,add_assoc→Qej,lt_of_le_of_lt→Qem,le_of_eq→Qep
open Option.some renaming inj→Qae
open PySem.W renaming mg_of→Qah,mg_none_of→Qbj,kia_one→Qb0,callWith_K→Qdf,cellsFrom_some→Qd7
open Bool renaming false_ne_true→Qaj,and_eq_true→Qcg,false_eq_true→Qdh,or_true→Qdo,eq_iff_iff→Qeb,or_false→Qel,eq_false_iff→Qev
open Array renaming toList_append→Qak,length_toList→Qaw,getElem?_toList→Qa2,perm_iff_toList_perm→Qa9,toList_push→Qbo,toList_reverse→Qb5,getElem?_eq_some_iff→Qcb,toList_inj→Qd6
open PySem renaming boot_len→Qap,mem_of_lookup→Qdb
open PySem.F renaming plainAttrs_str→Qas,plainAttrs_list→Qa3,type_list_append→Qbk,slot_list_append→Qbl,type_str_split→Qb7,slot_str_split→Qb8,type_str_join→Qc5,slot_str_join→Qc6,type_list_pop→Qec,slot_list_pop→Qed
open List.Perm renaming append_left→Qbi,refl→Qcq,append_right→Qd8
open List.cons renaming inj→Qbv
open PyProof.Rows renaming callWith_type1→Qbw,callWith_builtin1→Qdp
open PySem.Calls renaming spliced_cons→Qb6,spliced_nil→Qda,callWith_builtin→Qdq,Constant_str→Qd5,call_function_entry→Qd9,evalArgs_plain→Qeu
open Int renaming toNat_natCast→Qcx,emod_lt_of_pos→Qeo,emod_nonneg→Qe2
open Int.ofNat renaming inj→Qek
open Option renaming bind_some→Qew
open Array.Perm renaming refl→Qe3
namespace L2
open PySem PySem.Spec PyProof.Rows
abbrev Key:=Sum Int Str
noncomputable def pZ:Key->Value->Bool
 | .inl k,v=>Value.isInt k v
 | .inr x,v=>Value.isStrOf x v
noncomputable def RJ (w:World):Key->Int
 | .inl k=>hashInt k
 | .inr x=>hashStr w x
theorem bZ: ∀{k:Key} {v:Value},pZ k v=true->(∃i t,k=Sum.inl i/\v=Value.int i t)\/(∃x t,k=Sum.inr x/\v=Value.str x t)
 | .inl i,v,h=>by
  obtain ⟨t,e⟩:=Value.isInt_shape (k:=i) (v:=v) h
  exact .inl ⟨i,t,rfl,e⟩
 | .inr x,v,h=>by
  obtain ⟨t,e⟩:=Value.isStrOf_shape (x:=x) (v:=v) h
  exact .inr ⟨x,t,rfl,e⟩
theorem zF (i:Int) (t:Tok):pZ (.inl i) (.int i t)=true:=by simp[pZ,Value.isInt]
theorem zG (x:Str) (t:Tok):pZ (.inr x) (.str x t)=true:=by simp[pZ,Value.isStrOf]
theorem Jd (a b:Int):decide ((Sum.inl a:Key)=Sum.inl b)=(a==b):=by
 by_cases e:a=b
 ·subst e;simp
 ·have h: ¬(Sum.inl a:Key)=Sum.inl b:=fun q=>e (Sum.inl.inj q)
  rw[decide_eq_false h]
  exact (beq_eq_false_iff_ne.mpr e).symm
theorem Je (a b:Str):decide ((Sum.inr a:Key)=Sum.inr b)=decide (a=b):=by
 by_cases e:a=b
 ·subst e;simp
 ·have h: ¬(Sum.inr a:Key)=Sum.inr b:=fun q=>e (Sum.inr.inj q)
  rw[decide_eq_false h,decide_eq_false e]
theorem Jf (a:Int) (b:Str):decide ((Sum.inl a:Key)=Sum.inr b)=false:=decide_eq_false (fun q=>nomatch q)
theorem Jg (a:Str) (b:Int):decide ((Sum.inr a:Key)=Sum.inl b)=false:=decide_eq_false (fun q=>nomatch q)
noncomputable def cH (prog:Program) (w:World):PySem.KeyKind prog w Key where
 is:=pZ
 hash:=RJ w
 inj:=fun v a b ha hb=>by
  rcases bZ ha with ⟨i,t,rfl,rfl⟩ | ⟨x,t,rfl,rfl⟩
  ·rcases bZ hb with ⟨j,u,rfl,e⟩ | ⟨y,u,rfl,e⟩
   ·injection e with e1 _;rw[e1]
   ·exact nomatch e
  ·rcases bZ hb with ⟨j,u,rfl,e⟩ | ⟨y,u,rfl,e⟩
   ·exact nomatch e
   ·injection e with e1 _;rw[e1]
 byValue:=fun k v h=>by
  rcases bZ h with ⟨i,t,rfl,rfl⟩ | ⟨x,t,rfl,rfl⟩<;>rfl
 pyHash:=fun hv h=>by
  rcases bZ hv with ⟨i,t,rfl,rfl⟩ | ⟨x,t,rfl,rfl⟩
  ·exact wpAny_pyHash_int h
  ·exact wpAny_pyHash_str h
 eqBool:=fun hu hv h=>by
  rcases bZ hu with ⟨i,t,rfl,rfl⟩ | ⟨x,t,rfl,rfl⟩
  ·rcases bZ hv with ⟨j,u,rfl,rfl⟩ | ⟨y,u,rfl,rfl⟩
   ·rw[Jd]at h;exact wpAny_eqBool_int h
   ·rw[Jf]at h;exact SeqAt.EqAt.int_str i t y u _ _ _ _ h
  ·rcases bZ hv with ⟨j,u,rfl,rfl⟩ | ⟨y,u,rfl,rfl⟩
   ·rw[Jg]at h;exact SeqAt.EqAt.str_int x t j u _ _ _ _ h
   ·rw[Je]at h;exact wpAny_eqBool_str h
 «strs» :=fun k x t v h=>by
  rcases bZ h with ⟨i,u,rfl,e⟩ | ⟨y,u,rfl,e⟩
  ·exact nomatch e
  ·injection e with e1 _
   subst e1
   cases v<;>rfl
theorem tY (prog:Program) (w:World) (i:Int) (t:Tok):(cH prog w).is (.inl i) (.int i t)=true:=zF i t
theorem tZ (prog:Program) (w:World) (x:Str) (t:Tok):(cH prog w).is (.inr x) (.str x t)=true:=zG x t
inductive V where
 | cK | bl (b:Bool) | int (i:Int) | str (x:Str) | Bv (b:Array UInt8) | Jh (b:UInt64) | ref (a:Addr) | ty (n:String)
 deriving DecidableEq
def RelV:V->Value->Prop
 | .cK,u=>u=Value.none
 | .bl b,u=>u=Value.bool b
 | .int i,u=> ∃t,u=Value.int i t
 | .str x,u=> ∃t,u=Value.str x t
 | .Bv b,u=> ∃t,u=Value.bytes b t
 | .Jh b,u=> ∃t,u=Value.float b t
 | .ref a,u=>u=Value.ref a
 | .ty n,u=>u=Value.type n
abbrev Vals:List V->List Value->Prop:=Paired RelV
theorem Vals.length {xs:List V} {us:List Value} (r:Vals xs us):xs.length=us.length:=Paired.length r
theorem Vals.get: ∀{xs:List V} {us:List Value} {i:Nat} {x:V},Vals xs us->xs[i]? =some x-> ∃u,us[i]? =some u/\RelV x u
 | _,_,_,_, .nil,e=>by simp at e
 | _,_,0,_, .cons r _,e=>by simp at e;subst e;exact ⟨_,rfl,r⟩
 | _,_,i+1,x, .cons _ t,e=>by
  obtain ⟨u,h1,h2⟩:=Vals.get (i:=i) (x:=x) t (by simpa using e)
  exact ⟨u,by simpa using h1,h2⟩
theorem Vals.set {x:V} {u:Value} (r:RelV x u): ∀{xs:List V} {us:List Value} (i:Nat),Vals xs us->Vals (xs.set i x) (us.set i u)
 | _,_,_, .nil=> .nil
 | _,_,0, .cons _ t=> .cons r t
 | _,_,i+1, .cons q t=> .cons q (Vals.set r i t)
theorem Vals.append: ∀{xs ys:List V} {us ws:List Value},Vals xs us->Vals ys ws->Vals (xs++ys) (us++ws)
 | _,_,_,_, .nil,s=>s
 | _,_,_,_, .cons r t,s=> .cons r (Vals.append t s)
theorem Vals.take: ∀{xs:List V} {us:List Value} (n:Nat),Vals xs us->Vals (xs.take n) (us.take n)
 | _,_,0,_=> .nil
 | _,_,_+1, .nil=> .nil
 | _,_,n+1, .cons r t=> .cons r (Vals.take n t)
theorem Vals.drop: ∀{xs:List V} {us:List Value} (n:Nat),Vals xs us->Vals (xs.drop n) (us.drop n)
 | _,_,0,r=>r
 | _,_,_+1, .nil=> .nil
 | _,_,n+1, .cons _ t=>Vals.drop n t
def js:Option V->Option Value->Prop
 | some v,some u=>RelV v u
 | none,none=>True
 | _,_=>False
def KV {κ:Type}:List (κ×V)->List (κ×Value)->Prop:=Paired fun (p:κ×V) (q:κ×Value)=>p.1=q.1/\RelV p.2 q.2
noncomputable def kV:Key->V
 | .inl i=> .int i
 | .inr x=> .str x
inductive HO where
  | lst (xs:List V)
  | tup (xs:List V)
  | dK (aZ:List (Key×V)) | dT (aZ:List (List Key×V))
  | set (S:Int->Bool) (n:Nat)
  | ins (C dx:Addr) (fs:List (Str×V))
  | own (x:Addr)
  | xd (fs:List (Str×V))
  | met (f x:Addr)
  | Qr (lo hi:Int)
  | j6 (o:Obj) (u:HO)
  | G2 (ps:Array Value)
  | ext (φ:Heap->Prop)
abbrev Hp:=Addr->Option HO
noncomputable def upd (H:Hp) (a:Addr) (o:HO):Hp:=fun b=>if b=a then some o else H b
theorem af {H:Hp} {a:Addr} {o:HO}:upd H a o a=some o:=by unfold upd;rw[if_pos rfl]
theorem ao {H:Hp} {a b:Addr} {o:HO} (h:b≠a):upd H a o b=H b:=by unfold upd;rw[if_neg h]
theorem xZ {H:Hp} {a:Addr} {o u:HO}:upd (upd H a o) a u=upd H a u:=by
 funext b;unfold upd;split<;>rfl
theorem MG {H:Hp} {a b:Addr} {o u:HO} (h:H a=some o) (h':H b=some u) (d:o≠u):a≠b:=by
 intro e;subst e;rw[h]at h';exact d (Qae h')
theorem ak {H:Hp} {a b:Addr} {o:HO} (h:H a=some o) (h':H b=none):a≠b:=by
 intro e;subst e;rw[h]at h';cases h'
section
variable (P:Program) (w:World)
def bK (H:Hp) (h:Heap) (a:Addr):HO->Prop
 | .lst xs=>xs.length<=sizeLine/\ ∃(aD:List Value) (n:Nat),Vals xs aD/\h.get? a=some { cls:= .type "list",data:= .seq aD.toArray n }
 | .tup xs=>xs.length<=sizeLine/\ ∃aD:List Value,Vals xs aD/\IsTup h a aD.toArray
 | .dK aZ=>aZ.length<=sizeLine/\(a==sysModules)=false/\ ∃vs,KV aZ vs/\h.DictOf (cH P w) a vs
 | .dT aZ=>aZ.length<=sizeLine/\(a==sysModules)=false/\ ∃xs:List (List Key×Addr×Value),
   Paired (fun (p:List Key×V) (q:List Key×Addr×Value)=>p.1=q.1/\H q.2.1=some (.tup (p.1.map kV))/\RelV p.2 q.2.2) aZ xs/\
   ∃o es ep,h.get? a=some o/\o.ExactDict/\o.data= .dict es ep/\es.toList=xs.map (entryOfKey (tupleKind (cH P w)))/\(xs.map (·.1)).Nodup
 | .set S n=>h.SetOf (intKind P w) a S n
 | .ins C dx fs=>H dx=some (.own a)/\fs.length<=1000/\dx≠a/\h.get? a=some (PySem.W.instObj C dx)/\
   ∃mA,h.Ns1 dx mA/\(∀f,js (fs.lookup f) (mA f))/\PySem.Within mA (fs.map (·.1))
 | .own _=> ∃o,h.get? a=some o
 | .xd fs=> ∃mA,h.Ns1 a mA/\ ∀f,js (fs.lookup f) (mA f)
 | .Qr lo hi=> ∃t u v,h.get? a=some { cls:= .type "range",data:= .fields #[.int lo t, .int hi u, .int 1 v] }
 | .j6 o u=>h.get? a=some o/\bK H h a u
 | .G2 ps=>h.get? a=some { cls:= .none,data:= .fields ps }
 | .met f x=>h.get? a=some (PySem.W.methodObj (.ref f) (.ref x))
 | .ext φ=>φ h/\(∃o,h.get? a=some o)/\ ∀h1 h2:Heap,φ h1->(∀o,h1.get? a=some o->h2.get? a=some o)->φ h2
def hW (H:Hp) (h:Heap):Prop:= ∀a o,H a=some o->bK P w H h a o
end
section
variable {P:Program} {w:World} {H H':Hp} {h h':Heap} {a:Addr} {o:HO}
theorem bK.lt (x:bK P w H h a o):a<h.objs.size:=by
 cases o with
 | lst xs=>obtain ⟨_,_,_,_,e⟩:=x;exact Qac e
 | tup xs=>obtain ⟨_,_,_,p⟩:=x;exact p.lt
 | dK aZ=>obtain ⟨_,_,_,_,o,_,_,e,_⟩:=x;exact Qac e
 | dT aZ=>obtain ⟨_,_,_,_,o,_,_,e,_⟩:=x;exact Qac e
 | set S n=>obtain ⟨o,_,_,_,e,_⟩:=x;exact Qac e
 | ins C dx fs=>obtain ⟨_,_,_,e,_⟩:=x;exact Qac e
 | own y=>obtain ⟨_,e⟩:=x;exact Qac e
 | xd fs=>obtain ⟨_,⟨_,_,_,e,_⟩,_⟩:=x;exact Qac e
 | Qr lo hi=>obtain ⟨_,_,_,e⟩:=x;exact Qac e
 | j6 ob u=>obtain ⟨e,_⟩:=x;exact Qac e
 | G2 ps=>exact Qac (show h.get? a=some _ from x)
 | met f y=>exact Qac (show h.get? a=some _ from x)
 | ext φ=>obtain ⟨_,⟨_,e⟩,_⟩:=x;exact Qac e
theorem Paired.Ji {α β:Type} {F G:α->β->Prop}: ∀{l₁:List α} {l₂:List β},Paired F l₁ l₂->(∀a b,F a b->G a b)->Paired G l₁ l₂
 | _,_, .nil,_=> .nil
 | _,_, .cons r t,f=> .cons (f _ _ r) (Paired.Ji t f)
theorem bK.jt (x:bK P w H h a o) (k: ∀b u,(b=a\/H b=some (.own a))->h.get? b=some u->h'.get? b=some u)
  (ho: ∀b,H b=some (.own a)->H' b=some (.own a)) (ht: ∀b xs,H b=some (.tup xs)->H' b=some (.tup xs)):bK P w H' h' a o:=by
 induction o with
 | lst xs=>obtain ⟨z,aD,n,r,e⟩:=x;exact ⟨z,aD,n,r,k _ _ (.inl rfl) e⟩
 | tup xs=>obtain ⟨z,aD,r,ob,e,c⟩:=x;exact ⟨z,aD,r,ob,k _ _ (.inl rfl) e,c⟩
 | dK aZ=>obtain ⟨z,y,vs,r,ob,es,ep,e,c⟩:=x;exact ⟨z,y,vs,r,ob,es,ep,k _ _ (.inl rfl) e,c⟩
 | dT aZ=>
  obtain ⟨z,y,xs,r,ob,es,ep,e,c⟩:=x
  exact ⟨z,y,xs,Paired.Ji r fun p q z=>⟨z.1,ht _ _ z.2.1,z.2.2⟩,ob,es,ep,k _ _ (.inl rfl) e,c⟩
 | set S n=>obtain ⟨ob,es,ep,t,e,c⟩:=x;exact ⟨ob,es,ep,t,k _ _ (.inl rfl) e,c⟩
 | ins C dx fs=>
  obtain ⟨d,z,ne,e,mA,⟨od,es,ep,e2,c⟩,r⟩:=x
  exact ⟨ho _ d,z,ne,k _ _ (.inl rfl) e,mA,⟨od,es,ep,k _ _ (.inr d) e2,c⟩,r⟩
 | own y=>obtain ⟨ob,e⟩:=x;exact ⟨ob,k _ _ (.inl rfl) e⟩
 | xd fs=>obtain ⟨mA,⟨od,es,ep,e,c⟩,r⟩:=x;exact ⟨mA,⟨od,es,ep,k _ _ (.inl rfl) e,c⟩,r⟩
 | Qr lo hi=>obtain ⟨t,u,v,e⟩:=x;exact ⟨t,u,v,k _ _ (.inl rfl) e⟩
 | j6 ob u ih=>obtain ⟨e,q⟩:=x;exact ⟨k _ _ (.inl rfl) e,ih q⟩
 | G2 ps=>
  have e:h.get? a=some { cls:= .none,data:= .fields ps }:=x
  show h'.get? a=some { cls:= .none,data:= .fields ps }
  exact k a _ (.inl rfl) e
 | met f y=>
  have e:h.get? a=some (PySem.W.methodObj (.ref f) (.ref y)):=x
  show h'.get? a=some (PySem.W.methodObj (.ref f) (.ref y))
  exact k a _ (.inl rfl) e
 | ext φ=>obtain ⟨p,⟨o,e⟩,st⟩:=x;exact ⟨st _ _ p fun o q=>k _ _ (.inl rfl) q,⟨o,k _ _ (.inl rfl) e⟩,st⟩
theorem hW.lt (x:hW P w H h) (e:H a=some o):a<h.objs.size:=(x a o e).lt
theorem hW.fresh (x:hW P w H h) (e:h.objs.size<=a):H a=none:=by
 cases q:H a with
 | none=>rfl
 | some u=>exact absurd (Qaf (x.lt q) e) (Qb1 _)
theorem hW.kept (x:hW P w H h) (k: ∀b u,h.get? b=some u->h'.get? b=some u):hW P w H h':=fun a o e=>
 (x a o e).jt (fun b u _ q=>k b u q) (fun _ q=>q) fun _ _ q=>q
theorem hW.laid (x:hW P w H h) (k: ∀b u,h.get? b=some u->h'.get? b=some u) (hp:h.objs.size<=a) (new:bK P w (upd H a o) h' a o):hW P w (upd H a o) h':=fun b u e=>by
 have hn:=x.fresh hp
 by_cases hb:b=a
 ·subst hb;rw[af]at e;cases e;exact new
 ·rw[ao hb]at e
  exact (x b u e).jt (fun c v _ q=>k c v q) (fun c q=>by rw[ao (ak q hn)];exact q) fun c xs q=>by rw[ao (ak q hn)];exact q
end
def Rd (H:Hp) (a:Addr) (u:HO):Prop:=H a=some u\/ ∃o,H a=some (.j6 o u)
theorem Rd.ok {P:Program} {w:World} {H:Hp} {h:Heap} {a:Addr} {u:HO} (r:Rd H a u) (x:hW P w H h):bK P w H h a u:=by
 rcases r with r | ⟨o,r⟩
 ·exact x a u r
 ·obtain ⟨_,q⟩:=x a _ r
  exact q
def MH:Option HO->Prop
 | some (.lst _)=>True
 | some (.dK _)=>True
 | some (.dT _)=>True
 | some (.set _ _)=>True
 | some (.ins _ _ _)=>True
 | some (.ext _)=>True
 | _=>False
section
variable {P:Program} {w:World} {H:Hp} {h h':Heap} {x e:Addr} {o':HO}
theorem hW.write (ok:hW P w H h) (mu:MH (H x)) (he:e=x\/H e=some (.own x)) (k: ∀b u,b≠e->h.get? b=some u->h'.get? b=some u) (Me: ∃u,h'.get? e=some u)
  (new:bK P w (upd H x o') h' x o'):hW P w (upd H x o') h':=fun b u q=>by
 have MI: ∀c y,H c=some (.own y)->c≠x:=fun c y r z=>by subst z;rw[r]at mu;exact mu
 have RK: ∀c xs,H c=some (.tup xs)->c≠x:=fun c xs r z=>by subst z;rw[r]at mu;exact mu
 by_cases hb:b=x
 ·subst hb;rw[af]at q;cases q;exact new
 ·rw[ao hb]at q
  by_cases Eb:b=e
  ·have q':H b=some (.own x):=by
    rcases he with z | z
    ·exact absurd (Eb.trans z) hb
    ·rw[Eb];exact z
   rw[q]at q';cases q'
   obtain ⟨v,hv⟩:=Me
   exact ⟨v,by rw[Eb];exact hv⟩
  ·refine (ok b u q).jt (fun c v hc r=>k c v ?_ r) (fun c r=>by rw[ao (MI c b r)];exact r) fun c xs r=>by rw[ao (RK c xs r)];exact r
   rcases hc with rfl | hc
   ·exact Eb
   ·rintro rfl
    rcases he with z | z
    ·exact MI c b hc z
    ·rw[hc]at z;cases z;exact hb rfl
end
structure Un (fs ex:List Addr) (H H':Hp) (h h':Heap):Prop where
 keep: ∀b o,h.get? b=some o->H b=none->b∉fs->b∉ex->h'.get? b=some o
 slot: ∀b o,h.get? b=some o->H b=none->b∈fs->b∉ex-> ∃sl,h'.get? b=some { o with slots:=sl }
 free: ∀b o,h.get? b=some o->H b=none->b∉ex->H' b=none
 there: ∀b o,h.get? b=some o->b∉ex-> ∃o',h'.get? b=some o'
 hX: ∀b xs,H b=some (.tup xs)->H' b=some (.tup xs)
 iG: ∀b o u,H b=some (.j6 o u)->H' b=some (.j6 o u)
 jN: ∀b ps,H b=some (.G2 ps)-> ∃more,H' b=some (.G2 (ps++more))
section
variable {fs Zn ex ex':List Addr} {H H1 H2:Hp} {h h1 h2 h':Heap} {a x e:Addr} {o:HO}
theorem Un.any (u:Un fs ex H H1 h h1) {b:Addr} {ob:Obj} (q:h.get? b=some ob) (n:H b=none) (hx:b∉ex): ∃sl,h1.get? b=some { ob with slots:=sl }:=by
 by_cases hb:b∈fs
 ·exact u.slot b ob q n hb hx
 ·exact ⟨ob.slots,u.keep b ob q n hb hx⟩
theorem Un.kept (k: ∀b u,h.get? b=some u->h'.get? b=some u):Un fs ex H H h h':=
 ⟨fun b ob q _ _ _=>k b ob q,fun b ob q _ _ _=>⟨ob.slots,k b ob q⟩,fun _ _ _ n _=>n,fun b ob q _=>⟨ob,k b ob q⟩,fun _ _ q=>q,fun _ _ _ q=>q,fun _ ps q=>⟨#[],by rw[q];simp⟩⟩
theorem Un.refl:Un fs ex H H h h:=Un.kept fun _ _ q=>q
theorem Un.laid (k: ∀b u,h.get? b=some u->h'.get? b=some u) (hp:h.objs.size<=a) (hn:H a=none):Un fs ex H (upd H a o) h h' where
 keep:=fun b u q _ _ _=>k b u q
 slot:=fun b u q _ _ _=>⟨u.slots,k b u q⟩
 free:=fun b u q n _=>by rw[ao (Qa0 (Qaf (Qac q) hp))];exact n
 there:=fun b u q _=>⟨u,k b u q⟩
 hX:=fun b xs q=>by rw[ao (ak q hn)];exact q
 iG:=fun b u xs q=>by rw[ao (ak q hn)];exact q
 jN:=fun b ps q=>⟨#[],by rw[ao (ak q hn),q];simp⟩
theorem Un.write (mu:MH (H x)) (he:e=x\/H e=some (.own x)) (k: ∀b u,b≠e->h.get? b=some u->h'.get? b=some u) (Me: ∃u,h'.get? e=some u):Un fs ex H (upd H x o) h h':=by
 have hx: ∀b,H b=none->b≠x:=fun b n z=>by subst z;rw[n]at mu;exact mu
 have hb: ∀b,H b=none->b≠e:=fun b n z=>by
  subst z
  rcases he with r | r
  ·exact hx b n r
  ·rw[n]at r;cases r
 have hm: ∀b u,H b=some u-> ¬MH (some u)->b≠x:=fun b u q nm z=>by subst z;rw[q]at mu;exact nm mu
 refine ⟨fun b u q n _ _=>k b u (hb b n) q,fun b u q n _ _=>⟨u.slots,k b u (hb b n) q⟩,fun b u q n _=>by rw[ao (hx b n)];exact n,fun b u q _=>?_,
  fun b xs q=>by rw[ao (hm b _ q fun z=>z)];exact q,fun b u xs q=>by rw[ao (hm b _ q fun z=>z)];exact q,fun b ps q=>⟨#[],by rw[ao (hm b _ q fun z=>z),q];simp⟩⟩
 by_cases Eb:b=e
 ·subst Eb;exact Me
 ·exact ⟨u,k b u Eb q⟩
end
noncomputable def Qs (h:Heap) (H:Hp):List Addr:=(List.range h.objs.size).filter fun a=>(H a).isSome
noncomputable def rm (h:Heap) (H:Hp):Heap:=PySem.W.hideAll h (Qs h H)
theorem zH (h:Heap) (H:Hp):(rm h H).objs.size=h.objs.size:=PySem.W.hideAll_size _ _
theorem BH {h:Heap} {H:Hp} {b:Addr} {o:Obj} (e:h.get? b=some o) (n:H b=none):(rm h H).get? b=some o:=
 PySem.W.hideAll_get _ e fun hm=>by
  have q:(H b).isSome=true:=(Qbb.mp hm).2
  rw[n]at q;simp at q
theorem ED {h:Heap} {H:Hp} {b:Addr} {o:Obj} (e:(rm h H).get? b=some o):h.get? b=some o/\H b=none:=by
 have e':h.get? b=some o:=PySem.W.of_hideAll (Qs h H) e
 refine ⟨e',?_⟩
 cases q:H b with
 | none=>rfl
 | some x=>
  have hm:b∈Qs h H:=Qbb.mpr ⟨Qc1.mpr (Qac e'),by simp[q]⟩
  have z:(rm h H).get? b=none:=PySem.W.hideAll_none (Qs h H) hm
  rw[z]at e;cases e
noncomputable def EE (g h:Heap) (L:Addr):List (Addr×Obj):=(List.range h.objs.size).filterMap fun a=>if a=L\/(g.get? a).isSome=true then none else (h.get? a).map fun o=>(a,o)
noncomputable def rest (g h:Heap) (L d:Addr):List (Addr×Obj):=(EE g h L).filter fun p=>decide (p.1≠d)
structure Mod (K:PySem.W.Frag) (mg:Str->Option Value) (base:Heap):Prop where
 G3:K.In base
 glob:base.Ns mainGlobals mg
 blt: ∃mb,base.Ns builtinsNs mb/\ ∀x:Str,x≠"__name__"->mb x=bootBuiltins x
 nolimit:base.NoLimit
structure Cx where
 prog:Program
 w:World
 K:PySem.W.Frag
 mg:Str->Option Value
 base:Heap
 A:Around
 N:List Str
 s₀:Shared
 H₀:Hp
 env:Env
 outer:List Env
 stack:List Env
 ex:List Addr
 fn:Str->Bool
 calm:Bool
 pn:List (Addr×Obj)
 xe:Value->Shared->Prop
noncomputable def jO (l:List Env):List Addr:=l.filterMap (·.frame)
noncomputable abbrev Cx.fs (X:Cx):List Addr:=jO X.outer
def x_ (sc:Scope) (x:Str):Prop:=sc.names.lookup x=some .local\/sc.names.lookup x=some .cell\/sc.names.lookup x=some .free
def Loc (sc:Scope) (x:Str):Prop:=sc.names.lookup x=some .local\/sc.names.lookup x=some .cell
def Look (env:Env) (h:Heap) (m:Str->Option Value) (x:Str) (u:Value):Prop:=
 (env.kindOf x=some .local/\m x=some u)\/((env.kindOf x=some .cell\/env.kindOf x=some .free)/\ ∃c,env.cells.lookup x=some c/\h.IsCell c (some u))
structure Cx.Ok (X:Cx):Prop where
 mod:Mod X.K X.mg X.base
 kind:X.env.scope.kind= .function
 glob:X.env.globals=mainGlobals
 blt:X.env.builtins=builtinsNs
 above:X.s₀.heap.objs.size<=X.env.locals
 inj: ∀x y c,X.env.cells.lookup x=some c->X.env.cells.lookup y=some c->x=y
 has: ∀x,(X.env.kindOf x=some .cell\/X.env.kindOf x=some .free)-> ∃c,X.env.cells.lookup x=some c
 G4: ∀x c,X.fn x=true->X.env.cells.lookup x=some c->X.s₀.heap.objs.size<=c
 hd:X.calm=true->X.A.handled=none
 frames:X.A.frames=some X.stack
 G5:X.stack=X.outer\/(X.stack=X.env::X.outer/\X.env.frame=some X.env.locals)
 MJ: ∀b∈X.ex,b≠X.env.locals/\ ∀x c,X.env.cells.lookup x=some c->c≠b
 bs: ∀b o,X.base.get? b=some o->X.s₀.heap.get? b=some o/\X.H₀ b=none
 Bw:X.base.objs.size<=X.s₀.heap.objs.size
 t_: ∀b o,X.base.get? b=some o->b∉X.ex
 wA: ∀b∈X.ex,b∉X.fs
 jP:X.s₀.heap.FunFrames X.base X.outer
 Ec: ∀b∈X.fs,X.H₀ b=none
structure Inv (X:Cx) (pins:List (Addr×Obj)) (σ:List (Option V)) (H:Hp) (s:Shared):Prop where
 ok:X.Ok
 os:s.os=X.s₀.os
 bare:AllBare s.gens
 base:Un X.fs X.ex X.H₀ H X.s₀.heap s.heap
 loc: ∃m,s.heap.Ns X.env.locals m/\ ∀(i:Nat) (x:Str) (v:V),X.N[i]? =some x->σ[i]? =some (some v)->x_ X.env.scope x-> ∃u,RelV v u/\Look X.env s.heap m x u
 cell: ∀x c,X.env.cells.lookup x=some c-> ∃v,s.heap.IsCell c v
 free:H X.env.locals=none
 dQ: ∀x c,X.env.cells.lookup x=some c->H c=none
 pin: ∀p∈X.pn++pins,s.heap.get? p.1=some p.2/\H p.1=none/\p.1≠X.env.locals/\p.1∉X.fs/\ ∀v,p.2.data≠ .cell v
 bg:hW X.prog X.w H s.heap
 len:σ.length=X.N.length
section
variable {X:Cx} {pins:List (Addr×Obj)} {σ:List (Option V)} {H H':Hp} {s:Shared} {h':Heap}
theorem Cx.Ok.RL (ok:X.Ok) {b:Addr} {o:Obj} (e:X.base.get? b=some o):b∉X.fs:=fun hb=>by
 have:=(ok.jP.mem hb).1
 rw[e]at this;cases this
theorem Inv.bs (I:Inv X pins σ H s): ∀b o,X.base.get? b=some o->s.heap.get? b=some o/\H b=none:=fun b o e=>
 ⟨I.base.keep b o (I.ok.bs b o e).1 (I.ok.bs b o e).2 (I.ok.RL e) (I.ok.t_ b o e),I.base.free b o (I.ok.bs b o e).1 (I.ok.bs b o e).2 (I.ok.t_ b o e)⟩
theorem Inv.bk (I:Inv X pins σ H s): ∀b o,X.base.get? b=some o->s.heap.get? b=some o:=fun b o e=>(I.bs b o e).1
theorem Inv.mod (I:Inv X pins σ H s):Mod X.K X.mg X.base:=I.ok.mod
theorem Inv.iH (I:Inv X pins σ H s):X.K.In s.heap:=I.ok.mod.G3.keeps I.bk
theorem Inv.lt (I:Inv X pins σ H s):X.env.locals<s.heap.objs.size:=let ⟨_,hn,_⟩:=I.loc;hn.lt
theorem Inv.sz (I:Inv X pins σ H s):X.s₀.heap.objs.size<=s.heap.objs.size:=Qa1 I.ok.above (Qc7 I.lt)
theorem Inv.EF (I:Inv X pins σ H s) {a:Addr} (h:s.heap.objs.size<=a):a∉X.fs:=fun hb=>by
 obtain ⟨_,o,ho,_⟩:=I.ok.jP.mem hb
 exact absurd (Qaf (Qac ho) (Qa1 I.sz h)) (Qb1 _)
theorem Inv.EG (I:Inv X pins σ H s): ∀x c,X.env.cells.lookup x=some c->c≠X.env.locals:=fun x c e z=>by
 obtain ⟨v,o,ho,hd⟩:=I.cell x c e
 obtain ⟨m,⟨o',es,ep,zI,Jj,_⟩,_⟩:=I.loc
 rw[z,zI]at ho;cases ho;rw[Jj]at hd;cases hd
theorem Inv.jP (I:Inv X pins σ H s):s.heap.FunFrames X.base X.outer:=by
 have all: ∀(l:List Env),(∀b∈jO l,b∈X.fs)->X.s₀.heap.FunFrames X.base l->s.heap.FunFrames X.base l:=by
  intro l
  induction l with
  | nil=>intro _ _;trivial
  | cons env r ih=>
   intro hs hl
   obtain ⟨hk,⟨L,o,hf,hn,ho,hd⟩,hr⟩:=hl
   have hL:L∈X.fs:=hs L (by unfold jO;rw[Qcc,hf];exact ZC)
   obtain ⟨sl,e⟩:=I.base.slot L o ho (I.ok.Ec L hL) hL fun z=>I.ok.wA L z hL
   exact ⟨hk,⟨L,_,hf,hn,e,hd⟩,ih (fun b hb=>hs b (by unfold jO;rw[Qcc,hf];exact Zz _ hb)) hr⟩
 exact all X.outer (fun _ hb=>hb) I.ok.jP
theorem Inv.stack (I:Inv X pins σ H s):s.heap.FunFrames X.base X.stack:=by
 rcases I.ok.G5 with e | ⟨e,hf⟩
 ·rw[e];exact I.jP
 ·rw[e]
  obtain ⟨m,hn,_⟩:=I.loc
  refine .cons (by rw[I.ok.kind];decide) hf hn ?_ I.jP
  exact Qdv (Qa1 I.ok.Bw I.ok.above)
theorem Inv.hZ (I:Inv X pins σ H s): ∀b∈jO X.stack,b∈X.env.locals::X.fs:=fun b hb=>by
 rcases I.ok.G5 with e | ⟨e,hf⟩
 ·rw[e]at hb;exact Zz _ hb
 ·rw[e]at hb
  unfold jO at hb
  rw[Qcc,hf]at hb
  exact hb
theorem Inv.mM (I:Inv X pins σ H s): ∀b∈jO X.stack,H b=none:=fun b hb=>by
 rcases XB.mp (I.hZ b hb) with e | hb
 ·rw[e];exact I.free
 ·obtain ⟨_,o,ho,_⟩:=I.ok.jP.mem hb
  exact I.base.free b o ho (I.ok.Ec b hb) fun z=>I.ok.wA b z hb
theorem Inv.step {g':Array GenState} {t':Nat} {d':Drawn} {ch:List Addr} (I:Inv X pins σ H s)
  (Bx: ∀b∈ch,(b∈X.ex\/X.s₀.heap.objs.size<=b)/\b≠X.env.locals/\(∀x c,X.env.cells.lookup x=some c->c≠b)/\ ∀p∈X.pn++pins,p.1≠b)
  (keep: ∀b o,b≠X.env.locals->b∉X.fs->b∉ch->s.heap.get? b=some o->H b=none->h'.get? b=some o)
  (slot: ∀b o,b≠X.env.locals->b∈X.fs->b∉ch->s.heap.get? b=some o->H b=none-> ∃sl,h'.get? b=some { o with slots:=sl }) (free: ∀b o,b∉ch->s.heap.get? b=some o->H b=none->H' b=none)
  (there: ∀b o,b∉ch->s.heap.get? b=some o-> ∃o',h'.get? b=some o')
  (hX: ∀b xs,H b=some (.tup xs)->H' b=some (.tup xs)) (iG: ∀b o u,H b=some (.j6 o u)->H' b=some (.j6 o u)) (jN: ∀b ps,H b=some (.G2 ps)-> ∃more,H' b=some (.G2 (ps++more)))
  (ns: ∀m,s.heap.Ns X.env.locals m->h'.Ns X.env.locals m) (bg:hW X.prog X.w H' h') (hg:AllBare g'):
  Inv X pins σ H' { s with heap:=h',gens:=g',drawn:=d',toks:=t' }:=by
 have G6: ∀b o,X.s₀.heap.get? b=some o->b≠X.env.locals:=fun b o e=>Qa0 (Qaf (Qac e) I.ok.above)
 have Ed: ∀b o,X.s₀.heap.get? b=some o->b∉X.ex->b∉ch:=fun b o e hx hb=>by
  rcases (Bx b hb).1 with z | z
  ·exact hx z
  ·exact absurd (Qaf (Qac e) z) (Qb1 _)
 have cellK: ∀x c,X.env.cells.lookup x=some c-> ∀v,s.heap.IsCell c v->h'.IsCell c v:=fun x c e v ⟨o,ho,hd⟩=>by
  have MK:c∉ch:=fun z=>(Bx c z).2.2.1 x c e rfl
  by_cases hc:c∈X.fs
  ·obtain ⟨sl,q⟩:=slot c o (I.EG x c e) hc MK ho (I.dQ x c e)
   exact ⟨_,q,hd⟩
  ·exact ⟨o,keep c o (I.EG x c e) hc MK ho (I.dQ x c e),hd⟩
 refine ⟨I.ok,I.os,hg,⟨fun b o e n hb hx=>?_,fun b o e n hb hx=>?_,fun b o e n hx=>?_,fun b o e hx=>?_,fun b xs e=>hX b xs (I.base.hX b xs e),fun b o xs e=>iG b o xs (I.base.iG b o xs e),fun b ps e=>?_⟩,?_,fun x c e=>?_,?_,fun x c e=>?_,fun p hp=>?_,bg,I.len⟩
 ·exact keep b o (G6 b o e) hb (Ed b o e hx) (I.base.keep b o e n hb hx) (I.base.free b o e n hx)
 ·obtain ⟨sl,e1⟩:=I.base.slot b o e n hb hx
  obtain ⟨Zo,e2⟩:=slot b _ (G6 b o e) hb (Ed b o e hx) e1 (I.base.free b o e n hx)
  exact ⟨Zo,e2⟩
 ·obtain ⟨o',e1⟩:=I.base.there b o e hx
  exact free b o' (Ed b o e hx) e1 (I.base.free b o e n hx)
 ·obtain ⟨o',e1⟩:=I.base.there b o e hx
  exact there b o' (Ed b o e hx) e1
 ·obtain ⟨m1,e1⟩:=I.base.jN b ps e
  obtain ⟨m2,e2⟩:=jN b _ e1
  exact ⟨m1++m2,by rw[e2,Array.append_assoc]⟩
 ·obtain ⟨m,hn,hl⟩:=I.loc
  refine ⟨m,ns m hn,fun i x v e1 e2 e3=>?_⟩
  obtain ⟨u,r,l⟩:=hl i x v e1 e2 e3
  refine ⟨u,r,?_⟩
  rcases l with l | ⟨k,c,e,z⟩
  ·exact .inl l
  ·exact .inr ⟨k,c,e,cellK x c e _ z⟩
 ·obtain ⟨v,z⟩:=I.cell x c e
  exact ⟨v,cellK x c e v z⟩
 ·obtain ⟨m,⟨o,_,_,ho,_⟩,_⟩:=I.loc
  exact free _ o (fun z=>(Bx _ z).2.1 rfl) ho I.free
 ·obtain ⟨v,o,ho,hd⟩:=I.cell x c e
  exact free c o (fun z=>(Bx c z).2.2.1 x c e rfl) ho (I.dQ x c e)
 ·obtain ⟨e,n,ne,nf,d⟩:=I.pin p hp
  have MK:p.1∉ch:=fun z=>(Bx p.1 z).2.2.2 p hp rfl
  exact ⟨keep p.1 p.2 ne nf MK e n,free p.1 p.2 MK e n,ne,nf,d⟩
theorem Inv.un {t':Nat} (I:Inv X pins σ H s) (u:Un X.fs [] H H' s.heap h') (bg:hW X.prog X.w H' h'):Inv X pins σ H' { s with heap:=h',toks:=t' }:=by
 obtain ⟨m,⟨o,es,ep,ho,r⟩,_⟩:=id I.loc
 obtain ⟨sl,hL⟩:=u.any ho I.free (by simp)
 exact I.step (g':=s.gens) (d':=s.drawn) (ch:=[]) (fun _ z=>nomatch z) (fun b o _ hb _ e n=>u.keep b o e n hb (by simp)) (fun b o _ hb _ e n=>u.slot b o e n hb (by simp)) (fun b o _ e n=>u.free b o e n (by simp)) (fun b o _ e=>u.there b o e (by simp)) u.hX u.iG u.jN (fun m' hm=>by
  obtain ⟨o',Qt,Qu,zI,r'⟩:=hm
  rw[ho]at zI;cases zI
  exact ⟨_,Qt,Qu,hL,r'⟩) bg I.bare
theorem Inv.call {g':Array GenState} {t':Nat} {d':Drawn} {ch:List Addr} (I:Inv X pins σ H s) (u:Un (jO X.stack) ch H H' s.heap h') (bg:hW X.prog X.w H' h') (hg:AllBare g')
  (Bx: ∀b∈ch,(b∈X.ex\/X.s₀.heap.objs.size<=b)/\b≠X.env.locals/\(∀x c,X.env.cells.lookup x=some c->c≠b)/\ ∀p∈X.pn++pins,p.1≠b):
  Inv X pins σ H' { s with heap:=h',gens:=g',drawn:=d',toks:=t' }:=by
 obtain ⟨m,⟨o,es,ep,ho,r⟩,_⟩:=id I.loc
 obtain ⟨sl,hL⟩:=u.any ho I.free fun z=>(Bx _ z).2.1 rfl
 exact I.step (ch:=ch) Bx (fun b o hL hb hc e n=>u.keep b o e n (fun z=>(XB.mp (I.hZ b z)).elim hL hb) hc) (fun b o _ _ hc e n=>u.any e n hc) (fun b o hc e n=>u.free b o e n hc) (fun b o hc e=>u.there b o e hc) u.hX u.iG u.jN (fun m' hm=>by
  obtain ⟨o',Qt,Qu,zI,r'⟩:=hm
  rw[ho]at zI;cases zI
  exact ⟨_,Qt,Qu,hL,r'⟩) bg hg
theorem Inv.turned {t':Nat} {it:Addr} (I:Inv X pins σ H s) (k: ∀b o,b≠it->s.heap.get? b=some o->h'.get? b=some o) (hn:H it=none) (hL:it≠X.env.locals)
  (h1:it∈X.ex\/X.s₀.heap.objs.size<=it) (h2: ∀x c,X.env.cells.lookup x=some c->c≠it) (h3: ∀p∈X.pn++pins,p.1≠it):Inv X pins σ H { s with heap:=h',toks:=t' }:=by
 have G7: ∀b u,H b=some u->b≠it:=fun b u e z=>by rw[z,hn]at e;cases e
 refine I.step (g':=s.gens) (d':=s.drawn) (ch:=[it]) (fun b hb=>?_) (fun b o _ _ hc e _=>k b o (fun z=>hc (by simp[z])) e) (fun b o _ _ hc e _=>⟨o.slots,k b o (fun z=>hc (by simp[z])) e⟩) (fun _ _ _ _ n=>n)
  (fun b o hc e=>⟨o,k b o (fun z=>hc (by simp[z])) e⟩) (fun _ _ e=>e) (fun _ _ _ e=>e) (fun b ps e=>⟨#[],by rw[e];simp⟩) (fun m hm=>?_) (fun b u e=>?_) I.bare
 ·have e:b=it:=by simpa using hb
  subst e
  exact ⟨h1,hL,h2,h3⟩
 ·obtain ⟨o,es,ep,ho,r⟩:=hm
  exact ⟨o,es,ep,k _ o (Ne.symm hL) ho,r⟩
 ·refine (I.bg b u e).jt (fun c v hc q=>k c v ?_ q) (fun _ q=>q) fun _ _ q=>q
  rcases hc with z | z
  ·rw[z];exact G7 b u e
  ·exact G7 c _ z
theorem Inv.tok (I:Inv X pins σ H s) (t:Nat):Inv X pins σ H { s with toks:=t }:=I.un (h':=s.heap) (t':=t) Un.refl I.bg
theorem Inv.kept {t':Nat} (I:Inv X pins σ H s) (k: ∀b u,s.heap.get? b=some u->h'.get? b=some u):Inv X pins σ H { s with heap:=h',toks:=t' }:=I.un (Un.kept k) (I.bg.kept k)
theorem Inv.laid {a:Addr} {o:HO} {t':Nat} (I:Inv X pins σ H s) (k: ∀b u,s.heap.get? b=some u->h'.get? b=some u) (hp:s.heap.objs.size<=a) (new:bK X.prog X.w (upd H a o) h' a o):
  Inv X pins σ (upd H a o) { s with heap:=h',toks:=t' }:=I.un (Un.laid k hp (I.bg.fresh hp)) (I.bg.laid k hp new)
theorem Inv.write {x e:Addr} {o:HO} {t':Nat} (I:Inv X pins σ H s) (mu:MH (H x)) (he:e=x\/H e=some (.own x)) (k: ∀b u,b≠e->s.heap.get? b=some u->h'.get? b=some u) (Me: ∃u,h'.get? e=some u)
  (new:bK X.prog X.w (upd H x o) h' x o):Inv X pins σ (upd H x o) { s with heap:=h',toks:=t' }:=I.un (Un.write mu he k Me) (I.bg.write mu he k Me new)
theorem Inv.weak {σ':List (Option V)} (I:Inv X pins σ H s) (hl:σ'.length=σ.length) (w: ∀(i:Nat) v,σ'[i]? =some (some v)->σ[i]? =some (some v)):Inv X pins σ' H s:=
 ⟨I.ok,I.os,I.bare,I.base,let ⟨m,hn,Ee⟩:=I.loc;⟨m,hn,fun i x v e1 e2 e3=>Ee i x v e1 (w i v e2) e3⟩,I.cell,I.free,I.dQ,I.pin,I.bg,hl.trans I.len⟩
theorem Inv.h_ {p_:List (Addr×Obj)} (I:Inv X pins σ H s) (h: ∀p∈p_,s.heap.get? p.1=some p.2/\H p.1=none/\p.1≠X.env.locals/\p.1∉X.fs/\ ∀v,p.2.data≠ .cell v):Inv X p_ σ H s:=
 ⟨I.ok,I.os,I.bare,I.base,I.loc,I.cell,I.free,I.dQ,fun p hp=>(Qaa.mp hp).elim (fun z=>I.pin p (Qbr _ z)) (h p),I.bg,I.len⟩
theorem m8 {N:List Str} (hN:N.Nodup) {i j:Nat} {x:Str} (a:N[i]? =some x) (b:N[j]? =some x):i=j:=by
 obtain ⟨h1,e1⟩:=Xy.mp a
 obtain ⟨h2,e2⟩:=Xy.mp b
 exact (List.getElem_inj hN).mp (e1.trans e2.symm)
theorem zJ {M:Model} {A:Around} {E:Value->Shared->Prop} {i:Nat} {x:Str} {v:V} {u:Value} {Q:Unit->Shared->Prop} (I:Inv X pins σ H s) (hN:X.N.Nodup) (hi:X.N[i]? =some x) (hx:Loc X.env.scope x) (r:RelV v u)
  (h: ∀s',Inv X pins (σ.set i (some v)) H s'->(∃a,Heap.SameBut a s.heap s'.heap/\(a=X.env.locals\/X.env.cells.lookup x=some a))->Q () s') (hf:X.fn x=true\/X.env.scope.names.lookup x=some .local:=by first | exact .inl rfl | exact .inr rfl | assumption):wpAny M A (storeName X.env x u) Q E s:=by
 obtain ⟨m,hn,hl⟩:=id I.loc
 have m9:(X.env.scope.kind== .class||(X.env.scope.kind== .module&&X.env.locals != X.env.globals))=false:=by rw[I.ok.kind];rfl
 have Xm:i<σ.length:=by rw[I.len];exact (Xy.mp hi).1
 have EG:=I.EG
 have tracked: ∀{a:Addr} {h':Heap},(∃o,s.heap.get? a=some o/\H a=none)->Heap.SameBut a s.heap h'->hW X.prog X.w H h':=fun {a h'} ha hs b ob e=>by
  obtain ⟨_,_,G8⟩:=ha
  refine (I.bg b ob e).jt (fun c w' hc q=>(hs.2 c ?_).trans q) (fun _ q=>q) fun _ _ q=>q
  rintro rfl
  rcases hc with rfl | hc
  ·rw[G8]at e;cases e
  ·rw[G8]at hc;cases hc
 rcases hx with hk | hk
 ·refine wpAny_storeName_local hk hn (fun h' EH hs=>?_) m9
  obtain ⟨oL,_,_,ya,_⟩:=id hn
  refine h _ ⟨I.ok,I.os,I.bare,⟨fun b o e n hb hx=>?_,fun b o e n hb hx=>?_,I.base.free,fun b o e hx=>?_,I.base.hX,I.base.iG,I.base.jN⟩,⟨_,EH,fun j y v' e1 e2 e3=>?_⟩,fun y c e=>?_,I.free,I.dQ,fun p hp=>?_,tracked ⟨oL,ya,I.free⟩ hs,by simpa using I.len⟩ ⟨_,hs, .inl rfl⟩
  ·exact (hs.2 b (Qa0 (Qaf (Qac e) I.ok.above))).trans (I.base.keep b o e n hb hx)
  ·obtain ⟨sl,e1⟩:=I.base.slot b o e n hb hx
   exact ⟨sl,(hs.2 b (Qa0 (Qaf (Qac e) I.ok.above))).trans e1⟩
  ·obtain ⟨o',e1⟩:=I.base.there b o e hx
   exact ⟨o',(hs.2 b (Qa0 (Qaf (Qac e) I.ok.above))).trans e1⟩
  ·by_cases hj:j=i
   ·subst hj
    rw[hi]at e1;cases e1
    rw[Qc4 Xm]at e2
    cases e2
    exact ⟨u,r, .inl ⟨hk,by simp⟩⟩
   ·rw[Qef (Ne.symm hj)]at e2
    obtain ⟨u',r',q⟩:=hl j y v' e1 e2 e3
    refine ⟨u',r',?_⟩
    rcases q with ⟨k,e⟩ | ⟨k,c,e,z⟩
    ·refine .inl ⟨k,?_⟩
     have:y≠x:=fun e=>hj (m8 hN e1 (e▸hi))
     simp[this,e]
    ·exact .inr ⟨k,c,e,z.sameBut hs (EG y c e)⟩
  ·obtain ⟨w',z⟩:=I.cell y c e
   exact ⟨w',z.sameBut hs (EG y c e)⟩
  ·obtain ⟨e,n,ne,nf,d⟩:=I.pin p hp
   exact ⟨(hs.2 p.1 ne).trans e,n,ne,nf,d⟩
 ·have RM:X.fn x=true:=by
   rcases hf with z | z
   ·exact z
   ·rw[z]at hk;cases hk
  obtain ⟨c,hc⟩:=I.ok.has x (.inl hk)
  obtain ⟨w',z⟩:=I.cell x c hc
  refine wpAny_storeName_cell I.ok.kind hk hc z (fun h' zK hs=>?_)
  obtain ⟨oc,Xn,RN⟩:=id z
  refine h { s with heap:=h' } ⟨I.ok,I.os,I.bare,⟨fun b o e n hb hx=>?_,fun b o e n hb hx=>?_,I.base.free,fun b o e hx=>?_,I.base.hX,I.base.iG,I.base.jN⟩,⟨m,hn.sameBut hs (Ne.symm (EG x c hc)),fun j y v' e1 e2 e3=>?_⟩,fun y c' e=>?_,I.free,I.dQ,fun p hp=>?_,tracked ⟨oc,Xn,I.dQ x c hc⟩ hs,by simpa using I.len⟩ ⟨c,hs, .inr hc⟩
  ·exact (hs.2 b (Qa0 (Qaf (Qac e) (I.ok.G4 x c RM hc)))).trans (I.base.keep b o e n hb hx)
  ·obtain ⟨sl,e1⟩:=I.base.slot b o e n hb hx
   exact ⟨sl,(hs.2 b (Qa0 (Qaf (Qac e) (I.ok.G4 x c RM hc)))).trans e1⟩
  ·obtain ⟨o',e1⟩:=I.base.there b o e hx
   exact ⟨o',(hs.2 b (Qa0 (Qaf (Qac e) (I.ok.G4 x c RM hc)))).trans e1⟩
  ·by_cases hj:j=i
   ·subst hj
    rw[hi]at e1;cases e1
    rw[Qc4 Xm]at e2
    cases e2
    exact ⟨u,r, .inr ⟨.inl hk,c,hc,zK⟩⟩
   ·rw[Qef (Ne.symm hj)]at e2
    obtain ⟨u',r',q⟩:=hl j y v' e1 e2 e3
    refine ⟨u',r',?_⟩
    rcases q with q | ⟨k,c',e,z'⟩
    ·exact .inl q
    ·refine .inr ⟨k,c',e,z'.sameBut hs ?_⟩
     rintro rfl
     exact hj (m8 hN e1 (I.ok.inj _ _ _ e hc▸hi))
  ·by_cases Xo:c'=c
   ·subst Xo;exact ⟨_,zK⟩
   ·obtain ⟨w2,z2⟩:=I.cell y c' e
    exact ⟨w2,z2.sameBut hs Xo⟩
  ·obtain ⟨e,n,ne,nf,d⟩:=I.pin p hp
   refine ⟨(hs.2 p.1 ?_).trans e,n,ne,nf,d⟩
   intro q
   rw[q,Xn]at e
   have q':oc=p.2:=Qae e
   exact d w' (by rw[<-q'];exact RN)
theorem cL {M:Model} {A:Around} {E:Value->Shared->Prop} {i:Nat} {x:Str} {v:V} {u:Value} {Q:Unit->Shared->Prop} (I:Inv X pins σ H s) (hN:X.N.Nodup) (hi:X.N[i]? =some x) (hx:Loc X.env.scope x) (r:RelV v u)
  (h: ∀s',Inv X pins (σ.set i (some v)) H s'->Q () s') (hf:X.fn x=true\/X.env.scope.names.lookup x=some .local:=by first | exact .inl rfl | exact .inr rfl | assumption):wpAny M A (storeName X.env x u) Q E s:=
 zJ I hN hi hx r (fun s' I' _=>h s' I') hf
theorem Inv.G9 {s':Shared} {ch:List Addr} (I:Inv X pins σ H s) (ho:s'.os=s.os) (u:Un (jO X.stack) ch H H' s.heap s'.heap) (bg:hW X.prog X.w H' s'.heap) (hg:AllBare s'.gens)
  (Bx: ∀b∈ch,(b∈X.ex\/X.s₀.heap.objs.size<=b)/\b≠X.env.locals/\(∀x c,X.env.cells.lookup x=some c->c≠b)/\ ∀p∈X.pn++pins,p.1≠b):Inv X pins σ H' s':=by
 obtain ⟨h',g',d',t',o'⟩:=s'
 have e:o'=s.os:=ho
 subst e
 exact I.call (g':=g') (t':=t') (d':=d') u bg hg Bx
end
abbrev XK:=Value->Option Addr->Hp->Prop
abbrev St:=List (Option V)
abbrev VK:=V->Hp->Prop
abbrev TE:=St->Hp->VK->Prop
abbrev TT:=St->Hp->(Bool->Hp->Prop)->Prop
abbrev TA:=St->Hp->(List V->Hp->Prop)->Prop
structure Ends where
 nx:St->Hp->Prop
 rt:VK
 bk:St->Hp->Prop:=fun _ _=>False
 ct:St->Hp->Prop:=fun _ _=>False
abbrev TS:=Ends->St->Hp->Prop
def EP (X:Cx) (pins:List (Addr×Obj)) (σ:St) (Q:VK) (u:Value) (s':Shared):Prop:= ∃v H',Inv X pins σ H' s'/\RelV v u/\Q v H'
def TP (X:Cx) (pins:List (Addr×Obj)) (σ:St) (Q:Bool->Hp->Prop) (b:Bool) (s':Shared):Prop:= ∃H',Inv X pins σ H' s'/\Q b H'
def AP (X:Cx) (pins:List (Addr×Obj)) (σ:St) (Q:List V->Hp->Prop) (us:List Value) (s':Shared):Prop:= ∃vs H',Inv X pins σ H' s'/\Vals vs us/\Q vs H'
def SP (X:Cx) (pins:List (Addr×Obj)) (D:Ends) (f:Flow) (s':Shared):Prop:=
 match f with
 | .next=> ∃σ' H',Inv X pins σ' H' s'/\D.nx σ' H'
 | .brk=> ∃σ' H',Inv X pins σ' H' s'/\D.bk σ' H'
 | .cont=> ∃σ' H',Inv X pins σ' H' s'/\D.ct σ' H'
 | .ret u=> ∃v σ' H',Inv X pins σ' H' s'/\RelV v u/\D.rt v H'
def PE (X:Cx) (e:Expr) (t:TE):Prop:=
 ∀(pins:List (Addr×Obj)) (s:Shared) (σ:St) (H:Hp) (Q:VK),Inv X pins σ H s->t σ H Q->wpAny (model X.prog X.w) X.A (eval e X.env) (EP X pins σ Q) X.xe s
def PT (X:Cx) (e:Expr) (t:TT):Prop:=
 ∀(pins:List (Addr×Obj)) (s:Shared) (σ:St) (H:Hp) (Q:Bool->Hp->Prop),Inv X pins σ H s->t σ H Q->wpAny (model X.prog X.w) X.A (isTrue e X.env (eval e X.env)) (TP X pins σ Q) X.xe s
def PW (X:Cx) (e:Expr) (t:TT):Prop:=
 ∀(whole:Sem Value) (pins:List (Addr×Obj)) (s:Shared) (σ:St) (H:Hp) (Q:Bool->Hp->Prop),Inv X pins σ H s->t σ H Q->wpAny (model X.prog X.w) X.A (isTrue e X.env whole) (TP X pins σ Q) X.xe s
theorem PW.pt {X:Cx} {e:Expr} {t:TT} (h:PW X e t):PT X e t:=h _
def PA (X:Cx) (es:List Expr) (t:TA):Prop:=
 ∀(pos:Pos) (pins:List (Addr×Obj)) (s:Shared) (σ:St) (H:Hp) (Q:List V->Hp->Prop),Inv X pins σ H s->t σ H Q->wpAny (model X.prog X.w) X.A (spliced (backTo pos (starEach es X.env))) (AP X pins σ Q) X.xe s
def PS (X:Cx) (st:Stmt) (t:TS):Prop:=
 ∀(pins:List (Addr×Obj)) (s:Shared) (σ:St) (H:Hp) (D:Ends),Inv X pins σ H s->t D σ H->wpAny (model X.prog X.w) X.A (exec st X.env) (SP X pins D) X.xe s
def kN (X:Cx) (st:List Stmt) (t:TS):Prop:=
 ∀(pins:List (Addr×Obj)) (s:Shared) (σ:St) (H:Hp) (D:Ends),Inv X pins σ H s->t D σ H->wpAny (model X.prog X.w) X.A (execs st X.env) (SP X pins D) X.xe s
theorem bN {α:Type} {t:Sem α} {Q Q':α->Shared->Prop} {M:Model} {A:Around} {E:Value->Shared->Prop} {s:Shared} (h:wpAny M A t Q E s) (hQ: ∀a s,Q a s->Q' a s):wpAny M A t Q' E s:=wpAny_mono h hQ fun _ _ x=>x
section
variable {X:Cx}
def kP (i:Nat):TE:=fun σ H Q=> ∃v,σ[i]? =some (some v)/\Q v H
def tC (v:V):TE:=fun _ H Q=>Q v H
theorem Jk {i:Nat} {x:Str} {pos:Pos} (hN:X.N[i]? =some x) (hv:x_ X.env.scope x) (hd:(x==("__debug__":Str))=false:=by decide) (lX:(x==("__classdict__":Str))=false:=by decide):PE X (.Name x pos) (kP i):=by
 intro pins s σ H Q I h
 obtain ⟨v,e,h⟩:=h
 obtain ⟨m,hn,hl⟩:=I.loc
 obtain ⟨u,r,l⟩:=hl i x v hN e hv
 have fin:EP X pins σ Q u s:=⟨v,H,I,r,h⟩
 rcases l with ⟨hk,hm⟩ | ⟨hk,c,hc,dD⟩
 ·exact wpAny_Name (wpAny_loadName_local I.ok.kind hk hn hm fin) hd
 ·rcases hk with hk | hk
  ·exact wpAny_Name (wpAny_loadName_cell I.ok.kind hk hc dD fin) hd
  ·exact wpAny_Name (wpAny_loadName_free I.ok.kind hk hc dD fin lX) hd
theorem au {i j pos}:PE X (.Constant (.int i) j pos) (tC (.int i)):=fun _ _ _ H _ I h=>wpAny_Constant_int ⟨.int i,H,I.tok _,⟨_,rfl⟩,h⟩
theorem yc {b j pos}:PE X (.Constant (.bool b) j pos) (tC (.bl b)):=fun _ _ _ H _ I h=>Constant_bool ⟨.bl b,H,I,rfl,h⟩
theorem dW {j pos}:PE X (.Constant .none j pos) (tC .cK):=fun _ _ _ H _ I h=>Constant_none ⟨.cK,H,I,rfl,h⟩
theorem Jl {x j pos}:PE X (.Constant (.str x) j pos) (tC (.str x)):=fun _ _ _ H _ I h=>Qd5 ⟨.str x,H,I.tok _,⟨_,rfl⟩,h⟩
def Gl (X:Cx) (x:Str):Prop:=X.env.kindOf x=some .globalImplicit
theorem f_ {E:Value->Shared->Prop} {pins:List (Addr×Obj)} {s:Shared} {σ:St} {H:Hp} {x:Str} {u:Value} {pos:Pos} {Q:Value->Shared->Prop} (I:Inv X pins σ H s) (hg:Gl X x) (hm:X.mg x=some u) (h:Q u s)
  (hd:(x==("__debug__":Str))=false:=by decide):wpAny (model X.prog X.w) X.A (eval (.Name x pos) X.env) Q E s:=
 Calls.Name_function_global I.ok.kind hg (Calls.loadGlobal_global (by rw[I.ok.glob];exact I.mod.glob.keeps I.bk) hm h) hd
theorem gv {E:Value->Shared->Prop} {pins:List (Addr×Obj)} {s:Shared} {σ:St} {H:Hp} {x:Str} {u:Value} {pos:Pos} {Q:Value->Shared->Prop} (I:Inv X pins σ H s) (hg:Gl X x) (hm:X.mg x=none) (hv:bootBuiltins x=some u) (h:Q u s)
  (hn:x≠"__name__":=by decide) (hd:(x==("__debug__":Str))=false:=by decide):wpAny (model X.prog X.w) X.A (eval (.Name x pos) X.env) Q E s:=by
 obtain ⟨mb,h1,h2⟩:=I.mod.blt
 exact Calls.Name_function_global I.ok.kind hg (Calls.loadGlobal_builtin (by rw[I.ok.glob];exact I.mod.glob.keeps I.bk) hm (by rw[I.ok.blt];exact h1.keeps I.bk) ((h2 x hn).trans hv) h) hd
theorem cT {x:Str} {v:V} {u:Value} {pos:Pos} (hg:Gl X x) (hm:X.mg x=some u) (r:RelV v u) (hd:(x==("__debug__":Str))=false:=by decide):PE X (.Name x pos) (tC v):=
 fun _ _ _ H _ I h=>f_ I hg hm ⟨v,H,I,r,h⟩ hd
theorem ye {x:Str} {v:V} {u:Value} {pos:Pos} (hg:Gl X x) (hm:X.mg x=none) (hv:bootBuiltins x=some u) (r:RelV v u) (hn:x≠"__name__":=by decide) (hd:(x==("__debug__":Str))=false:=by decide):PE X (.Name x pos) (tC v):=
 fun _ _ _ H _ I h=>gv I hg hm hv ⟨v,H,I,r,h⟩ hn hd
variable {a b:Expr} {ta tb:TE} {pos:Pos}
def tB (t:TE):TT:=fun σ H Q=>t σ H fun x H1=> ∃c,x= .bl c/\Q c H1
theorem iI {e:Expr} {t:TE} (h:PE X e t) (he: ∀whole,isTrue e X.env whole=(do let v <-whole;standAt e.pos;holding [v] (truthy v)):=by intro _;rfl):PT X e (tB t):=by
 intro pins s σ H Q I hw
 refine isTrue_plain (bN (h pins s σ H _ I hw) fun v s1 ⟨x,H1,I1,r1,q1⟩=>?_) (he _)
 obtain ⟨d,rfl,q⟩:=q1
 cases r1
 exact wpAny_truthy_bool ⟨H1,I1,q⟩
variable {tA Qv:TT} {rest:List Expr}
def RO (t u:TT):TT:=fun σ H Q=>t σ H fun c H1=>if c=true then u σ H1 Q else Q false H1
def Zp (t u:TT):TT:=fun σ H Q=>t σ H fun c H1=>if c=true then Q true H1 else u σ H1 Q
def RP (t:TT):TT:=fun σ H Q=>t σ H fun c H1=>Q (!c) H1
theorem rn (ha:PT X a tA):PW X (.BoolOp .And [a] pos) tA:=by
 intro wh pins s σ H Q I h
 refine isTrue_and (bN (ha pins s σ H Q I h) fun c s1 e=>?_)
 cases c with
 | true=>exact isTrue_and_nil e
 | false=>exact e
theorem kQ (ha:PT X a tA):PW X (.BoolOp .Or [a] pos) tA:=by
 intro wh pins s σ H Q I h
 refine isTrue_or (bN (ha pins s σ H Q I h) fun c s1 e=>?_)
 cases c with
 | false=>exact isTrue_or_nil e
 | true=>exact e
theorem wB (ha:PT X a tA) (hb:PW X (.BoolOp .And (b::rest) pos) Qv):PW X (.BoolOp .And (a::b::rest) pos) (RO tA Qv):=by
 intro wh pins s σ H Q I h
 refine isTrue_and (bN (ha pins s σ H _ I h) fun c s1 ⟨H1,I1,q1⟩=>?_)
 cases c with
 | true=>exact hb wh pins s1 σ H1 Q I1 q1
 | false=>exact ⟨H1,I1,q1⟩
theorem jz (ha:PT X a tA) (hb:PW X (.BoolOp .Or (b::rest) pos) Qv):PW X (.BoolOp .Or (a::b::rest) pos) (Zp tA Qv):=by
 intro wh pins s σ H Q I h
 refine isTrue_or (bN (ha pins s σ H _ I h) fun c s1 ⟨H1,I1,q1⟩=>?_)
 cases c with
 | true=>exact ⟨H1,I1,q1⟩
 | false=>exact hb wh pins s1 σ H1 Q I1 q1
theorem BI (ha:PT X a tA):PT X (.UnaryOp .Not a pos) (RP tA):=by
 intro pins s σ H Q I h
 exact isTrue_not (ha pins s σ H (fun c H1=>Q (!c) H1) I h)
def Zq (t:TT) (ta tb:TE):TE:=fun σ H Q=>t σ H fun c H1=>if c=true then ta σ H1 Q else tb σ H1 Q
theorem BJ {c:Expr} (hc:PT X c tA) (ha:PE X a ta) (hb:PE X b tb):PE X (.IfExp c a b pos) (Zq tA ta tb):=by
 intro pins s σ H Q I h
 refine wpAny_IfExp (bN (hc pins s σ H _ I h) fun d s1 ⟨H1,I1,q1⟩=>?_)
 cases d with
 | true=>exact ha pins s1 σ H1 Q I1 q1
 | false=>exact hb pins s1 σ H1 Q I1 q1
end
def aN (K:PySem.W.Frag) (H:Hp) (a:Addr) (xs:List V):Prop:=
 Rd H a (.lst xs)\/
  ∃(o:Obj) (aD:Array Value) (n:Nat),K.lookup a=some o/\o.cls= .type "list"/\o.dict=none/\o.data= .seq aD n/\aD.size<=sizeLine/\Vals xs aD.toList
def cU (K:PySem.W.Frag) (H:Hp) (a:Addr) (xs:List V):Prop:=
 Rd H a (.tup xs)\/
  ∃(o:Obj) (aD:Array Value) (n:Nat),K.lookup a=some o/\o.cls= .type "tuple"/\o.data= .seq aD n/\aD.size<=sizeLine/\Vals xs aD.toList
noncomputable def RQ:Value->Option V
 | .none=>some .cK
 | .bool b=>some (.bl b)
 | .int i _=>some (.int i)
 | .str x _=>some (.str x)
 | .bytes b _=>some (.Bv b)
 | .float b _=>some (.Jh b)
 | .ref a=>some (.ref a)
 | .type n=>some (.ty n)
 | _=>none
theorem RelV.abs {x:V} {u:Value} (r:RelV x u):RQ u=some x:=by
 cases x with
 | cK=>cases r;rfl
 | bl _=>cases r;rfl
 | int _=>obtain ⟨t,rfl⟩:=r;rfl
 | str _=>obtain ⟨t,rfl⟩:=r;rfl
 | Bv _=>obtain ⟨t,rfl⟩:=r;rfl
 | Jh _=>obtain ⟨t,rfl⟩:=r;rfl
 | ref _=>cases r;rfl
 | ty _=>cases r;rfl
theorem RelV.inj {x y:V} {u:Value} (r:RelV x u) (q:RelV y u):x=y:=Qae (r.abs.symm.trans q.abs)
theorem Vals.inj: ∀{xs ys:List V} {us:List Value},Vals xs us->Vals ys us->xs=ys
 | _,_,_, .nil, .nil=>rfl
 | _,_,_, .cons r t, .cons r' t'=>by rw[r.inj r',Vals.inj t t']
section
variable {X:Cx} {pins:List (Addr×Obj)} {σ:St} {H:Hp} {s:Shared} {a:Addr} {xs ys:List V}
theorem aN.of {K:PySem.W.Frag} (h:H a=some (.lst xs)):aN K H a xs:= .inl (.inl h)
theorem cU.of {K:PySem.W.Frag} (h:H a=some (.tup xs)):cU K H a xs:= .inl (.inl h)
theorem Inv.list (I:Inv X pins σ H s) (h:aN X.K H a xs): ∃aD:List Value,Vals xs aD/\PlainL s.heap a aD.toArray/\xs.length<=sizeLine:=by
 rcases h with h | ⟨o,aD,n,hk,hc,hd,hs,hz,r⟩
 ·obtain ⟨z,aD,n,r,e⟩:=h.ok I.bg
  exact ⟨aD,r,⟨_,n,e,rfl,rfl,rfl⟩,z⟩
 ·refine ⟨aD.toList,r,⟨o,n,I.iH a o hk,hc,hd,by simpa using hs⟩,?_⟩
  have e:=r.length
  simp only[Qaw]at e
  omega
theorem Inv.tuple (I:Inv X pins σ H s) (h:cU X.K H a xs): ∃aD:List Value,Vals xs aD/\IsTup s.heap a aD.toArray/\xs.length<=sizeLine:=by
 rcases h with h | ⟨o,aD,n,hk,hc,hs,hz,r⟩
 ·obtain ⟨z,aD,r,p⟩:=h.ok I.bg
  exact ⟨aD,r,p,z⟩
 ·refine ⟨aD.toList,r,⟨o,I.iH a o hk,hc,n,by simpa using hs⟩,?_⟩
  have e:=r.length
  simp only[Qaw]at e
  omega
theorem Inv.m_ (I:Inv X pins σ H s) (h:aN X.K H a xs) (h':aN X.K H a ys):xs=ys:=by
 obtain ⟨aD,r,⟨o,n,e,_,_,d⟩,_⟩:=I.list h
 obtain ⟨its',r',⟨o',n',e',_,_,d'⟩,_⟩:=I.list h'
 rw[e]at e';cases e'
 rw[d]at d'
 injection d' with d1 _
 have:aD=its':=by simpa using congrArg Array.toList d1
 subst this
 exact r.inj r'
theorem Inv.kR (I:Inv X pins σ H s) (h:cU X.K H a xs) (h':cU X.K H a ys):xs=ys:=by
 obtain ⟨aD,r,⟨o,e,_,n,d⟩,_⟩:=I.tuple h
 obtain ⟨its',r',⟨o',e',_,n',d'⟩,_⟩:=I.tuple h'
 rw[e]at e';cases e'
 rw[d]at d'
 injection d' with d1 _
 have:aD=its':=by simpa using congrArg Array.toList d1
 subst this
 exact r.inj r'
end
noncomputable abbrev Cx.ng (X:Cx) (E:Value->Shared->Prop):Cx:={ X with xe:=E }
noncomputable abbrev Cx.BK (X:Cx):Cx:=X.ng fun _ _=>False
theorem Cx.Ok.ng {X:Cx} (ok:X.Ok) (E:Value->Shared->Prop):(X.ng E).Ok:=
 ⟨ok.mod,ok.kind,ok.glob,ok.blt,ok.above,ok.inj,ok.has,ok.G4,ok.hd,ok.frames,ok.G5,ok.MJ,ok.bs,ok.Bw,ok.t_,ok.wA,ok.jP,ok.Ec⟩
theorem Cx.Ok.iJ {X:Cx} {E:Value->Shared->Prop} (ok:(X.ng E).Ok):X.Ok:=
 ⟨ok.mod,ok.kind,ok.glob,ok.blt,ok.above,ok.inj,ok.has,ok.G4,ok.hd,ok.frames,ok.G5,ok.MJ,ok.bs,ok.Bw,ok.t_,ok.wA,ok.jP,ok.Ec⟩
section
variable {X:Cx} {pins:List (Addr×Obj)} {σ:St} {H:Hp} {s:Shared} {E:Value->Shared->Prop}
theorem Inv.ng (I:Inv X pins σ H s) (E:Value->Shared->Prop):Inv (X.ng E) pins σ H s:=⟨I.ok.ng E,I.os,I.bare,I.base,I.loc,I.cell,I.free,I.dQ,I.pin,I.bg,I.len⟩
theorem Inv.iJ (I:Inv (X.ng E) pins σ H s):Inv X pins σ H s:=⟨I.ok.iJ,I.os,I.bare,I.base,I.loc,I.cell,I.free,I.dQ,I.pin,I.bg,I.len⟩
theorem SP.iJ {D:Ends} {f:Flow} {s':Shared} (h:SP (X.ng E) pins D f s'):SP X pins D f s':=by
 cases f with
 | next=>obtain ⟨σ',H',I,q⟩:=h;exact ⟨σ',H',I.iJ,q⟩
 | brk=>obtain ⟨σ',H',I,q⟩:=h;exact ⟨σ',H',I.iJ,q⟩
 | cont=>obtain ⟨σ',H',I,q⟩:=h;exact ⟨σ',H',I.iJ,q⟩
 | ret u=>obtain ⟨v,σ',H',I,r,q⟩:=h;exact ⟨v,σ',H',I.iJ,r,q⟩
theorem kN.BK {st:List Stmt} {t:TS} (h:kN X.BK st t):kN X st t:=fun pins s σ H D I hw=>
 wpAny_mono (h pins s σ H D (I.ng _) hw) (fun _ _ q=>q.iJ) fun _ _ z=>False.elim z
end
section
variable {X:Cx} {st:Stmt} {rest:List Stmt} {t u:TS} {e:Expr} {te:TE} {pos:Pos}
def G_:TS:=fun D σ H=>D.nx σ H
def Jm (t u:TS):TS:=fun D σ H=>t { D with nx:=u D } σ H
theorem bu:kN X [] G_:=fun _ _ σ H _ I h=>wpAny_execs_nil ⟨σ,H,I,h⟩
theorem ag (h1:PS X st t) (h2:kN X rest u):kN X (st::rest) (Jm t u):=by
 intro pins s σ H D I h
 refine wpAny_execs_cons (bN (h1 pins s σ H { D with nx:=u D } I h) fun f s1 q=>?_)
 cases f with
 | next=>
  obtain ⟨σ',H',I',q⟩:=q
  exact h2 pins s1 σ' H' D I' q
 | ret v=>exact q
 | brk=>exact q
 | cont=>exact q
theorem aj (h1:PS X st t):kN X [st] t:=by
 intro pins s σ H D I h
 refine wpAny_execs_cons (bN (h1 pins s σ H D I h) fun f s1 q=>?_)
 cases f with
 | next=>exact wpAny_execs_nil q
 | ret v=>exact q
 | brk=>exact q
 | cont=>exact q
def Jn:TS:=fun D σ H=>D.bk σ H
theorem BL:PS X (.Break pos) Jn:=fun _ _ σ H _ I h=>wpAny_Break ⟨σ,H,I,h⟩
theorem Inv.quiet {pins:List (Addr×Obj)} {σ:St} {H:Hp} {s:Shared} (I:Inv X pins σ H s):interactive X.env=false:=by simp[interactive,I.ok.kind]
def ML (te:TE):TS:=fun D σ H=>te σ H fun _ H1=>D.nx σ H1
theorem da (he:PE X e te) (hs:swapsWith e none pos.line X.env=pure false:=by rfl):PS X (.Expr e pos) (ML te):=by
 intro pins s σ H D I h
 exact wpAny_Expr_any (bN (he pins s σ H _ I h) fun v s1 ⟨x,H1,I1,r1,q1⟩=>⟨σ,H1,I1,q1⟩) I.quiet hs
def Jo (te:TE):TS:=fun D σ H=>te σ H D.rt
theorem aR (he:PE X e te):PS X (.Return (some e) pos) (Jo te):=by
 intro pins s σ H D I h
 exact wpAny_Return_some (bN (he pins s σ H _ I h) fun v s1 ⟨x,H1,I1,r1,q1⟩=>⟨x,σ,H1,I1,r1,q1⟩)
def MM (c:TT) (t u:TS):TS:=fun D σ H=>c σ H fun b H1=>if b=true then t D σ H1 else u D σ H1
theorem bU {c:Expr} {a b:List Stmt} {tc:TT} (hc:PT X c tc) (ha:kN X a t) (hb:kN X b u):PS X (.If c a b pos) (MM tc t u):=by
 intro pins s σ H D I h
 refine wpAny_If (bN (hc pins s σ H _ I h) fun d s1 ⟨H1,I1,q1⟩=>?_)
 cases d with
 | true=>exact ha pins s1 σ H1 D I1 q1
 | false=>exact hb pins s1 σ H1 D I1 q1
end
abbrev TG:=V->St->Hp->(St->Hp->Prop)->Prop
abbrev Ha:=List V->St->Hp->(St->Hp->Prop)->Prop
def PG (X:Cx) (target:Expr) (t:TG):Prop:=
 ∀(pins:List (Addr×Obj)) (s:Shared) (σ:St) (H:Hp) (v:V) (u:Value) (Q:St->Hp->Prop),Inv X pins σ H s->RelV v u->t v σ H Q->
  wpAny (model X.prog X.w) X.A (assign target X.env u) (fun _ s'=> ∃σ' H',Inv X pins σ' H' s'/\Q σ' H') X.xe s
def MN (X:Cx) (ts:List Expr) (t:Ha):Prop:=
 ∀(pins:List (Addr×Obj)) (s:Shared) (σ:St) (H:Hp) (vs:List V) (us:List Value) (Q:St->Hp->Prop),Inv X pins σ H s->Vals vs us->t vs σ H Q->
  wpAny (model X.prog X.w) X.A (assignInOrder ((assignEach ts X.env).map (·.2)) us) (fun _ s'=> ∃σ' H',Inv X pins σ' H' s'/\Q σ' H') X.xe s
abbrev Jp:=V->V->V->Hp->(Hp->Prop)->Prop
def MO (X:Cx) (t:Jp):Prop:=
 ∀(pins:List (Addr×Obj)) (s:Shared) (σ:St) (H:Hp) (o i v:V) (ov iv u:Value) (Q:Hp->Prop),Inv X pins σ H s->RelV o ov->RelV i iv->RelV v u->t o i v H Q->
  wpAny (model X.prog X.w) X.A (setItem ov iv u) (fun _ s'=> ∃H',Inv X pins σ H' s'/\Q H') X.xe s
abbrev Qw:=V->V->Hp->VK->Prop
def Xp (X:Cx) (op:Operator) (t:Qw):Prop:=
 ∀(pins:List (Addr×Obj)) (s:Shared) (σ:St) (H:Hp) (x y:V) (v u:Value) (Q:VK),Inv X pins σ H s->RelV x v->RelV y u->t x y H Q->
  wpAny (model X.prog X.w) X.A (inplaceOp op v u) (EP X pins σ Q) X.xe s
section
variable {X:Cx} {pos:Pos}
def j7 (i:Nat):TG:=fun v σ H Q=>Q (σ.set i (some v)) H
theorem aP {i:Nat} {x:Str} (hN:X.N.Nodup) (hi:X.N[i]? =some x) (hx:Loc X.env.scope x) (hf:X.fn x=true\/X.env.scope.names.lookup x=some .local:=by first | exact .inl rfl | exact .inr rfl | assumption):PG X (.Name x pos) (j7 i):=by
 intro pins s σ H v u Q I r h
 exact wpAny_assign_Name (cL I hN hi hx r (fun s' I'=>⟨_,H,I',h⟩) hf)
def RS:Ha:=fun vs σ H Q=>vs=[]/\Q σ H
def MP (t:TG) (u:Ha):Ha:=fun vs σ H Q=> ∃v r,vs=v::r/\t v σ H fun σ' H'=>u r σ' H' Q
theorem dM:MN X [] RS:=by
 intro pins s σ H vs us Q I r h
 obtain ⟨e,h⟩:=h
 subst e
 cases r
 exact assignInOrder_nil ⟨σ,H,I,h⟩
theorem bb {e:Expr} {es:List Expr} {t:TG} {u:Ha} (h1:PG X e t) (h2:MN X es u)
  (hs:(assignEach (e::es) X.env).map (·.2)=assign e X.env::(assignEach es X.env).map (·.2):=by rfl):MN X (e::es) (MP t u):=by
 intro pins s σ H vs us Q I r h
 obtain ⟨v,vr,e1,h⟩:=h
 subst e1
 cases r with
 | cons r rr=>
  rw[hs]
  refine assignInOrder_cons (bN (h1 pins s σ H _ _ _ I r h) fun _ s1 ⟨σ1,H1,I1,q1⟩=>?_)
  exact h2 pins s1 σ1 H1 _ _ Q I1 rr q1
def MQ (K:PySem.W.Frag) (n:Nat) (t:Ha):TG:=fun v σ H Q=> ∃a xs,v= .ref a/\cU K H a xs/\xs.length=n/\t xs σ H Q
theorem Jq {es:List Expr} {k:Nat} {t:Ha} {n:Nat} (hc:X.calm=true) (h:MN X es t)
  (hn:(assignEach es X.env).length=n:=by rfl) (EI:(assignEach es X.env).findIdx? (·.1)=none:=by rfl):PG X (.Tuple es k pos) (MQ X.K n t):=by
 intro pins s σ H v u Q I r hw
 obtain ⟨a,xs,e1,hq,hl,hw⟩:=hw
 subst e1
 cases r
 obtain ⟨aD,rv,ht,hz⟩:=I.tuple hq
 refine assign_Tuple_tuple (I.ok.hd hc) ht (by simp[hn, <-hl,rv.length]) EI fun h' hx=>?_
 have I1:Inv X pins σ H { s with heap:=h' }:=I.kept (t':=s.toks) fun b o e=>hx b o (Qa0 (Qac e)) e
 exact h pins _ σ H xs _ Q I1 (by simpa using rv) hw
def MR (to ti:TE) (t:Jp):TG:=fun v σ H Q=>to σ H fun o H1=>ti σ H1 fun i H2=>t o i v H2 fun H3=>Q σ H3
theorem kS {o i:Expr} {to ti:TE} {t:Jp} (ho:PE X o to) (hi:PE X i ti) (hs:MO X t)
  (ha: ∀v,assign (.Subscript o i pos) X.env v=(do
   let ov <-holding [v] (eval o X.env)
   let iv <-holding [v,ov] (eval i X.env)
   standAt pos
   holding [v,ov,iv] (setItem ov iv v)
   release [v,ov,iv] []):=by intro _;rfl):PG X (.Subscript o i pos) (MR to ti t):=by
 intro pins s σ H v u Q I r h
 rw[ha]
 refine wpAny_bind (wpAny_holding (bN (ho pins s σ H _ I h) fun ov s1 ⟨x,H1,I1,r1,q1⟩=>?_))
 refine wpAny_bind (wpAny_holding (bN (hi pins s1 σ H1 _ I1 q1) fun iv s2 ⟨y,H2,I2,r2,q2⟩=>?_))
 refine wpAny_bind (wpAny_standAt (wpAny_bind (wpAny_holding (bN (hs pins s2 σ H2 x y v ov iv u _ I2 r1 r2 r q2) fun _ s3 ⟨H3,I3,q3⟩=>?_))))
 exact wpAny_release ⟨σ,H3,I3,q3⟩
def zL (te:TE) (g:TG):TS:=fun D σ H=>te σ H fun x H1=>g x σ H1 D.nx
theorem kU {tg e:Expr} {te:TE} {g:TG} (he:PE X e te) (hg:PG X tg g) (hs:swapsWithSole [tg] e pos.line X.env=pure false:=by rfl) (hw:swappedStores [tg] e X.env=pure none:=by rfl)
  (h1:(assignEach [tg] X.env).map (·.2)=[assign tg X.env]:=by rfl):PS X (.Assign [tg] e pos) (zL te g):=by
 intro pins s σ H D I h
 refine wpAny_Assign_stores (bN (he pins s σ H _ I h) fun v s1 ⟨x,H1,I1,r1,q1⟩=>?_) hs hw
 rw[h1]
 exact bN (hg pins s1 σ H1 x v _ I1 r1 q1) fun _ s2 q=>q
theorem ax {i:Nat} {x:Str} {e:Expr} {te:TE} {pos':Pos} (hN:X.N.Nodup) (hi:X.N[i]? =some x) (hx:Loc X.env.scope x) (he:PE X e te) (hs:swapsWith e (some (.Name x pos')) pos.line X.env=pure false:=by rfl) (hf:X.fn x=true\/X.env.scope.names.lookup x=some .local:=by first | exact .inl rfl | exact .inr rfl | assumption):
  PS X (.Assign [.Name x pos'] e pos) (zL te (j7 i)):=by
 intro pins s σ H D I h
 refine wpAny_Assign_Name (bN (he pins s σ H _ I h) fun v s1 ⟨y,H1,I1,r1,q1⟩=>?_) hs
 exact cL I1 hN hi hx r1 (fun s2 I2=>⟨_,H1,I2,q1⟩) hf
def RU (i j:Nat) (ta:TA):TS:=fun D σ H=>ta σ H fun vs H1=> ∃v w,vs=[v,w]/\D.nx ((σ.set i (some v)).set j (some w)) H1
theorem BM {i j:Nat} {x y:Str} {a b:Expr} {ta:TA} {px py pt:Pos} {kt k2 RV} (hc:X.calm=true) (hN:X.N.Nodup) (hi:X.N[i]? =some x) (hj:X.N[j]? =some y) (BN:i≠j)
  (hx:X.env.scope.names.lookup x=some .local) (hy:X.env.scope.names.lookup y=some .local) (ha:PA X [a,b] ta)
  (hw:swappedStores [.Tuple [.Name x px, .Name y py] kt pt] (.Tuple [a,b] k2 RV) X.env=pure (some [x,y]))
  (hs:swapsWithSole [.Tuple [.Name x px, .Name y py] kt pt] (.Tuple [a,b] k2 RV) pos.line X.env=pure false:=by rfl):
  PS X (.Assign [.Tuple [.Name x px, .Name y py] kt pt] (.Tuple [a,b] k2 RV) pos) (RU i j ta):=by
 intro pins s σ H D I h
 rw[exec_Assign_arm]
 refine wpAny_bind (wpAny_standAt ?_)
 rw[hs]
 refine wpAny_bind (wpAny_pure ?_)
 rw[if_neg (by decide)]
 refine wpAny_bind (Tuple_ (bN (ha _ pins s σ H _ I h) fun us s1 ⟨vs,H1,I1,r1,q1⟩=>?_))
 obtain ⟨v,w,e1,q1⟩:=q1
 subst e1
 obtain ⟨u1,u2,rfl,rv,wC⟩: ∃u1 u2,us=[u1,u2]/\RelV v u1/\RelV w u2:=by
  cases r1 with
  | cons p q=>
   cases q with
   | cons p' q'=>
    cases q'
    exact ⟨_,_,rfl,p,p'⟩
 refine wpAny_newObj_type ?_ (by show 2<=sizeLine;decide)
 have I2:Inv X pins σ H1 { s1 with heap:=s1.heap.push { cls:= .type "tuple",data:= .seq [u1,u2].toArray } }:=I1.kept (t':=s1.toks) fun b o e=>JR _ e
 rw[hw]
 refine wpAny_bind (wpAny_pure ?_)
 show wpAny (model X.prog X.w) X.A (do rule "assign.swapped-stores";let items <-unpackItems (.ref s1.heap.objs.size) 2 none;assignInOrder [fun v=>bindName X.env y v,fun v=>bindName X.env x v] items.reverse;pure Flow.next) _ _ _
 refine wpAny_bind (wpAny_rule (wpAny_bind (unpackItems_tuple (items:= #[u1,u2]) (I.ok.hd hc) (IsTup.new s1.heap _) fun h' RW=>?_)))
 have I3:=I2.kept (h':=h') (t':=s1.toks) fun b o e=>RW b o (Qa0 (Qac e)) e
 show wpAny _ _ (assignInOrder [fun v=>bindName X.env y v,fun v=>bindName X.env x v] [u2,u1] >>= fun _=>pure Flow.next) _ _ _
 refine wpAny_bind (assignInOrder_cons (wpAny_bindName (cL I3 hN hj (.inl hy) wC (fun s2 I4=>?_) (.inr hy))))
 refine assignInOrder_cons (wpAny_bindName (cL I4 hN hi (.inl hx) rv (fun s3 I5=>assignInOrder_nil (wpAny_pure ?_)) (.inr hx)))
 rw[List.set_comm _ _ (Ne.symm BN)]at I5
 exact ⟨_,H1,I5,q1⟩
def RX (i:Nat) (te:TE) (ti:Qw):TS:=fun D σ H=> ∃x,σ[i]? =some (some x)/\te σ H fun y H1=>ti x y H1 fun z H2=>D.nx (σ.set i (some z)) H2
theorem Jr {i:Nat} {x:Str} {e:Expr} {te:TE} {op:Operator} {ti:Qw} {pos':Pos} (hN:X.N.Nodup) (hi:X.N[i]? =some x) (hx:Loc X.env.scope x) (he:PE X e te) (ho:Xp X op ti) (hf:X.fn x=true\/X.env.scope.names.lookup x=some .local:=by first | exact .inl rfl | exact .inr rfl | assumption):
  PS X (.AugAssign (.Name x pos') op e pos) (RX i te ti):=by
 intro pins s σ H D I h
 obtain ⟨v,e1,h⟩:=h
 obtain ⟨m,hn,hl⟩:=I.loc
 have Zr:x_ X.env.scope x:=by rcases hx with k | k;exact .inl k;exact .inr (.inl k)
 obtain ⟨u,r,l⟩:=hl i x v hi e1 Zr
 refine wpAny_AugAssign_Name ?_
 have go:wpAny (model X.prog X.w) X.A (eval e X.env) (fun w s₂=>wpAny (model X.prog X.w) X.A (inplaceOp op u w) (fun r s₃=>wpAny (model X.prog X.w) X.A (storeName X.env x r) (fun _=>SP X pins D .next) X.xe s₃) X.xe s₂) X.xe s:=by
  refine bN (he pins s σ H _ I h) fun w s1 ⟨y,H1,I1,r1,q1⟩=>?_
  refine bN (ho pins s1 σ H1 v y u w _ I1 r r1 q1) fun z s2 ⟨zv,H2,I2,r2,q2⟩=>?_
  exact cL I2 hN hi hx r2 (fun s3 I3=>⟨_,H2,I3,q2⟩) hf
 rcases l with ⟨hk,hm⟩ | ⟨hk,c,hc,dD⟩
 ·exact wpAny_loadName_local I.ok.kind hk hn hm go
 ·rcases hk with hk | hk
  ·exact wpAny_loadName_cell I.ok.kind hk hc dD go
  ·rcases hx with k | k
   ·have:X.env.scope.names.lookup x=some .free:=hk
    rw[k]at this;cases this
   ·have:X.env.scope.names.lookup x=some .free:=hk
    rw[k]at this;cases this
def Zs (f:Int->Int->Int):Qw:=fun x y H Q=> ∃i j,x= .int i/\y= .int j/\Q (.int (f i j)) H
theorem Js:Xp X .Add (Zs fun i j=>i+j):=by
 intro pins s σ H x y v u Q I r1 r2 h
 obtain ⟨i,j,e1,e2,q⟩:=h
 subst e1;subst e2
 obtain ⟨t,rfl⟩:=r1
 obtain ⟨t',rfl⟩:=r2
 exact iadd_int ⟨.int _,H,I.tok _,⟨_,rfl⟩,q⟩
end
section
variable {X:Cx} {pos:Pos}
end
structure It where
 go:Nat->Hp->Prop
 yg:Nat->Hp->V->Hp->Prop
 stop:Nat->Hp->Prop
def ju (X:Cx) (pins:List (Addr×Obj)) (H:Hp) (b:Addr):Prop:=
 H b=none/\b≠X.env.locals/\b∉X.fs/\(b∈X.ex\/X.s₀.heap.objs.size<=b)/\(∀x c,X.env.cells.lookup x=some c->c≠b)/\ ∀p∈X.pn++pins,p.1≠b
theorem Inv.kW {X:Cx} {pins:List (Addr×Obj)} {σ:St} {H H':Hp} {s:Shared} {b:Addr} (I:Inv X pins σ H s) (hb:s.heap.objs.size<=b) (hn:H' b=none):ju X pins H' b:=by
 refine ⟨hn,Qb4 (Qaf I.lt hb),I.EF hb, .inr (Qa1 I.sz hb),fun x c e z=>?_,fun p hp z=>?_⟩
 ·obtain ⟨v,q⟩:=I.cell x c e
  exact absurd (Qaf q.lt (by rw[z];exact hb)) (Qb1 _)
 ·exact absurd (Qaf (Qac (I.pin p hp).1) (by rw[z];exact hb)) (Qb1 _)
structure Turn (P:Program) (w:World) (K:PySem.W.Frag) (tg:Expr) (J:It) (fp:List Addr) (it:Addr) (tn:Nat->Heap->Prop):Prop where
 mem:it∈fp
 obj: ∀i h,tn i h-> ∀b∈fp, ∃o,h.get? b=some o/\ ∀v,o.data≠ .cell v
 keep: ∀i h h',tn i h->(∀b∈fp, ∀o,h.get? b=some o->h'.get? b=some o)->tn i h'
 item: ∀(X:Cx),X.prog=P->X.w=w->X.K=K->X.calm=true-> ∀(i:Nat) (pins:List (Addr×Obj)) (s:Shared) (σ:St) (H:Hp) (E:Value->Shared->Prop),Inv X pins σ H s->(∀b∈fp,ju X pins H b)->tn i s.heap->J.go i H->
  wpAny (model P w) X.A (pyNext (.ref it)) (fun r s1=> ∃u,r=some u/\
   wpAny (model P w) X.A (letOwnedTupleGo tg (.ref it) u) (fun _ s2=> ∃x H',Inv X pins σ H' s2/\RelV x u/\J.yg i H x H'/\tn (i+1) s2.heap/\ ∀b∈fp,H' b=none) E s1) E s
 done: ∀(X:Cx),X.prog=P->X.w=w->X.K=K->X.calm=true-> ∀(i:Nat) (pins:List (Addr×Obj)) (s:Shared) (σ:St) (H:Hp) (E:Value->Shared->Prop),Inv X pins σ H s->(∀b∈fp,ju X pins H b)->tn i s.heap->J.stop i H->
  wpAny (model P w) X.A (pyNext (.ref it)) (fun r s1=>r=none/\Inv X pins σ H s1) E s
 self: ∀(A:Around) (i:Nat) (s:Shared) (Q:Value->Shared->Prop) (E:Value->Shared->Prop),tn i s.heap->Q (.ref it) s->wpAny (model P w) A (pyIter (.ref it)) Q E s
abbrev TI:=St->Hp->(It->Hp->Prop)->Prop
def Xq (X:Cx) (pins:List (Addr×Obj)) (σ:St) (tg:Expr) (R:It->Hp->Prop) (Mf:Value) (s2:Shared):Prop:=
 ∃(it:Addr) (fp:List Addr) (tn:Nat->Heap->Prop) (J:It) (H':Hp),Mf= .ref it/\Inv X pins σ H' s2/\Turn X.prog X.w X.K tg J fp it tn/\tn 0 s2.heap/\(∀b∈fp,ju X pins H' b)/\R J H'
def PI (X:Cx) (tg iter:Expr) (wi:TI):Prop:=
 ∀(pins:List (Addr×Obj)) (s:Shared) (σ:St) (H:Hp) (R:It->Hp->Prop),Inv X pins σ H s->wi σ H R->
  wpAny (model X.prog X.w) X.A (eval iter X.env) (fun v s1=>wpAny (model X.prog X.w) X.A (pyIter v) (Xq X pins σ tg R) X.xe s1) X.xe s
theorem yh {M:Model} {A:Around} {E:Value->Shared->Prop} {s:Shared} {tg:Expr} {it:Addr} {u:Value} {o:Obj} {n:String} {vs:Array Value} {Q:Unit->Shared->Prop} (ho:s.heap.get? it=some o) (hc:o.cls= .type n) (hd:o.data= .fields vs)
  (hn:["enumerate","zip","dict_itemiterator","dict_reverseitemiterator","odict_iterator","itertools.zip_longest","itertools.pairwise"].contains n=false) (hQ:Q () s):wpAny M A (letOwnedTupleGo tg (.ref it) u) Q E s:=by
 unfold letOwnedTupleGo
 cases tg<;>first
  | exact wpAny_pure hQ
  |(cases u<;>first
    | exact wpAny_pure hQ
    |(refine wpAny_bind (wpAny_load ho ?_)
      rw[hc,hd]
      show wpAny M A (if (["enumerate","zip","dict_itemiterator","dict_reverseitemiterator","odict_iterator","itertools.zip_longest","itertools.pairwise"].contains n&&vs[0]? ==some (rawInt _))=true then _ else _) Q E s
      rw[if_neg (by intro h;rw[hn,Bool.false_and]at h;cases h)]
      exact wpAny_pure hQ))
noncomputable def Mi (K:PySem.W.Frag) (a:Addr):It:=
 ⟨fun i H=> ∃xs x,aN K H a xs/\xs[i]? =some x,fun i H x H'=>H'=H/\ ∀xs,aN K H a xs->xs[i]? =some x,fun i H=> ∃xs,aN K H a xs/\xs.length<=i⟩
noncomputable def MS (K:PySem.W.Frag) (a:Addr):It:=
 ⟨fun i H=> ∃xs x,cU K H a xs/\xs[i]? =some x,fun i H x H'=>H'=H/\ ∀xs,cU K H a xs->xs[i]? =some x,fun i H=> ∃xs,cU K H a xs/\xs.length<=i⟩
noncomputable def Hb (lo:Int) (n:Nat):It:=⟨fun i _=>i<n,fun i H x H'=>H'=H/\x= .int (lo+i),fun i _=>n<=i⟩
theorem zM {P:Program} {w:World} {K:PySem.W.Frag} {tg:Expr} (a it:Addr):Turn P w K tg (Mi K a) [it] it (fun i h=>h.IsListIter it a i) where
 mem:=by simp
 obj:=fun i h st b hb=>by
  have e:b=it:=by simpa using hb
  subst e
  obtain ⟨o,e,c,d⟩:=st
  exact ⟨o,e,fun v z=>by rw[d]at z;cases z⟩
 keep:=fun i h h' st k=>st.at fun o e=>k it (by simp) o e
 item:=by
  intro X hP hw hK hc i pins s σ H E I hf st hg
  subst hP hw hK
  obtain ⟨xs,x,hq,hx⟩:=hg
  obtain ⟨aD,rv,p,hz⟩:=I.list hq
  obtain ⟨u,hu,ru⟩:=rv.get hx
  obtain ⟨f0,f1,f2,f3,f4,f5⟩:=hf it (by simp)
  refine wpAny_pyNext_list_item st p.isList (x:=u) (by simpa using hu) fun h' aL sb=>?_
  have I1:Inv X pins σ H { s with heap:=h' }:=I.turned (t':=s.toks) (fun b o hb e=>(sb.2 b hb).trans e) f0 f1 f3 f4 f5
  obtain ⟨o,e,c,d⟩:=id aL
  exact ⟨u,rfl,yh (s:={ s with heap:=h' }) e c d (by decide) ⟨x,H,I1,ru,⟨rfl,fun ys hy=>by rw[I.m_ hy hq];exact hx⟩,aL,fun b hb=>(hf b hb).1⟩⟩
 done:=by
  intro X hP hw hK hc i pins s σ H E I hf st hg
  subst hP hw hK
  obtain ⟨xs,hq,hx⟩:=hg
  obtain ⟨aD,rv,p,hz⟩:=I.list hq
  obtain ⟨f0,f1,f2,f3,f4,f5⟩:=hf it (by simp)
  have hl:=rv.length
  exact wpAny_pyNext_list_end (I.ok.hd hc) st p.isList (by simp;omega) fun h' eb=>⟨rfl,I.turned (t':=s.toks) (fun b o hb e=>eb b o hb e) f0 f1 f3 f4 f5⟩
 self:=fun _ _ _ _ _ st h=>wpAny_pyIter_listiter st h
theorem wD {P:Program} {w:World} {K:PySem.W.Frag} {tg:Expr} (a it:Addr):Turn P w K tg (MS K a) [it] it (fun i h=>h.IsTupleIter it a i) where
 mem:=by simp
 obj:=fun i h st b hb=>by
  have e:b=it:=by simpa using hb
  subst e
  obtain ⟨o,e,c,d⟩:=st
  exact ⟨o,e,fun v z=>by rw[d]at z;cases z⟩
 keep:=fun i h h' st k=>st.at fun o e=>k it (by simp) o e
 item:=by
  intro X hP hw hK hc i pins s σ H E I hf st hg
  subst hP hw hK
  obtain ⟨xs,x,hq,hx⟩:=hg
  obtain ⟨aD,rv,p,hz⟩:=I.tuple hq
  obtain ⟨u,hu,ru⟩:=rv.get hx
  obtain ⟨f0,f1,f2,f3,f4,f5⟩:=hf it (by simp)
  refine wpAny_pyNext_tuple_item st (show s.heap.IsTuple a aD.toArray from p) (x:=u) (by simpa using hu) fun h' aL sb=>?_
  have I1:Inv X pins σ H { s with heap:=h' }:=I.turned (t':=s.toks) (fun b o hb e=>(sb.2 b hb).trans e) f0 f1 f3 f4 f5
  obtain ⟨o,e,c,d⟩:=id aL
  exact ⟨u,rfl,yh (s:={ s with heap:=h' }) e c d (by decide) ⟨x,H,I1,ru,⟨rfl,fun ys hy=>by rw[I.kR hy hq];exact hx⟩,aL,fun b hb=>(hf b hb).1⟩⟩
 done:=by
  intro X hP hw hK hc i pins s σ H E I hf st hg
  subst hP hw hK
  obtain ⟨xs,hq,hx⟩:=hg
  obtain ⟨aD,rv,p,hz⟩:=I.tuple hq
  obtain ⟨f0,f1,f2,f3,f4,f5⟩:=hf it (by simp)
  have hl:=rv.length
  exact wpAny_pyNext_tuple_end (I.ok.hd hc) st (show s.heap.IsTuple a aD.toArray from p) (by simp;omega) fun h' eb=>⟨rfl,I.turned (t':=s.toks) (fun b o hb e=>eb b o hb e) f0 f1 f3 f4 f5⟩
 self:=fun _ _ _ _ _ st h=>wpAny_pyIter_tupleiter st h
theorem wF {P:Program} {w:World} {K:PySem.W.Frag} {tg:Expr} (it:Addr) (lo:Int) (n:Nat):Turn P w K tg (Hb lo n) [it] it (fun i h=>IsRangeIter h it (lo+(i:Nat)*1) ((n:Int) - (i:Nat)) 1) where
 mem:=by simp
 obj:=fun i h st b hb=>by
  have e:b=it:=by simpa using hb
  subst e
  exact ⟨_,st,fun v z=>by
   have z':Data.fields _=Data.cell v:=z
   cases z'⟩
 keep:=fun i h h' st k=>k it (by simp) _ st
 item:=by
  intro X hP hw hK hc i pins s σ H E I hf st hg
  subst hP hw hK
  obtain ⟨f0,f1,f2,f3,f4,f5⟩:=hf it (by simp)
  have W:=Walks.range (prog:=X.prog) (w:=X.w) (I.ok.hd hc) it lo 1 n
  refine W.item i s _ _ hg st fun v h' tk hv aL kk=>?_
  obtain ⟨t,rfl⟩:=hv
  have I1:Inv X pins σ H { s with heap:=h',toks:=tk }:=I.turned (fun b o hb e=>kk b o (by simpa using hb) e) f0 f1 f3 f4 f5
  refine ⟨_,rfl,yh (s:={ s with heap:=h',toks:=tk }) (n:="range_iterator") aL rfl rfl (by decide) ⟨.int (lo+i),H,I1,⟨t,?_⟩,⟨rfl,rfl⟩,aL,fun b hb=>(hf b hb).1⟩⟩
  rw[Int.mul_one]
 done:=by
  intro X hP hw hK hc i pins s σ H E I hf st hg
  subst hP hw hK
  obtain ⟨f0,f1,f2,f3,f4,f5⟩:=hf it (by simp)
  exact wpAny_pyNext_range_end (I.ok.hd hc) st (by have:n<=i:=hg;omega) fun h' eb=>⟨rfl,I.turned (t':=s.toks) (fun b o hb e=>eb b o hb e) f0 f1 f3 f4 f5⟩
 self:=fun _ _ _ _ _ st h=>wpAny_pyIter_rangeiter st h
section
variable {X:Cx} {tg:Expr}
def Hc (K:PySem.W.Frag) (tl:TE):TI:=fun σ H R=>tl σ H fun x H1=> ∃a,x= .ref a/\(∃xs,aN K H1 a xs)/\R (Mi K a) H1
def MT (K:PySem.W.Frag) (tl:TE):TI:=fun σ H R=>tl σ H fun x H1=> ∃a,x= .ref a/\(∃xs,cU K H1 a xs)/\R (MS K a) H1
theorem EJ {l:Expr} {tl:TE} (hl:PE X l tl):PI X tg l (Hc X.K tl):=by
 intro pins s σ H R I h
 refine bN (hl pins s σ H _ I h) fun v s1 ⟨x,H1,I1,r1,q1⟩=>?_
 obtain ⟨a,e,⟨xs,hq⟩,q⟩:=q1
 subst e
 cases r1
 obtain ⟨aD,rv,p,hz⟩:=I1.list hq
 refine wpAny_pyIter_list p.isList ?_
 refine ⟨s1.heap.objs.size,[s1.heap.objs.size],_,_,H1,rfl,I1.kept (t':=s1.toks) fun b o e=>JR _ e,zM a _,⟨_,Qai _ rfl,rfl,rfl⟩,fun b hb=>?_,q⟩
 have e:b=s1.heap.objs.size:=by simpa using hb
 subst e
 exact I1.kW (XA _) (I1.bg.fresh (XA _))
theorem Jt {l:Expr} {tl:TE} (hl:PE X l tl):PI X tg l (MT X.K tl):=by
 intro pins s σ H R I h
 refine bN (hl pins s σ H _ I h) fun v s1 ⟨x,H1,I1,r1,q1⟩=>?_
 obtain ⟨a,e,⟨xs,hq⟩,q⟩:=q1
 subst e
 cases r1
 obtain ⟨aD,rv,p,hz⟩:=I1.tuple hq
 refine wpAny_pyIter_tuple (show s1.heap.IsTuple a aD.toArray from p) ?_
 refine ⟨s1.heap.objs.size,[s1.heap.objs.size],_,_,H1,rfl,I1.kept (t':=s1.toks) fun b o e=>JR _ e,wD a _,⟨_,Qai _ rfl,rfl,rfl⟩,fun b hb=>?_,q⟩
 have e:b=s1.heap.objs.size:=by simpa using hb
 subst e
 exact I1.kW (XA _) (I1.bg.fresh (XA _))
theorem ua {pins:List (Addr×Obj)} {σ:St} {H:Hp} {s:Shared} {R:It->Hp->Prop} {E:Value->Shared->Prop} {lo hi:Int} {t u v:Tok} {tk:Nat} (I:Inv X pins σ H s) (h1: -(2 ^ 62)<=lo) (h2:lo<2 ^ 62) (h3: -(2 ^ 62)<=hi) (h4:hi<2 ^ 62)
  (q:R (Hb lo (hi - lo).toNat) H):wpAny (model X.prog X.w) X.A (pyIter (.ref s.heap.objs.size)) (Xq X pins σ tg R) E { s with heap:=s.heap.push { cls:= .type "range",data:= .fields #[.int lo t, .int hi u, .int 1 v] },toks:=tk }:=by
 refine wpAny_pyIter_range (IsRange.new ..) (small_one h1 h2 h3 h4) ?_
 have I1:Inv X pins σ H { s with heap:=s.heap.push { cls:= .type "range",data:= .fields #[.int lo t, .int hi u, .int 1 v] },toks:=tk }:=I.kept fun b o e=>JR _ e
 refine ⟨(s.heap.push { cls:= .type "range",data:= .fields #[.int lo t, .int hi u, .int 1 v] }).objs.size,[(s.heap.push { cls:= .type "range",data:= .fields #[.int lo t, .int hi u, .int 1 v] }).objs.size],_,_,H,rfl,
  I1.kept (t':=tk) fun b o e=>JR _ e,wF _ lo (hi - lo).toNat,?_,fun b hb=>?_,q⟩
 ·have e1:lo+((0:Nat):Int)*1=lo:=by simp
  have e2:(((hi - lo).toNat:Nat):Int) - ((0:Nat):Int)=Builtin.Range.rangeSize lo hi 1:=by rw[rangeSize_one];split<;>omega
  show IsRangeIter _ _ (lo+((0:Nat):Int)*1) ((((hi - lo).toNat:Nat):Int) - ((0:Nat):Int)) 1
  rw[e1,e2]
  exact Qai _ rfl
 ·have e:b=(s.heap.push { cls:= .type "range",data:= .fields #[.int lo t, .int hi u, .int 1 v] }).objs.size:=by simpa using hb
  subst e
  exact I1.kW (XA _) (I1.bg.fresh (XA _))
def MU (ta:TA):TI:=fun σ H R=>ta σ H fun vs H1=> ∃j:Int,vs=[.int j]/\ -(2 ^ 62)<=j/\j<2 ^ 62/\R (Hb 0 j.toNat) H1
def MV (ta:TA):TI:=fun σ H R=>ta σ H fun vs H1=> ∃i j:Int,vs=[.int i, .int j]/\(-(2 ^ 62)<=i/\i<2 ^ 62/\ -(2 ^ 62)<=j/\j<2 ^ 62)/\R (Hb i (j - i).toNat) H1
theorem kX {a:Expr} {ta:TA} {p pos:Pos} (hg:Gl X "range") (hm:X.mg "range"=none) (ha:PA X [a] ta) (hs:starEach [a] X.env=[(false,eval a X.env)]:=by rfl):PI X tg (.Call (.Name "range" p) [a] [] pos) (MU ta):=by
 intro pins s σ H R I h
 refine Call_ (gv I hg hm boot_range (Qbw (bN (ha pos pins s σ H _ I h) fun us s1 ⟨vs,H1,I1,r1,q1⟩=>?_) hs rfl))
 obtain ⟨j,e,q1,q2,q⟩:=q1
 subst e
 cases r1 with
 | cons r rr=>
  cases rr
  obtain ⟨t,rfl⟩:=r
  exact call_range_1 (ua I1 (by omega) (by omega) q1 q2 (by simpa using q))
theorem zN {a b:Expr} {ta:TA} {p pos:Pos} (hg:Gl X "range") (hm:X.mg "range"=none) (ha:PA X [a,b] ta) (hs:starEach [a,b] X.env=[(false,eval a X.env),(false,eval b X.env)]:=by rfl) (EK:starEach [b] X.env=[(false,eval b X.env)]:=by rfl):
  PI X tg (.Call (.Name "range" p) [a,b] [] pos) (MV ta):=by
 intro pins s σ H R I h
 refine Call_ (gv I hg hm boot_range (Qbw (bN (ha pos pins s σ H _ I h) fun us s1 ⟨vs,H1,I1,r1,q1⟩=>?_) (by rw[hs,EK]) (by rw[EK];rfl)))
 obtain ⟨i,j,e,⟨q1,q2,q3,q4⟩,q⟩:=q1
 subst e
 cases r1 with
 | cons r rr=>
  cases rr with
  | cons r' rr=>
   cases rr
   obtain ⟨t,rfl⟩:=r
   obtain ⟨t',rfl⟩:=r'
   exact call_range_2 (ua I1 q1 q2 q3 q4 q)
def RY (wi:TI) (g:TG) (tb:TS):TS:=fun D σ H=>wi σ H fun J H1=> ∃W:Nat->Nat->St->Hp->Prop,(∃m,W 0 m σ H1)/\ ∀i m σ H,W i m σ H->
 (J.stop i H/\D.nx σ H)\/(J.go i H/\ ∃N:St->Hp->Prop,(∀σ' H',N σ' H'-> ∃m',m'<m/\W (i+1) m' σ' H')/\ ∀x H',J.yg i H x H'->g x σ H' fun σ2 H2=>tb { D with nx:=N,ct:=N,bk:=D.nx } σ2 H2)
noncomputable def kY (fp:List Addr) (h:Heap):List (Addr×Obj):=fp.filterMap fun b=>(h.get? b).map fun o=>(b,o)
theorem eI {fp:List Addr} {h:Heap} {b:Addr} {o:Obj} (hb:b∈fp) (e:h.get? b=some o):(b,o)∈kY fp h:=List.mem_filterMap.mpr ⟨b,hb,by rw[e];rfl⟩
theorem zO {fp:List Addr} {h:Heap} {p:Addr×Obj} (hp:p∈kY fp h):p.1∈fp/\h.get? p.1=some p.2:=by
 obtain ⟨b,hb,e⟩:=List.mem_filterMap.mp hp
 cases q:h.get? b with
 | none=>rw[q]at e;cases e
 | some o=>
  rw[q]at e
  have e':(b,o)=p:=Qae e
  subst e'
  exact ⟨hb,q⟩
theorem Inv.pinned {pins:List (Addr×Obj)} {σ:St} {H:Hp} {s:Shared} {fp:List Addr} (I:Inv X pins σ H s) (hf: ∀b∈fp,ju X pins H b) (ho: ∀b∈fp, ∃o,s.heap.get? b=some o/\ ∀v,o.data≠ .cell v):Inv X (pins++kY fp s.heap) σ H s:=
 I.h_ fun p hp=>(Qaa.mp hp).elim (fun z=>I.pin p (Qag _ z)) fun z=>by
  obtain ⟨hb,e⟩:=zO z
  obtain ⟨f0,f1,f2,_⟩:=hf p.1 hb
  obtain ⟨o,e',d⟩:=ho p.1 hb
  rw[e]at e';cases e'
  exact ⟨e,f0,f1,f2,d⟩
theorem Inv.gE {pins pl:List (Addr×Obj)} {σ:St} {H:Hp} {s:Shared} (I:Inv X (pins++pl) σ H s):Inv X pins σ H s:=I.h_ fun p hp=>I.pin p (Qag _ (Qbr _ hp))
theorem cW {iter:Expr} {body:List Stmt} {wi:TI} {g:TG} {tb:TS} {pos:Pos} (hp:PassesOwn (model X.prog X.w) X.A X.env X.xe) (hc:X.calm=true) (hi:PI X tg iter wi) (hg:PG X tg g) (hb:kN X body tb)
  (hs: ∀x,foldedSetIterable iter X.env x=pure x:=by intro _;rfl):PS X (.For tg iter body [] pos) (RY wi g tb):=by
 intro pins s σ H D I h
 refine wpAny_For (bN (hi pins s σ H _ I h) fun v s1 h1=>bN h1 fun Mf s2 h2=>?_) hs
 obtain ⟨it,fp,tn,J,H2,e,I2,T,gF,f2,W,⟨m0,w0⟩,turn⟩:=h2
 subst e
 -- RZ stays true of Ef Ju objects through Ef loop
 have Jv: ∀{H':Hp},(∀b∈fp,H' b=none)-> ∀b∈fp,ju X pins H' b:=fun hn b hb=>⟨hn b hb,(f2 b hb).2⟩
 refine codeAny_forLoop_any (fun n s'=> ∃i σ' H',Inv X pins σ' H' s'/\tn i s'.heap/\(∀b∈fp,H' b=none)/\W i n σ' H') ?_ m0 ⟨0,σ,H2,I2,gF,fun b hb=>(f2 b hb).1,w0⟩
 rintro n s3 ⟨i,σ3,H3,I3,rq,Hd,w3⟩
 rcases turn i n σ3 H3 w3 with ⟨stop,qn⟩ | ⟨go,N,hN,step⟩
 ·refine wpAny_passesOwn hp (bN (T.done X rfl rfl rfl hc i pins s3 σ3 H3 X.xe I3 (Jv Hd) rq stop) fun r s4 ⟨hr,I4⟩=>?_)
  subst hr
  exact wpAny_execs_nil ⟨σ3,H3,I4,qn⟩
 ·refine wpAny_passesOwn hp (bN (T.item X rfl rfl rfl hc i pins s3 σ3 H3 X.xe I3 (Jv Hd) rq go) fun r s4 ⟨u,hr,h4⟩=>?_)
  subst hr
  refine wpAny_passesOwn hp (bN h4 fun _ s5 ⟨x,H5,I5,r5,y5,jA,MW⟩=>?_)
  have Jw:=I5.pinned (Jv MW) (T.obj _ _ jA)
  refine wpAny_passesOwn hp (bN (hg _ s5 σ3 H5 x u _ Jw r5 (step x H5 y5)) fun _ s6 ⟨σ6,H6,I6,q6⟩=>?_)
  refine wpAny_passesOwn hp (bN (hb _ s6 σ6 H6 _ I6 q6) fun f s7 q7=>?_)
  have again: ∀{σ7:St} {H7:Hp},Inv X (pins++kY fp s5.heap) σ7 H7 s7->N σ7 H7-> ∃m,m<n/\ ∃i σ' H',Inv X pins σ' H' s7/\tn i s7.heap/\(∀b∈fp,H' b=none)/\W i m σ' H':=fun {σ7 H7} I7 n7=>by
   obtain ⟨m',hm,w7⟩:=hN σ7 H7 n7
   refine ⟨m',hm,i+1,σ7,H7,I7.gE,T.keep _ _ _ jA fun b hb o e=>(I7.pin (b,o) (Qag _ (Qag _ (eI hb e)))).1,fun b hb=>?_,w7⟩
   obtain ⟨o,e,d⟩:=T.obj _ _ jA b hb
   exact (I7.pin (b,o) (Qag _ (Qag _ (eI hb e)))).2.1
  cases f with
  | next=>obtain ⟨σ7,H7,I7,n7⟩:=q7;exact again I7 n7
  | cont=>obtain ⟨σ7,H7,I7,n7⟩:=q7;exact again I7 n7
  | brk=>obtain ⟨σ7,H7,I7,q7⟩:=q7;exact ⟨σ7,H7,I7.gE,q7⟩
  | ret v=>obtain ⟨x7,σ7,H7,I7,r7,q7⟩:=q7;exact ⟨x7,σ7,H7,I7.gE,r7,q7⟩
end
theorem nh {K:PySem.W.Frag} {a:Addr} {xs:List V} {g:TG} {tb:TS} {D:Ends} {σ:St} {H:Hp} (Pv:Nat->St->Hp->Prop) (h0:Pv 0 σ H) (hl: ∀i σ H,i<=xs.length->Pv i σ H->aN K H a xs)
  (hs: ∀i x σ H,xs[i]? =some x->Pv i σ H->g x σ H fun σ2 H2=>tb { D with nx:=Pv (i+1),ct:=Pv (i+1),bk:=D.nx } σ2 H2) (hd: ∀σ H,Pv xs.length σ H->D.nx σ H):
  ∃W:Nat->Nat->St->Hp->Prop,(∃m,W 0 m σ H)/\ ∀i m σ H,W i m σ H->
   ((Mi K a).stop i H/\D.nx σ H)\/((Mi K a).go i H/\ ∃N:St->Hp->Prop,(∀σ' H',N σ' H'-> ∃m',m'<m/\W (i+1) m' σ' H')/\ ∀x H',(Mi K a).yg i H x H'->g x σ H' fun σ2 H2=>tb { D with nx:=N,ct:=N,bk:=D.nx } σ2 H2):=by
 refine ⟨fun i m σ H=>m=xs.length - i/\i<=xs.length/\Pv i σ H,⟨xs.length,by simp,Qaq _,h0⟩,?_⟩
 rintro i m σ H ⟨rfl,hi,p⟩
 have q:=hl i σ H hi p
 by_cases bW:i<xs.length
 ·refine .inr ⟨⟨xs,xs[i],q,by simp[bW]⟩,Pv (i+1),fun σ' H' p'=>⟨xs.length - (i+1),by omega,rfl,bW,p'⟩,fun x H' y=>?_⟩
  obtain ⟨e,y⟩:=y
  subst e
  exact hs i x σ _ (y xs q) p
 ·have e:i=xs.length:=by omega
  subst e
  exact .inl ⟨⟨xs,q,XA _⟩,hd σ H p⟩
theorem mP {K:PySem.W.Frag} {a:Addr} {xs:List V} {g:TG} {tb:TS} {D:Ends} {σ:St} {H:Hp} (Pv:Nat->St->Hp->Prop) (h0:Pv 0 σ H) (hl: ∀i σ H,i<=xs.length->Pv i σ H->cU K H a xs)
  (hs: ∀i x σ H,xs[i]? =some x->Pv i σ H->g x σ H fun σ2 H2=>tb { D with nx:=Pv (i+1),ct:=Pv (i+1),bk:=D.nx } σ2 H2) (hd: ∀σ H,Pv xs.length σ H->D.nx σ H):
  ∃W:Nat->Nat->St->Hp->Prop,(∃m,W 0 m σ H)/\ ∀i m σ H,W i m σ H->
   ((MS K a).stop i H/\D.nx σ H)\/((MS K a).go i H/\ ∃N:St->Hp->Prop,(∀σ' H',N σ' H'-> ∃m',m'<m/\W (i+1) m' σ' H')/\ ∀x H',(MS K a).yg i H x H'->g x σ H' fun σ2 H2=>tb { D with nx:=N,ct:=N,bk:=D.nx } σ2 H2):=by
 refine ⟨fun i m σ H=>m=xs.length - i/\i<=xs.length/\Pv i σ H,⟨xs.length,by simp,Qaq _,h0⟩,?_⟩
 rintro i m σ H ⟨rfl,hi,p⟩
 have q:=hl i σ H hi p
 by_cases bW:i<xs.length
 ·refine .inr ⟨⟨xs,xs[i],q,by simp[bW]⟩,Pv (i+1),fun σ' H' p'=>⟨xs.length - (i+1),by omega,rfl,bW,p'⟩,fun x H' y=>?_⟩
  obtain ⟨e,y⟩:=y
  subst e
  exact hs i x σ _ (y xs q) p
 ·have e:i=xs.length:=by omega
  subst e
  exact .inl ⟨⟨xs,q,XA _⟩,hd σ H p⟩
theorem kZ {lo:Int} {n:Nat} {g:TG} {tb:TS} {D:Ends} {σ:St} {H:Hp} (Pv:Nat->St->Hp->Prop) (h0:Pv 0 σ H)
  (hs: ∀i σ H,i<n->Pv i σ H->g (.int (lo+i)) σ H fun σ2 H2=>tb { D with nx:=Pv (i+1),ct:=Pv (i+1),bk:=D.nx } σ2 H2) (hd: ∀σ H,Pv n σ H->D.nx σ H):
  ∃W:Nat->Nat->St->Hp->Prop,(∃m,W 0 m σ H)/\ ∀i m σ H,W i m σ H->
   ((Hb lo n).stop i H/\D.nx σ H)\/((Hb lo n).go i H/\ ∃N:St->Hp->Prop,(∀σ' H',N σ' H'-> ∃m',m'<m/\W (i+1) m' σ' H')/\ ∀x H',(Hb lo n).yg i H x H'->g x σ H' fun σ2 H2=>tb { D with nx:=N,ct:=N,bk:=D.nx } σ2 H2):=by
 refine ⟨fun i m σ H=>m=n - i/\i<=n/\Pv i σ H,⟨n,by simp,Qaq _,h0⟩,?_⟩
 rintro i m σ H ⟨rfl,hi,p⟩
 by_cases bW:i<n
 ·refine .inr ⟨bW,Pv (i+1),fun σ' H' p'=>⟨n - (i+1),by omega,rfl,bW,p'⟩,fun x H' y=>?_⟩
  obtain ⟨e,y⟩:=y
  subst e y
  exact hs i σ _ bW p
 ·have e:i=n:=by omega
  subst e
  exact .inl ⟨XA _,hd σ H p⟩
abbrev R2:=V->V->Hp->VK->Prop
def iK (X:Cx) (f:Value->Value->Sem Value) (r:R2):Prop:=
 ∀(pins:List (Addr×Obj)) (s:Shared) (σ:St) (H:Hp) (x y:V) (v u:Value) (Q:VK),Inv X pins σ H s->RelV x v->RelV y u->r x y H Q->
  wpAny (model X.prog X.w) X.A (f v u) (EP X pins σ Q) X.xe s
def cF (X:Cx) (f:Value) (r:List V->Hp->VK->Prop):Prop:=
 ∀(pins:List (Addr×Obj)) (s:Shared) (σ:St) (H:Hp) (xs:List V) (us:List Value) (Q:VK),Inv X pins σ H s->Vals xs us->r xs H Q->
  wpAny (model X.prog X.w) X.A (call f us) (EP X pins σ Q) X.xe s
def Jx (r:R2) (ta tb:TE):TE:=fun σ H Q=>ta σ H fun x H1=>tb σ H1 fun y H2=>r x y H2 Q
def rI (C:Int->Int->Prop) (g:Int->Int->V):R2:=fun x y H Q=> ∃i j,x= .int i/\y= .int j/\C i j/\Q (g i j) H
def EL (g:Int->Int->V):R2:=fun x y H Q=> ∃i j,x= .int i/\y= .int j/\Q (g i j) H
section
variable {X:Cx} {a b c:Expr} {ta tb tc:TE} {pos:Pos}
theorem Jy (ha:PE X a ta) (hb:PE X b tb) {pins:List (Addr×Obj)} {s:Shared} {σ:St} {H:Hp} {R:V->V->Hp->Prop} (I:Inv X pins σ H s)
  (h:ta σ H fun x H1=>tb σ H1 fun y H2=>R x y H2) {Q:Value->Shared->Prop} {f:Value->Value->Sem Value}
  (hf: ∀v u s2 x y H2,Inv X pins σ H2 s2->RelV x v->RelV y u->R x y H2->wpAny (model X.prog X.w) X.A (f v u) Q X.xe s2):
  wpAny (model X.prog X.w) X.A (eval a X.env) (fun v s₁=>wpAny (model X.prog X.w) X.A (eval b X.env) (fun u s₂=>wpAny (model X.prog X.w) X.A (f v u) Q X.xe s₂) X.xe s₁) X.xe s:=by
 refine bN (ha pins s σ H _ I h) fun v s1 ⟨x,H1,I1,r1,q1⟩=>?_
 refine bN (hb pins s1 σ H1 _ I1 q1) fun u s2 ⟨y,H2,I2,r2,q2⟩=>?_
 exact hf v u s2 x y H2 I2 r1 r2 q2
theorem aF {op:Operator} {r:R2} (ho:iK X (binaryOp op) r) (ha:PE X a ta) (hb:PE X b tb):PE X (.BinOp a op b pos) (Jx r ta tb):=by
 intro pins s σ H Q I h
 exact wpAny_BinOp (Jy ha hb I h fun v u s2 x y H2 I2 rx ry q=>ho pins s2 σ H2 x y v u Q I2 rx ry q)
theorem Qx {f:Value->Value->Sem Value} {C:Int->Int->Prop} {g:Int->Int->Int}
  (rule: ∀(i j:Int) (t u:Tok) (s:Shared) (Q:Value->Shared->Prop) (E:Value->Shared->Prop),C i j->Q (.int (g i j) s.toks) { s with toks:=s.toks+1 }->wpAny (model X.prog X.w) X.A (f (.int i t) (.int j u)) Q E s):
  iK X f (rI C fun i j=> .int (g i j)):=by
 intro pins s σ H x y v u Q I rx ry h
 obtain ⟨i,j,rfl,rfl,hc,q⟩:=h
 obtain ⟨t,rfl⟩:=rx
 obtain ⟨t',rfl⟩:=ry
 exact rule i j t t' s _ _ hc ⟨.int (g i j),H,I.tok _,⟨_,rfl⟩,q⟩
theorem MX {f:Value->Value->Sem Value} {g:Int->Int->Int}
  (rule: ∀(i j:Int) (t u:Tok) (s:Shared) (Q:Value->Shared->Prop) (E:Value->Shared->Prop),Q (.int (g i j) s.toks) { s with toks:=s.toks+1 }->wpAny (model X.prog X.w) X.A (f (.int i t) (.int j u)) Q E s):
  iK X f (EL fun i j=> .int (g i j)):=by
 intro pins s σ H x y v u Q I rx ry h
 obtain ⟨i,j,rfl,rfl,q⟩:=h
 obtain ⟨t,rfl⟩:=rx
 obtain ⟨t',rfl⟩:=ry
 exact rule i j t t' s _ _ ⟨.int (g i j),H,I.tok _,⟨_,rfl⟩,q⟩
theorem Jz {f:Value->Value->Sem Value} {g:Int->Int->Bool}
  (rule: ∀(i j:Int) (t u:Tok) (s:Shared) (Q:Value->Shared->Prop) (E:Value->Shared->Prop),Q (.bool (g i j)) s->wpAny (model X.prog X.w) X.A (f (.int i t) (.int j u)) Q E s):
  iK X f (EL fun i j=> .bl (g i j)):=by
 intro pins s σ H x y v u Q I rx ry h
 obtain ⟨i,j,rfl,rfl,q⟩:=h
 obtain ⟨t,rfl⟩:=rx
 obtain ⟨t',rfl⟩:=ry
 exact rule i j t t' s _ _ ⟨.bl (g i j),H,I,rfl,q⟩
def R0 (i j:Int):Prop:=0<j/\j<1073741824
def R1 (i j:Int):Prop:=0<=j/\j<=1000000/\i.natAbs<2 ^ 64
def JA (i j:Int):Prop:=(-(2 ^ 64)<i/\i<2 ^ 64)\/(-(2 ^ 64)<j/\j<2 ^ 64)
theorem JA.ok {i j:Int} (h:JA i j):IntMulOk i j:=by
 rcases h with ⟨h1,h2⟩ | ⟨h1,h2⟩
 ·exact .of_left (intBits_le_64 h1 h2)
 ·exact .of_right (intBits_le_64 h1 h2)
theorem bQ:iK X (binaryOp .Add) (EL fun i j=> .int (i+j)):=MX fun _ _ _ _ _ _ _ q=>add_int q
theorem BO:iK X (binaryOp .Sub) (EL fun i j=> .int (i - j)):=MX fun _ _ _ _ _ _ _ q=>sub_int q
theorem k_:iK X (binaryOp .Mult) (rI JA fun i j=> .int (i*j)):=Qx fun _ _ _ _ _ _ _ hc q=>mul_int q hc.ok
theorem mQ:iK X (binaryOp .FloorDiv) (rI R0 fun i j=> .int (i / j)):=Qx fun i j _ _ _ _ _ hc q=>by
 have h1:(0:Int)<j:=hc.1
 have h2:j<1073741824:=hc.2
 exact floordiv_int (by omega) (by rw[Int.fdiv_eq_ediv_of_nonneg i (by omega)];exact q) (.inl (PyProof.noPylong_small (by omega)))
theorem ic:iK X (binaryOp .Mod) (rI (fun _ j=>0<j) fun i j=> .int (i%j)):=Qx fun i j _ _ _ _ _ hc q=>by
 have h1:(0:Int)<j:=hc
 exact mod_int' (by omega) (by rw[Int.fmod_eq_emod_of_nonneg i (by omega)];exact q)
theorem BP:iK X (binaryOp .Pow) (rI R1 fun i j=> .int (i ^ j.toNat)):=Qx fun _ _ _ _ _ _ _ hc q=>pow_int_small hc.1 hc.2.1 hc.2.2 q
end
noncomputable def MY:V->V->Bool
 | .cK, .cK=>true | .cK, .int _=>true | .int _, .cK=>true | .cK, .bl _=>true | .bl _, .cK=>true | .cK, .str _=>true | .str _, .cK=>true
 | .int _, .int _=>true | .bl _, .bl _=>true | .str _, .str _=>true | .Bv _, .Bv _=>true
 | .int _, .str _=>true | .str _, .int _=>true | .bl _, .str _=>true | .str _, .bl _=>true
 | _,_=>false
def Zt:R2:=fun x y H Q=>MY x y=true/\Q (.bl (decide (x=y))) H
def Zu:R2:=fun x y H Q=>MY x y=true/\Q (.bl (!decide (x=y))) H
theorem yj {i j:Int}:decide (V.int i=V.int j)=(i==j):=by
 rw[Qeb]
 simp
theorem BQ {i j:Bool}:decide (V.bl i=V.bl j)=(i==j):=by
 rw[Qeb]
 simp
theorem yk {i j:Str}:decide (V.str i=V.str j)=(i==j):=by
 rw[Qeb]
 simp
theorem yl {i j:Array UInt8}:decide (V.Bv i=V.Bv j)=(i.toList==j.toList):=by
 rw[Qeb]
 cases i
 cases j
 simp
section
variable {X:Cx} {a b c:Expr} {ta tb tc:TE} {pos:Pos}
theorem bt {pins:List (Addr×Obj)} {σ:St} {H:Hp} {s:Shared} {Q:VK} {k k':Bool} (I:Inv X pins σ H s) (q:Q (.bl k) H) (e:k=k'):EP X pins σ Q (.bool k') s:=by
 subst e
 exact ⟨.bl k,H,I,rfl,q⟩
theorem Hf:iK X (compareOp .Eq) Zt:=by
 intro pins s σ H x y v u Q I rx ry h
 obtain ⟨hs,q⟩:=h
 cases x with
 | cK=>
  cases rx
  cases y with
  | cK=>cases ry;exact PySem.EqNone.eq_none_none (bt I q (by simp))
  | bl j=>cases ry;exact PySem.EqNone.eq_none_bool (bt I q (by simp))
  | int j=>obtain ⟨t',rfl⟩:=ry;exact PySem.EqNone.eq_none_int (bt I q (by simp))
  | str j=>obtain ⟨t',rfl⟩:=ry;exact PySem.EqNone.eq_none_str (bt I q (by simp))
  | _=>exact absurd (show false=true from hs) Qaj
 | bl i=>
  cases rx
  cases y with
  | cK=>cases ry;exact PySem.EqNone.eq_bool_none (bt I q (by simp))
  | bl j=>cases ry;exact eq_bool (bt I q BQ)
  | str j=>obtain ⟨t',rfl⟩:=ry;exact PySem.EqMixed.eq_bool_str (bt I q (by simp))
  | _=>exact absurd (show false=true from hs) Qaj
 | int i=>
  obtain ⟨t,rfl⟩:=rx
  cases y with
  | cK=>cases ry;exact PySem.EqNone.eq_int_none (bt I q (by simp))
  | int j=>obtain ⟨t',rfl⟩:=ry;exact eq_int (bt I q yj)
  | str j=>obtain ⟨t',rfl⟩:=ry;exact PySem.EqMixed.eq_int_str (bt I q (by simp))
  | _=>exact absurd (show false=true from hs) Qaj
 | str i=>
  obtain ⟨t,rfl⟩:=rx
  cases y with
  | cK=>cases ry;exact PySem.EqNone.eq_str_none (bt I q (by simp))
  | bl j=>cases ry;exact PySem.EqMixed.eq_str_bool (bt I q (by simp))
  | int j=>obtain ⟨t',rfl⟩:=ry;exact PySem.EqMixed.eq_str_int (bt I q (by simp))
  | str j=>obtain ⟨t',rfl⟩:=ry;exact eq_str (bt I q yk)
  | _=>exact absurd (show false=true from hs) Qaj
 | Bv i=>
  obtain ⟨t,rfl⟩:=rx
  cases y with
  | Bv j=>obtain ⟨t',rfl⟩:=ry;exact PySem.W.eq_bytes (bt I q yl)
  | _=>exact absurd (show false=true from hs) Qaj
 | _=>cases y<;>exact absurd (show false=true from hs) Qaj
theorem Hg:iK X (compareOp .NotEq) Zu:=by
 intro pins s σ H x y v u Q I rx ry h
 obtain ⟨hs,q⟩:=h
 cases x with
 | cK=>
  cases rx
  cases y with
  | cK=>cases ry;exact PySem.EqNone.ne_none_none (bt I q (by simp))
  | bl j=>cases ry;exact PySem.EqNone.ne_none_bool (bt I q (by simp))
  | int j=>obtain ⟨t',rfl⟩:=ry;exact PySem.EqNone.ne_none_int (bt I q (by simp))
  | str j=>obtain ⟨t',rfl⟩:=ry;exact PySem.EqNone.ne_none_str (bt I q (by simp))
  | _=>exact absurd (show false=true from hs) Qaj
 | bl i=>
  cases rx
  cases y with
  | cK=>cases ry;exact PySem.EqNone.ne_bool_none (bt I q (by simp))
  | bl j=>cases ry;exact ne_bool (bt I q (congrArg not BQ))
  | str j=>obtain ⟨t',rfl⟩:=ry;exact PySem.EqMixed.ne_bool_str (bt I q (by simp))
  | _=>exact absurd (show false=true from hs) Qaj
 | int i=>
  obtain ⟨t,rfl⟩:=rx
  cases y with
  | cK=>cases ry;exact PySem.EqNone.ne_int_none (bt I q (by simp))
  | int j=>obtain ⟨t',rfl⟩:=ry;exact ne_int (bt I q (congrArg not yj))
  | str j=>obtain ⟨t',rfl⟩:=ry;exact PySem.EqMixed.ne_int_str (bt I q (by simp))
  | _=>exact absurd (show false=true from hs) Qaj
 | str i=>
  obtain ⟨t,rfl⟩:=rx
  cases y with
  | cK=>cases ry;exact PySem.EqNone.ne_str_none (bt I q (by simp))
  | bl j=>cases ry;exact PySem.EqMixed.ne_str_bool (bt I q (by simp))
  | int j=>obtain ⟨t',rfl⟩:=ry;exact PySem.EqMixed.ne_str_int (bt I q (by simp))
  | str j=>obtain ⟨t',rfl⟩:=ry;exact ne_str (bt I q (congrArg not yk))
  | _=>exact absurd (show false=true from hs) Qaj
 | Bv i=>
  obtain ⟨t,rfl⟩:=rx
  cases y with
  | Bv j=>obtain ⟨t',rfl⟩:=ry;exact PySem.W.ne_bytes (bt I q (congrArg not yl))
  | _=>exact absurd (show false=true from hs) Qaj
 | _=>cases y<;>exact absurd (show false=true from hs) Qaj
theorem qc:iK X (compareOp .Lt) (EL fun i j=> .bl (decide (i<j))):=Jz fun _ _ _ _ _ _ _ q=>lt_int q
theorem qe:iK X (compareOp .Gt) (EL fun i j=> .bl (decide (j<i))):=Jz fun _ _ _ _ _ _ _ q=>gt_int q
theorem MZ:iK X (compareOp .GtE) (EL fun i j=> .bl (decide (j<=i))):=Jz fun _ _ _ _ _ _ _ q=>ge_int q
theorem zP:iK X (compareOp .In) (fun x y H Q=> ∃i j,x= .str i/\y= .str j/\Q (.bl (!(Builtin.Str.occurrences j i 0 j.length 1).isEmpty)) H):=by
 intro pins s σ H x y v u Q I rx ry h
 obtain ⟨i,j,rfl,rfl,q⟩:=h
 obtain ⟨t,rfl⟩:=rx
 obtain ⟨t',rfl⟩:=ry
 exact in_str (bt I q rfl)
theorem wG:iK X (compareOp .Is) (fun x y H Q=>y= .cK/\Q (.bl (decide (x= .cK))) H):=by
 intro pins s σ H x y v u Q I rx ry h
 obtain ⟨rfl,q⟩:=h
 cases ry
 refine is_none_gen (bt I q ?_)
 cases x<;>first
  |(cases rx;rfl)
  |(obtain ⟨t,rfl⟩:=rx;rfl)
theorem EM:iK X (compareOp .IsNot) (fun x y H Q=>y= .cK/\Q (.bl (!decide (x= .cK))) H):=by
 intro pins s σ H x y v u Q I rx ry h
 obtain ⟨rfl,q⟩:=h
 cases ry
 refine isnot_none_gen (bt I q ?_)
 cases x<;>first
  |(cases rx;rfl)
  |(obtain ⟨t,rfl⟩:=rx;rfl)
theorem aT (b:Expr) {op:CmpOp} (h:op≠ .In:=by decide) (h2:op≠ .NotIn:=by decide):behindInMarks op b=false:=by
 have e1:(op==CmpOp.In)=false:=by cases op<;>first | rfl | exact absurd rfl h
 have e2:(op==CmpOp.NotIn)=false:=by cases op<;>first | rfl | exact absurd rfl h2
 cases b<;>simp[behindInMarks,e1,e2]
theorem mR {op:CmpOp} {r:R2} (ho:iK X (compareOp op) r) (ha:PE X a ta) (hb:PE X b tb) (hm:behindInMarks op b=false):PE X (.Compare a [op] [b] pos) (Jx r ta tb):=by
 intro pins s σ H Q I h
 exact wpAny_Compare1 (Jy ha hb I h fun v u s2 x y H2 I2 rx ry q=>ho pins s2 σ H2 x y v u Q I2 rx ry q) hm
def BR (t:TE):TT:=fun σ H Q=>t σ H fun x H'=> ∃k,x= .bl k/\Q k H'
theorem aE {op:CmpOp} {r:R2} (ho:iK X (compareOp op) r) (ha:PE X a ta) (hb:PE X b tb) (hm:behindInMarks op b=false):PT X (.Compare a [op] [b] pos) (BR (Jx r ta tb)):=by
 intro pins s σ H Q I h
 refine wpAny_isTrue_Compare1 (bN (ha pins s σ H _ I h) fun v s1 ⟨x,H1,I1,r1,q1⟩=>bN (hb pins s1 σ H1 _ I1 q1) fun u s2 ⟨y,H2,I2,r2,q2⟩=>
  bN (ho pins s2 σ H2 x y v u _ I2 r1 r2 q2) fun c s3 ⟨z,H3,I3,r3,k,e,q3⟩=>?_) hm
 subst e
 cases r3
 exact wpAny_truthy_bool ⟨H3,I3,q3⟩
theorem iL:(sizeLine:Nat)<2 ^ 63:=by rw[sizeLine_eq];decide
theorem wH:iK X (binaryOp .Add) (fun x y H Q=> ∃i j,x= .str i/\y= .str j/\i.length+j.length<=sizeLine/\Q (.str (i++j)) H):=by
 intro pins s σ H x y v u Q I rx ry h
 obtain ⟨i,j,rfl,rfl,hz,q⟩:=h
 obtain ⟨t,rfl⟩:=rx
 obtain ⟨t',rfl⟩:=ry
 exact add_str (fun t' tk=>⟨.str (i++j),H,I.tok _,⟨_,rfl⟩,q⟩) hz
theorem vals1 {x:V} {us:List Value} (r:Vals [x] us): ∃u,us=[u]/\RelV x u:=by
 cases r with
 | cons r1 r2=>cases r2;exact ⟨_,rfl,r1⟩
theorem vals2 {x y:V} {us:List Value} (r:Vals [x,y] us): ∃u w',us=[u,w']/\RelV x u/\RelV y w':=by
 cases r with
 | cons r1 r2=>
  cases r2 with
  | cons r3 r4=>cases r4;exact ⟨_,_,rfl,r1,r3⟩
theorem zQ (hc:X.calm=true):cF X (.builtin "max") (fun xs H Q=> ∃i j,xs=[.int i, .int j]/\Q (.int (if j>i then j else i)) H):=by
 intro pins s σ H xs us Q I r h
 obtain ⟨i,j,rfl,q⟩:=h
 obtain ⟨u,w',rfl,⟨t,rfl⟩,⟨t',rfl⟩⟩:=vals2 r
 refine max_two_ints (I.ok.hd hc) fun h' tk k=>⟨_,H,I.kept k,?_,q⟩
 by_cases hj:j>i
 ·rw[if_pos hj,if_pos hj];exact ⟨_,rfl⟩
 ·rw[if_neg hj,if_neg hj];exact ⟨_,rfl⟩
theorem qf (hc:X.calm=true):cF X (.builtin "min") (fun xs H Q=> ∃i j,xs=[.int i, .int j]/\Q (.int (if j<i then j else i)) H):=by
 intro pins s σ H xs us Q I r h
 obtain ⟨i,j,rfl,q⟩:=h
 obtain ⟨u,w',rfl,⟨t,rfl⟩,⟨t',rfl⟩⟩:=vals2 r
 refine min_two_ints (I.ok.hd hc) fun h' tk k=>⟨_,H,I.kept k,?_,q⟩
 by_cases hj:j<i
 ·rw[if_pos hj,if_pos hj];exact ⟨_,rfl⟩
 ·rw[if_neg hj,if_neg hj];exact ⟨_,rfl⟩
theorem la:cF X (.type "int") (fun xs H Q=>(∃i,xs=[.int i]/\Q (.int i) H)\/ ∃k,xs=[.bl k]/\Q (.int (if k then 1 else 0)) H):=by
 intro pins s σ H xs us Q I r h
 rcases h with ⟨i,rfl,q⟩ | ⟨k,rfl,q⟩
 ·obtain ⟨u,rfl,t,rfl⟩:=vals1 r
  exact call_int_int ⟨.int i,H,I,⟨_,rfl⟩,q⟩
 ·obtain ⟨u,rfl,r1⟩:=vals1 r
  cases r1
  exact call_int_bool ⟨.int (if k then 1 else 0),H,I.tok _,⟨_,rfl⟩,q⟩
theorem rz:cF X (.type "str") (fun xs H Q=> ∃i,xs=[.int i]/\i.natAbs.log2<1920/\Q (.str (toString i)) H):=by
 intro pins s σ H xs us Q I r h
 obtain ⟨i,rfl,hz,q⟩:=h
 obtain ⟨u,rfl,t,rfl⟩:=vals1 r
 exact PySem.P.str_of_int hz ⟨.str _,H,I.tok _,⟨_,rfl⟩,q⟩
end
structure JB (h:Heap) (x dx C:Addr) (mA:Str->Option Value):Prop where
 obj:h.get? x=some (PySem.W.instObj C dx)
 ns:h.Ns1 dx mA
 ne:dx≠x
theorem qg {h:Heap} {dx:Addr} {mA:Str->Option Value} (n:h.Ns1 dx mA): ∃od,h.get? dx=some od/\ ∀name,PySem.W.lookIn name od=some (mA name):=by
 obtain ⟨o,es,ep,ho,hd,hk,_,hm⟩:=n
 refine ⟨o,ho,fun name=>?_⟩
 have e:=hm name
 unfold nsFind findBy at e
 rw[<-Array.find?_toList]at e
 unfold PySem.W.lookIn
 rw[hd]
 dsimp only
 split
 ·rename_i y q
  rw[q]at e
  exact congrArg some e
 ·rename_i q
  rw[q]at e
  have a:es.toList.any (·.refKey)=false:=by
   rw[List.any_eq_false]
   intro y hy
   obtain ⟨z,t,EN⟩:=hk y (Array.mem_toList_iff.mp hy)
   simp[DictEntry.refKey,EN]
  have a': ¬es.toList.any (·.refKey)=true:=by rw[a];exact Qaj
  rw[if_neg a']
  exact congrArg some e
theorem JB.look {h:Heap} {x dx C:Addr} {mA:Str->Option Value} (I:JB h x dx C mA): ∃od,PySem.W.InstAt h x (PySem.W.instObj C dx) C (some od)/\ ∀name,PySem.W.lookIn name od=some (mA name):=
 let ⟨od,ho,hl⟩:=qg I.ns
 ⟨od,⟨I.obj,rfl,rfl,ho⟩,hl⟩
section
variable {prog:Program} {w:World} {A:Around} {E:Value->Shared->Prop} {s:Shared} {K:PySem.W.Frag} {x dx C f:Addr} {mA:Str->Option Value} {name:Str} {v:Value}
end
noncomputable def mE (f:Str) (v:V):List (Str×V)->List (Str×V)
 | []=>[(f,v)]
 |(g,x)::r=>if g=f then (g,v)::r else (g,x)::mE f v r
theorem lY (f g:Str) (v:V): ∀fs:List (Str×V),(mE f v fs).lookup g=if g=f then some v else fs.lookup g
 | []=>by
  show List.lookup g [(f,v)]=_
  by_cases h:g=f
  ·have hb:(g==f)=true:=beq_iff_eq.mpr h
   simp only[List.lookup,hb,if_pos h]
  ·have hb:(g==f)=false:=beq_eq_false_iff_ne.mpr h
   simp only[List.lookup,hb,if_neg h]
 |(k,x)::r=>by
  have ih:=lY f g v r
  rw[show mE f v ((k,x)::r)=(if k=f then (k,v)::r else (k,x)::mE f v r) from rfl]
  by_cases hk:k=f
  ·rw[if_pos hk]
   by_cases h:g=k
   ·have hb:(g==k)=true:=beq_iff_eq.mpr h
    simp only[List.lookup,hb,if_pos (h.trans hk)]
   ·have hb:(g==k)=false:=beq_eq_false_iff_ne.mpr h
    simp only[List.lookup,hb,if_neg (fun e:g=f=>h (e.trans hk.symm))]
  ·rw[if_neg hk]
   by_cases h:g=k
   ·have hb:(g==k)=true:=beq_iff_eq.mpr h
    simp only[List.lookup,hb,if_neg (fun e:g=f=>hk (h.symm.trans e))]
   ·have hb:(g==k)=false:=beq_eq_false_iff_ne.mpr h
    simp only[List.lookup,hb]
    exact ih
theorem lb (f:Str) (v:V): ∀fs:List (Str×V),f∈(mE f v fs).map (·.1)/\ ∀g,g∈fs.map (·.1)->g∈(mE f v fs).map (·.1)
 | []=>⟨by simp[mE],fun g h=>by simp at h⟩
 |(k,x)::r=>by
  obtain ⟨i1,i2⟩:=lb f v r
  rw[show mE f v ((k,x)::r)=(if k=f then (k,v)::r else (k,x)::mE f v r) from rfl]
  by_cases hk:k=f
  ·rw[if_pos hk]
   subst hk
   exact ⟨by simp,fun g h=>by simpa using h⟩
  ·rw[if_neg hk]
   refine ⟨?_,fun g h=>?_⟩
   ·rw[ZD]
    exact Zz _ i1
   ·rw[ZD]at h ⊢
    rcases XB.mp h with e | e
    ·exact XB.mpr (.inl e)
    ·exact Zz _ (i2 g e)
theorem js.some_of {v:V} {o:Option Value} (r:js (some v) o): ∃u,o=some u/\RelV v u:=by
 cases o with
 | none=>exact (show False from r).elim
 | some u=>exact ⟨u,rfl,r⟩
theorem zR {v:V} {u:Value} (r:RelV v u):PySem.W.handedIn u=true:=by
 cases v with
 | cK=>cases (show u=Value.none from r);rfl
 | bl b=>cases (show u=Value.bool b from r);rfl
 | int i=>obtain ⟨t,e⟩:=(show ∃t,u=Value.int i t from r);cases e;rfl
 | str x=>obtain ⟨t,e⟩:=(show ∃t,u=Value.str x t from r);cases e;rfl
 | Bv b=>obtain ⟨t,e⟩:=(show ∃t,u=Value.bytes b t from r);cases e;rfl
 | Jh b=>obtain ⟨t,e⟩:=(show ∃t,u=Value.float b t from r);cases e;rfl
 | ref a=>cases (show u=Value.ref a from r);rfl
 | ty n=>cases (show u=Value.type n from r);rfl
section
variable {P:Program} {w:World} {H H':Hp} {h h':Heap} {a C dx:Addr} {fs Zn:List (Str×V)}
theorem EO (bg:hW P w H h) (e:H a=some (.ins C dx fs)): ∃mA,JB h a dx C mA/\(∀f,js (fs.lookup f) (mA f))/\PySem.Within mA (fs.map (·.1))/\fs.length<=1000/\H dx=some (.own a):=by
 obtain ⟨d,z,ne,ob,mA,n,r,q⟩:=(show bK P w H h a (.ins C dx fs) from bg a _ e)
 exact ⟨mA,⟨ob,n,ne⟩,r,q,z,d⟩
end
structure R3 (K:PySem.W.Frag) (C:Addr):Prop where
 pg:PySem.W.plainGet K C Str.empty=true
 hd:PySem.W.hasDictIn K C=true
 po:PySem.W.plainOver K C=true
 sa:PySem.W.findIn K (.ref C) "__setattr__"=some (some (.builtin "object.__setattr__"))
theorem R3.get {K:PySem.W.Frag} {C:Addr} (c:R3 K C) (f:Str):PySem.W.plainGet K C f=true:=c.pg
def wI (K:PySem.W.Frag) (C:Addr) (f:Str):Prop:=PySem.W.findIn K (.ref C) f=some none
structure Con (K:PySem.W.Frag) (C:Addr) (f:Str) (v:V) (u:Value):Prop where
 at_:PySem.W.findIn K (.ref C) f=some (some u)
 rel:RelV v u
 get:PySem.W.specialIn K u "__get__"=some none
 cp:PySem.W.copiedNames.contains f=false
structure Meth (K:PySem.W.Frag) (C:Addr) (m:Str) (f:Addr):Prop where
 at_:PySem.W.findIn K (.ref C) m=some (some (.ref f))
 fn:PySem.W.isFn K (.ref f)=true
 kp:PySem.W.keepIn K (.ref f)=true
section
variable {X:Cx} {pins:List (Addr×Obj)} {σ:St} {H:Hp} {s:Shared} {a C dx:Addr} {fs:List (Str×V)} {f:Str} {v:V} {A:Around} {E:Value->Shared->Prop}
theorem ER {prog:Program} {w:World} {env:Env} {e:Expr} {f:Str} {pos:Pos} {s:Shared} {Q:Value->Shared->Prop} (hb:attributeBase e f env (eval e env)=eval e env)
  (h:wpAny (model prog w) A (eval e env) (fun o s₁=>wpAny (model prog w) A (getAttr o f true) Q E s₁) E s):wpAny (model prog w) A (eval (.Attribute e f pos) env) Q E s:=
 Attribute_any_ h (by rw[arm_eval_Attribute,hb])
end
section
variable {X:Cx} {o e value:Expr} {f:Str} {pos pos' M0:Pos} {ta tv:TE}
end
section
variable {X:Cx} {pins:List (Addr×Obj)} {σ:St} {H:Hp} {s:Shared} {A:Around} {E:Value->Shared->Prop} {Q:Value->Shared->Prop} {c:Value} {b:Bool}
inductive mF (K:PySem.W.Frag) (H:Hp):V->Value->Prop where
 | cK:mF K H .cK (.type "NoneType")
 | bl (x:Bool):mF K H (.bl x) (.type "bool")
 | int (i:Int):mF K H (.int i) (.type "int")
 | str (x:Str):mF K H (.str x) (.type "str")
 | Jh (x:UInt64):mF K H (.Jh x) (.type "float")
 | lst {a:Addr} {xs:List V} (e:H a=some (.lst xs)):mF K H (.ref a) (.type "list")
 | j6 {a:Addr} {o:Obj} {xs:List V} (e:H a=some (.j6 o (.lst xs))):mF K H (.ref a) (.type "list")
 | tup {a:Addr} {xs:List V} (e:H a=some (.tup xs)):mF K H (.ref a) (.type "tuple")
 | dK {a:Addr} {aZ:List (Key×V)} (e:H a=some (.dK aZ)):mF K H (.ref a) (.type "dict")
 | dT {a:Addr} {aZ:List (List Key×V)} (e:H a=some (.dT aZ)):mF K H (.ref a) (.type "dict")
 | ins {a C dx:Addr} {fs:List (Str×V)} (e:H a=some (.ins C dx fs)) (cl:R3 K C) (ha:PySem.W.findIn K (.ref C) "__class__"=some (some (.builtin "object.__class__")))
   (hn:PySem.W.specialIn K (.builtin "object.__class__") "__get__"=some (some (.builtin "getset_descriptor.__get__"))) (Qy:PySem.W.takesIn K (.builtin "object.__class__")=some true)
   (hm:PySem.W.mroIn K C (.type "object")=some true):mF K H (.ref a) (.ref C)
theorem lg {x:V} {u t:Value} (I:Inv X pins σ H s) (rx:RelV x u) (ty:mF X.K H x t) (e:PySem.W.kitOne X.K t c=some b) (h: ∀tk,Q (.bool b) { s with toks:=tk }):
  wpAny (model X.prog X.w) A (call (.builtin "isinstance") [u,c]) Q E s:=by
 cases ty with
 | cK=>cases (show u=Value.none from rx);exact Qb0 PySem.W.kitx_none I.iH True.intro e (fun z=>nomatch z) h
 | bl y=>cases (show u=Value.bool y from rx);exact Qb0 PySem.W.kitx_bool I.iH True.intro e (fun z=>nomatch z) h
 | int i=>obtain ⟨t,q⟩:=(show ∃t,u=Value.int i t from rx);cases q;exact Qb0 PySem.W.kitx_int I.iH True.intro e (fun z=>nomatch z) h
 | str y=>obtain ⟨t,q⟩:=(show ∃t,u=Value.str y t from rx);cases q;exact Qb0 PySem.W.kitx_str I.iH True.intro e (fun z=>nomatch z) h
 | Jh y=>obtain ⟨t,q⟩:=(show ∃t,u=Value.float y t from rx);cases q;exact Qb0 PySem.W.kitx_float I.iH True.intro e (fun z=>nomatch z) h
 | @lst a xs ea=>
  cases (show u=Value.ref a from rx)
  obtain ⟨_,_,n,_,h1⟩:=(show bK X.prog X.w H s.heap a (.lst xs) from I.bg a _ ea)
  exact Qb0 PySem.W.kitx_list I.iH ⟨_,h1,rfl⟩ e (fun z=>nomatch z) h
 | @j6 a ob xs ea=>
  cases (show u=Value.ref a from rx)
  obtain ⟨_,_,_,n,_,h1⟩:=(show bK X.prog X.w H s.heap a (.j6 ob (.lst xs)) from I.bg a _ ea)
  exact Qb0 PySem.W.kitx_list I.iH ⟨_,h1,rfl⟩ e (fun z=>nomatch z) h
 | @tup a xs ea=>
  cases (show u=Value.ref a from rx)
  obtain ⟨_,_,_,p⟩:=(show bK X.prog X.w H s.heap a (.tup xs) from I.bg a _ ea)
  obtain ⟨o,h1,h2,_⟩:=p
  exact Qb0 PySem.W.kitx_tuple I.iH ⟨o,h1,h2⟩ e (fun z=>nomatch z) h
 | @dK a aZ ea=>
  cases (show u=Value.ref a from rx)
  obtain ⟨_,_,vs,_,p⟩:=(show bK X.prog X.w H s.heap a (.dK aZ) from I.bg a _ ea)
  obtain ⟨o,es,ep,h1,h2,_⟩:=p
  exact Qb0 PySem.W.kitx_dict I.iH ⟨o,h1,h2.1⟩ e (fun z=>nomatch z) h
 | @dT a aZ ea=>
  cases (show u=Value.ref a from rx)
  obtain ⟨_,_,xs,_,o,es,ep,h1,h2,_⟩:=(show bK X.prog X.w H s.heap a (.dT aZ) from I.bg a _ ea)
  exact Qb0 PySem.W.kitx_dict I.iH ⟨o,h1,h2.1⟩ e (fun z=>nomatch z) h
 | @ins a C dx fs ea cl ha hn Qy hm=>
  cases (show u=Value.ref a from rx)
  obtain ⟨mA,O,_⟩:=EO I.bg ea
  obtain ⟨od,J,_⟩:=O.look
  exact Qb0 (PySem.W.kitx_own (cl.get _) cl.hd ha hn Qy hm) I.iH J e (fun z=>nomatch z) h
end
structure cj (k:Nat) (A:Around):Prop where
 hd:A.handled=none
 dp:A.depth+3*k+5<recursionLimit
 un:A.units+16*k+200<cLine
 gd:A.guards=some []
theorem cj.mono {j k:Nat} {A:Around} (r:cj k A) (h:j<=k):cj j A:=⟨r.hd,by have:=r.dp;omega,by have:=r.un;omega,r.gd⟩
theorem cj.deeper {k:Nat} {A:Around} (r:cj (k+1) A) (env:Env):cj k (A.deeper env):=
 ⟨r.hd,by have:=r.dp;show A.depth+1+3*k+5<_;omega,by have:=r.un;show A.units+3+16*k+200<_;omega,r.gd⟩
theorem wJ {A:Around} {C:Addr} {us:List Value} {kw:List (Str×Value)}:(A.under (.builtin "type.__call__" ⟨.ref C::us,kw⟩)).depth=A.depth+1:=by
 first | rfl | simp[Around.under,Code.weight,Code.isCreation,Code.isGuard,Code.isCaller,Code.frames,Code.isFrame,guardIds]
theorem wK {A:Around} {C:Addr} {us:List Value} {kw:List (Str×Value)}:(A.under (.builtin "type.__call__" ⟨.ref C::us,kw⟩)).units=A.units+1:=by
 first | rfl | simp[Around.under,Code.cUnits,Code.frames,Code.isFrame]
theorem cj.make {k:Nat} {A:Around} (r:cj (k+1) A) (C:Addr) (us:List Value) (kw:List (Str×Value)):cj k (A.under (.builtin "type.__call__" ⟨.ref C::us,kw⟩)):=
 ⟨r.hd,by have:=r.dp;rw[wJ];omega,by have:=r.un;rw[wK];omega,by first | exact r.gd | (simpa [Around.under,Code.guards,Code.isGuard,pushGuards,guardIds]using r.gd)⟩
theorem cj.depth {k:Nat} {A:Around} (r:cj k A):A.depth<recursionLimit:=by have:=r.dp;omega
theorem cj.units {k:Nat} {A:Around} (r:cj k A):A.units+64<cLine:=by have:=r.un;omega
def JC:TA:=fun _ H Q=>Q [] H
def BS (ta:TE) (tr:TA):TA:=fun σ H Q=>ta σ H fun x H1=>tr σ H1 fun xs H2=>Q (x::xs) H2
section
variable {X:Cx} {e:Expr} {es:List Expr} {te:TE} {t:TA} {pos:Pos}
theorem ae:PA X [] JC:=fun _ _ _ _ H Q I h=>Qda ⟨[],H,I, .nil,h⟩
theorem aa (ha:PE X e te) (hr:PA X es t) (hs:starEach (e::es) X.env=(false,eval e X.env)::starEach es X.env:=by rfl):PA X (e::es) (BS te t):=by
 intro pos pins s σ H Q I h
 rw[hs]
 show wpAny _ _ (spliced ((false,eval e X.env)::backTo pos (starEach es X.env))) _ _ s
 refine Qb6 (bN (ha pins s σ H _ I h) fun u s1 ⟨x,H1,I1,r1,q1⟩=>?_)
 exact bN (hr pos pins s1 σ H1 _ I1 q1) fun us s2 ⟨xs,H2,I2,r2,q2⟩=>⟨x::xs,H2,I2, .cons r1 r2,q2⟩
def R4 (t:TA):TE:=fun σ H Q=>t σ H fun xs H1=>xs.length<=sizeLine/\ ∀p,H1 p=none->Q (.ref p) (upd H1 p (.tup xs))
def R5 (t:TA):TE:=fun σ H Q=>t σ H fun xs H1=>xs.length<=sizeLine/\ ∀p,H1 p=none->Q (.ref p) (upd H1 p (.lst xs))
theorem dz {x1} (h:PA X es t):PE X (.Tuple es x1 pos) (R4 t):=by
 intro pins s σ H Q I hq
 refine wpAny_Tuple_spliced (bN (h pos pins s σ H _ I hq) fun us s1 ⟨xs,H1,I1,r,z,q⟩=>⟨by rw[<-r.length];exact z,?_⟩)
 have hf:H1 s1.heap.objs.size=none:=I1.bg.fresh (XA _)
 refine ⟨.ref s1.heap.objs.size,upd H1 s1.heap.objs.size (.tup xs),I1.laid (t':=s1.toks) (fun b u e=>JR _ e) (XA _) ?_,rfl,q _ hf⟩
 exact ⟨z,us,r,⟨_,Qai _ rfl,rfl,_,rfl⟩⟩
theorem bE (h:PA X es t):PE X (.List es pos) (R5 t):=by
 intro pins s σ H Q I hq
 refine wpAny_List_spliced (bN (h pos pins s σ H _ I hq) fun us s1 ⟨xs,H1,I1,r,z,q⟩=>⟨by rw[<-r.length];exact z,?_⟩)
 have hf:H1 s1.heap.objs.size=none:=I1.bg.fresh (XA _)
 refine ⟨.ref s1.heap.objs.size,upd H1 s1.heap.objs.size (.lst xs),I1.laid (t':=s1.toks) (fun b u e=>JR _ e) (XA _) ?_,rfl,q _ hf⟩
 exact ⟨z,us,0,r,Qai _ rfl⟩
end
abbrev Sp:=List V->Hp->VK->XK->Prop
abbrev ym:=List Env->Hp->Shared->XK->Value->Shared->Prop
structure rA (P:Program) (w:World) (K:PySem.W.Frag) (mg:Str->Option Value) (base:Heap) (A:Around) (outer:List Env) (s:Shared) (H:Hp):Prop where
 frames:A.frames=some outer
 mod:Mod K mg base
 bs: ∀b o,base.get? b=some o->s.heap.get? b=some o/\H b=none
 Bw:base.objs.size<=s.heap.objs.size
 jP:s.heap.FunFrames base outer
 Ec: ∀b∈jO outer,H b=none
 bg:hW P w H s.heap
 bare:AllBare s.gens
def CE (outer:List Env) (P:Program) (w:World) (H:Hp) (s:Shared) (Q:VK) (u:Value) (s':Shared):Prop:=
 ∃v H',s'.os=s.os/\AllBare s'.gens/\Un (jO outer) [] H H' s.heap s'.heap/\hW P w H' s'.heap/\RelV v u/\Q v H'
def CR (CX:ym) (outer:List Env) (P:Program) (w:World) (H:Hp) (s:Shared) (Q:VK) (E:XK) (r:Result) (s':Shared):Prop:=
 match r with
 | .ok (.ret u)=>CE outer P w H s Q u s'
 | .ok _=>False
 | .error e=>CX outer H s E e s'
structure ck (P:Program) (w:World) (K:PySem.W.Frag) (mg:Str->Option Value) (base:Heap) (CX:ym) (k:Nat) (f:Addr) (fd:FuncData) (ps:List Str) (sp:Sp):Prop where
 len: ∀vs H Q E,sp vs H Q E->vs.length=ps.length
 run: ∀(A:Around) (outer:List Env) (s:Shared) (H:Hp) (args:Args) (us:List Value) (vs:List V) (Q:VK) (E:XK),cj k A->rA P w K mg base A outer s H->BindsTo s fd args (ps.zip us)->Vals vs us->sp vs H Q E->
  codeAny (model P w) A (.call (.ref f) args) (CR CX outer P w H s Q E) s
theorem rA.make {P:Program} {w:World} {K:PySem.W.Frag} {mg:Str->Option Value} {base:Heap} {A:Around} {outer:List Env} {s:Shared} {H:Hp} (e:rA P w K mg base A outer s H) (C:Addr) (us:List Value) (kw:List (Str×Value)):
  rA P w K mg base (A.under (.builtin "type.__call__" ⟨.ref C::us,kw⟩)) outer s H:=⟨by first | exact e.frames | (simpa [Around.under,Code.envs,Code.isFrame,pushEnvs]using e.frames),e.mod,e.bs,e.Bw,e.jP,e.Ec,e.bg,e.bare⟩
section
variable {X:Cx} {pins:List (Addr×Obj)} {σ:St} {H:Hp} {s s':Shared}
theorem Inv.BU (I:Inv X pins σ H s):rA X.prog X.w X.K X.mg X.base X.A X.stack s H:=
 ⟨I.ok.frames,I.ok.mod,I.bs,Qa1 I.ok.Bw I.sz,I.stack,I.mM,I.bg,I.bare⟩
theorem Inv.after {Q:VK} {u:Value} (I:Inv X pins σ H s) (h:CE X.stack X.prog X.w H s Q u s'):EP X pins σ Q u s':=by
 obtain ⟨v,H',os,bare,un,bg,r,q⟩:=h
 obtain ⟨hh,g,d,t,jB⟩:=s'
 obtain rfl:jB=s.os:=os
 exact ⟨v,H',I.call (h':=hh) (g':=g) (d':=d) (t':=t) (ch:=[]) un bg bare (fun b z=>absurd z (by simp)),r,q⟩
end
def M3 (sp:Sp) (wL:List V) (E:XK) (t:TA):TE:=fun σ H Q=>t σ H fun vs H1=>sp (vs++wL) H1 Q E
def Binds (K:PySem.W.Frag) (fd:FuncData) (ps:List Str) (ds:List Value):Prop:=
 ∀(s:Shared) (us:List Value),K.In s.heap->(us++ds).length=ps.length->BindsTo s fd ⟨us,[]⟩ (ps.zip (us++ds))
theorem Binds.all {K:PySem.W.Frag} {fd:FuncData} {ps:List Str} (h: ∀us:List Value,us.length=ps.length->bindArgs fd ⟨us,[]⟩=pure (ps.zip us)):Binds K fd ps []:=fun s us _ hl=>by
 rw[Qal]at hl ⊢
 exact .of_eq (h us hl)
def Passes (CX:ym) (X:Cx) (E:XK):Prop:= ∀(pins:List (Addr×Obj)) (σ:St) (H:Hp) (s:Shared) (e:Value) (s':Shared),Inv X pins σ H s->CX X.stack H s E e s'->X.xe e s'
section
variable {X:Cx} {CX:ym} {k:Nat} {f C:Addr} {fd:FuncData} {ps:List Str} {sp:Sp} {wL:List V} {ds:List Value} {E:XK} {x m:Str} {p pos apos:Pos} {e o:Expr} {es:List Expr} {ta:TE} {t:TA}
theorem JD {pins:List (Addr×Obj)} {σ:St} {H:Hp} {s:Shared} {Q:VK} {us:List Value} {vs:List V} (F:ck X.prog X.w X.K X.mg X.base CX k f fd ps sp) (hr:cj k X.A) (hb:Binds X.K fd ps ds) (hd:Vals wL ds) (hx:Passes CX X E)
  (I:Inv X pins σ H s) (r:Vals vs us) (h:sp (vs++wL) H Q E):wpAny (model X.prog X.w) X.A (call (.ref f) us) (EP X pins σ Q) X.xe s:=by
 have r2:Vals (vs++wL) (us++ds):=r.append hd
 have hl:(us++ds).length=ps.length:=by rw[<-r2.length];exact F.len _ _ _ _ h
 refine wpAny_call (codeAny_mono (F.run X.A X.stack s H ⟨us,[]⟩ (us++ds) (vs++wL) Q E hr I.BU (hb s us I.iH hl) r2 h) fun r s' hq=>?_)
 cases r with
 | error e=>exact hx pins σ H s e s' I hq
 | ok fl=>
  cases fl with
  | ret u=>exact I.after hq
  | next=>exact False.elim hq
  | brk=>exact False.elim hq
  | cont=>exact False.elim hq
theorem aB (F:ck X.prog X.w X.K X.mg X.base CX k f fd ps sp) (hr:cj k X.A) (hg:Gl X x) (hm:X.mg x=some (.ref f)) (hk:PySem.W.keepIn X.K (.ref f)=true) (hb:Binds X.K fd ps ds) (hd:Vals wL ds) (hx:Passes CX X E)
  (ha:PA X (e::es) t) (mG:(x==("__debug__":Str))=false:=by decide) (he:starEach (e::es) X.env=(false,eval e X.env)::starEach es X.env:=by rfl) (fu:(backTo pos (starEach es X.env)).any (·.1)=false:=by rfl):
  PE X (.Call (.Name x p) (e::es) [] pos) (M3 sp wL E t):=by
 intro pins s σ H Q I h
 refine wpAny_Call_Name_kw (f_ I hg hm ?_ mG)
 refine Qdf (h₀:=X.base) I.ok.mod.G3 hk (bN (ha pos pins s σ H _ I h) fun us s1 ⟨vs,H1,I1,r,q⟩=>⟨I1.iH,?_⟩) he fu
 exact JD F hr hb hd hx I1 r q
structure Mk (K:PySem.W.Frag) (C f:Addr):Prop where
 makes:PySem.W.makesIn K C=true
 init:PySem.W.findIn K (.ref C) "__init__"=some (some (.ref f))
 fn:PySem.W.isFn K (.ref f)=true
 kp:PySem.W.keepIn K (.ref C)=true
end
section
variable {X:Cx} {CX:ym} {k:Nat} {f C:Addr} {fd:FuncData} {ps ks:List Str} {sp:Sp} {E:XK} {x m:Str} {p pos apos Zv:Pos} {e o:Expr} {es:List Expr} {kws:List Keyword} {te ta:TE} {t tk:TA} {nm:Option Str}
structure R6 (K:PySem.W.Frag) (fd:FuncData) (ps ks:List Str) (g:List Value->List Value->List Value) (gV:List V->List V->List V):Prop where
 to: ∀(s:Shared) (us ws:List Value),K.In s.heap->(g us ws).length=ps.length->BindsTo s fd ⟨us,ks.zip ws⟩ (ps.zip (g us ws))
 rel: ∀{vs:List V} {us:List Value} {zs:List V} {ws:List Value},Vals vs us->Vals zs ws->Vals (gV vs zs) (g us ws)
variable {g:List Value->List Value->List Value} {gV:List V->List V->List V}
end
structure aW (N P:List Str) (sc:Scope):Prop where
 kind:sc.kind= .function
 co:sc.isCoroutine=false
 gen:sc.isGenerator=false
 nd:N.Nodup
 pre:N.take P.length=P
 par: ∀x∈P,sc.names.lookup x=some .local\/sc.names.lookup x=some .cell
 JE: ∀y∈sc.names,y.2≠ .free
theorem qh {kindOf:Str->Option NameKind} {x:Str}: ∀{binds:List (Str×Value)} {m:Str->Option Value},(∀v,(x,v)∉binds)->bindL kindOf binds m x=m x
 | [],_,_=>rfl
 |(n,v)::r,m,h=>by
  unfold bindL
  rw[qh fun w hw=>h w (Zz _ hw)]
  split
  ·have:x≠n:=by rintro rfl;exact h v ZC
   simp[this]
  ·rfl
theorem qi {kindOf:Str->Option NameKind} {x:Str}: ∀{binds:List (Str×Value)} {m:Str->Option Value},(∀v,(x,v)∉binds)->bindC kindOf binds m x=m x
 | [],_,_=>rfl
 |(n,v)::r,m,h=>by
  unfold bindC
  rw[qi fun w hw=>h w (Zz _ hw)]
  split
  ·rfl
  ·have:x≠n:=by rintro rfl;exact h v ZC
   simp[this]
theorem qj {kindOf:Str->Option NameKind} {x:Str} {v:Value}: ∀{P:List Str} {vs:List Value} {i:Nat} {m:Str->Option Value},P.Nodup->P[i]? =some x->vs[i]? =some v->kindOf x=some .local->
  bindL kindOf (P.zip vs) m x=some v
 | [],_,_,_,_,h,_,_=>by simp at h
 | _::_,[],_,_,_,_,h,_=>by simp at h
 | p::P,w::vs,0,m,nd,h1,h2,hk=>by
  simp at h1 h2;subst h1;subst h2
  show bindL kindOf ((p,w)::P.zip vs) m p=_
  unfold bindL
  rw[qh fun v hv=>(Qcs.mp nd).1 (Qea hv).1,if_pos hk]
  simp
 | p::P,w::vs,i+1,m,nd,h1,h2,hk=>by
  show bindL kindOf ((p,w)::P.zip vs) m x=_
  unfold bindL
  exact qj (i:=i) (Qcs.mp nd).2 (by simpa using h1) (by simpa using h2) hk
theorem qk {kindOf:Str->Option NameKind} {x:Str} {v:Value}: ∀{P:List Str} {vs:List Value} {i:Nat} {m:Str->Option Value},P.Nodup->P[i]? =some x->vs[i]? =some v->kindOf x≠some .local->
  bindC kindOf (P.zip vs) m x=some v
 | [],_,_,_,_,h,_,_=>by simp at h
 | _::_,[],_,_,_,_,h,_=>by simp at h
 | p::P,w::vs,0,m,nd,h1,h2,hk=>by
  simp at h1 h2;subst h1;subst h2
  show bindC kindOf ((p,w)::P.zip vs) m p=_
  unfold bindC
  rw[qi fun v hv=>(Qcs.mp nd).1 (Qea hv).1,if_neg hk]
  simp
 | p::P,w::vs,i+1,m,nd,h1,h2,hk=>by
  show bindC kindOf ((p,w)::P.zip vs) m x=_
  unfold bindC
  exact qk (i:=i) (Qcs.mp nd).2 (by simpa using h1) (by simpa using h2) hk
noncomputable def start (N:List Str) (vs:List V):St:=vs.map some++List.replicate (N.length - vs.length) none
noncomputable def jv (CX:ym) (P:Program) (w:World) (K:PySem.W.Frag) (mg:Str->Option Value) (base:Heap) (N:List Str) (qual:Str) (scope:Scope) (f:Addr) (cd:Value) (A:Around) (outer:List Env) (s:Shared) (H:Hp) (E:XK):Cx where
 prog:=P
 w:=w
 K:=K
 mg:=mg
 base:=base
 A:=A.deeper (envOfC qual scope s.heap.objs.size f cd)
 N:=N
 s₀:=s
 H₀:=H
 env:=envOfC qual scope s.heap.objs.size f cd
 outer:=outer
 stack:=envOfC qual scope s.heap.objs.size f cd::outer
 ex:=[]
 calm:=true
 fn:=fun _=>true
 pn:=[]
 xe:=fun e s'=>wpAny (model P w) (A.deeper (envOfC qual scope s.heap.objs.size f cd)) (leaving (envOfC qual scope s.heap.objs.size f cd) e) (fun _ Mj=>CX outer H s E e Mj) (fun e' Mj=>CX outer H s E e' Mj) s'
theorem ub {sc:Scope} {n:Nat} {x:Str} (h:sc.names.lookup x=some .cell): ∃c,(cellsFrom n sc.names []).lookup x=some c:=by
 have q:=Qd7 sc.names n [] (.inl h)
 exact Option.isSome_iff_exists.mp q
theorem ql {CX:ym} {P:Program} {w:World} {K:PySem.W.Frag} {mg:Str->Option Value} {base:Heap} {N ps:List Str} {qual:Str} {scope:Scope} {f:Addr} {cd:Value} {A:Around} {outer:List Env} {s s1:Shared} {H:Hp} {E:XK} {us:List Value} {vs:List V}
  (S:aW N ps scope) (hd:A.handled=none) (e0:rA P w K mg base A outer s H) (hl:vs.length=ps.length) (r:Vals vs us)
  (x:InCallC s s.heap.objs.size (bindL (envOfC qual scope s.heap.objs.size f cd).kindOf (ps.zip us) fun _=>none) (cellsFrom (s.heap.objs.size+1) scope.names []) (bindC (envOfC qual scope s.heap.objs.size f cd).kindOf (ps.zip us) fun _=>none) s1):
  Inv (jv CX P w K mg base N qual scope f cd A outer s H E) [] (start N vs) H s1:=by
 have fu:ps.length<=N.length:=by have:=congrArg List.length S.pre;rw[Qab]at this;omega
 obtain ⟨h1,tk,rfl,hk⟩:=x.done
 have M4: ∀b:Addr,b∉(jv CX P w K mg base N qual scope f cd A outer s H E).ex:=fun b z=>absurd (show b∈([]:List Addr) from z) (by simp)
 refine ⟨⟨e0.mod,S.kind,rfl,rfl,XA _,fun y z c h1 h2=>?_,fun y hy=>?_,fun y c _ h=>?_,fun _=>hd,Around.frames_deeper e0.frames, .inr ⟨rfl,rfl⟩,fun b z=>absurd z (M4 b),e0.bs,e0.Bw,fun b _ _=>M4 b,fun b z=>absurd z (M4 b),e0.jP,e0.Ec⟩,
  rfl,e0.bare,Un.kept hk,⟨_,x.toInCall.ns,fun i y v h1 h2 h3=>?_⟩,fun y c h=>⟨_,x.cell y c h⟩,e0.bg.fresh (XA _),fun y c h=>?_,fun p hp=>absurd (show p∈([]:List (Addr×Obj)) from hp) (by simp),e0.bg.kept hk,?_⟩
 ·exact name_of_addr x.apart (Qdb h1) (Qdb h2)
 ·have hy:scope.names.lookup y=some .cell\/scope.names.lookup y=some .free:=hy
  rcases hy with hy | hy
  ·exact ub hy
  ·exact absurd rfl (S.JE _ (Qdb hy))
 ·exact Qc7 (x.above y c (Qdb h))
 ·have hi:i<vs.length:=by
   unfold start at h2
   by_cases hi:i<vs.length
   ·exact hi
   ·rw[Qax (by simpa using hi)]at h2
    rw[List.getElem?_replicate]at h2
    split at h2<;>cases h2
  have ha:vs[i]? =some v:=by
   unfold start at h2
   rw[Qbd (by simpa using hi),Qau]at h2
   cases e:vs[i]? with
   | none=>rw[e]at h2;cases h2
   | some a=>rw[e]at h2;cases h2;rfl
  obtain ⟨u,hu,rv⟩:=r.get ha
  have hp:ps[i]? =some y:=by
   rw[<-S.pre,Qav (by omega)];exact h1
  have Xr:ps.Nodup:=by rw[<-S.pre];exact S.nd.sublist (Qeq _ _)
  refine ⟨u,rv,?_⟩
  rcases S.par y (Qay hp) with k | k
  ·exact .inl ⟨k,qj Xr hp hu k⟩
  ·obtain ⟨c,e⟩:=ub (n:=s.heap.objs.size+1) k
   refine .inr ⟨.inl k,c,e,?_⟩
   have q:=x.cell y c e
   rw[qk Xr hp hu (by show scope.names.lookup y≠_;rw[k];decide)]at q
   exact q
 ·exact e0.bg.fresh (Qc7 (x.above y c (Qdb h)))
 ·unfold start
  show _=N.length
  rw[JQ,kb,List.length_replicate]
  omega
theorem Hh {CX:ym} {P:Program} {w:World} {K:PySem.W.Frag} {mg:Str->Option Value} {base:Heap} {k:Nat} {f:Addr} {name qual:Str} {params:Arguments} {body:List Stmt} {scope:Scope} {dV kV doc pm cdv ct oc:Value} {an od:Option Addr}
  {wM:Array (Option Value)} {N ps:List Str} {sp:Sp} (lk:K.lookup f=some ⟨oc,od, .func (PySem.W.fnOf name qual params body scope dV kV doc pm an cdv ct),wM⟩) (lX:PySem.W.codeIn K cdv qual=true) (S:aW N ps scope)
  (len: ∀vs H Q E,sp vs H Q E->vs.length=ps.length)
  (ni: ∀(A:Around) (outer:List Env) (s:Shared) (H:Hp) (vs:List V) (Q:VK) (E:XK),cj k (A.deeper (envOfC qual scope s.heap.objs.size f cdv))->sp vs H Q E->
   ∃t,kN (jv CX P w K mg base N qual scope f cdv A outer s H E) body t/\t { nx:=fun _ H'=>Q .cK H',rt:=Q } (start N vs) H):
  ck P w K mg base CX (k+1) f (PySem.W.fnOf name qual params body scope dV kV doc pm an cdv ct) ps sp:=by
 refine ⟨len,fun A outer s H args us vs Q E hr e0 hb r yq=>?_⟩
 have hl:=len _ _ _ _ yq
 have KX:K.In s.heap:=e0.mod.G3.keeps fun b o e=>(e0.bs b o e).1
 have lim:s.heap.NoLimit:=e0.mod.nolimit.keeps fun b o e=>(e0.bs b o e).1
 have dE: ∀y∈ps.zip us,scope.names.lookup y.1=some .local\/(scope.names.lookup y.1=some .cell/\((cellsFrom (s.heap.objs.size+1) scope.names []).lookup y.1).isSome=true):=fun ⟨n,v⟩ hy=>by
  rcases S.par n (Qea hy).1 with q | q
  ·exact .inl q
  ·exact .inr ⟨q,Qd7 _ _ _ (.inl q)⟩
 refine codeAny_call_function hr.depth (KX _ _ lk) rfl S.co S.gen rfl (PySem.W.codeRec_of KX lX) (hb _ _ _ _ ?_)
 refine wpAny_newFunctionEnv_cells S.kind dE fun env he s1 x=>?_
 subst he
 refine ⟨lim.keeps x.toInCall.keep,codeAny_func ?_⟩
 obtain ⟨t,ht,hq⟩:=ni A outer s H vs Q E (hr.deeper _) yq
 have I:Inv (jv CX P w K mg base N qual scope f cdv A outer s H E) [] (start N vs) H s1:=ql S hr.hd e0 hl r x
 refine wpAny_mono (ht [] s1 (start N vs) H _ I hq) (fun fl s' hs=>?_) fun e s' hs=>hs
 have fin: ∀{σ':St} {H':Hp} {v:V} {u:Value},Inv (jv CX P w K mg base N qual scope f cdv A outer s H E) [] σ' H' s'->RelV v u->Q v H'->CE outer P w H s Q u s':=
  fun {σ' H' v u} J rv q=>⟨v,H',J.os,J.bare,J.base,J.bg,rv,q⟩
 cases fl with
 | ret u=>
  obtain ⟨v,σ',H',J,rv,q⟩:=hs
  exact fin J rv q
 | next=>
  obtain ⟨σ',H',J,q⟩:=hs
  exact fin (v:=V.cK) (u:=Value.none) J rfl q
 | brk=>
  obtain ⟨_,_,_,q⟩:=hs
  exact False.elim q
 | cont=>
  obtain ⟨_,_,_,q⟩:=hs
  exact False.elim q
section
variable {X:Cx} {x:Str} {p pos:Pos} {e:Expr} {es:List Expr} {t:TA} {id T:String} {r:List V->Hp->VK->Prop}
def R7 (r:List V->Hp->VK->Prop) (t:TA):TE:=fun σ H Q=>t σ H fun vs H1=>r vs H1 Q
theorem az (hc:cF X (.builtin id) r) (hg:Gl X x) (hm:X.mg x=none) (hv:bootBuiltins x=some (.builtin id)) (ha:PA X (e::es) t) (hn:x≠"__name__":=by decide) (mG:(x==("__debug__":Str))=false:=by decide)
  (he:starEach (e::es) X.env=(false,eval e X.env)::starEach es X.env:=by rfl) (fu:(backTo pos (starEach es X.env)).any (·.1)=false:=by rfl):PE X (.Call (.Name x p) (e::es) [] pos) (R7 r t):=by
 intro pins s σ H Q I h
 refine wpAny_Call_Name_kw (gv I hg hm hv ?_ hn mG)
 exact Qdp (bN (ha pos pins s σ H _ I h) fun us s1 ⟨vs,H1,I1,r1,q1⟩=>hc pins s1 σ H1 vs us Q I1 r1 q1) he fu
theorem bo (hc:cF X (.type T) r) (hg:Gl X x) (hm:X.mg x=none) (hv:bootBuiltins x=some (.type T)) (ha:PA X (e::es) t) (hn:x≠"__name__":=by decide) (mG:(x==("__debug__":Str))=false:=by decide)
  (he:starEach (e::es) X.env=(false,eval e X.env)::starEach es X.env:=by rfl) (fu:(backTo pos (starEach es X.env)).any (·.1)=false:=by rfl):PE X (.Call (.Name x p) (e::es) [] pos) (R7 r t):=by
 intro pins s σ H Q I h
 refine wpAny_Call_Name_kw (gv I hg hm hv ?_ hn mG)
 exact Qbw (bN (ha pos pins s σ H _ I h) fun us s1 ⟨vs,H1,I1,r1,q1⟩=>hc pins s1 σ H1 vs us Q I1 r1 q1) he fu
end
end L2
namespace HT
open PySem PyProof.Rows
section
open PySem.SeqAt
open PySem.AutoSeq1 (wpAny_loadPart')
open PySem.MeetsSeq PySem.MeetsSeq2 PySem.MeetsSeq3
end
section
variable {prog:Program} {w:World} {A:Around} {E:Value->Shared->Prop} {s:Shared}
noncomputable def jZ (n d:Nat):Option Int->Nat
 | none=>d
 | some v=>if v<0 then (v+(n:Int)).toNat else min v.toNat n
theorem uc (n d:Nat):jZ n d none=d:=rfl
theorem yr (n d k:Nat):jZ n d (some (k:Int))=min k n:=by
 show (if (k:Int)<0 then ((k:Int)+(n:Int)).toNat else min (k:Int).toNat n)=min k n
 rw[if_neg (by omega),Qcx]
theorem JF (n d:Nat) (hd:d<=n) (o:Option Int):jZ n d o<=n:=by
 cases o with
 | none=>exact hd
 | some v=>
  show (if v<0 then (v+(n:Int)).toNat else min v.toNat n)<=n
  by_cases hv:v<0
  ·rw[if_pos hv];omega
  ·rw[if_neg hv];exact Nat.min_le_right _ _
end
end HT
namespace L2
open PySem PySem.Spec PyProof.Rows
abbrev TO:=St->Hp->(Option Int->Hp->Prop)->Prop
def PO (X:Cx) (e:Option Expr) (t:TO):Prop:=
 ∀(pins:List (Addr×Obj)) (s:Shared) (σ:St) (H:Hp) (Q:Option Int->Hp->Prop),Inv X pins σ H s->t σ H Q->
  wpAny (model X.prog X.w) X.A (evalPart e X.env) (fun u s'=> ∃o H',Inv X pins σ H' s'/\IsPart u o/\Q o H') X.xe s
def ES:TO:=fun _ H Q=>Q none H
def M5 (t:TE):TO:=fun σ H Q=>t σ H fun x H1=> ∃i,x= .int i/\Q (some i) H1
theorem intsAre_of {ns:List Int}: ∀{us:List Value},Vals (ns.map V.int) us->IntsAre us ns:=by
 induction ns with
 | nil=>intro us r;rw[Qdn]at r;cases r;exact .nil
 | cons n ns ih=>
  intro us r
  rw[ZD]at r
  cases r with
  | cons r1 r2=>
   obtain ⟨t,e⟩:=r1
   subst e
   exact .cons n t (ih r2)
section
variable {X:Cx} {e:Expr} {te:TE} {lo hi:Option Expr} {tl th:TO} {pos p2:Pos}
theorem bA:PO X none ES:=by
 intro pins s σ H Q I h
 rw[evalPart_none]
 exact wpAny_pure ⟨none,H,I, .none,h⟩
theorem bC (h:PE X e te):PO X (some e) (M5 te):=by
 intro pins s σ H Q I hw
 rw[evalPart_some]
 refine bN (h pins s σ H _ I hw) fun u s1 ⟨x,H1,I1,r1,q1⟩=>?_
 obtain ⟨i,rfl,q⟩:=q1
 obtain ⟨t,rfl⟩:=r1
 exact ⟨some i,H1,I1, .int i t,q⟩
def M6 (X:Cx) (r:V->Option Int->Option Int->Hp->VK->Prop):Prop:=
 ∀(pins:List (Addr×Obj)) (s:Shared) (σ:St) (H:Hp) (x:V) (v vl vu:Value) (lo hi:Option Int) (sl:Addr) (Q:VK),Inv X pins σ H s->RelV x v->s.heap.IsSliceOf sl vl vu .none->IsPart vl lo->IsPart vu hi->r x lo hi H Q->
  ∃T id,typeLookup (.type T) "__getitem__"=pure (some (.builtin id))/\s.TypeIs v T/\wpAny (model X.prog X.w) X.A (getItem v (.ref sl)) (EP X pins σ Q) X.xe s
def Zw (r:V->Option Int->Option Int->Hp->VK->Prop) (te:TE) (tl th:TO):TE:=fun σ H Q=>te σ H fun x H1=>tl σ H1 fun l H2=>th σ H2 fun u H3=>r x l u H3 Q
theorem a_ {r:V->Option Int->Option Int->Hp->VK->Prop} (hr:M6 X r) (he:PE X e te) (hl:PO X lo tl) (hu:PO X hi th):PE X (.Subscript e (.Slice lo hi none p2) pos) (Zw r te tl th):=by
 intro pins s σ H Q I h
 refine Subscript_ (bN (he pins s σ H _ I h) fun v s1 ⟨x,H1,I1,r1,q1⟩=>?_)
 refine wpAny_Slice (bN (hl pins s1 σ H1 _ I1 q1) fun vl s2 ⟨l,H2,I2,pl,q2⟩=>bN (hu pins s2 σ H2 _ I2 q2) fun vu s3 ⟨u,H3,I3,pu,q3⟩=>?_)
 rw[evalPart_none]
 refine wpAny_pure ?_
 have I4:Inv X pins σ H3 { s3 with heap:=s3.heap.push { cls:= .type "slice",data:= .fields #[vl,vu, .none] } }:=I3.kept (t':=s3.toks) fun b ob q=>JR _ q
 obtain ⟨T,id,hT,ht,hg⟩:=hr pins { s3 with heap:=s3.heap.push { cls:= .type "slice",data:= .fields #[vl,vu, .none] } } σ H3 x v vl vu l u s3.heap.objs.size Q I4 r1 (Heap.IsSliceOf.new ..) pl pu q3
 show wpAny (model X.prog X.w) X.A (subscriptTail e (.Slice lo hi none p2) v (.ref s3.heap.objs.size)) (EP X pins σ Q) X.xe { s3 with heap:=s3.heap.push { cls:= .type "slice",data:= .fields #[vl,vu, .none] } }
 exact tail_any (ops:=[.ref s3.heap.objs.size,v]) ht hT hg (by with_unfolding_all rfl)
noncomputable def j8 (xs:List V) (lo hi:Option Int):List V:=(xs.drop (HT.jZ xs.length 0 lo)).take (HT.jZ xs.length xs.length hi - HT.jZ xs.length 0 lo)
theorem ue (xs:List V) (lo hi:Option Int):(j8 xs lo hi).length<=xs.length:=by
 unfold j8
 rw[Qab,Qat]
 omega
end
noncomputable def ET (n:Nat) (i:Int):Option Nat:=if 0<=i then (if i<n then some i.toNat else none) else if -(n:Int)<=i then some (i+n).toNat else none
noncomputable def lZ {α:Type} (xs:List α) (i:Int):Option α:=(ET xs.length i).bind fun j=>xs[j]?
theorem yt {n:Nat} {i:Int} {j:Nat} (h:ET n i=some j):seqIndex? i n=some j/\j<n/\ -(n:Int)<=i/\i<n:=by
 unfold ET at h
 by_cases h0:0<=i
 ·rw[if_pos h0]at h
  by_cases h1:i<n
  ·rw[if_pos h1]at h
   have e:i.toNat=j:=Qae h
   exact ⟨by rw[seqIndex_of h0 h1,e],by omega,by omega,h1⟩
  ·rw[if_neg h1]at h;cases h
 ·rw[if_neg h0]at h
  by_cases h1: -(n:Int)<=i
  ·rw[if_pos h1]at h
   have e:(i+n).toNat=j:=Qae h
   exact ⟨by rw[seqIndex_neg (by omega) h1,e],by omega,h1,by omega⟩
  ·rw[if_neg h1]at h;cases h
theorem j9 {α:Type} {xs:List α} {i:Int} {v:α} (h:lZ xs i=some v): ∃j,seqIndex? i xs.length=some j/\xs[j]? =some v/\j<xs.length/\ -(xs.length:Int)<=i/\i<xs.length:=by
 unfold lZ at h
 cases e:ET xs.length i with
 | none=>rw[e]at h;cases h
 | some j=>
  rw[e]at h
  obtain ⟨h1,h2,h3,h4⟩:=yt e
  exact ⟨j,h1,h,h2,h3,h4⟩
theorem bf {α:Type} {xs:List α} {j:Nat} {v:α} (h:xs[j]? =some v):lZ xs (j:Int)=some v:=by
 have hj:j<xs.length:=(Xy.mp h).1
 have e:ET xs.length (j:Int)=some j:=by
  unfold ET
  rw[if_pos (by omega),if_pos (by omega)];simp
 unfold lZ;rw[e];exact h
def mS (b:Expr):Prop:= ∀o i,subscripted b false o i=operate [o,i] (getItem o i)
def JG (X:Cx) (r:R2):Prop:=
 ∀(value slice:Expr) (pins:List (Addr×Obj)) (s:Shared) (σ:St) (H:Hp) (x y:V) (v u:Value) (Q:VK),Inv X pins σ H s->RelV x v->RelV y u->r x y H Q->
  subscripted slice false v u=operate [v,u] (getItem v u)->wpAny (model X.prog X.w) X.A (subscriptTail value slice v u) (EP X pins σ Q) X.xe s
def wN (X:Cx) (id:String) (r:V->List V->Hp->VK->Prop):Prop:=
 ∀(pins:List (Addr×Obj)) (s:Shared) (σ:St) (H:Hp) (x:V) (xs:List V) (v:Value) (us:List Value) (Q:VK),Inv X pins σ H s->RelV x v->Vals xs us->r x xs H Q->
  wpAny (model X.prog X.w) X.A (call (.builtin id) (v::us)) (EP X pins σ Q) X.xe s
section
variable {X:Cx} {a b:Expr} {ta tb:TE} {pos:Pos}
theorem bH {r:R2} (hr:JG X r) (ha:PE X a ta) (hb:PE X b tb) (hs:mS b):PE X (.Subscript a b pos) (Jx r ta tb):=by
 intro pins s σ H Q I h
 exact Subscript_ (Jy ha hb I h fun v u s2 x y H2 I2 rx ry q=>hr a b pins s2 σ H2 x y v u Q I2 rx ry q (hs _ _))
def M7 (K:PySem.W.Frag):R2:=fun x y H Q=> ∃p xs i v,x= .ref p/\y= .int i/\aN K H p xs/\lZ xs i=some v/\Q v H
def M8 (K:PySem.W.Frag):R2:=fun x y H Q=> ∃p xs i v,x= .ref p/\y= .int i/\cU K H p xs/\lZ xs i=some v/\Q v H
def R9:R2:=fun x y H Q=> ∃z i c,x= .str z/\y= .int i/\z.length<=sizeLine/\lZ z.cps.toList i=some c/\Q (.str ⟨#[c]⟩) H
theorem EU:JG X (M7 X.K):=by
 intro value slice pins s σ H x y v u Q I rx ry h hs
 obtain ⟨p,xs,i,z,rfl,rfl,hq,he,q⟩:=h
 cases rx
 obtain ⟨t,rfl⟩:=ry
 obtain ⟨aD,r,pl,hz⟩:=I.list hq
 obtain ⟨j,h1,h2,h3,h4,h5⟩:=j9 he
 obtain ⟨w,ew,wC⟩:=r.get h2
 have hl:=r.length
 have hn:=iL
 have fin:EP X pins σ Q w s:=⟨z,H,I,wC,q⟩
 by_cases h0:0<=i
 ·have hj:i.toNat=j:=by
   rw[seqIndex_of h0 h5]at h1
   exact Qae h1
  exact item_listR pl.isList h0 (by omega) (by rw[hj];simpa using ew) fin hs
 ·have hj:(i+(aD.toArray.size:Int)).toNat=j:=by
   rw[seqIndex_neg (by omega) h4]at h1
   rw[Qad, <-hl]
   exact Qae h1
  exact subscriptTail_builtinR (x:=w) pl.isList.typeIs slot_list_getitem.lookup
   (wpAny_getItem_list_neg (Q:=fun r s'=>r=w/\EP X pins σ Q r s') pl.isList (by omega) (by rw[Qad]<;>omega) (by omega) (by rw[hj];simpa using ew) ⟨rfl,fin⟩) hs
theorem JH:JG X (M8 X.K):=by
 intro value slice pins s σ H x y v u Q I rx ry h hs
 obtain ⟨p,xs,i,z,rfl,rfl,hq,he,q⟩:=h
 cases rx
 obtain ⟨t,rfl⟩:=ry
 obtain ⟨aD,r,pl,hz⟩:=I.tuple hq
 obtain ⟨j,h1,h2,h3,h4,h5⟩:=j9 he
 obtain ⟨w,ew,wC⟩:=r.get h2
 have hl:=r.length
 have hn:=iL
 have fin:EP X pins σ Q w s:=⟨z,H,I,wC,q⟩
 exact subscriptTail_builtinR (x:=w) pl.typeIs slot_tuple_getitem.lookup
  (getItem_tuple (j:=j) (Q:=fun r s'=>r=w/\EP X pins σ Q r s') pl (by omega) (by omega) (by rw[Qad, <-hl];exact h1) (by simpa using ew) ⟨rfl,fin⟩) hs
theorem JI:JG X R9:=by
 intro value slice pins s σ H x y v u Q I rx ry h hs
 obtain ⟨z,i,c,rfl,rfl,hz,he,q⟩:=h
 obtain ⟨t,rfl⟩:=rx
 obtain ⟨t',rfl⟩:=ry
 obtain ⟨j,h1,h2,h3,h4,h5⟩:=j9 he
 have hl:z.cps.toList.length=z.length:=by simp[Str.length]
 rw[hl]at h1 h4 h5
 have hn:=iL
 exact tail_any (typeIs_str s z t) slot_str_getitem.lookup (getItem_str (c:=c) (by
  have e1:decide (i< -(2 ^ 63:Int))=false:=decide_eq_false (by omega)
  have e2:decide (i ≥ 2 ^ 63)=false:=decide_eq_false (by omega)
  rw[e1,e2,Qel]) (by rw[h1];simpa using h2) ⟨.str ⟨#[c]⟩,H,I.tok _,⟨_,rfl⟩,q⟩) hs
theorem wO (aD:List Value) (n j:Nat) (u:Value):Obj.mapSeq (·.setIfInBounds j u) { cls:= .type "list",data:= .seq aD.toArray n }={ cls:= .type "list",data:= .seq (aD.set j u).toArray n }:=by
 simp[Obj.mapSeq]
theorem Inv.lst {pins:List (Addr×Obj)} {σ:St} {H:Hp} {s:Shared} {p:Addr} {xs:List V} (I:Inv X pins σ H s) (h:H p=some (.lst xs)):
  ∃(aD:List Value) (n:Nat),Vals xs aD/\s.heap.get? p=some { cls:= .type "list",data:= .seq aD.toArray n }/\xs.length<=sizeLine:=by
 obtain ⟨z,aD,n,r,e⟩:=I.bg p _ h
 exact ⟨aD,n,r,e,z⟩
theorem Inv.JJ {pins:List (Addr×Obj)} {σ:St} {H:Hp} {s:Shared} {p:Addr} {xs ys:List V} {aD its':List Value} {n n':Nat} {f:Obj->Obj} (I:Inv X pins σ H s) (h:H p=some (.lst xs))
  (ho:s.heap.get? p=some { cls:= .type "list",data:= .seq aD.toArray n }) (hf:f { cls:= .type "list",data:= .seq aD.toArray n }={ cls:= .type "list",data:= .seq its'.toArray n' }) (r:Vals ys its') (hz:ys.length<=sizeLine) (t:Nat):
  Inv X pins σ (upd H p (.lst ys)) { s with heap:=s.heap.update p f,toks:=t }:=by
 have e:(s.heap.update p f).get? p=some { cls:= .type "list",data:= .seq its'.toArray n' }:=by
  rw[Qby f ho (by rw[hf]<;>rfl),hf]
 refine I.write (x:=p) (e:=p) (by rw[h];trivial) (.inl rfl) (fun b u hb q=>(Qa6 _ _ (Ne.symm hb)).trans q) ⟨_,e⟩ ?_
 exact ⟨hz,its',n',r,e⟩
def Hi:V->V->V->Hp->(Hp->Prop)->Prop:=fun o i v H Q=> ∃p xs k j,o= .ref p/\i= .int k/\H p=some (.lst xs)/\ET xs.length k=some j/\Q (upd H p (.lst (xs.set j v)))
theorem set_list:MO X Hi:=by
 intro pins s σ H o i v ov iv u Q I ro ri rv h
 obtain ⟨p,xs,k,j,rfl,rfl,hp,hj,q⟩:=h
 cases ro
 obtain ⟨t,rfl⟩:=ri
 obtain ⟨aD,n,r,ho,hz⟩:=I.lst hp
 obtain ⟨h1,h2,h3,h4⟩:=yt hj
 have hl:=r.length
 have hn:=iL
 have I':Inv X pins σ (upd H p (.lst (xs.set j v))) { s with heap:=s.heap.update p (Obj.mapSeq (·.setIfInBounds j u)) }:=
  I.JJ hp ho (wO aD n j u) (r.set rv j) (by rw[Qde];exact hz) s.toks
 by_cases h0:0<=k
 ·have hk:k.toNat=j:=by
   rw[seqIndex_of h0 h4]at h1
   exact Qae h1
  exact PySem.W.ki_setAt ho h0 (by omega) (by rw[Qad, <-hl];exact h4) (by rw[hk];exact ⟨_,I',q⟩)
 ·have hk:(k+(aD.toArray.size:Int)).toNat=j:=by
   rw[seqIndex_neg (by omega) h3]at h1
   rw[Qad, <-hl]
   exact Qae h1
  exact PySem.W.ki_setBack ho (by omega) (by rw[Qad, <-hl];exact h3) (by omega) (by rw[hk];exact ⟨_,I',q⟩)
theorem rC (lo hi:Option Int) (n:Nat):(sliceBounds lo hi none n).1=((HT.jZ n 0 lo:Nat):Int)/\(sliceBounds lo hi none n).2.1=((HT.jZ n n hi:Nat):Int)/\(sliceBounds lo hi none n).2.2=1:=by
 refine ⟨?_,?_,rfl⟩
 ·cases lo with
  | none=>simp[sliceBounds,HT.jZ]
  | some i=>
   simp only[sliceBounds,HT.jZ,Option.getD_none,show (1:Int)>0 by decide,if_true]
   by_cases h:i<0
   ·simp only[h,if_true]<;>omega
   ·simp only[h,if_false]<;>omega
 ·cases hi with
  | none=>simp[sliceBounds,HT.jZ]
  | some i=>
   simp only[sliceBounds,HT.jZ,Option.getD_none,show (1:Int)>0 by decide,if_true]
   by_cases h:i<0
   ·simp only[h,if_true]<;>omega
   ·simp only[h,if_false]<;>omega
theorem pE (aD:List Value) (lo hi:Option Int):slicePick aD.toArray lo hi none=((aD.drop (HT.jZ aD.length 0 lo)).take (HT.jZ aD.length aD.length hi - HT.jZ aD.length 0 lo)).toArray:=by
 obtain ⟨h1,h2,h3⟩:=rC lo hi aD.toArray.size
 unfold slicePick
 rw[h1,h2,h3]
 simp only[sliceRange_one,pick_run,Qad]<;>rfl
def M9 (K:PySem.W.Frag):V->Option Int->Option Int->Hp->VK->Prop:=fun x lo hi H Q=> ∃a xs,x= .ref a/\aN K H a xs/\ ∀p,H p=none->Q (.ref p) (upd H p (.lst (j8 xs lo hi)))
theorem EV:M6 X (M9 X.K):=by
 intro pins s σ H x v vl vu lo hi sl Q I rx hs pl pu h
 obtain ⟨a,xs,rfl,hx,q⟩:=h
 cases rx
 obtain ⟨aD,r,ht,hz⟩:=I.list hx
 have hlen:=r.length
 refine ⟨"list",_,slot_list_getitem.lookup,ht.isList.typeIs,?_⟩
 refine wpAny_getItem_list_slice ht.isList hs pl pu .none (by simp) ?_ (by rw[Qad]<;>omega)
 rw[pE, <-hlen]
 refine ⟨.ref s.heap.objs.size,_,I.laid (t':=s.toks) (o:= .lst (j8 xs lo hi)) (fun b ob q=>JR _ q) (XA _) ?_,rfl,q _ (I.bg.fresh (XA _))⟩
 exact ⟨Qa1 (ue xs lo hi) hz,_,0,(r.drop (HT.jZ xs.length 0 lo)).take (HT.jZ xs.length xs.length hi - HT.jZ xs.length 0 lo),Qai _ rfl⟩
noncomputable def l_:V->Bool
 | .cK=>true
 | .bl _=>true
 | .int _=>true
 | .str _=>true
 | _=>false
noncomputable def EW:V->V->Bool
 | .cK, .cK=>true
 | .bl a, .bl b=>a==b
 | .bl a, .int b=>(if a then 1 else 0)==b
 | .int a, .bl b=>a==(if b then 1 else 0)
 | .int a, .int b=>a==b
 | .str a, .str b=>a==b
 | _,_=>false
theorem JK {A:Around} {s:Shared} {y x:V} {u v:Value} (ry:RelV y u) (rx:RelV x v) (fy:l_ y=true) (fx:l_ x=true):SeqAt.EqAt A s u v (EW y x):=by
 cases y with
 | cK=>
  cases ry
  cases x with
  | cK=>cases rx;exact SeqAt.EqAt.same _
  | bl b=>cases rx;exact SeqAt.EqAt.none_bool b
  | int b=>obtain ⟨t,rfl⟩:=rx;exact SeqAt.EqAt.none_int b t
  | str b=>obtain ⟨t,rfl⟩:=rx;exact SeqAt.EqAt.none_str b t
  | _=>exact absurd (show false=true from fx) Qaj
 | bl a=>
  cases ry
  cases x with
  | cK=>cases rx;exact SeqAt.EqAt.bool_none a
  | bl b=>cases rx;exact SeqAt.EqAt.bool_bool a b
  | int b=>obtain ⟨t,rfl⟩:=rx;exact SeqAt.EqAt.bool_int a b t
  | str b=>obtain ⟨t,rfl⟩:=rx;exact SeqAt.EqAt.bool_str a b t
  | _=>exact absurd (show false=true from fx) Qaj
 | int a=>
  obtain ⟨t',rfl⟩:=ry
  cases x with
  | cK=>cases rx;exact SeqAt.EqAt.int_none a t'
  | bl b=>cases rx;exact SeqAt.EqAt.int_bool a t' b
  | int b=>obtain ⟨t,rfl⟩:=rx;exact SeqAt.EqAt.int_int a t' b t
  | str b=>obtain ⟨t,rfl⟩:=rx;exact SeqAt.EqAt.int_str a t' b t
  | _=>exact absurd (show false=true from fx) Qaj
 | str a=>
  obtain ⟨t',rfl⟩:=ry
  cases x with
  | cK=>cases rx;exact SeqAt.EqAt.str_none a t'
  | bl b=>cases rx;exact SeqAt.EqAt.str_bool a t' b
  | int b=>obtain ⟨t,rfl⟩:=rx;exact SeqAt.EqAt.str_int a t' b t
  | str b=>obtain ⟨t,rfl⟩:=rx;exact SeqAt.EqAt.str_str a t' b t
  | _=>exact absurd (show false=true from fx) Qaj
 | _=>exact absurd (show false=true from fy) Qaj
noncomputable def EX (x:V) (u:Value):Bool:=match u with
 | .none=>EW .cK x
 | .bool b=>EW (.bl b) x
 | .int i _=>EW (.int i) x
 | .str z _=>EW (.str z) x
 | _=>false
theorem BV {x y:V} {u:Value} (r:RelV y u) (f:l_ y=true):EX x u=EW y x:=by
 cases y with
 | cK=>cases r;rfl
 | bl b=>cases r;rfl
 | int i=>obtain ⟨t,rfl⟩:=r;rfl
 | str z=>obtain ⟨t,rfl⟩:=r;rfl
 | _=>exact absurd (show false=true from f) Qaj
theorem rD {x:V}: ∀{xs:List V} {us:List Value},Vals xs us->xs.all l_=true->us.any (EX x)=xs.any fun y=>EW y x
 | _,_, .nil,_=>rfl
 | y::xs,u::us, .cons r t,f=>by
  rw[List.all_cons,Qcg]at f
  rw[Qcp,Qcp,BV r f.1,rD t f.2]
theorem nj {A:Around} {s:Shared} {x:V} {v:Value} (rx:RelV x v) (fx:l_ x=true): ∀{xs:List V} {us:List Value},Vals xs us->xs.all l_=true-> ∀u∈us,SeqAt.EqAt A s u v (EX x u)
 | _,_, .nil,_=>fun u hu=>by cases hu
 | y::xs,u::us, .cons r t,f=>fun u' hu=>by
  rw[List.all_cons,Qcg]at f
  rcases XB.mp hu with rfl | hu
  ·rw[BV r f.1];exact JK r rx f.1 fx
  ·exact nj rx fx t f.2 u' hu
noncomputable def Ml (x:V) (xs:List V):Bool:=xs.any fun y=>EW y x
def Xs (K:PySem.W.Frag) (neg:Bool):R2:=fun x y H Q=> ∃p xs,y= .ref p/\(aN K H p xs\/cU K H p xs)/\l_ x=true/\xs.all l_=true/\Q (.bl (if neg then !Ml x xs else Ml x xs)) H
theorem zS:iK X (compareOp .In) (Xs X.K false):=by
 intro pins s σ H x y v u Q I rx ry h
 obtain ⟨p,xs,rfl,hq,fx,fs,q⟩:=h
 cases ry
 rcases hq with hq | hq
 ·obtain ⟨aD,r,pl,hz⟩:=I.list hq
  refine SeqAt.in_listAt (EX x) pl.isList (fun w hw=>nj rx fx r fs w (by simpa using hw)) ⟨.bl _,H,I,rfl,?_⟩
  rw[show aD.toArray.any (EX x)=aD.any (EX x) by simp,rD r fs]
  exact q
 ·obtain ⟨aD,r,pl,hz⟩:=I.tuple hq
  refine SeqAt.in_tupleAt (EX x) pl (fun w hw=>nj rx fx r fs w (by simpa using hw)) ⟨.bl _,H,I,rfl,?_⟩
  rw[show aD.toArray.any (EX x)=aD.any (EX x) by simp,rD r fs]
  exact q
theorem rE:iK X (compareOp .NotIn) (fun x y H Q=> ∃i j,x= .str i/\y= .str j/\Q (.bl (!(!(Builtin.Str.occurrences j i 0 j.length 1).isEmpty))) H):=by
 intro pins s σ H x y v u Q I rx ry h
 obtain ⟨i,j,rfl,rfl,q⟩:=h
 obtain ⟨t,rfl⟩:=rx
 obtain ⟨t',rfl⟩:=ry
 exact notIn_str ⟨.bl _,H,I,rfl,q⟩
theorem rF:cF X (.builtin "len") (fun xs H Q=> ∃p ys,xs=[.ref p]/\(aN X.K H p ys\/cU X.K H p ys)/\Q (.int ys.length) H):=by
 intro pins s σ H xs us Q I r h
 obtain ⟨p,ys,rfl,hq,q⟩:=h
 obtain ⟨u,rfl,rx⟩:=vals1 r
 cases rx
 have hn:=iL
 rcases hq with hq | hq
 ·obtain ⟨aD,r',pl,hz⟩:=I.list hq
  have hlen:=r'.length
  exact Calls.call_len_list pl.isList (by simp only[Qad]<;>omega) ⟨.int ys.length,H,I.tok _,⟨s.toks+1,by rw[Qad,hlen]⟩,q⟩
 ·obtain ⟨aD,r',pl,hz⟩:=I.tuple hq
  have hlen:=r'.length
  exact len_tuple pl (by simp only[Qad]<;>omega) ⟨.int ys.length,H,I.tok _,⟨s.toks+1,by rw[Qad,hlen]⟩,q⟩
theorem rG:cF X (.builtin "len") (fun xs H Q=> ∃z,xs=[.str z]/\z.length<=sizeLine/\Q (.int z.length) H):=by
 intro pins s σ H xs us Q I r h
 obtain ⟨z,rfl,hz,q⟩:=h
 obtain ⟨u,rfl,t,rfl⟩:=vals1 r
 have hn:=iL
 exact len_str (by omega) ⟨.int z.length,H,I.tok _,⟨_,rfl⟩,q⟩
theorem rH:cF X (.type "list") (fun xs H Q=> ∃p ys,xs=[.ref p]/\(aN X.K H p ys\/cU X.K H p ys)/\ ∀l,H l=none->Q (.ref l) (upd H l (.lst ys))):=by
 intro pins s σ H xs us Q I r h
 obtain ⟨p,ys,rfl,hq,q⟩:=h
 obtain ⟨u,rfl,rx⟩:=vals1 r
 cases rx
 have fin: ∀(aD:List Value),Vals ys aD->ys.length<=sizeLine-> ∀(h':Heap) (c':Nat),(∀b o',s.heap.get? b=some o'->h'.get? b=some o')->
   h'.get? s.heap.objs.size=some { cls:= .type "list",dict:=none,data:= .seq aD.toArray c',slots:= #[] }->EP X pins σ Q (.ref s.heap.objs.size) { s with heap:=h' }:=fun aD r' hz h' c' kp e=>
  ⟨.ref s.heap.objs.size,_,I.laid (t':=s.toks) kp (XA _) (show bK X.prog X.w _ h' _ (.lst ys) from ⟨hz,aD,c',r',e⟩),rfl,q _ (I.bg.fresh (XA _))⟩
 rcases hq with hq | hq
 ·obtain ⟨aD,r',pl,hz⟩:=I.list hq
  have hlen:=r'.length
  obtain ⟨o,ho,hc,n,hd⟩:=pl.isList
  exact call_list_seq p (.inl rfl) ho hc hd (fun h' c' kp e=>fin aD r' hz h' c' kp e) (by simp only[Qad]<;>omega)
 ·obtain ⟨aD,r',pl,hz⟩:=I.tuple hq
  have hlen:=r'.length
  obtain ⟨o,ho,hc,n,hd⟩:=pl
  exact call_list_seq p (.inr rfl) ho hc hd (fun h' c' kp e=>fin aD r' hz h' c' kp e) (by simp only[Qad]<;>omega)
theorem pF:cF X (.type "tuple") (fun xs H Q=> ∃p ys,xs=[.ref p]/\((aN X.K H p ys/\ ∀l,H l=none->Q (.ref l) (upd H l (.tup ys)))\/(cU X.K H p ys/\Q (.ref p) H))):=by
 intro pins s σ H xs us Q I r h
 obtain ⟨p,ys,rfl,h⟩:=h
 obtain ⟨u,rfl,rx⟩:=vals1 r
 cases rx
 rcases h with ⟨hq,q⟩ | ⟨hq,q⟩
 ·obtain ⟨aD,r',pl,hz⟩:=I.list hq
  have hlen:=r'.length
  refine call_tuple_list pl.isList (fun h' kp=>?_) (by simp only[Qad]<;>omega)
  have I1:Inv X pins σ H { s with heap:=h' }:=I.kept (t':=s.toks) kp
  have I2:Inv X pins σ (upd H h'.objs.size (.tup ys)) { s with heap:=h'.push { cls:= .type "tuple",data:= .seq aD.toArray } }:=
   I1.laid (t':=s.toks) (fun b o e=>JR _ e) (XA _) (show bK X.prog X.w _ _ _ (.tup ys) from ⟨hz,aD,r',IsTup.new _ _⟩)
  exact ⟨.ref h'.objs.size,_,I2,rfl,q _ (I1.bg.fresh (XA _))⟩
 ·obtain ⟨aD,r',pl,hz⟩:=I.tuple hq
  exact call_tuple_same pl ⟨.ref p,H,I,rfl,q⟩
def R_ (K:PySem.W.Frag) (T:String) (x:V) (H:Hp):Prop:=match x with
 | .str _=>T="str"
 | .int _=>T="int"
 | .ref p=>(T="list"/\ ∃xs,aN K H p xs)\/(T="tuple"/\ ∃o,K.lookup p=some o/\o.cls= .type "tuple"/\o.dict=none)\/
   (T="dict"/\((∃aZ,H p=some (.dK aZ))\/ ∃aZ,H p=some (.dT aZ)))\/(T="set"/\ ∃S n,H p=some (.set S n))
 | _=>False
theorem rJ {pins:List (Addr×Obj)} {σ:St} {H:Hp} {s:Shared} {T:String} {x:V} {v:Value} (I:Inv X pins σ H s) (r:RelV x v) (ty:R_ X.K T x H):
  s.TypeIs v T/\ ∀a,v= .ref a-> ∃ob,s.heap.get? a=some ob/\ob.dict=none:=by
 cases x with
 | str z=>
  obtain ⟨t,rfl⟩:=r
  cases (show T="str" from ty)
  exact ⟨typeIs_str s z t,fun _ e=>nomatch e⟩
 | int i=>
  obtain ⟨t,rfl⟩:=r
  cases (show T="int" from ty)
  exact ⟨typeIs_int s i t,fun _ e=>nomatch e⟩
 | ref p=>
  cases r
  rcases ty with ⟨rfl,xs,hq⟩ | ⟨rfl,o,hk,hc,hd⟩ | ⟨rfl,hk⟩ | ⟨rfl,S,n,hk⟩
  ·obtain ⟨aD,_,pl,_⟩:=I.list hq
   refine ⟨pl.isList.typeIs,fun a e=>?_⟩
   cases e
   obtain ⟨o,n,e,c,hd,_⟩:=pl
   exact ⟨o,e,hd⟩
  ·refine ⟨⟨o,I.iH p o hk,hc⟩,fun a e=>?_⟩
   cases e
   exact ⟨o,I.iH _ o hk,hd⟩
  ·have z: ∃o,s.heap.get? p=some o/\o.ExactDict:=by
    rcases hk with ⟨aZ,hk⟩ | ⟨aZ,hk⟩
    ·obtain ⟨_,_,_,_,o,_,_,e,ex,_⟩:=I.bg p _ hk
     exact ⟨o,e,ex⟩
    ·obtain ⟨_,_,_,_,o,_,_,e,ex,_⟩:=I.bg p _ hk
     exact ⟨o,e,ex⟩
   obtain ⟨o,e,ex⟩:=z
   refine ⟨⟨o,e,ex.1⟩,fun a e2=>?_⟩
   cases e2
   exact ⟨o,e,ex.2.1⟩
  ·obtain ⟨o,_,_,_,e,ex,_⟩:=I.bg p _ hk
   refine ⟨⟨o,e,ex.1⟩,fun a e2=>?_⟩
   cases e2
   exact ⟨o,e,ex.2.1⟩
 | _=>exact False.elim ty
def M_ (K:PySem.W.Frag) (T:String) (r:V->List V->Hp->VK->Prop) (to:TE):TE:=fun σ H Q=>to σ H fun x H1=>R_ K T x H1/\r x [] H1 Q
def Sa (K:PySem.W.Frag) (T:String) (r:V->List V->Hp->VK->Prop) (to:TE) (t:TA):TE:=fun σ H Q=>to σ H fun x H1=>R_ K T x H1/\t σ H1 fun xs H2=>r x xs H2 Q
variable {o e:Expr} {es:List Expr} {to:TE} {t:TA} {name:Str} {apos cV:Pos} {T id:String} {r:V->List V->Hp->VK->Prop}
theorem JL (pa:PlainAttrs T) (slot:Slot T name id) (Eg:typeOf (.builtin id)=pure (.type "method_descriptor")) (hm:wN X id r) (ho:PE X o to)
  (nk:attributeBase o name X.env (eval o X.env)=eval o X.env:=by rfl) (jC:(apos.endLine==cV.line)=true:=by rfl):PE X (.Call (.Attribute o name apos) [] [] cV) (M_ X.K T r to):=by
 intro pins s σ H Q I h
 refine wpAny_Call_method0_late nk jC (bN (ho pins s σ H _ I h) fun v s1 ⟨x,H1,I1,r1,ty,q1⟩=>?_)
 obtain ⟨h1,h2⟩:=rJ I1 r1 ty
 exact ⟨T,id,pa,slot,Eg,h1,h2,Qdq rfl (PySem.evalArgs_none (hm pins s1 σ H1 x [] v [] Q I1 r1 .nil q1))⟩
theorem Na (pa:PlainAttrs T) (slot:Slot T name id) (Eg:typeOf (.builtin id)=pure (.type "method_descriptor")) (hm:wN X id r) (ho:PE X o to) (ha:PA X (e::es) t)
  (nk:attributeBase o name X.env (eval o X.env)=eval o X.env:=by rfl)
  (BW:((backTo cV (starEach (e::es) X.env)).all (fun x=>!x.1)&&(backToKw cV (keywordEach [] X.env)).all (fun x=>x.1.isSome)
   &&decide ((e::es).length+([]:List Keyword).length+(if ([]:List Keyword).isEmpty then 0 else 1)<30))=true:=by rfl)
  (jC:(apos.endLine==cV.line)=true:=by rfl) (hs:starEach (e::es) X.env=(false,eval e X.env)::starEach es X.env:=by rfl) (wQ:(backTo cV (starEach es X.env)).any (·.1)=false:=by rfl):
  PE X (.Call (.Attribute o name apos) (e::es) [] cV) (Sa X.K T r to t):=by
 intro pins s σ H Q I h
 refine wpAny_Call_method_late nk BW jC rfl (bN (ho pins s σ H _ I h) fun v s1 ⟨x,H1,I1,r1,ty,q1⟩=>?_)
 obtain ⟨h1,h2⟩:=rJ I1 r1 ty
 refine ⟨T,id,pa,slot,Eg,h1,h2,?_⟩
 have hA:=ha cV pins s1 σ H1 _ I1 q1
 rw[hs]at hA ⊢
 refine Qdq (by show (false||(backTo cV (starEach es X.env)).any (·.1))=false;rw[wQ]<;>rfl) (Qeu ?_)
 exact bN hA fun us s2 ⟨vs,H2,I2,r2,q2⟩=>hm pins s2 σ H2 x vs v us Q I2 r1 r2 q2
end
def Sb (X:Cx) (id:String) (r:V->List V->Hp->VK->Prop):Prop:=
 ∀(pins:List (Addr×Obj)) (s:Shared) (σ:St) (H:Hp) (x:V) (xs:List V) (v:Value) (us:List Value) (Q:VK),Inv X pins σ H s->RelV x v->Vals xs us->r x xs H Q->
  wpAny (model X.prog X.w) X.A (call (.builtin id) (v::us)) (EP X pins σ Q) X.xe s
theorem Vals.one: ∀{x:V} {us:List Value},Vals [x] us-> ∃u,us=[u]/\RelV x u
 | _,_, .cons r .nil=>⟨_,rfl,r⟩
theorem Vals.eraseIdx: ∀{xs:List V} {us:List Value} (i:Nat),Vals xs us->Vals (xs.eraseIdx i) (us.eraseIdx i)
 | _,_,_, .nil=> .nil
 | _,_,0, .cons _ t=>t
 | _,_,i+1, .cons r t=> .cons r (Vals.eraseIdx i t)
theorem qm {α:Type}: ∀(l:List α) (i:Nat),(l.eraseIdx i).length<=l.length
 | [],_=>XA _
 | _::_,0=>Qco _
 | _::r,i+1=>Qcz (qm r i)
section
variable {X:Cx} {pins:List (Addr×Obj)} {σ:St} {H:Hp} {s:Shared} {l b:Addr} {xs ys zs:List V}
theorem Inv.JM {aD its':List Value} {n:Nat} {f:Array Value->Array Value} {t':Nat} (I:Inv X pins σ H s) (hH:H l=some (.lst xs))
  (e:s.heap.get? l=some { cls:= .type "list",data:= .seq aD.toArray n }) (hf:f aD.toArray=its'.toArray) (hv:Vals ys its') (hz:ys.length<=sizeLine):
  Inv X pins σ (upd H l (.lst ys)) { s with heap:=s.heap.update l (Obj.mapSeq f),toks:=t' }:=by
 have q:=PySem.IsL.update e f
 rw[hf]at q
 refine I.write (x:=l) (e:=l) (by rw[hH];exact trivial) (.inl rfl) (fun b' u hb hu=>(Qa6 s.heap (Obj.mapSeq f) (Ne.symm hb)).trans hu) ⟨_,q⟩ ?_
 exact ⟨hz,its',_,hv,q⟩
theorem Inv.Sd {aD:List Value} {t':Nat} (I:Inv X pins σ H s) (hv:Vals ys aD) (hz:ys.length<=sizeLine):
  Inv X pins σ (upd H s.heap.objs.size (.lst ys)) { s with heap:=s.heap.push { cls:= .type "list",data:= .seq aD.toArray },toks:=t' }:=
 I.laid (fun _ _ q=>JR _ q) (XA _) ⟨hz,aD,0,hv,Qai _ rfl⟩
theorem Inv.fresh (I:Inv X pins σ H s):H s.heap.objs.size=none:=I.bg.fresh (XA _)
theorem Inv.zT (I:Inv X pins σ H s) (hH:H l=some (.lst xs)):xs.length<=sizeLine/\ ∃(aD:List Value) (n:Nat),Vals xs aD/\xs.length=aD.length/\s.heap.get? l=some { cls:= .type "list",data:= .seq aD.toArray n }:=by
 obtain ⟨z,aD,n,r,e⟩:=I.bg l _ hH
 exact ⟨z,aD,n,r,r.length,e⟩
theorem BY {n:Nat} (h:n<=sizeLine):Builtin.List.listTooLong n=false:=by
 unfold Builtin.List.listTooLong
 exact decide_eq_false (by omega)
end
section
variable {X:Cx}
def EY:V->List V->Hp->VK->Prop:=fun x vs H Q=> ∃l xs y,x= .ref l/\vs=[y]/\H l=some (.lst xs)/\xs.length<sizeLine/\Q .cK (upd H l (.lst (xs++[y])))
theorem cO:Sb X "list.append" EY:=by
 intro pins s σ H x vs v us Q I rx rv h
 obtain ⟨l,xs,y,rfl,rfl,hH,hz,q⟩:=h
 cases rx
 obtain ⟨u,rfl,ru⟩:=rv.one
 obtain ⟨z,aD,n,r,hl,e⟩:=I.zT hH
 refine call_meets F.slot_list_append ⟨_,e,rfl⟩ F.entry_list_append (F.args_list_append_2 _ _) (PySem.list_append l aD.toArray n u (by rw[Qad];omega)) ⟨e,?_⟩
 refine ⟨.cK,_,I.JM (its':=aD++[u]) hH e (by simp) (r.append (.cons ru .nil)) ?_,rfl,q⟩
 rw[JQ,List.length_singleton]
 omega
def EZ:V->List V->Hp->VK->Prop:=fun x vs H Q=> ∃l b xs zs,x= .ref l/\vs=[.ref b]/\H l=some (.lst xs)/\H b=some (.lst zs)/\xs.length+zs.length<=sizeLine/\Q .cK (upd H l (.lst (xs++zs)))
theorem qo:Sb X "list.extend" EZ:=by
 intro pins s σ H x vs v us Q I rx rv h
 obtain ⟨l,b,xs,zs,rfl,rfl,hH,hB,hz,q⟩:=h
 cases rx
 obtain ⟨u,rfl,ru⟩:=rv.one
 cases ru
 obtain ⟨z,aD,n,r,hl,e⟩:=I.zT hH
 obtain ⟨z2,iM,n2,r2,ug,e2⟩:=I.zT hB
 have hsz:aD.toArray.size+iM.toArray.size<=sizeLine:=by rw[Qad,Qad];omega
 have Nb: ¬(!aD.toArray.isEmpty&&Builtin.List.listTooLong (aD.toArray.size+iM.toArray.size))=true:=by
  rw[BY hsz,Bool.and_false]
  exact Qaj
 refine call_meets F.slot_list_extend ⟨_,e,rfl⟩ F.entry_list_extend (F.args_list_extend_2 _ _)
  (AutoSeq1.list_extend_list_list_0 l aD.toArray n b iM.toArray n2 Nb (by rw[Qad];omega) (by omega)) ⟨e,e2,?_⟩
 refine ⟨.cK,_,I.JM (its':=aD++iM) hH e (by simp) (r.append r2) ?_,rfl,q⟩
 rw[JQ]
 omega
def JN:V->List V->Hp->VK->Prop:=fun x vs H Q=> ∃l xs i k y,x= .ref l/\vs=[.int i]/\H l=some (.lst xs)/\ -(2 ^ 63)<=i/\i<2 ^ 63/\seqIndex? i xs.length=some k/\xs[k]? =some y/\Q y (upd H l (.lst (xs.eraseIdx k)))
theorem nr:Sb X "list.pop" JN:=by
 intro pins s σ H x vs v us Q I rx rv h
 obtain ⟨l,xs,i,k,y,rfl,rfl,hH,h1,h2,hk,hy,q⟩:=h
 cases rx
 obtain ⟨u,rfl,ru⟩:=rv.one
 obtain ⟨t,rfl⟩:=ru
 obtain ⟨z,aD,n,r,hl,e⟩:=I.zT hH
 obtain ⟨w,hw,wC⟩:=r.get hy
 refine call_meets F.slot_list_pop ⟨_,e,rfl⟩ F.entry_list_pop (F.args_list_pop_2 _ _)
  (MeetsSeq.list_pop_at l aD.toArray n i t k w (fitsIndex_both h1 h2) (by rw[Qad, <-hl];exact hk) (by rw[<-Qa2];exact hw) (by rw[Qad];omega)) ⟨e,?_⟩
 refine ⟨y,_,I.JM (its':=aD.eraseIdx k) hH e ?_ (r.eraseIdx k) ?_,wC,q⟩
 ·show aD.toArray.eraseIdxIfInBounds k=(aD.eraseIdx k).toArray
  rw[List.eraseIdxIfInBounds_toArray]
 ·have:=qm xs k
  omega
def Se:R2:=fun x y H Q=> ∃l b xs zs,x= .ref l/\y= .ref b/\H l=some (.lst xs)/\H b=some (.lst zs)/\xs.length+zs.length<=sizeLine/\ ∀p,H p=none->Q (.ref p) (upd H p (.lst (xs++zs)))
theorem BZ:iK X (binaryOp .Add) Se:=by
 intro pins s σ H x y v u Q I rx ry h
 obtain ⟨l,b,xs,zs,rfl,rfl,hH,hB,hz,q⟩:=h
 cases rx
 cases ry
 obtain ⟨z,aD,n,r,hl,e⟩:=I.zT hH
 obtain ⟨z2,iM,n2,r2,ug,e2⟩:=I.zT hB
 refine PySem.P.add_list e e2 ?_ (by rw[Qad,Qad];omega)
 have ea:aD.toArray++iM.toArray=(aD++iM).toArray:=by simp
 rw[ea]
 exact ⟨.ref _,_,I.Sd (t':=s.toks) (r.append r2) (by rw[JQ];omega),rfl,q _ I.fresh⟩
end
section
variable {prog:Program} {w:World} {A:Around} {E:Value->Shared->Prop} {s:Shared}
end
section
variable {X:Cx}
end
end L2
namespace Xt
open PySem PySem.W PySem.Calls PyProof.Rows
theorem mH {P:Params} {h:Heap}: ∀(ns:List Int) (vs:List Value),WellAll P h vs (ns.map WData.int)->IntsAre vs ns:=by
 intro ns
 induction ns with
 | nil=>
  intro vs w
  rw[Qdn]at w
  cases w
  exact .nil
 | cons n ns ih=>
  intro vs w
  rw[ZD]at w
  cases w with
  | cons a b=>
   cases a
   exact .cons _ _ (ih _ b)
theorem zU {l:OpenLaw} {n:Nat} (hn:l.most=some n) {P:Params} {h:Heap} {args:List WData} {vals:List Value}
  (E1:l.row.toRowW.claim.pre args=true) (v_:WellAll P h vals args):
  ∃a vs ns,vals=[Value.ref a]/\args=[WData.list (ns.map WData.int)]/\h.get? a=some { cls:= .type "list",data:= .seq vs.toArray }/\IntsAre vs ns/\ns.length<=n:=by
 have Zx:WShape.hasAll [] args [.list .int]=true:=(pre_splitW E1).1
 have hc:l.pre.holds [] { args:=args }=true:=(pre_splitW E1).2
 obtain ⟨d,r,rfl,h1,h2⟩:=hasAllW_cons Zx
 obtain rfl:=hasAllW_nil h2
 obtain ⟨xs,rfl,h3⟩:=hasW_list h1
 obtain ⟨ns,rfl⟩:=items_int h3
 have hlen:ns.length<=n:=by
  unfold OpenLaw.pre at hc
  have h4:(WTm.not (.lt (.lit (.int (n:Int))) (.len (.arg 0)))).holds [] { args:=[.list (ns.map .int)] }=true:=by
   have h4:=(holds_andW hc).1
   rw[hn]at h4
   exact h4
  have h5:=condW_of h4 (w_not (w_lt w_lit (w_len_list (w_arg rfl))))
  rw[kb]at h5
  refine Nat.le_of_not_lt fun q=>?_
  have q':(n:Int)<((ns.length:Nat):Int):=by omega
  first
   |(rw[decide_eq_true q']at h5;exact absurd h5 (by decide))
   |(simp at h5;omega)
 cases v_ with
 | cons w1 w2=>
  cases w2
  cases w1 with
  | list ho Sf=>exact ⟨_,_,ns,rfl,rfl,ho,mH ns _ Sf,hlen⟩
theorem zV (l:OpenLaw) (args:List WData):l.row.toRowW.claim.post args (.bool true) args=true:=
 postW_of (r:=l.row.toRowW) (X:=(true==true))
  (show WShape.has [] (.bool true) .bool=true by first | rfl | decide | simp[WShape.has,WShape.arms,WShape.armsAll])
  (show (WTm.eq .res (.lit (.bool true))).value [] { args:=args,res:=some (.bool true),after:=args }=some (.bool (true==true)) from w_eq_bool (w_res rfl) w_lit) rfl
theorem uh {l:OpenLaw} {n:Nat} {q:Program} {loose:List Str} {XP:(Str->Option Value)->Heap->Prop} {YP:World->Heap->Prop} {d:DefRec}
  (hn:l.most=some n) (Nd:d.params.defaults=[])
  (call: ∀(w:World) (s₀ s₁:Shared) (mg mb:Str->Option Value) (fa:Addr) (o:Obj) (pm cd doc:Value) (a:Addr) (vs:List Value) (ns:List Int),
   Ground q loose [] XP w s₀ mg mb s₁.heap->YP w s₁.heap->
   s₁.heap.get? fa=some o->o.data= .func (docDef d.name d.params d.body d.scope pm cd doc)->s₁.heap.CodeRec cd d.name->mg d.name=some (.ref fa)->
   s₁.heap.get? a=some { cls:= .type "list",data:= .seq vs.toArray }->IntsAre vs ns->ns.length<=n->s₁.gens= #[]->
   codeAny (model l.prog w) callerA (.call (.ref fa) ⟨[.ref a],[]⟩) (fun r s'=>r= .ok (.ret (.bool true))/\OldK s₁.heap s'.heap/\s'.os=s₁.os/\AllBare s'.gens) s₁):
  WalkO q loose XP YP l.row.toRowW d [] (fun f vs=>PySem.call f vs):=by
 intro w s₀ s₁ mg mb G Y fa o pm cd doc dV kV ho hd lX hD hmg hg args vals as E1 Nf jD v_ Xu
 obtain rfl:dV= .none:=Dflts.none hD Nd
 obtain rfl:kV= .none:=Dflts.noKw hD
 obtain ⟨a,vs,ns,rfl,rfl,JO,hints,hlen⟩:=zU hn E1 v_
 refine enter_call (codeAny_mono (call w s₀ s₁ mg mb fa o pm cd doc a vs ns G Y ho (fd_plain hd) lX hmg JO hints hlen hg) fun r s' hq=>?_)
 obtain ⟨rfl,h2,h3,h4⟩:=hq
 exact ⟨.inl ⟨.bool true, .bool true,[],rfl,fun _=>rfl, .bool true,zV l _,fun _=>⟨List.Pairwise.nil,fun _ hm=>(nomatch hm)⟩⟩,h2,h3,h4⟩
section
variable {prog:Program} {w:World} {A:Around} {E:Value->Shared->Prop} {s:Shared} {K:Frag}
end
end Xt
namespace L2
open PySem PySem.Spec PyProof.Rows
theorem qp: ∀{vs:List Value} {ns:List Int},IntsAre vs ns->Vals (ns.map V.int) vs
 | _,_, .nil=> .nil
 | _,_, .cons n t h=> .cons ⟨t,rfl⟩ (qp h)
def JP (H:Hp):Prop:= ∀b,H b=none\/ ∃o xs,H b=some (.j6 o (.lst xs))
theorem B0 {P:Program} {w:World} {K:PySem.W.Frag} {mg mb:Str->Option Value} {CX:ym} {k:Nat} {fa a:Addr} {fd:FuncData} {x:Str} {sp:Sp} {s₁:Shared} {vs:List Value} {ns:List Int}
  (KX:K.In s₁.heap) (Qz:s₁.heap.Ns mainGlobals mg) (hb:s₁.heap.Ns builtinsNs mb) (Hj: ∀x:Str,x≠"__name__"->mb x=bootBuiltins x) (Sg:s₁.heap.NoLimit) (hg:s₁.gens= #[])
  (ha:s₁.heap.get? a=some { cls:= .type "list",data:= .seq vs.toArray }) (hi:IntsAre vs ns) (hl:ns.length<=sizeLine) (hr:cj k callerA)
  (F: ∀base:Heap,K.In base->base.Ns mainGlobals mg->ck P w K mg base CX k fa fd [x] sp) (Ng: ∀(s:Shared) (u:Value),BindsTo s fd ⟨[u],[]⟩ [(x,u)])
  (yq: ∀H:Hp,JP H->aN K H a (ns.map V.int)->sp [.ref a] H (fun v _=>v= .bl true) fun _ _ _=>False)
  (Sh: ∀H e s',CX [] H s₁ (fun _ _ _=>False) e s'->False):
  codeAny (model P w) callerA (.call (.ref fa) ⟨[.ref a],[]⟩) (fun r s'=>r= .ok (.ret (.bool true))/\OldK s₁.heap s'.heap/\s'.os=s₁.os/\AllBare s'.gens) s₁:=by
 have rv:=qp hi
 have Si:=hi.length
 -- from an abstract heap in Xv nothing but Ef script may be tracked
 have core: ∀H:Hp,JP H->aN K H a (ns.map V.int)->hW P w H s₁.heap->(∀b,H b≠none->b=a)->(H a≠none->K.lookup a=none)->
   codeAny (model P w) callerA (.call (.ref fa) ⟨[.ref a],[]⟩) (fun r s'=>r= .ok (.ret (.bool true))/\OldK s₁.heap s'.heap/\s'.os=s₁.os/\AllBare s'.gens) s₁:=by
  intro H hO hS bg hA hK
  have yu: ∀{b:Addr} {o:Obj},s₁.heap.get? b=some o->H b=none->(rm s₁.heap H).get? b=some o:=fun e n=>BH e n
  have M4: ∀{b:Addr} {o:Obj} {es:Array DictEntry} {ep:Nat},s₁.heap.get? b=some o->o.data= .dict es ep->H b=none:=fun {b o es ep} e d=>by
   cases q:H b with
   | none=>rfl
   | some u=>
    have e':b=a:=hA b (by rw[q];simp)
    subst e'
    rw[ha]at e;cases e
    have d':Data.seq vs.toArray _=Data.dict es ep:=d
    cases d'
  have QA: ∀{b:Addr} {m:Str->Option Value},s₁.heap.Ns b m->(rm s₁.heap H).Ns b m:=fun {b m} ⟨o,es,ep,e,d,r⟩=>⟨o,es,ep,yu e (M4 e d),d,r⟩
  have Xw:K.In (rm s₁.heap H):=fun b o e=>yu (KX b o e) (by
   cases q:H b with
   | none=>rfl
   | some u=>
    have e':b=a:=hA b (by rw[q];simp)
    subst e'
    rw[hK (by rw[q];simp)]at e;cases e)
  have hM:Mod K mg (rm s₁.heap H):=⟨Xw,QA Qz,⟨mb,QA hb,Hj⟩,let ⟨mc,h1,h2⟩:=Sg;⟨mc,QA h1,h2⟩⟩
  have e0:rA P w K mg (rm s₁.heap H) callerA [] s₁ H:=⟨rfl,hM,fun b o e=>ED e,Qep (zH _ _),trivial,fun b hb=>absurd (show b∈([]:List Addr) from hb) (by simp),bg, .of_eq hg⟩
  refine codeAny_mono ((F _ Xw (QA Qz)).run callerA [] s₁ H ⟨[.ref a],[]⟩ [.ref a] [.ref a] _ _ hr e0 (Ng s₁ (.ref a)) (.cons rfl .nil) (yq H hO hS)) fun r s' h=>?_
  cases r with
  | error e=>exact (Sh H e s' h).elim
  | ok fl=>
   cases fl with
   | next=>exact False.elim h
   | brk=>exact False.elim h
   | cont=>exact False.elim h
   | ret u=>
    obtain ⟨v,H',os,bare,un,Sj,r',q⟩:=h
    have q':v= .bl true:=q
    subst q'
    obtain rfl:u=Value.bool true:=r'
    refine ⟨rfl,OldK.of_keep fun b o e=>?_,os,bare⟩
    cases q:H b with
    | none=>exact un.keep b o e q (by intro z;exact absurd (show b∈([]:List Addr) from z) (by simp)) (by simp)
    | some u=>
     rcases hO b with z | ⟨ob,xs,z⟩
     ·rw[q]at z;cases z
     ·have z2:=un.iG b ob _ z
      obtain ⟨e1,_⟩:=bg b _ z
      obtain ⟨e2,_⟩:=Sj b _ z2
      rw[e]at e1;cases e1
      exact e2
 cases hk:K.lookup a with
 | some o=>
  -- Ef script is one of Ef BX own objects
  have e:=KX a o hk
  rw[ha]at e
  cases e
  refine core (fun _=>none) (fun _=> .inl rfl) (.inr ⟨_,vs.toArray,_,hk,rfl,rfl,rfl,by rw[Qad,Si];exact hl,by simpa using rv⟩) (fun b u z=>by have z':(none:Option HO)=some u:=z;cases z') (fun b z=>absurd rfl z) fun z=>absurd rfl z
 | none=>
  refine core (fun b=>if b=a then some (.j6 { cls:= .type "list",data:= .seq vs.toArray } (.lst (ns.map V.int))) else none) (fun b=>?_) (.inl (.inr ⟨{ cls:= .type "list",data:= .seq vs.toArray },if_pos rfl⟩)) (fun b u z=>?_) (fun b z=>?_) fun _=>hk
  ·by_cases hb:b=a
   ·exact .inr ⟨_,_,if_pos hb⟩
   ·exact .inl (if_neg hb)
  ·by_cases hb:b=a
   ·have z':=(if_pos hb).symm.trans z
    cases z'
    subst hb
    exact ⟨ha,by rw[kb];exact hl,vs,_,rv,ha⟩
   ·have z':=(if_neg hb).symm.trans z
    cases z'
  ·by_cases hb:b=a
   ·exact hb
   ·exact absurd (if_neg hb) z
noncomputable abbrev Xx {K:PySem.W.Frag} {h:Heap} (_:K.In h):PySem.W.Frag:=K
theorem yv {l:PySem.W.OpenLaw} {n k:Nat} {q:Program} {loose:List Str} {XP:(Str->Option Value)->Heap->Prop} {YP:World->Heap->Prop} {d:DefRec} {K:Params->PySem.W.Frag} {CX:World->ym} {sp:World->Sp} {x:Str}
  (hn:l.most=some n) (Mm:n<=sizeLine) (Nd:d.params.defaults=[]) (hr:cj k callerA)
  (hY: ∀(w:World) (h:Heap),YP w h->(K w.params).In h)
  (F: ∀(w:World) (mg:Str->Option Value) (fa:Addr) (h:Heap),(K w.params).In h->h.Ns mainGlobals mg->mg d.name=some (.ref fa)->
   ∃fd:FuncData,(∀(s:Shared) (u:Value),BindsTo s fd ⟨[u],[]⟩ [(x,u)])/\
    ∀base:Heap,(K w.params).In base->base.Ns mainGlobals mg->ck l.prog w (K w.params) mg base (CX w) k fa fd [x] (sp w))
  (yq: ∀(w:World) (H:Hp) (a:Addr) (ns:List Int),ns.length<=n->JP H->aN (K w.params) H a (ns.map V.int)->sp w [.ref a] H (fun v _=>v= .bl true) fun _ _ _=>False)
  (Sh: ∀(w:World) (H:Hp) (s:Shared) (e:Value) (s':Shared),CX w [] H s (fun _ _ _=>False) e s'->False):
  PySem.W.WalkO q loose XP YP l.row.toRowW d [] (fun f vs=>PySem.call f vs):=by
 refine Xt.uh hn Nd fun w s₀ s₁ mg mb fa o pm cd doc a vs ns G Y ho hd lX hmg JO hints hlen hg=>?_
 have KX:=hY w _ Y
 obtain ⟨fd,hb,hF⟩:=F w mg fa _ KX G.T.g hmg
 exact B0 KX G.T.g G.T.b G.T.builtins G.T.nolimit hg JO hints (Qa1 hlen Mm) hr hF hb (fun H hO hS=>yq w H a ns hlen hO hS) fun H e s'=>Sh w H s₁ e s'
noncomputable def aY (s:Stmt):Arguments:=match s with
 | .FunctionDef _ a _ _ _ _ _ _ _ _=>a
 | _=>{ posonlyargs:=[],args:=[],vararg:=none,kwonlyargs:=[],kw_defaults:=[],kwarg:=none,defaults:=[] }
noncomputable def aJ (s:Stmt):List Stmt:=match s with
 | .FunctionDef _ _ b _ _ _ _ _ _ _=>b
 | _=>[]
noncomputable def ai (s:Stmt):Scope:=match s with
 | .FunctionDef _ _ _ _ _ _ sc _ _ _=>sc
 | _=>{ kind:= .function,names:=[],isGenerator:=false,isCoroutine:=false }
abbrev fU:ym:=fun _ _ _ _ _ _=>False
abbrev E0:XK:=fun _ _ _=>False
theorem aX {X:Cx}:Passes fU X E0:=fun _ _ _ _ _ _ _ h=>h.elim
structure B1 (K:PySem.W.Frag) (x qual:Str) (st:Stmt) (f:Addr) (fd:FuncData):Prop where
 ex: ∃(oc:Value) (od:Option Addr) (kV doc pm:Value) (an:Option Addr) (cdv ct:Value) (wM:Array (Option Value)),
  fd=PySem.W.fnOf x qual (aY st) (aJ st) (ai st) .none kV doc pm an cdv ct/\K.lookup f=some ⟨oc,od, .func fd,wM⟩/\PySem.W.codeIn K cdv qual=true
 kp:PySem.W.keepIn K (.ref f)=true
section
variable {P:Program} {w:World} {K:PySem.W.Frag} {mg:Str->Option Value} {base:Heap}
theorem B1.ok {x qual:Str} {st:Stmt} {f:Addr} {fd:FuncData} {N ps:List Str} {k:Nat} {sp:Sp} (F:B1 K x qual st f fd) (S:aW N ps (ai st)) (len: ∀vs H Q E,sp vs H Q E->vs.length=ps.length)
  (ni: ∀(cdv:Value) (A:Around) (outer:List Env) (s:Shared) (H:Hp) (vs:List V) (Q:VK) (E:XK),cj k (A.deeper (envOfC qual (ai st) s.heap.objs.size f cdv))->sp vs H Q E->
   ∃t,kN (jv fU P w K mg base N qual (ai st) f cdv A outer s H E).BK (aJ st) t/\t { nx:=fun _ H'=>Q .cK H',rt:=Q } (start N vs) H):ck P w K mg base fU (k+1) f fd ps sp:=by
 obtain ⟨oc,od,kV,doc,pm,an,cdv,ct,wM,rfl,lk,lX⟩:=F.ex
 refine Hh lk lX S len fun A outer s H vs Q E hr yq=>?_
 obtain ⟨t,h,q⟩:=ni cdv A outer s H vs Q E hr yq
 exact ⟨t,h.BK,q⟩
theorem B1.binds {x qual:Str} {st:Stmt} {f:Addr} {fd:FuncData} {ps:List Str} (F:B1 K x qual st f fd)
  (h: ∀(kV doc pm:Value) (an:Option Addr) (cdv ct:Value) (us:List Value),us.length=ps.length->bindArgs (PySem.W.fnOf x qual (aY st) (aJ st) (ai st) .none kV doc pm an cdv ct) ⟨us,[]⟩=pure (ps.zip us)):Binds K fd ps []:=by
 obtain ⟨oc,od,kV,doc,pm,an,cdv,ct,wM,rfl,lk,lX⟩:=F.ex
 exact .all (h kV doc pm an cdv ct)
theorem bM {x qual:Str} {st:Stmt} {f:Addr} {oc:Value} {od an:Option Addr} {wM:Array (Option Value)} {kV doc pm cdv ct:Value} (l:K.lookup f=some ⟨oc,od, .func (PySem.W.fnOf x qual (aY st) (aJ st) (ai st) .none kV doc pm an cdv ct),wM⟩)
  (c:PySem.W.codeIn K cdv qual=true) (k:PySem.W.keepIn K (.ref f)=true):B1 K x qual st f (PySem.W.fnOf x qual (aY st) (aJ st) (ai st) .none kV doc pm an cdv ct):=⟨⟨oc,od,kV,doc,pm,an,cdv,ct,wM,rfl,l,c⟩,k⟩
end
theorem Hk {A:Around} {k:Nat} (hr:cj k A):A.units+1<cLine:=Qem (Nat.add_le_add_left (by decide:1<=64) _) hr.units
theorem zW {n:Nat} (h:n<=1000):n<sizeLine:=Qem h (by decide)
section
variable {X:Cx}
theorem pv (i:Nat) {x:Str} {pos:Pos} (hN:X.N[i]? =some x:=by rfl) (hv:x_ X.env.scope x:=by first | exact Or.inl rfl | exact Or.inr (Or.inl rfl) | exact Or.inr (Or.inr rfl)) (hd:(x==("__debug__":Str))=false:=by decide)
  (lX:(x==("__classdict__":Str))=false:=by decide):PE X (.Name x pos) (kP i):=Jk hN hv hd lX
end
theorem Sk {A B:Prop} (h:B):if false=true then A else B:=by
 rw[if_neg Qaj]
 exact h
theorem Sl {A B:Prop} (h:A):if true=true then A else B:=by
 rw[if_pos rfl]
 exact h
theorem cn {c A B:Prop} [Decidable c] (h1:c->A) (h2: ¬c->B):if c then A else B:=by
 by_cases h:c
 ·rw[if_pos h]
  exact h1 h
 ·rw[if_neg h]
  exact h2 h
def ah (H H':Hp):Prop:= ∀b o,H b=some o->H' b=some o
theorem ah.refl (H:Hp):ah H H:=fun _ _ h=>h
theorem ah.trans {H H1 H2:Hp} (a:ah H H1) (b:ah H1 H2):ah H H2:=fun c o h=>b c o (a c o h)
theorem ah.free {H H':Hp} (e:ah H H') {l:Addr} (h:H' l=Option.none):H l=Option.none:=by
 cases q:H l with
 | none=>rfl
 | some o=>
  rw[e l o q]at h
  cases h
theorem ah.seq {K:PySem.W.Frag} {H H':Hp} {a:Addr} {xs:List V} (e:ah H H') (h:aN K H a xs):aN K H' a xs:=by
 rcases h with (h | ⟨o,h⟩) | h
 ·exact .inl (.inl (e _ _ h))
 ·exact .inl (.inr ⟨o,e _ _ h⟩)
 ·exact .inr h
noncomputable def fV (env:Env):List (Str×NameKind)->List (Str×Addr)->List (Str×Addr)
 | [],acc=>acc
 |(n,k)::r,acc=>fV env r (if k== .free then (match env.cells.lookup n with | some a=>(n,a)::acc | none=>acc) else acc)
theorem fg {env:Env}: ∀(names:List (Str×NameKind)) (acc:List (Str×Addr)),(∀y∈names,y.2= .free-> ∃c,env.cells.lookup y.1=some c)->
  (forIn names acc fun (x:Str×NameKind) (cs:List (Str×Addr))=>(if (x.2==NameKind.free)=true then do let a <-cellOf env x.1;pure (ForInStep.yield ((x.1,a)::cs)) else pure (ForInStep.yield cs):Sem (ForInStep (List (Str×Addr)))))=pure (fV env names acc)
 | [],acc,_=>rfl
 |(n,k)::r,acc,h=>by
  rw[Qct]
  have hr: ∀y∈r,y.2= .free-> ∃c,env.cells.lookup y.1=some c:=fun y hy=>h y (Zz _ hy)
  cases hk:(k==NameKind.free) with
  | false=>
   have e1:fV env ((n,k)::r) acc=fV env r acc:=by
    show fV env r (if (k==NameKind.free)=true then (match env.cells.lookup n with | some a=>(n,a)::acc | none=>acc) else acc)=_
    rw[hk,if_neg Qaj]
   rw[e1, <-fg r acc hr]
   simp only[hk,Qdh,if_false,pure_bind]
  | true=>
   obtain ⟨c,hc⟩:=h (n,k) ZC (by simpa using hk)
   have e1:fV env ((n,k)::r) acc=fV env r ((n,c)::acc):=by
    have zK:env.cells.lookup n=some c:=hc
    show fV env r (if (k==NameKind.free)=true then (match env.cells.lookup n with | some a=>(n,a)::acc | none=>acc) else acc)=_
    rw[hk,zK,if_pos rfl]
   have e2:cellOf env n=pure c:=by
    have zK:env.cells.lookup n=some c:=hc
    unfold cellOf
    rw[zK]
   rw[e1, <-fg r ((n,c)::acc) hr]
   simp only[hk,if_true,e2,pure_bind]
theorem gw {scope:Scope} {env:Env} (h: ∀y∈scope.names,y.2= .free-> ∃c,env.cells.lookup y.1=some c):closureFor scope env=pure (fV env scope.names []):=by
 have e:=fg scope.names [] h
 simp only[closureFor]
 rw[e]
 rfl
theorem i8 {env:Env} {x:Str} {c:Addr}: ∀(names:List (Str×NameKind)) (acc:List (Str×Addr)),(∀y d,acc.lookup y=some d->env.cells.lookup y=some d)->(fV env names acc).lookup x=some c->env.cells.lookup x=some c
 | [],acc,ha,h=>ha x c h
 |(n,k)::r,acc,ha,h=>by
  refine i8 r _ (fun y d q=>?_) h
  by_cases hk:(k==NameKind.free)=true
  ·rw[if_pos hk]at q
   cases e:env.cells.lookup n with
   | none=>rw[e]at q;exact ha y d q
   | some a=>
    rw[e]at q
    have q':List.lookup y ((n,a)::acc)=some d:=q
    rw[Qbe]at q'
    cases hy:(y==n) with
    | true=>
     rw[hy]at q'
     have:y=n:=by simpa using hy
     subst this
     rw[e];exact q'
    | false=>rw[hy]at q';exact ha y d q'
  ·rw[if_neg hk]at q;exact ha y d q
theorem ui {env:Env} {x:Str}: ∀(names:List (Str×NameKind)) (acc:List (Str×Addr)),(∃c,acc.lookup x=some c)-> ∃c,(fV env names acc).lookup x=some c
 | [],acc,h=>h
 |(n,k)::r,acc,⟨c,hc⟩=>by
  refine ui r _ ?_
  by_cases hk:(k==NameKind.free)=true
  ·rw[if_pos hk]
   cases e:env.cells.lookup n with
   | none=>exact ⟨c,hc⟩
   | some a=>
    show ∃c,List.lookup x ((n,a)::acc)=some c
    rw[Qbe]
    cases hy:(x==n) with
    | true=>exact ⟨a,rfl⟩
    | false=>exact ⟨c,hc⟩
  ·rw[if_neg hk];exact ⟨c,hc⟩
theorem nu {env:Env} {x:Str}: ∀(names:List (Str×NameKind)) (acc:List (Str×Addr)),(∀y∈names,y.2= .free-> ∃c,env.cells.lookup y.1=some c)->names.lookup x=some .free-> ∃c,(fV env names acc).lookup x=some c
 | [],acc,_,h=>by simp at h
 |(n,k)::r,acc,hf,h=>by
  have hr: ∀y∈r,y.2= .free-> ∃c,env.cells.lookup y.1=some c:=fun y hy=>hf y (Zz _ hy)
  rw[Qbe]at h
  cases hy:(x==n) with
  | true=>
   rw[hy]at h
   have hk:k= .free:=Qae h
   subst hk
   have hx:x=n:=by simpa using hy
   subst hx
   obtain ⟨c,hc⟩:=hf (x, .free) ZC rfl
   have zK:env.cells.lookup x=some c:=hc
   refine ui r _ ⟨c,?_⟩
   rw[if_pos (show (NameKind.free==NameKind.free)=true by decide),zK]
   show List.lookup x ((x,c)::acc)=some c
   rw[Qbe]
   simp
  | false=>
   rw[hy]at h
   exact nu r _ hr h
theorem j_ {env:Env}: ∀{names:List (Str×NameKind)} {x:Str},names.lookup x=some .free->
  ((names.map fun (n,k)=>if (k==NameKind.free&&env.scope.kind== .function&&env.kindOf n==some .cell) then (n,NameKind.cell) else (n,k)).lookup x=some .cell\/
   (names.map fun (n,k)=>if (k==NameKind.free&&env.scope.kind== .function&&env.kindOf n==some .cell) then (n,NameKind.cell) else (n,k)).lookup x=some .free)
 | [],_,h=>by simp at h
 |(n,k)::r,x,h=>by
  have ih:= @j_ env r x
  show (List.lookup x ((if (k==NameKind.free&&env.scope.kind== .function&&env.kindOf n==some .cell)=true then (n,NameKind.cell) else (n,k))::_)=_\/List.lookup x ((if (k==NameKind.free&&env.scope.kind== .function&&env.kindOf n==some .cell)=true then (n,NameKind.cell) else (n,k))::_)=_)
  cases hx:x==n with
  | true=>
   simp only[Qbe,hx]at h
   cases h
   by_cases hc:((NameKind.free==NameKind.free)&&env.scope.kind== .function&&env.kindOf n==some .cell)=true
   ·rw[if_pos hc];simp[Qbe,hx]
   ·rw[if_neg hc];simp[Qbe,hx]
  | false=>
   simp only[Qbe,hx]at h
   by_cases hc:(k==NameKind.free&&env.scope.kind== .function&&env.kindOf n==some .cell)=true
   ·rw[if_pos hc];simp only[Qbe,hx];exact ih h
   ·rw[if_neg hc];simp only[Qbe,hx];exact ih h
theorem ka {env:Env}: ∀{names:List (Str×NameKind)} {x:Str},(∀y∈names,y.2≠ .cell)->
  ((names.map fun (n,k)=>if (k==NameKind.free&&env.scope.kind== .function&&env.kindOf n==some .cell) then (n,NameKind.cell) else (n,k)).lookup x=some .cell\/
   (names.map fun (n,k)=>if (k==NameKind.free&&env.scope.kind== .function&&env.kindOf n==some .cell) then (n,NameKind.cell) else (n,k)).lookup x=some .free)->names.lookup x=some .free
 | [],_,_,h=>by simp at h
 |(n,k)::r,x,hn,h=>by
  have ih:= @ka env r x (fun y hy=>hn y (Zz _ hy))
  have hk:=hn (n,k) ZC
  have h':(List.lookup x ((if (k==NameKind.free&&env.scope.kind== .function&&env.kindOf n==some .cell)=true then (n,NameKind.cell) else (n,k))::(r.map fun (n,k)=>if (k==NameKind.free&&env.scope.kind== .function&&env.kindOf n==some .cell) then (n,NameKind.cell) else (n,k)))=some .cell\/List.lookup x ((if (k==NameKind.free&&env.scope.kind== .function&&env.kindOf n==some .cell)=true then (n,NameKind.cell) else (n,k))::(r.map fun (n,k)=>if (k==NameKind.free&&env.scope.kind== .function&&env.kindOf n==some .cell) then (n,NameKind.cell) else (n,k)))=some .free):=h
  cases hx:x==n with
  | true=>
   rw[Qbe,hx]
   by_cases hc:(k==NameKind.free&&env.scope.kind== .function&&env.kindOf n==some .cell)=true
   ·have:(k==NameKind.free)=true:=by
     rw[Qcg,Qcg]at hc;exact hc.1.1
    have Mo:k= .free:=by simpa using this
    rw[Mo]
   ·rw[if_neg hc]at h'
    simp only[Qbe,hx]at h'
    rcases h' with h' | h'
    ·exact absurd (Qae h') hk
    ·exact h'
  | false=>
   rw[Qbe,hx]
   by_cases hc:(k==NameKind.free&&env.scope.kind== .function&&env.kindOf n==some .cell)=true
   ·rw[if_pos hc]at h';simp only[Qbe,hx]at h';exact ih h'
   ·rw[if_neg hc]at h';simp only[Qbe,hx]at h';exact ih h'
abbrev yx:Value->Shared->Prop:=fun _ _=>False
theorem kc {prog:Program} {w:World} {A:Around} {R:Result->Shared->Prop} {s:Shared} {elt target iter:Expr} {ifs:List Expr} {scope:Scope} {pos:Pos} {it acc:Value} {env:Env} (I:Nat->Shared->Prop)
  (turn: ∀n s,I n s->wpAny (model prog w) A (pyNext it) (fun r s₁=>match r with
   | none=>R (.ok .next) s₁
   | some v=>wpAny (model prog w) A (letOwnedTupleGo target it v) (fun _ XD=>wpAny (model prog w) A (assign target env v) (fun _ s₂=>
     wpAny (model prog w) A (forIn ifs true fun c r=>if r=true then do let ok <-isTrue c env (eval c env);pure (ForInStep.yield ok) else pure (ForInStep.yield r)) (fun ok s₃=>
      if ok=true then wpAny (model prog w) A (eval elt env) (fun x s₄=>
       wpAny (model prog w) A (call (.builtin "list.append") [acc,x]) (fun _ s₅=> ∃m,m<n/\I m s₅) yx s₄) yx s₃
      else ∃m,m<n/\I m s₃) yx s₂) yx XD) yx s₁) yx s)
  (n:Nat) (h:I n s):codeAny (model prog w) A (.compLoop (.ListComp elt [⟨target,iter,ifs,0⟩] scope pos) 0 it acc env) R s:=by
 refine codeAny_loop rfl I (fun n s hI=>?_) n h
 show wpAny _ A ((compTurn (.ListComp elt [⟨target,iter,ifs,0⟩] scope pos) 0 it acc env).onRaise (fun x=>do noteFrame x env;theTreesLotGoes x)) _ _ s
 refine wpAny_noted ?_
 rw[compTurn_list]
 have no: ∀{F:Value->Shared->Prop} (e:Value) (s':Shared),yx e s'->F e s':=fun _ _ h=>h.elim
 refine wpAny_bind (wpAny_standAt (wpAny_bind (wpAny_mono (turn n s hI) (fun r s₁ h₁=>?_) no)))
 cases r with
 | none=>exact wpAny_pure h₁
 | some v=>
  refine wpAny_bind (wpAny_mono h₁ (fun _ XD ZE=>?_) no)
  refine wpAny_bind (wpAny_mono ZE (fun _ s₂ h₂=>wpAny_bind (wpAny_mono h₂ (fun ok s₃ h₃=>?_) no)) no)
  cases ok with
  | false=>exact wpAny_pure ⟨rfl,h₃⟩
  | true=>
   exact wpAny_bind (wpAny_bind (wpAny_mono h₃ (fun x s₄ h₄=>wpAny_bind (wpAny_mono h₄ (fun _ s₅ h₅=>wpAny_pure (wpAny_pure ⟨rfl,h₅⟩)) no)) no))
noncomputable def aQ (X:Cx) (scope:Scope) (C:Addr) (Nc:List Str) (s:Shared) (H:Hp) (fp:List Addr):Cx where
 prog:=X.prog
 w:=X.w
 K:=X.K
 mg:=X.mg
 base:=X.base
 A:=X.A
 N:=Nc
 s₀:=s
 H₀:=H
 env:=compEnvC scope (fV X.env scope.names []) C X.env
 outer:=X.stack
 stack:=X.stack
 ex:=fp
 fn:=fun _=>false
 calm:=X.calm
 pn:=[]
 xe:=yx
def gG (X:Cx) (scope:Scope):List Str->List (Option Nat)->Prop
 | [],[]=>True
 | _::ys,none::os=>gG X scope ys os
 | y::ys,some j::os=>(X.N[j]? =some y/\scope.names.lookup y=some .free/\(X.env.kindOf y=some .cell\/X.env.kindOf y=some .free))/\gG X scope ys os
 | _,_=>False
noncomputable def gb (σ:St) (ix:List (Option Nat)):St:=ix.map fun o=>match o with | none=>none | some j=>(σ[j]?).getD none
def Wk:St->St->Prop
 | [],[]=>True
 | none::a,_::b=>Wk a b
 | some v::a,w::b=>w=some v/\Wk a b
 | _,_=>False
theorem Wk.len: ∀{a b:St},Wk a b->a.length=b.length
 | [],[],_=>rfl
 | none::a,_::b,h=>congrArg (· +1) (Wk.len (a:=a) (b:=b) h)
 | some _::a,_::b,h=>congrArg (· +1) (Wk.len (a:=a) (b:=b) h.2)
theorem Wk.get: ∀{a b:St} {i:Nat} {v:V},Wk a b->a[i]? =some (some v)->b[i]? =some (some v)
 | [],[],i,v,_,h=>by simp at h
 | none::a,x::b,0,v,_,h=>by simp at h
 | none::a,x::b,i+1,v,k,h=>by
  have:=Wk.get (a:=a) (b:=b) (i:=i) (v:=v) k (by simpa using h)
  simpa using this
 | some y::a,x::b,0,v,k,h=>by
  have e:y=v:=by simpa using h
  subst e
  simp[k.1]
 | some y::a,x::b,i+1,v,k,h=>by
  have:=Wk.get (a:=a) (b:=b) (i:=i) (v:=v) k.2 (by simpa using h)
  simpa using this
theorem gG.len {X:Cx} {scope:Scope}: ∀{N:List Str} {ix:List (Option Nat)},gG X scope N ix->ix.length=N.length
 | [],[],_=>rfl
 | _::ys,none::os,h=>congrArg (· +1) (gG.len (N:=ys) (ix:=os) h)
 | _::ys,some _::os,h=>congrArg (· +1) (gG.len (N:=ys) (ix:=os) h.2)
theorem gG.get {X:Cx} {scope:Scope}: ∀{N:List Str} {ix:List (Option Nat)} {i j:Nat},gG X scope N ix->ix[i]? =some (some j)-> ∃y,N[i]? =some y/\X.N[j]? =some y/\scope.names.lookup y=some .free/\(X.env.kindOf y=some .cell\/X.env.kindOf y=some .free)
 | [],[],i,j,_,h=>by simp at h
 | y::ys,none::os,0,j,_,h=>by simp at h
 | y::ys,none::os,i+1,j,k,h=>by
  obtain ⟨z,h1,h2⟩:=gG.get (N:=ys) (ix:=os) (i:=i) (j:=j) k (by simpa using h)
  exact ⟨z,by simpa using h1,h2⟩
 | y::ys,some j'::os,0,j,k,h=>by
  have e:j'=j:=by simpa using h
  subst e
  exact ⟨y,by simp,k.1⟩
 | y::ys,some j'::os,i+1,j,k,h=>by
  obtain ⟨z,h1,h2⟩:=gG.get (N:=ys) (ix:=os) (i:=i) (j:=j) k.2 (by simpa using h)
  exact ⟨z,by simpa using h1,h2⟩
theorem zX {σ:St} {ix:List (Option Nat)} {i:Nat} {v:V} (h:(gb σ ix)[i]? =some (some v)): ∃j,ix[i]? =some (some j)/\σ[j]? =some (some v):=by
 unfold gb at h
 rw[Qau]at h
 cases e:ix[i]? with
 | none=>rw[e]at h;cases h
 | some o=>
  rw[e]at h
  cases o with
  | none=>cases h
  | some j=>
   refine ⟨j,rfl,?_⟩
   have h':some ((σ[j]?).getD none)=some (some v):=h
   cases q:σ[j]? with
   | none=>rw[q]at h';cases h'
   | some z=>rw[q]at h';cases h';rfl
theorem nv {X:Cx} {pins:List (Addr×Obj)} {σ:St} {H:Hp} {s:Shared} (I:Inv X pins σ H s) {scope:Scope} {Nc:List Str} {ix:List (Option Nat)} (mU:gG X scope Nc ix) (dD: ∀y∈scope.names,y.2≠ .cell)
  (dE:scope.kind= .function) (ny: ∀y∈scope.names,y.2= .free->X.env.kindOf y.1=some .cell\/X.env.kindOf y.1=some .free) {fp:List Addr} (hf: ∀b∈fp,ju X pins H b) (E2: ∀b∈fp, ∃o,s.heap.get? b=some o)
  {C:Addr} {h':Heap} {t':Nat} {m0:Str->Option Value} (hC:s.heap.objs.size<=C) (Qz:h'.Ns C m0) (k: ∀b o,s.heap.get? b=some o->h'.get? b=some o):
  Inv (aQ X scope C Nc s H fp) [] (gb σ ix) H { s with heap:=h',toks:=t' }:=by
 have Hl: ∀y∈scope.names,y.2= .free-> ∃c,X.env.cells.lookup y.1=some c:=fun y hy e=>I.ok.has y.1 (ny y hy e)
 have iw: ∀{x:Str} {c:Addr},(fV X.env scope.names []).lookup x=some c->X.env.cells.lookup x=some c:=fun {x c} e=>i8 scope.names [] (fun y d q=>by simp at q) e
 refine ⟨⟨I.ok.mod,dE,I.ok.glob,I.ok.blt,hC,fun x y c h1 h2=>I.ok.inj x y c (iw h1) (iw h2),fun x hx=>?_,fun x c h=>?_,I.ok.hd,I.ok.frames, .inl rfl,fun b hb=>?_,I.bs,Qa1 I.ok.Bw I.sz,fun b o e hb=>?_,fun b hb hs=>?_,I.stack,I.mM⟩,
  rfl,I.bare,Un.kept k,⟨m0,Qz,fun i x v h1 h2 h3=>?_⟩,fun x c e=>?_,I.bg.fresh hC,fun x c e=>I.dQ x c (iw e),fun p hp=>absurd (show p∈([]:List (Addr×Obj)) from hp) (by simp),I.bg.kept k,?_⟩
 ·have RW:scope.names.lookup x=some .free:=ka dD hx
  exact nu scope.names [] Hl RW
 ·exact absurd (show false=true from h) (by decide)
 ·refine ⟨?_,fun x c e=>(hf b hb).2.2.2.2.1 x c (iw e)⟩
  obtain ⟨o,ho⟩:=E2 b hb
  exact Qa0 (Qaf (Qac ho) hC)
 ·rcases (hf b hb).2.2.2.1 with z | z
  ·exact I.ok.t_ b o e z
  ·exact absurd (Qaf (Qac e) (Qa1 I.ok.Bw z)) (Qb1 _)
 ·rcases XB.mp (I.hZ b hs) with z | z
  ·exact (hf b hb).2.1 z
  ·exact (hf b hb).2.2.1 z
 ·obtain ⟨j,e1,e2⟩:=zX h2
  obtain ⟨y,y1,y2,y3,y4⟩:=mU.get e1
  have QC:Nc[i]? =some x:=h1
  rw[y1]at QC
  cases QC
  obtain ⟨m,hn,hl⟩:=I.loc
  have hv:x_ X.env.scope x:=by
   rcases y4 with z | z
   ·exact .inr (.inl z)
   ·exact .inr (.inr z)
  obtain ⟨u,r,l⟩:=hl j x v y2 e2 hv
  refine ⟨u,r, .inr ⟨j_ y3,?_⟩⟩
  rcases l with ⟨l,_⟩ | ⟨_,c,hc,q⟩
  ·rcases y4 with z | z
   ·rw[z]at l;cases l
   ·rw[z]at l;cases l
  ·obtain ⟨c',zK⟩:=nu scope.names [] Hl y3
   have e:=iw zK
   rw[hc]at e
   cases e
   obtain ⟨o,ho,hd⟩:=q
   exact ⟨c,zK,o,k _ _ ho,hd⟩
 ·obtain ⟨v,o,ho,hd⟩:=I.cell x c (iw e)
  exact ⟨v,o,k _ _ ho,hd⟩
 ·show (gb σ ix).length=Nc.length
  unfold gb
  rw[kb]
  exact mU.len
theorem qt {X:Cx} {pins p_:List (Addr×Obj)} {σ σ':St} {H H':Hp} {s s':Shared} (I:Inv X pins σ H s) {scope:Scope} {Nc:List Str} {fp:List Addr} {C D:Addr} (J:Inv (aQ X scope C Nc s H fp) p_ σ' H' s')
  (hf: ∀b∈fp,ju X pins H b) (hD:s.heap.objs.size<=D) (hC:s.heap.objs.size<=C) (wa:D≠C) {aD:List Value} {n:Nat} {acc:List V} (eD:s'.heap.get? D=some { cls:= .type "list",data:= .seq aD.toArray n }) (r:Vals acc aD)
  (hz:acc.length<=sizeLine) (nD:H' D=none) {oC:Obj} (eC:s'.heap.get? C=some oC) (dC: ∀v,oC.data≠ .cell v):Inv X (pins++[(C,oC)]) σ (upd H' D (.lst acc)) s':=by
 have lt: ∀b o,s.heap.get? b=some o->b≠D:=fun b o e=>Qa0 (Qaf (Qac e) hD)
 have U:Un (jO X.stack) fp H H' s.heap s'.heap:=J.base
 have U':Un (jO X.stack) fp H (upd H' D (.lst acc)) s.heap s'.heap:=
  ⟨U.keep,U.slot,fun b o e n hx=>by rw[ao (lt b o e)];exact U.free b o e n hx,U.there,fun b xs e=>by rw[ao (ak (U.hX b xs e) nD)];exact U.hX b xs e,
   fun b o u e=>by rw[ao (ak (U.iG b o u e) nD)];exact U.iG b o u e,fun b ps e=>by
    obtain ⟨more,q⟩:=U.jN b ps e
    exact ⟨more,by rw[ao (ak q nD)];exact q⟩⟩
 have bg:hW X.prog X.w (upd H' D (.lst acc)) s'.heap:=fun b u e=>by
  by_cases hb:b=D
  ·subst hb
   rw[af]at e;cases e
   exact ⟨hz,aD,n,r,eD⟩
  ·rw[ao hb]at e
   exact (J.bg b u e).jt (fun c v _ q=>q) (fun c q=>by rw[ao (ak q nD)];exact q) fun c xs q=>by rw[ao (ak q nD)];exact q
 have I':Inv X pins σ (upd H' D (.lst acc)) s':=I.G9 (ch:=fp) J.os U' bg J.bare fun b hb=>by
  obtain ⟨_,h1,_,h2,h3,h4⟩:=hf b hb
  exact ⟨h2,h1,h3,h4⟩
 refine I'.h_ fun p hp=>?_
 rcases Qaa.mp hp with z | z
 ·exact I'.pin p (Qag _ z)
 ·have e:p=(C,oC):=QB.mp z
  subst e
  refine ⟨eC,?_,Qb4 (Qaf I.lt hC),I.EF hC,dC⟩
  rw[ao (Ne.symm wa)]
  exact J.free
def PF (Y:Cx) (ifs:List Expr) (tc:TT):Prop:=
 ∀(pins:List (Addr×Obj)) (s:Shared) (σ:St) (H:Hp) (Q:Bool->Hp->Prop),Inv Y pins σ H s->tc σ H Q->
  wpAny (model Y.prog Y.w) Y.A (forIn ifs true fun c r=>if r=true then do let ok <-isTrue c Y.env (eval c Y.env);pure (ForInStep.yield ok) else pure (ForInStep.yield r)) (TP Y pins σ Q) Y.xe s
def Nh:TT:=fun _ H Q=>Q true H
theorem wR {Y:Cx}:PF Y [] Nh:=fun _ _ _ H _ I h=>wpAny_tests_nil ⟨H,I,h⟩
theorem nz {Y:Cx} {c:Expr} {tc:TT} (h:PT Y c tc):PF Y [c] tc:=fun pins s σ H Q I hw=>wpAny_tests_one (h pins s σ H Q I hw)
def qu (J:It) (σc:St) (g:TG) (tc:TT) (te:TE) (Q:VK) (H1:Hp):Prop:=
 ∃W:Nat->Nat->List V->Hp->Prop,(∃m,W 0 m [] H1)/\ ∀i m acc H,W i m acc H->acc.length<sizeLine/\
 ((J.stop i H/\ ∀D,H D=none->Q (.ref D) (upd H D (.lst acc)))\/
  (J.go i H/\ ∀x H',J.yg i H x H'->g x σc H' fun σ2 H2=>Wk σc σ2/\tc σ2 H2 fun b H3=>if b=true then te σ2 H3 fun v H4=> ∃m',m'<m/\W (i+1) m' (acc++[v]) H4 else ∃m',m'<m/\W (i+1) m' acc H3))
def ke (wi:TI) (ix:List (Option Nat)) (g:TG) (tc:TT) (te:TE):TE:=fun σ H Q=>wi σ H fun J H1=>qu J (gb σ ix) g tc te Q H1
theorem qv {X:Cx} {tg iter elt:Expr} {ifs:List Expr} {scope:Scope} {pos:Pos} {wi:TI} {g:TG} {tc:TT} {te:TE} {Nc:List Str} {ix:List (Option Nat)} (hi:PI X tg iter wi) (dX:X.calm=true) (mU:gG X scope Nc ix)
  (dD: ∀y∈scope.names,y.2≠ .cell) (dE:scope.kind= .function) (ny: ∀y∈scope.names,y.2= .free->X.env.kindOf y.1=some .cell\/X.env.kindOf y.1=some .free)
  (hG: ∀C s H fp,PG (aQ X scope C Nc s H fp) tg g) (hT: ∀C s H fp,PF (aQ X scope C Nc s H fp) ifs tc) (hE: ∀C s H fp,PE (aQ X scope C Nc s H fp) elt te)
  {pins:List (Addr×Obj)} {s:Shared} {σ:St} {H:Hp} {Q:VK} (I:Inv X pins σ H s) (h:ke wi ix g tc te σ H Q) {RR:Value->Addr->Result->Shared->Prop}
  (Sm: ∀(D C:Addr) (oC:Obj) (m:Str->Option Value) (H':Hp) (s':Shared),s'.heap.get? C=some oC->s'.heap.Ns C m->ju X pins H' C->Inv X (pins++[(C,oC)]) σ H' s'->Q (.ref D) H'->RR (.ref D) C (.ok .next) s'):
  wpAny (model X.prog X.w) X.A (eval iter X.env) (fun v s1=>wpAny (model X.prog X.w) X.A (pyIter v) (fun it s2=>wpAny (model X.prog X.w) X.A (newList []) (fun acc s3=>
   wpAny (model X.prog X.w) X.A (newFunctionEnv scope X.env.globals (fV X.env scope.names []) [] X.env.qual none .none (some X.env)) (fun B2 s4=>
    codeAny (model X.prog X.w) X.A (.compStart (.ListComp elt [⟨tg,iter,ifs,0⟩] scope pos) 0 it acc { B2 with scope:=relabel scope X.env }) (RR acc B2.locals) s4) X.xe s3) X.xe s2) X.xe s1) X.xe s:=by
 refine bN (hi pins s σ H _ I h) fun v s1 h1=>bN h1 fun Mf s2 h2=>?_
 obtain ⟨it,fp,tn,J,H2,e,I2,T,gF,f2,W,⟨m0,w0⟩,turn⟩:=h2
 subst e
 refine wpAny_newObj_type (wpAny_newFunctionEnv dD (by intro y hy;simp at hy) (fun h₁ wU rK=>?_) dE)
 dsimp only at wU rK ⊢
 generalize By:s2.heap.push { cls:= .type "list",dict:=none,data:= .seq ([]:List Value).toArray }=P2 at wU rK ⊢
 have hC:P2.objs.size=s2.heap.objs.size+1:=by rw[<-By,Qbx]
 have wa:s2.heap.objs.size≠P2.objs.size:=by rw[hC];exact Qa0 (Qce _)
 have wV:s2.heap.objs.size<=P2.objs.size:=by rw[hC];exact Qco _
 have Ed: ∀b,b<s2.heap.objs.size->b≠P2.objs.size:=fun b hb=>by rw[hC];exact Qa0 (Qb9 hb)
 have old: ∀b o,s2.heap.get? b=some o->h₁.get? b=some o:=fun b o e=>rK.extBut b o (Ed b (Qac e)) (JR _ (By▸JR _ e))
 have rM:h₁.get? s2.heap.objs.size=some { cls:= .type "list",data:= .seq ([]:List Value).toArray }:=rK.extBut _ _ wa (JR _ (By▸Qai _ rfl))
 have Ni:tn 0 h₁:=T.keep 0 _ _ gF fun b _ o e=>old b o e
 have E2: ∀b∈fp, ∃o,s2.heap.get? b=some o:=fun b hb=>let ⟨o,e,_⟩:=T.obj 0 _ gF b hb;⟨o,e⟩
 have Nj: ∀b∈fp,s2.heap.objs.size≠b:=fun b hb=>let ⟨o,e⟩:=E2 b hb;Qb4 (Qac e)
 have IY:=nv I2 mU dD dE ny f2 E2 (t':=s2.toks+([]:List (Str×Value)).length) wV wU old
 have JS: ∀b,s2.heap.objs.size<=b->b∉jO X.stack:=fun b hb hs=>by
  rcases XB.mp (I2.hZ b hs) with z | z
  ·exact absurd (Qaf I2.lt hb) (by rw[z];exact Qb1 _)
  ·exact I2.EF hb z
 have iw: ∀{x:Str} {c:Addr},(fV X.env scope.names []).lookup x=some c->X.env.cells.lookup x=some c:=fun {x c} e=>i8 scope.names [] (fun y d q=>by simp at q) e
 have B3: ∀x c,(fV X.env scope.names []).lookup x=some c->c≠s2.heap.objs.size:=fun x c e z=>by
  obtain ⟨v,q⟩:=I2.cell x c (iw e)
  exact absurd (q.lt) (by rw[z];exact Qb1 _)
 have fY: ∀{pl:List (Addr×Obj)} {H':Hp},(∀p∈pl,p.1=s2.heap.objs.size)->(∀b∈fp,H' b=none)-> ∀b∈fp,ju (aQ X scope P2.objs.size Nc s2 H2 fp) pl H' b:=fun {pl H'} fu hn b hb=>by
  refine ⟨hn b hb,?_,?_, .inl hb,fun x c e=>(f2 b hb).2.2.2.2.1 x c (iw e),fun p hp=>?_⟩
  ·obtain ⟨o,e⟩:=E2 b hb
   exact Ed b (Qac e)
  ·intro hs
   rcases XB.mp (I2.hZ b hs) with z | z
   ·exact (f2 b hb).2.1 z
   ·exact (f2 b hb).2.2.1 z
  ·rw[fu p hp]
   exact Nj b hb
 have loop: ∀s₃:Shared,s₃={ s2 with heap:=h₁,toks:=s2.toks+([]:List (Str×Value)).length }->
   codeAny (model X.prog X.w) X.A (.compLoop (.ListComp elt [⟨tg,iter,ifs,0⟩] scope pos) 0 (.ref it) (.ref s2.heap.objs.size) (compEnvC scope (fV X.env scope.names []) P2.objs.size X.env)) (RR (.ref s2.heap.objs.size) P2.objs.size) s₃:=by
  rintro s₃ rfl
  refine kc (fun n s'=> ∃i acc aD nn H',Inv (aQ X scope P2.objs.size Nc s2 H2 fp) [] (gb σ ix) H' s'/\tn i s'.heap/\(∀b∈fp,H' b=none)/\
   s'.heap.get? s2.heap.objs.size=some { cls:= .type "list",data:= .seq (aD:List Value).toArray nn }/\Vals acc aD/\H' s2.heap.objs.size=none/\W i n acc H') ?_ m0
   ⟨0,[],[],0,H2,IY,Ni,fun b hb=>(f2 b hb).1,rM, .nil,I2.bg.fresh (XA _),w0⟩
  rintro n s3 ⟨i,acc,aD,nn,H3,I3,rq,Hd,eD,rv,nD,w3⟩
  obtain ⟨hz,alt⟩:=turn i n acc H3 w3
  have IP:Inv (aQ X scope P2.objs.size Nc s2 H2 fp) [(s2.heap.objs.size,{ cls:= .type "list",data:= .seq aD.toArray nn })] (gb σ ix) H3 s3:=I3.h_ fun p hp=>by
   have e:p=(s2.heap.objs.size,_):=QB.mp hp
   subst e
   refine ⟨eD,nD,wa,JS _ (XA _),fun v z=>?_⟩
   have z':Data.seq aD.toArray nn=Data.cell v:=z
   cases z'
  have fu: ∀p∈[(s2.heap.objs.size,({ cls:= .type "list",data:= .seq aD.toArray nn }:Obj))],p.1=s2.heap.objs.size:=fun p hp=>by
   have e:p=(s2.heap.objs.size,_):=QB.mp hp
   rw[e]
  rcases alt with ⟨stop,fin⟩ | ⟨go,step⟩
  ·refine bN (T.done (aQ X scope P2.objs.size Nc s2 H2 fp) rfl rfl rfl dX i _ s3 _ H3 yx IP (fY fu Hd) rq stop) fun r s4 zz=>?_
   obtain ⟨hr,I4⟩:=zz
   subst hr
   obtain ⟨m,hn,_⟩:=id I4.loc
   obtain ⟨oC,es,ep,eC,dC,_⟩:=id hn
   have QD:=(I4.pin (s2.heap.objs.size,_) (Qag _ (QB.mpr rfl))).1
   have JT:=fin _ nD
   refine Sm _ _ oC m _ s4 eC hn ?_ (qt I2 I4 f2 (XA _) wV wa QD rv (Qc7 hz) nD eC fun v z=>?_) JT
   ·refine I2.kW wV ?_
    rw[ao (Ne.symm wa)]
    exact I4.free
   ·rw[dC]at z;cases z
  ·refine bN (T.item (aQ X scope P2.objs.size Nc s2 H2 fp) rfl rfl rfl dX i _ s3 _ H3 yx IP (fY fu Hd) rq go) fun r s4 zz=>?_
   obtain ⟨u,hr,h4⟩:=zz
   subst hr
   refine bN h4 fun _ s5 zz=>?_
   obtain ⟨x,H5,I5,r5,y5,jA,MW⟩:=zz
   have Jw:=I5.pinned (fY fu MW) (T.obj _ _ jA)
   refine bN (hG _ s2 H2 fp _ s5 _ H5 x u _ Jw r5 (step x H5 y5)) fun _ s6 zz=>?_
   obtain ⟨σ6,H6,I6,wk,q6⟩:=zz
   refine bN (hT _ s2 H2 fp _ s6 σ6 H6 _ I6 q6) fun b s7 zz=>?_
   obtain ⟨H7,I7,q7⟩:=zz
   have again: ∀{H9:Hp} {s9:Shared} {m':Nat},Inv (aQ X scope P2.objs.size Nc s2 H2 fp) ([(s2.heap.objs.size,({ cls:= .type "list",data:= .seq aD.toArray nn }:Obj))]++kY fp s5.heap) σ6 H9 s9->
     (s9.heap.get? s2.heap.objs.size=some { cls:= .type "list",data:= .seq aD.toArray nn }/\H9 s2.heap.objs.size=none)/\tn (i+1) s9.heap/\(∀b∈fp,H9 b=none)/\Inv (aQ X scope P2.objs.size Nc s2 H2 fp) [] (gb σ ix) H9 s9:=fun {H9 s9 m'} I9=>by
    have pD:=I9.pin (s2.heap.objs.size,_) (Qag _ (Qbr _ (QB.mpr rfl)))
    refine ⟨⟨pD.1,pD.2.1⟩,T.keep _ _ _ jA fun b hb o e=>(I9.pin (b,o) (Qag _ (Qag _ (eI hb e)))).1,fun b hb=>?_,?_⟩
    ·obtain ⟨o,e,d⟩:=T.obj _ _ jA b hb
     exact (I9.pin (b,o) (Qag _ (Qag _ (eI hb e)))).2.1
    ·exact (I9.weak wk.len fun i v e=>wk.get e).h_ fun p hp=>absurd hp (by simp)
   cases b with
   | false=>
    rw[if_neg Qaj]at q7 ⊢
    obtain ⟨m',hm,w7⟩:=q7
    obtain ⟨⟨e7,n7⟩,t7,f7,J7⟩:=again (m':=0) I7
    exact ⟨m',hm,i+1,acc,aD,nn,H7,J7,t7,f7,e7,rv,n7,w7⟩
   | true=>
    rw[if_pos rfl]at q7 ⊢
    refine bN (hE _ s2 H2 fp _ s7 σ6 H7 _ I7 q7) fun y s8 zz=>?_
    obtain ⟨v,H8,I8,r8,m',hm,w8⟩:=zz
    obtain ⟨⟨e8,n8⟩,t8,f8,J8⟩:=again (m':=0) I8
    refine wpAny_list_append_plain (items:=aD.toArray) ⟨nn,e8⟩ (fun h9 Sn Nk=>?_) (by rw[Qad, <-rv.length];exact Qc7 hz)
    obtain ⟨n9,e9⟩:=Sn
    refine ⟨m',hm,i+1,acc++[v],aD++[y],n9,H8,J8.turned (t':=s8.toks) (fun b o hb e=>(Nk.2 b hb).trans e) n8 wa (.inr (XA _)) B3 (fun p hp=>absurd hp (by simp[aQ])),?_,f8,?_,rv.append (.cons r8 .nil),n8,w8⟩
    ·exact T.keep _ _ _ t8 fun b hb o e=>(Nk.2 b (Ne.symm (Nj b hb))).trans e
    ·simpa using e9
 exact codeAny_compStart_list (loop _ rfl) (T.self _ 0 _ _ _ Ni (loop _ rfl))
theorem E3 {X:Cx} {tg iter elt:Expr} {ifs:List Expr} {scope:Scope} {pos:Pos} {wi:TI} {g:TG} {tc:TT} {te:TE} (Nc:List Str) (ix:List (Option Nat)) (hi:PI X tg iter wi) (dX:X.calm=true) (mU:gG X scope Nc ix)
  (dD: ∀y∈scope.names,y.2≠ .cell) (dE:scope.kind= .function) (ny: ∀y∈scope.names,y.2= .free->X.env.kindOf y.1=some .cell\/X.env.kindOf y.1=some .free)
  (nA: ∀x∈scope.names,x.2= .local->scope.names.lookup x.1=some .local)
  (hG: ∀C s H fp,PG (aQ X scope C Nc s H fp) tg g) (hT: ∀C s H fp,PF (aQ X scope C Nc s H fp) ifs tc) (hE: ∀C s H fp,PE (aQ X scope C Nc s H fp) elt te)
  (hs: ∀x,foldedSetIterable iter X.env x=pure x:=by intro _;rfl):PE X (.ListComp elt [⟨tg,iter,ifs,0⟩] scope pos) (ke wi ix g tc te):=by
 intro pins s σ H Q I h
 rw[eval_ListComp]
 have Hl: ∀y∈scope.names,y.2= .free-> ∃c,X.env.cells.lookup y.1=some c:=fun y hy e=>I.ok.has y.1 (ny y hy e)
 refine wpAny_comprehension_free (use:=none) rfl hs (gw Hl) dE nA (qv hi dX mU dD dE ny hG hT hE I h (RR:=fun acc C=>compPost (model X.prog X.w) X.A X.xe none (EP X pins σ Q) acc C) ?_)
 intro D C oC m H' s' eC hn fC I' q
 refine ⟨m,hn,fun h' JU=>⟨.ref D,H',?_,rfl,q⟩⟩
 exact I'.gE.turned (t':=s'.toks) (fun b o hb e=>(JU.2 b hb).trans e) fC.1 fC.2.1 fC.2.2.2.1 fC.2.2.2.2.1 fC.2.2.2.2.2
theorem E4 {X:Cx} {i:Nat} {x:Str} {tg iter elt:Expr} {ifs:List Expr} {scope:Scope} {pos B4 pos':Pos} {wi:TI} {g:TG} {tc:TT} {te:TE} (Nc:List Str) (ix:List (Option Nat)) (hN:X.N.Nodup) (So:X.N[i]? =some x) (hx:Loc X.env.scope x)
  (Sr:swapsWith (.ListComp elt [⟨tg,iter,ifs,0⟩] scope pos) (some (.Name x pos')) B4.line X.env=pure true) (hi:PI X tg iter wi) (dX:X.calm=true) (mU:gG X scope Nc ix)
  (dD: ∀y∈scope.names,y.2≠ .cell) (dE:scope.kind= .function) (ny: ∀y∈scope.names,y.2= .free->X.env.kindOf y.1=some .cell\/X.env.kindOf y.1=some .free)
  (nA: ∀x∈scope.names,x.2= .local->scope.names.lookup x.1=some .local)
  (hG: ∀C s H fp,PG (aQ X scope C Nc s H fp) tg g) (hT: ∀C s H fp,PF (aQ X scope C Nc s H fp) ifs tc) (hE: ∀C s H fp,PE (aQ X scope C Nc s H fp) elt te)
  (hs: ∀x,foldedSetIterable iter X.env x=pure x:=by intro _;rfl) (hf:X.fn x=true\/X.env.scope.names.lookup x=some .local:=by first | exact .inl rfl | exact .inr rfl | assumption):
  PS X (.Assign [.Name x pos'] (.ListComp elt [⟨tg,iter,ifs,0⟩] scope pos) B4) (zL (ke wi ix g tc te) (j7 i)):=by
 intro pins s σ H E I h
 have Hl: ∀y∈scope.names,y.2= .free-> ∃c,X.env.cells.lookup y.1=some c:=fun y hy e=>I.ok.has y.1 (ny y hy e)
 rw[exec_Assign_Name_used _ _ _ _ Sr]
 refine wpAny_bind (wpAny_standAt (wpAny_bind ?_))
 show wpAny _ X.A (do let _ <-comprehension (.ListComp elt [⟨tg,iter,ifs,0⟩] scope pos) scope X.env _ (newList []) false (eval iter X.env) (some (assign (.Name x pos') X.env))) _ _ s
 refine wpAny_bind (wpAny_mono (wpAny_comprehension_free (use:=some (assign (.Name x pos') X.env)) (Q:=fun _ s'=>SP X pins E .next s') rfl hs (gw Hl) dE nA
  (qv hi dX mU dD dE ny hG hT hE I h (RR:=fun acc C=>compPost (model X.prog X.w) X.A X.xe (some (assign (.Name x pos') X.env)) (fun _ s'=>SP X pins E .next s') acc C) ?_)) (fun _ s' hq=>wpAny_pure (wpAny_pure hq)) fun _ _ e=>e)
 intro D C oC m H' s' eC hn fC I' q
 show wpAny _ X.A (assign (.Name x pos') X.env (.ref D)) _ _ _
 refine wpAny_assign_Name (cL I' hN So hx (show RelV (.ref D) _ from rfl) (fun Mj XE=>?_) hf)
 have pC:=XE.pin (C,oC) (Qag _ (Qag _ (QB.mpr rfl)))
 refine ⟨m,?_,fun h' JU=>?_⟩
 ·obtain ⟨o,es,ep,e,r⟩:=hn
  rw[eC]at e;cases e
  exact ⟨oC,es,ep,pC.1,r⟩
 ·refine ⟨_,H',XE.gE.turned (t':=Mj.toks) (fun b o hb e=>(JU.2 b hb).trans e) fC.1 fC.2.1 fC.2.2.2.1 fC.2.2.2.2.1 fC.2.2.2.2.2,q⟩
noncomputable def S (l:List Nat):Str:=⟨l.toArray⟩
theorem cX (l:List Nat):(S l).cps.toList=l:=by simp[S]
theorem bj (l:List Nat):(S l).length=l.length:=by simp[S,Str.length]
theorem jQ (l:List Nat):(S l).cps.size=l.length:=by simp[S]
theorem B5 {a b:List Nat} (h:S a=S b):a=b:=by
 have:=congrArg (fun x:Str=>x.cps.toList) h
 simpa [S]using this
theorem JV (x:Str):x=S x.cps.toList:=by cases x;simp[S]
theorem qw (a b:List Nat):S a++S b=S (a++b):=by
 apply Str.ext'
 apply Qd6.mp
 simp[S,Str.cps_append]
theorem Hm {a b:List Nat}:decide (V.str (S a)=V.str (S b))=decide (a=b):=by
 by_cases h:a=b
 ·subst h;simp
 ·rw[decide_eq_false h,decide_eq_false]
  intro q
  exact h (B5 (V.str.inj q))
noncomputable def cut {α:Type} (xs:List α) (lo hi:Option Int):List α:=(xs.drop (HT.jZ xs.length 0 lo)).take (HT.jZ xs.length xs.length hi - HT.jZ xs.length 0 lo)
theorem mV {α:Type} (xs:List α) (lo hi:Option Int):(cut xs lo hi).length<=xs.length:=by
 unfold cut
 rw[Qab,Qat]
 omega
theorem uj (n d:Nat) (v:Int):max 0 (min (if v<0 then v+(n:Int) else v) (n:Int))=((HT.jZ n d (some v):Nat):Int):=by
 show _=(((if v<0 then (v+(n:Int)).toNat else min v.toNat n):Nat):Int)
 by_cases hv:v<0
 ·simp only[if_pos hv];omega
 ·simp only[if_neg hv];omega
theorem ma (lo hi:Option Int) (n:Nat):Builtin.Str.strSliceIndices lo hi 1 n=(List.range (HT.jZ n n hi - HT.jZ n 0 lo)).map (HT.jZ n 0 lo+ ·):=by
 have h1:(1:Int)>0:=by decide
 rw[<-sliceRange_one]
 unfold Builtin.Str.strSliceIndices
 simp only[h1,if_true]
 congr 1
 ·cases lo with
  | none=>rfl
  | some v=>exact uj n 0 v
 ·cases hi with
  | none=>rfl
  | some v=>exact uj n n v
theorem E5 (l:List Nat) (lo hi:Option Int):Txt.slice (S l) lo hi=S (cut l lo hi):=by
 have hx:((Builtin.Str.strSliceIndices lo hi 1 (S l).length).filterMap ((S l).cps[·]?))=cut l lo hi:=by
  rw[bj,ma,pick_run,cX]
  rfl
 have hlen:(Builtin.Str.strSliceIndices lo hi 1 (S l).length).length=HT.jZ l.length l.length hi - HT.jZ l.length 0 lo:=by
  rw[bj,ma,kb,Qdy]
 unfold Txt.slice
 by_cases hc:((1:Int)==1&&(Builtin.Str.strSliceIndices lo hi 1 (S l).length).length==(S l).length)=true
 ·rw[if_pos hc]
  rw[hlen,bj]at hc
  have e:HT.jZ l.length l.length hi - HT.jZ l.length 0 lo=l.length:=by simpa using hc
  have h2:=HT.JF l.length l.length (XA _) hi
  have e0:HT.jZ l.length 0 lo=0\/l.length=0:=by omega
  unfold cut
  rw[e]
  rcases e0 with z | z
  ·rw[z];simp
  ·have:l=[]:=Qci z
   subst this
   simp
 ·rw[if_neg hc]
  rw[hx]
  rfl
section
variable {X:Cx}
theorem bq {x:Str} {j pos} (l:List Nat) (h:x=S l):PE X (.Constant (.str x) j pos) (tC (.str (S l))):=by
 subst h
 exact Jl
def Nl:R2:=fun x y H Q=> ∃a b,x= .str (S a)/\y= .str (S b)/\a.length+b.length<=sizeLine/\Q (.str (S (a++b))) H
theorem bR:iK X (binaryOp .Add) Nl:=by
 intro pins s σ H x y v u Q I rx ry h
 obtain ⟨a,b,rfl,rfl,hz,q⟩:=h
 exact wH pins s σ H _ _ v u Q I rx ry ⟨S a,S b,rfl,rfl,by rw[bj,bj];exact hz,by rw[qw];exact q⟩
def yA:R2:=fun x y H Q=> ∃l i c,x= .str (S l)/\y= .int i/\l.length<=sizeLine/\lZ l i=some c/\Q (.str (S [c])) H
theorem B6:JG X yA:=by
 intro value slice pins s σ H x y v u Q I rx ry h hs
 obtain ⟨l,i,c,rfl,rfl,hz,he,q⟩:=h
 exact JI value slice pins s σ H _ _ v u Q I rx ry ⟨S l,i,c,rfl,rfl,by rw[bj];exact hz,by rw[cX];exact he,q⟩ hs
def Ss:V->Option Int->Option Int->Hp->VK->Prop:=fun x lo hi H Q=> ∃l,x= .str (S l)/\l.length<=sizeLine/\Q (.str (S (cut l lo hi))) H
theorem rN:M6 X Ss:=by
 intro pins s σ H x v vl vu lo hi sl Q I rx hs pl pu h
 obtain ⟨l,rfl,hz,q⟩:=h
 obtain ⟨t,rfl⟩:=rx
 refine ⟨"str",_,F.slot_str_getitem.lookup,typeIs_str _ _ _,?_⟩
 have key: ∀(a b:Option (Int×Tok)),vl=partValue a->vu=partValue b->a.map (·.1)=lo->b.map (·.1)=hi->wpAny (model X.prog X.w) X.A (getItem (.str (S l) t) (.ref sl)) (EP X pins σ Q) X.xe s:=by
  rintro a b rfl rfl rfl rfl
  obtain ⟨o,e,c,d⟩:=hs
  refine wpAny_getItem_str_slice (l:=a) (u:=b) (st:=none) ⟨o,e,c,d⟩ rfl (post_val_or_str ⟨?_,fun t' k=>?_⟩)
  ·exact Qa1 (Txt.slice_le (S l) _ _) (by rw[bj];exact hz)
  ·exact ⟨.str (S (cut l _ _)),H,I.tok _,⟨t',congrArg (fun z=>Value.str z t') (E5 l _ _)⟩,q⟩
 cases pl with
 | none=>
  cases pu with
  | none=>exact key none none rfl rfl rfl rfl
  | int i ti=>exact key none (some (i,ti)) rfl rfl rfl rfl
 | int i ti=>
  cases pu with
  | none=>exact key (some (i,ti)) none rfl rfl rfl rfl
  | int j tj=>exact key (some (i,ti)) (some (j,tj)) rfl rfl rfl rfl
theorem fv:cF X (.builtin "len") (fun xs H Q=> ∃l,xs=[.str (S l)]/\l.length<=sizeLine/\Q (.int l.length) H):=by
 intro pins s σ H xs us Q I r h
 obtain ⟨l,rfl,hz,q⟩:=h
 exact rG pins s σ H _ us Q I r ⟨S l,rfl,by rw[bj];exact hz,by rw[bj];exact q⟩
noncomputable def bX (l:List Nat):List V:=l.map fun c=>V.str (S [c])
theorem wW {l:List Nat}: ∀{acc:List Value},acc.length=l.length->(∀j v,acc[j]? =some v->SignAt (S l) j v)->Vals (bX l) acc:=by
 induction l with
 | nil=>intro acc h _;have:acc=[]:=Qci h;subst this;exact .nil
 | cons c l ih=>
  intro acc h k
  cases acc with
  | nil=>cases h
  | cons a acc=>
   refine .cons ?_ (ih (by simpa using h) fun j v e=>?_)
   ·obtain ⟨c',u,e1,e2⟩:=k 0 a rfl
    have:c=c':=by simpa [S]using e1
    subst this
    exact ⟨u,e2⟩
   ·obtain ⟨c',u,e1,e2⟩:=k (j+1) v (by simpa using e)
    exact ⟨c',u,by simpa [S]using e1,e2⟩
theorem nF (hc:X.calm=true):cF X (.type "list") (fun xs H Q=> ∃l,xs=[.str (S l)]/\l.length<=sizeLine/\ ∀p,H p=none->Q (.ref p) (upd H p (.lst (bX l)))):=by
 intro pins s σ H xs us Q I r h
 obtain ⟨l,rfl,hz,q⟩:=h
 obtain ⟨u,rfl,t,rfl⟩:=vals1 r
 refine call_list_str (I.ok.hd hc) (S l) t (fun h' tk dP c' hk e rM=>?_) (by rw[jQ];exact hz)
 obtain ⟨h1,h2⟩:=rM
 rw[jQ]at h1
 refine ⟨.ref s.heap.objs.size,_,I.laid (t':=tk) (o:= .lst (bX l)) hk (XA _) ?_,rfl,q _ I.fresh⟩
 exact ⟨by unfold bX;rw[kb];exact hz,dP.toList,c',wW (by simpa using h1) (fun j v e=>h2 j v (by simpa using e)),by simpa using e⟩
def Nm:R2:=fun x y H Q=> ∃c l,x= .str (S [c])/\y= .str (S l)/\Q (.bl (decide (c∈l))) H
theorem JW:iK X (compareOp .In) Nm:=by
 intro pins s σ H x y v u Q I rx ry h
 obtain ⟨c,l,rfl,rfl,q⟩:=h
 refine zP pins s σ H _ _ v u Q I rx ry ⟨S [c],S l,rfl,rfl,?_⟩
 have e:=StrLaws.found_one (S l) c
 rw[cX]at e
 rw[show (S [c])=(⟨#[c]⟩:Str) from rfl,e]
 exact q
def Hn:R2:=fun x y H Q=> ∃c l,x= .str (S [c])/\y= .str (S l)/\Q (.bl (!decide (c∈l))) H
theorem rP:iK X (compareOp .NotIn) Hn:=by
 intro pins s σ H x y v u Q I rx ry h
 obtain ⟨c,l,rfl,rfl,q⟩:=h
 refine rE pins s σ H _ _ v u Q I rx ry ⟨S [c],S l,rfl,rfl,?_⟩
 have e:=StrLaws.found_one (S l) c
 rw[cX]at e
 rw[show (S [c])=(⟨#[c]⟩:Str) from rfl,e]
 exact q
end
theorem qx (s sub:Str) (hi:Nat): ∀(l:List Nat) (st:Array Nat×Nat),1<=st.fst.size->(forIn l st (StrLaws.occBody s sub hi 1)).run.fst=st.fst
 | [],st,h=>rfl
 | a::l,st,h=>by
  rw[Qct]
  unfold StrLaws.occBody
  rw[if_neg (fun z=>absurd z.1.1.1 (Nat.not_lt.mpr h))]
  exact qx s sub hi l _ h
theorem occ_first (s sub:Str) (hi:Nat): ∀(l:List Nat) (free:Nat),(∀i∈l,free<=i)->
  (forIn l ((#[]:Array Nat),free) (StrLaws.occBody s sub hi 1)).run.fst.toList=(l.find? fun i=>decide (i+sub.length<=hi)&&Builtin.Str.subAt s sub i).toList
 | [],free,_=>rfl
 | a::l,free,hf=>by
  rw[Qct,Qcu]
  unfold StrLaws.occBody
  have ha:free<=a:=hf a ZC
  by_cases hc:a+sub.length<=hi/\Builtin.Str.subAt s sub a=true
  ·rw[if_pos ⟨⟨⟨by simp,ha⟩,hc.1⟩,hc.2⟩]
   have:(decide (a+sub.length<=hi)&&Builtin.Str.subAt s sub a)=true:=by simp[hc]
   rw[this]
   show (forIn l (#[].push a,a+sub.length) (StrLaws.occBody s sub hi 1)).run.fst.toList=_
   rw[qx s sub hi l _ (by simp)]
   rfl
  ·rw[if_neg (fun z=>hc ⟨z.1.2,z.2⟩)]
   have:(decide (a+sub.length<=hi)&&Builtin.Str.subAt s sub a)=false:=by
    cases h1:decide (a+sub.length<=hi) with
    | false=>rfl
    | true=>
     cases h2:Builtin.Str.subAt s sub a with
     | false=>rfl
     | true=>exact absurd ⟨of_decide_eq_true h1,h2⟩ hc
   rw[this]
   exact occ_first s sub hi l free fun i QE=>hf i (Zz _ QE)
theorem subAt_one (l:List Nat) (c i:Nat):Builtin.Str.subAt (S l) (S [c]) i=(l[i]? ==some c):=by
 unfold Builtin.Str.subAt
 rw[bj]
 show ((S l).cps.extract i (i+1)== #[c])=_
 have e:((S l).cps.extract i (i+1))=((l.drop i).take 1).toArray:=by
  apply Qd6.mp
  simp[S,List.take_drop]
 rw[e]
 by_cases h:i<l.length
 ·have e2:(l.drop i).take 1=[l[i]]:=by
   rw[Qa7 h];rfl
  rw[e2,Mn h]
  by_cases hc:l[i]=c
  ·rw[hc];simp
  ·have h1:([l[i]].toArray== #[c])=false:=by
    rw[beq_eq_false_iff_ne]
    intro z
    apply hc
    have:=congrArg Array.toList z
    simpa using this
   have h2:(some l[i]==some c)=false:=by simpa using hc
   rw[h1,h2]
 ·have e2:(l.drop i).take 1=[]:=by rw[Qbu (by omega)];rfl
  rw[e2,List.getElem?_eq_none (by omega)]
  rfl
theorem nG (l:List Nat) (c:Nat): ∀(k n:Nat),k+n=l.length+1->((List.range' k n).find? fun i=>decide (i+1<=l.length)&&(l[i]? ==some c))=if c∈l.drop k then some (k+(l.drop k).idxOf c) else none
 | k,0,h=>by
  have:l.drop k=[]:=Qbu (by omega)
  rw[this];simp
 | k,n+1,h=>by
  rw[List.range'_succ,Qcu]
  by_cases hk:k<l.length
  ·have e:l.drop k=l[k]::l.drop (k+1):=Qa7 hk
   rw[Mn hk,e]
   by_cases hc:l[k]=c
   ·have:(decide (k+1<=l.length)&&(some l[k]==some c))=true:=by simp[hc];omega
    rw[this,if_pos (by simp[hc])]
    simp[hc]
   ·have:(decide (k+1<=l.length)&&(some l[k]==some c))=false:=by simp[hc]
    rw[this,nG l c (k+1) n (by omega)]
    have zK: ¬c=l[k]:=fun z=>hc z.symm
    by_cases hm:c∈l.drop (k+1)
    ·rw[if_pos hm,if_pos (Zz _ hm),List.idxOf_cons]
     have:(l[k]==c)=false:=by simpa using hc
     rw[this]
     show some (k+1+List.idxOf c (List.drop (k+1) l))=some (k+(List.idxOf c (List.drop (k+1) l)+1))
     congr 1
     omega
    ·rw[if_neg hm,if_neg (by intro z;rcases XB.mp z with z | z;exact zK z;exact hm z)]
  ·have:l.drop k=[]:=Qbu (by omega)
   have e1:(decide (k+1<=l.length)&&(l[k]? ==some c))=false:=by
    rw[decide_eq_false (by omega)];rfl
   have e2:l.drop (k+1)=[]:=Qbu (by omega)
   rw[e1,nG l c (k+1) n (by omega),this,e2]
   simp
theorem Ho (l:List Nat) (c:Nat):Builtin.Str.occurrences (S l) (S [c]) 0 (S l).length 1=if c∈l then [l.idxOf c] else []:=by
 rw[StrLaws.occ_eq,occ_first _ _ _ _ 0 fun _ _=>Qaq _]
 have e:(fun i=>decide (i+(S [c]).length<=(S l).length)&&Builtin.Str.subAt (S l) (S [c]) i)=fun i=>decide (i+1<=l.length)&&(l[i]? ==some c):=by
  funext i
  rw[subAt_one,bj,bj]
  rfl
 rw[e,bj,Qcv,nG l c 0 (l.length+1) (by omega),Qbz]
 by_cases h:c∈l
 ·rw[if_pos h,if_pos h,Qcn];rfl
 ·rw[if_neg h,if_neg h];rfl
section
variable {X:Cx}
def E6:V->List V->Hp->VK->Prop:=fun x vs H Q=> ∃l c,x= .str (S l)/\vs=[.str (S [c])]/\c∈l/\Q (.int (l.idxOf c:Nat)) H
theorem qy:wN X "str.index" E6:=by
 intro pins s σ H x xs v us Q I rx rv h
 obtain ⟨l,c,rfl,rfl,hc,q⟩:=h
 obtain ⟨t,rfl⟩:=rx
 obtain ⟨u,rfl,t',rfl⟩:=vals1 rv
 exact SC.index (i:=l.idxOf c) (rest:=[]) (by rw[Ho,if_pos hc]) ⟨.int (l.idxOf c:Nat),H,I.tok _,⟨_,rfl⟩,q⟩
def JX:V->List V->Hp->VK->Prop:=fun x vs H Q=> ∃l c,x= .str (S l)/\vs=[.str (S [c])]/\Q (.int (if c∈l then (l.idxOf c:Nat) else -1)) H
theorem B7:wN X "str.find" JX:=by
 intro pins s σ H x xs v us Q I rx rv h
 obtain ⟨l,c,rfl,rfl,q⟩:=h
 obtain ⟨t,rfl⟩:=rx
 obtain ⟨u,rfl,t',rfl⟩:=vals1 rv
 refine SC.find ⟨.int _,H,I.tok _,⟨_,rfl⟩,?_⟩
 have e:Txt.find (S l) (S [c])=(if c∈l then ((l.idxOf c:Nat):Int) else -1):=by
  unfold Txt.find
  rw[Ho]
  by_cases h:c∈l
  ·rw[if_pos h,if_pos h]
  ·rw[if_neg h,if_neg h]
 rw[e]
 exact q
def Nn (f:Nat->Bool):V->List V->Hp->VK->Prop:=fun x vs H Q=> ∃c,x= .str (S [c])/\vs=[]/\c<128/\Q (.bl (f c)) H
def Su (f:Nat->Nat):V->List V->Hp->VK->Prop:=fun x vs H Q=> ∃c,x= .str (S [c])/\vs=[]/\c<128/\Q (.str (S [f c])) H
noncomputable def cM (c:Nat):Bool:=decide (97<=c)&&decide (c<=122)
noncomputable def isUp (c:Nat):Bool:=decide (65<=c)&&decide (c<=90)
theorem E7: ∀c,c<128->Txt.islower ⟨#[c]⟩=cM c:=by decide+kernel
theorem wX:wN X "str.islower" (Nn cM):=by
 intro pins s σ H x xs v us Q I rx rv h
 obtain ⟨c,rfl,rfl,hc,q⟩:=h
 obtain ⟨t,rfl⟩:=rx
 have e:us=[]:=by cases rv;rfl
 subst e
 exact SC.islower ⟨.bl (cM c),H,I,congrArg Value.bool (E7 c hc),q⟩
theorem qz {c:Nat} (hc:c<128):Txt.lower (S [c])=S [lo1 c]:=by
 rw[lower_ascii (by intro d hd;rw[cX]at hd;simp at hd;omega)]
 simp[S]
theorem Np (c:Nat):Builtin.Str.tooLong (S [c]).length=false:=by
 rw[bj]
 show Builtin.Str.tooLong 1=false
 decide
theorem B8:wN X "str.lower" (Su lo1):=by
 intro pins s σ H x xs v us Q I rx rv h
 obtain ⟨c,rfl,rfl,hc,q⟩:=h
 obtain ⟨t,rfl⟩:=rx
 have e:us=[]:=by cases rv;rfl
 subst e
 exact SC.lower (by rw[qz hc];exact Np _) ⟨.str (S [lo1 c]),H,I.tok _,⟨_,congrArg (fun z=>Value.str z _) (qz hc)⟩,q⟩
theorem B9: ∀(ls:List (List Nat)) (a:Array Nat),(ls.map S).foldl (fun acc p=>acc++(S []).cps++p.cps) a=a++ls.flatten.toArray
 | [],a=>by simp
 | l::ls,a=>by
  rw[ZD,List.foldl_cons,B9 ls]
  simp[S]
theorem JY (ls:List (List Nat)):Txt.join (S []) (ls.map S)=S ls.flatten:=by
 unfold Txt.join Builtin.Str.glued
 cases ls with
 | nil=>rfl
 | cons l ls=>
  show Str.mk ((List.map S ls).foldl (fun acc p=>acc++(S []).cps++p.cps) (S l).cps)=_
  rw[B9]
  simp[S]
theorem jR: ∀{ls:List (List Nat)} {us:List Value},Vals (ls.map fun l=>V.str (S l)) us->StrsAre us (ls.map S)
 | [],us,r=>by cases r;exact .nil
 | l::ls,us,r=>by
  cases r with
  | cons r1 r2=>
   obtain ⟨t,rfl⟩:=r1
   exact .cons _ t (jR r2)
def B_ (K:PySem.W.Frag):V->List V->Hp->VK->Prop:=fun x vs H Q=> ∃(p:Addr) (ls:List (List Nat)),x= .str (S [])/\vs=[.ref p]/\aN K H p (ls.map fun l=>V.str (S l))/\(ls.map List.length).sum<=16777216/\Q (.str (S ls.flatten)) H
theorem Ca:wN X "str.join" (B_ X.K):=by
 intro pins s σ H x xs v us Q I rx rv h
 obtain ⟨p,ls,rfl,rfl,hq,hz,q⟩:=h
 obtain ⟨t,rfl⟩:=rx
 obtain ⟨u,rfl,ru⟩:=vals1 rv
 cases ru
 obtain ⟨aD,r,pl,_⟩:=I.list hq
 have e:(S []).length=0:=rfl
 refine join_list pl.isList (by simpa using jR r) ?_ fun t' k=>?_
 ·rw[e,Nat.mul_zero,Qdk,Qbs]
  have e2:(Str.length ∘ S)=List.length:=by funext l;exact bj l
  have e3:((fun x:Str=>x.length) ∘ S)=List.length:=by funext l;exact bj l
  first | (rw[e2];exact hz) | (rw[e3];exact hz)
 ·exact ⟨.str (S ls.flatten),H,I.tok _,⟨t',congrArg (fun z=>Value.str z t') (JY ls)⟩,q⟩
end
end L2
namespace L2.F2
open PySem PySem.Spec PyProof.Rows
end L2.F2
namespace L2
open PySem PySem.Spec PyProof.Rows
section
variable {prog:Program} {w:World} {A:Around} {E:Value->Shared->Prop} {s:Shared}
end
noncomputable def Hq (xs:List V):It:=⟨fun i _=>i<xs.length,fun i H x H'=>H'=H/\xs[i]? =some x,fun i _=>xs.length<=i⟩
theorem eQ {l:List Nat} {i:Nat} {x:V} (h:(bX l)[i]? =some x): ∃c,l[i]? =some c/\x= .str (S [c]):=by
 unfold bX at h
 rw[Qau]at h
 cases e:l[i]? with
 | none=>rw[e]at h;cases h
 | some c=>rw[e]at h;cases h;exact ⟨c,rfl,rfl⟩
theorem aU (l:List Nat):(bX l).length=l.length:=by unfold bX;rw[kb]
theorem nH {P:Program} {w:World} {K:PySem.W.Frag} {tg:Expr} (it:Addr) (l:List Nat) (t:Tok):Turn P w K tg (Hq (bX l)) [it] it (fun i h=>h.IsStrIter it (strIterType (S l)) (S l) t i) where
 mem:=by simp
 obj:=fun i h st b hb=>by
  have e:b=it:=by simpa using hb
  subst e
  obtain ⟨o,e,c,d⟩:=st
  exact ⟨o,e,fun v z=>by rw[d]at z;cases z⟩
 keep:=fun i h h' st k=>let ⟨o,e,r⟩:=st;⟨o,k it (by simp) o e,r⟩
 item:=by
  intro X hP hw hK hc i pins s σ H E I hf st hg
  subst hP hw hK
  have Nq:i<l.length:=by have:i<(bX l).length:=hg;rwa [aU]at this
  obtain ⟨f0,f1,f2,f3,f4,f5⟩:=hf it (by simp)
  have fin: ∀(v:Value) (h':Heap) (tk:Nat),SignAt (S l) i v->h'.IsStrIter it (strIterType (S l)) (S l) t (i+1)->(∀b o,b∉[it]->s.heap.get? b=some o->h'.get? b=some o)->
    ∃u,some v=some u/\wpAny (model X.prog X.w) X.A (letOwnedTupleGo tg (.ref it) u) (fun _ s2=> ∃x H',Inv X pins σ H' s2/\RelV x u/\(Hq (bX l)).yg i H x H'/\s2.heap.IsStrIter it (strIterType (S l)) (S l) t (i+1)/\ ∀b∈[it],H' b=none) E { s with heap:=h',toks:=tk }:=by
   intro v h' tk hv aL kk
   obtain ⟨c,u,e1,e2⟩:=hv
   subst e2
   have I1:Inv X pins σ H { s with heap:=h',toks:=tk }:=I.turned (fun b o hb e=>kk b o (by simpa using hb) e) f0 f1 f3 f4 f5
   obtain ⟨o,e,cc,d⟩:=id aL
   refine ⟨_,rfl,yh (s:={ s with heap:=h',toks:=tk }) e cc d (by unfold strIterType;split<;>decide) ⟨.str (S [c]),H,I1,⟨u,rfl⟩,⟨rfl,?_⟩,aL,fun b hb=>(hf b hb).1⟩⟩
   unfold bX
   rw[Qau]
   have Sv:l[i]? =some c:=by simpa [S]using e1
   rw[Sv]
   rfl
  have hsz:i<(S l).cps.size:=by rw[jQ];exact Nq
  by_cases ha:(S l).cps.all (· <128)=true
  ·have et:strIterType (S l)="str_ascii_iterator":=by unfold strIterType;rw[if_pos ha]
   rw[et]at st
   exact (Walks.strAscii (prog:=X.prog) (w:=X.w) (I.ok.hd hc) it (S l) t).item i s _ _ hsz st fun v h' tk hv aL kk=>fin v h' tk hv (by rw[et];exact aL) kk
  ·have et:strIterType (S l)="str_iterator":=by unfold strIterType;rw[if_neg ha]
   rw[et]at st
   exact (Walks.strWide (prog:=X.prog) (w:=X.w) (I.ok.hd hc) it (S l) t).item i s _ _ hsz st fun v h' tk hv aL kk=>fin v h' tk hv (by rw[et];exact aL) kk
 done:=by
  intro X hP hw hK hc i pins s σ H E I hf st hg
  subst hP hw hK
  obtain ⟨f0,f1,f2,f3,f4,f5⟩:=hf it (by simp)
  have Nq:l.length<=i:=by have:(bX l).length<=i:=hg;rwa [aU]at this
  have hx:(S l).cps[i]? =none:=by rw[Array.getElem?_eq_none_iff,jQ];exact Nq
  by_cases ha:(S l).cps.all (· <128)=true
  ·have et:strIterType (S l)="str_ascii_iterator":=by unfold strIterType;rw[if_pos ha]
   rw[et]at st
   exact wpAny_pyNext_ascii_end (I.ok.hd hc) st hx fun h' eb=>⟨rfl,I.turned (t':=s.toks) (fun b o hb e=>eb b o hb e) f0 f1 f3 f4 f5⟩
  ·have et:strIterType (S l)="str_iterator":=by unfold strIterType;rw[if_neg ha]
   rw[et]at st
   exact wpAny_pyNext_wide_end (I.ok.hd hc) st hx fun h' eb=>⟨rfl,I.turned (t':=s.toks) (fun b o hb e=>eb b o hb e) f0 f1 f3 f4 f5⟩
 self:=fun _ _ s _ _ st h=>by
  by_cases ha:(S l).cps.all (· <128)=true
  ·have et:strIterType (S l)="str_ascii_iterator":=by unfold strIterType;rw[if_pos ha]
   rw[et]at st
   exact wpAny_pyIter_striter_ascii st h
  ·have et:strIterType (S l)="str_iterator":=by unfold strIterType;rw[if_neg ha]
   rw[et]at st
   exact wpAny_pyIter_striter_wide st h
section
variable {X:Cx} {tg:Expr}
def JZ (tl:TE):TI:=fun σ H R=>tl σ H fun x H1=> ∃l,x= .str (S l)/\R (Hq (bX l)) H1
theorem rQ {l:Expr} {tl:TE} (hl:PE X l tl):PI X tg l (JZ tl):=by
 intro pins s σ H R I h
 refine bN (hl pins s σ H _ I h) fun v s1 ⟨x,H1,I1,r1,q1⟩=>?_
 obtain ⟨l,rfl,q⟩:=q1
 obtain ⟨t,rfl⟩:=r1
 refine wpAny_pyIter_strU ?_
 refine ⟨s1.heap.objs.size,[s1.heap.objs.size],_,_,H1,rfl,I1.kept (t':=s1.toks) fun b o e=>JR _ e,nH _ l t,⟨_,Qai _ rfl,rfl,rfl⟩,fun b hb=>?_,q⟩
 have e:b=s1.heap.objs.size:=by simpa using hb
 subst e
 exact I1.kW (XA _) (I1.bg.fresh (XA _))
end
theorem E8 {xs:List V} {g:TG} {tb:TS} {D:Ends} {σ:St} {H:Hp} (Pv:Nat->St->Hp->Prop) (h0:Pv 0 σ H)
  (hs: ∀i x σ H,xs[i]? =some x->Pv i σ H->g x σ H fun σ2 H2=>tb { D with nx:=Pv (i+1),ct:=Pv (i+1),bk:=D.nx } σ2 H2) (hd: ∀σ H,Pv xs.length σ H->D.nx σ H):
  ∃W:Nat->Nat->St->Hp->Prop,(∃m,W 0 m σ H)/\ ∀i m σ H,W i m σ H->
   ((Hq xs).stop i H/\D.nx σ H)\/((Hq xs).go i H/\ ∃N:St->Hp->Prop,(∀σ' H',N σ' H'-> ∃m',m'<m/\W (i+1) m' σ' H')/\ ∀x H',(Hq xs).yg i H x H'->g x σ H' fun σ2 H2=>tb { D with nx:=N,ct:=N,bk:=D.nx } σ2 H2):=by
 refine ⟨fun i m σ H=>m=xs.length - i/\i<=xs.length/\Pv i σ H,⟨xs.length,by simp,Qaq _,h0⟩,?_⟩
 rintro i m σ H ⟨rfl,hi,p⟩
 by_cases bW:i<xs.length
 ·refine .inr ⟨bW,Pv (i+1),fun σ' H' p'=>⟨xs.length - (i+1),by omega,rfl,bW,p'⟩,fun x H' y=>?_⟩
  obtain ⟨e,y⟩:=y
  subst e
  exact hs i x σ _ y p
 ·have e:i=xs.length:=by omega
  subst e
  exact .inl ⟨XA _,hd σ H p⟩
theorem rR {J:It} {n:Nat} {xs:Nat->V->Prop} {σc:St} {g:TG} {tc:TT} {te:TE} {Q:VK} {H1:Hp} (Pv:Nat->List V->Hp->Prop) (hn:n<sizeLine) (ZF: ∀i acc H,i<n->Pv i acc H->J.go i H) (Nr: ∀acc H,Pv n acc H->J.stop n H)
  (hy: ∀i acc H x H',i<n->Pv i acc H->J.yg i H x H'->H'=H/\xs i x) (h0:Pv 0 [] H1)
  (hs: ∀(i:Nat) (x:V) (acc:List V) (H:Hp) (Nx:List V->Hp->Prop),i<n->xs i x->acc.length<=i->Pv i acc H->(∀dP H',dP.length<=i+1->Pv (i+1) dP H'->Nx dP H')->
   g x σc H fun σ2 H2=>Wk σc σ2/\tc σ2 H2 fun b H3=>if b=true then te σ2 H3 fun v H4=>Nx (acc++[v]) H4 else Nx acc H3)
  (hd: ∀acc H D,acc.length<=n->Pv n acc H->H D=none->Q (.ref D) (upd H D (.lst acc))):qu J σc g tc te Q H1:=by
 refine ⟨fun i m acc H=>m=n - i/\i<=n/\acc.length<=i/\Pv i acc H,⟨n,by simp,Qaq _,XA _,h0⟩,?_⟩
 rintro i m acc H ⟨rfl,hi,hl,p⟩
 refine ⟨by omega,?_⟩
 by_cases bW:i<n
 ·refine .inr ⟨ZF i acc H bW p,fun x H' y=>?_⟩
  obtain ⟨rfl,y2⟩:=hy i acc H x H' bW p y
  exact hs i x acc _ (fun dP H'=> ∃m',m'<n - i/\(m'=n - (i+1)/\i+1<=n/\dP.length<=i+1/\Pv (i+1) dP H')) bW y2 hl p fun dP H' h1 h2=>⟨n - (i+1),by omega,rfl,bW,h1,h2⟩
 ·have e:i=n:=by omega
  subst e
  exact .inl ⟨Nr acc H p,fun D hD=>hd acc H D hl p hD⟩
theorem gH {xs:List V} {σc:St} {g:TG} {tc:TT} {te:TE} {Q:VK} {H1:Hp} (Pv:Nat->List V->Hp->Prop) (hn:xs.length<sizeLine) (h0:Pv 0 [] H1)
  (hs: ∀(i:Nat) (x:V) (acc:List V) (H:Hp) (Nx:List V->Hp->Prop),i<xs.length->xs[i]? =some x->acc.length<=i->Pv i acc H->(∀dP H',dP.length<=i+1->Pv (i+1) dP H'->Nx dP H')->
   g x σc H fun σ2 H2=>Wk σc σ2/\tc σ2 H2 fun b H3=>if b=true then te σ2 H3 fun v H4=>Nx (acc++[v]) H4 else Nx acc H3)
  (hd: ∀acc H D,acc.length<=xs.length->Pv xs.length acc H->H D=none->Q (.ref D) (upd H D (.lst acc))):qu (Hq xs) σc g tc te Q H1:=
 rR (xs:=fun i x=>xs[i]? =some x) Pv hn (fun i _ _ h _=>h) (fun _ _ _=>XA _) (fun i _ H x H' _ _ y=>y) h0 hs hd
theorem Cb {lo:Int} {n:Nat} {σc:St} {g:TG} {tc:TT} {te:TE} {Q:VK} {H1:Hp} (Pv:Nat->List V->Hp->Prop) (hn:n<sizeLine) (h0:Pv 0 [] H1)
  (hs: ∀(i:Nat) (acc:List V) (H:Hp) (Nx:List V->Hp->Prop),i<n->acc.length<=i->Pv i acc H->(∀dP H',dP.length<=i+1->Pv (i+1) dP H'->Nx dP H')->
   g (.int (lo+i)) σc H fun σ2 H2=>Wk σc σ2/\tc σ2 H2 fun b H3=>if b=true then te σ2 H3 fun v H4=>Nx (acc++[v]) H4 else Nx acc H3)
  (hd: ∀acc H D,acc.length<=n->Pv n acc H->H D=none->Q (.ref D) (upd H D (.lst acc))):qu (Hb lo n) σc g tc te Q H1:=
 rR (xs:=fun i x=>x= .int (lo+i)) Pv hn (fun i _ _ h _=>h) (fun _ _ _=>XA _) (fun i _ H x H' _ _ y=>y) h0 (fun i x acc H Nx h1 h2=>by subst h2;exact hs i acc H Nx h1) hd
theorem qA {K:PySem.W.Frag} {a:Addr} {xs:List V} {σc:St} {g:TG} {tc:TT} {te:TE} {Q:VK} {H1:Hp} (Pv:Nat->List V->Hp->Prop) (hn:xs.length<sizeLine) (hl: ∀i acc H,Pv i acc H->aN K H a xs) (h0:Pv 0 [] H1)
  (hs: ∀(i:Nat) (x:V) (acc:List V) (H:Hp) (Nx:List V->Hp->Prop),i<xs.length->xs[i]? =some x->acc.length<=i->Pv i acc H->(∀dP H',dP.length<=i+1->Pv (i+1) dP H'->Nx dP H')->
   g x σc H fun σ2 H2=>Wk σc σ2/\tc σ2 H2 fun b H3=>if b=true then te σ2 H3 fun v H4=>Nx (acc++[v]) H4 else Nx acc H3)
  (hd: ∀acc H D,acc.length<=xs.length->Pv xs.length acc H->H D=none->Q (.ref D) (upd H D (.lst acc))):qu (Mi K a) σc g tc te Q H1:=
 rR (xs:=fun i x=>xs[i]? =some x) Pv hn (fun i acc H h p=>⟨xs,xs[i],hl i acc H p,by simp[h]⟩) (fun acc H p=>⟨xs,hl _ acc H p,XA _⟩) (fun i acc H x H' h p y=>⟨y.1,y.2 xs (hl i acc H p)⟩) h0 hs hd
def E9 (c:TT) (tb:TS):TS:=fun D σ H=> ∃W:Nat->St->Hp->Prop,(∃m,W m σ H)/\ ∀m σ H,W m σ H->
 c σ H fun b H1=>if b=true then tb { D with nx:=fun σ' H'=> ∃m',m'<m/\W m' σ' H',ct:=fun σ' H'=> ∃m',m'<m/\W m' σ' H',bk:=D.nx } σ H1 else D.nx σ H1
theorem lp {X:Cx} {c:Expr} {body:List Stmt} {tc:TT} {tb:TS} {pos:Pos} (hp:PassesOwn (model X.prog X.w) X.A X.env X.xe) (hc:PT X c tc) (hb:kN X body tb):PS X (.While c body [] pos) (E9 tc tb):=by
 intro pins s σ H D I h
 obtain ⟨W,⟨m0,w0⟩,turn⟩:=h
 refine wpAny_While (codeAny_whileLoop (fun n s'=> ∃σ' H',Inv X pins σ' H' s'/\W n σ' H') ?_ m0 ⟨σ,H,I,w0⟩)
 rintro n s1 ⟨σ1,H1,I1,w1⟩
 refine wpAny_passesOwn hp (bN (hc pins s1 σ1 H1 _ I1 (turn n σ1 H1 w1)) fun b s2 ⟨H2,I2,q2⟩=>?_)
 cases b with
 | true=>
  rw[if_pos rfl]at q2 ⊢
  refine wpAny_passesOwn hp (bN (hb pins s2 σ1 H2 _ I2 q2) fun f s3 q3=>?_)
  cases f with
  | next=>
   obtain ⟨σ3,H3,I3,m',hm,w3⟩:=q3
   exact ⟨m',hm,σ3,H3,I3,w3⟩
  | cont=>
   obtain ⟨σ3,H3,I3,m',hm,w3⟩:=q3
   exact ⟨m',hm,σ3,H3,I3,w3⟩
  | brk=>exact q3
  | ret v=>exact q3
 | false=>
  rw[if_neg Qaj]at q2 ⊢
  exact wpAny_execs_nil ⟨σ1,H2,I2,q2⟩
noncomputable def jS (X:Cx) (scope:Scope):Bool:=(scope.names.all fun y=>y.2 != .cell)&&(scope.kind== .function)&&(scope.names.all fun y=>y.2 != .free||X.env.kindOf y.1==some .cell||X.env.kindOf y.1==some .free)&&(scope.names.all fun y=>y.2 != .local||scope.names.lookup y.1==some .local)
theorem ie {X:Cx} {scope:Scope} (h:jS X scope=true):(∀y∈scope.names,y.2≠ .cell)/\scope.kind= .function/\(∀y∈scope.names,y.2= .free->X.env.kindOf y.1=some .cell\/X.env.kindOf y.1=some .free)/\(∀x∈scope.names,x.2= .local->scope.names.lookup x.1=some .local):=by
 unfold jS at h
 simp only[Qcg]at h
 obtain ⟨⟨⟨h1,h2⟩,h3⟩,h4⟩:=h
 refine ⟨fun y hy e=>?_,by simpa using h2,fun y hy e=>?_,fun y hy e=>?_⟩
 ·have:=Qcf.mp h1 y hy
  rw[e]at this;simp at this
 ·have:=Qcf.mp h3 y hy
  rw[e]at this
  simpa using this
 ·have:=Qcf.mp h4 y hy
  rw[e]at this
  simpa using this
theorem iN {X:Cx} {tg iter elt:Expr} {ifs:List Expr} {scope:Scope} {pos:Pos} {wi:TI} {g:TG} {tc:TT} {te:TE} (Nc:List Str) (ix:List (Option Nat)) (hi:PI X tg iter wi) (mU:gG X scope Nc ix)
  (hG: ∀C s H fp,PG (aQ X scope C Nc s H fp) tg g) (hT: ∀C s H fp,PF (aQ X scope C Nc s H fp) ifs tc) (hE: ∀C s H fp,PE (aQ X scope C Nc s H fp) elt te) (bg:jS X scope=true:=by rfl) (dX:X.calm=true:=by rfl)
  (hs: ∀x,foldedSetIterable iter X.env x=pure x:=by intro _;rfl):PE X (.ListComp elt [⟨tg,iter,ifs,0⟩] scope pos) (ke wi ix g tc te):=
 let ⟨h1,h2,h3,h4⟩:=ie bg
 E3 Nc ix hi dX mU h1 h2 h3 h4 hG hT hE hs
theorem nI {X:Cx} {i:Nat} {x:Str} {tg iter elt:Expr} {ifs:List Expr} {scope:Scope} {pos B4 pos':Pos} {wi:TI} {g:TG} {tc:TT} {te:TE} (Nc:List Str) (ix:List (Option Nat)) (hN:X.N.Nodup) (So:X.N[i]? =some x) (hx:Loc X.env.scope x)
  (hi:PI X tg iter wi) (mU:gG X scope Nc ix)
  (hG: ∀C s H fp,PG (aQ X scope C Nc s H fp) tg g) (hT: ∀C s H fp,PF (aQ X scope C Nc s H fp) ifs tc) (hE: ∀C s H fp,PE (aQ X scope C Nc s H fp) elt te)
  (Sr:swapsWith (.ListComp elt [⟨tg,iter,ifs,0⟩] scope pos) (some (.Name x pos')) B4.line X.env=pure true:=by rfl) (bg:jS X scope=true:=by rfl) (dX:X.calm=true:=by rfl)
  (hs: ∀x,foldedSetIterable iter X.env x=pure x:=by intro _;rfl) (hf:X.fn x=true\/X.env.scope.names.lookup x=some .local:=by first | exact .inl rfl | exact .inr rfl | assumption):
  PS X (.Assign [.Name x pos'] (.ListComp elt [⟨tg,iter,ifs,0⟩] scope pos) B4) (zL (ke wi ix g tc te) (j7 i)):=
 let ⟨h1,h2,h3,h4⟩:=ie bg
 E4 Nc ix hN So hx Sr hi dX mU h1 h2 h3 h4 hG hT hE hs hf
section
variable {X:Cx}
def Sw:R2:=fun x y H Q=> ∃a b,x= .str (S a)/\y= .str (S b)/\Q (.bl (decide (a=b))) H
def Sx:R2:=fun x y H Q=> ∃a b,x= .str (S a)/\y= .str (S b)/\Q (.bl (!decide (a=b))) H
theorem iO:iK X (compareOp .Eq) Sw:=by
 intro pins s σ H x y v u Q I rx ry h
 obtain ⟨a,b,rfl,rfl,q⟩:=h
 exact Hf pins s σ H _ _ v u Q I rx ry ⟨rfl,by rw[Hm];exact q⟩
theorem rS:iK X (compareOp .NotEq) Sx:=by
 intro pins s σ H x y v u Q I rx ry h
 obtain ⟨a,b,rfl,rfl,q⟩:=h
 exact Hg pins s σ H _ _ v u Q I rx ry ⟨rfl,by rw[Hm];exact q⟩
theorem Hr {i j:Int}:decide (V.int i=V.int j)=decide (i=j):=by
 by_cases h:i=j
 ·subst h;simp
 ·rw[decide_eq_false h,decide_eq_false]
  intro q
  exact h (V.int.inj q)
theorem lq:iK X (compareOp .Eq) (EL fun i j=> .bl (decide (i=j))):=by
 intro pins s σ H x y v u Q I rx ry h
 obtain ⟨a,b,rfl,rfl,q⟩:=h
 exact Hf pins s σ H _ _ v u Q I rx ry ⟨rfl,by rw[Hr];exact q⟩
theorem J0:iK X (compareOp .NotEq) (EL fun i j=> .bl (!decide (i=j))):=by
 intro pins s σ H x y v u Q I rx ry h
 obtain ⟨a,b,rfl,rfl,q⟩:=h
 exact Hg pins s σ H _ _ v u Q I rx ry ⟨rfl,by rw[Hr];exact q⟩
end
section
variable {X:Cx} {tg:Expr}
theorem aO (K:PySem.W.Frag) (h:X.K=K):JG X (M7 K):=by subst h;exact EU
theorem yB (K:PySem.W.Frag) (h:X.K=K):JG X (M8 K):=by subst h;exact JH
def Nt (K:PySem.W.Frag):List V->Hp->VK->Prop:=fun xs H Q=> ∃p ys,xs=[.ref p]/\(aN K H p ys\/cU K H p ys)/\Q (.int ys.length) H
theorem aw (K:PySem.W.Frag) (h:X.K=K):cF X (.builtin "len") (Nt K):=by subst h;exact rF
theorem uk (K:PySem.W.Frag) (h:X.K=K):wN X "str.join" (B_ K):=by subst h;exact Ca
def yC (K:PySem.W.Frag):List V->Hp->VK->Prop:=fun xs H Q=> ∃p ys,xs=[.ref p]/\(aN K H p ys\/cU K H p ys)/\ ∀l,H l=none->Q (.ref l) (upd H l (.lst ys))
theorem pG (K:PySem.W.Frag) (h:X.K=K):cF X (.type "list") (yC K):=by subst h;exact rH
theorem gI (K:PySem.W.Frag) (h:X.K=K):M6 X (M9 K):=by subst h;exact EV
theorem iP (K:PySem.W.Frag) (h:X.K=K) {l:Expr} {tl:TE} (hl:PE X l tl):PI X tg l (Hc K tl):=by subst h;exact EJ hl
theorem rU (K:PySem.W.Frag) (h:X.K=K) {l:Expr} {tl:TE} (hl:PE X l tl):PI X tg l (MT K tl):=by subst h;exact Jt hl
end
section
variable {X:Cx} {o e:Expr} {es:List Expr} {to:TE} {t:TA} {name:Str} {apos cV:Pos} {T id:String} {r:V->List V->Hp->VK->Prop}
theorem yD (K:PySem.W.Frag) (hK:X.K=K) (pa:PlainAttrs T) (slot:Slot T name id) (Eg:typeOf (.builtin id)=pure (.type "method_descriptor")) (hm:wN X id r) (ho:PE X o to)
  (nk:attributeBase o name X.env (eval o X.env)=eval o X.env:=by rfl) (jC:(apos.endLine==cV.line)=true:=by rfl):PE X (.Call (.Attribute o name apos) [] [] cV) (M_ K T r to):=by
 subst hK
 exact JL pa slot Eg hm ho nk jC
theorem bD (K:PySem.W.Frag) (hK:X.K=K) (pa:PlainAttrs T) (slot:Slot T name id) (Eg:typeOf (.builtin id)=pure (.type "method_descriptor")) (hm:wN X id r) (ho:PE X o to) (ha:PA X (e::es) t)
  (nk:attributeBase o name X.env (eval o X.env)=eval o X.env:=by rfl)
  (BW:((backTo cV (starEach (e::es) X.env)).all (fun x=>!x.1)&&(backToKw cV (keywordEach [] X.env)).all (fun x=>x.1.isSome)
   &&decide ((e::es).length+([]:List Keyword).length+(if ([]:List Keyword).isEmpty then 0 else 1)<30))=true:=by rfl)
  (jC:(apos.endLine==cV.line)=true:=by rfl) (hs:starEach (e::es) X.env=(false,eval e X.env)::starEach es X.env:=by rfl) (wQ:(backTo cV (starEach es X.env)).any (·.1)=false:=by rfl):
  PE X (.Call (.Attribute o name apos) (e::es) [] cV) (Sa K T r to t):=by
 subst hK
 exact Na pa slot Eg hm ho ha nk BW jC hs wQ
end
mutual
inductive nJ (K:PySem.W.Frag) (H:Hp):V->PyData->Prop
 | cK:nJ K H .cK .none
 | bl (b:Bool):nJ K H (.bl b) (.bool b)
 | int (i:Int):nJ K H (.int i) (.int i)
 | str (x:Str):nJ K H (.str x) (.str x)
 | lst {a:Addr} {xs:List V} {ds:List PyData} (h:aN K H a xs) (r:gz K H xs ds):nJ K H (.ref a) (.list ds)
 | tup {a:Addr} {xs:List V} {ds:List PyData} (h:cU K H a xs) (r:gz K H xs ds):nJ K H (.ref a) (.tuple ds)
inductive gz (K:PySem.W.Frag) (H:Hp):List V->List PyData->Prop
 | nil:gz K H [] []
 | cons {x:V} {xs:List V} {d:PyData} {ds:List PyData} (h:nJ K H x d) (r:gz K H xs ds):gz K H (x::xs) (d::ds)
end
section
variable {X:Cx} {pins:List (Addr×Obj)} {σ:St} {H:Hp} {s:Shared}
mutual
theorem nJ.reads (I:Inv X pins σ H s): ∀{x:V} {d:PyData} {u:Value},nJ X.K H x d->RelV x u-> ∃as,Reads s.heap u d as
 | _,_,u, .cK,r=>by cases (show u=Value.none from r);exact ⟨_, .none⟩
 | _,_,u, .bl b,r=>by cases (show u=Value.bool b from r);exact ⟨_, .bool b⟩
 | _,_,u, .int i,r=>by obtain ⟨t,rfl⟩:=r;exact ⟨_, .int i t⟩
 | _,_,u, .str x,r=>by obtain ⟨t,rfl⟩:=r;exact ⟨_, .str x t⟩
 | _,_,u, .lst (a:=a) h q,r=>by
  cases (show u=Value.ref a from r)
  obtain ⟨aD,rv,pl,_⟩:=I.list h
  obtain ⟨as,ra⟩:=gz.reads I q rv
  obtain ⟨o,ho,hc,n,hd⟩:=pl.isList
  exact ⟨_, .list ho hc hd (by simpa using ra)⟩
 | _,_,u, .tup (a:=a) h q,r=>by
  cases (show u=Value.ref a from r)
  obtain ⟨aD,rv,pl,_⟩:=I.tuple h
  obtain ⟨as,ra⟩:=gz.reads I q rv
  obtain ⟨o,ho,hc,n,hd⟩:=pl
  exact ⟨_, .tuple ho hc hd (by simpa using ra)⟩
theorem gz.reads (I:Inv X pins σ H s): ∀{xs:List V} {ds:List PyData} {us:List Value},gz X.K H xs ds->Vals xs us-> ∃as,ReadsAll s.heap us ds as
 | _,_,us, .nil,r=>by cases r;exact ⟨_, .nil⟩
 | _,_,us, .cons h q,r=>by
  cases r with
  | cons r1 r2=>
   obtain ⟨as,ra⟩:=nJ.reads I h r1
   obtain ⟨bs,rb⟩:=gz.reads I q r2
   exact ⟨_, .cons ra rb⟩
end
mutual
theorem nJ.noDict {K:PySem.W.Frag}: ∀{x:V} {d:PyData},nJ K H x d->d.hasDict=false
 | _,_, .cK=>rfl
 | _,_, .bl b=>rfl
 | _,_, .int i=>rfl
 | _,_, .str x=>rfl
 | _,_, .lst h q=>by show PyData.hasDictAll _=false;exact gz.noDict q
 | _,_, .tup h q=>by show PyData.hasDictAll _=false;exact gz.noDict q
theorem gz.noDict {K:PySem.W.Frag}: ∀{xs:List V} {ds:List PyData},gz K H xs ds->PyData.hasDictAll ds=false
 | _,_, .nil=>rfl
 | _,_, .cons h q=>by
  show (PyData.hasDict _||PyData.hasDictAll _)=false
  rw[nJ.noDict h,gz.noDict q];rfl
end
end
section
variable {X:Cx}
def Sy (K:PySem.W.Frag):R2:=fun x y H Q=> ∃dx dy,nJ K H x dx/\nJ K H y dy/\(dx.canLay0=true/\dy.canLay0=true)/\dx.depth<=60/\Q (.bl (!PyData.eqv dx dy)) H
theorem jT {k:Nat} (K:PySem.W.Frag) (h:X.K=K) (hr:cj k X.A):iK X (compareOp .NotEq) (Sy K):=by
 subst h
 intro pins s σ H x y v u Q I rx ry h
 obtain ⟨dx,dy,h1,h2,⟨h3,h4⟩,h5,q⟩:=h
 obtain ⟨as,ra⟩:=h1.reads I rx
 obtain ⟨bs,rb⟩:=h2.reads I ry
 have hu:=hr.units
 exact SeqAt.compareNe_reads ra rb h3 h4 (by omega) ⟨.bl _,H,I,rfl,q⟩
theorem dN (K:PySem.W.Frag) (h:X.K=K) {es:List Expr} {k:Nat} {t:Ha} {n:Nat} {pos:Pos} (hc:X.calm=true) (hs:MN X es t)
  (hn:(assignEach es X.env).length=n:=by rfl) (EI:(assignEach es X.env).findIdx? (·.1)=none:=by rfl):PG X (.Tuple es k pos) (MQ K n t):=by
 subst h
 exact Jq hc hs hn EI
end
noncomputable def J3 (a b:List Nat):List Nat:=if b<a then b else a
noncomputable def yE:List Nat->List (List Nat)->List Nat
 | a,[]=>a
 | a,b::r=>yE (J3 a b) r
section
variable {X:Cx}
end
section
variable {X:Cx}
theorem Cc (K:PySem.W.Frag) (h:X.K=K):iK X (compareOp .In) (Xs K false):=by subst h;exact zS
structure rV (k n:Nat) (d:PyData):Prop where
 lv:d.leavesShort 13=true
 sh:d.showable=true
 ly:d.canLay0=true
 dp:d.depth<=k
 wt:d.weight<=n
structure lA (k n:Nat) (ds:List PyData):Prop where
 lv:PyData.leavesShortAll 13 ds=true
 sh:PyData.showableAll ds=true
 ly:PyData.canLayAll0 ds=true
 dp:PyData.depthAll ds<=k
 wt:PyData.weightAll ds<=n
theorem rV.str {k n:Nat} {l:List Nat} (h: ∀c∈l,c<128) (hn:l.length<=n):rV k n (.str (S l)):=by
 refine ⟨?_,rfl,?_,Qaq _,by show (S l).cps.size<=n;rw[jQ];exact hn⟩
 ·show ((S l).cps.toList.all fun c=>decide (c<16 ^ 8))=true
  rw[cX,Qcf]
  intro c hc
  have:=h c hc
  exact decide_eq_true (by omega)
 ·show PyData.strOk (S l)=true
  unfold PyData.strOk
  rw[Array.all_eq_true_iff_forall_mem]
  intro c hc
  have:c∈l:=by simpa [S]using hc
  have:=h c this
  simp;omega
theorem rV.int {k n:Nat} {i:Int} (h:i.natAbs<10 ^ 12) (hn:40<=n):rV k n (.int i):=by
 have hl:i.natAbs.log2<40:=by
  by_cases z:i.natAbs=0
  ·rw[z];decide
  ·rw[Nat.log2_lt z]
   exact Nat.lt_trans h (by decide)
 refine ⟨?_,?_,rfl,Qaq _,?_⟩
 ·show decide ((PyData.shown (.int i)).length<=13)=true
  exact decide_eq_true (PyData.shown_int_le h)
 ·show decide (i.natAbs.log2<1920)=true
  exact decide_eq_true (by omega)
 ·show (if i==0 then 0 else i.natAbs.log2+1)<=n
  split<;>omega
theorem lA.nil {k n:Nat}:lA k n []:=⟨rfl,rfl,rfl,Qaq _,Qaq _⟩
theorem lA.cons {k a b n:Nat} {x:PyData} {xs:List PyData} (h:rV k a x) (t:lA k b xs) (hn:a+1+b<=n):lA k n (x::xs):=by
 refine ⟨?_,?_,?_,?_,?_⟩
 ·show (PyData.leavesShort 13 x&&PyData.leavesShortAll 13 xs)=true;rw[h.lv,t.lv];rfl
 ·show (PyData.showable x&&PyData.showableAll xs)=true;rw[h.sh,t.sh];rfl
 ·show (PyData.canLay0 x&&PyData.canLayAll0 xs)=true;rw[h.ly,t.ly];rfl
 ·show max (PyData.depth x) (PyData.depthAll xs)<=k;exact Nat.max_le.mpr ⟨h.dp,t.dp⟩
 ·show PyData.weight x+1+PyData.weightAll xs<=n
  have:=h.wt;have:=t.wt;omega
theorem lA.all {k a:Nat}: ∀{xs:List PyData} {n:Nat},(∀x∈xs,rV k a x)->(a+1)*xs.length<=n->lA k n xs
 | [],_,_,_=> .nil
 | x::xs,n,h,hn=> .cons (b:=(a+1)*xs.length) (h x ZC) (lA.all (fun y hy=>h y (Zz _ hy)) (XA _)) (by rw[Zy,Nat.mul_succ]at hn;omega)
theorem rV.lst {k n:Nat} {ds:List PyData} (h:lA k n ds):rV (k+1) n (.list ds):=⟨h.lv,h.sh,h.ly,Qcz h.dp,h.wt⟩
theorem rV.tup {k n:Nat} {ds:List PyData} (h:lA k n ds):rV (k+1) n (.tuple ds):=⟨h.lv,h.sh,h.ly,Qcz h.dp,h.wt⟩
theorem rV.fits {k n:Nat} {d:PyData} (h:rV k n d) (hn:n<=2 ^ 20):d.shown.length<=sizeLine:=PyData.shown_fits (by decide) (by decide) h.lv (Qa1 h.wt hn)
noncomputable def RT (d:PyData):List Nat:=d.shown.cps.toList
def J4 (K:PySem.W.Frag):List V->Hp->VK->Prop:=fun xs H Q=> ∃v d,xs=[v]/\nJ K H v d/\rV 40 100000 d/\Q (.str (S (RT d))) H
theorem ig {k:Nat} (K:PySem.W.Frag) (h:X.K=K) (hr:cj k X.A):cF X (.builtin "repr") (J4 K):=by
 subst h
 intro pins s σ H xs us Q I r h
 obtain ⟨v,d,rfl,h1,h2,q⟩:=h
 have hz:=h2.fits (by decide)
 obtain ⟨u,rfl,ru⟩:=vals1 r
 unfold RT at q
 rw[<-JV]at q
 have Hs: ∀(a:Addr) (d:PyData),nJ X.K H (.ref a) d->rV 40 100000 d->d.shown.length<=sizeLine->Q (.str d.shown) H->u=Value.ref a->wpAny (model X.prog X.w) X.A (call (.builtin "repr") [u]) (EP X pins σ Q) X.xe s:=by
  intro a d h1 h2 hz q e
  obtain ⟨as,ra⟩:=h1.reads I (show RelV (.ref a) u from e)
  subst e
  have hu:=hr.units
  have:=h2.dp
  exact repr_of_reads' (h₀:=s.heap) ra h2.sh (fun z=>by rw[h1.noDict]at z;cases z) hr.gd (by omega) (fun _ _ e=>e) (fun h' u tk hk=>⟨.str d.shown,H,I.kept (t':=tk) hk,⟨u,rfl⟩,q⟩) hz
 cases h1 with
 | cK=>cases (show u=Value.none from ru);exact P.repr_of_none ⟨.str _,H,I.tok _,⟨_,rfl⟩,q⟩
 | bl b=>cases (show u=Value.bool b from ru);exact P.repr_of_bool ⟨.str _,H,I.tok _,⟨_,rfl⟩,by cases b<;>exact q⟩
 | int i=>
  obtain ⟨t,rfl⟩:=ru
  exact P.repr_of_int (of_decide_eq_true h2.sh) ⟨.str _,H,I.tok _,⟨_,rfl⟩,q⟩
 | str x=>
  obtain ⟨t,rfl⟩:=ru
  exact P.repr_of_str ⟨.str _,H,I.tok _,⟨_,rfl⟩,q⟩ hz
 | lst h1 h3=>exact Hs _ _ (.lst h1 h3) h2 hz q ru
 | tup h1 h3=>exact Hs _ _ (.tup h1 h3) h2 hz q ru
end
section
variable {X:Cx}
end
section
variable {X:Cx} {pins:List (Addr×Obj)} {σ:St} {H:Hp} {s:Shared} {h':Heap}
theorem Inv.kf {t':Nat} {ch:List Addr} {T:Addr} {ob:HO} (I:Inv X pins σ H s) (k: ∀b o,b∉ch->s.heap.get? b=some o->h'.get? b=some o) (hf: ∀b∈ch,ju X pins H b)
  (hT:s.heap.objs.size<=T) (new:bK X.prog X.w (upd H T ob) h' T ob):Inv X pins σ (upd H T ob) { s with heap:=h',toks:=t' }:=by
 have hn:=I.bg.fresh hT
 have G7: ∀b u,H b=some u->b∉ch:=fun b u e z=>by rw[(hf b z).1]at e;cases e
 have neT: ∀b o,s.heap.get? b=some o->b≠T:=fun b o e z=>absurd (Qaf (Qac e) hT) (by rw[z];exact Qb1 _)
 refine I.step (g':=s.gens) (d':=s.drawn) (ch:=ch) (fun b hb=>?_) (fun b o _ _ hc e _=>k b o hc e) (fun b o _ _ hc e _=>⟨o.slots,k b o hc e⟩) (fun b o _ e n=>by rw[ao (neT b o e)];exact n)
  (fun b o hc e=>⟨o,k b o hc e⟩) (fun b xs e=>by rw[ao (ak e hn)];exact e) (fun b o u e=>by rw[ao (ak e hn)];exact e) (fun b ps e=>⟨#[],by rw[ao (ak e hn),e];simp⟩) (fun m hm=>?_) (fun b u e=>?_) I.bare
 ·obtain ⟨_,h2,_,h4,h5,h6⟩:=hf b hb
  exact ⟨h4,h2,h5,h6⟩
 ·obtain ⟨o,es,ep,ho,r⟩:=hm
  exact ⟨o,es,ep,k _ o (fun z=>(hf _ z).2.1 rfl) ho,r⟩
 ·by_cases hb:b=T
  ·subst hb;rw[af]at e;cases e;exact new
  ·rw[ao hb]at e
   refine (I.bg b u e).jt (fun c v hc q=>k c v ?_ q) (fun c q=>by rw[ao (ak q hn)];exact q) fun c xs q=>by rw[ao (ak q hn)];exact q
   rcases hc with z | z
   ·rw[z];exact G7 b u e
   ·exact G7 c _ z
theorem Inv.mW {t':Nat} {ch:List Addr} (I:Inv X pins σ H s) (k: ∀b o,b∉ch->s.heap.get? b=some o->h'.get? b=some o) (hf: ∀b∈ch,ju X pins H b):Inv X pins σ H { s with heap:=h',toks:=t' }:=by
 have G7: ∀b u,H b=some u->b∉ch:=fun b u e z=>by rw[(hf b z).1]at e;cases e
 refine I.step (g':=s.gens) (d':=s.drawn) (ch:=ch) (fun b hb=>?_) (fun b o _ _ hc e _=>k b o hc e) (fun b o _ _ hc e _=>⟨o.slots,k b o hc e⟩) (fun b o _ e n=>n)
  (fun b o hc e=>⟨o,k b o hc e⟩) (fun b xs e=>e) (fun b o u e=>e) (fun b ps e=>⟨#[],by rw[e];simp⟩) (fun m hm=>?_) (fun b u e=>?_) I.bare
 ·obtain ⟨_,h2,_,h4,h5,h6⟩:=hf b hb
  exact ⟨h4,h2,h5,h6⟩
 ·obtain ⟨o,es,ep,ho,r⟩:=hm
  exact ⟨o,es,ep,k _ o (fun z=>(hf _ z).2.1 rfl) ho,r⟩
 ·refine (I.bg b u e).jt (fun c v hc q=>k c v ?_ q) (fun c q=>q) fun c xs q=>q
  rcases hc with z | z
  ·rw[z];exact G7 b u e
  ·exact G7 c _ z
end
noncomputable def Mp (l:List Nat):It:=⟨fun i _=>i<l.length,fun i H x H'=> ∃T c,l[i]? =some c/\x= .ref T/\H T=none/\H'=upd H T (.tup [.int i, .str (S [c])]),fun i _=>l.length<=i⟩
theorem qB {prog:Program} {w:World} {A:Around} (hh:A.handled=none) (it:Addr) (x:Str) (t:Tok):
  Draws prog w A it [it] x.cps.size (fun i v=> ∃c u,x.cps[i]? =some c/\v= .str ⟨#[c]⟩ u) (fun i h=>h.IsStrIter it (strIterType x) x t i):=by
 by_cases ha:x.cps.all (· <128)=true
 ·have et:strIterType x="str_ascii_iterator":=by unfold strIterType;rw[if_pos ha]
  rw[et];exact Draws.strAscii hh it x t
 ·have et:strIterType x="str_iterator":=by unfold strIterType;rw[if_neg ha]
  rw[et];exact Draws.strWide hh it x t
theorem wY {P:Program} {w:World} {K:PySem.W.Frag} {elts:List Expr} {k:Nat} {pos:Pos} (e it:Addr) (yF:e≠it) (l:List Nat) (t:Tok):
  Turn P w K (.Tuple elts k pos) (Mp l) [e,it] e (fun i h=>i<=l.length/\(∃old,IsEnum h e it i old)/\h.IsStrIter it (strIterType (S l)) (S l) t i) where
 mem:=by simp
 obj:=fun i h st b hb=>by
  obtain ⟨_,⟨old,he⟩,o,ho,hc,hd⟩:=st
  rcases XB.mp hb with z | z
  ·rw[z];exact ⟨_,he,fun v z=>by cases z⟩
  ·rw[QB.mp z];exact ⟨o,ho,fun v z=>by rw[hd]at z;cases z⟩
 keep:=fun i h h' st kp=>by
  obtain ⟨h1,⟨old,he⟩,o,ho,r⟩:=st
  exact ⟨h1,⟨old,kp e (by simp) _ he⟩,o,kp it (by simp) o ho,r⟩
 item:=by
  intro X hP hw hK hc i pins s σ H E I hf st hg
  subst hP hw hK
  obtain ⟨_,dY,gF⟩:=st
  have D:=qB (prog:=X.prog) (w:=X.w) (A:=X.A.in1) (I.ok.hd hc) it (S l) t
  have W:=WalksT.enumerateD D e yF (by simpa using yF) (by simp)
  have hi:i<(S l).cps.size:=by rw[jQ];exact hg
  refine W.item i s _ _ hi ⟨dY,gF⟩ fun T vals h' tk Nu hT Cd um hk=>⟨_,rfl,?_⟩
  refine W.go elts k pos i T { s with heap:=h',toks:=tk } _ _ um fun h2 uo tT=>?_
  obtain ⟨tt,x,⟨c,u,Ce,rfl⟩,rfl⟩:=Nu
  have Eh:T∉[e,it]:=W.apart i T h' um
  have nK:h2.IsTuple T #[.int i tt, .str ⟨#[c]⟩ u]:=by
   obtain ⟨o,ho,r⟩:=Cd
   exact ⟨o,tT T o Eh ho,r⟩
  have hl:l[i]? =some c:=by simpa [S]using Ce
  refine ⟨.ref T,upd H T (.tup [.int i, .str (S [c])]),?_,rfl,⟨T,c,hl,rfl,I.bg.fresh hT,rfl⟩,⟨hg,uo.1,uo.2⟩,fun b hb=>?_⟩
  ·refine I.kf (t':=tk) (h':=h2) (fun b o hb y=>tT b o hb (hk b o hb y)) hf hT ?_
   exact ⟨by show 2<=sizeLine;decide,[.int i tt, .str ⟨#[c]⟩ u], .cons ⟨tt,rfl⟩ (.cons ⟨u,rfl⟩ .nil),nK⟩
  ·rw[ao (fun z:b=T=>Eh (z▸hb))];exact (hf b hb).1
 done:=by
  intro X hP hw hK hc i pins s σ H E I hf st hg
  subst hP hw hK
  obtain ⟨h1,dY,gF⟩:=st
  have e1:i=l.length:=Qdd h1 hg
  have D:=qB (prog:=X.prog) (w:=X.w) (A:=X.A.in1) (I.ok.hd hc) it (S l) t
  have W:=WalksT.enumerateD D e yF (by simpa using yF) (by simp)
  refine W.done s _ _ ?_ fun h' tk hk=>⟨rfl,I.mW (t':=tk) hk hf⟩
  rw[jQ, <-e1]
  exact ⟨dY,gF⟩
 self:=fun _ _ s _ _ st h=>by
  obtain ⟨_,⟨old,he⟩,_⟩:=st
  exact wpAny_pyIter_enum he h
def J5 (ta:TA):TI:=fun σ H R=>ta σ H fun vs H1=> ∃l,vs=[.str (S l)]/\R (Mp l) H1
theorem kg {X:Cx} {elts:List Expr} {k:Nat} {pos':Pos} {a:Expr} {ta:TA} {p pos:Pos} (hg:Gl X "enumerate") (hm:X.mg "enumerate"=none) (ha:PA X [a] ta) (hs:starEach [a] X.env=[(false,eval a X.env)]:=by rfl):PI X (.Tuple elts k pos') (.Call (.Name "enumerate" p) [a] [] pos) (J5 ta):=by
 intro pins s σ H R I h
 refine Call_ (gv I hg hm boot_enumerate (Qbw (bN (ha pos pins s σ H _ I h) fun us s1 ⟨vs,H1,I1,r1,q1⟩=>?_) hs rfl))
 obtain ⟨l,rfl,q⟩:=q1
 obtain ⟨u,rfl,t,rfl⟩:=vals1 r1
 refine call_enumerate_str fun h' he hit hsz hk=>?_
 refine wpAny_pyIter_enum he ?_
 refine ⟨s1.heap.objs.size+1,[s1.heap.objs.size+1,s1.heap.objs.size],_,_,H1,rfl,I1.kept (t':=s1.toks) hk,wY _ _ (Qd1 _) l t,⟨Qaq _,⟨_,he⟩,hit⟩,fun b hb=>?_,q⟩
 have gc:s1.heap.objs.size<=b:=by
  rcases XB.mp hb with z | z
  ·rw[z];exact Qco _
  ·rw[QB.mp z];exact XA _
 exact I1.kW gc (I1.bg.fresh gc)
theorem uq {l:List Nat} {g:TG} {tb:TS} {D:Ends} {σ:St} {H:Hp} (Pv:Nat->St->Hp->Prop) (h0:Pv 0 σ H)
  (hs: ∀i c σ H T,l[i]? =some c->Pv i σ H->H T=none->g (.ref T) σ (upd H T (.tup [.int i, .str (S [c])])) fun σ2 H2=>tb { D with nx:=Pv (i+1),ct:=Pv (i+1),bk:=D.nx } σ2 H2) (hd: ∀σ H,Pv l.length σ H->D.nx σ H):
  ∃W:Nat->Nat->St->Hp->Prop,(∃m,W 0 m σ H)/\ ∀i m σ H,W i m σ H->
   ((Mp l).stop i H/\D.nx σ H)\/((Mp l).go i H/\ ∃N:St->Hp->Prop,(∀σ' H',N σ' H'-> ∃m',m'<m/\W (i+1) m' σ' H')/\ ∀x H',(Mp l).yg i H x H'->g x σ H' fun σ2 H2=>tb { D with nx:=N,ct:=N,bk:=D.nx } σ2 H2):=by
 refine ⟨fun i m σ H=>m=l.length - i/\i<=l.length/\Pv i σ H,⟨l.length,by simp,Qaq _,h0⟩,?_⟩
 rintro i m σ H ⟨rfl,hi,p⟩
 by_cases bW:i<l.length
 ·refine .inr ⟨bW,Pv (i+1),fun σ' H' p'=>⟨l.length - (i+1),by omega,rfl,bW,p'⟩,fun x H' y=>?_⟩
  obtain ⟨T,c,hc,rfl,hn,rfl⟩:=y
  exact hs i c σ _ T hc p hn
 ·have e:i=l.length:=by omega
  subst e
  exact .inl ⟨XA _,hd σ H p⟩
section
variable {X:Cx}
theorem kh {ls:List (List Nat)}: ∀{aD:List Value},Vals (ls.map fun l=>V.str (S l)) aD->StrsAre aD (ls.map S):=by
 induction ls with
 | nil=>intro aD r;cases r;exact .nil
 | cons l ls ih=>
  intro aD r
  cases r with
  | cons r1 r2=>
   obtain ⟨t,rfl⟩:=r1
   exact .cons _ t (ih r2)
theorem mX: ∀{aD:List Value} {ss:List Str},StrsAre aD ss->Vals ((ss.map fun x=>x.cps.toList).map fun l=>V.str (S l)) aD
 | _,_, .nil=> .nil
 | _,_, .cons x t h=> .cons ⟨t,by rw[<-JV]⟩ (mX h)
theorem qC: ∀(p:Str) (r:List Str),risingS p r=true->(p::r).Pairwise fun a b=> ¬b.cps.toList<a.cps.toList
 | p,[],_=>Qbn _ _
 | p,x::r,h=>by
  have h':(!ltCps x.cps.toList p.cps.toList&&risingS x r)=true:=h
  rw[Qcg,ltCps_eq]at h'
  have h1: ¬x.cps.toList<p.cps.toList:=by simpa using h'.1
  have ih:=qC x r h'.2
  refine Qdt.mpr ⟨fun y hy=>?_,ih⟩
  rcases XB.mp hy with z | z
  ·rw[z];exact h1
  ·exact List.le_trans (show p.cps.toList<=x.cps.toList from h1) (show x.cps.toList<=y.cps.toList from Qc9 ih z)
theorem zY {ss:List Str} (h:sortedS ss=true):(ss.map fun x=>x.cps.toList).Pairwise fun a b=> ¬b<a:=by
 rw[Qb2]
 cases ss with
 | nil=>exact List.Pairwise.nil
 | cons x r=>exact qC x r h
def wZ (K:PySem.W.Frag):List V->Hp->VK->Prop:=fun xs H Q=> ∃(p:Addr) (ls:List (List Nat)),xs=[.ref p]/\aN K H p (ls.map fun l=>V.str (S l))/\ls.length<64/\ ∀(q:Addr) (J6:List (List Nat)),H q=none->J6.Perm ls->(J6.Pairwise fun a b=> ¬b<a)->Q (.ref q) (upd H q (.lst (J6.map fun l=>V.str (S l))))
theorem ki (K:PySem.W.Frag) (h:X.K=K):cF X (.builtin "sorted") (wZ K):=by
 subst h
 intro pins s σ H xs us Q I r h
 obtain ⟨p,ls,rfl,hq,hn,q⟩:=h
 obtain ⟨u,rfl,ru⟩:=vals1 r
 cases ru
 obtain ⟨aD,rv,pl,hz⟩:=I.list hq
 have hlen:aD.length=ls.length:=by rw[<-rv.length,kb]
 refine sorted_strs (l:=p) (vs:=aD) (ss:=ls.map S) pl.isList (kh rv) (by omega) fun out i9 h1 h2 h3=>?_
 obtain ⟨e,he⟩:=sortedAll_at s.heap aD out
 have jE:(i9.map fun x=>x.cps.toList).Perm ls:=by
  have:=h2.map fun x:Str=>x.cps.toList
  rw[Qbs]at this
  have e2:ls.map ((fun x:Str=>x.cps.toList) ∘ S)=ls:=by
   have: ∀l∈ls,((fun x:Str=>x.cps.toList) ∘ S) l=l:=fun l _=>cX l
   calc ls.map _=ls.map id:=Qcm this
    _=ls:=Qe1 ls
  rwa [e2]at this
 have ug:=jE.length_eq
 have ZG:(64:Nat)<sizeLine:=by decide
 have Sz:((i9.map fun x=>x.cps.toList).map fun l=>V.str (S l)).length<=sizeLine:=by rw[kb,ug];omega
 refine ⟨.ref (s.heap.objs.size+1),_,I.laid (t':=s.toks) (a:=s.heap.objs.size+1) (o:= .lst ((i9.map fun x=>x.cps.toList).map fun l=>V.str (S l))) (fun b o e=>sortedAll_old e) (Qco _) ⟨Sz,out.toList,e,mX h1,by simpa [seqObj]using he⟩,rfl,q _ _ (I.bg.fresh (Qco _)) jE (zY h3)⟩
end
section
variable {X:Cx}
theorem yG {ls:List (List Nat)} {l:List Nat} (h:ls.Perm (l.map fun c=>[c])): ∃l':List Nat,ls=l'.map (fun c=>[c])/\l'.Perm l:=by
 refine ⟨ls.flatten,?_,?_⟩
 ·have hs: ∀x∈ls, ∃c,x=[c]:=fun x hx=>by
   obtain ⟨c,_,e⟩:=Qa5.mp (h.mem_iff.mp hx)
   exact ⟨c,e.symm⟩
  clear h
  induction ls with
  | nil=>rfl
  | cons x ls ih=>
   obtain ⟨c,rfl⟩:=hs x ZC
   rw[Qcw,Qar, <-ih fun y hy=>hs y (Zz _ hy)]
   rfl
 ·have:=h.flatten
  have e:(l.map fun c=>[c]).flatten=l:=by
   clear h this
   induction l with
   | nil=>rfl
   | cons c l ih=>rw[ZD,Qcw,ih];rfl
  rwa [e]at this
theorem yH {l:List Nat} (h:(l.map fun c=>[c]).Pairwise fun a b=> ¬b<a):l.Pairwise fun a b=>a<=b:=by
 rw[Qb2]at h
 refine h.imp fun {a b} z=>?_
 by_cases y:a<=b
 ·exact y
 ·exact absurd (List.cons_lt_cons_iff.mpr (.inl (by omega))) z
end
section
variable {X:Cx}
theorem Cf {x:Str} {pos:Pos} (l:List Nat) (hg:Gl X x) (hm: ∃t,X.mg x=some (.str (S l) t)) (hd:(x==("__debug__":Str))=false:=by decide):PE X (.Name x pos) (tC (.str (S l))):=by
 obtain ⟨t,e⟩:=hm
 exact cT hg e ⟨t,rfl⟩ hd
end
section
variable {prog:Program} {w:World} {A:Around} {E:Value->Shared->Prop} {s:Shared}
theorem w5 {it tp:Addr} {j:Nat} {xs:Array Value} {y:Value} {Q:Value->Shared->Prop} (hi:s.heap.IsTupleIter it tp j) (ht:s.heap.IsTuple tp xs) (hy:xs[j]? =some y)
  (q: ∀h2,h2.IsTupleIter it tp (j+1)->Heap.SameBut it s.heap h2->Q y { s with heap:=h2 }):wpAny (model prog w) A (Builtin.SmallTypes.nextOf (.ref it)) Q E s:=by
 obtain ⟨oi,eo,ec,ed⟩:=id hi
 obtain ⟨ot,et,_,nt,dt⟩:=ht
 unfold Builtin.SmallTypes.nextOf
 refine wpAny_bind (wpAny_callSpecial?_slot (name:=Str.ofString "__next__") hi.typeIs F.slot_tuple_iterator_next (wpAny_call_entry F.slot_tuple_iterator_next hi.typeIs F.entry_tuple_iterator_next ?_ (F.args_tuple_iterator_next_1 _)))
 refine wpAny_bind (m:=field (.ref it) 0) (wpAny_field eo ed (x:= .ref tp) rfl ?_)
 show wpAny (model prog w) _ (if (Value.ref tp==Value.none)=true then _ else _) _ E s
 rw[if_neg (show ¬(Value.ref tp==Value.none)=true from Qaj)]
 refine wpAny_bind (m:=field (.ref it) 1) (wpAny_field eo ed (x:= .int j 0) rfl ?_)
 refine wpAny_bind (m:=seqItems? (.ref tp)) (wpAny_seqItems et dt ?_)
 simp only[Qcx,hy]
 refine wpAny_bind (wpAny_setField eo ed (by simp) (wpAny_pure ⟨y,rfl,wpAny_pure (q _ ⟨_,Qby _ eo (Obj.isFreed_of_fields (Obj.data_mapFields ed _)),(Obj.cls_mapFields ..).trans ec,by rw[Obj.data_mapFields ed];simp[rawInt]⟩ (Heap.SameBut.update ..))⟩))
theorem zZ {it tp:Addr} {j:Nat} {xs:Array Value} {Q:Value->Shared->Prop} (hh:A.handled=none) (hi:s.heap.IsTupleIter it tp j) (ht:s.heap.IsTuple tp xs) (hy:xs[j]? =none)
  (q: ∀h2 e,Heap.ExtBut it s.heap h2->(∃o,h2.get? e=some o/\o.cls= .type "StopIteration")->E (.ref e) { s with heap:=h2 }):wpAny (model prog w) A (Builtin.SmallTypes.nextOf (.ref it)) Q E s:=by
 obtain ⟨oi,eo,ec,ed⟩:=id hi
 obtain ⟨ot,et,_,nt,dt⟩:=ht
 unfold Builtin.SmallTypes.nextOf
 refine wpAny_bind (wpAny_callSpecial?_slot (name:=Str.ofString "__next__") hi.typeIs F.slot_tuple_iterator_next (wpAny_call_entry F.slot_tuple_iterator_next hi.typeIs F.entry_tuple_iterator_next ?_ (F.args_tuple_iterator_next_1 _)))
 refine wpAny_bind (m:=field (.ref it) 0) (wpAny_field eo ed (x:= .ref tp) rfl ?_)
 show wpAny (model prog w) _ (if (Value.ref tp==Value.none)=true then _ else _) _ E s
 rw[if_neg (show ¬(Value.ref tp==Value.none)=true from Qaj)]
 refine wpAny_bind (m:=field (.ref it) 1) (wpAny_field eo ed (x:= .int j 0) rfl ?_)
 refine wpAny_bind (m:=seqItems? (.ref tp)) (wpAny_seqItems et dt ?_)
 simp only[Qcx,hy]
 refine wpAny_bind (wpAny_rule (wpAny_bind (wpAny_setField eo ed (by simp) ?_)))
 refine wpAny_bind (m:=newExc (.type "StopIteration") []) ?_
 simp only[newExc,newTuple]
 refine wpAny_bind (wpAny_newObj_type (wpAny_bind (m:=firstArgMember _ _) (wpAny_of_eq (a:=Value.none) (by first | rfl | (simp only[firstArgMember];rfl)) (wpAny_newObj_type ?_ (by size_fits)))) (by size_fits))
 simp only[raiseNew]
 refine wpAny_bind (wpAny_handled ?_);first | rw[show A.in1.handled=none from hh] | rw[hh]
 exact wpAny_bind (wpAny_pure (wpAny_throw (q _ _ (((Heap.SameBut.update ..).extBut.push _).push _) ⟨_,Qai _ rfl,rfl⟩)))
theorem iQ (hh:A.handled=none) (it tp:Addr) (ne:tp≠it) (xs:Array Value):
  Draws prog w A it [it,tp] xs.size (fun i v=>xs[i]? =some v) (fun i h=>h.IsTupleIter it tp i/\h.IsTuple tp xs) where
 live:=fun _ _ z=>let ⟨o,e,_⟩:=z.1;⟨o,e⟩
 frame:=fun _ _ _ z k=>by
  obtain ⟨⟨o,e,r⟩,o2,e2,r2⟩:=z
  exact ⟨⟨o,k it (by simp) o e,r⟩,o2,k tp (by simp) o2 e2,r2⟩
 item:=fun i s Q E hi z q=>w5 z.1 z.2 (y:=xs[i]) (by simp[hi]) fun h2 z2 sb=>q _ h2 s.toks (by simp[hi]) ⟨z2,z.2.extBut sb.extBut ne⟩ sb
 done:=fun s Q E z q=>zZ hh z.1 z.2 (by simp) q
theorem uu (l:Addr) (items:Array Value) (n:Nat) (SA:Option Addr) (sl:Array (Option Value)):
  Meets (Builtin.«enumerate.__new__» ⟨[.type "enumerate", .ref l],[]⟩) (fun _ R s=>s.heap.get? l=some { cls:= .type "tuple",dict:=SA,data:= .seq items n,slots:=sl }/\
   R (.ok (.ret (.ref (s.heap.push { cls:= .type "tuple_iterator",data:= .fields #[.ref l, .int 0 0] }).objs.size)))
    { s with heap:=(s.heap.push { cls:= .type "tuple_iterator",data:= .fields #[.ref l, .int 0 0] }).push { cls:= .type "enumerate",data:= .fields #[.none, .bool false, .ref s.heap.objs.size,rawInt 0, .none, .none] } }):=
 .of_wp fun prog w A R s h=>by
  obtain ⟨hp,g,d,tk,os⟩:=s;obtain ⟨hl,q⟩:=h;have z9:=sub_enumerate
  have hT:Heap.IsTuple (Shared.heap ⟨hp,g,d,tk,os⟩) l items:=⟨_,hl,rfl,n,rfl⟩
  wp_walk using AutoSeq1.wpAny_loadPart' hl
  refine wpAny_stack_any fun st=>wpAny_pure ?_
  split
  ·rename_i c _ _ _ _ _
   cases (c==Value.type "enumerate")<;>(wp_walk using AutoSeq1.wpAny_loadPart' hl,wpAny_pyIter_tuple hT;exact ⟨_,rfl,q⟩)
  ·wp_walk using AutoSeq1.wpAny_loadPart' hl,wpAny_pyIter_tuple hT
   exact ⟨_,rfl,q⟩
theorem w6 {l:Addr} {items:Array Value} {Q:Value->Shared->Prop} (hL:s.heap.IsTuple l items)
  (h: ∀h',IsEnum h' (s.heap.objs.size+1) s.heap.objs.size 0 .none->h'.IsTupleIter s.heap.objs.size l 0->(∀b o,s.heap.get? b=some o->h'.get? b=some o)->Q (.ref (s.heap.objs.size+1)) { s with heap:=h' }):
  wpAny (model prog w) A (call (.type "enumerate") [.ref l]) Q E s:=by
 obtain ⟨⟨c,SA,dt,sl⟩,hl,hc,n,hd⟩:=hL
 cases (show c= .type "tuple" from hc)
 cases (show dt= .seq items n from hd)
 refine callType_new F.called_enumerate (by decide) (F.typeCall_enumerate_1 _) (F.newCall_enumerate_1 _) (fun ob=>F.args_object_init_2 ob _) F.entry_enumerate_new (uu l items n SA sl) ⟨hl,?_⟩
 have hz:(s.heap.push { cls:= .type "tuple_iterator",data:= .fields #[.ref l, .int 0 0] }).objs.size=s.heap.objs.size+1:=Qbx ..
 show _/\_
 rw[hz]
 have he:IsEnum ((s.heap.push { cls:= .type "tuple_iterator",data:= .fields #[.ref l, .int 0 0] }).push { cls:= .type "enumerate",data:= .fields #[.none, .bool false, .ref s.heap.objs.size,rawInt 0, .none, .none] }) (s.heap.objs.size+1) s.heap.objs.size 0 .none:=by
  have:=Qai (s.heap.push { cls:= .type "tuple_iterator",data:= .fields #[.ref l, .int 0 0] }) (o:={ cls:= .type "enumerate",data:= .fields #[.none, .bool false, .ref s.heap.objs.size,rawInt 0, .none, .none] }) rfl
  rwa [hz]at this
 exact ⟨⟨_,he,rfl⟩,h _ he ⟨_,JR _ (Qai _ rfl),rfl,rfl⟩ fun b o x=>JR _ (JR _ x)⟩
end
noncomputable def Cg (K:PySem.W.Frag) (a:Addr):It:=⟨fun i H=> ∃xs x,cU K H a xs/\xs[i]? =some x,fun i H x H'=> ∃T y,(∀xs,cU K H a xs->xs[i]? =some y)/\x= .ref T/\H T=none/\H'=upd H T (.tup [.int i,y]),fun i H=> ∃xs,cU K H a xs/\xs.length=i⟩
noncomputable def Ci (K:PySem.W.Frag) (a:Addr):It:=⟨fun i H=> ∃xs x,aN K H a xs/\xs[i]? =some x,fun i H x H'=> ∃T y,(∀xs,aN K H a xs->xs[i]? =some y)/\x= .ref T/\H T=none/\H'=upd H T (.tup [.int i,y]),fun i H=> ∃xs,aN K H a xs/\xs.length=i⟩
theorem w9 {P:Program} {w:World} {K:PySem.W.Frag} {elts:List Expr} {k:Nat} {pos:Pos} (e it a:Addr) (yF:e≠it) (Nv:a≠e) (Nw:a≠it):
  Turn P w K (.Tuple elts k pos) (Cg K a) [e,it] e (fun i h=>(∃old,IsEnum h e it i old)/\h.IsTupleIter it a i) where
 mem:=by simp
 obj:=fun i h st b hb=>by
  obtain ⟨⟨old,he⟩,o,ho,hc,hd⟩:=st
  rcases XB.mp hb with z | z
  ·rw[z];exact ⟨_,he,fun v z=>by cases z⟩
  ·rw[QB.mp z];exact ⟨o,ho,fun v z=>by rw[hd]at z;cases z⟩
 keep:=fun i h h' st kp=>by
  obtain ⟨⟨old,he⟩,o,ho,r⟩:=st
  exact ⟨⟨old,kp e (by simp) _ he⟩,o,kp it (by simp) o ho,r⟩
 item:=by
  intro X hP hw hK hc i pins s σ H E I hf st hg
  subst hP hw hK
  obtain ⟨dY,gF⟩:=st
  obtain ⟨xs,x,hq,hx⟩:=hg
  obtain ⟨aD,rv,p,hz⟩:=I.tuple hq
  obtain ⟨u0,hu,ru⟩:=rv.get hx
  have D:=iQ (prog:=X.prog) (w:=X.w) (A:=X.A.in1) (I.ok.hd hc) it a Nw aD.toArray
  have W:=WalksT.enumerateD D e yF (by simp;exact ⟨yF,Ne.symm Nv⟩) (by simp)
  have E_:i<aD.toArray.size:=by rw[Qad];exact (Xy.mp hu).1
  refine W.item i s _ _ E_ ⟨dY,gF,p⟩ fun T vals h' tk Nu hT Cd um hk=>⟨_,rfl,?_⟩
  refine W.go elts k pos i T { s with heap:=h',toks:=tk } _ _ um fun h2 uo tT=>?_
  obtain ⟨tt,x2,Fb,rfl⟩:=Nu
  have ex:x2=u0:=by
   rw[List.getElem?_toArray]at Fb
   exact Qae (Fb.symm.trans hu)
  subst ex
  have Eh:T∉[e,it]:=W.apart i T h' um
  have nK:h2.IsTuple T #[.int i tt,x2]:=by
   obtain ⟨o,ho,r⟩:=Cd
   exact ⟨o,tT T o Eh ho,r⟩
  refine ⟨.ref T,upd H T (.tup [.int i,x]),?_,rfl,⟨T,x,fun ys hy=>by rw[I.kR hy hq];exact hx,rfl,I.bg.fresh hT,rfl⟩,⟨uo.1,uo.2.1⟩,fun b hb=>?_⟩
  ·refine I.kf (t':=tk) (h':=h2) (fun b o hb y=>tT b o hb (hk b o hb y)) hf hT ?_
   exact ⟨by show 2<=sizeLine;decide,[.int i tt,x2], .cons ⟨tt,rfl⟩ (.cons ru .nil),nK⟩
  ·rw[ao (fun z:b=T=>Eh (z▸hb))];exact (hf b hb).1
 done:=by
  intro X hP hw hK hc i pins s σ H E I hf st hg
  subst hP hw hK
  obtain ⟨dY,gF⟩:=st
  obtain ⟨xs,hq,hx⟩:=hg
  obtain ⟨aD,rv,p,hz⟩:=I.tuple hq
  have hl:=rv.length
  have D:=iQ (prog:=X.prog) (w:=X.w) (A:=X.A.in1) (I.ok.hd hc) it a Nw aD.toArray
  have W:=WalksT.enumerateD D e yF (by simp;exact ⟨yF,Ne.symm Nv⟩) (by simp)
  refine W.done s _ _ ?_ fun h' tk hk=>⟨rfl,I.mW (t':=tk) hk hf⟩
  have e1:aD.toArray.size=i:=by rw[Qad];omega
  rw[e1]
  exact ⟨dY,gF,p⟩
 self:=fun _ _ s _ _ st h=>by
  obtain ⟨⟨old,he⟩,_⟩:=st
  exact wpAny_pyIter_enum he h
theorem w_ {P:Program} {w:World} {K:PySem.W.Frag} {elts:List Expr} {k:Nat} {pos:Pos} (e it a:Addr) (yF:e≠it) (Nv:a≠e) (Nw:a≠it):
  Turn P w K (.Tuple elts k pos) (Ci K a) [e,it] e (fun i h=>(∃old,IsEnum h e it i old)/\h.IsListIter it a i) where
 mem:=by simp
 obj:=fun i h st b hb=>by
  obtain ⟨⟨old,he⟩,o,ho,hc,hd⟩:=st
  rcases XB.mp hb with z | z
  ·rw[z];exact ⟨_,he,fun v z=>by cases z⟩
  ·rw[QB.mp z];exact ⟨o,ho,fun v z=>by rw[hd]at z;cases z⟩
 keep:=fun i h h' st kp=>by
  obtain ⟨⟨old,he⟩,o,ho,r⟩:=st
  exact ⟨⟨old,kp e (by simp) _ he⟩,o,kp it (by simp) o ho,r⟩
 item:=by
  intro X hP hw hK hc i pins s σ H E I hf st hg
  subst hP hw hK
  obtain ⟨dY,gF⟩:=st
  obtain ⟨xs,x,hq,hx⟩:=hg
  obtain ⟨aD,rv,p,hz⟩:=I.list hq
  obtain ⟨u0,hu,ru⟩:=rv.get hx
  have D:=Draws.list (prog:=X.prog) (w:=X.w) (A:=X.A.in1) (I.ok.hd hc) it a Nw aD.toArray
  have W:=WalksT.enumerateD D e yF (by simp;exact ⟨yF,Ne.symm Nv⟩) (by simp)
  have E_:i<aD.toArray.size:=by rw[Qad];exact (Xy.mp hu).1
  refine W.item i s _ _ E_ ⟨dY,gF,p.isList⟩ fun T vals h' tk Nu hT Cd um hk=>⟨_,rfl,?_⟩
  refine W.go elts k pos i T { s with heap:=h',toks:=tk } _ _ um fun h2 uo tT=>?_
  obtain ⟨tt,x2,Fb,rfl⟩:=Nu
  have ex:x2=u0:=by
   rw[List.getElem?_toArray]at Fb
   exact Qae (Fb.symm.trans hu)
  subst ex
  have Eh:T∉[e,it]:=W.apart i T h' um
  have nK:h2.IsTuple T #[.int i tt,x2]:=by
   obtain ⟨o,ho,r⟩:=Cd
   exact ⟨o,tT T o Eh ho,r⟩
  refine ⟨.ref T,upd H T (.tup [.int i,x]),?_,rfl,⟨T,x,fun ys hy=>by rw[I.m_ hy hq];exact hx,rfl,I.bg.fresh hT,rfl⟩,⟨uo.1,uo.2.1⟩,fun b hb=>?_⟩
  ·refine I.kf (t':=tk) (h':=h2) (fun b o hb y=>tT b o hb (hk b o hb y)) hf hT ?_
   exact ⟨by show 2<=sizeLine;decide,[.int i tt,x2], .cons ⟨tt,rfl⟩ (.cons ru .nil),nK⟩
  ·rw[ao (fun z:b=T=>Eh (z▸hb))];exact (hf b hb).1
 done:=by
  intro X hP hw hK hc i pins s σ H E I hf st hg
  subst hP hw hK
  obtain ⟨dY,gF⟩:=st
  obtain ⟨xs,hq,hx⟩:=hg
  obtain ⟨aD,rv,p,hz⟩:=I.list hq
  have hl:=rv.length
  have D:=Draws.list (prog:=X.prog) (w:=X.w) (A:=X.A.in1) (I.ok.hd hc) it a Nw aD.toArray
  have W:=WalksT.enumerateD D e yF (by simp;exact ⟨yF,Ne.symm Nv⟩) (by simp)
  refine W.done s _ _ ?_ fun h' tk hk=>⟨rfl,I.mW (t':=tk) hk hf⟩
  have e1:aD.toArray.size=i:=by rw[Qad];omega
  rw[e1]
  exact ⟨dY,gF,p.isList⟩
 self:=fun _ _ s _ _ st h=>by
  obtain ⟨⟨old,he⟩,_⟩:=st
  exact wpAny_pyIter_enum he h
def J9 (K:PySem.W.Frag) (ta:TA):TI:=fun σ H R=>ta σ H fun vs H1=> ∃a,vs=[.ref a]/\(∃xs,cU K H1 a xs)/\R (Cg K a) H1
def J_ (K:PySem.W.Frag) (ta:TA):TI:=fun σ H R=>ta σ H fun vs H1=> ∃a,vs=[.ref a]/\(∃xs,aN K H1 a xs)/\R (Ci K a) H1
theorem uv {X:Cx} (K:PySem.W.Frag) (hK:X.K=K) {elts:List Expr} {k:Nat} {pos':Pos} {a:Expr} {ta:TA} {p pos:Pos} (hg:Gl X "enumerate") (hm:X.mg "enumerate"=none) (ha:PA X [a] ta) (hs:starEach [a] X.env=[(false,eval a X.env)]:=by rfl):PI X (.Tuple elts k pos') (.Call (.Name "enumerate" p) [a] [] pos) (J9 K ta):=by
 subst hK
 intro pins s σ H R I h
 refine Call_ (gv I hg hm boot_enumerate (Qbw (bN (ha pos pins s σ H _ I h) fun us s1 ⟨vs,H1,I1,r1,q1⟩=>?_) hs rfl))
 obtain ⟨b,rfl,⟨xs,hq⟩,q⟩:=q1
 obtain ⟨u,rfl,ru⟩:=vals1 r1
 cases ru
 obtain ⟨aD,rv,pl,hz⟩:=I1.tuple hq
 obtain ⟨ob,eb,_⟩:=id pl
 have bW:b<s1.heap.objs.size:=Qac eb
 refine w6 pl fun h' he hit hk=>wpAny_pyIter_enum he ?_
 refine ⟨s1.heap.objs.size+1,[s1.heap.objs.size+1,s1.heap.objs.size],_,_,H1,rfl,I1.kept (t':=s1.toks) hk,w9 _ _ b (Qd1 _) (Qa0 (Qb9 bW)) (Qa0 bW),⟨⟨_,he⟩,hit⟩,fun c hb=>?_,q⟩
 have gc:s1.heap.objs.size<=c:=by
  rcases XB.mp hb with z | z
  ·rw[z];exact Qco _
  ·rw[QB.mp z];exact XA _
 exact I1.kW gc (I1.bg.fresh gc)
theorem uw {X:Cx} (K:PySem.W.Frag) (hK:X.K=K) {elts:List Expr} {k:Nat} {pos':Pos} {a:Expr} {ta:TA} {p pos:Pos} (hg:Gl X "enumerate") (hm:X.mg "enumerate"=none) (ha:PA X [a] ta) (hs:starEach [a] X.env=[(false,eval a X.env)]:=by rfl):PI X (.Tuple elts k pos') (.Call (.Name "enumerate" p) [a] [] pos) (J_ K ta):=by
 subst hK
 intro pins s σ H R I h
 refine Call_ (gv I hg hm boot_enumerate (Qbw (bN (ha pos pins s σ H _ I h) fun us s1 ⟨vs,H1,I1,r1,q1⟩=>?_) hs rfl))
 obtain ⟨b,rfl,⟨xs,hq⟩,q⟩:=q1
 obtain ⟨u,rfl,ru⟩:=vals1 r1
 cases ru
 obtain ⟨aD,rv,pl,hz⟩:=I1.list hq
 obtain ⟨ob,eb,_⟩:=id pl.isList
 have bW:b<s1.heap.objs.size:=Qac eb
 refine call_enumerate_list pl.isList fun h' he hit hsz hk=>wpAny_pyIter_enum he ?_
 refine ⟨s1.heap.objs.size+1,[s1.heap.objs.size+1,s1.heap.objs.size],_,_,H1,rfl,I1.kept (t':=s1.toks) hk,w_ _ _ b (Qd1 _) (Qa0 (Qb9 bW)) (Qa0 bW),⟨⟨_,he⟩,hit⟩,fun c hb=>?_,q⟩
 have gc:s1.heap.objs.size<=c:=by
  rcases XB.mp hb with z | z
  ·rw[z];exact Qco _
  ·rw[QB.mp z];exact XA _
 exact I1.kW gc (I1.bg.fresh gc)
theorem qD {K:PySem.W.Frag} {a:Addr} {xs:List V} {g:TG} {tb:TS} {D:Ends} {σ:St} {H:Hp} (Pv:Nat->St->Hp->Prop) (h0:Pv 0 σ H) (hl: ∀i σ H,i<=xs.length->Pv i σ H->cU K H a xs)
  (hs: ∀i x σ H T,xs[i]? =some x->Pv i σ H->H T=none->g (.ref T) σ (upd H T (.tup [.int i,x])) fun σ2 H2=>tb { D with nx:=Pv (i+1),ct:=Pv (i+1),bk:=D.nx } σ2 H2) (hd: ∀σ H,Pv xs.length σ H->D.nx σ H):
  ∃W:Nat->Nat->St->Hp->Prop,(∃m,W 0 m σ H)/\ ∀i m σ H,W i m σ H->
   ((Cg K a).stop i H/\D.nx σ H)\/((Cg K a).go i H/\ ∃N:St->Hp->Prop,(∀σ' H',N σ' H'-> ∃m',m'<m/\W (i+1) m' σ' H')/\ ∀x H',(Cg K a).yg i H x H'->g x σ H' fun σ2 H2=>tb { D with nx:=N,ct:=N,bk:=D.nx } σ2 H2):=by
 refine ⟨fun i m σ H=>m=xs.length - i/\i<=xs.length/\Pv i σ H,⟨xs.length,by simp,Qaq _,h0⟩,?_⟩
 rintro i m σ H ⟨rfl,hi,p⟩
 have hq:=hl i σ H hi p
 by_cases bW:i<xs.length
 ·refine .inr ⟨⟨xs,xs[i],hq,by simp[bW]⟩,Pv (i+1),fun σ' H' p'=>⟨xs.length - (i+1),by omega,rfl,bW,p'⟩,fun x H' y=>?_⟩
  obtain ⟨T,z,hz,rfl,hn,rfl⟩:=y
  exact hs i z σ _ T (hz xs hq) p hn
 ·have e:i=xs.length:=by omega
  subst e
  exact .inl ⟨⟨xs,hq,rfl⟩,hd σ H p⟩
theorem qE {K:PySem.W.Frag} {a:Addr} {xs:List V} {g:TG} {tb:TS} {D:Ends} {σ:St} {H:Hp} (Pv:Nat->St->Hp->Prop) (h0:Pv 0 σ H) (hl: ∀i σ H,i<=xs.length->Pv i σ H->aN K H a xs)
  (hs: ∀i x σ H T,xs[i]? =some x->Pv i σ H->H T=none->g (.ref T) σ (upd H T (.tup [.int i,x])) fun σ2 H2=>tb { D with nx:=Pv (i+1),ct:=Pv (i+1),bk:=D.nx } σ2 H2) (hd: ∀σ H,Pv xs.length σ H->D.nx σ H):
  ∃W:Nat->Nat->St->Hp->Prop,(∃m,W 0 m σ H)/\ ∀i m σ H,W i m σ H->
   ((Ci K a).stop i H/\D.nx σ H)\/((Ci K a).go i H/\ ∃N:St->Hp->Prop,(∀σ' H',N σ' H'-> ∃m',m'<m/\W (i+1) m' σ' H')/\ ∀x H',(Ci K a).yg i H x H'->g x σ H' fun σ2 H2=>tb { D with nx:=N,ct:=N,bk:=D.nx } σ2 H2):=by
 refine ⟨fun i m σ H=>m=xs.length - i/\i<=xs.length/\Pv i σ H,⟨xs.length,by simp,Qaq _,h0⟩,?_⟩
 rintro i m σ H ⟨rfl,hi,p⟩
 have hq:=hl i σ H hi p
 by_cases bW:i<xs.length
 ·refine .inr ⟨⟨xs,xs[i],hq,by simp[bW]⟩,Pv (i+1),fun σ' H' p'=>⟨xs.length - (i+1),by omega,rfl,bW,p'⟩,fun x H' y=>?_⟩
  obtain ⟨T,z,hz,rfl,hn,rfl⟩:=y
  exact hs i z σ _ T (hz xs hq) p hn
 ·have e:i=xs.length:=by omega
  subst e
  exact .inl ⟨⟨xs,hq,rfl⟩,hd σ H p⟩
theorem qF {l:List Nat} {σc:St} {g:TG} {tc:TT} {te:TE} {Q:VK} {H1:Hp} (Pv:Nat->List V->Hp->Prop) (hn:l.length<sizeLine) (h0:Pv 0 [] H1)
  (hs: ∀(i c:Nat) (acc:List V) (H:Hp) (T:Addr) (Nx:List V->Hp->Prop),l[i]? =some c->acc.length<=i->Pv i acc H->H T=none->(∀dP H',dP.length<=i+1->Pv (i+1) dP H'->Nx dP H')->
   g (.ref T) σc (upd H T (.tup [.int i, .str (S [c])])) fun σ2 H2=>Wk σc σ2/\tc σ2 H2 fun b H3=>if b=true then te σ2 H3 fun v H4=>Nx (acc++[v]) H4 else Nx acc H3)
  (hd: ∀acc H D,acc.length<=l.length->Pv l.length acc H->H D=none->Q (.ref D) (upd H D (.lst acc))):qu (Mp l) σc g tc te Q H1:=by
 refine ⟨fun i m acc H=>m=l.length - i/\i<=l.length/\acc.length<=i/\Pv i acc H,⟨l.length,by simp,Qaq _,XA _,h0⟩,?_⟩
 rintro i m acc H ⟨rfl,hi,hl,p⟩
 refine ⟨by omega,?_⟩
 by_cases bW:i<l.length
 ·refine .inr ⟨bW,fun x H' y=>?_⟩
  obtain ⟨T,c,hc,rfl,hT,rfl⟩:=y
  exact hs i c acc _ T (fun dP H'=> ∃m',m'<l.length - i/\(m'=l.length - (i+1)/\i+1<=l.length/\dP.length<=i+1/\Pv (i+1) dP H')) hc hl p hT fun dP H' h1 h2=>⟨l.length - (i+1),by omega,rfl,bW,h1,h2⟩
 ·have e:i=l.length:=by omega
  subst e
  exact .inl ⟨XA _,fun D hD=>hd acc H D hl p hD⟩
section
variable {X:Cx}
def Cj (K:PySem.W.Frag):List V->Hp->VK->Prop:=fun xs H Q=>(∃l:List Nat,xs=[.str (S l)]/\l.length<=sizeLine/\ ∀p,H p=none->Q (.ref p) (upd H p (.lst (bX l))))\/yC K xs H Q
theorem rW (K:PySem.W.Frag) (h:X.K=K) (hc:X.calm=true):cF X (.type "list") (Cj K):=by
 intro pins s σ H xs us Q I r q
 rcases q with q | q
 ·exact nF hc pins s σ H xs us Q I r q
 ·exact pG K h pins s σ H xs us Q I r q
end
section
variable {X:Cx}
def Ka (K:PySem.W.Frag):List V->Hp->VK->Prop:=fun xs H Q=> ∃p ys,xs=[.ref p]/\((aN K H p ys/\ ∀l,H l=none->Q (.ref l) (upd H l (.tup ys)))\/(cU K H p ys/\Q (.ref p) H))
theorem bz (K:PySem.W.Frag) (h:X.K=K):cF X (.type "tuple") (Ka K):=by subst h;exact pF
end
theorem yI (l a b:Nat):Ml (.str (S [l])) [.str (S [a]), .str (S [b])]=(decide (l=a)||decide (l=b)):=by
 have key: ∀c:Nat,EW (.str (S [c])) (.str (S [l]))=decide (l=c):=fun c=>by
  show decide (S [c]=S [l])=_
  refine decide_eq_decide.mpr ⟨fun z=>?_,fun z=>by rw[z]⟩
  have:=congrArg (fun x:Str=>x.cps.toList) z
  simpa [S,eq_comm]using this
 unfold Ml
 rw[Qcp,Qcp,List.any_nil,key,key,Qel]
def bF (H H':Hp):Prop:= ∀c xs,H c=some (.tup xs)->H' c=some (.tup xs)
theorem bF.trans {H H1 H2:Hp} (a:bF H H1) (b:bF H1 H2):bF H H2:=fun c xs h=>b c xs (a c xs h)
theorem bF.of {H H':Hp} (s:ah H H'):bF H H':=fun c xs h=>s c _ h
theorem bF.pH {H:Hp} {p:Addr} {ys:List V} {o:HO} (h:H p=some (.lst ys)):bF H (upd H p o):=fun c xs e=>by
 rw[ao (fun z=>by rw[z,h]at e;cases e)];exact e
theorem bF.cS {H:Hp} {p:Addr} {o:HO} (h:H p=none):bF H (upd H p o):=fun c xs e=>by
 rw[ao (fun z=>by rw[z,h]at e;cases e)];exact e
section
variable {prog:Program} {w:World} {A:Around} {E:Value->Shared->Prop} {s:Shared}
noncomputable def eJ (x y:Int×Int):Bool:=decide (x.1<y.1)||(decide (x.1=y.1)&&decide (x.2<y.2))
theorem yJ: ∀l:List Value,(l.zip l).map (fun x=>x.2)=l
 | []=>rfl
 | v::l=>by rw[Qds,ZD,yJ l]
end
section
variable {X:Cx}
end
section
variable {prog:Program} {w:World} {A:Around} {E:Value->Shared->Prop} {s:Shared}
noncomputable def eZ:List Int->List Int->Bool
 | [],[]=>false
 | [],_::_=>true
 | _::_,[]=>false
 | a::r,b::t=>if a=b then eZ r t else decide (a<b)
def TupAt (h:Heap) (k:Nat) (v:Value) (ns:List Int):Prop:= ∃x ox us m,v= .ref x/\h.get? x=some ox/\ox.cls= .type "tuple"/\ox.data= .seq us m/\IntsAre us.toList ns/\ns.length=k+1
theorem nM: ∀{us:List Value} {ns:List Int},IntsAre us ns->us.length=ns.length
 | _,_, .nil=>rfl
 | _,_, .cons _ _ h=>congrArg (· +1) (nM h)
theorem uz {Q:Bool->Shared->Prop}: ∀{us vs:List Value} {ns ms:List Int} {i:Nat},IntsAre us ns->IntsAre vs ms->ns.length=ms.length->Q (eZ ns ms) s->PySem.W.KatLex prog w A true false Q (us.zip vs) i s
 | _,_,_,_,i, .nil, .nil,_,q=>PySem.W.kat_nil q
 | _,_,_,_,i, .nil, .cons _ _ _,h,_=>by simp at h
 | _,_,_,_,i, .cons _ _ _, .nil,h,_=>by simp at h
 | _,_,_,_,i, .cons (ns:=ns) a t1 h1, .cons (ns:=ms) b t2 h2,h,q=>by
  refine PySem.W.kat_cons (wpAny_eqBool_int ?_)
  have hl:ns.length=ms.length:=by simpa using h
  by_cases e:a=b
  ·rw[show (a==b)=true by simp[e]]
   refine PySem.W.kat_yes (uz h1 h2 hl ?_)
   have q':Q (if a=b then eZ ns ms else decide (a<b)) s:=q
   rwa [if_pos e]at q'
  ·rw[show (a==b)=false by simp[e]]
   have q':Q (if a=b then eZ ns ms else decide (a<b)) s:=q
   rw[if_neg e]at q'
   refine PySem.W.kat_no ?_
   by_cases z:i=0
   ·subst z
    exact PySem.W.kat_lt_int (E:=fun _ _=>False) q'
   ·have hb:(true&&(i==0))=false:=by simp[z]
    rw[hb]
    exact PySem.W.kat_one _ _ (lt_int q')
theorem Kb {k:Nat} {u v:Value} {a c:List Int} {Q:Bool->Shared->Prop} (hx:TupAt s.heap k u a) (hy:TupAt s.heap k v c) (q:Q (eZ a c) s):wpAny (model prog w) A (keyLt' (tuples' true) u v) Q E s:=by
 obtain ⟨x,ox,us,n,rfl,gx,_,dx,ix,lx⟩:=hx
 obtain ⟨y,oy,vs,m,rfl,gy,_,dy,iy,ly⟩:=hy
 have e1:=nM ix
 have e2:=nM iy
 refine PySem.W.kat_lt gx dx gy dy ?_
 rw[show decide (us.size<vs.size)=false from decide_eq_false (by rw[<-Qaw, <-Qaw];omega)]
 exact uz ix iy (by omega) q
theorem TupAt.keep {h h':Heap} {k:Nat} {v:Value} {n:List Int} (p:TupAt h k v n) (kp: ∀b o,h.get? b=some o->h'.get? b=some o):TupAt h' k v n:=by
 obtain ⟨x,ox,us,m,e1,e2,r⟩:=p
 exact ⟨x,ox,us,m,e1,kp _ _ e2,r⟩
def br (h:Heap) (k:Nat):List Value->List (List Int)->Prop
 | [],[]=>True
 | v::vs,n::ns=>TupAt h k v n/\br h k vs ns
 | _,_=>False
theorem br.keep {h h':Heap} {k:Nat} (kp: ∀b o,h.get? b=some o->h'.get? b=some o): ∀{vs:List Value} {ns:List (List Int)},br h k vs ns->br h' k vs ns
 | [],[],_=>trivial
 | _::_,_::_,⟨a,b⟩=>⟨a.keep kp,br.keep kp b⟩
theorem br.get {h:Heap} {k:Nat}: ∀{vs:List Value} {ns:List (List Int)} {i:Nat},br h k vs ns->(hi:i<vs.length)-> ∃n,ns[i]? =some n/\TupAt h k (vs.getD i Value.none) n
 | [],[],i,_,hi=>absurd hi (Nat.not_lt_zero _)
 | v::vs,n::ns,0,⟨a,_⟩,_=>⟨n,rfl,a⟩
 | v::vs,n::ns,i+1,⟨_,b⟩,hi=>by
  obtain ⟨m,e,p⟩:=br.get (i:=i) b (Nat.lt_of_succ_lt_succ hi)
  exact ⟨m,e,p⟩
theorem br.hX {h:Heap} {k:Nat}: ∀{vs:List Value} {ns:List (List Int)},br h k vs ns-> ∃fs,PySem.W.KatTups h vs fs/\fs.length=vs.length/\ ∀v∈fs, ∃i t,v=Value.int i t
 | [],[],_=>⟨[],trivial,rfl,fun _ h=>absurd h Qam⟩
 | v::vs,n::ns,⟨⟨x,ox,us,m,e1,e2,e3,e4,e5,e6⟩,b⟩=>by
  obtain ⟨fs,k1,k2,k3⟩:=br.hX b
  obtain ⟨f,t,e7⟩: ∃f t,us[0]? =some (Value.int f t):=by
   rw[<-Qa2]
   generalize us.toList=l at e5
   cases e5 with
   | nil=>simp at e6
   | cons a t _=>exact ⟨a,t,rfl⟩
  refine ⟨.int f t::fs,⟨⟨x,ox,us,m,e1,e2,e3,e4,e7⟩,k1⟩,by simp[k2],fun u hu=>?_⟩
  rcases XB.mp hu with z | z
  ·exact ⟨_,_,z⟩
  ·exact k3 u z
theorem br.ne {h:Heap} {k:Nat} {vs:List Value} {ns:List (List Int)} (p:br h k vs ns) {a:Addr} (ha:h.objs.size<=a): ∀v∈vs,v≠ .ref a:=fun v hv z=>by
 obtain ⟨i,hi,e⟩:=List.mem_iff_getElem.mp hv
 obtain ⟨n,_,x,ox,us,m,e1,e2,_⟩:=p.get (i:=i) hi
 have e3:vs.getD i Value.none=v:=by rw[Qca,Mn hi,e];rfl
 rw[e3,z]at e1
 cases e1
 exact absurd (Qaf (Qac e2) ha) (Qb1 _)
end
section
variable {X:Cx}
def xa (K:PySem.W.Frag) (H:Hp) (k:Nat):List V->List (List Int)->Prop
 | [],[]=>True
 | v::vs,n::ns=>(∃t,v= .ref t/\cU K H t (n.map V.int)/\n.length=k+1)/\xa K H k vs ns
 | _,_=>False
theorem xa.at {pins:List (Addr×Obj)} {σ:St} {H:Hp} {s:Shared} {k:Nat} (I:Inv X pins σ H s): ∀{vs:List V} {ns:List (List Int)} {us:List Value},xa X.K H k vs ns->Vals vs us->br s.heap k us ns
 | [],[],_,_, .nil=>trivial
 | v::vs,n::ns,_,⟨⟨t,e,h,hl⟩,b⟩, .cons r rs=>by
  subst e
  cases r
  obtain ⟨aD,rv,p,_⟩:=I.tuple h
  obtain ⟨o,ho,hc,m,hd⟩:=p
  exact ⟨⟨t,o,aD.toArray,m,rfl,ho,hc,hd,intsAre_of rv,hl⟩,xa.at I b rs⟩
end
end L2
namespace HT
open PySem PySem.Spec PyProof.Rows
section
variable {prog:Program} {w:World} {A:Around} {E:Value->Shared->Prop} {s:Shared}
end
end HT
namespace L2
open PySem PySem.Spec PyProof.Rows
section
variable {X:Cx} {e st:Expr} {te:TE} {ts:TO} {pos p2:Pos}
end
section
variable {κ:Type} [DecidableEq κ]
noncomputable def iR (aZ:List (κ×V)) (k:κ):Option V:=(aZ.find? fun kv=>decide (kv.1=k)).map (·.2)
noncomputable def putK (aZ:List (κ×V)) (k:κ) (v:V):List (κ×V):=
 if (aZ.any fun kv=>decide (kv.1=k))=true then aZ.map (fun kv=>if kv.1=k then (kv.1,v) else kv) else aZ++[(k,v)]
theorem kj {p:κ×V} {r:List (κ×V)} {k:κ} (e:p.1=k):iR (p::r) k=some p.2:=by simp[iR,Qcu,e]
theorem iS {p:κ×V} {r:List (κ×V)} {k:κ} (e: ¬p.1=k):iR (p::r) k=iR r k:=by simp[iR,Qcu,e]
theorem nN (k:κ): ∀aZ:List (κ×V),(aZ.any fun kv=>decide (kv.1=k))=(iR aZ k).isSome
 | []=>rfl
 | p::r=>by
  rw[Qcp]
  by_cases e:p.1=k
  ·simp only[kj e,decide_eq_true e,Bool.true_or,Option.isSome_some]
  ·rw[iS e,decide_eq_false e,Bool.false_or];exact nN k r
theorem me (aZ:List (κ×V)) (k:κ) (v:V):(putK aZ k v).length<=aZ.length+1:=by
 unfold putK
 split
 ·rw[kb];omega
 ·rw[JQ,Zy,Qcd];omega
theorem Ck {aZ:List (κ×V)} {k:κ} (v:V) (h:iR aZ k=none):putK aZ k v=aZ++[(k,v)]:=by
 unfold putK
 rw[nN,h]
 exact if_neg (by decide)
theorem js.z_ {o:Option V} {u:Option Value} (r:js o u):o.isSome=u.isSome:=by
 cases o with
 | none=>cases u with
  | none=>rfl
  | some _=>exact (show False from r).elim
 | some _=>cases u with
  | none=>exact (show False from r).elim
  | some _=>rfl
theorem KV.val {aZ:List (κ×V)} {vs:List (κ×Value)} (r:KV aZ vs) (k:κ):js (iR aZ k) (valueAt vs k):=by
 unfold KV at r
 induction r with
 | nil=>exact True.intro
 | @cons p q ps qs h t ih=>
  obtain ⟨h1,h2⟩:=h
  by_cases e:p.1=k
  ·have e':q.1=k:=h1.symm.trans e
   have b:valueAt (q::qs) k=some q.2:=by simp[valueAt,Qcu,e']
   rw[kj e,b];exact h2
  ·have e': ¬q.1=k:=fun z=>e (h1.trans z)
   have b:valueAt (q::qs) k=valueAt qs k:=by simp[valueAt,Qcu,e']
   rw[iS e,b];exact ih
theorem KV.any {aZ:List (κ×V)} {vs:List (κ×Value)} (r:KV aZ vs) (k:κ):(aZ.any fun kv=>decide (kv.1=k))=vs.any fun kv=>decide (kv.1=k):=by
 unfold KV at r
 induction r with
 | nil=>rfl
 | cons h t ih=>rw[Qcp,Qcp,ih,h.1]
theorem KV.Kc {aZ:List (κ×V)} {vs:List (κ×Value)} (r:KV aZ vs) (k:κ) {y:V} {u:Value} (ry:RelV y u):
  KV (aZ.map fun kv=>if kv.1=k then (kv.1,y) else kv) (vs.map fun kv=>if kv.1=k then (kv.1,u) else kv):=by
 unfold KV at r ⊢
 induction r with
 | nil=>exact .nil
 | @cons p q ps qs h t ih=>
  rw[ZD,ZD]
  refine .cons ?_ ih
  obtain ⟨h1,h2⟩:=h
  by_cases e:p.1=k
  ·rw[if_pos e,if_pos (h1.symm.trans e)];exact ⟨h1,ry⟩
  ·rw[if_neg e,if_neg (fun z=>e (h1.trans z))];exact ⟨h1,h2⟩
theorem KV.put {aZ:List (κ×V)} {vs:List (κ×Value)} (r:KV aZ vs) (k:κ) {y:V} {u:Value} (ry:RelV y u):KV (putK aZ k y) (stored vs k u):=by
 unfold putK stored
 rw[r.any k]
 by_cases e:(vs.any fun kv=>decide (kv.1=k))=true
 ·rw[if_pos e,if_pos e];exact r.Kc k ry
 ·rw[if_neg e,if_neg e];exact Paired.snoc r ⟨rfl,ry⟩
theorem KV.length {aZ:List (κ×V)} {vs:List (κ×Value)} (r:KV aZ vs):aZ.length=vs.length:=Paired.length r
end
theorem Cm {P:Program} {w:World} {k:Key} {u:Value} (r:RelV (kV k) u):(cH P w).is k u=true:=by
 cases k with
 | inl i=>obtain ⟨t,e⟩:=(show ∃t,u=Value.int i t from r);subst e;exact tY P w i t
 | inr x=>obtain ⟨t,e⟩:=(show ∃t,u=Value.str x t from r);subst e;exact tZ P w x t
theorem qG {P:Program} {w:World}: ∀{ks:List Key} {us:List Value},Vals (ks.map kV) us->ItemsAre (cH P w) ks us
 | [],_,r=>by rw[Qdn]at r;cases r;exact .nil
 | k::ks,_,r=>by
  rw[ZD]at r
  cases r with
  | cons h t=>exact .cons (Cm h) (qG t)
abbrev KT (H:Hp):List (List Key×V)->List (List Key×Addr×Value)->Prop:=Paired fun p q=>p.1=q.1/\H q.2.1=some (.tup (p.1.map kV))/\RelV p.2 q.2.2
theorem KT.val {H:Hp} {aZ:List (List Key×V)} {xs:List (List Key×Addr×Value)} (r:KT H aZ xs) (k:List Key):js (iR aZ k) ((atKey xs k).map (·.2)):=by
 induction r with
 | nil=>exact True.intro
 | @cons p q ps qs h t ih=>
  obtain ⟨h1,_,h2⟩:=h
  by_cases e:p.1=k
  ·have e':q.1=k:=h1.symm.trans e
   have b:atKey (q::qs) k=some q.2:=by simp[atKey,Qcu,e']
   rw[kj e,b];exact h2
  ·have e': ¬q.1=k:=fun z=>e (h1.trans z)
   have b:atKey (q::qs) k=atKey qs k:=by simp[atKey,Qcu,e']
   rw[iS e,b];exact ih
theorem KT.Kc {H:Hp} {aZ:List (List Key×V)} {xs:List (List Key×Addr×Value)} (r:KT H aZ xs) (k:List Key) {y:V} {u:Value} (ry:RelV y u):
  KT H (aZ.map fun kv=>if kv.1=k then (kv.1,y) else kv) (xs.map (putAt k u)):=by
 induction r with
 | nil=>exact .nil
 | @cons p q ps qs h t ih=>
  rw[ZD,ZD]
  refine .cons ?_ ih
  obtain ⟨h1,h2,h3⟩:=h
  unfold putAt
  by_cases e:p.1=k
  ·rw[if_pos e,if_pos (h1.symm.trans e)];exact ⟨h1,h2,ry⟩
  ·rw[if_neg e,if_neg (fun z=>e (h1.trans z))];exact ⟨h1,h2,h3⟩
theorem KT.put {H:Hp} {aZ:List (List Key×V)} {xs:List (List Key×Addr×Value)} (r:KT H aZ xs) (k:List Key) {b:Addr} {y:V} {u:Value} (hb:H b=some (.tup (k.map kV))) (ry:RelV y u):
  KT H (putK aZ k y) (storedH xs k b u):=by
 have e:(aZ.any fun kv=>decide (kv.1=k))=(atKey xs k).isSome:=by
  rw[nN,(r.val k).z_,Option.isSome_map]
 unfold putK storedH
 rw[e]
 by_cases q:(atKey xs k).isSome=true
 ·rw[if_pos q,if_pos q];exact r.Kc k ry
 ·rw[if_neg q,if_neg q];exact Paired.snoc r ⟨rfl,hb,ry⟩
theorem KT.keeps {H H':Hp} {aZ:List (List Key×V)} {xs:List (List Key×Addr×Value)} (r:KT H aZ xs) (ht: ∀b ys,H b=some (.tup ys)->H' b=some (.tup ys)):KT H' aZ xs:=
 Paired.Ji r fun _ _ z=>⟨z.1,ht _ _ z.2.1,z.2.2⟩
section
variable {P:Program} {w:World} {H:Hp} {h:Heap} {a:Addr}
theorem Ht {u:HO} (ok:hW P w H h) (e:Rd H a u):bK P w H h a u:=e.ok ok
theorem Co {aZ:List (Key×V)} (ok:hW P w H h) (e:Rd H a (.dK aZ)):aZ.length<=sizeLine/\(a==sysModules)=false/\ ∃vs,KV aZ vs/\h.DictOf (cH P w) a vs:=
 show bK P w H h a (.dK aZ) from Ht ok e
theorem Ny {aZ:List (Key×V)} (ok:hW P w H h) (e:H a=some (.dK aZ)):aZ.length<=sizeLine/\(a==sysModules)=false/\ ∃vs,KV aZ vs/\h.DictOf (cH P w) a vs:=Co ok (.inl e)
theorem xf {ks:List Key} (ok:hW P w H h) (e:H a=some (.tup (ks.map kV))):(tupleKind (cH P w)).is h ks a:=by
 obtain ⟨_,aD,r,o,h1,h2,n,h3⟩:=(show bK P w H h a (.tup (ks.map kV)) from ok a _ e)
 exact ⟨o,aD.toArray,n,h1,h2,h3,by simpa using qG r⟩
theorem Cp {aZ:List (List Key×V)} (ok:hW P w H h) (e:Rd H a (.dT aZ)):aZ.length<=sizeLine/\(a==sysModules)=false/\
  ∃xs,KT H aZ xs/\h.DictOfH (tupleKind (cH P w)) a xs:=by
 obtain ⟨z,y,xs,r,o,es,ep,h1,h2,h3,h4,h5⟩:=(show bK P w H h a (.dT aZ) from Ht ok e)
 refine ⟨z,y,xs,r,o,es,ep,h1,h2,h3,h4,fun x hx=>?_,h5⟩
 have all: ∀{l:List (List Key×V)} {m:List (List Key×Addr×Value)},KT H l m-> ∀x∈m,(tupleKind (cH P w)).is h x.1 x.2.1:=by
  intro l m q
  induction q with
  | nil=>intro x hx;exact nomatch hx
  | @cons p q ps qs hq t ih=>
   intro x hx
   rcases XB.mp hx with e | hx
   ·subst e
    exact xf ok (by rw[<-hq.1];exact hq.2.1)
   ·exact ih x hx
 exact all r x hx
theorem Nz {aZ:List (List Key×V)} (ok:hW P w H h) (e:H a=some (.dT aZ)):aZ.length<=sizeLine/\(a==sysModules)=false/\
  ∃xs,KT H aZ xs/\h.DictOfH (tupleKind (cH P w)) a xs:=Cp ok (.inl e)
end
def Aa (H:Hp) (a:Addr) (y:V) (r:Option V):Prop:=
 (∃aZ k,Rd H a (.dK aZ)/\y=kV k/\r=iR aZ k)\/ ∃aZ k b,Rd H a (.dT aZ)/\y= .ref b/\H b=some (.tup (k.map kV))/\r=iR aZ k
def Cq (H:Hp) (a:Addr) (y v:V) (H':Hp):Prop:=
 (∃aZ k,H a=some (.dK aZ)/\y=kV k/\aZ.length<sizeLine/\H'=upd H a (.dK (putK aZ k v)))\/
 ∃aZ k b,H a=some (.dT aZ)/\y= .ref b/\H b=some (.tup (k.map kV))/\aZ.length<sizeLine/\H'=upd H a (.dT (putK aZ k v))
theorem Aa.k {H:Hp} {a:Addr} {aZ:List (Key×V)} {k:Key} (e:H a=some (.dK aZ)):Aa H a (kV k) (iR aZ k):= .inl ⟨aZ,k, .inl e,rfl,rfl⟩
theorem Cq.k {H:Hp} {a:Addr} {aZ:List (Key×V)} {k:Key} {v:V} (e:H a=some (.dK aZ)) (hl:aZ.length<sizeLine):Cq H a (kV k) v (upd H a (.dK (putK aZ k v))):= .inl ⟨aZ,k,e,rfl,hl,rfl⟩
section
variable {X:Cx} {pins:List (Addr×Obj)} {σ:St} {H:Hp} {s:Shared} {a:Addr} {y v:V} {u r:Value} {o:Option V} {A:Around} {E:Value->Shared->Prop}
theorem Inv.big (I:Inv X pins σ H s):sysModules<s.heap.objs.size:=by
 have h:mainGlobals<s.heap.objs.size:=(I.mod.glob.keeps I.bk).lt
 exact Nat.lt_trans (by decide) h
theorem Ab {Q:Value->Shared->Prop} (hu:A.units+1<cLine) (I:Inv X pins σ H s) (g:Aa H a y (some v)) (ry:RelV y u) (h: ∀w' s',Inv X pins σ H s'->RelV v w'->Q w' s'):
  wpAny (model X.prog X.w) A (getItem (.ref a) u) Q E s:=by
 rcases g with ⟨aZ,k,e,ey,l⟩ | ⟨aZ,k,b,e,ey,eb,l⟩
 ·subst ey
  obtain ⟨z,hd,vs,rel,dd⟩:=Co I.bg e
  obtain ⟨w',hw,wC⟩:=js.some_of (v:=v) (o:=valueAt vs k) (by rw[l];exact rel.val k)
  exact wpAny_getItem_of (Cm ry) dd.mapOf hw (h w' _ (I.tok _) wC)
 ·subst ey
  cases (show u=Value.ref b from ry)
  obtain ⟨z,hd,xs,rel,dd⟩:=Cp I.bg e
  obtain ⟨w',hw,wC⟩:=js.some_of (v:=v) (o:=(atKey xs k).map (·.2)) (by rw[l];exact rel.val k)
  obtain ⟨p,hp,ij⟩:=Option.map_eq_some_iff.mp hw
  refine wpAny_getItem_heap (tupleKind_room_in1 hu) (xf I.bg eb) dd hp ?_
  rw[ij]
  exact h w' _ (I.tok _) wC
theorem yK {h':Heap} {t':Nat} {ob:HO} (I:Inv X pins σ H s) (mu:MH (H a)) (hs:Heap.SameBut a s.heap h') (he: ∃q,h'.get? a=some q) (new:bK X.prog X.w (upd H a ob) h' a ob):
  Inv X pins σ (upd H a ob) { s with heap:=h',toks:=t' }:=
 I.write (x:=a) (e:=a) mu (.inl rfl) (fun b q hb z=>(hs.2 b hb).trans z) he new
theorem Kd {P:Program} {w:World} {H':Hp} {h':Heap} {aZ:List (Key×V)} {vs:List (Key×Value)} (z:aZ.length<=sizeLine) (hd:(a==sysModules)=false) (rel:KV aZ vs) (dd:h'.DictOf (cH P w) a vs):
  bK P w H' h' a (.dK aZ):=⟨z,hd,vs,rel,dd⟩
theorem Ac {H':Hp} {Q:Unit->Shared->Prop} (hu:A.units+1<cLine) (I:Inv X pins σ H s) (g:Cq H a y v H') (ry:RelV y u) (rv:RelV v r) (h: ∀s',Inv X pins σ H' s'->Q () s'):
  wpAny (model X.prog X.w) A (setItem (.ref a) u r) Q E s:=by
 rcases g with ⟨aZ,k,e,ey,l,eH⟩ | ⟨aZ,k,b,e,ey,eb,l,eH⟩
 ·subst ey eH
  obtain ⟨z,hd,vs,rel,dd⟩:=Ny I.bg e
  have hz:vs.length<=sizeLine:=by rw[<-rel.length];exact z
  have hl:(putK aZ k v).length<=sizeLine:=by have:=me aZ k v;omega
  refine wpAny_setItem_pairs (hsz:=hz) (Cm ry) dd fun h' NA hs=>h _ ?_
  have he: ∃q,h'.get? a=some q:=let ⟨q,_,_,hq,_⟩:=NA;⟨q,hq⟩
  exact yK I (by rw[e];exact True.intro) hs he (Kd hl hd (rel.put k rv) NA)
 ·subst ey eH
  cases (show u=Value.ref b from ry)
  obtain ⟨z,hd,xs,rel,dd⟩:=Nz I.bg e
  have hz:xs.length<=sizeLine:=by rw[<-Paired.length rel];exact z
  have hl:(putK aZ k v).length<=sizeLine:=by have:=me aZ k v;omega
  refine wpAny_setItem_heap (hsz:=hz) (tupleKind_room_in1 hu) (xf I.bg eb) dd fun h' NA hs=>h _ ?_
  obtain ⟨q,es,ep,hq,h2,h3,h4,_,h5⟩:=NA
  refine yK I (by rw[e];exact True.intro) hs ⟨q,hq⟩ ⟨hl,hd,_,(rel.put k eb rv).keeps fun c ys ec=>?_,q,es,ep,hq,h2,h3,h4,h5⟩
  rw[ao (MG ec e (fun z=>nomatch z))]
  exact ec
end
section
variable {X:Cx} {pins:List (Addr×Obj)} {σ:St} {H:Hp} {s:Shared} {a:Addr} {aZ:List (Key×V)} {k:Key} {u:Value} {A:Around} {E:Value->Shared->Prop}
end
def NB (i:Expr):Prop:= ∀ov iv,subscripted i false ov iv=operate [ov,iv] (getItem ov iv)
theorem Fc {prog:Program} {w:World} {A:Around} {E:Value->Shared->Prop} {s:Shared} {env:Env} {value slice:Expr} {pos:Pos} {T id:String} {Q:Value->Shared->Prop}
  (hl:typeLookup (.type T) "__getitem__"=pure (some (.builtin id))) (hs:NB slice)
  (h:wpAny (model prog w) A (eval value env) (fun o s₁=>wpAny (model prog w) A (eval slice env) (fun i s₂=>s₂.TypeIs o T/\wpAny (model prog w) A (getItem o i) Q E s₂) E s₁) E s):
  wpAny (model prog w) A (eval (.Subscript value slice pos) env) Q E s:=by
 refine Subscript_ (wpAny_mono h (fun o s₁ h₁=>wpAny_mono h₁ (fun i s₂ h₂=>?_) fun _ _ x=>x) fun _ _ x=>x)
 obtain ⟨hT,h₂⟩:=h₂
 unfold subscriptTail
 refine wpAny_bind ?_
 rw[getitemInPython_of_ne hT.not_modules]
 refine wpAny_bind (wpAny_specialOf hT hl ?_)
 have fin:wpAny (model prog w) A (subscripted slice false o i) (fun r s₃=>wpAny (model prog w) A (letTemporaryGo value o r >>= fun _=>pure r) Q E s₃) E s₂:=by
  rw[hs o i]
  exact wpAny_operating (wpAny_mono h₂ (fun r s₃ h₃=>wpAny_bind (wpAny_letTemporaryGo (wpAny_pure h₃))) fun _ _ x=>x)
 first
  | exact wpAny_pure (wpAny_bind fin)
  | exact wpAny_bind (wpAny_pure (wpAny_bind fin))
  | exact wpAny_bind fin
theorem uA {X:Cx} {pins:List (Addr×Obj)} {σ:St} {H:Hp} {s:Shared} {a:Addr} {y:V} {o:Option V} (I:Inv X pins σ H s) (g:Aa H a y o):s.TypeIs (.ref a) "dict":=by
 rcases g with ⟨aZ,k,e,_,_⟩ | ⟨aZ,k,b,e,_,_,_⟩
 ·obtain ⟨_,_,vs,_,dd⟩:=Co I.bg e
  exact dd.typeIs
 ·obtain ⟨_,_,xs,_,dd⟩:=Cp I.bg e
  exact dd.typeIs
def NC (td ty:TE):TE:=fun σ H Q=>td σ H fun x H1=>ty σ H1 fun y H2=> ∃a v,x= .ref a/\Aa H2 a y (some v)/\Q v H2
def ND (td ty tv:TE):TS:=fun D σ H=>tv σ H fun v H1=>td σ H1 fun x H2=>ty σ H2 fun y H3=> ∃a H4,x= .ref a/\Cq H3 a y v H4/\D.nx σ H4
section
variable {X:Cx} {o i e value:Expr} {pos pos' M0:Pos} {td ty tv:TE}
theorem Fe (hu:X.A.units+1<cLine) (ho:PE X o td) (hi:PE X i ty) (hs:NB i):PE X (.Subscript o i pos) (NC td ty):=by
 intro pins s σ H Q I h
 refine Fc PySem.F.slot_dict_getitem.lookup hs (bN (ho pins s σ H _ I h) fun u s1 ⟨x,H1,I1,rx,q1⟩=>bN (hi pins s1 σ H1 _ I1 q1) fun iv s2 ⟨y,H2,I2,ry,a,v,ex,g,q2⟩=>?_)
 subst ex
 obtain rfl:u=Value.ref a:=rx
 exact ⟨uA I2 g,Ab hu I2 g ry fun w' s3 I3 wC=>⟨v,H2,I3,wC,q2⟩⟩
theorem Ff (hu:X.A.units+1<cLine) (ho:PE X o td) (hi:PE X i ty) (hv:PE X value tv) (hs:swapsWith value (some (.Subscript o i pos')) pos.line X.env=pure false):
  PS X (.Assign [.Subscript o i pos'] value pos) (ND td ty tv):=by
 intro pins s σ H D I h
 refine wpAny_Assign_Subscript (bN (hv pins s σ H _ I h) fun r s1 ⟨v,H1,I1,rv,q1⟩=>bN (ho pins s1 σ H1 _ I1 q1) fun u s2 ⟨x,H2,I2,rx,q2⟩=>bN (hi pins s2 σ H2 _ I2 q2) fun iv s3 ⟨y,H3,I3,ry,a,H4,ex,g,q3⟩=>?_) hs
 subst ex
 obtain rfl:u=Value.ref a:=rx
 exact Ac hu I3 g ry rv fun s4 I4=>⟨σ,H4,I4,q3⟩
end
theorem Cr {P:Program} {w:World} {H:Hp} (h:Heap) (hb:sysModules<h.objs.size):bK P w H (h.push { cls:= .type "dict",data:= .dict #[] }) h.objs.size (.dK []):=
 ⟨Qaq _,beq_eq_false_iff_ne.mpr (Ne.symm (Qa0 hb)),[], .nil,Heap.DictOf.new h⟩
def Ke:TE:=fun _ H Q=> ∀p,H p=none->Q (.ref p) (upd H p (.dK []))
section
variable {X:Cx} {pos:Pos}
theorem Cs:PE X (.Dict [] [] pos) Ke:=fun pins s σ H Q I h=>
 wpAny_Dict_empty ⟨.ref s.heap.objs.size,_,I.laid (a:=s.heap.objs.size) (o:= .dK []) (t':=s.toks) (fun _ _ q=>JR _ q) (XA _) (Cr s.heap I.big),rfl,h _ (I.bg.fresh (XA _))⟩
end
structure M1 (X:Cx) (o:Expr) (m:Str) (apos:Pos) (e:Expr) (cV:Pos):Prop where
 base:attributeBase o m X.env (eval o X.env)=eval o X.env
 iT:((backTo cV (starEach [e] X.env)).all (fun x=>!x.1)&&(backToKw cV (keywordEach [] X.env)).all (fun x=>x.1.isSome)
  &&decide (([e]:List Expr).length+([]:List Keyword).length+(if ([]:List Keyword).isEmpty then 0 else 1)<30))=true
 line:(apos.endLine==cV.line)=true
 trees:backTo cV (starEach [e] X.env)=[(false,eval e X.env)]
structure M2 (X:Cx) (o:Expr) (m:Str) (apos:Pos) (e f:Expr) (cV:Pos):Prop where
 base:attributeBase o m X.env (eval o X.env)=eval o X.env
 iT:((backTo cV (starEach [e,f] X.env)).all (fun x=>!x.1)&&(backToKw cV (keywordEach [] X.env)).all (fun x=>x.1.isSome)
  &&decide (([e,f]:List Expr).length+([]:List Keyword).length+(if ([]:List Keyword).isEmpty then 0 else 1)<30))=true
 line:(apos.endLine==cV.line)=true
 trees:backTo cV (starEach [e,f] X.env)=[(false,eval e X.env),(false,eval f X.env)]
section
variable {X:Cx} {pins:List (Addr×Obj)} {σ:St} {H:Hp} {s:Shared} {a:Addr} {y d:V} {u r:Value} {o:Option V} {A:Around} {E:Value->Shared->Prop}
end
section
variable {X:Cx} {o e f:Expr} {apos cV:Pos} {td ty tx:TE}
end
section
variable {X:Cx} {pins:List (Addr×Obj)} {σ:St} {H:Hp} {s:Shared} {a:Addr} {aZ:List (Key×V)} {A:Around} {E:Value->Shared->Prop}
end
section
variable {X:Cx} {pins:List (Addr×Obj)} {σ:St} {H:Hp} {s:Shared} {a:Addr} {y:V} {u:Value} {A:Around} {E:Value->Shared->Prop}
end
section
variable {prog:Program} {w:World} {A:Around} {E:Value->Shared->Prop} {s:Shared}
end
section
variable {X:Cx}
end
end L2
set_option maxHeartbeats 1000000
namespace L2
open PySem PySem.Spec PyProof.Rows
section
variable {prog:Program} {w:World} {KK:Type} [DecidableEq KK] {knd:KeyKind prog w KK}
end
section
variable {X:Cx}
end
end L2
set_option maxHeartbeats 1000000
namespace L2.F2
open PySem PySem.Spec PyProof.Rows
end L2.F2
namespace L2
open PySem PySem.Spec PyProof.Rows
section
variable {prog:Program} {w:World} {A:Around} {E:Value->Shared->Prop} {s:Shared}
end
section
variable {X:Cx}
end
end L2
set_option maxHeartbeats 1000000
namespace L2
open PySem PySem.Spec PyProof.Rows
section
variable {prog:Program} {w:World} {A:Around} {E:Value->Shared->Prop} {s:Shared}
end
section
variable {X:Cx}
end
end L2
set_option maxHeartbeats 2000000
namespace L2
open PySem PySem.Spec PyProof.Rows
section
variable {prog:Program} {w:World} {A:Around} {E:Value->Shared->Prop} {s:Shared}
end
section
variable {X:Cx}
end
noncomputable def dd {α:Type} [DecidableEq α]:List α->List α->List α
 | σ,[]=>σ
 | σ,x::l=>dd (if x∈σ then σ else σ++[x]) l
section
variable {prog:Program} {w:World} {A:Around} {E:Value->Shared->Prop} {s:Shared}
end
section
variable {prog:Program} {w:World} {A:Around} {E:Value->Shared->Prop} {s:Shared}
end
section
variable {X:Cx}
end
section
variable {prog:Program} {w:World} {A:Around} {E:Value->Shared->Prop} {s:Shared}
end
section
variable {X:Cx}
end
section
variable {X:Cx}
end
section
variable {X:Cx} {st:Stmt} {rest:List Stmt} {t u:TS}
def SD (t u:TS):TS:=fun D σ H=> ∃P:St->Hp->Prop,t { D with nx:=P } σ H/\ ∀σ' H',P σ' H'->u D σ' H'
theorem Fg (h1:PS X st t) (h2:kN X rest u):kN X (st::rest) (SD t u):=by
 intro pins s σ H D I h
 obtain ⟨P,h,g⟩:=h
 refine wpAny_execs_cons (bN (h1 pins s σ H _ I h) fun f s1 q=>?_)
 cases f with
 | ret v=>exact q
 | brk=>exact q
 | cont=>exact q
 | next=>
  obtain ⟨τ,G,J,p⟩:=q
  exact h2 pins s1 τ G D J (g τ G p)
end
section
variable {X:Cx}
end
section
variable {X:Cx}
end
section
variable {prog:Program} {w:World} {A:Around} {E:Value->Shared->Prop} {s:Shared}
structure ZA (z TI TO i1 i2:Addr) (f1 f2:List Addr):Prop where
 m1:i1∈f1
 m2:i2∈f2
 z1:z∉f1
 z2:z∉f2
 o1:TO∉f1
 o2:TO∉f2
 c1:i1∉f2
 c2:i2∉f1
 tz:TI≠z
 tt:TI≠TO
 t1:TI≠i1
 t2:TI≠i2
 oz:TO≠z
theorem nm {a b:Addr} {f:List Addr} (h:a∈f) (n:b∉f):a≠b:=fun z=>n (z▸h)
section
variable {z TI TO i1 i2:Addr} {f1 f2:List Addr} {n1 n2 i:Nat} {P1 P2:Nat->Value->Prop} {S1 S2:Nat->Heap->Prop} {a b:Value}
theorem Ad {Q:Value->Shared->Prop} (D1:Draws prog w A i1 f1 n1 P1 S1) (D2:Draws prog w A i2 f2 n2 P2 S2) (Z:ZA z TI TO i1 i2 f1 f2)
  (hz:IsZip s.heap z TI TO .none) (Kf:IsPair s.heap TI (.ref i1) (.ref i2)) (Mq:IsPair s.heap TO a b) (h1:S1 i s.heap) (h2:S2 i s.heap) (l1:i<n1) (l2:i<n2)
  (hQ: ∀x y h' tk,P1 i x->P2 i y->IsZip h' z TI TO (rawInt s.heap.objs.size)->IsPair h' TO x y->S1 (i+1) h'->S2 (i+1) h'->IsPair h' s.heap.objs.size x y->h'.objs.size=s.heap.objs.size+1->
   (∀c o,c≠z->c≠TO->c≠i1->c≠i2->s.heap.get? c=some o->h'.get? c=some o)->Q (.ref s.heap.objs.size) { s with heap:=h',toks:=tk }):
  wpAny (model prog w) A (Builtin.«zip.__next__» ⟨[.ref z],[]⟩) (fun fin s'=> ∃v,fin= .done (.ret v)/\Q v s') E s:=by
 obtain ⟨hp,g,d,ZH,os⟩:=s
 have i1z:=nm Z.m1 Z.z1
 have i2z:=nm Z.m2 Z.z2
 have ZI:=nm Z.m1 Z.o1
 have ZJ:=nm Z.m2 Z.o2
 have i21:=nm Z.m2 Z.c1
 refine wpAny_bind (m:=field (.ref z) 2) (wpAny_field hz rfl (x:= .bool false) rfl ?_)
 refine wpAny_bind (m:=field (.ref z) 3) (wpAny_field hz rfl (x:= .ref TI) rfl ?_)
 refine wpAny_bind (m:=seqItems? (.ref TI)) (wpAny_seqItems Kf rfl ?_)
 refine wpAny_bind (m:=Builtin.SmallTypes.ownedTupleIsFree (.ref z)) ?_
 (unfold Builtin.SmallTypes.ownedTupleIsFree;refine wpAny_bind (m:=field (.ref z) 0) (wpAny_field hz rfl (x:= .none) rfl (wpAny_pure ?_)))
 simp only[if_true]
 refine wpAny_bind (wpAny_rule ?_);refine wpAny_bind (m:=field (.ref z) 4) (wpAny_field hz rfl (x:= .ref TO) rfl ?_)
 refine wpAny_bind (wpAny_setField_rec hz (by simp) fun k1 Kg Bz=>?_)
 replace Kg:IsZip k1 z TI TO .ellipsis:=Kg
 replace Bz:Heap.SameBut z hp k1:=Bz
 refine wpAny_bind ?_;simp only[Qex,List.zipIdx_nil,Qct,List.forIn_nil]
 refine wpAny_bind (wpAny_bind (wpAny_onRaise ?_));refine wpAny_bind (m:=Builtin.SmallTypes.nextOf (.ref i1)) ?_
 refine D1.item i _ _ _ l1 (D1.frame _ _ _ h1 fun c hc o e=>Bz.extBut _ _ (nm hc Z.z1) e) fun x k2 tk2 px gF Ei=>wpAny_pure ?_
 replace Ei:Heap.SameBut i1 k1 k2:=Ei
 have to2:IsPair k2 TO a b:=Ei.extBut _ _ (Ne.symm ZI) (Bz.extBut _ _ Z.oz Mq)
 refine wpAny_bind (m:=seqItems? (.ref TO)) (wpAny_seqItems to2 rfl ?_)
 refine wpAny_bind (wpAny_updateSeq_pair to2 fun k3 to3 Ej=>?_)
 replace to3:IsPair k3 TO x b:=to3
 replace Ej:Heap.SameBut TO k2 k3:=Ej
 refine wpAny_bind (wpAny_letGo (wpAny_pure ?_));refine wpAny_bind (wpAny_bind (wpAny_onRaise ?_))
 refine wpAny_bind (m:=Builtin.SmallTypes.nextOf (.ref i2)) ?_
 refine D2.item i _ _ _ l2 (D2.frame _ _ _ h2 fun c hc o e=>Ej.extBut _ _ (nm hc Z.o2) (Ei.extBut _ _ (nm hc Z.c1) (Bz.extBut _ _ (nm hc Z.z2) e))) fun y k4 ZK py nO Kh=>wpAny_pure ?_
 replace Kh:Heap.SameBut i2 k3 k4:=Kh
 have XF:IsPair k4 TO x b:=Kh.extBut _ _ (Ne.symm ZJ) to3
 refine wpAny_bind (m:=seqItems? (.ref TO)) (wpAny_seqItems XF rfl ?_)
 refine wpAny_bind (wpAny_updateSeq_pair XF fun k5 QF Ki=>?_)
 replace QF:IsPair k5 TO x y:=QF
 replace Ki:Heap.SameBut TO k4 k5:=Ki
 refine wpAny_bind (wpAny_letGo (wpAny_pure (wpAny_pure ?_)));refine wpAny_bind (m:=seqItems? (.ref TO)) (wpAny_seqItems QF rfl ?_)
 refine wpAny_bind (wpAny_newTuple ?_)
 have sz:k5.objs.size=hp.objs.size:=by rw[Ki.1,Kh.1,Ej.1,Ei.1,Bz.1]
 have z5:IsZip k5 z TI TO .ellipsis:=Ki.extBut _ _ (Ne.symm Z.oz) (Kh.extBut _ _ (Ne.symm i2z) (Ej.extBut _ _ (Ne.symm Z.oz) (Ei.extBut _ _ (Ne.symm i1z) Kg)))
 have kp: ∀c o,c≠z->c≠TO->c≠i1->c≠i2->hp.get? c=some o->k5.get? c=some o:=fun c o c1 c2 c3 c4 e=>Ki.extBut _ _ c2 (Kh.extBut _ _ c4 (Ej.extBut _ _ c2 (Ei.extBut _ _ c3 (Bz.extBut _ _ c1 e))))
 have QG:S1 (i+1) k5:=D1.frame _ _ _ gF fun c hc o e=>Ki.extBut _ _ (nm hc Z.o1) (Kh.extBut _ _ (nm hc Z.c2) (Ej.extBut _ _ (nm hc Z.o1) e))
 have ZL:S2 (i+1) k5:=D2.frame _ _ _ nO fun c hc o e=>Ki.extBut _ _ (nm hc Z.o2) e
 have zl:z<k5.objs.size:=Qac z5
 refine wpAny_bind (m:=Builtin.SmallTypes.ownedTupleHandOut (.ref z) (.ref k5.objs.size)) ?_
 have z6:IsZip (k5.push { cls:= .type "tuple",data:= .seq #[x,y] }) z TI TO .ellipsis:=JR _ z5
 (unfold Builtin.SmallTypes.ownedTupleHandOut;refine wpAny_bind (wpAny_setField_rec z6 (by simp) fun k7 z7 s7=>?_))
 replace z7:IsZip k7 z TI TO (rawInt k5.objs.size):=z7
 refine wpAny_setField_rec z7 (by simp) fun k8 z8 s8=>?_
 replace z8:IsZip k8 z TI TO (rawInt k5.objs.size):=z8
 have up: ∀c o,c≠z->k5.get? c=some o->k8.get? c=some o:=fun c o c1 e=>s8.extBut _ _ c1 (s7.extBut _ _ c1 (JR _ e))
 have t8:IsPair k8 k5.objs.size x y:=s8.extBut _ _ (Qb4 zl) (s7.extBut _ _ (Qb4 zl) (Qai _ rfl))
 have e8:k8.objs.size=k5.objs.size+1:=by rw[s8.1,s7.1,Qbx]
 rw[sz]at z8 t8 e8
 refine wpAny_pure ⟨_,rfl,?_⟩
 show Q (.ref k5.objs.size) _
 rw[sz]
 exact hQ x y k8 ZK px py z8 (up _ _ Z.oz QF) (D1.frame _ _ _ QG fun c hc o e=>up c o (nm hc Z.z1) e) (D2.frame _ _ _ ZL fun c hc o e=>up c o (nm hc Z.z2) e) t8 e8 fun c o c1 c2 c3 c4 e=>up c o c1 (kp c o c1 c2 c3 c4 e)
theorem Ct {Q:Fin->Shared->Prop} (D1:Draws prog w A i1 f1 n1 P1 S1) (Z:ZA z TI TO i1 i2 f1 f2)
  (hz:IsZip s.heap z TI TO .none) (Kf:IsPair s.heap TI (.ref i1) (.ref i2)) (Mq:IsPair s.heap TO a b) (h1:S1 n1 s.heap)
  (hE: ∀h' e,(∀c o,c≠z->c≠TO->c≠i1->c≠i2->s.heap.get? c=some o->h'.get? c=some o)->(∃o,h'.get? e=some o/\o.cls= .type "StopIteration")->E (.ref e) { s with heap:=h' }):
  wpAny (model prog w) A (Builtin.«zip.__next__» ⟨[.ref z],[]⟩) Q E s:=by
 obtain ⟨hp,g,d,ZH,os⟩:=s
 have i1z:=nm Z.m1 Z.z1
 refine wpAny_bind (m:=field (.ref z) 2) (wpAny_field hz rfl (x:= .bool false) rfl ?_)
 refine wpAny_bind (m:=field (.ref z) 3) (wpAny_field hz rfl (x:= .ref TI) rfl ?_)
 refine wpAny_bind (m:=seqItems? (.ref TI)) (wpAny_seqItems Kf rfl ?_)
 refine wpAny_bind (m:=Builtin.SmallTypes.ownedTupleIsFree (.ref z)) ?_
 (unfold Builtin.SmallTypes.ownedTupleIsFree;refine wpAny_bind (m:=field (.ref z) 0) (wpAny_field hz rfl (x:= .none) rfl (wpAny_pure ?_)))
 simp only[if_true]
 refine wpAny_bind (wpAny_rule ?_);refine wpAny_bind (m:=field (.ref z) 4) (wpAny_field hz rfl (x:= .ref TO) rfl ?_)
 refine wpAny_bind (wpAny_setField_rec hz (by simp) fun k1 Kg Bz=>?_)
 replace Kg:IsZip k1 z TI TO .ellipsis:=Kg
 replace Bz:Heap.SameBut z hp k1:=Bz
 refine wpAny_bind ?_;simp only[Qex,List.zipIdx_nil,Qct,List.forIn_nil]
 refine wpAny_bind (wpAny_bind (wpAny_onRaise ?_));refine wpAny_bind (m:=Builtin.SmallTypes.nextOf (.ref i1)) ?_
 refine D1.done _ _ _ (D1.frame _ _ _ h1 fun c hc o e=>Bz.extBut _ _ (nm hc Z.z1) e) fun k2 e Ei he=>?_
 obtain ⟨oe,SE,XG⟩:=he
 have z2:IsZip k2 z TI TO .ellipsis:=Ei _ _ (Ne.symm i1z) Kg
 have ez:e≠z:=fun x=>by subst x;rw[z2]at SE;cases SE;simp at XG
 refine wpAny_setField_rec z2 (by simp) fun k3 _ Ej=>hE k3 e (fun c o c1 _ c3 _ x=>Ej.extBut _ _ c1 (Ei _ _ c3 (Bz.extBut _ _ c1 x))) ⟨oe,Ej.extBut _ _ ez SE,XG⟩
theorem xg {Q:Option Value->Shared->Prop} (D1:Draws prog w A.in1 i1 f1 n1 P1 S1) (D2:Draws prog w A.in1 i2 f2 n2 P2 S2) (Z:ZA z TI TO i1 i2 f1 f2)
  (hz:IsZip s.heap z TI TO .none) (Kf:IsPair s.heap TI (.ref i1) (.ref i2)) (Mq:IsPair s.heap TO a b) (h1:S1 i s.heap) (h2:S2 i s.heap) (l1:i<n1) (l2:i<n2)
  (hQ: ∀x y h' tk,P1 i x->P2 i y->IsZip h' z TI TO (rawInt s.heap.objs.size)->IsPair h' TO x y->S1 (i+1) h'->S2 (i+1) h'->IsPair h' s.heap.objs.size x y->h'.objs.size=s.heap.objs.size+1->
   (∀c o,c≠z->c≠TO->c≠i1->c≠i2->s.heap.get? c=some o->h'.get? c=some o)->Q (some (.ref s.heap.objs.size)) { s with heap:=h',toks:=tk }):
  wpAny (model prog w) A (pyNext (.ref z)) Q E s:=by
 have hT:s.TypeIs (.ref z) "zip":=⟨_,hz,rfl⟩
 unfold pyNext
 exact wpAny_bind (wpAny_attempt (wpAny_callSpecial?_slot (name:=Str.ofString "__next__") hT F.slot_zip_next (wpAny_call_entry F.slot_zip_next hT F.entry_zip_next
   (Ad D1 D2 Z hz Kf Mq h1 h2 l1 l2 fun x y h' tk p1 p2 a1 a2 a3 a4 a5 a6 a7=>wpAny_pure (hQ x y h' tk p1 p2 a1 a2 a3 a4 a5 a6 a7)) (F.args_zip_next_1 _))))
theorem Ae {Q:Option Value->Shared->Prop} (D1:Draws prog w A.in1 i1 f1 n1 P1 S1) (Z:ZA z TI TO i1 i2 f1 f2)
  (hz:IsZip s.heap z TI TO .none) (Kf:IsPair s.heap TI (.ref i1) (.ref i2)) (Mq:IsPair s.heap TO a b) (h1:S1 n1 s.heap)
  (hQ: ∀h',(∀c o,c≠z->c≠TO->c≠i1->c≠i2->s.heap.get? c=some o->h'.get? c=some o)->Q none { s with heap:=h' }):wpAny (model prog w) A (pyNext (.ref z)) Q E s:=by
 have hT:s.TypeIs (.ref z) "zip":=⟨_,hz,rfl⟩
 unfold pyNext
 refine wpAny_bind (wpAny_attempt (wpAny_callSpecial?_slot (name:=Str.ofString "__next__") hT F.slot_zip_next (wpAny_call_entry F.slot_zip_next hT F.entry_zip_next (Ct D1 Z hz Kf Mq h1 fun h' e hk he=>?_) (F.args_zip_next_1 _))))
 obtain ⟨o,ho,hc⟩:=he
 refine wpAny_bind (wpAny_isInstance (T:="StopIteration") (b:=true) ⟨o,ho,hc⟩ isSubtype_stop (wpAny_pure (hQ _ hk)))
end
structure ZS (P:Program) (w:World) (K:PySem.W.Frag) (a it:Addr) (Sq:Hp->List V->Prop) (IT:Nat->Heap->Prop):Prop where
 obj: ∀i h,IT i h-> ∃o,h.get? it=some o/\ ∀v,o.data≠ .cell v
 keep: ∀i h h',IT i h->(∀o,h.get? it=some o->h'.get? it=some o)->IT i h'
 inj: ∀(X:Cx),X.K=K-> ∀(pins:List (Addr×Obj)) (s:Shared) (σ:St) (H:Hp),Inv X pins σ H s-> ∀xs ys,Sq H xs->Sq H ys->xs=ys
 draws: ∀(X:Cx),X.prog=P->X.w=w->X.K=K->X.calm=true-> ∀(pins:List (Addr×Obj)) (s:Shared) (σ:St) (H:Hp),Inv X pins σ H s-> ∀xs,Sq H xs->a≠it->
  ∃(aD:List Value) (SS:Nat->Heap->Prop),Vals xs aD/\Draws P w X.A.in1 it [it,a] aD.length (fun i v=>aD[i]? =some v) SS/\(∀i,IT i s.heap->SS i s.heap)/\ ∀i h,SS i h->IT i h
theorem Kj {P:Program} {w:World} {K:PySem.W.Frag} (a it:Addr):ZS P w K a it (fun H xs=>cU K H a xs) (fun i h=>h.IsTupleIter it a i) where
 obj:=fun i h st=>by
  obtain ⟨o,ho,hc,hd⟩:=st
  exact ⟨o,ho,fun v z=>by rw[hd]at z;cases z⟩
 keep:=fun i h h' st k=>by
  obtain ⟨o,ho,r⟩:=st
  exact ⟨o,k o ho,r⟩
 inj:=fun X hK pins s σ H I xs ys h1 h2=>by subst hK;exact I.kR h1 h2
 draws:=fun X hP hw hK hc pins s σ H I xs hq ne=>by
  subst hP hw hK
  obtain ⟨aD,rv,p,_⟩:=I.tuple hq
  have D:=iQ (prog:=X.prog) (w:=X.w) (A:=X.A.in1) (I.ok.hd hc) it a ne aD.toArray
  refine ⟨aD,fun i h=>h.IsTupleIter it a i/\h.IsTuple a aD.toArray,rv,?_,fun i h=>⟨h,p⟩,fun i h z=>z.1⟩
  have e:aD.toArray.size=aD.length:=Qad
  rw[<-e]
  refine ⟨D.live,D.frame,fun i s Q E hi st q=>D.item i s Q E hi st fun x h' tk hx=>q x h' tk (by simpa using hx),D.done⟩
theorem Kk {P:Program} {w:World} {K:PySem.W.Frag} (a it:Addr):ZS P w K a it (fun H xs=>aN K H a xs) (fun i h=>h.IsListIter it a i) where
 obj:=fun i h st=>by
  obtain ⟨o,ho,hc,hd⟩:=st
  exact ⟨o,ho,fun v z=>by rw[hd]at z;cases z⟩
 keep:=fun i h h' st k=>by
  obtain ⟨o,ho,r⟩:=st
  exact ⟨o,k o ho,r⟩
 inj:=fun X hK pins s σ H I xs ys h1 h2=>by subst hK;exact I.m_ h1 h2
 draws:=fun X hP hw hK hc pins s σ H I xs hq ne=>by
  subst hP hw hK
  obtain ⟨aD,rv,p,_⟩:=I.list hq
  have D:=Draws.list (prog:=X.prog) (w:=X.w) (A:=X.A.in1) (I.ok.hd hc) it a ne aD.toArray
  refine ⟨aD,fun i h=>h.IsListIter it a i/\h.IsList a aD.toArray,rv,?_,fun i h=>⟨h,p.isList⟩,fun i h z=>z.1⟩
  have e:aD.toArray.size=aD.length:=Qad
  rw[<-e]
  refine ⟨D.live,D.frame,fun i s Q E hi st q=>D.item i s Q E hi st fun x h' tk hx=>q x h' tk (by simpa using hx),D.done⟩
noncomputable def NF (Sq1 Sq2:Hp->List V->Prop):It:=⟨fun i H=> ∃xs ys x y,Sq1 H xs/\Sq2 H ys/\xs[i]? =some x/\ys[i]? =some y,
 fun i H x H'=> ∃T u v,(∀xs,Sq1 H xs->xs[i]? =some u)/\(∀ys,Sq2 H ys->ys[i]? =some v)/\x= .ref T/\H T=none/\H'=upd H T (.tup [u,v]),
 fun i H=> ∃xs,Sq1 H xs/\(∃ys,Sq2 H ys)/\xs.length=i⟩
theorem Cu {P:Program} {w:World} {K:PySem.W.Frag} {elts:List Expr} {k:Nat} {pos:Pos} {a1 a2 z TI TO i1 i2:Addr} {Sq1 Sq2:Hp->List V->Prop} {I1 I2:Nat->Heap->Prop}
  (W1:ZS P w K a1 i1 Sq1 I1) (W2:ZS P w K a2 i2 Sq2 I2) (Z:ZA z TI TO i1 i2 [i1,a1] [i2,a2]) (n1:a1≠i1) (n2:a2≠i2):
  Turn P w K (.Tuple elts k pos) (NF Sq1 Sq2) [z,TI,TO,i1,i2] z (fun i h=>IsZip h z TI TO .none/\IsPair h TI (.ref i1) (.ref i2)/\(∃a b,IsPair h TO a b)/\I1 i h/\I2 i h) where
 mem:=by simp
 obj:=fun i h st b hb=>by
  obtain ⟨q1,q2,⟨a,b',q3⟩,q4,q5⟩:=st
  simp only[XB,Qam,or_false]at hb
  rcases hb with g | g | g | g | g<;>rw[g]
  ·exact ⟨_,q1,fun v z=>by cases z⟩
  ·exact ⟨_,q2,fun v z=>by cases z⟩
  ·exact ⟨_,q3,fun v z=>by cases z⟩
  ·exact W1.obj i h q4
  ·exact W2.obj i h q5
 keep:=fun i h h' st kp=>by
  obtain ⟨q1,q2,⟨a,b',q3⟩,q4,q5⟩:=st
  exact ⟨kp z (by simp) _ q1,kp TI (by simp) _ q2,⟨a,b',kp TO (by simp) _ q3⟩,W1.keep _ _ _ q4 fun o e=>kp i1 (by simp) o e,W2.keep _ _ _ q5 fun o e=>kp i2 (by simp) o e⟩
 item:=by
  intro X hP hw hK hc i pins s σ H E I hf st hg
  obtain ⟨q1,q2,⟨a,b',q3⟩,q4,q5⟩:=st
  obtain ⟨xs,ys,x,y,hx,hy,gx,gy⟩:=hg
  obtain ⟨xi,SX,rx,DX,ux,vx⟩:=W1.draws X hP hw hK hc pins s σ H I xs hx n1
  obtain ⟨yi,SY,ry,DY,uy,vy⟩:=W2.draws X hP hw hK hc pins s σ H I ys hy n2
  obtain ⟨u0,hu,ru⟩:=rx.get gx
  obtain ⟨w0,NG,ZM⟩:=ry.get gy
  have ZN:=W1.inj X hK pins s σ H I
  have ZO:=W2.inj X hK pins s σ H I
  subst hP hw hK
  refine xg DX DY Z q1 q2 q3 (ux i q4) (uy i q5) (Xy.mp hu).1 (Xy.mp NG).1 fun x2 y2 h' tk p1 p2 e1 e2 e3 e4 e5 e6 e7=>⟨_,rfl,?_⟩
  have ex:x2=u0:=Qae (p1.symm.trans hu)
  have ey:y2=w0:=Qae (p2.symm.trans NG)
  subst ex
  subst ey
  have lt: ∀{c o},s.heap.get? c=some o->s.heap.objs.size≠c:=fun e=>Qb4 (Qac e)
  obtain ⟨o1,g1⟩:=DX.live _ _ (ux i q4)
  obtain ⟨o2,g2⟩:=DY.live _ _ (uy i q5)
  have Eh:s.heap.objs.size∉[z,TI,TO,i1,i2]:=by
   simp only[XB,Qam,or_false,not_or]
   exact ⟨lt q1,lt q2,lt q3,lt g1,lt g2⟩
  refine wpAny_letOwnedTupleGo_zip e1 fun h2 z2 sb=>?_
  have kk: ∀b o,b∉[z,TI,TO,i1,i2]->s.heap.get? b=some o->h2.get? b=some o:=fun b o hb e=>by
   simp only[XB,Qam,or_false,not_or]at hb
   exact sb.extBut _ _ hb.1 (e7 b o hb.1 hb.2.2.1 hb.2.2.2.1 hb.2.2.2.2 e)
  have nK:h2.IsTuple s.heap.objs.size #[x2,y2]:=⟨_,sb.extBut _ _ (lt q1) e5,rfl,_,rfl⟩
  refine ⟨.ref s.heap.objs.size,upd H s.heap.objs.size (.tup [x,y]),?_,rfl,⟨s.heap.objs.size,x,y,fun zs SG=>by rw[ZN zs xs SG hx];exact gx,fun zs SG=>by rw[ZO zs ys SG hy];exact gy,rfl,I.bg.fresh (XA _),rfl⟩,
   ⟨z2,sb.extBut _ _ Z.tz (e7 _ _ Z.tz Z.tt Z.t1 Z.t2 q2),⟨_,_,sb.extBut _ _ Z.oz e2⟩,vx _ _ (DX.frame _ _ _ e3 fun c hc o e=>sb.extBut _ _ (nm hc Z.z1) e),vy _ _ (DY.frame _ _ _ e4 fun c hc o e=>sb.extBut _ _ (nm hc Z.z2) e)⟩,fun b hb=>?_⟩
  ·refine I.kf (t':=tk) (h':=h2) kk hf (XA _) ?_
   exact ⟨by show 2<=sizeLine;decide,[x2,y2], .cons ru (.cons ZM .nil),nK⟩
  ·rw[ao (fun q:b=s.heap.objs.size=>Eh (q▸hb))];exact (hf b hb).1
 done:=by
  intro X hP hw hK hc i pins s σ H E I hf st hg
  obtain ⟨q1,q2,⟨a,b',q3⟩,q4,q5⟩:=st
  obtain ⟨xs,hx,⟨ys,hy⟩,el⟩:=hg
  obtain ⟨xi,SX,rx,DX,ux,vx⟩:=W1.draws X hP hw hK hc pins s σ H I xs hx n1
  have hl:=rx.length
  subst hP hw hK
  have e0:i=xi.length:=by omega
  subst e0
  refine Ae DX Z q1 q2 q3 (ux _ q4) fun h' hk=>⟨rfl,I.mW (t':=s.toks) (ch:=[z,TI,TO,i1,i2]) (fun b o hb e=>?_) hf⟩
  simp only[XB,Qam,or_false,not_or]at hb
  exact hk b o hb.1 hb.2.2.1 hb.2.2.2.1 hb.2.2.2.2 e
 self:=fun _ _ s _ _ st h=>wpAny_pyIter_zip st.1 h
noncomputable abbrev NH (h:Heap) (c:String) (l:Addr):Heap:=h.push { cls:= .type c,data:= .fields #[.ref l, .int 0 0] }
noncomputable abbrev QH (h:Heap) (c d:String) (l m:Addr):Heap:=NH (NH h c l) d m
noncomputable abbrev QI (h:Heap) (c d:String) (l m:Addr):Heap:=(QH h c d l m).push { cls:= .type "tuple",data:= .seq #[.ref h.objs.size, .ref (NH h c l).objs.size] }
noncomputable abbrev NI (h:Heap) (c d:String) (l m:Addr):Heap:=(QI h c d l m).push { cls:= .type "tuple",data:= .seq #[.none, .none] }
noncomputable abbrev Kl (h:Heap) (c d:String) (l m:Addr):Heap:=(NI h c d l m).push { cls:= .type "zip",data:= .fields #[.none, .bool false, .bool false, .ref (QH h c d l m).objs.size, .ref (QI h c d l m).objs.size] }
theorem uB (l m:Addr) (xs ys:Array Value):Meets (Builtin.«zip.__new__» ⟨[.type "zip", .ref l, .ref m],[]⟩) (fun _ R s=>s.heap.IsList l xs/\s.heap.IsTuple m ys/\R (.ok (.ret (.ref (NI s.heap "list_iterator" "tuple_iterator" l m).objs.size))) { s with heap:=Kl s.heap "list_iterator" "tuple_iterator" l m }):=
 .of_wp fun prog w A R s h=>by
  obtain ⟨hp,g,d,tk,os⟩:=s;obtain ⟨q1,q2,h⟩:=h;have z9:=sub_zip
  have k1:Heap.IsList (Shared.heap ⟨hp,g,d,tk,os⟩) l xs:=q1
  have k2:Heap.IsTuple (Shared.heap ⟨hp.push { cls:= .type "list_iterator",data:= .fields #[.ref l, .int 0 0] },g,d,tk,os⟩) m ys:=by
   obtain ⟨o,e,r⟩:=q2
   exact ⟨o,JR _ e,r⟩
  wp_walk using wpAny_pyIter_list k1,wpAny_pyIter_tuple k2
  exact ⟨_,rfl,h⟩
def XH (c d:String) (P1 P2:Heap->Prop) (l m:Addr):Prop:= ∀(prog:Program) (w:World) (A:Around) (E:Value->Shared->Prop) (s:Shared) (Q:Value->Shared->Prop),P1 s.heap->P2 s.heap->
  (∀h',IsZip h' (s.heap.objs.size+4) (s.heap.objs.size+2) (s.heap.objs.size+3) .none->IsPair h' (s.heap.objs.size+2) (.ref s.heap.objs.size) (.ref (s.heap.objs.size+1))->
   IsPair h' (s.heap.objs.size+3) .none .none->h'.get? s.heap.objs.size=some { cls:= .type c,data:= .fields #[.ref l, .int 0 0] }->h'.get? (s.heap.objs.size+1)=some { cls:= .type d,data:= .fields #[.ref m, .int 0 0] }->
   (∀b o,s.heap.get? b=some o->h'.get? b=some o)->Q (.ref (s.heap.objs.size+4)) { s with heap:=h' })->
  wpAny (model prog w) A (call (.type "zip") [.ref l, .ref m]) Q E s
theorem Km {c d:String} {P1 P2:Heap->Prop} {l m:Addr} (M:Meets (Builtin.«zip.__new__» ⟨[.type "zip", .ref l, .ref m],[]⟩) (fun _ R s=>P1 s.heap/\P2 s.heap/\R (.ok (.ret (.ref (NI s.heap c d l m).objs.size))) { s with heap:=Kl s.heap c d l m })):XH c d P1 P2 l m:=by
 intro prog w A E s Q p1 p2 h
 refine callType_new F.called_zip (by decide) (F.typeCall_zip_2 _ _) (F.newCall_zip_2 _ _) (fun ob=>F.args_object_init_3 ob _ _) F.entry_zip_new M ⟨p1,p2,?_⟩
 have e1:(NH s.heap c l).objs.size=s.heap.objs.size+1:=Qbx ..
 have e2:(QH s.heap c d l m).objs.size=s.heap.objs.size+2:=by rw[Qbx,e1]
 have e3:(QI s.heap c d l m).objs.size=s.heap.objs.size+3:=by rw[Qbx,e2]
 have e4:(NI s.heap c d l m).objs.size=s.heap.objs.size+4:=by rw[Qbx,e3]
 have g5:(Kl s.heap c d l m).get? (NI s.heap c d l m).objs.size=some _:=Qai _ rfl
 have g4:(Kl s.heap c d l m).get? (QI s.heap c d l m).objs.size=some _:=JR _ (Qai _ rfl)
 have g3:(Kl s.heap c d l m).get? (QH s.heap c d l m).objs.size=some _:=JR _ (JR _ (Qai _ rfl))
 have g2:(Kl s.heap c d l m).get? (NH s.heap c l).objs.size=some _:=JR _ (JR _ (JR _ (Qai _ rfl)))
 have g1:(Kl s.heap c d l m).get? s.heap.objs.size=some _:=JR _ (JR _ (JR _ (JR _ (Qai _ rfl))))
 show _/\_
 rw[e2,e3,e4]at g5
 rw[e1,e2]at g3
 rw[e3]at g4
 rw[e1]at g2
 rw[e4]
 exact ⟨⟨_,g5,rfl⟩,h _ g5 g3 g4 g1 g2 fun b o x=>JR _ (JR _ (JR _ (JR _ (JR _ x))))⟩
theorem Mr {a b c:Nat} (h1:a≠b) (h2:a≠c):(a:Addr)∉([b,c]:List Addr):=fun h=>by
 rcases XB.mp h with e | e
 ·exact h1 e
 ·exact h2 (QB.mp e)
theorem NJ {a b:Nat} (h:a≠b):(a:Addr)≠(b:Addr):=h
theorem Kn {n l m:Nat} (h1:l<n) (h2:m<n):ZA (n+4:Nat) (n+2:Nat) (n+3:Nat) n (n+1:Nat) [n,l] [(n+1:Nat),m]:=
 ⟨ZC,ZC,Mr (a:=n+4) (b:=n) (c:=l) (by omega) (by omega),Mr (a:=n+4) (b:=n+1) (c:=m) (by omega) (by omega),Mr (a:=n+3) (b:=n) (c:=l) (by omega) (by omega),Mr (a:=n+3) (b:=n+1) (c:=m) (by omega) (by omega),
  Mr (a:=n) (b:=n+1) (c:=m) (by omega) (by omega),Mr (a:=n+1) (b:=n) (c:=l) (by omega) (by omega),NJ (a:=n+2) (b:=n+4) (by omega),NJ (a:=n+2) (b:=n+3) (by omega),NJ (a:=n+2) (b:=n) (by omega),NJ (a:=n+2) (b:=n+1) (by omega),NJ (a:=n+3) (b:=n+4) (by omega)⟩
end
def NK (Sq1 Sq2:Addr->Hp->List V->Prop) (ta:TA):TI:=fun σ H R=>ta σ H fun vs H1=> ∃a b,vs=[.ref a, .ref b]/\(∃xs,Sq1 a H1 xs)/\(∃ys,Sq2 b H1 ys)/\R (NF (Sq1 a) (Sq2 b)) H1
abbrev NL (K:PySem.W.Frag):Addr->Hp->List V->Prop:=fun a H xs=>cU K H a xs
abbrev NM (K:PySem.W.Frag):Addr->Hp->List V->Prop:=fun a H xs=>aN K H a xs
section
variable {X:Cx} {elts:List Expr} {k:Nat} {pos':Pos} {a b:Expr} {ta:TA} {p pos:Pos}
theorem Fh {Sq1 Sq2:Addr->Hp->List V->Prop} (hg:Gl X "zip") (hm:X.mg "zip"=none) (ha:PA X [a,b] ta) (hs:starEach [a,b] X.env=[(false,eval a X.env),(false,eval b X.env)]) (EK:starEach [b] X.env=[(false,eval b X.env)])
  (hk: ∀(pins:List (Addr×Obj)) (s:Shared) (σ:St) (H:Hp),Inv X pins σ H s-> ∀u v xs ys,Sq1 u H xs->Sq2 v H ys->u<s.heap.objs.size/\v<s.heap.objs.size/\ ∃(c d:String) (P1 P2:Heap->Prop) (I1 I2:Nat->Heap->Prop),XH c d P1 P2 u v/\P1 s.heap/\P2 s.heap/\
   ZS X.prog X.w X.K u s.heap.objs.size (Sq1 u) I1/\ZS X.prog X.w X.K v (s.heap.objs.size+1) (Sq2 v) I2/\(∀h':Heap,h'.get? s.heap.objs.size=some { cls:= .type c,data:= .fields #[.ref u, .int 0 0] }->I1 0 h')/\ ∀h':Heap,h'.get? (s.heap.objs.size+1)=some { cls:= .type d,data:= .fields #[.ref v, .int 0 0] }->I2 0 h'):
  PI X (.Tuple elts k pos') (.Call (.Name "zip" p) [a,b] [] pos) (NK Sq1 Sq2 ta):=by
 intro pins s σ H R I h
 refine Call_ (gv I hg hm boot_zip (Qbw (bN (ha pos pins s σ H _ I h) fun us s1 ⟨vs,H1,I1,r1,q1⟩=>?_) (by rw[hs,EK]) (by rw[EK];rfl)))
 obtain ⟨u,v,rfl,⟨xs,hx⟩,⟨ys,hy⟩,q⟩:=q1
 obtain ⟨u',v',rfl,ru,rv⟩:=vals2 r1
 cases ru
 cases rv
 obtain ⟨lu,lv,c,d,P1,P2,J1,J2,M,p1,p2,W1,W2,j1,j2⟩:=hk pins s1 σ H1 I1 u v xs ys hx hy
 refine M X.prog X.w X.A X.xe s1 _ p1 p2 fun h' z1 z2 z3 z4 z5 kk=>wpAny_pyIter_zip z1 ?_
 refine ⟨s1.heap.objs.size+4,[s1.heap.objs.size+4,s1.heap.objs.size+2,s1.heap.objs.size+3,s1.heap.objs.size,s1.heap.objs.size+1],_,_,H1,rfl,I1.kept (t':=s1.toks) kk,Cu W1 W2 (Kn lu lv) (Qa0 lu) (Qa0 (Qb9 lv)),⟨z1,z2,⟨_,_,z3⟩,j1 h' z4,j2 h' z5⟩,fun e he=>?_,q⟩
 have XI:s1.heap.objs.size<=e:=by
  simp only[XB,Qam,or_false]at he
  rcases he with g | g | g | g | g<;>rw[g]<;>omega
 exact I1.kW XI (I1.bg.fresh XI)
theorem Cv (K:PySem.W.Frag) (hK:X.K=K) (hg:Gl X "zip") (hm:X.mg "zip"=none) (ha:PA X [a,b] ta) (hs:starEach [a,b] X.env=[(false,eval a X.env),(false,eval b X.env)]:=by rfl) (EK:starEach [b] X.env=[(false,eval b X.env)]:=by rfl):PI X (.Tuple elts k pos') (.Call (.Name "zip" p) [a,b] [] pos) (NK (NM K) (NL K) ta):=by
 subst hK
 refine Fh hg hm ha hs EK fun pins s σ H I u v xs ys hx hy=>?_
 obtain ⟨xi,_,px,_⟩:=I.list hx
 obtain ⟨yi,_,py,_⟩:=I.tuple hy
 obtain ⟨ox,ex,_⟩:=id px.isList
 obtain ⟨oy,ey,_⟩:=id py
 exact ⟨Qac ex,Qac ey,_,_,(fun h=>h.IsList u xi.toArray),(fun h=>h.IsTuple v yi.toArray),_,_,Km (uB u v xi.toArray yi.toArray),px.isList,py,Kk u _,Kj v _,fun h' e=>⟨_,e,rfl,rfl⟩,fun h' e=>⟨_,e,rfl,rfl⟩⟩
end
theorem Fi {Sq1 Sq2:Hp->List V->Prop} {xs ys:List V} {g:TG} {tb:TS} {D:Ends} {σ:St} {H:Hp} (Pv:Nat->St->Hp->Prop) (hlen:xs.length=ys.length) (h0:Pv 0 σ H) (hl: ∀i σ H,i<=xs.length->Pv i σ H->Sq1 H xs/\Sq2 H ys)
  (hs: ∀i x y σ H T,xs[i]? =some x->ys[i]? =some y->Pv i σ H->H T=none->g (.ref T) σ (upd H T (.tup [x,y])) fun σ2 H2=>tb { D with nx:=Pv (i+1),ct:=Pv (i+1),bk:=D.nx } σ2 H2) (hd: ∀σ H,Pv xs.length σ H->D.nx σ H):
  ∃W:Nat->Nat->St->Hp->Prop,(∃m,W 0 m σ H)/\ ∀i m σ H,W i m σ H->
   ((NF Sq1 Sq2).stop i H/\D.nx σ H)\/((NF Sq1 Sq2).go i H/\ ∃N:St->Hp->Prop,(∀σ' H',N σ' H'-> ∃m',m'<m/\W (i+1) m' σ' H')/\ ∀x H',(NF Sq1 Sq2).yg i H x H'->g x σ H' fun σ2 H2=>tb { D with nx:=N,ct:=N,bk:=D.nx } σ2 H2):=by
 refine ⟨fun i m σ H=>m=xs.length - i/\i<=xs.length/\Pv i σ H,⟨xs.length,by simp,Qaq _,h0⟩,?_⟩
 rintro i m σ H ⟨rfl,hi,p⟩
 obtain ⟨q1,q2⟩:=hl i σ H hi p
 by_cases bW:i<xs.length
 ·have SH:i<ys.length:=by omega
  refine .inr ⟨⟨xs,ys,xs[i],ys[i],q1,q2,by simp[bW],by simp[SH]⟩,Pv (i+1),fun σ' H' p'=>⟨xs.length - (i+1),by omega,rfl,bW,p'⟩,fun x H' y=>?_⟩
  obtain ⟨T,u,v,hu,hv,rfl,hn,rfl⟩:=y
  exact hs i u v σ _ T (hu xs q1) (hv ys q2) p hn
 ·have e:i=xs.length:=by omega
  subst e
  exact .inl ⟨⟨xs,q1,⟨ys,q2⟩,rfl⟩,hd σ H p⟩
section
variable {X:Cx}
def SI (K:PySem.W.Frag):R2:=fun x y H Q=> ∃dx ds,nJ K H x dx/\nJ K H y (.list ds)/\(dx.canLay0=true/\PyData.canLayAll0 ds=true)/\dx.depth<=60/\Q (.bl (ds.any fun d=>PyData.eqv d dx)) H
theorem Ko {k:Nat} (K:PySem.W.Frag) (h:X.K=K) (hr:cj k X.A):iK X (compareOp .In) (SI K):=by
 subst h
 intro pins s σ H x y v u Q I rx ry h
 obtain ⟨dx,ds,h1,h2,⟨h3,h4⟩,h5,q⟩:=h
 obtain ⟨as,ra⟩:=h1.reads I rx
 obtain ⟨bs,rb⟩:=h2.reads I ry
 have hu:=hr.units
 have hm:min (PyData.depthAll ds) dx.depth<=60:=Qa1 (Nat.min_le_right _ _) h5
 exact SeqAt.in_list_reads rb ra h4 h3 (by omega) ⟨.bl _,H,I,rfl,q⟩
end
end L2
namespace L2
open PySem PySem.Spec PyProof.Rows PySem.MeetsSeq PySem.SeqAt
section
variable {X:Cx}
end
end L2
set_option maxHeartbeats 4000000
namespace XL
open PySem PySem.Spec PySem.Calls PyProof.Rows PySem.W Builtin Builtin.ObjectAttr
noncomputable abbrev VB:List Value:=[.type "ValueError", .type "Exception", .type "BaseException", .type "object"]
noncomputable def NN (K:Frag) (C:Addr):Bool:=match K.lookup C with
 | some ⟨.type "type",_, .cls cd,sl⟩=>sl.size==6&&(match sl[4]? with
  | some (some (Value.builtin n))=>n=="ValueError.__new__"
  | _=>false)&&(match cd.mro with
  | .ref C'::bm=>C'==C&&!cd.hasDel&&cd.hasDict&&tailIn K VB bm&&nsOkIn K cd.ns
  | _=>false)
 | _=>false
theorem Kq {α:Type}: ∀{l:List α},l.length=6-> ∃a b c d e f,l=[a,b,c,d,e,f]
 | [a,b,c,d,e,f],_=>⟨a,b,c,d,e,f,rfl⟩
structure uC (K:Frag) (h:Heap) (C:Addr):Prop where
 obj: ∃bm N nm q bs sn sub ab col dd k0 k1 k2 k3 k5 mN,h.get? C=some (excClassObj nm q C N bs bm true sn sub ab col dd k0 k1 k2 k3 k5 "ValueError.__new__")/\h.Ns N mN/\OwnTail h VB bm/\clsIn K C=some { name:=nm,bases:=bs,mro:= .ref C::bm,ns:=N,qualname:=q,hasDict:=true,slotNames:=sn,subclasses:=sub,abstract:=ab,collection:=col,hasDel:=false }
theorem dZ {K:Frag} {h:Heap} {C:Addr} (X:K.In h) (e:NN K C=true):uC K h C:=by
 unfold NN at e
 split at e
 ·rename_i dd cd sl ho
  rw[Qcg,Qcg]at e
  obtain ⟨⟨h6,h4⟩,e⟩:=e
  split at h4
  ·rename_i n ZP
   split at e
   ·rename_i C' bm hm
    simp only[Qcg,beq_iff_eq,Bool.not_eq_true']at e h4 h6
    obtain ⟨⟨⟨⟨rfl,NO⟩,NP⟩,ht⟩,bg⟩:=e
    subst h4
    obtain ⟨nm,bs,mro,ns,qn,hd,sn,sub,ab,col,del⟩:=cd
    dsimp only at hm NO bg NP
    subst hm NO NP
    obtain ⟨l⟩:=sl
    obtain ⟨k0,k1,k2,k3,k4,k5,rfl⟩:=Kq h6
    obtain rfl:k4=some (.builtin "ValueError.__new__"):=Qae ZP
    exact ⟨bm,ns,nm,qn,bs,sn,sub,ab,col,dd,k0,k1,k2,k3,k5,_,X _ _ ho, .of_isNs (isNs_of_in X bg),tail_of_in X ht,by unfold clsIn;rw[ho]⟩
   ·cases e
  ·cases h4
 ·cases e
theorem iA {α:Type} {M:Model} {A:Around} {E:Value->Shared->Prop} {h:Heap} {g:Array GenState} {d:Drawn} {t:Nat} {os:OsState} {T:Sem α} {r:α} {Q:α->Shared->Prop} (x:Looks M h T r) (q:Q r ⟨h,g,d,t,os⟩):wpAny M A T Q E ⟨h,g,d,t,os⟩:=x A Q E _ (fun _ _ e=>e) q
noncomputable abbrev gA (C t:Addr):Obj:={ cls:= .ref C,data:= .fields #[.ref t, .none, .none, .none, .bool false, .none] }
section
variable {prog:Program} {w:World} {A:Around} {E:Value->Shared->Prop} {h:Heap} {g:Array GenState} {d:Drawn} {t:Nat} {os:OsState} {K:Frag} {C:Addr}
theorem uD {rest:List Value} {init:Value} {Q:Fin->Shared->Prop} (X:uC K h C) (hi:Looks (model prog w) h (typeLookup (.ref C) "__init__") (some init)) (hb: ∀self,Looks (model prog w) h (bindSpecial init self) (init,[self])) (jF:rest.length<=sizeLine)
  (hq:wpAny (model prog w) A (call init (.ref (h.objs.size+1)::rest)) (fun v s'=>v= .none/\Q (.done (.ret (.ref (h.objs.size+1)))) s') E ⟨(h.push { cls:= .type "tuple",data:= .seq rest.toArray }).push (gA C h.objs.size),g,d,t,os⟩):
  wpAny (model prog w) A (Builtin.«type.__call__» ⟨.ref C::rest,[]⟩) Q E ⟨h,g,d,t,os⟩:=by
 obtain ⟨bm,N,nm,q,bs,sn,sub,ab,col,dd,k0,k1,k2,k3,k5,mN,hC,hn,T,_⟩:=X.obj
 have F:=PySem.F.excBase_ValueError
 repeat (first | with_reducible refine wpAny_loadPart_at hC ?_ | with_reducible refine wpAny_madeBy_exc hC ?_ | wp_step)
 refine codeAny_call_builtin_code (Code.quiet_builtin _ F.quiet) (wpAny_check_new_subT F T hC ?_)
 refine codeAny_exc_new_subT F T hC ?_ jF
 show wpAny _ _ _ _ _ _
 have kp: ∀b o,h.get? b=some o->((h.push { cls:= .type "tuple",data:= .seq rest.toArray }).push (gA C h.objs.size)).get? b=some o:=fun b o e=>JR _ (JR _ e)
 have ZQ:=kp _ _ hC
 have Af:((h.push { cls:= .type "tuple",data:= .seq rest.toArray }).push (gA C h.objs.size)).get? (h.objs.size+1)=some (gA C h.objs.size):=by heap_get
 have SJ:(Value.ref C::bm).contains (.ref C)=true:=by simp
 have i1:=hi.keeps kp
 have b1:=(hb (.ref (h.objs.size+1))).keeps kp
 unfold isInstance
 repeat (first | with_reducible refine wpAny_loadPart_at Af ?_ | (with_reducible refine wpAny_isSubtype_exc ZQ ?_;rw[SJ]) | wp_step)
 show wpAny _ _ (typeLookup (.ref C) _) _ _ _
 refine i1.here ?_
 refine wpAny_holding (wpAny_bind (b1.here ?_))
 refine wpAny_bind (wpAny_mono hq (fun v s' z=>?_) fun _ _ e=>e)
 obtain ⟨rfl,z⟩:=z
 exact wpAny_pure (wpAny_pure z)
theorem x_call {rest:List Value} {init:Value} {Q:Value->Shared->Prop} (X:uC K h C) (hi:Looks (model prog w) h (typeLookup (.ref C) "__init__") (some init)) (hb: ∀self,Looks (model prog w) h (bindSpecial init self) (init,[self])) (jF:rest.length<=sizeLine)
  (hq:wpAny (model prog w) (A.under (.builtin "type.__call__" ⟨.ref C::rest,[]⟩)) (call init (.ref (h.objs.size+1)::rest)) (fun v s'=>v= .none/\Q (.ref (h.objs.size+1)) s') E ⟨(h.push { cls:= .type "tuple",data:= .seq rest.toArray }).push (gA C h.objs.size),g,d,t,os⟩):
  wpAny (model prog w) A (call (.ref C) rest) Q E ⟨h,g,d,t,os⟩:=by
 obtain ⟨bm,N,nm,q,bs,sn,sub,ab,col,dd,k0,k1,k2,k3,k5,mN,hC,hn,T,_⟩:=X.obj
 have f1:=tc_lookup
 have f2:=tc_bind (.ref C)
 have hT:(⟨h,g,d,t,os⟩:Shared).TypeIs (.ref C) "type":=⟨_,hC,rfl⟩
 refine wpAny_call (codeAny_of_tree ?_)
 show wpAny _ _ (callAny (.ref C) _) _ _ _
 repeat (any_goals (first | assumption | with_reducible refine wpAny_loadPart_at hC ?_ | wp_step))
 refine ⟨rfl,?_⟩
 exact codeAny_call_builtin_at (Code.quiet_builtin _ (by decide+kernel)) entry_typeCall (wpAny_check_type_call_sub hC (uD X hi hb jF hq))
theorem Kr {rest:List Value} {e:Addr} {oe:Obj} {vs:Array Value} {Q:Value->Shared->Prop} (X:uC K h C) (he:h.get? e=some oe) (hc:oe.cls= .ref C) (hd:oe.data= .fields vs) {t0:Addr} (h0:vs[0]? =some (.ref t0)) (jF:rest.length<=sizeLine)
  (hq:Q .none ⟨(h.push { cls:= .type "tuple",data:= .seq rest.toArray }).update e (Obj.mapFields (·.setIfInBounds 0 (.ref h.objs.size))),g,d,t,os⟩):
  wpAny (model prog w) A (call (.builtin "ValueError.__init__") (.ref e::rest)) Q E ⟨h,g,d,t,os⟩:=by
 obtain ⟨bm,N,nm,q,bs,sn,sub,ab,col,dd,k0,k1,k2,k3,k5,mN,hC,hn,T,_⟩:=X.obj
 have F:=PySem.F.excBase_ValueError
 refine wpAny_call (codeAny_call_builtin F.init.plain F.initEntry (wpAny_check_init_subT F T hC he hc ?_))
 wp_walk
 rw[hd]
 refine wpAny_pure ?_
 rw[h0]
 refine wpAny_pure (wpAny_bind ?_)
 have hsz:0<vs.size:=(Qcb.mp h0).1
 refine wpAny_setField (JR _ he) hd hsz ?_
 wp_walk
 exact hq
theorem uE {bm:List Value} (T:OwnTail h VB bm) (self:Value):refuseLoop self "__setattr__" bm=pure ():=by
 induction T with
 | base=>exact PySem.F.store_ValueError.passes self
 | own _ _ _ _ ih=>rw[refuseLoop_ref];exact ih
variable {x:Addr} {mA:Str->Option Value} {name:Str} {v:Value}
theorem Ks {o:Obj} {Q:Option Addr->Shared->Prop} (X:uC K h C) (hx:h.get? x=some o) (hc:o.cls= .ref C) (NQ: ∀c,o.data≠ .cls c)
  (h1: ∀dx,o.dict=some dx->Q (some dx) ⟨h,g,d,t,os⟩) (h2:o.dict=none->Q (some h.objs.size) ⟨(h.push emptyDict).update x fun o=>{ o with dict:=some h.objs.size },g,d,t,os⟩):
  wpAny (model prog w) A (instanceDict x true) Q E ⟨h,g,d,t,os⟩:=by
 obtain ⟨bm,N,nm,q,bs,sn,sub,ab,col,dd,k0,k1,k2,k3,k5,mN,hC,_⟩:=X.obj
 unfold instanceDict
 repeat (first | (with_reducible refine wpAny_loadPart_at hx ?_;rw[hc]) | with_reducible refine wpAny_loadPart_at hC ?_ | wp_step)
 cases e:o.dict with
 | some dx=>exact wpAny_pure (h1 dx e)
 | none=>
  have lay:wpAny (model prog w) A (do
    let d <-alloc { cls:= .type "dict",data:= .dict #[] }
    update x fun o=>{ o with dict:=some d }
    dictMade (.ref C) x d) Q E ⟨h,g,d,t,os⟩:=wpAny_bind (wpAny_alloc (wpAny_bind (wpAny_update (JR _ hx) (wpAny_pure (h2 e)))))
  obtain ⟨oc,od,Fj,wM⟩:=o
  cases Fj<;>first | exact lay | exact absurd rfl (NQ _)
theorem Hu {dx:Addr} {ns:List Str} {tk:Tok} {Q:Fin->Shared->Prop} (hn:h.Ns1 dx mA) (hw:Within mA ns) (hz:ns.length<sizeLine)
  (hq: ∀h',h'.Ns1 dx (fun y=>if y=name then some v else mA y)->Heap.SameBut dx h h'->Q (.done (.ret .none)) ⟨h',g,d,t+1,os⟩):wpAny (model prog w) A (storeInDict dx (.str name tk) name v) Q E ⟨h,g,d,t,os⟩:=by
 unfold storeInDict
 refine wpAny_bind (wpAny_pure (wpAny_bind (wpAny_nsSet1 hn fun h' n1 n2=>?_)))
 obtain ⟨oD,esD,epD,a1,a2,a3⟩:=n1.count (Within.cons name v hw)
 refine wpAny_bind (wpAny_lookBehind a1 (by rw[a2];exact pastItsLine_dict (Qa1 a3 (by rw[Zy];omega))) ?_)
 exact wpAny_pure (hq h' n1 n2)
theorem Fl {tk:Tok} {Q:Fin->Shared->Prop} {ns:List Str} (KI:K.In h) (X:uC K h C) (hn:findIn K (.ref C) name=some none) (I:h.Inst x C mA)
  (hq: ∀h' Fm,h'.Inst x C (fun y=>if y=name then some v else mA y)->
   (∀b o,b≠x->(∀o₀ dx,h.get? x=some o₀->o₀.dict=some dx->b≠dx)->h.get? b=some o->h'.get? b=some o)->
   (∀o₀,h.get? x=some o₀-> ∃o₁,h'.get? x=some o₁/\o₁.cls=o₀.cls/\o₁.data=o₀.data/\o₁.slots=o₀.slots/\(∀dx,o₀.dict=some dx->o₁.dict=some dx)/\(o₀.dict=none->o₁.dict=some h.objs.size))->Q (.done (.ret .none)) ⟨h',g,d,Fm,os⟩) (hw:Within mA ns) (hsz:ns.length<sizeLine):
  wpAny (model prog w) A (Builtin.«object.__setattr__» ⟨[.ref x, .str name tk,v],[]⟩) Q E ⟨h,g,d,t,os⟩:=by
 obtain ⟨bm,N,nm,q,bs,sn,sub,ab,col,dd,k0,k1,k2,k3,k5,mN,hC,_,T,_⟩:=X.obj
 obtain ⟨o,hx,hc,NQ,hd⟩:=I
 have t1:Looks (model prog w) h (typeOf (.ref x)) (.ref C):=hc▸(Looks.ld hx).andThen .now
 have same: ∀o₀,h.get? x=some o₀->o=o₀:=fun o₀ e=>Qae (hx.symm.trans e)
 rw[osa_eq]
 refine wpAny_bind ?_
 rw[refuse_eq]
 refine wpAny_bind (iA t1 (wpAny_bind (wpAny_mroOf_exc hC ?_)))
 rw[refuseLoop_ref,uE T]
 refine wpAny_pure (wpAny_bind (iA t1 (wpAny_bind (iA (looks_findIn KI hn) (wpAny_bind (wpAny_pure ?_))))))
 show wpAny _ _ (storeInOwnDict (.ref x) (.ref C) (.str name tk) name v false) _ _ _
 unfold storeInOwnDict
 refine wpAny_bind (wpAny_pure (wpAny_bind (Ks X hx hc NQ (fun dx e=>?_) (fun e=>?_))))
 ·rcases hd with ⟨z,_⟩ | ⟨ZR,e',ne,n1⟩
  ·rw[z]at e;cases e
  ·rw[e']at e
   cases e
   refine Hu n1 hw hsz fun h' n2 sb=>hq h' _ ⟨o,(sb.2 x ne.symm).trans hx,hc,NQ, .inr ⟨dx,e',ne,n2⟩⟩ (fun b ob _ away hb=>(sb.2 b (away o dx hx e')).trans hb) fun o₀ e0=>?_
   cases same o₀ e0
   exact ⟨o,(sb.2 x ne.symm).trans hx,rfl,rfl,rfl,fun _ y=>y,fun y=>by (rw[e']at y;cases y)⟩
 ·have empty: ∀n,mA n=none:=by
   rcases hd with ⟨_,z⟩ | ⟨ZR,e',_⟩
   ·exact z
   ·rw[e']at e;cases e
  have lt:x≠h.objs.size:=Qa0 (Qac hx)
  have live:Obj.isFreed { o with dict:=some h.objs.size }=false:=by
   have:=(Heap.get?_some_iff.mp hx).2
   obtain ⟨oc,od,Fj,wM⟩:=o
   cases Fj<;>first | rfl | exact this
  have gx:=Qby (fun o:Obj=>{ o with dict:=some h.objs.size }) (JR emptyDict hx) live
  have gd:((h.push emptyDict).update x fun o=>{ o with dict:=some h.objs.size }).get? h.objs.size=some emptyDict:=(Heap.get?_update_ne _ _ _ _ (Ne.symm lt)).trans (Heap.get?_push_at rfl rfl)
  have nd:((h.push emptyDict).update x fun o=>{ o with dict:=some h.objs.size }).Ns1 h.objs.size fun _=>none:=Heap.Ns1.of_empty ⟨_, #[],_,gd,rfl,fun y hy=>absurd hy (by simp),fun _=>rfl⟩
  have old: ∀b ob,b≠x->h.get? b=some ob->((h.push emptyDict).update x fun o=>{ o with dict:=some h.objs.size }).get? b=some ob:=fun b ob hb e=>(Heap.get?_update_ne _ _ _ _ hb).trans (JR _ e)
  refine Hu (ns:=[]) nd Within.nil (by decide) fun h' n2 sb=>hq h' _ ⟨_,(sb.2 x lt).trans gx,hc,NQ, .inr ⟨h.objs.size,rfl,Ne.symm lt,?_⟩⟩ (fun b ob hb _ eb=>(sb.2 b (Qa0 (Qac eb))).trans (old b ob hb eb)) fun o₀ e0=>?_
  ·obtain ⟨o',es,ep,y1,y2,y3,y4,y5⟩:=n2
   refine ⟨o',es,ep,y1,y2,y3,y4,fun y=>(y5 y).trans ?_⟩
   show (if y=name then some v else none)=if y=name then some v else mA y
   by_cases z:y=name
   ·rw[if_pos z,if_pos z]
   ·rw[if_neg z,if_neg z,empty]
  ·cases same o₀ e0
   exact ⟨_,(sb.2 x lt).trans gx,rfl,rfl,rfl,fun dx y=>by (rw[e]at y;cases y),fun _=>rfl⟩
theorem Hv {Q:Unit->Shared->Prop} {ns:List Str} (KI:K.In h) (X:uC K h C) (hs:findIn K (.ref C) "__setattr__"=some (some (.builtin "object.__setattr__"))) (hn:findIn K (.ref C) name=some none) (I:h.Inst x C mA)
  (hq: ∀h' Fm,h'.Inst x C (fun y=>if y=name then some v else mA y)->
   (∀b o,b≠x->(∀o₀ dx,h.get? x=some o₀->o₀.dict=some dx->b≠dx)->h.get? b=some o->h'.get? b=some o)->
   (∀o₀,h.get? x=some o₀-> ∃o₁,h'.get? x=some o₁/\o₁.cls=o₀.cls/\o₁.data=o₀.data/\o₁.slots=o₀.slots/\(∀dx,o₀.dict=some dx->o₁.dict=some dx)/\(o₀.dict=none->o₁.dict=some h.objs.size))->Q () ⟨h',g,d,Fm,os⟩) (hw:Within mA ns) (hsz:ns.length<sizeLine):
  wpAny (model prog w) A (setAttr (.ref x) name v) Q E ⟨h,g,d,t,os⟩:=by
 obtain ⟨bm,N,nm,q,bs,sn,sub,ab,col,dd,k0,k1,k2,k3,k5,mN,hC,_,T,_⟩:=X.obj
 obtain ⟨o,hx,hc,_⟩:=id I
 have SF:=PySem.F.store_ValueError
 have f3:=SF.slot.bind (.ref x)
 have L:=looks_findIn (M:=model prog w) KI hs
 have ZU:(Value.ref C::bm).contains (.type "object")=true:=by rw[Qdg,T.hasType (X:="object") (b:=true) (by decide+kernel),Qdo]
 unfold setAttr callSpecial? specialOf
 repeat (any_goals (first | assumption | (with_reducible refine wpAny_loadPart_at hx ?_;rw[hc]) | with_reducible refine iA L ?_ | wp_step))
 refine codeAny_call_builtin SF.slot.plain SF.entry ?_
 refine @check_slot (model prog w) _ _ _ "object.__setattr__" "object" "__setattr__" (.ref x) _ [] _ SF.kind SF.split ?_ (SF.args _ _ _) (Fl KI X hn I (fun h' Fm I' hk NR=>?_) hw hsz)
 ·have t1:Looks (model prog w) h (typeOf (.ref x)) (.ref C):=hc▸(Looks.ld hx).andThen .now
  refine t1.andThen ?_
  intro A Q E s k q
  obtain ⟨hh,gg,XJ,tt,XM⟩:=s
  refine wpAny_isSubtype_exc (k _ _ hC) ?_
  rw[ZU];exact q
 repeat (any_goals (first | assumption | wp_step))
 exact hq h' Fm I' hk NR
theorem NS {expr:Bool} {Q:Value->Shared->Prop} (KI:K.In h) (X:uC K h C) (ZV:findIn K (.ref C) "__getattribute__"=some (some (.builtin "BaseException.__getattribute__"))) (hk:findIn K (.ref C) "__getattr__"=some none)
  (hn:findIn K (.ref C) name=some none) {ox od:Obj} (I:InstAt h x ox C (some od)) (hl:lookIn name od=some (some v)) (hv:handedIn v=true) (hq:Q v ⟨h,g,d,t+1,os⟩):
  wpAny (model prog w) A (getAttr (.ref x) name expr) Q E ⟨h,g,d,t,os⟩:=by
 obtain ⟨bm,N,nm,q,bs,sn,sub,ab,col,dd,k0,k1,k2,k3,k5,mN,hC,_,T,lX⟩:=X.obj
 have hx:=I.at_
 have hc:=I.cls
 have FB:=PySem.F.attrBase_ValueError
 have f3:=FB.ga.bind (.ref x)
 have ZW:(expr&&onTheHeap (Value.builtin "BaseException.__getattribute__"))=false:=by cases expr<;>rfl
 have Fb:(Value.builtin "BaseException.__getattribute__"==Value.builtin "object.__getattribute__")=false:=by decide+kernel
 have ZX:(onTheHeap (Value.ref C)&&Value.builtin "BaseException.__getattribute__"==Value.builtin "object.__getattribute__")=false:=by rw[Fb];rfl
 have L1:=looks_findIn (M:=model prog w) KI ZV
 have L2:=looks_findIn (M:=model prog w) KI hk
 have Kt:(Value.ref C::bm).contains (.type "BaseException")=true:=by rw[Qdg,T.hasType (X:="BaseException") (b:=true) (by decide+kernel),Qdo]
 have hf:findObj K C (some od) name=some (.value v):=by
  unfold findObj
  rw[lX,hn]
  show (Option.bind (PySem.W.ownOf _ (some od) name) _)=_
  unfold PySem.W.ownOf
  rw[if_pos rfl]
  show (Option.bind (lookIn name od) _)=_
  rw[hl]
  rfl
 have t1:Looks (model prog w) h (typeOf (.ref x)) (.ref C):=hc▸(Looks.ld hx).andThen .now
 have LF:=looks_find (M:=model prog w) KI I hf
 unfold getAttr getAttrBy
 repeat (any_goals (first | assumption | (with_reducible refine wpAny_loadPart_at hx ?_;rw[hc]) | with_reducible refine iA L1 ?_ | with_reducible refine iA L2 ?_ | wp_step))
 refine codeAny_call_builtin FB.ga.plain PySem.F.entry_bexc_ga ?_
 refine @check_slot (model prog w) _ _ _ "BaseException.__getattribute__" "BaseException" "__getattribute__" (.ref x) _ [] _ (by decide+kernel) (by decide+kernel) ?_ (PySem.F.args_bexc_ga _ _) ?_
 ·refine t1.andThen ?_
  intro A Q E s k q
  obtain ⟨hh,gg,XJ,tt,XM⟩:=s
  refine wpAny_isSubtype_exc (k _ _ hC) ?_
  rw[Kt];exact q
 unfold Builtin.«object.__getattribute__»
 repeat (first | with_reducible refine iA t1 ?_ | with_reducible refine iA LF ?_ | wp_step)
 show wpAny _ _ (handedOut v) _ _ _
 rw[handedOut_of hv]
 exact wpAny_pure hq
end
end XL
set_option maxHeartbeats 4000000
namespace XL
open PySem PySem.Spec PySem.Calls PyProof.Rows PySem.W Builtin Builtin.ObjectAttr
structure XC (K:Frag) (C:Addr):Prop where
 is:NN K C=true
 ga:findIn K (.ref C) "__getattribute__"=some (some (.builtin "BaseException.__getattribute__"))
 gh:findIn K (.ref C) "__getattr__"=some none
 sa:findIn K (.ref C) "__setattr__"=some (some (.builtin "object.__setattr__"))
 cl:findIn K (.ref C) "__class__"=some (some (.builtin "object.__class__"))
 cg:specialIn K (.builtin "object.__class__") "__get__"=some (some (.builtin "getset_descriptor.__get__"))
 ct:takesIn K (.builtin "object.__class__")=some true
 ob:mroIn K C (.type "object")=some true
 kp:keepIn K (.ref C)=true
def Ku (e C:Addr) (h:Heap):Prop:= ∃ox,h.get? e=some ox/\ox.cls= .ref C/\notCls ox=true/\(∀d,ox.dict=some d-> ∃od,h.get? d=some od)
theorem Ku.inst {e C:Addr} {h:Heap} (p:Ku e C h): ∃ox od,InstAt h e ox C od:=by
 obtain ⟨ox,h1,h2,h3,h4⟩:=p
 cases hd:ox.dict with
 | none=>exact ⟨ox,none,h1,h2,h3,by rw[hd];trivial⟩
 | some d=>
  obtain ⟨od,h5⟩:=h4 d hd
  exact ⟨ox,some od,h1,h2,h3,by rw[hd];exact h5⟩
section
variable {prog:Program} {w:World} {A:Around} {E:Value->Shared->Prop} {h:Heap} {g:Array GenState} {d:Drawn} {t:Nat} {os:OsState} {K:Frag} {C x:Addr}
theorem Fn {Q:Option Value->Shared->Prop} (KI:K.In h) (c:XC K C) (p:Ku x C h) (hq:Q (some (.ref C)) ⟨h,g,d,t+1,os⟩):wpAny (model prog w) A (getAttr? (.ref x) "__class__") Q E ⟨h,g,d,t,os⟩:=by
 obtain ⟨ox,od,I⟩:=p.inst
 obtain ⟨bm,N,nm,q,bs,sn,sub,ab,col,dd,k0,k1,k2,k3,k5,mN,hC,_,T,lX⟩:=(dZ KI c.is).obj
 have hx:=I.at_
 have hc:=I.cls
 have FB:=PySem.F.attrBase_ValueError
 have f3:=FB.ga.bind (.ref x)
 have ZW:(false&&onTheHeap (Value.builtin "BaseException.__getattribute__"))=false:=rfl
 have Fb:(Value.builtin "BaseException.__getattribute__"==Value.builtin "object.__getattribute__")=false:=by decide+kernel
 have ZX:(onTheHeap (Value.ref C)&&Value.builtin "BaseException.__getattribute__"==Value.builtin "object.__getattribute__")=false:=by rw[Fb];rfl
 have L1:=looks_findIn (M:=model prog w) KI c.ga
 have L2:=looks_findIn (M:=model prog w) KI c.gh
 have Kt:(Value.ref C::bm).contains (.type "BaseException")=true:=by rw[Qdg,T.hasType (X:="BaseException") (b:=true) (by decide+kernel),Qdo]
 have hf:findObj K C od "__class__"=some (.bind (.builtin "getset_descriptor.__get__") (.builtin "object.__class__")):=by
  unfold findObj
  rw[lX,Qew,c.cl,Qew]
  simp[c.cg,c.ct]
 have t1:Looks (model prog w) h (typeOf (.ref x)) (.ref C):=hc▸(Looks.ld hx).andThen .now
 have LF:=looks_find (M:=model prog w) KI I hf
 unfold getAttr? getAttrBy? getAttrBy
 repeat (any_goals (first | assumption | (with_reducible refine wpAny_loadPart_at hx ?_;rw[hc]) | with_reducible refine iA L1 ?_ | with_reducible refine iA L2 ?_ | wp_step))
 refine codeAny_call_builtin FB.ga.plain PySem.F.entry_bexc_ga ?_
 refine @check_slot (model prog w) _ _ _ "BaseException.__getattribute__" "BaseException" "__getattribute__" (.ref x) _ [] _ (by decide+kernel) (by decide+kernel) ?_ (PySem.F.args_bexc_ga _ _) ?_
 ·refine t1.andThen ?_
  intro A Q E s k q
  obtain ⟨hh,gg,XJ,tt,XM⟩:=s
  refine wpAny_isSubtype_exc (k _ _ hC) ?_
  rw[Kt];exact q
 unfold Builtin.«object.__getattribute__»
 repeat (first | with_reducible refine iA t1 ?_ | with_reducible refine iA LF ?_ | wp_step)
 refine class_get (s:=⟨h,g,d,t+1,os⟩) KI I c.ob (wpAny_pure ?_)
 exact handed_on rfl (wpAny_pure hq)
theorem uF (c:XC K C):KitX K (.ref x) (.ref C) (Ku x C) where
 ty:=fun _ _ _ p=>by
  obtain ⟨ox,od,I⟩:=p.inst
  exact I.type
 it:=fun _ h X _=>by
  obtain ⟨bm,N,nm,q,bs,sn,sub,ab,col,dd,k0,k1,k2,k3,k5,mN,hC,_⟩:=(dZ X c.is).obj
  intro A' Q' E' s' k q
  unfold isType loadHead
  exact wpAny_bind (wpAny_loadPart (k _ _ hC) (wpAny_pure q))
 ne:=fun h tp dd aD n sl X ZY=>by
  obtain ⟨bm,N,nm,q,bs,sn,sub,ab,col,dd,k0,k1,k2,k3,k5,mN,hC,_⟩:=(dZ X c.is).obj
  refine Qev.mpr fun q=>?_
  have e:C=tp:=Value.ref.inj (beq_iff_eq.mp q)
  subst e
  have z:=congrArg (Option.map Obj.cls) (hC.symm.trans ZY)
  have z2:Value.type "type"=Value.type "tuple":=Qae z
  exact absurd (Value.type.inj z2) (by decide)
 ca:=fun {_ _ _ _ _ s} X p k=>by
  obtain ⟨h,g,d,t,os⟩:=s
  exact Fn X c p k
theorem Ag {M:Addr} {Q:Bool->Shared->Prop} (KI:K.In h) (c:XC K C) (cm:XC K M) (hs:mroIn K C (.ref M)=some true) (p:Ku x C h) (hq:Q true ⟨h,g,d,t,os⟩):
  wpAny (model prog w) A (excMatches (.ref x) (.ref M)) Q E ⟨h,g,d,t,os⟩:=by
 obtain ⟨bm,N,nm,q,bs,sn,sub,ab,col,dd,k0,k1,k2,k3,k5,mN,hC,_,T,lX⟩:=(dZ KI c.is).obj
 obtain ⟨ZZ,N',nm',q',bs',sn',Z0,ab',Z1,NA,k0',QJ,k2',k3',k5',mN',hM,_,T',Z2⟩:=(dZ KI cm.is).obj
 obtain ⟨ox,he,m9,_⟩:=p
 have Kt:(Value.ref M::ZZ).contains (.type "BaseException")=true:=by rw[Qdg,T'.hasType (X:="BaseException") (b:=true) (by decide+kernel),Qdo]
 have SJ:(Value.ref C::bm).contains (.ref M)=true:=by
  unfold mroIn at hs
  rw[lX,Qew]at hs
  have:(if (Value.ref C::bm).isEmpty=true then none else some ((Value.ref C::bm).contains (.ref M)))=some true:=hs
  rw[if_neg (by simp)]at this
  exact Qae this
 have f:=tc_notTuple
 unfold excMatches
 repeat (first | (with_reducible refine wpAny_loadPart_at he ?_;rw[m9]) | with_reducible refine wpAny_loadPart_at hM ?_ | (with_reducible refine wpAny_isSubtype_exc hM ?_;rw[Kt]) | (with_reducible refine wpAny_isSubtype_exc hC ?_;rw[SJ]) | wp_step)
 exact hq
theorem x_raise {env:Env} {s:Shared} {ex:Sem Value} {Q:Flow->Shared->Prop} (hh:A.handled=none)
  (hx:wpAny (model prog w) A ex (fun v s₁=> ∃e C oe vs,v= .ref e/\K.In s₁.heap/\XC K C/\s₁.heap.get? e=some oe/\oe.cls= .ref C/\oe.data= .fields vs/\vs[1]? =some .none/\E (.ref e) s₁) E s):
  wpAny (model prog w) A (raiseStmt env (some ex) none) Q E s:=by
 unfold raiseStmt
 refine wpAny_bind (wpAny_mono hx (fun v s₁ h₁=>?_) fun _ _ y=>y)
 obtain ⟨e,C,oe,vs,rfl,KI,c,he,m9,Z3,QK,hE⟩:=h₁
 obtain ⟨hp,g,d,tk,os⟩:=s₁
 obtain ⟨bm,N,nm,q,bs,sn,sub,ab,col,dd,k0,k1,k2,k3,k5,mN,hC,_,T,lX⟩:=(dZ KI c.is).obj
 have Kt:(Value.ref C::bm).contains (.type "BaseException")=true:=by rw[Qdg,T.hasType (X:="BaseException") (b:=true) (by decide+kernel),Qdo]
 obtain ⟨oc,od,Fj,wM⟩:=oe
 cases (show oc= .ref C from m9)
 cases (show Fj= .fields vs from Z3)
 repeat (first | with_reducible refine wpAny_loadPart_at he ?_ | with_reducible refine wpAny_loadPart_at hC ?_ | with_reducible refine wpAny_field he rfl QK ?_ | (with_reducible refine wpAny_isSubtype_exc hC ?_;rw[Kt]) | wp_step)
 exact wpAny_raiseNew_none hh hE
end
end XL
set_option maxHeartbeats 4000000
namespace XL
open PySem PySem.Spec PySem.Calls PyProof.Rows PySem.W
def Z4 (h:Heap) (e C:Addr) (dO:Option Addr):Prop:= ∃oe vs,h.get? e=some oe/\oe.cls= .ref C/\oe.dict=dO/\oe.data= .fields vs/\vs[1]? =some .none
def Tb (h:Heap) (e C:Addr) (dO:Option Addr) (T:Addr) (fl:Value):Prop:=
 ∃oe vs oT ts,h.get? e=some oe/\oe.cls= .ref C/\oe.dict=dO/\oe.data= .fields vs/\vs[1]? =some (.ref T)/\T≠e/\h.get? T=some oT/\oT.data= .fields ts/\ts[3]? =some fl
structure Kept (S ex:List Addr) (h h':Heap):Prop where
 keep: ∀b o,b∉ex->b∉S->h.get? b=some o->h'.get? b=some o
 slot: ∀b o,b∉ex->b∈S->h.get? b=some o-> ∃sl,h'.get? b=some { o with slots:=sl }
theorem Kept.trans {S ex ey:List Addr} {h h1 h2:Heap} (a:Kept S ex h h1) (b:Kept S ey h1 h2):Kept S (ex++ey) h h2:=by
 refine ⟨fun c o hx hs e=>?_,fun c o hx hs e=>?_⟩
 ·rw[Qaa,not_or]at hx
  exact b.keep c o hx.2 hs (a.keep c o hx.1 hs e)
 ·rw[Qaa,not_or]at hx
  obtain ⟨sl,e1⟩:=a.slot c o hx.1 hs e
  obtain ⟨Ek,e2⟩:=b.slot c _ hx.2 hs e1
  exact ⟨Ek,e2⟩
theorem Kept.frames {S ex:List Addr} {h h' base:Heap} (a:Kept S ex h h'): ∀{l:List Env},(∀b,b∈l.filterMap (·.frame)->b∈S/\b∉ex)->h.FunFrames base l->h'.FunFrames base l
 | [],_,_=>trivial
 | env::r,hS,⟨hk,⟨L,o,hf,hn,ho,hd⟩,hr⟩=>by
  have hL:=hS L (by rw[Qcc,hf];exact ZC)
  obtain ⟨sl,e⟩:=a.slot L o hL.2 hL.1 ho
  exact ⟨hk,⟨L,_,hf,hn,e,hd⟩,Kept.frames a (fun b hb=>hS b (by rw[Qcc,hf];exact Zz _ hb)) hr⟩
section
variable {M:Model} {A:Around} {E:Value->Shared->Prop} {s:Shared} {base:Heap} {env:Env} {outer:List Env} {L e C:Addr} {dO:Option Addr}
theorem iU {S:List Env} {b:Addr} {o:Obj} {vs:Array Value} (hl:s.heap.FunFrames base S) (hb:s.heap.get? b=some o) (hd:o.data= .fields vs):b∉S.filterMap (·.frame):=fun z=>by
 obtain ⟨_,o',e',n⟩:=hl.mem z
 rw[hb]at e'
 cases e'
 exact n vs hd
theorem yL {oe:Obj} {vs:Array Value} {head:Value} {Fo:Bool} {Q:Unit->Shared->Prop} (ny:A.frames=some (env::outer)) (hl:s.heap.FunFrames base (env::outer)) (hf:env.frame=some L)
  (he:s.heap.get? e=some oe) (hc:oe.cls= .ref C) (Kv:oe.dict=dO) (hd:oe.data= .fields vs) (hz:1<vs.size)
  (hQ: ∀h' T,s.heap.get? T=none->Tb h' e C dO T (rawInt L)->Kept ((env::outer).filterMap (·.frame)) [e] s.heap h'->Q () { s with heap:=h' }):
  wpAny M A (do setField (.ref e) 1 (<-EntryCells.newEntry head (<-frameOf env) .none (rawInt L) .none (<-entryPlaceOf L Fo))) Q E s:=by
 have ap:=iU hl he hd
 refine wpAny_bind (wpAny_frameOf_fun ny hl hf fun h1 so=>?_)
 refine wpAny_bind (wpAny_entryPlaceOf fun pl fu=>?_)
 unfold EntryCells.newEntry newFields
 refine wpAny_bind (wpAny_newObj_type ?_ (fu.sizeOk5 _ _ _ _ _))
 have e1:h1.get? e=some oe:=(so.2.1 e ap).trans he
 generalize Z5:([head, .ref L, .none,rawInt L, .none]++(if pl.isEmpty then List.replicate 6 Value.none else pl)).toArray=ts
 have t3:ts[3]? =some (rawInt L):=by rw[<-Z5];simp
 have ne:h1.objs.size≠e:=Qb4 (Qac e1)
 have d2:=Obj.data_mapFields hd (·.setIfInBounds 1 (Value.ref h1.objs.size))
 have e2:=JR { cls:= .type "traceback",dict:=none,data:= .fields ts } e1
 refine wpAny_setField e2 hd hz ?_
 have e3:=Qby (Obj.mapFields (·.setIfInBounds 1 (Value.ref h1.objs.size))) e2 (Obj.isFreed_of_fields d2)
 have other: ∀b o,b≠e->h1.get? b=some o->((h1.push { cls:= .type "traceback",dict:=none,data:= .fields ts }).update e (Obj.mapFields (·.setIfInBounds 1 (Value.ref h1.objs.size)))).get? b=some o:=fun b o hb e0=>by
  rw[Qa6 _ _ (Ne.symm hb)]
  exact JR _ e0
 refine hQ _ h1.objs.size ?_ ⟨_,_,_,ts,e3,(Obj.cls_mapFields _ _).trans hc,?_,d2,by simp[hz],ne,(Qa6 _ _ (Ne.symm ne)).trans (Qai h1 rfl),rfl,t3⟩ ⟨fun b o hb hS e0=>?_,fun b o hb hS e0=>?_⟩
 ·exact Qdv (Qep so.1.symm)
 ·rw[<-Kv]
  obtain ⟨oc,od,Fj,wM⟩:=oe
  cases (show Fj=_ from hd)
  rfl
 ·exact other b o (fun z=>hb (by simp[z])) ((so.2.1 b hS).trans e0)
 ·obtain ⟨sl,e4⟩:=so.2.2 b o e0
  exact ⟨sl,other b _ (fun z=>hb (by simp[z])) e4⟩
theorem yM {Q:Unit->Shared->Prop} (ny:A.frames=some (env::outer)) (hl:s.heap.FunFrames base (env::outer)) (hf:env.frame=some L) (hx:Z4 s.heap e C dO)
  (hQ: ∀h' T,s.heap.get? T=none->Tb h' e C dO T (rawInt L)->Kept ((env::outer).filterMap (·.frame)) [e] s.heap h'->Q () { s with heap:=h' }):wpAny M A (noteFrame (.ref e) env) Q E s:=by
 obtain ⟨oe,vs,he,hc,Kv,hd,h1⟩:=hx
 unfold noteFrame
 simp only[hf]
 refine wpAny_bind (wpAny_field he hd h1 ?_)
 rw[if_neg (by decide)]
 exact yL ny hl hf he hc Kv hd (Qcb.mp h1).1 hQ
theorem Fp {T0:Addr} {Q:Unit->Shared->Prop} (ny:A.frames=some (env::outer)) (hl:s.heap.FunFrames base (env::outer)) (hf:env.frame=some L) (hx:Tb s.heap e C dO T0 .none)
  (hQ: ∀h' T,s.heap.get? T=none->Tb h' e C dO T (rawInt L)->Kept ((env::outer).filterMap (·.frame)) [T0,e] s.heap h'->Q () { s with heap:=h' }):wpAny M A (noteFrame (.ref e) env) Q E s:=by
 obtain ⟨oe,vs,oT,ts,he,hc,Kv,hd,h1,ne,hT,Kw,h3⟩:=hx
 unfold noteFrame
 simp only[hf]
 refine wpAny_bind (wpAny_field he hd h1 ?_)
 rw[if_pos (by simp)]
 refine wpAny_bind (wpAny_field hT Kw h3 ?_)
 rw[if_neg (by simp[rawInt])]
 refine wpAny_bind (wpAny_setField hT Kw (Qcb.mp h3).1 ?_)
 have Z6:=iU hl hT Kw
 have k1:Kept ((env::outer).filterMap (·.frame)) [T0] s.heap (s.heap.update T0 (Obj.mapFields (·.setIfInBounds 3 Value.none))):=
  ⟨fun b o hb _ e0=>(Qa6 _ _ (fun z=>hb (by simp[z]))).trans e0,fun b o hb _ e0=>⟨o.slots,(Qa6 _ _ (fun z=>hb (by simp[z]))).trans e0⟩⟩
 refine yL (s:={ s with heap:=s.heap.update T0 (Obj.mapFields (·.setIfInBounds 3 Value.none)) }) ny (k1.frames (fun b hb=>⟨hb,fun z=>Z6 ((QB.mp z)▸hb)⟩) hl) hf
  (k1.keep e oe (fun z=>ne (QB.mp z).symm) (iU hl he hd) he) hc Kv hd (Qcb.mp h1).1 fun h' T hn tb k2=>hQ h' T ?_ tb (k1.trans k2)
 cases hq:s.heap.get? T with
 | none=>rfl
 | some o=>
  exfalso
  by_cases z:T=T0
  ·rw[z,Qby _ hT (Obj.isFreed_of_fields (Obj.data_mapFields Kw _))]at hn
   cases hn
  ·rw[Qa6 _ _ (Ne.symm z),hq]at hn
   cases hn
theorem rX {S:List Addr} {T:Addr} {fl:Value} {Q:Unit->Shared->Prop} (hx:Tb s.heap e C dO T fl) (hQ: ∀h',Tb h' e C dO T .none->Kept S [T] s.heap h'->Q () { s with heap:=h' }):wpAny M A (setFlight (.ref e) none) Q E s:=by
 obtain ⟨oe,vs,oT,ts,he,hc,Kv,hd,h1,ne,hT,Kw,h3⟩:=hx
 unfold setFlight
 refine wpAny_bind (wpAny_field he hd h1 ?_)
 rw[if_pos (by simp)]
 have hsz:3<ts.size:=(Qcb.mp h3).1
 have d2:=Obj.data_mapFields Kw (·.setIfInBounds 3 ((none:Option Addr).elim Value.none fun f=>rawInt f))
 refine wpAny_setField hT Kw hsz (hQ _ ⟨oe,vs,_,_,(Qa6 _ _ ne).trans he,hc,Kv,hd,h1,ne,Qby _ hT (Obj.isFreed_of_fields d2),d2,by simp[hsz]⟩
  ⟨fun b o hb _ e0=>(Qa6 _ _ (fun z=>hb (by simp[z]))).trans e0,fun b o hb _ e0=>⟨o.slots,(Qa6 _ _ (fun z=>hb (by simp[z]))).trans e0⟩⟩)
end
end XL
set_option maxHeartbeats 4000000
namespace L2
open PySem PySem.Spec PyProof.Rows XL
noncomputable def dA (nw:Bool) (e C:Addr) (dO:Option Addr):HO:= .ext fun h=> ∃oe vs,h.get? e=some oe/\oe.cls= .ref C/\oe.dict=dO/\oe.data= .fields vs/\(nw=true->vs[1]? =some .none/\ ∃t0,vs[0]? =some (.ref t0))
noncomputable def tU (d:Addr) (fs:List (Str×V)):HO:= .ext fun h=> ∃mA,h.Ns1 d mA/\(∀f,js (fs.lookup f) (mA f))/\PySem.Within mA (fs.map (·.1))
noncomputable def wb (H:Hp) (e:Addr):Hp:=fun b=>if b=e then none else H b
theorem iV {H:Hp} {e:Addr}:wb H e e=none:=by unfold wb;rw[if_pos rfl]
theorem iW {H:Hp} {e b:Addr} (h:b≠e):wb H e b=H b:=by unfold wb;rw[if_neg h]
theorem d_ {H:Hp} {e b:Addr} (h:H b=none):wb H e b=none:=by
 unfold wb
 split
 ·rfl
 ·exact h
section
variable {P:Program} {w:World} {H H' H1 H2:Hp} {h h' h0 h1 h2:Heap} {a e:Addr} {o:HO} {fs ex S:List Addr}
theorem bK.Cw (x:bK P w H h a o): ∃ob,h.get? a=some ob:=by
 cases o with
 | lst xs=>obtain ⟨_,_,_,_,q⟩:=x;exact ⟨_,q⟩
 | tup xs=>obtain ⟨_,_,_,ob,q,_⟩:=x;exact ⟨ob,q⟩
 | dK aZ=>obtain ⟨_,_,_,_,ob,_,_,q,_⟩:=x;exact ⟨ob,q⟩
 | dT aZ=>obtain ⟨_,_,_,_,ob,_,_,q,_⟩:=x;exact ⟨ob,q⟩
 | set S n=>obtain ⟨ob,_,_,_,q,_⟩:=x;exact ⟨ob,q⟩
 | ins C dx fs=>obtain ⟨_,_,_,q,_⟩:=x;exact ⟨_,q⟩
 | own y=>exact x
 | xd fs=>obtain ⟨_,⟨ob,_,_,q,_⟩,_⟩:=x;exact ⟨ob,q⟩
 | Qr lo hi=>obtain ⟨_,_,_,q⟩:=x;exact ⟨_,q⟩
 | j6 ob u=>obtain ⟨q,_⟩:=x;exact ⟨ob,q⟩
 | G2 ps=>exact ⟨_,(show h.get? a=some _ from x)⟩
 | met f y=>exact ⟨_,(show h.get? a=some _ from x)⟩
 | ext φ=>obtain ⟨_,q,_⟩:=x;exact q
theorem hW.none_of (ok:hW P w H h) (q:h.get? a=none):H a=none:=by
 cases e:H a with
 | none=>rfl
 | some u=>
  obtain ⟨ob,z⟩:=(ok a u e).Cw
  rw[q]at z;cases z
theorem Cy (u:Un fs ex H H1 h h1) (he: ∃φ,H1 e=some (.ext φ)):Un fs ex H (wb H1 e) h h1:=by
 obtain ⟨φ,he⟩:=he
 have ne: ∀{b o},H1 b=some o->(∀ψ,o≠ .ext ψ)->b≠e:=fun {b o} q n z=>by
  rw[z,he]at q
  exact n φ (Qae q).symm
 refine ⟨u.keep,u.slot,fun b o q n hx=>d_ (u.free b o q n hx),u.there,fun b xs q=>?_,fun b ob v q=>?_,fun b ps q=>?_⟩
 ·have z:=u.hX b xs q
  rw[iW (ne z (fun _ z=>by cases z))];exact z
 ·have z:=u.iG b ob v q
  rw[iW (ne z (fun _ z=>by cases z))];exact z
 ·obtain ⟨more,z⟩:=u.jN b ps q
  exact ⟨more,by rw[iW (ne z (fun _ z=>by cases z))];exact z⟩
theorem yN (ok:hW P w H h) (he: ∃φ,H e=some (.ext φ)):hW P w (wb H e) h:=fun b u q=>by
 obtain ⟨φ,he⟩:=he
 have hb:b≠e:=fun z=>by rw[z,iV]at q;cases q
 rw[iW hb]at q
 refine (ok b u q).jt (fun _ _ _ z=>z) (fun c z=>?_) fun c xs z=>?_
 ·rw[iW (fun y=>by rw[y,he]at z;cases z)];exact z
 ·rw[iW (fun y=>by rw[y,he]at z;cases z)];exact z
theorem Fq {outer:List Env} {env:Env} {L:Addr} (u:Un (jO outer) [] H H2 h0 h2) (k:Kept ((env::outer).filterMap (·.frame)) ex h2 h') (hx: ∀b∈ex,h0.get? b=none) (hf:env.frame=some L) (hL:h0.get? L=none):Un (jO outer) [] H H2 h0 h':=by
 have QL: ∀{b o},h0.get? b=some o->b∉ex:=fun {b o} q z=>by rw[hx b z]at q;cases q
 have SK: ∀{b},b∈jO outer->b∈(env::outer).filterMap (·.frame):=fun {b} z=>by rw[Qcc,hf];exact Zz _ z
 have Fs: ∀{b o},h0.get? b=some o->b∉jO outer->b∉(env::outer).filterMap (·.frame):=fun {b o} q n z=>by
  rw[Qcc,hf]at z
  rcases XB.mp z with z | z
  ·rw[z,hL]at q;cases q
  ·exact n z
 refine ⟨fun b o q n hb _=>k.keep b o (QL q) (Fs q hb) (u.keep b o q n hb (by simp)),fun b o q n hb _=>?_,u.free,fun b o q _=>?_,u.hX,u.iG,u.jN⟩
 ·obtain ⟨sl,z⟩:=u.slot b o q n hb (by simp)
  obtain ⟨Ek,z2⟩:=k.slot b _ (QL q) (SK hb) z
  exact ⟨Ek,z2⟩
 ·obtain ⟨o',z⟩:=u.there b o q (by simp)
  by_cases hb:b∈jO outer
  ·obtain ⟨Ek,z2⟩:=k.slot b _ (QL q) (SK hb) z
   exact ⟨_,z2⟩
  ·exact ⟨o',k.keep b o' (QL q) (Fs q hb) z⟩
theorem uG (ok:hW P w H h) (k:Kept S ex h h') (hS: ∀b∈S,H b=none) (hx: ∀b∈ex,H b=none):hW P w H h':=fun b u q=>by
 have tr: ∀{c o},H c=some o->c∉S/\c∉ex:=fun {c o} z=>⟨fun y=>(by rw[hS c y]at z;cases z),fun y=>(by rw[hx c y]at z;cases z)⟩
 refine (ok b u q).jt (fun c v hc z=>?_) (fun _ z=>z) fun _ _ z=>z
 rcases hc with y | y
 ·rw[y]at z ⊢; exact k.keep b v (tr q).2 (tr q).1 z
 ·exact k.keep c v (tr y).2 (tr y).1 z
theorem mY {nw:Bool} {C:Addr} {dO:Option Addr} (q: ∃oe vs,h.get? e=some oe/\oe.cls= .ref C/\oe.dict=dO/\oe.data= .fields vs/\(nw=true->vs[1]? =some .none/\ ∃t0,vs[0]? =some (.ref t0))):bK P w H h e (dA nw e C dO):=
 ⟨q,let ⟨oe,_,z,_⟩:=q;⟨oe,z⟩,fun h1 h2 ⟨oe,vs,z,r⟩ k=>⟨oe,vs,k oe z,r⟩⟩
theorem eg {nw:Bool} {C:Addr} {dO:Option Addr} (ok:hW P w H h) (q:H e=some (dA nw e C dO)): ∃oe vs,h.get? e=some oe/\oe.cls= .ref C/\oe.dict=dO/\oe.data= .fields vs/\(nw=true->vs[1]? =some .none/\ ∃t0,vs[0]? =some (.ref t0)):=(ok e _ q).1
theorem Cz {d:Addr} {fs:List (Str×V)} (q: ∃mA,h.Ns1 d mA/\(∀f,js (fs.lookup f) (mA f))/\PySem.Within mA (fs.map (·.1))):bK P w H h d (tU d fs):=
 ⟨q,let ⟨_,⟨o,_,_,z,_⟩,_⟩:=q;⟨o,z⟩,fun h1 h2 ⟨mA,⟨o,es,ep,z,r⟩,r2⟩ k=>⟨mA,⟨o,es,ep,k o z,r⟩,r2⟩⟩
end
def NT (P:Program) (w:World) (K:PySem.W.Frag):ym:=fun outer H s E ev s'=> ∃(e C:Addr) (dO:Option Addr) (T:Addr) (H':Hp),ev= .ref e/\XC K C/\s'.os=s.os/\AllBare s'.gens/\Un (jO outer) [] H H' s.heap s'.heap/\hW P w H' s'.heap/\
 s.heap.get? e=none/\s.heap.get? T=none/\H' e=none/\H' T=none/\Tb s'.heap e C dO T .none/\E (.ref C) dO H'
def Throws (X:Cx) (E:St->XK):Prop:= ∀(pins:List (Addr×Obj)) (σ:St) (H:Hp) (s:Shared) (e C:Addr) (dO:Option Addr),Inv X pins σ H s->H e=some (dA true e C dO)->X.H₀ e=none->XC X.K C->E σ (.ref C) dO (wb H e)->X.xe (.ref e) s
def yO (CX:ym) (X:Cx) (E:St->XK):Prop:= ∀(pins:List (Addr×Obj)) (σ:St) (H:Hp) (s:Shared) (e:Value) (s':Shared),Inv X pins σ H s->CX X.stack H s (E σ) e s'->X.xe e s'
section
variable {P:Program} {w:World} {K:PySem.W.Frag} {mg:Str->Option Value} {base:Heap} {N:List Str} {qual:Str} {scope:Scope} {f:Addr} {cd:Value} {A:Around} {outer:List Env} {s:Shared} {H:Hp} {E:XK}
theorem CA:Throws (jv (NT P w K) P w K mg base N qual scope f cd A outer s H E) (fun _=>E):=by
 intro pins σ H1 s1 e C dO I he hn c q
 obtain ⟨oe,vs,x1,x2,x3,x4,x5⟩:=eg I.bg he
 have e0:s.heap.get? e=none:=by
  cases z:s.heap.get? e with
  | none=>rfl
  | some o=>
   have:=I.base.free e o z hn (by show e∉([]:List Addr);simp)
   rw[he]at this;cases this
 show wpAny _ _ (leaving _ (.ref e)) _ _ s1
 unfold leaving
 refine wpAny_bind (yM (base:=base) (L:=s.heap.objs.size) I.ok.frames I.stack rfl ⟨oe,vs,x1,x2,x3,x4,(x5 rfl).1⟩ fun h1 T hT tb k1=>?_)
 refine rX (S:=(envOfC qual scope s.heap.objs.size f cd::outer).filterMap (·.frame)) tb fun h2 NU k2=>?_
 have T0:s.heap.get? T=none:=by
  cases z:s.heap.get? T with
  | none=>rfl
  | some o=>
   obtain ⟨o',z'⟩:=I.base.there T o z (by show T∉([]:List Addr);simp)
   rw[hT]at z';cases z'
 have nT:H1 T=none:=I.bg.none_of hT
 refine ⟨e,C,dO,T,wb H1 e,rfl,c,I.os,I.bare,Fq (Cy I.base ⟨_,he⟩) (k1.trans k2) (fun b hb=>?_) rfl (Qdv (XA _)),uG (yN I.bg ⟨_,he⟩) (k1.trans k2) (fun b hb=>d_ (I.mM b hb)) (fun b hb=>?_),e0,T0,iV,d_ nT,NU,q⟩
 ·simp only[Qc8,Qcl,XB,Qam,or_false]at hb
  rcases hb with z | z<;>rw[z]<;>assumption
 ·simp only[Qc8,Qcl,XB,Qam,or_false]at hb
  rcases hb with z | z<;>rw[z]
  ·exact iV
  ·exact d_ nT
end
end L2
set_option maxHeartbeats 4000000
namespace L2
open PySem PySem.Spec PyProof.Rows XL
theorem Kx {H:Hp} {a:Addr} {o:HO} (h:H a=some o):upd H a o=H:=by
 funext b
 unfold upd
 split
 ·rename_i z;rw[z,h]
 ·rfl
section
variable {X:Cx} {pins:List (Addr×Obj)} {σ:St} {H:Hp} {s:Shared} {a:Addr} {o:HO}
theorem Inv.Hw (I:Inv X pins σ H s) (hn:H a=none) (h0:X.s₀.heap.get? a=none) (hL:a≠X.env.locals) (hc: ∀x c,X.env.cells.lookup x=some c->c≠a) (hp: ∀p∈X.pn++pins,p.1≠a) (new:bK X.prog X.w (upd H a o) s.heap a o):
  Inv X pins σ (upd H a o) s:=by
 refine ⟨I.ok,I.os,I.bare,⟨I.base.keep,I.base.slot,fun b ob q n hx=>?_,I.base.there,fun b xs q=>?_,fun b ob u q=>?_,fun b ps q=>?_⟩,I.loc,I.cell,?_,fun x c q=>?_,fun p lB=>?_,fun b u q=>?_,I.len⟩
 ·rw[ao (fun z=>by rw[z,h0]at q;cases q)];exact I.base.free b ob q n hx
 ·have z:=I.base.hX b xs q
  rw[ao (ak z hn)];exact z
 ·have z:=I.base.iG b ob u q
  rw[ao (ak z hn)];exact z
 ·obtain ⟨more,z⟩:=I.base.jN b ps q
  exact ⟨more,by rw[ao (ak z hn)];exact z⟩
 ·rw[ao (Ne.symm hL)];exact I.free
 ·rw[ao (hc x c q)];exact I.dQ x c q
 ·obtain ⟨z1,z2,z3⟩:=I.pin p lB
  exact ⟨z1,by rw[ao (hp p lB)];exact z2,z3⟩
 ·by_cases hb:b=a
  ·subst hb;rw[af]at q;cases q;exact new
  ·rw[ao hb]at q
   exact (I.bg b u q).jt (fun _ _ _ z=>z) (fun c z=>by rw[ao (ak z hn)];exact z) fun c xs z=>by rw[ao (ak z hn)];exact z
theorem Inv.Ft (I:Inv X pins σ H s) (he: ∃φ,H a=some (.ext φ)):Inv X pins σ (wb H a) s:=
 ⟨I.ok,I.os,I.bare,Cy I.base he,I.loc,I.cell,d_ I.free,fun x c q=>d_ (I.dQ x c q),fun p hp=>let ⟨z1,z2,z3⟩:=I.pin p hp;⟨z1,d_ z2,z3⟩,yN I.bg he,I.len⟩
theorem Inv.CB {ex:List Addr} {h':Heap} (I:Inv X pins σ H s) (k:Kept (jO X.stack) ex s.heap h') (hx: ∀b∈ex,X.s₀.heap.get? b=none/\(∀o,s.heap.get? b=some o-> ∃vs,o.data= .fields vs)/\(∀p∈X.pn++pins,p.1≠b)/\H b=none):Inv X pins σ H { s with heap:=h' }:=by
 have nL:X.env.locals∉ex:=fun z=>by
  obtain ⟨m,⟨ol,es,ep,q,qd,_⟩,_⟩:=I.loc
  obtain ⟨vs,e⟩:=(hx _ z).2.1 ol q
  rw[qd]at e;cases e
 have any: ∀{b ob},b∉ex->s.heap.get? b=some ob-> ∃sl,h'.get? b=some { ob with slots:=sl }:=fun {b ob} n q=>by
  by_cases hb:b∈jO X.stack
  ·exact k.slot b ob n hb q
  ·exact ⟨ob.slots,k.keep b ob n hb q⟩
 have nc: ∀{x c},X.env.cells.lookup x=some c->c∉ex:=fun {x c} e z=>by
  obtain ⟨v,oc,q,qd⟩:=I.cell x c e
  obtain ⟨vs,e'⟩:=(hx _ z).2.1 oc q
  rw[qd]at e';cases e'
 have SM: ∀{b ob},X.s₀.heap.get? b=some ob->b∉ex:=fun {b ob} q z=>by rw[(hx b z).1]at q;cases q
 have SK: ∀{b},b∈X.fs->b∈jO X.stack:=fun {b} hb=>by
  rcases I.ok.G5 with e | ⟨e,hf⟩
  ·rw[e];exact hb
  ·rw[e];unfold jO;rw[Qcc,hf];exact Zz _ hb
 have Fs: ∀{b ob},X.s₀.heap.get? b=some ob->b∉X.fs->b∉jO X.stack:=fun {b ob} q n z=>by
  rcases XB.mp (I.hZ b z) with y | y
  ·exact absurd (Qaf (Qac q) I.ok.above) (by rw[y];exact Qb1 _)
  ·exact n y
 refine ⟨I.ok,I.os,I.bare,⟨fun b ob q n hb CC=>k.keep b ob (SM q) (Fs q hb) (I.base.keep b ob q n hb CC),fun b ob q n hb CC=>?_,I.base.free,fun b ob q CC=>?_,I.base.hX,I.base.iG,I.base.jN⟩,?_,fun x c e=>?_,I.free,I.dQ,fun p hp=>?_,?_,I.len⟩
 ·obtain ⟨sl,z⟩:=I.base.slot b ob q n hb CC
  obtain ⟨Ek,z2⟩:=any (SM q) z
  exact ⟨Ek,z2⟩
 ·obtain ⟨o',z⟩:=I.base.there b ob q CC
  obtain ⟨Ek,z2⟩:=any (SM q) z
  exact ⟨_,z2⟩
 ·obtain ⟨m,⟨ol,es,ep,q,qd,qr⟩,hl⟩:=I.loc
  obtain ⟨sl,z⟩:=any nL q
  refine ⟨m,⟨_,es,ep,z,qd,qr⟩,fun i x v e1 e2 e3=>?_⟩
  obtain ⟨u,r,l⟩:=hl i x v e1 e2 e3
  refine ⟨u,r,?_⟩
  rcases l with l | ⟨kk,c,e,oc,q2,q3⟩
  ·exact .inl l
  ·obtain ⟨Ek,z2⟩:=any (nc e) q2
   exact .inr ⟨kk,c,e,_,z2,q3⟩
 ·obtain ⟨v,oc,q,qd⟩:=I.cell x c e
  obtain ⟨sl,z⟩:=any (nc e) q
  exact ⟨v,_,z,qd⟩
 ·obtain ⟨z1,z2,z3,z4,z5⟩:=I.pin p hp
  refine ⟨k.keep p.1 p.2 (fun y=>(hx p.1 y).2.2.1 p hp rfl) (fun y=>?_) z1,z2,z3,z4,z5⟩
  rcases XB.mp (I.hZ p.1 y) with q | q
  ·exact z3 q
  ·exact z4 q
 ·exact uG I.bg k (fun b hb=>I.mM b hb) fun b hb=>(hx b hb).2.2.2
end
def Ky (sp:Sp) (wL:List V) (E:St->XK) (t:TA):TE:=fun σ H Q=>t σ H fun vs H1=>sp (vs++wL) H1 Q (E σ)
section
variable {X:Cx} {CX:ym} {k:Nat} {f C:Addr} {fd:FuncData} {ps:List Str} {sp:Sp} {wL:List V} {ds:List Value} {E:St->XK} {x:Str} {p pos:Pos} {e:Expr} {es:List Expr} {ta te:TE} {t:TA}
theorem CD (F:ck X.prog X.w X.K X.mg X.base CX k f fd ps sp) (hr:cj k X.A) (hg:Gl X x) (hm:X.mg x=some (.ref f)) (hk:PySem.W.keepIn X.K (.ref f)=true) (hb:Binds X.K fd ps ds) (hd:Vals wL ds) (hx:yO CX X E)
  (ha:PA X (e::es) t) (mG:(x==("__debug__":Str))=false:=by decide) (he:starEach (e::es) X.env=(false,eval e X.env)::starEach es X.env:=by rfl) (fu:(backTo pos (starEach es X.env)).any (·.1)=false:=by rfl):
  PE X (.Call (.Name x p) (e::es) [] pos) (Ky sp wL E t):=by
 intro pins s σ H Q I h
 refine wpAny_Call_Name_kw (f_ I hg hm ?_ mG)
 refine Qdf (h₀:=X.base) I.ok.mod.G3 hk (bN (ha pos pins s σ H _ I h) fun us s1 ⟨vs,H1,I1,r,q⟩=>⟨I1.iH,?_⟩) he fu
 have r2:Vals (vs++wL) (us++ds):=r.append hd
 have hl:(us++ds).length=ps.length:=by rw[<-r2.length];exact F.len _ _ _ _ q
 refine wpAny_call (codeAny_mono (F.run X.A X.stack s1 H1 ⟨us,[]⟩ (us++ds) (vs++wL) Q (E σ) hr I1.BU (hb s1 us I1.iH hl) r2 q) fun rr s' hq=>?_)
 cases rr with
 | error ev=>exact hx pins σ H1 s1 ev s' I1 hq
 | ok fl=>
  cases fl with
  | ret u=>exact I1.after hq
  | next=>exact False.elim hq
  | brk=>exact False.elim hq
  | cont=>exact False.elim hq
def CF (K:PySem.W.Frag) (H0:Hp) (E:St->XK) (te:TE):TS:=fun _ σ H=>te σ H fun v H1=> ∃e C dO,v= .ref e/\H1 e=some (dA true e C dO)/\H0 e=none/\XC K C/\E σ (.ref C) dO (wb H1 e)
theorem CG (hh:X.A.handled=none) (th:Throws X E) (hx:PE X e te):PS X (.Raise (some e) none pos) (CF X.K X.H₀ E te):=by
 intro pins s σ H D I h
 rw[arm_exec_Raise]
 refine wpAny_bind (wpAny_standAt ?_)
 refine x_raise (K:=X.K) hh ?_
 refine wpAny_bind (bN (hx pins s σ H _ I h) fun u s1 ⟨v,H1,I1,r,e1,C,dO,ev,he,h0,c,q⟩=>wpAny_bind (wpAny_standAt (wpAny_pure ?_)))
 subst ev
 obtain rfl:u=Value.ref e1:=r
 obtain ⟨oe,vs,x1,x2,x3,x4,x5⟩:=eg I1.bg he
 exact ⟨e1,C,oe,vs,rfl,I1.iH,c,x1,x2,x4,(x5 rfl).1,th pins σ H1 s1 e1 C dO I1 he h0 c q⟩
end
section
variable {P:Program} {w:World} {K:PySem.W.Frag} {mg:Str->Option Value} {base:Heap}
theorem B1.Z7 {x qual:Str} {st:Stmt} {f:Addr} {fd:FuncData} {N ps:List Str} {k:Nat} {sp:Sp} (F:B1 K x qual st f fd) (S:aW N ps (ai st)) (len: ∀vs H Q E,sp vs H Q E->vs.length=ps.length)
  (ni: ∀(cdv:Value) (A:Around) (outer:List Env) (s:Shared) (H:Hp) (vs:List V) (Q:VK) (E:XK),cj k (A.deeper (envOfC qual (ai st) s.heap.objs.size f cdv))->sp vs H Q E->
   ∃t,kN (jv (NT P w K) P w K mg base N qual (ai st) f cdv A outer s H E) (aJ st) t/\t { nx:=fun _ H'=>Q .cK H',rt:=Q } (start N vs) H):ck P w K mg base (NT P w K) (k+1) f fd ps sp:=by
 obtain ⟨oc,od,kV,doc,pm,an,cdv,ct,wM,rfl,lk,lX⟩:=F.ex
 exact Hh lk lX S len fun A outer s H vs Q E hr yq=>ni cdv A outer s H vs Q E hr yq
end
end L2
set_option maxHeartbeats 4000000
namespace L2
open PySem PySem.Spec PyProof.Rows XL
structure Hx (K:PySem.W.Frag) (C f:Addr):Prop where
 c:XC K C
 init:PySem.W.findIn K (.ref C) "__init__"=some (some (.ref f))
 fn:PySem.W.isFn K (.ref f)=true
structure Hy (K:PySem.W.Frag) (M:Addr):Prop where
 rd:PySem.W.readsIn K M (.type "type")=true
 ga:PySem.W.specialIn K (.ref M) "__getattribute__"=some (some (.builtin "type.__getattribute__"))
 fi:PySem.W.findCls K (.ref M) (.type "type") "__init__"=some (.val (.builtin "ValueError.__init__"))
def Kz (C:Addr) (sp:Sp) (t:TA):TE:=fun σ H Q=>t σ H fun vs H1=>vs.length<=sizeLine/\ ∀e,H1 e=none->sp (.ref e::vs) (upd H1 e (dA true e C none)) (fun v H2=>v= .cK/\Q (.ref e) H2) E0
section
variable {X:Cx} {k:Nat} {f C M:Addr} {fd:FuncData} {ps:List Str} {sp:Sp} {x:Str} {p pos apos:Pos} {e:Expr} {es:List Expr} {ta te tv:TE} {t:TA} {pins:List (Addr×Obj)} {σ:St} {H:Hp} {s:Shared}
theorem Inv.NV {us:List Value} (I:Inv X pins σ H s):Inv X pins σ (upd H (s.heap.objs.size+1) (dA true (s.heap.objs.size+1) C none)) { s with heap:=(s.heap.push { cls:= .type "tuple",data:= .seq us.toArray }).push (gA C s.heap.objs.size) }:=by
 have I1:=I.kept (h':=s.heap.push { cls:= .type "tuple",data:= .seq us.toArray }) (t':=s.toks) fun b u q=>JR _ q
 refine I1.laid (a:=s.heap.objs.size+1) (t':=s.toks) (fun b u q=>JR _ q) (Qep (Qbx _ _)) (mY ?_)
 have g:((s.heap.push { cls:= .type "tuple",data:= .seq us.toArray }).push (gA C s.heap.objs.size)).get? (s.heap.objs.size+1)=some (gA C s.heap.objs.size):=by
  have:=Qai (s.heap.push { cls:= .type "tuple",data:= .seq us.toArray }) (o:=gA C s.heap.objs.size) rfl
  rwa [Qbx]at this
 exact ⟨_,_,g,rfl,rfl,rfl,fun _=>⟨rfl,_,rfl⟩⟩
theorem uH (M:Hx X.K C f) (F:ck X.prog X.w X.K X.mg X.base fU k f fd ps sp) (hr:cj (k+1) X.A) (hg:Gl X x) (hm:X.mg x=some (.ref C)) (hb:Binds X.K fd ps [])
  (ha:PA X (e::es) t) (mG:(x==("__debug__":Str))=false:=by decide) (he:starEach (e::es) X.env=(false,eval e X.env)::starEach es X.env:=by rfl) (fu:(backTo pos (starEach es X.env)).any (·.1)=false:=by rfl):
  PE X (.Call (.Name x p) (e::es) [] pos) (Kz C sp t):=by
 intro pins s σ H Q I h
 refine wpAny_Call_Name_kw (f_ I hg hm ?_ mG)
 refine Qdf (h₀:=X.base) I.ok.mod.G3 M.c.kp (bN (ha pos pins s σ H _ I h) fun us s1 ⟨vs,H1,I1,r,hz,q⟩=>⟨I1.iH,?_⟩) he fu
 have I2:=Inv.NV (C:=C) (us:=us) I1
 have hq:=q (s1.heap.objs.size+1) (I1.bg.fresh (Qco _))
 have r2:Vals (V.ref (s1.heap.objs.size+1)::vs) (Value.ref (s1.heap.objs.size+1)::us):= .cons rfl r
 have hl:(Value.ref (s1.heap.objs.size+1)::us++[]).length=ps.length:=by
  have z:=r2.length
  rw[F.len _ _ _ _ hq]at z
  rw[Qal]
  exact z.symm
 have Hj:=hb { s1 with heap:=(s1.heap.push { cls:= .type "tuple",data:= .seq us.toArray }).push (gA C s1.heap.objs.size) } (Value.ref (s1.heap.objs.size+1)::us) I2.iH hl
 rw[Qal]at Hj
 have run:=F.run _ X.stack _ _ ⟨Value.ref (s1.heap.objs.size+1)::us,[]⟩ (Value.ref (s1.heap.objs.size+1)::us) _ _ E0 (hr.make C us []) (I2.BU.make C us []) Hj r2 hq
 have K1:=I1.iH
 have fn:=beq_iff_eq.mp M.fn
 obtain ⟨hh,gg,dd,tt,oo⟩:=s1
 refine x_call (dZ K1 M.c.is) (PySem.W.looks_findIn K1 M.init) (fun self=>PySem.W.bind_fn K1 self fn) (by show us.length<=sizeLine;rw[<-r.length];exact hz) ?_
 refine wpAny_call (codeAny_mono run fun rr s' El=>?_)
 cases rr with
 | error ev=>exact El.elim
 | ok fl=>
  cases fl with
  | ret u=>
   obtain ⟨v,H',I3,rv,ev,q3⟩:=I2.after El
   subst ev
   exact ⟨rv,⟨V.ref (hh.objs.size+1),H',I3,rfl,q3⟩⟩
  | next=>exact False.elim El
  | brk=>exact False.elim El
  | cont=>exact False.elim El
theorem Inv.NW {ec:Addr} {dO:Option Addr} {us:List Value} (I:Inv X pins σ H s) (he:H ec=some (dA true ec C dO)):Inv X pins σ H { s with heap:=(s.heap.push { cls:= .type "tuple",data:= .seq us.toArray }).update ec (Obj.mapFields (·.setIfInBounds 0 (.ref s.heap.objs.size))) }:=by
 obtain ⟨oe,vs,x1,x2,x3,x4,x5⟩:=eg I.bg he
 obtain ⟨y1,t0,y2⟩:=x5 rfl
 have I1:=I.kept (h':=s.heap.push { cls:= .type "tuple",data:= .seq us.toArray }) (t':=s.toks) fun b u q=>JR _ q
 have d2:=Obj.data_mapFields x4 (·.setIfInBounds 0 (Value.ref s.heap.objs.size))
 have g:=Qby (Obj.mapFields (·.setIfInBounds 0 (Value.ref s.heap.objs.size))) (JR { cls:= .type "tuple",data:= .seq us.toArray } x1) (Obj.isFreed_of_fields d2)
 have hz:0<vs.size:=(Qcb.mp y2).1
 have:=I1.write (x:=ec) (e:=ec) (o:=dA true ec C dO) (t':=s.toks) (h':=(s.heap.push { cls:= .type "tuple",data:= .seq us.toArray }).update ec (Obj.mapFields (·.setIfInBounds 0 (.ref s.heap.objs.size)))) (by rw[he];exact True.intro) (.inl rfl) (fun b u hb q=>(Qa6 _ _ (Ne.symm hb)).trans q) ⟨_,g⟩ (mY ⟨_,_,g,(Obj.cls_mapFields _ _).trans x2,?_,d2,fun _=>⟨by rw[Array.getElem?_setIfInBounds_ne (by decide)];exact y1,s.heap.objs.size,by simp[hz]⟩⟩)
 ·rw[Kx he]at this;exact this
 ·rw[<-x3]
  obtain ⟨oc,od,Fj,wM⟩:=oe
  cases (show Fj=_ from x4)
  rfl
def KA (K:PySem.W.Frag) (t:TA):TE:=fun σ H Q=>t σ H fun vs H1=> ∃e C dO rest,vs= .ref e::rest/\rest.length<=sizeLine/\H1 e=some (dA true e C dO)/\XC K C/\Q .cK H1
theorem CH {mx:Str} {mp:Pos} {pl:Sem Bool} (B:Hy X.K M) (hg:Gl X mx) (hm:X.mg mx=some (.ref M)) (ha:PA X (e::es) t) (mG:(mx==("__debug__":Str))=false:=by decide)
  (he:starEach (e::es) X.env=(false,eval e X.env)::starEach es X.env:=by rfl) (fu:(backTo pos (starEach es X.env)).any (·.1)=false:=by rfl)
  (ht:eval (.Call (.Attribute (.Name mx mp) "__init__" apos) (e::es) [] pos) X.env=(do
   let ov <-eval (.Name mx mp) X.env
   standAt apos.atName
   let (f,first) <-holding [ov] (getMethod ov "__init__" pl)
   callWith pos f first (backTo pos (starEach (e::es) X.env)) (backToKw pos (keywordEach [] X.env))):=by rfl):
  PE X (.Call (.Attribute (.Name mx mp) "__init__" apos) (e::es) [] pos) (KA X.K t):=by
 intro pins s σ H Q I h
 refine PySem.W.methodCall_KW (pl:=pl) (f_ I hg hm ?_ mG) ht
 refine PySem.W.method_cls I.iH B.ga (PySem.W.cls_value I.iH B.rd B.fi rfl ?_)
 refine Qdp (bN (ha pos pins _ σ H _ (I.tok _) h) fun us s1 zz=>?_) he fu
 obtain ⟨vs,H1,I1,r,ec,C,dO,rest,ev,hz,XN,c,q⟩:=zz
 subst ev
 obtain ⟨u0,ur,rfl,r0,r1⟩: ∃u0 ur,us=u0::ur/\RelV (.ref ec) u0/\Vals rest ur:=by
  cases r with
  | cons a b=>exact ⟨_,_,rfl,a,b⟩
 obtain rfl:u0=Value.ref ec:=r0
 obtain ⟨oe,ws,x1,x2,x3,x4,x5⟩:=eg I1.bg XN
 obtain ⟨y1,t0,y2⟩:=x5 rfl
 have I2:=I1.NW (us:=ur) XN
 have K1:=I1.iH
 obtain ⟨hh,gg,dd,tt,oo⟩:=s1
 exact Kr (dZ K1 c.is) x1 x2 x4 y2 (by rw[<-r1.length];exact hz) ⟨.cK,H1,I2,rfl,q⟩
def NX (K:PySem.W.Frag) (ta tv:TE) (f:Str):TS:=fun D σ H=>tv σ H fun y H1=>ta σ H1 fun x H2=> ∃e C,x= .ref e/\XC K C/\wI K C f/\
 ((H2 e=some (dA true e C none)/\ ∀d,H2 d=none->d≠e->D.nx σ (upd (upd H2 e (dA true e C (some d))) d (tU d [(f,y)])))\/
  (∃d fs,H2 e=some (dA true e C (some d))/\H2 d=some (tU d fs)/\d≠e/\fs.length<1000/\D.nx σ (upd H2 d (tU d (mE f y fs)))))
theorem Fu {o value:Expr} {g:Str} {pos':Pos} (ha:PE X o ta) (hv:PE X value tv) (hs:swapsWith value (some (.Attribute o g pos')) pos.line X.env=pure false):PS X (.Assign [.Attribute o g pos'] value pos) (NX X.K ta tv g):=by
 intro pins s σ H D I h
 refine plainObj_wpAny_Assign_Attribute (bN (hv pins s σ H _ I h) fun u s1 ⟨y,H1,I1,ry,q⟩=>bN (ha pins s1 σ H1 _ I1 q) fun ov s2 zz=>?_) hs
 obtain ⟨x,H2,I2,rx,e,C,ex,c,n,q2⟩:=zz
 subst ex
 obtain rfl:ov=Value.ref e:=rx
 have K2:=I2.iH
 rcases q2 with ⟨he,q2⟩ | ⟨d,fs,he,hd,ne,hl,q2⟩
 ·obtain ⟨oe,vs,x1,x2,x3,x4,x5⟩:=eg I2.bg he
  have nd:H2 s2.heap.objs.size=none:=I2.bg.fresh (XA _)
  have lt:s2.heap.objs.size≠e:=Qb4 (Qac x1)
  have Fd:=Inv.kW (H':=H2) I2 (XA s2.heap.objs.size) nd
  have s0:X.s₀.heap.get? s2.heap.objs.size=none:=Qdv I2.sz
  have fin:=q2 _ nd lt
  have base:Inv X pins σ H2 s2:=I2
  obtain ⟨hh,gg,dd,tt,oo⟩:=s2
  refine Hv (ns:=[]) (mA:=fun _=>none) K2 (dZ K2 c.is) c.sa n ⟨oe,x1,x2,(fun cc z=>by (rw[x4]at z;cases z)), .inl ⟨x3,fun _=>rfl⟩⟩ (fun h' Fm In kp sm=>?_) (fun _ z=>absurd rfl z) (by decide)
  obtain ⟨o1,z1,z2,z3,z4,z5,z6⟩:=sm oe x1
  have keep: ∀b u,b≠e->hh.get? b=some u->h'.get? b=some u:=fun b u hb q=>kp b u hb (fun o₀ dx e0 e1=>by (rw[x1]at e0;cases e0;rw[x3]at e1;cases e1)) q
  have J:=base.write (x:=e) (e:=e) (o:=dA true e C (some hh.objs.size)) (t':=Fm) (by rw[he];exact True.intro) (.inl rfl) keep ⟨o1,z1⟩ (mY ⟨o1,vs,z1,z2.trans x2,z6 x3,z3.trans x4,x5⟩)
  obtain ⟨o2,w1,w2,w3,w4⟩:=In
  rw[z1]at w1
  cases w1
  have ns:h'.Ns1 hh.objs.size (fun y=>if y=g then some u else none):=by
   rcases w4 with ⟨b1,_⟩ | ⟨dx,b1,_,b3⟩
   ·rw[z6 x3]at b1;cases b1
   ·rw[z6 x3]at b1;cases b1;exact b3
  refine ⟨σ,_,J.Hw (a:=hh.objs.size) (o:=tU hh.objs.size [(g,y)]) (by rw[ao lt];exact nd) s0 Fd.2.1 Fd.2.2.2.2.1 Fd.2.2.2.2.2 (Cz ⟨_,ns,fun a=>?_,fun a ha=>?_⟩),fin⟩
  ·show js (List.lookup a [(g,y)]) (if a=g then some u else none)
   by_cases z:a=g
   ·subst z
    rw[if_pos rfl,Qbe,beq_self_eq_true]
    exact ry
   ·rw[if_neg z,Qbe,beq_eq_false_iff_ne.mpr z]
    trivial
  ·have:a=g:=by
    by_cases z:a=g
    ·exact z
    ·exact absurd (show (if a=g then some u else none)=none by rw[if_neg z]) ha
   rw[this];simp
 ·obtain ⟨oe,vs,x1,x2,x3,x4,x5⟩:=eg I2.bg he
  obtain ⟨mA,n1,n2,n3⟩:=(I2.bg d _ hd).1
  have base:Inv X pins σ H2 s2:=I2
  obtain ⟨hh,gg,dd,tt,oo⟩:=s2
  refine Hv (ns:=fs.map (·.1)) (mA:=mA) K2 (dZ K2 c.is) c.sa n ⟨oe,x1,x2,(fun cc z=>by (rw[x4]at z;cases z)), .inr ⟨d,x3,ne,n1⟩⟩ (fun h' Fm In kp sm=>?_) n3 (by rw[kb];exact zW (Qc7 hl))
  obtain ⟨o1,z1,z2,z3,z4,z5,z6⟩:=sm oe x1
  have d1:=z5 d x3
  have Z8:o1=oe:=by
   obtain ⟨a1,a2,a3,a4⟩:=o1
   obtain ⟨b1,b2,b3,b4⟩:=oe
   dsimp only at z2 z3 z4 d1 x3
   rw[z2,z3,z4,d1,x3]
  obtain ⟨o2,w1,w2,w3,w4⟩:=In
  rw[z1]at w1
  cases w1
  have ns:h'.Ns1 d (fun y=>if y=g then some u else mA y):=by
   rcases w4 with ⟨b1,_⟩ | ⟨dx,b1,_,b3⟩
   ·rw[d1]at b1;cases b1
   ·rw[d1]at b1;cases b1;exact b3
  have keep: ∀b u,b≠d->hh.get? b=some u->h'.get? b=some u:=fun b u hb q=>by
   by_cases z:b=e
   ·rw[z]at q ⊢
    rw[x1]at q
    cases q
    rw[z1,Z8]
   ·exact kp b u z (fun o₀ dx e0 e1=>by (rw[x1]at e0;cases e0;rw[x3]at e1;cases e1;exact hb)) q
  refine ⟨σ,_,base.write (x:=d) (e:=d) (o:=tU d (mE g y fs)) (t':=Fm) (by rw[hd];exact True.intro) (.inl rfl) keep (let ⟨o',_,_,zz,_⟩:=ns;⟨o',zz⟩) (Cz ⟨_,ns,fun a=>?_,fun a ha=>?_⟩),q2⟩
  ·show js ((mE g y fs).lookup a) (if a=g then some u else mA a)
   rw[lY]
   by_cases z:a=g
   ·rw[if_pos z,if_pos z];exact ry
   ·rw[if_neg z,if_neg z];exact n2 a
  ·by_cases z:a=g
   ·rw[z];exact (lb g y fs).1
   ·refine (lb g y fs).2 a (n3 a fun zz=>ha ?_)
    show (if a=g then some u else mA a)=none
    rw[if_neg z];exact zz
def Hz (K:PySem.W.Frag) (ta:TE) (f:Str):TE:=fun σ H Q=>ta σ H fun x H1=> ∃e C nw d fs v,x= .ref e/\H1 e=some (dA nw e C (some d))/\XC K C/\wI K C f/\H1 d=some (tU d fs)/\fs.lookup f=some v/\Q v H1
theorem Fv {o:Expr} {g:Str} (ha:PE X o ta) (hb:attributeBase o g X.env (eval o X.env)=eval o X.env):PE X (.Attribute o g pos) (Hz X.K ta g):=by
 intro pins s σ H Q I h
 refine ER hb (bN (ha pins s σ H _ I h) fun u s1 zz=>?_)
 obtain ⟨x,H1,I1,rx,e,C,nw,d,fs,v,ex,he,c,n,hd,hl,q⟩:=zz
 subst ex
 obtain rfl:u=Value.ref e:=rx
 obtain ⟨oe,vs,x1,x2,x3,x4,x5⟩:=eg I1.bg he
 obtain ⟨mA,n1,n2,n3⟩:=(I1.bg d _ hd).1
 obtain ⟨od,Fw,Z9⟩:=qg n1
 obtain ⟨u',hu,ru⟩:=js.some_of (v:=v) (o:=mA g) (by rw[<-hl];exact n2 g)
 have K1:=I1.iH
 have fin: ∀t',Inv X pins σ H1 { s1 with toks:=t' }:=fun t'=>I1.tok t'
 have inst:PySem.W.InstAt s1.heap e oe C (some od):=⟨x1,x2,by unfold PySem.W.notCls;rw[x4],by rw[x3];exact Fw⟩
 obtain ⟨hh,gg,dd,tt,oo⟩:=s1
 exact NS K1 (dZ K1 c.is) c.ga c.gh n inst (by rw[Z9,hu]) (zR ru) ⟨v,H1,fin _,ru,q⟩
noncomputable def KC:V->Option Value
 | .ref a=>some (.ref a)
 | .ty n=>some (.type n)
 | _=>none
theorem uI {v:V} {u z:Value} (h:KC v=some z) (r:RelV v u):u=z:=by
 cases v<;>first | (cases h;exact r) | cases h
def SN (K:PySem.W.Frag):List V->Hp->VK->Prop:=fun xs H Q=> ∃e C nw dO c z b,xs=[.ref e,c]/\H e=some (dA nw e C dO)/\(∀d,dO=some d-> ∃fs,H d=some (tU d fs))/\XC K C/\KC c=some z/\PySem.W.kitOne K (.ref C) z=some b/\Q (.bl b) H
theorem CI {e C:Addr} {nw:Bool} {dO:Option Addr} (I:Inv X pins σ H s) (he:H e=some (dA nw e C dO)) (hd: ∀d,dO=some d-> ∃fs,H d=some (tU d fs)):Ku e C s.heap:=by
 obtain ⟨oe,vs,x1,x2,x3,x4,_⟩:=eg I.bg he
 refine ⟨oe,x1,x2,by unfold PySem.W.notCls;rw[x4],fun d q=>?_⟩
 rw[x3]at q
 obtain ⟨fs,h2⟩:=hd d q
 exact (I.bg d _ h2).Cw
theorem uJ (K:PySem.W.Frag) (h:X.K=K):cF X (.builtin "isinstance") (SN K):=by
 subst h
 intro pins s σ H xs us Q I r h
 obtain ⟨e,C,nw,dO,c,z,b,rfl,he,hd,xc,hz,hk,q⟩:=h
 obtain ⟨u,w',rfl,r1,r2⟩:=vals2 r
 obtain rfl:u=Value.ref e:=r1
 cases uI hz r2
 exact Qb0 (uF xc) I.iH (CI I he hd) hk (fun z=>nomatch z) fun tk=>⟨.bl b,H,I.tok _,rfl,q⟩
noncomputable def yP:List V->Option (List Value)
 | []=>some []
 | v::r=>match KC v,yP r with
  | some z,some zs=>some (z::zs)
  | _,_=>none
theorem qH: ∀{vs:List V} {us zs:List Value},yP vs=some zs->Vals vs us->us=zs
 | [],_,_,h, .nil=>by cases h;rfl
 | v::r,_,zs,h, .cons a b=>by
  unfold yP at h
  split at h
  ·rename_i z zs' h1 h2
   cases h
   rw[uI h1 a,qH h2 b]
  ·cases h
def NY (K:PySem.W.Frag):List V->Hp->VK->Prop:=fun xs H Q=> ∃e C nw dO tp cs zs b,xs=[.ref e, .ref tp]/\H e=some (dA nw e C dO)/\(∀d,dO=some d-> ∃fs,H d=some (tU d fs))/\XC K C/\H tp=some (.tup cs)/\yP cs=some zs/\PySem.W.kitAny K (.ref C) zs=some b/\Q (.bl b) H
theorem qI (K:PySem.W.Frag) (h:X.K=K):cF X (.builtin "isinstance") (NY K):=by
 subst h
 intro pins s σ H xs us Q I r h
 obtain ⟨e,C,nw,dO,tp,cs,zs,b,rfl,he,hd,xc,ht,hz,hk,q⟩:=h
 obtain ⟨u,w',rfl,r1,r2⟩:=vals2 r
 obtain rfl:u=Value.ref e:=r1
 obtain rfl:w'=Value.ref tp:=r2
 obtain ⟨_,aD,rv,ob,o1,o2,n,o3⟩:=(show bK X.prog X.w H s.heap tp (.tup cs) from I.bg tp _ ht)
 have:=qH hz rv
 subst this
 obtain ⟨a1,a2,a3,a4⟩:=ob
 cases (show a1=_ from o2)
 cases (show a3=_ from o3)
 exact PySem.W.kia_tup (uF xc) I.iH (CI I he hd) o1 hk (fun z=>nomatch z) fun tk=>⟨.bl b,H,I.tok _,rfl,q⟩
end
end L2
set_option maxHeartbeats 4000000
namespace L2
open PySem PySem.Spec PyProof.Rows XL
noncomputable abbrev uK (X:Cx) (pn:List (Addr×Obj)) (W:Value->Shared->Prop):Cx:={ X with pn:=X.pn++pn,xe:=W }
noncomputable abbrev xh (X:Cx) (ev:Value):Cx:={ X with A:=X.A.mark (some ev),calm:=false,xe:=fun _ _=>False }
section
variable {X:Cx} {pins pn:List (Addr×Obj)} {σ:St} {H:Hp} {s:Shared} {W:Value->Shared->Prop} {ev:Value}
theorem Inv.toTry (I:Inv X pins σ H s):Inv (uK X pins W) [] σ H s:=
 ⟨⟨I.ok.mod,I.ok.kind,I.ok.glob,I.ok.blt,I.ok.above,I.ok.inj,I.ok.has,I.ok.G4,I.ok.hd,I.ok.frames,I.ok.G5,I.ok.MJ,I.ok.bs,I.ok.Bw,I.ok.t_,I.ok.wA,I.ok.jP,I.ok.Ec⟩,I.os,I.bare,I.base,I.loc,I.cell,I.free,I.dQ,fun p hp=>I.pin p (by simpa using hp),I.bg,I.len⟩
theorem Inv.qJ (I:Inv (uK X pn W) pins σ H s):Inv X pn σ H s:=
 ⟨⟨I.ok.mod,I.ok.kind,I.ok.glob,I.ok.blt,I.ok.above,I.ok.inj,I.ok.has,I.ok.G4,I.ok.hd,I.ok.frames,I.ok.G5,I.ok.MJ,I.ok.bs,I.ok.Bw,I.ok.t_,I.ok.wA,I.ok.jP,I.ok.Ec⟩,I.os,I.bare,I.base,I.loc,I.cell,I.free,I.dQ,fun p hp=>I.pin p (Qbr _ hp),I.bg,I.len⟩
theorem Inv.toIn (I:Inv X pins σ H s):Inv (xh X ev) pins σ H s:=
 ⟨⟨I.ok.mod,I.ok.kind,I.ok.glob,I.ok.blt,I.ok.above,I.ok.inj,I.ok.has,I.ok.G4,(fun z=>by cases z),I.ok.frames,I.ok.G5,I.ok.MJ,I.ok.bs,I.ok.Bw,I.ok.t_,I.ok.wA,I.ok.jP,I.ok.Ec⟩,I.os,I.bare,I.base,I.loc,I.cell,I.free,I.dQ,I.pin,I.bg,I.len⟩
theorem Inv.SO (ok:X.Ok) (I:Inv (xh X ev) pins σ H s):Inv X pins σ H s:=⟨ok,I.os,I.bare,I.base,I.loc,I.cell,I.free,I.dQ,I.pin,I.bg,I.len⟩
theorem Inv.unbind {i:Nat} {x:Str} {M:Model} {A:Around} {E:Value->Shared->Prop} {Q:Unit->Shared->Prop} {v:V} (I:Inv X pins σ H s) (hN:X.N.Nodup) (hi:X.N[i]? =some x) (hx:X.env.kindOf x=some .local) (hv:σ[i]? =some (some v))
  (h: ∀s',Inv X pins (σ.set i none) H s'->Q () s'):wpAny M A (unbindName X.env x) Q E s:=by
 obtain ⟨m,hn,hl⟩:=id I.loc
 have m9:(X.env.scope.kind== .class||(X.env.scope.kind== .module&&X.env.locals != X.env.globals))=false:=by rw[I.ok.kind];rfl
 obtain ⟨u,_,hu⟩:=hl i x v hi hv (.inl hx)
 have mu:m x=some u:=by
  rcases hu with ⟨_,z⟩ | ⟨z,_⟩
  ·exact z
  ·rcases z with z | z<;>(rw[hx]at z;cases z)
 obtain ⟨oL,esL,epL,ya,dL,rL⟩:=id hn
 refine wpAny_unbindName_local hx hn mu m9 fun h' w EH hs=>h _ ?_
 have G6: ∀b o,X.s₀.heap.get? b=some o->b≠X.env.locals:=fun b o e=>Qa0 (Qaf (Qac e) I.ok.above)
 refine ⟨I.ok,I.os,I.bare,⟨fun b o e n hb CC=>(hs.2 b (G6 b o e)).trans (I.base.keep b o e n hb CC),fun b o e n hb CC=>?_,I.base.free,fun b o e CC=>?_,I.base.hX,I.base.iG,I.base.jN⟩,⟨_,EH,fun j y v' e1 e2 e3=>?_⟩,fun y c e=>?_,I.free,I.dQ,fun p hp=>?_,fun b ob e=>?_,by simpa using I.len⟩
 ·obtain ⟨sl,e1⟩:=I.base.slot b o e n hb CC
  exact ⟨sl,(hs.2 b (G6 b o e)).trans e1⟩
 ·obtain ⟨o',e1⟩:=I.base.there b o e CC
  exact ⟨o',(hs.2 b (G6 b o e)).trans e1⟩
 ·have ji:j≠i:=fun z=>by
   rw[z]at e2
   by_cases bW:i<σ.length
   ·rw[Qc4 bW]at e2;cases e2
   ·rw[List.getElem?_eq_none (by simpa using bW)]at e2;cases e2
  rw[Qef (Ne.symm ji)]at e2
  obtain ⟨u',r',q⟩:=hl j y v' e1 e2 e3
  refine ⟨u',r',?_⟩
  rcases q with ⟨k,e⟩ | ⟨k,c,e,z⟩
  ·refine .inl ⟨k,?_⟩
   have ne:y≠x:=fun z=>ji (m8 hN e1 (z▸hi))
   show (if y=x then w else m y)=some u'
   rw[if_neg ne];exact e
  ·exact .inr ⟨k,c,e,z.sameBut hs (I.EG y c e)⟩
 ·obtain ⟨v',z⟩:=I.cell y c e
  exact ⟨v',z.sameBut hs (I.EG y c e)⟩
 ·obtain ⟨e,n,ne,nf,d⟩:=I.pin p hp
  exact ⟨(hs.2 p.1 ne).trans e,n,ne,nf,d⟩
 ·refine (I.bg b ob e).jt (fun c w' hc q=>(hs.2 c ?_).trans q) (fun _ q=>q) fun _ _ q=>q
  rintro rfl
  rcases hc with rfl | hc
  ·rw[I.free]at e;cases e
  ·rw[I.free]at hc;cases hc
end
def KG (K:PySem.W.Frag) (M:Addr) (n:Nat) (th:TS) (D:Ends):St->XK:=fun σ c dO H'=> ∃C,c= .ref C/\PySem.W.mroIn K C (.ref M)=some true/\(∀d,dO=some d-> ∃fs,H' d=some (tU d fs))/\
 ∀e,H' e=none->th { nx:=fun σ' CJ=>D.nx (σ'.set n none) CJ,rt:=D.rt,bk:=fun σ' CJ=>D.bk (σ'.set n none) CJ,ct:=fun σ' CJ=>D.ct (σ'.set n none) CJ } (σ.set n (some (.ref e))) (upd H' e (dA false e C dO))
def SQ (K:PySem.W.Frag) (M:Addr) (n:Nat) (tb:(St->XK)->TS) (th:TS):TS:=fun D σ H=>tb (KG K M n th D) D σ H
section
variable {X:Cx} {M:Addr} {n:Nat} {mx nm:Str} {body yQ:List Stmt} {b₀:Stmt} {tb:(St->XK)->TS} {th:TS} {pos CK mp:Pos} {pins:List (Addr×Obj)} {σ:St} {H:Hp} {s:Shared} {D:Ends}
theorem Fx {e C:Addr} {dO:Option Addr} {f:Flow} (ok:X.Ok) (hN:X.N.Nodup) (Fy:X.N[n]? =some nm) (Em:X.env.kindOf nm=some .local)
  (h:SP (xh X (.ref e)) pins { nx:=fun σ' CJ=>D.nx (σ'.set n none) CJ,rt:=D.rt,bk:=fun σ' CJ=>D.bk (σ'.set n none) CJ,ct:=fun σ' CJ=>D.ct (σ'.set n none) CJ } f s):
  wpAny (model X.prog X.w) X.A (do bindName X.env nm .none;unbindBehindTheSuite X.env nm CK) (fun _ s₅=>SP X pins D f s₅) X.xe s:=by
 have go: ∀{σ':St} {H':Hp} {Q:Unit->Shared->Prop},Inv (xh X (.ref e)) pins σ' H' s->(∀s',Inv X pins (σ'.set n none) H' s'->Q () s')->wpAny (model X.prog X.w) X.A (do bindName X.env nm .none;unbindBehindTheSuite X.env nm CK) Q X.xe s:=fun {σ' H' Q} J k=>by
  have I5:=J.SO ok
  have bW:n<σ'.length:=by rw[I5.len];exact (Xy.mp Fy).1
  refine wpAny_bind (wpAny_bindName (cL I5 hN Fy (.inl Em) (v:= .cK) rfl (fun s6 I6=>?_) (.inr Em)))
  unfold unbindBehindTheSuite
  refine wpAny_onRaise (I6.unbind hN Fy Em (v:= .cK) (Qc4 bW) fun s7 I7=>?_)
  rw[List.set_set]at I7
  exact k s7 I7
 cases f with
 | next=>obtain ⟨σ',H',J,q⟩:=h;exact go J fun s' I'=>⟨_,H',I',q⟩
 | brk=>obtain ⟨σ',H',J,q⟩:=h;exact go J fun s' I'=>⟨_,H',I',q⟩
 | cont=>obtain ⟨σ',H',J,q⟩:=h;exact go J fun s' I'=>⟨_,H',I',q⟩
 | ret u=>obtain ⟨v,σ',H',J,r,q⟩:=h;exact go J fun s' I'=>⟨v,_,H',I',r,q⟩
theorem nP {e C T:Addr} {dO:Option Addr} (cm:XC X.K M) (hg:Gl X mx) (hm:X.mg mx=some (.ref M)) (hN:X.N.Nodup) (Fy:X.N[n]? =some nm) (Em:X.env.kindOf nm=some .local) (hh: ∀ev,kN (xh X ev) (b₀::yQ) th)
  (I:Inv X pins σ H s) (c:XC X.K C) (tb:Tb s.heap e C dO T .none) (e0:X.s₀.heap.get? e=none) (T0:X.s₀.heap.get? T=none) (pe: ∀p∈X.pn++pins,p.1≠e) (pT: ∀p∈X.pn++pins,p.1≠T) (He:H e=none) (HT:H T=none) (q:KG X.K M n th D σ (.ref C) dO H)
  (mG:(mx==("__debug__":Str))=false):wpAny (model X.prog X.w) X.A (handleBy (.ref e) X.env [.ExceptHandler (some (.Name mx mp)) (some nm) (b₀::yQ) CK]) (SP X pins D) X.xe s:=by
 obtain ⟨C',ec,hs,hd,q⟩:=q
 cases ec
 have q:=q e He
 refine wpAny_handleBy_cons (codeAny_handlers_test ?_) (by intro q;cases q)
 refine f_ (X:=xh X (.ref e)) I.toIn hg hm ?_ mG
 have K1:=I.iH
 have id:=tb
 obtain ⟨oe,vs,oT,ts,t1,t2,t3,t4,t5,t6,t7,t8,t9⟩:=id
 have Z_:Ku e C s.heap:=⟨oe,t1,t2,by unfold PySem.W.notCls;rw[t4],fun d z=>by
  rw[t3]at z
  obtain ⟨fs,y⟩:=hd d z
  exact (I.bg d _ y).Cw⟩
 have G6:e≠X.env.locals:=fun z=>by
  obtain ⟨m,⟨ol,es,ep,y,yd,_⟩,_⟩:=I.loc
  rw[<-z,t1]at y
  cases y
  rw[t4]at yd;cases yd
 have nec: ∀x cc,X.env.cells.lookup x=some cc->cc≠e:=fun x cc y z=>by
  obtain ⟨v,oc,y1,y2⟩:=I.cell x cc y
  rw[z,t1]at y1
  cases y1
  rw[t4]at y2;cases y2
 have I0:Inv X pins σ H s:=I
 obtain ⟨h0,gg,dd,tt,oo⟩:=s
 refine Ag K1 c cm hs Z_ ?_
 refine codeAny_handlers_suite_as ?_
 refine rX (S:=jO X.stack) tb fun h1 tb1 k1=>?_
 have I1:=I0.CB k1 (fun b hb=>by
  have z:b=T:=QB.mp hb
  rw[z]
  refine ⟨T0,fun o y=>⟨ts,?_⟩,pT,HT⟩
  rw[t7]at y
  cases y
  exact t8)
 obtain ⟨oe',vs',_,_,u1,u2,u3,u4,_⟩:=tb1
 have I2:=I1.Hw (a:=e) (o:=dA false e C dO) He e0 G6 nec pe (mY ⟨oe',vs',u1,u2,u3,u4,fun z=>nomatch z⟩)
 refine cL I2 hN Fy (.inl Em) (v:= .ref e) rfl (fun s4 I4=>?_) (.inr Em)
 refine wpAny_mono (hh (.ref e) pins s4 _ _ _ I4.toIn q) (fun f s5 sp=>?_) fun _ _ z=>z.elim
 exact Fx (C:=C) (dO:=dO) I0.ok hN Fy Em sp
theorem KH (cm:XC X.K M) (hg:Gl X mx) (hm:X.mg mx=some (.ref M)) (hN:X.N.Nodup) (Fy:X.N[n]? =some nm) (Em:X.env.kindOf nm=some .local) (CL:X.stack=X.env::X.outer) (NZ:X.env.frame=some X.env.locals) (Fz:X.ex=[])
  (hb: ∀pn W E,Throws (uK X pn W) E->yO (NT X.prog X.w X.K) (uK X pn W) E->kN (uK X pn W) body (tb E)) (hh: ∀ev,kN (xh X ev) (b₀::yQ) th) (mG:(mx==("__debug__":Str))=false:=by decide):
  PS X (.Try body [.ExceptHandler (some (.Name mx mp)) (some nm) (b₀::yQ) CK] [] [] pos) (SQ X.K M n tb th):=by
 intro pins s σ H D I h
 refine wpAny_Try_except ?_
 have frames:X.A.frames=some (X.env::X.outer):=by rw[<-CL];exact I.ok.frames
 refine wpAny_mono (hb pins _ (KG X.K M n th D) ?_ ?_ [] s σ H D I.toTry h) (fun f s1 q=>?_) fun e s1 z=>z
 ·intro p_ σ' H1 s1 e C dO J he h0 c q
  have I1:=J.qJ
  obtain ⟨oe,vs,x1,x2,x3,x4,x5⟩:=eg I1.bg he
  have KJ:s1.heap.FunFrames X.base (X.env::X.outer):=by rw[<-CL];exact I1.stack
  have e0:X.s₀.heap.get? e=none:=by
   cases z:X.s₀.heap.get? e with
   | none=>rfl
   | some o=>
    have:=I1.base.free e o z h0 (by rw[Fz];simp)
    rw[he]at this;cases this
  have pe: ∀p∈X.pn++pins,p.1≠e:=fun p hp z=>by
   have:=(I1.pin p hp).2.1
   rw[z,he]at this;cases this
  show wpAny _ _ (noteFrame (.ref e) X.env) _ _ s1
  refine yM (base:=X.base) (L:=X.env.locals) frames KJ NZ ⟨oe,vs,x1,x2,x3,x4,(x5 rfl).1⟩ fun h1 T hT tb k1=>?_
  refine rX (S:=jO X.stack) tb fun h2 NU k2=>?_
  have QJ:Kept (jO X.stack) [e] s1.heap h1:=by rw[CL];exact k1
  have T0:X.s₀.heap.get? T=none:=by
   cases z:X.s₀.heap.get? T with
   | none=>rfl
   | some o=>
    obtain ⟨o',z'⟩:=I1.base.there T o z (by rw[Fz];simp)
    rw[hT]at z';cases z'
  have pT: ∀p∈X.pn++pins,p.1≠T:=fun p hp z=>by
   have:=(I1.pin p hp).1
   rw[z,hT]at this;cases this
  have nT:H1 T=none:=I1.bg.none_of hT
  have I2:=(I1.Ft ⟨_,he⟩).CB (QJ.trans k2) (fun b N0=>by
   simp only[Qc8,Qcl,XB,Qam,or_false]at N0
   rcases N0 with z | z
   ·rw[z]
    refine ⟨e0,fun o y=>⟨vs,?_⟩,pe,iV⟩
    rw[x1]at y;cases y;exact x4
   ·rw[z]
    refine ⟨T0,fun o y=>?_,pT,d_ nT⟩
    rw[hT]at y;cases y)
  exact nP cm hg hm hN Fy Em hh I2 c NU e0 T0 pe pT iV (d_ nT) q mG
 ·intro p_ σ' H1 s1 ev s2 J Ce
  have I1:=J.qJ
  obtain ⟨e,C,dO,T1,H2,rfl,c,os,bare,un,bg,n1,n2,n3,n4,XO,q⟩:=Ce
  have I2:=I1.G9 os un bg bare (fun b z=>absurd z (by simp))
  have KL:s2.heap.FunFrames X.base (X.env::X.outer):=by rw[<-CL];exact I2.stack
  have old: ∀{b},s1.heap.get? b=none->X.s₀.heap.get? b=none:=fun {b} y=>by
   cases z:X.s₀.heap.get? b with
   | none=>rfl
   | some o=>
    obtain ⟨o',z'⟩:=I1.base.there b o z (by rw[Fz];simp)
    rw[y]at z';cases z'
  have KN: ∀{b},s1.heap.get? b=none-> ∀p∈X.pn++pins,p.1≠b:=fun {b} y p hp z=>by
   have:=(I1.pin p hp).1
   rw[z,y]at this;cases this
  have SR:=XO
  obtain ⟨oe,vs,oT1,ts,x1,x2,x3,x4,x5,x6,x7,x8,x9⟩:=XO
  show wpAny _ _ (noteFrame (.ref e) X.env) _ _ s2
  refine Fp (base:=X.base) (L:=X.env.locals) frames KL NZ SR fun h1 T hT tb k1=>?_
  refine rX (S:=jO X.stack) tb fun h2 NU k2=>?_
  have QJ:Kept (jO X.stack) [T1,e] s2.heap h1:=by rw[CL];exact k1
  have T0:X.s₀.heap.get? T=none:=by
   cases z:X.s₀.heap.get? T with
   | none=>rfl
   | some o=>
    obtain ⟨o',z'⟩:=I2.base.there T o z (by rw[Fz];simp)
    rw[hT]at z';cases z'
  have pT: ∀p∈X.pn++pins,p.1≠T:=fun p hp z=>by
   have:=(I2.pin p hp).1
   rw[z,hT]at this;cases this
  have nT:H2 T=none:=I2.bg.none_of hT
  have I3:=I2.CB (QJ.trans k2) (fun b N0=>by
   simp only[Qc8,Qcl,XB,Qam,or_false]at N0
   rcases N0 with z | z | z
   ·rw[z]
    refine ⟨old n2,fun o y=>⟨ts,?_⟩,KN n2,n4⟩
    rw[x7]at y;cases y;exact x8
   ·rw[z]
    refine ⟨old n1,fun o y=>⟨vs,?_⟩,KN n1,n3⟩
    rw[x1]at y;cases y;exact x4
   ·rw[z]
    refine ⟨T0,fun o y=>?_,pT,nT⟩
    rw[hT]at y;cases y)
  exact nP cm hg hm hN Fy Em hh I3 c NU (old n1) T0 (KN n1) pT n3 nT q mG
 ·cases f with
  | next=>obtain ⟨σ',H',J,q⟩:=q;exact wpAny_execs_nil ⟨σ',H',J.qJ,q⟩
  | brk=>obtain ⟨σ',H',J,q⟩:=q;exact ⟨σ',H',J.qJ,q⟩
  | cont=>obtain ⟨σ',H',J,q⟩:=q;exact ⟨σ',H',J.qJ,q⟩
  | ret u=>obtain ⟨v,σ',H',J,r,q⟩:=q;exact ⟨v,σ',H',J.qJ,r,q⟩
end
end L2
set_option maxHeartbeats 4000000
namespace L2
open PySem PySem.Spec PyProof.Rows XL
noncomputable def inC (s:Stmt) (j:Nat):Stmt:=match s with
 | .ClassDef _ _ _ b _ _ _ _ _ _ _=>b.getD j (.Pass ⟨0,0,0,0⟩)
 | _=> .Pass ⟨0,0,0,0⟩
def yR (C:Addr) (f:Str):Sp:=fun vs H Q _=> ∃e v,vs=[.ref e,v]/\H e=some (dA true e C none)/\ ∀d,H d=none->d≠e->Q .cK (upd (upd H e (dA true e C (some d))) d (tU d [(f,v)]))
theorem KP {C:Addr} {f:Str} {vs:List V} {H:Hp} {Q:VK} {E:XK} (h:yR C f vs H Q E):vs.length=2:=by obtain ⟨_,_,rfl,_⟩:=h;rfl
structure Made (H H':Hp) (e d:Addr) (C:Addr) (fs:List (Str×V)):Prop where
 ne:H e=none
 nd:H d=none
 ap:d≠e
 at_:H' e=some (dA true e C (some d))
 di:H' d=some (tU d fs)
 old: ∀b,b≠e->b≠d->H' b=H b
theorem Made.same {H H':Hp} {e d C:Addr} {fs:List (Str×V)} (m:Made H H' e d C fs):ah H H':=fun b o q=>by
 rw[m.old b (fun z=>by rw[z,m.ne]at q;cases q) (fun z=>by rw[z,m.nd]at q;cases q)];exact q
theorem Made.gone {H H':Hp} {e d C:Addr} {fs:List (Str×V)} (m:Made H H' e d C fs):ah H (wb H' e)/\wb H' e d=some (tU d fs):=by
 refine ⟨fun b o q=>?_,?_⟩
 ·rw[iW (fun z=>by rw[z,m.ne]at q;cases q)];exact m.same b o q
 ·rw[iW m.ap];exact m.di
theorem FA {H:Hp} {e d C:Addr} {fs:List (Str×V)} (ne:H e=none) (nd:upd H e (dA true e C none) d=none) (ap:d≠e):
  Made H (upd (upd (upd H e (dA true e C none)) e (dA true e C (some d))) d (tU d fs)) e d C fs:=by
 rw[ao ap]at nd
 refine ⟨ne,nd,ap,?_,af,fun b h1 h2=>?_⟩
 ·rw[ao (Ne.symm ap),af]
 ·rw[ao h2,ao h1,ao h1]
theorem N1 {H:Hp} {Q:VK} {C:Addr} {f:Str} {v:V} (h: ∀e d H',Made H H' e d C [(f,v)]->Q (.ref e) H'):[v].length<=sizeLine/\ ∀e,H e=none->yR C f (.ref e::[v]) (upd H e (dA true e C none)) (fun u H2=>u= .cK/\Q (.ref e) H2) E0:=
 ⟨by show 1<=sizeLine;decide,fun e ne=>⟨e,v,rfl,af,fun d nd ap=>⟨rfl,h e d _ (FA ne nd ap)⟩⟩⟩
theorem lC {K:PySem.W.Frag} {t:Value}: ∀{zs:List Value},(∀z∈zs,PySem.W.kitOne K t z=some false)->PySem.W.kitAny K t zs=some false
 | [],_=>rfl
 | z::zs,h=>by
  unfold PySem.W.kitAny
  rw[h z ZC]
  exact lC fun y hy=>h y (Zz _ hy)
theorem FC:bootBuiltins "ValueError"=some (.type "ValueError"):=PyProof.Rows.Boot.«ValueError»
end L2
set_option maxHeartbeats 4000000
namespace L2
open PySem PySem.Spec PyProof.Rows XL
theorem ah.none_ {H H':Hp} {p:Addr} (s:ah H H') (n:H' p=none):H p=none:=by
 cases q:H p with
 | none=>rfl
 | some o=>rw[s p o q]at n;cases n
theorem nQ {K:PySem.W.Frag} {H0 H:Hp} {E:XK} {C:Addr} {f:Str} {v:V} (xc:XC K C) (h0:ah H0 H) (h: ∀d H',H' d=some (tU d [(f,v)])->ah H H'->E (.ref C) (some d) H'):
  [v].length<=sizeLine/\ ∀e,H e=none->yR C f (.ref e::[v]) (upd H e (dA true e C none)) (fun u H2=>u= .cK/\ ∃e' C' dO,V.ref e= .ref e'/\H2 e'=some (dA true e' C' dO)/\H0 e'=none/\XC K C'/\E (.ref C') dO (wb H2 e')) E0:=
 N1 (Q:=fun v H1=> ∃e' C' dO,v= .ref e'/\H1 e'=some (dA true e' C' dO)/\H0 e'=none/\XC K C'/\E (.ref C') dO (wb H1 e')) fun e d H' m=>⟨e,C,some d,rfl,m.at_,h0.none_ m.ne,xc,h d _ m.gone.2 m.gone.1⟩
theorem CM {X:Cx} (K:PySem.W.Frag) (h:X.K=K) {o:Expr} {g:Str} {pos:Pos} {ta:TE} (ha:PE X o ta) (hb:attributeBase o g X.env (eval o X.env)=eval o X.env):PE X (.Attribute o g pos) (Hz K ta g):=by subst h;exact Fv ha hb
theorem qK {X:Cx} {e:Expr} {te:TE} {pos:Pos} {E:St->XK} (K:PySem.W.Frag) (H0:Hp) (hK:X.K=K) (hH:X.H₀=H0) (hh:X.A.handled=none) (th:Throws X E) (hx:PE X e te):PS X (.Raise (some e) none pos) (CF K H0 E te):=by
 subst hK hH
 exact CG hh th hx
end L2
namespace PySem
def Iv4 (M:Model) (Γ:Ctx) (p:Pos) (s:Shared) (e:End) (s':Shared) (fs:List Frame) (t:Sem Fin):Prop:=
 match fs with
 | F::gs=> ∃e1 s1,Runs M (Γ.over (F::gs)) p t [] s e1 s1/\
  match e1 with
  | .ret r=>(match F with
   | .ret k _ _ _ c1 p1 _=>Runs M (Γ.goto c1) p1 (k r) gs s1 e s'
   | .gen g k _ c1 p1=>Runs M (Γ.goto c1) p1 (k (End.ret r).result) gs (s1.setGen g .finished) e s')
  | .susp v g0 l0 k0 c0 p0 f0=>
   (match splitAtGen (F::gs) with
   | none=>e= .susp v g0 l0 k0 c0 p0 (f0++F::gs)/\s'=s1
   | some (pre,(g,k,c1,p1),rest)=>Runs M (Γ.goto c1) p1 (k (.yielded v)) rest (s1.setGen g (End.susp v g0 l0 k0 c0 p0 (f0++pre)).genState) e s')
 | []=>match t with
  | .pure (.done f)=>e= .ret (.ok f)/\s'=s
  | .raise x=>e= .ret (.error x)/\s'=s
  | .yield v g l k=>e= .susp v g l k Γ.code p []/\s'=s
  | .pure (.again c)=>Runs M (Γ.goto c) p (M.den c) [] s e s'
  | .rule _ k=>Runs M Γ p (k ()) [] s e s'
  | .at z k=>Runs M Γ z (k ()) [] s e s'
  | .load a _ k=> ∃o,s.heap.get? a=some o/\Runs M Γ p (k o) [] s e s'
  | .update a _ f k=>Runs M Γ p (k ()) [] { s with heap:=s.heap.update a f } e s'
  | .loadIfAlive a k=>Runs M Γ p (k (s.heap.get? a)) [] s e s'
  | .point _ k=>Runs M Γ p (k ()) [] s e s'
  | .alloc o k=>Runs M Γ p (k s.heap.objs.size) [] { s with heap:=s.heap.push o } e s'
  | .fresh k=>Runs M Γ p (k s.toks) [] { s with toks:=s.toks+1 } e s'
  | .ask k=>Runs M Γ p (k ⟨M.prog,M.w.params⟩) [] s e s'
  | .choose z n k=>Runs M Γ p (k (M.w.draws z (s.drawn.get z)%n)) [] { s with drawn:=s.drawn.bump z } e s'
  | .os q _ k=>Runs M Γ p (k (Os.step s.os q).2) [] { s with os:=(Os.step s.os q).1 } e s'
  | .handled o k=>Runs M Γ p (k (if o then Γ.own else Γ.handled)) [] s e s'
  | .genState g k=> ∃o,s.gens[g]? =some o/\Runs M Γ p (k o.seen) [] s e s'
  | .stack k=>Runs M Γ p (k ((Γ.code,p)::Γ.below)) [] s e s'
  | .thread k=>Runs M Γ p (k 0) [] s e s'
  | .newGen c k=>Runs M Γ p (k s.gens.size) [] { s with gens:=s.gens.push (.fresh c) } e s'
  | .call c hd g l k=> ∃e1 s1,Runs M (Γ.enter c hd p) p (M.den c) [] s e1 s1/\
   (match e1 with
   | .ret r=>Runs M Γ p (k r) [] s1 e s'
   | .susp v g0 l0 k0 c0 p0 f0=>e= .susp v g0 l0 k0 c0 p0 (f0++[.ret k hd g l Γ.code p []])/\s'=s1)
  | .resume g r _ k=> ∃st,s.gens[g]? =some st/\
   (match st with
   | .running=>Runs M Γ p (k .running) [] s e s'
   | .finished=>Runs M Γ p (k .finished) [] s e s'
   | .suspended k0 _ c0 p0 f0 _=> ∃e1 s1,Runs M (Γ.wake c0 p) p0 (k0 r) f0 (s.setGen g .running) e1 s1/\Runs M Γ p (k e1.result) [] (s1.setGen g e1.genState) e s'
   | .fresh c=>(match r with
    | .throw x=>Runs M Γ p (k (.raised x)) [] (s.setGen g .finished) e s'
    | .send v=>(v= .none/\ ∃e1 s1,Runs M (Γ.wake c p) p (M.den c) [] (s.setGen g .running) e1 s1/\Runs M Γ p (k e1.result) [] (s1.setGen g e1.genState) e s')\/(v≠ .none/\Runs M Γ p (k .justStarted) [] s e s')))
  | _=>True
theorem Runs.tV {M:Model} {Γ:Ctx} {p:Pos} {t:Sem Fin} {fs:List Frame} {s s':Shared} {e:End} (h:Runs M Γ p t fs s e s'):Iv4 M Γ p s e s' fs t:=by
 cases h with
 | done=>exact ⟨rfl,rfl⟩
 | raise=>exact ⟨rfl,rfl⟩
 | yield=>exact ⟨rfl,rfl⟩
 | again _ h=>exact h
 | rule h=>exact h
 | «at» h=>exact h
 | load ho h=>exact ⟨_,ho,h⟩
 | update _ h=>exact h
 | loadIfAlive h=>exact h
 | point h=>exact h
 | alloc h=>exact h
 | fresh h=>exact h
 | ask h=>exact h
 | choose _ h=>exact h
 | os h=>exact h
 | handled h=>exact h
 | genState ho h=>exact ⟨_,ho,h⟩
 | stack h=>exact h
 | thread h=>exact h
 | newGen h=>exact h
 | call a b=>exact ⟨_,_,a,b⟩
 | callSusp a=>exact ⟨_,_,a,rfl,rfl⟩
 | resumeFresh g a _ b=>exact ⟨_,g, .inl ⟨rfl,_,_,a,b⟩⟩
 | resumeSuspended g a _ b=>exact ⟨_,g,_,_,a,b⟩
 | resumeJustStarted g v b=>exact ⟨_,g, .inr ⟨v,b⟩⟩
 | resumeThrowFresh g b=>exact ⟨_,g,b⟩
 | resumeRunning g b=>exact ⟨_,g,b⟩
 | resumeFinished g b=>exact ⟨_,g,b⟩
 | segRet a b=>exact ⟨_,_,a,b⟩
 | segGen a b=>exact ⟨_,_,a,b⟩
 | segSuspOut q a=>refine ⟨_,_,a,?_⟩;rw[q];exact ⟨rfl,rfl⟩
 | segSuspGen q a _ b=>refine ⟨_,_,a,?_⟩;rw[q];exact b
theorem Runs.det {M:Model} {Γ:Ctx} {p:Pos} {t:Sem Fin} {fs:List Frame} {s s':Shared} {e:End} (h:Runs M Γ p t fs s e s'): ∀e2 s2,Runs M Γ p t fs s e2 s2->e2=e/\s2=s':=by
 induction h with
 | done=>exact fun _ _ h=>h.tV
 | raise=>exact fun _ _ h=>h.tV
 | yield=>exact fun _ _ h=>h.tV
 | load ho _ ih=>exact fun _ _ h=>let ⟨_,g,z⟩:=h.tV;ih _ _ (Qae (ho.symm.trans g)▸z)
 | genState ho _ ih=>exact fun _ _ h=>let ⟨_,g,z⟩:=h.tV;ih _ _ (Qae (ho.symm.trans g)▸z)
 | call _ _ i1 i2=>intro e2 s2 h;obtain ⟨_,_,a,b⟩:=h.tV;obtain ⟨rfl,rfl⟩:=i1 _ _ a;exact i2 _ _ b
 | callSusp _ i1=>intro e2 s2 h;obtain ⟨_,_,a,b⟩:=h.tV;obtain ⟨rfl,rfl⟩:=i1 _ _ a;exact b
 | resumeFresh g1 _ _ _ i1 i2=>
  intro e2 s2 h
  obtain ⟨st,g2,h⟩:=h.tV
  cases g1.symm.trans g2
  rcases h with ⟨_,_,_,a,b⟩ | ⟨v,_⟩
  ·obtain ⟨rfl,rfl⟩:=i1 _ _ a;exact i2 _ _ b
  ·exact absurd rfl v
 | resumeSuspended g1 _ _ _ i1 i2=>
  intro e2 s2 h
  obtain ⟨st,g2,h⟩:=h.tV
  cases g1.symm.trans g2
  obtain ⟨_,_,a,b⟩:=h
  obtain ⟨rfl,rfl⟩:=i1 _ _ a;exact i2 _ _ b
 | resumeJustStarted g1 v _ ih=>
  intro e2 s2 h
  obtain ⟨st,g2,h⟩:=h.tV
  cases g1.symm.trans g2
  rcases h with ⟨x,_⟩ | ⟨_,b⟩
  ·exact absurd x v
  ·exact ih _ _ b
 | resumeThrowFresh g1 _ ih=>
  intro e2 s2 h
  obtain ⟨st,g2,h⟩:=h.tV
  cases g1.symm.trans g2
  exact ih _ _ h
 | resumeRunning g1 _ ih=>
  intro e2 s2 h
  obtain ⟨st,g2,h⟩:=h.tV
  cases g1.symm.trans g2
  exact ih _ _ h
 | resumeFinished g1 _ ih=>
  intro e2 s2 h
  obtain ⟨st,g2,h⟩:=h.tV
  cases g1.symm.trans g2
  exact ih _ _ h
 | segRet _ _ i1 i2=>intro e2 s2 h;obtain ⟨_,_,a,b⟩:=h.tV;obtain ⟨rfl,rfl⟩:=i1 _ _ a;exact i2 _ _ b
 | segGen _ _ i1 i2=>intro e2 s2 h;obtain ⟨_,_,a,b⟩:=h.tV;obtain ⟨rfl,rfl⟩:=i1 _ _ a;exact i2 _ _ b
 | segSuspOut q1 _ i1=>
  intro e2 s2 h
  obtain ⟨e1,s1,a,h⟩:=h.tV
  obtain ⟨rfl,rfl⟩:=i1 _ _ a
  rw[q1]at h
  exact h
 | segSuspGen q1 _ _ _ i1 i2=>
  intro e2 s2 h
  obtain ⟨e1,s1,a,h⟩:=h.tV
  obtain ⟨rfl,rfl⟩:=i1 _ _ a
  rw[q1]at h
  exact i2 _ _ h
 | _=>rename_i ih;exact fun _ _ h=>ih _ _ h.tV
theorem Wakes.det {M:Model} {Γ:Ctx} {p:Pos} {g:Nat} {r:Resume} {s s' s2:Shared} {res N2:GenResult} (h:Wakes M Γ p g r s res s') (h2:Wakes M Γ p g r s N2 s2):N2=res/\s2=s':=by
 unfold Wakes at h h2
 cases hg:s.gens[g]? with
 | none=>rw[hg]at h;exact h.elim
 | some st=>
  rw[hg]at h h2
  cases st with
  | fresh c=>
   cases r with
   | send v=>
    cases v with
    | none=>obtain ⟨e1,s1,a,_,rfl,rfl⟩:=h;obtain ⟨e2,s2',b,_,rfl,rfl⟩:=h2;obtain ⟨rfl,rfl⟩:=a.det _ _ b;exact ⟨rfl,rfl⟩
    | _=>exact ⟨h2.1.trans h.1.symm,h2.2.trans h.2.symm⟩
   | throw x=>exact ⟨h2.1.trans h.1.symm,h2.2.trans h.2.symm⟩
  | suspended k0 l0 c0 p0 f0 c1=>obtain ⟨e1,s1,a,_,rfl,rfl⟩:=h;obtain ⟨e2,s2',b,_,rfl,rfl⟩:=h2;obtain ⟨rfl,rfl⟩:=a.det _ _ b;exact ⟨rfl,rfl⟩
  | running=>exact ⟨h2.1.trans h.1.symm,h2.2.trans h.2.symm⟩
  | finished=>exact ⟨h2.1.trans h.1.symm,h2.2.trans h.2.symm⟩
theorem KQ {α:Type} (M:Model) (Γ:Ctx) (t:Sem α): ∀(Q Q':α->Pos->Shared->Prop) (E E':Value->Pos->Shared->Prop) (p:Pos) (s:Shared),Sem.wp M Γ t Q E p s->Sem.wp M Γ t Q' E' p s->
  Sem.wp M Γ t (fun a p s=>Q a p s/\Q' a p s) (fun a p s=>E a p s/\E' a p s) p s:=by
 induction t with
 | pure a=>intro Q Q' E E' p s h h';exact ⟨h,h'⟩
 | raise e=>intro Q Q' E E' p s h h';exact ⟨h,h'⟩
 | unsupported _=>intro Q Q' E E' p s h h';exact h
 | finish _=>intro Q Q' E E' p s h h';exact h
 | rule _ k ih=>intro Q Q' E E' p s h h';exact ih () _ _ _ _ p s h h'
 | «at» p' k ih=>intro Q Q' E E' p s h h';exact ih () _ _ _ _ p' s h h'
 | load a _ k ih=>intro Q Q' E E' p s h h';obtain ⟨o,ho,h⟩:=h;obtain ⟨o',zI,h'⟩:=h';rw[ho]at zI;cases zI;exact ⟨o,ho,ih o _ _ _ _ p s h h'⟩
 | update a _ f k ih=>intro Q Q' E E' p s h h';exact ⟨h.1,ih () _ _ _ _ p _ h.2 h'.2⟩
 | loadIfAlive a k ih=>intro Q Q' E E' p s h h';exact ih _ _ _ _ _ p s h h'
 | point _ k ih=>intro Q Q' E E' p s h h';exact ih () _ _ _ _ p s h h'
 | register _ _=>intro Q Q' E E' p s h h';exact h
 | alloc o k ih=>intro Q Q' E E' p s h h';exact ih _ _ _ _ _ p _ h h'
 | fresh k ih=>intro Q Q' E E' p s h h';exact ih _ _ _ _ _ p _ h h'
 | ask k ih=>intro Q Q' E E' p s h h';exact ih _ _ _ _ _ p s h h'
 | choose src m k ih=>intro Q Q' E E' p s h h';exact ⟨h.1,ih _ _ _ _ _ p _ h.2 h'.2⟩
 | os q _ k ih=>intro Q Q' E E' p s h h';exact ih _ _ _ _ _ p _ h h'
 | call c hd _ _ k ih=>
  intro Q Q' E E' p s h h'
  obtain ⟨r,s1,hr,h⟩:=h
  obtain ⟨r',N3,HH,h'⟩:=h'
  obtain ⟨e1,rfl⟩:=Runs.det hr _ _ HH
  cases e1
  exact ⟨r,N3,hr,ih r _ _ _ _ p N3 h h'⟩
 | handled own k ih=>intro Q Q' E E' p s h h';exact ih _ _ _ _ _ p s h h'
 | genState g k ih=>intro Q Q' E E' p s h h';obtain ⟨o,ho,h⟩:=h;obtain ⟨o',zI,h'⟩:=h';rw[ho]at zI;cases zI;exact ⟨o,ho,ih _ _ _ _ _ p s h h'⟩
 | newGen c k ih=>intro Q Q' E E' p s h h';exact ih _ _ _ _ _ p _ h h'
 | resume g r _ k ih=>
  intro Q Q' E E' p s h h'
  obtain ⟨x,s1,hr,h⟩:=h
  obtain ⟨x',N3,HH,h'⟩:=h'
  obtain ⟨rfl,rfl⟩:=hr.det HH
  exact ⟨x',N3,hr,ih x' _ _ _ _ p N3 h h'⟩
 | yield _ _ _ _=>intro Q Q' E E' p s h h';exact h
 | stack k ih=>intro Q Q' E E' p s h h';exact ih _ _ _ _ _ p s h h'
 | fork _ _=>intro Q Q' E E' p s h h';exact h
 | thread k ih=>intro Q Q' E E' p s h h';exact ih _ _ _ _ _ p s h h'
 | await _ _ _ _ _=>intro Q Q' E E' p s h h';exact h
theorem fz {α:Type} {M:Model} {A:Around} {t:Sem α} {Q Q':α->Shared->Prop} {E E':Value->Shared->Prop} {s:Shared} (h:wpAny M A t Q E s) (h':wpAny M A t Q' E' s):
  wpAny M A t (fun a s=>Q a s/\Q' a s) (fun a s=>E a s/\E' a s) s:=fun Γ p hΓ=>KQ M Γ t _ _ _ _ p s (h Γ p hΓ) (h' Γ p hΓ)
end PySem
namespace L2
open PySem PySem.Spec PyProof.Rows
structure XQ (P:Program) (w:World) (K:PySem.W.Frag) (mg:Str->Option Value) (base:Heap) (k:Nat) (f:Addr) (fd:FuncData) (ps:List Str) (sp:Sp) (pre:List Value->Shared->Prop) (post:Shared->Prop):Prop where
 len: ∀vs H Q E,sp vs H Q E->vs.length=ps.length
 run: ∀(A:Around) (outer:List Env) (s:Shared) (H:Hp) (args:Args) (us:List Value) (vs:List V) (Q:VK) (E:XK),cj k A->rA P w K mg base A outer s H->BindsTo s fd args (ps.zip us)->Vals vs us->pre us s->sp vs H Q E->
  codeAny (model P w) A (.call (.ref f) args) (fun r s'=>CR fU outer P w H s Q E r s'/\post s') s
section
variable {P:Program} {w:World} {K:PySem.W.Frag} {mg:Str->Option Value} {base:Heap}
end
noncomputable def bY (c:Nat):List Nat->List (List Nat)
 | []=>[[]]
 | d::r=>if d=c then []::bY c r else match bY c r with | []=>[[d]] | p::ps=>(d::p)::ps
theorem eK (c:Nat): ∀l, ∃p ps,bY c l=p::ps
 | []=>⟨_,_,rfl⟩
 | d::r=>by
  unfold bY
  split
  ·exact ⟨_,_,rfl⟩
  ·obtain ⟨p,ps,e⟩:=eK c r
   rw[e];exact ⟨_,_,rfl⟩
noncomputable def rY (c:Nat):Nat->List Nat->List Nat
 | _,[]=>[]
 | a,d::r=>if d=c then a::rY c (a+1) r else rY c (a+1) r
theorem rZ (l:List Nat) (c lim:Nat): ∀(r:List Nat) (a:Nat) (st:Array Nat×Nat),l.drop a=r->st.2<=a->st.1.size+r.length<lim->
  (forIn (List.range' a (r.length+1)) st (StrLaws.occBody (S l) (S [c]) l.length lim)).run.fst.toList=st.1.toList++rY c a r
 | [],a,st,hd,hf,hl=>by
  have fW:l.length<=a:=List.drop_eq_nil_iff.mp hd
  show (forIn [a] st (StrLaws.occBody (S l) (S [c]) l.length lim)).run.fst.toList=st.1.toList++[]
  rw[Qct,Qal]
  unfold StrLaws.occBody
  rw[if_neg (by rw[bj];simp only[Zy,Qcd];omega)]
  rfl
 | d::r,a,st,hd,hf,hl=>by
  have fW:a<l.length:=by
   have:=congrArg List.length hd
   simp only[Qat,Zy]at this
   omega
  have Af:l[a]? =some d:=by
   have:=congrArg (fun z=>z[0]?) hd
   simpa using this
  have Jj:l.drop (a+1)=r:=by
   have:=congrArg List.tail hd
   simpa using this
  show (forIn (a::List.range' (a+1) (r.length+1)) st (StrLaws.occBody (S l) (S [c]) l.length lim)).run.fst.toList=_
  rw[Qct]
  have z9:Builtin.Str.subAt (S l) (S [c]) a=(l[a]? ==some c):=subAt_one l c a
  simp only[Zy]at hl
  by_cases h:d=c
  ·subst h
   unfold StrLaws.occBody
   rw[if_pos (by rw[z9,Af,bj];simp only[Zy,Qcd];exact ⟨⟨⟨by omega,hf⟩,by omega⟩,by simp⟩)]
   have ih:=rZ l d lim r (a+1) (st.1.push a,a+(S [d]).length) Jj (by rw[bj];simp) (by simp only[Array.size_push];omega)
   unfold rY
   rw[if_pos rfl]
   refine Eq.trans ih ?_
   simp
  ·unfold StrLaws.occBody
   rw[if_neg (by rw[z9,Af];simp[h])]
   have ih:=rZ l c lim r (a+1) st Jj (by omega) (by omega)
   unfold rY
   rw[if_neg h]
   exact ih
theorem r6 (l:List Nat) (c lim:Nat) (h:l.length<lim):Builtin.Str.occurrences (S l) (S [c]) 0 (S l).length lim=rY c 0 l:=by
 rw[StrLaws.occ_eq,bj]
 exact (rZ l c lim l 0 (#[],0) rfl (XA _) (by simpa using h)).trans (by simp)
theorem uL (l:List Nat) (i j:Nat):Builtin.Str.strSub (S l) i j=S ((l.drop i).take (j - i)):=by
 apply Str.ext'
 apply Qd6.mp
 rw[StrLaws.strSub_toList]
 simp[S]
theorem lD (l:List Nat) (c:Nat): ∀(r:List Nat) (a b:Nat),b<=a->l.drop a=r->(∀d∈(l.drop b).take (a - b),d≠c)->
  StrLaws.partsFrom (S l) 1 b (rY c a r)=((match bY c r with | []=>[] | p::ps=>((l.drop b).take (a - b)++p)::ps)).map S
 | [],a,b,hba,hd,hn=>by
  have fW:l.length<=a:=List.drop_eq_nil_iff.mp hd
  show [Builtin.Str.strSub (S l) b (S l).length]=[S ((l.drop b).take (a - b)++[])]
  rw[uL,bj,Qal]
  congr 2
  rw[Qao (by rw[Qat];omega),Qao (by rw[Qat];omega)]
 | d::r,a,b,hba,hd,hn=>by
  have fW:a<l.length:=by
   have:=congrArg List.length hd
   simp only[Qat,Zy]at this
   omega
  have Jj:l.drop (a+1)=r:=by
   have:=congrArg List.tail hd
   simpa using this
  have Af:l[a]? =some d:=by
   have:=congrArg (fun z=>z[0]?) hd
   simpa using this
  by_cases h:d=c
  ·subst h
   unfold rY bY
   rw[if_pos rfl,if_pos rfl]
   show Builtin.Str.strSub (S l) b a::StrLaws.partsFrom (S l) 1 (a+1) (rY d (a+1) r)=S _::(bY d r).map S
   rw[uL,Qal,lD l d r (a+1) (a+1) (XA _) Jj (by simp)]
   obtain ⟨p,ps,e⟩:=eK d r
   rw[e]
   simp
  ·have e1:(l.drop b).take (a+1 - b)=(l.drop b).take (a - b)++[d]:=by
    have e0:a+1 - b=(a - b)+1:=by omega
    rw[e0,Qdm,Qbp]
    have e2:b+(a - b)=a:=by omega
    rw[e2,Af]
    rfl
   have ih:=lD l c r (a+1) b (by omega) Jj (by
    rw[e1]
    intro z hz
    rcases Qaa.mp hz with q | q
    ·exact hn z q
    ·rw[QB.mp q];exact h)
   unfold rY bY
   rw[if_neg h,if_neg h,ih]
   obtain ⟨p,ps,e⟩:=eK c r
   rw[e,e1]
   simp
theorem r_ (l:List Nat) (c lim:Nat) (h:l.length<lim):Builtin.Str.partsBetween (S l) (Builtin.Str.occurrences (S l) (S [c]) 0 (S l).length lim) 1=(bY c l).map S:=by
 rw[StrLaws.partsBetween_eq,r6 l c lim h,lD l c l 0 0 (XA _) rfl (by simp)]
 obtain ⟨p,ps,e⟩:=eK c l
 rw[e]
 simp
theorem uM (c:Nat): ∀(l:List Nat) (a:Nat),rY c a l=[]->l.filter (fun d=>decide (d≠c))=l
 | [],_,_=>rfl
 | d::r,a,h=>by
  unfold rY at h
  by_cases e:d=c
  ·rw[if_pos e]at h;cases h
  ·rw[if_neg e]at h
   rw[Qck (by simpa using e),uM c r (a+1) h]
theorem yS {h:Heap} {a:Addr} {m m':Str->Option Value} (h1:h.Ns a m) (h2:h.Ns a m') (x:Str):m x=m' x:=by
 obtain ⟨o,es,ep,e1,d1,_,f1⟩:=h1
 obtain ⟨o',Qt,Qu,e2,d2,_,f2⟩:=h2
 rw[e1]at e2;cases e2
 rw[d1]at d2;cases d2
 exact (f1 x).symm.trans (f2 x)
section
variable {X:Cx}
theorem iX {pins:List (Addr×Obj)} {s:Shared} {σ:St} {H:Hp} {i:Nat} {x:Str} {pos:Pos} {v:V} (I:Inv X pins σ H s) (hN:X.N[i]? =some x) (hv:x_ X.env.scope x) (e:σ[i]? =some (some v))
  (hd:(x==("__debug__":Str))=false:=by decide) (lX:(x==("__classdict__":Str))=false:=by decide):
  wpAny (model X.prog X.w) X.A (eval (.Name x pos) X.env) (fun u s'=>s'=s/\RelV v u/\(X.env.kindOf x=some .local-> ∀m,s.heap.Ns X.env.locals m->m x=some u)) X.xe s:=by
 obtain ⟨m,hn,hl⟩:=I.loc
 obtain ⟨u,r,l⟩:=hl i x v hN e hv
 rcases l with ⟨hk,hm⟩ | ⟨hk,c,hc,dD⟩
 ·exact wpAny_Name (wpAny_loadName_local I.ok.kind hk hn hm ⟨rfl,r,fun _ m' EH=>(yS EH hn x).trans hm⟩) hd
 ·rcases hk with hk | hk
  ·exact wpAny_Name (wpAny_loadName_cell I.ok.kind hk hc dD ⟨rfl,r,fun z=>by rw[hk]at z;cases z⟩) hd
  ·exact wpAny_Name (wpAny_loadName_free I.ok.kind hk hc dD ⟨rfl,r,fun z=>by rw[hk]at z;cases z⟩ lX) hd
end
theorem nR {α:Type} {t:Sem α} {Q Q':α->Shared->Prop} {M:Model} {A:Around} {E:Value->Shared->Prop} {s:Shared} (h:wpAny M A t Q E s) (hQ: ∀a s',s.toks<=s'.toks/\Q a s'->Q' a s'):wpAny M A t Q' E s:=wpAny_mono (wpAny_toks h) hQ fun _ _ x=>x.2
structure HM (P:Program) (w:World) (K:PySem.W.Frag) (tg:Expr) (J:It) (fp:List Addr) (it:Addr) (tn:Nat->Heap->Prop):Prop extends Turn P w K tg J fp it tn where
 HN: ∀(X:Cx),X.prog=P->X.w=w->X.K=K->X.calm=true-> ∀(i:Nat) (pins:List (Addr×Obj)) (s:Shared) (σ:St) (H:Hp) (E:Value->Shared->Prop),Inv X pins σ H s->(∀b∈fp,ju X pins H b)->tn i s.heap->J.go i H->
  wpAny (model P w) X.A (pyNext (.ref it)) (fun r s1=> ∃u,r=some u/\(∃z,u= .str z s.toks)/\s1.toks=s.toks+1/\
   wpAny (model P w) X.A (letOwnedTupleGo tg (.ref it) u) (fun _ s2=> ∃x H',Inv X pins σ H' s2/\RelV x u/\J.yg i H x H'/\tn (i+1) s2.heap/\ ∀b∈fp,H' b=none) E s1) E s
theorem qL {P:Program} {w:World} {K:PySem.W.Frag} {tg:Expr} (it:Addr) (l:List Nat) (t:Tok):HM P w K tg (Hq (bX l)) [it] it (fun i h=>h.IsStrIter it (strIterType (S l)) (S l) t i) where
 toTurn:=nH it l t
 HN:=by
  intro X hP hw hK hc i pins s σ H E I hf st hg
  have base:=(nH (P:=P) (w:=w) (K:=K) (tg:=tg) it l t).item X hP hw hK hc i pins s σ H E I hf st hg
  have Nq:i<l.length:=by have:i<(bX l).length:=hg;rwa [aU]at this
  have hx:(S l).cps[i]? =some l[i]:=by simp[S,Nq]
  have raw:wpAny (model P w) X.A (pyNext (.ref it)) (fun r s1=>(∃z,r=some (.str z s.toks))/\s1.toks=s.toks+1) E s:=by
   by_cases ha:(S l).cps.all (· <128)=true
   ·have et:strIterType (S l)="str_ascii_iterator":=by unfold strIterType;rw[if_pos ha]
    rw[et]at st
    exact wpAny_pyNext_ascii_item st hx fun h' _ _=>⟨⟨_,rfl⟩,rfl⟩
   ·have et:strIterType (S l)="str_iterator":=by unfold strIterType;rw[if_neg ha]
    rw[et]at st
    exact wpAny_pyNext_wide_item st hx fun h' _ _=>⟨⟨_,rfl⟩,rfl⟩
  refine wpAny_mono (fz base raw) (fun r s1 ⟨⟨u,hr,h1⟩,⟨z,hz⟩,hk⟩=>?_) fun _ _ z=>z.1
  subst hr
  exact ⟨u,rfl,⟨z,Qae hz⟩,hk,h1⟩
section
variable {X:Cx}
end
end L2
set_option maxHeartbeats 1000000
namespace L2.F3
open PySem PySem.Spec PyProof.Rows
end L2.F3
namespace L2
open PySem PySem.Spec PyProof.Rows
section
variable {prog:Program} {w:World} {A:Around} {E:Value->Shared->Prop} {s:Shared}
end
section
variable {X:Cx}
end
section
variable {P:Program} {w:World} {K:PySem.W.Frag} {mg:Str->Option Value} {base:Heap}
end
noncomputable def bI (c:Nat):List (List Nat)->List Nat
 | []=>[]
 | [p]=>p
 | p::q::r=>p++c::bI c (q::r)
theorem se (c:Nat): ∀(ps:List (List Nat)),Builtin.Str.glued (S [c]) (ps.map S)=S (bI c ps)
 | []=>rfl
 | [p]=>rfl
 | p::q::r=>by
  have ih:=se c (q::r)
  rw[StrLaws.glued_eq_join]at ih ⊢
  show S p++S [c]++Str.join (S [c]) ((q::r).map S)=_
  rw[ih,qw,qw,Xz]
  rfl
theorem i_ (c:Nat): ∀ps:List (List Nat),(bI c ps).length<=(ps.map List.length).sum+ps.length
 | []=>XA _
 | [p]=>by simp[bI]
 | p::q::r=>by
  have ih:=i_ c (q::r)
  unfold bI
  simp only[JQ,Zy,ZD,Qaz]at ih ⊢
  omega
theorem gm {c:Nat}: ∀{p:List Nat} (r:List Nat),c∉p->bY c (p++c::r)=p::bY c r
 | [],r,_=>by
  show bY c (c::r)=_
  conv=>lhs;unfold bY
  rw[if_pos rfl]
 | d::p,r,h=>by
  have hd:d≠c:=fun z=>h (by rw[z];exact ZC)
  have ih:=gm r (fun z=>h (Zz _ z):c∉p)
  show bY c (d::(p++c::r))=_
  conv=>lhs;unfold bY
  rw[if_neg hd,ih]
theorem ik {c:Nat}: ∀{p:List Nat},c∉p->bY c p=[p]
 | [],_=>rfl
 | d::p,h=>by
  have hd:d≠c:=fun z=>h (by rw[z];exact ZC)
  have ih:=ik (fun z=>h (Zz _ z):c∉p)
  unfold bY
  rw[if_neg hd,ih]
theorem nS {c:Nat}: ∀{ps:List (List Nat)},ps≠[]->(∀p∈ps,c∉p)->bY c (bI c ps)=ps
 | [],h,_=>absurd rfl h
 | [p],_,h=>ik (h p ZC)
 | p::q::r,_,h=>by
  show bY c (p++c::bI c (q::r))=_
  rw[gm _ (h p ZC),nS (by simp) (fun x hx=>h x (Zz _ hx))]
theorem yT (c:Nat): ∀l:List Nat,(bY c l).length<=l.length+1
 | []=>XA _
 | d::r=>by
  have ih:=yT c r
  unfold bY
  split
  ·simp only[Zy];omega
  ·obtain ⟨p,ps,e⟩:=eK c r
   rw[e]at ih ⊢
   simp only[Zy]at ih ⊢
   omega
theorem CN (l:List Nat) (c:Nat):Txt.split (S l) (S [c])=(bY c l).map S:=by
 have hp:=r_ l c (l.length+1) (Qce _)
 have ho:=r6 l c (l.length+1) (Qce _)
 have HP:rY c 0 l=[]->(bY c l).map S=[S l]:=fun e=>by
  have hc:c∉l:=fun z=>by
   have e2:=uM c l 0 e
   have:c∈l.filter fun d=>decide (d≠c):=by rw[e2];exact z
   have:=(Qbb.mp this).2
   simp at this
  rw[ik hc];rfl
 unfold Txt.split
 have e0:(S l).length+1=l.length+1:=by rw[bj]
 have e1:(S [c]).length=1:=by rw[bj];rfl
 rw[e0,ho]
 split
 ·rename_i h
  by_cases hz:rY c 0 l=[]
  ·exact (HP hz).symm
  ·exfalso
   rw[Bool.or_eq_true]at h
   have SU:c∈l:=by
    by_cases z:c∈l
    ·exact z
    ·exfalso
     apply hz
     have: ∀(r:List Nat) (a:Nat),c∉r->rY c a r=[]:=by
      intro r
      induction r with
      | nil=>intro a _;rfl
      | cons d r ih=>
       intro a hn
       unfold rY
       rw[if_neg (fun q:d=c=>hn (by rw[q];exact ZC)),ih (a+1) (fun q=>hn (Zz _ q))]
     exact this l 0 z
   rcases h with h | h
   ·have h':=of_decide_eq_true h
    rw[bj,e1]at h'
    have:=List.length_pos_of_mem SU
    omega
   ·have h':=of_decide_eq_true h
    unfold Builtin.Str.strKind at h'
    have k1: ∀b:Nat,(S l).cps.all (· <b)=true->(S [c]).cps.all (· <b)=true:=fun b hb=>by
     have ea: ∀m:List Nat,(S m).cps.all (· <b)=m.all fun x=>decide (x<b):=fun m=>by simp[S]
     rw[ea,Qcf]at hb
     rw[ea,Qcf]
     intro x hx
     rw[QB.mp hx]
     exact hb c SU
    by_cases a1:(S l).cps.all (· <256)=true
    ·rw[if_pos a1,if_pos (k1 256 a1)]at h';omega
    ·rw[if_neg a1]at h'
     by_cases a2:(S l).cps.all (· <65536)=true
     ·rw[if_pos a2]at h'
      split at h'
      ·omega
      ·rw[if_pos (k1 65536 a2)]at h';omega
     ·rw[if_neg a2]at h'
      repeat' split at h'
      all_goals omega
 ·split
  ·rename_i h
   exact (HP (List.isEmpty_iff.mp h)).symm
  ·rw[<-ho,e1]
   exact hp
section
variable {X:Cx}
def CO (K:PySem.W.Frag) (c:Nat):V->List V->Hp->VK->Prop:=fun x vs H Q=> ∃(p:Addr) (ls:List (List Nat)),x= .str (S [c])/\vs=[.ref p]/\aN K H p (ls.map fun l=>V.str (S l))/\(ls.map List.length).sum+ls.length<=16777216/\Q (.str (S (bI c ls))) H
theorem nU (K:PySem.W.Frag) (c:Nat) (hK:X.K=K):wN X "str.join" (CO K c):=by
 subst hK
 intro pins s σ H x xs v us Q I rx rv h
 obtain ⟨p,ls,rfl,rfl,hq,hz,q⟩:=h
 obtain ⟨t,rfl⟩:=rx
 obtain ⟨u,rfl,ru⟩:=vals1 rv
 cases ru
 obtain ⟨aD,r,pl,_⟩:=I.list hq
 have e:(S [c]).length=1:=by rw[bj];rfl
 refine join_list pl.isList (by simpa using jR r) ?_ fun t' k=>?_
 ·rw[e,Nat.mul_one,Qbs,kb]
  have:((ls.map ((fun x:Str=>x.length) ∘ S)).sum)=(ls.map List.length).sum:=congrArg List.sum (Qcm fun l _=>bj l)
  rw[this];exact hz
 ·have e2:Txt.join (S [c]) (ls.map S)=S (bI c ls):=se c ls
  rw[e2]
  exact ⟨.str (S (bI c ls)),H,I.tok _,⟨_,rfl⟩,q⟩
def FD (c:Nat):V->List V->Hp->VK->Prop:=fun x vs H Q=> ∃l,x= .str (S l)/\vs=[.str (S [c])]/\l.length<=1000000/\ ∀p,H p=none->Q (.ref p) (upd H p (.lst ((bY c l).map fun l=>V.str (S l))))
theorem jG: ∀(ps:List (List Nat)) (tv:List (Str×Tok)),tv.map (·.1)=ps.map S->Vals (ps.map fun l=>V.str (S l)) (strValues tv)
 | [],[],_=> .nil
 | p::ps,(a,t)::tv,h=>by
  simp only[ZD,List.cons.injEq]at h
  obtain ⟨rfl,h⟩:=h
  exact .cons ⟨t,rfl⟩ (jG ps tv h)
 | [],_::_,h=>by simp at h
 | _::_,[],h=>by simp at h
theorem fA (c:Nat):wN X "str.split" (FD c):=by
 intro pins s σ H x xs v us Q I rx rv h
 obtain ⟨l,rfl,rfl,hz,q⟩:=h
 obtain ⟨t,rfl⟩:=rx
 obtain ⟨u,rfl,tu,rfl⟩:=vals1 rv
 have hn:=iL
 have hlen:=yT c l
 have fin: ∀(tv:List (Str×Tok)) (k:Nat),tv.map (·.1)=Txt.split (S l) (S [c])->EP X pins σ Q (.ref s.heap.objs.size) { s with heap:=s.heap.push { cls:= .type "list",data:= .seq (strValues tv).toArray },toks:=k }:=fun tv k e=>by
  rw[CN]at e
  have hf:H s.heap.objs.size=none:=I.bg.fresh (XA _)
  refine ⟨.ref s.heap.objs.size,_,I.laid (o:= .lst ((bY c l).map fun l=>V.str (S l))) (t':=k) (fun b u e=>JR _ e) (XA _) ?_,rfl,q _ hf⟩
  refine ⟨by rw[kb];have:(1000001:Nat)<=sizeLine:=(by decide);omega,strValues tv,0,jG _ _ e,Qai _ rfl⟩
 have hxs:(S l).length<=sizeLine:=by rw[bj];have:(1000001:Nat)<=sizeLine:=(by decide);omega
 have kL:(Builtin.Str.partsBetween (S l) (Builtin.Str.occurrences (S l) (S [c]) 0 (S l).length ((S l).length+1)) (S [c]).length).length<=sizeLine:=by
  have e1:(S [c]).length=1:=by rw[bj];rfl
  rw[e1,r_ l c _ (by rw[bj];exact Qce _),kb]
  have:(1000001:Nat)<=sizeLine:=by decide
  omega
 have hy:((S [c]).length==0)=false:=by rw[bj];rfl
 show wpAny _ _ (call (.builtin "str.split") [.str (S l) t, .str (S [c]) tu]) _ _ s
 cases h1:(decide ((S l).length<(S [c]).length)||decide (Builtin.Str.strKind (S l)<Builtin.Str.strKind (S [c])))
 ·cases hf:(Builtin.Str.occurrences (S l) (S [c]) 0 (S l).length ((S l).length+1)).isEmpty
  ·refine call_meets F.slot_str_split (typeIs_str _ _ _) F.entry_str_split (F.args_str_split_2 _ _) (meets_str_split_sep (S l) (S [c]) t tu h1 hy hf hxs kL) ?_
   show wants _ _ _ { s with toks:=_,heap:=s.heap.push { cls:= .type "list",data:= .seq (strsFrom s.toks _).toArray } }
   rw[strsFrom_eq]
   exact fin (numbered s.toks _) _ ((numbered_texts _ _).trans ((if_neg (ne_true_of_eq_false h1)).trans (if_neg (ne_true_of_eq_false hf))).symm)
  ·exact call_meets F.slot_str_split (typeIs_str _ _ _) F.entry_str_split (F.args_str_split_2 _ _) (meets_str_split_not_found (S l) (S [c]) t tu h1 hy hf)
    (fin [(S l,t)] s.toks ((if_neg (ne_true_of_eq_false h1)).trans (if_pos hf)).symm)
 ·exact call_meets F.slot_str_split (typeIs_str _ _ _) F.entry_str_split (F.args_str_split_2 _ _) (meets_str_split_cannot_occur (S l) (S [c]) t tu h1)
   (fin [(S l,t)] s.toks (if_pos h1).symm)
noncomputable def dg (n:Nat):List Nat:=((toString (n:Int):String):Str).cps.toList
theorem KR (n:Nat):((toString (n:Int):String):Str)=S (dg n):=JV _
theorem lE {n:Nat} (h:n<2 ^ 60):((n:Int)).natAbs.log2<1920:=by
 rw[Int.natAbs_natCast]
 by_cases z:n=0
 ·subst z;decide
 ·exact (Nat.log2_lt z).mpr (Qaf h (Nat.pow_le_pow_right (by decide) (by decide)))
theorem qM:cF X (.type "str") (fun xs H Q=> ∃n:Nat,xs=[.int n]/\n<2 ^ 60/\Q (.str (S (dg n))) H):=by
 intro pins s σ H xs us Q I r h
 obtain ⟨n,rfl,hz,q⟩:=h
 refine rz pins s σ H _ us Q I r ⟨n,rfl,lE hz,?_⟩
 rw[KR]
 exact q
def N4 (c:Nat) (ta tb:TE):TE:=fun σ H Q=>ta σ H fun x H1=> ∃n:Nat,x= .int n/\n<1000000/\(dg n).length<=400/\tb σ H1 fun y H2=> ∃m:Nat,y= .int m/\m<1000000/\(dg m).length<=400/\Q (.str (S (dg n++c::dg m))) H2
theorem FE {a b:Expr} {ta tb:TE} {x:Str} {kk:Nat} {p1 p2 p3 pos:Pos} (c:Nat) (hx:x=S [c]) (ha:PE X a ta) (hb:PE X b tb):
  PE X (.JoinedStr [.FormattedValue a (-1) none p1, .Constant (.str x) kk p2, .FormattedValue b (-1) none p3] pos) (N4 c ta tb):=by
 subst hx
 intro pins s σ H Q I h
 have hz:(1000:Nat)<=sizeLine:=by decide
 refine JoinedStr_many (joinParts_cons (FormattedValue_plain (bN (ha pins s σ H _ I h) fun v s1 zz=>?_)))
 obtain ⟨x,H1,I1,r1,n,e1,hn,Mm,q1⟩:=zz
 subst e1
 obtain ⟨t,rfl⟩:=r1
 refine formatField_int_small (lE (by omega)) ?_
 have e0:Str.empty++((toString (n:Int):String):Str)=S (dg n):=by rw[KR];exact qw [] (dg n)
 show (Str.empty++((toString (n:Int):String):Str)).length<=sizeLine/\wpAny _ _ (joinParts (Str.empty++((toString (n:Int):String):Str)) _) _ _ _
 rw[e0]
 have I1':Inv X pins σ H1 { s1 with toks:=s1.toks+1+1 }:=I1.tok _
 have SV:Inv X pins σ H1 { s1 with toks:=s1.toks+1+1+1 }:=I1.tok _
 refine ⟨by rw[bj];omega,?_⟩
 refine joinParts_cons (Qd5 (k:=kk) (pos:=p2) ?_)
 show (S (dg n)++S [c]).length<=sizeLine/\wpAny _ _ (joinParts (S (dg n)++S [c]) _) _ _ _
 rw[qw]
 refine ⟨by rw[bj,JQ,List.length_singleton];omega,?_⟩
 refine joinParts_cons (FormattedValue_plain (bN (hb pins _ σ H1 _ SV q1) fun v s2 zz=>?_))
 obtain ⟨y,H2,I2,r2,m,e2,hm,hl,q2⟩:=zz
 subst e2
 obtain ⟨t2,rfl⟩:=r2
 refine formatField_int_small (lE (by omega)) ?_
 show (S (dg n++[c])++((toString (m:Int):String):Str)).length<=sizeLine/\wpAny _ _ (joinParts (S (dg n++[c])++((toString (m:Int):String):Str)) []) _ _ _
 rw[KR,qw,Xz,List.singleton_append]
 have XR:(dg n++c::dg m).length<=1000:=by rw[JQ,Zy];omega
 refine ⟨by rw[bj];omega,joinParts_nil ?_ (by rw[bj];omega)⟩
 exact ⟨.str (S (dg n++c::dg m)),H2,(I2.tok _).tok _,⟨_,rfl⟩,q2⟩
end
structure ZT (P:Program) (w:World) (K:PySem.W.Frag) (fp:List Addr) (it:Addr) (Sq:Hp->List V->Prop) (IT:Nat->Heap->Prop):Prop where
 obj: ∀i h,IT i h-> ∃o,h.get? it=some o/\ ∀v,o.data≠ .cell v
 keep: ∀i h h',IT i h->(∀o,h.get? it=some o->h'.get? it=some o)->IT i h'
 inj: ∀(X:Cx),X.K=K-> ∀(pins:List (Addr×Obj)) (s:Shared) (σ:St) (H:Hp),Inv X pins σ H s-> ∀xs ys,Sq H xs->Sq H ys->xs=ys
 draws: ∀(X:Cx),X.prog=P->X.w=w->X.K=K->X.calm=true-> ∀(pins:List (Addr×Obj)) (s:Shared) (σ:St) (H:Hp),Inv X pins σ H s-> ∀xs,Sq H xs->
  ∃(PP:Nat->Value->Prop) (SS:Nat->Heap->Prop),(∀i x v,xs[i]? =some x->PP i v->RelV x v)/\Draws P w X.A.in1 it fp xs.length PP SS/\(∀i,IT i s.heap->SS i s.heap)/\ ∀i h,SS i h->IT i h
section
variable {X:Cx} {elts:List Expr} {k:Nat} {pos':Pos} {a b:Expr} {ta:TA} {p pos:Pos}
end
end L2
set_option maxHeartbeats 1000000
namespace L2
open PySem PySem.Spec PyProof.Rows
theorem uN:typeLookup (.type "dict") "__len__"=pure (some (.builtin "dict.__len__")):=PySem.F.slot_dict_len.lookup
section
variable {prog:Program} {w:World} {A:Around} {E:Value->Shared->Prop} {s:Shared} {KK:Type} [DecidableEq KK] {knd:PySem.KeyKind prog w KK}
theorem sf {Q:List Value->Shared->Prop} (hh:A.handled=none) (d:Addr) (aZ:List (KK×Value)) (ep:Nat) (hd:(d==sysModules)=false) (hm:s.heap.DictAt knd d aZ ep) (hn:aZ.length<=sizeLine)
  (hQ: ∀s' acc,(∀b o,s.heap.get? b=some o->s'.heap.get? b=some o)->s'.gens=s.gens->s'.drawn=s.drawn->s'.os=s.os->ItemsOf (fun i v=> ∃k x,aZ[i]? =some (k,x)/\knd.is k v=true) acc aZ.length->Q acc.toList s'):
  wpAny (model prog w) A (collect (.ref d)) Q E s:=by
 have hT:s.TypeIs (.ref d) "dict":=hm.dictOf.typeIs
 obtain ⟨od,Fw,aaa⟩:=id hT
 have N5:=Qac Fw
 unfold collect
 refine wpAny_bind (wpAny_runValue (codeAny_builtin PySem.F.entry_proto_collect ?_))
 rw[Around.under_plainId PySem.F.plain_proto_collect _]
 show wpAny _ A.in1 (newList [] >>= fun l=>again (.builtin "list.__iadd__" ⟨[l, .ref d],[]⟩)) _ _ s
 refine wpAny_bind (wpAny_newObj_type ?_)
 refine wpAny_pure ⟨plainId_quiet PySem.F.plain_list_iadd _,codeAny_builtin PySem.F.entry_list_iadd ?_⟩
 rw[Around.under_plainId PySem.F.plain_list_iadd _]
 show wpAny _ A.in1 (Builtin.List.listExtendWith (.ref s.heap.objs.size) (.ref d) (.ref s.heap.objs.size)) _ _ _
 generalize hH:s.heap.push { cls:= .type "list",data:= .seq ([]:List Value).toArray }=H
 have SW:H.objs.size=s.heap.objs.size+1:=by rw[<-hH,Qbx]
 have QM:H.DictAt knd d aZ ep:=hm.at' fun o e=>by rw[<-hH];exact JR _ e
 have QN:Shared.TypeIs { s with heap:=H } (.ref d) "dict":=QM.dictOf.typeIs
 have S0:s.heap.objs.size≠d:=Qb4 N5
 unfold Builtin.List.listExtendWith
 refine wpAny_bind (wpAny_typeOf QN ?_)
 have h1:Builtin.List.listSameRef (.ref s.heap.objs.size) (.ref d)=false:=by simp[Builtin.List.listSameRef,S0]
 rw[if_neg (by rw[h1];decide)]
 refine wpAny_bind (wpAny_pyIter_dict (s:={ s with heap:=H }) hd QM ?_)
 show wpAny _ A.in1 _ _ _ { s with heap:=H.push { cls:= .type "dict_keyiterator",data:= .fields #[.ref d, .int 0 0, .int aZ.length 0, .int ep 0] } }
 generalize By:H.push { cls:= .type "dict_keyiterator",data:= .fields #[.ref d, .int 0 0, .int aZ.length 0, .int ep 0] }=H2
 have HQ:H2.DictAt knd d aZ ep:=QM.at' fun o e=>by rw[<-By];exact JR _ e
 have S3:Shared.TypeIs { s with heap:=H2 } (.ref d) "dict":=HQ.dictOf.typeIs
 refine wpAny_bind (wpAny_holding ?_)
 unfold Builtin.List.listLengthHint
 refine wpAny_bind (wpAny_specialOf S3 uN ?_)
 wp_delta
 refine wpAny_bind (wpAny_isInstance (T:="dict") (b:=true) S3 (by rw[isSubtype_type];kernel_rfl) ?_)
 show wpAny _ A.in1 (typeOf (Value.ref d) >>= _) _ _ _
 refine wpAny_bind (wpAny_typeOf S3 ?_)
 refine wpAny_pure ?_
 rw[if_pos (by decide+kernel)]
 refine wpAny_bind (wpAny_rule ?_)
 refine wpAny_bind ?_
 unfold Builtin.List.listTouch
 have hS:H2.get? s.heap.objs.size=some { cls:= .type "list",data:= .seq ([]:List Value).toArray }:=by
  rw[<-By];exact JR _ (by rw[<-hH];exact Qai _ rfl)
 refine wpAny_bind (wpAny_updateSeq hS rfl ?_ (Qaq _) (Qcz (Qaq _)))
 have XS:=Qby (Obj.mapSeq (fun l:Array Value=>l.push .none)) hS rfl
 refine wpAny_updateSeq XS rfl ?_ (by show 1<=sizeLine;decide) (Qaq _)
 have hS3:=Qby (Obj.mapSeq (fun l:Array Value=>l.pop)) XS rfl
 have S4: ∀b o,b≠s.heap.objs.size->H2.get? b=some o->((H2.update s.heap.objs.size (Obj.mapSeq (fun l:Array Value=>l.push .none))).update s.heap.objs.size (Obj.mapSeq (fun l:Array Value=>l.pop))).get? b=some o:=fun b o hb e=>
  (Qa6 _ _ (Ne.symm hb)).trans ((Qa6 _ _ (Ne.symm hb)).trans e)
 have hit:H2.get? H.objs.size=some { cls:= .type "dict_keyiterator",data:= .fields #[.ref d, .int 0 0, .int aZ.length 0, .int ep 0] }:=by rw[<-By];exact Qai _ rfl
 have XT:H.objs.size≠s.heap.objs.size:=by rw[SW];exact Qd1 _
 have hdI:d≠H.objs.size:=by rw[SW];exact Qa0 (Qb9 N5)
 have hSf:s.heap.objs.size∉[H.objs.size,d]:=fun hmm=>by
  rcases XB.mp hmm with z | z
  ·exact XT z.symm
  ·exact S0 (QB.mp z)
 refine wpAny_pure ⟨plainId_quiet PySem.F.plain_extend_loop _,codeAny_extend_loopS (Walks.dictKeys (knd:=knd) (A:=A.in1) hh H.objs.size d hdI aZ ep).toS hn _ hSf _ aZ.length 0 _ _ _ rfl (Qaq _)
  ⟨⟨_,S4 _ _ XT hit,rfl,rfl⟩,HQ.at' fun o e=>S4 d o (Ne.symm S0) e⟩ hS3 (ItemsOf.nil _) fun s' dP c' QO hS' rM=>?_⟩
 show wpAny _ A (load s.heap.objs.size >>= _) _ _ s'
 refine wpAny_bind (wpAny_load hS' ?_)
 refine wpAny_pure (hQ s' dP (fun b ob e=>QO.heap b ob (fun hb=>?_) (S4 b ob (Qa0 (Qac e)) (by rw[<-By];exact JR _ (by rw[<-hH];exact JR _ e)))) QO.gens QO.drawn QO.os rM)
 have bW:=Qac e
 rcases XB.mp hb with h | h
 ·exact absurd bW (h▸Qb1 _)
 ·rw[QB.mp h,SW]at bW;exact absurd bW (Nat.not_lt.mpr (Qco _))
end
section
variable {X:Cx}
theorem yU {aZ:List (Key×V)} {vs:List (Key×Value)} (h:KV aZ vs):vs.map (·.1)=aZ.map (·.1):=by
 induction h with
 | nil=>rfl
 | cons r _ ih=>rw[ZD,ZD,ih,r.1]
end
section
variable {X:Cx}
end
end L2
set_option maxHeartbeats 4000000
namespace XL
open PySem PySem.Spec PySem.Calls PyProof.Rows PySem.W
section
variable {M:Model} {A:Around} {E:Value->Shared->Prop} {s:Shared} {base:Heap} {env aab:Env} {outer:List Env} {L e C:Addr} {dO:Option Addr}
end
end XL
set_option maxHeartbeats 4000000
namespace L2
open PySem PySem.Spec PyProof.Rows XL
section
variable {P:Program} {w:World} {K:PySem.W.Frag} {mg:Str->Option Value} {base:Heap} {N:List Str} {qual:Str} {scope:Scope} {f:Addr} {cd:Value} {A:Around} {outer:List Env} {s:Shared} {H:Hp} {E:XK}
end
section
variable {X:Cx} {scope:Scope} {C:Addr} {Nc:List Str} {s0:Shared} {H0:Hp} {fp:List Addr} {pn pins:List (Addr×Obj)} {xe:Value->Shared->Prop} {σ:St} {H:Hp} {s:Shared}
end
end L2
set_option maxHeartbeats 1000000
namespace L2
open PySem PySem.Spec PyProof.Rows
section
variable {X:Cx}
end
section
variable {X:Cx}
def CP:List V->Hp->VK->Prop:=fun xs H Q=> ∃x,xs=[x, .ty "list"]/\((∃p ys,x= .ref p/\H p=some (.lst ys)/\Q (.bl true) H)\/(∃p ys,x= .ref p/\H p=some (.tup ys)/\Q (.bl false) H)\/(∃z,x= .str z/\Q (.bl false) H))
theorem si (K:PySem.W.Frag) (h:X.K=K):cF X (.builtin "isinstance") CP:=by
 subst h
 intro pins s σ H xs us Q I r h
 obtain ⟨x,rfl,h⟩:=h
 obtain ⟨u,w',rfl,r1,r2⟩:=vals2 r
 cases (show w'=Value.type "list" from r2)
 rcases h with ⟨p,ys,rfl,hq,q⟩ | ⟨p,ys,rfl,hq,q⟩ | ⟨z,rfl,q⟩
 ·exact lg I r1 (.lst hq) (by unfold PySem.W.kitOne;rw[if_pos (by decide)]) fun tk=>⟨.bl true,H,I.tok _,rfl,q⟩
 ·exact lg I r1 (.tup hq) (b:=false) (by unfold PySem.W.kitOne;rw[if_neg (by decide)];rfl) fun tk=>⟨.bl false,H,I.tok _,rfl,q⟩
 ·exact lg I r1 (.str z) (b:=false) (by unfold PySem.W.kitOne;rw[if_neg (by decide)];rfl) fun tk=>⟨.bl false,H,I.tok _,rfl,q⟩
end
end L2
namespace PySem
open Sem (wp)
section
variable {prog:Program} {w:World} {K:Type} [DecidableEq K] (knd:KeyKind prog w K)
variable {knd}
variable {A:Around} {E:Value->Shared->Prop} {s:Shared}
end
end PySem
namespace PySem
open Sem (wp)
namespace F
end F
section
variable {prog:Program} {w:World} {A:Around} {E:Value->Shared->Prop} {s:Shared}
end
section
variable {prog:Program} {w:World} {K:Type} [DecidableEq K] {knd:HeapKind prog w K} {A:Around} {E:Value->Shared->Prop} {s:Shared}
end
end PySem
namespace L2
open PySem PySem.Spec PyProof.Rows
def N6 (H:Hp) (k:Key×List Key) (a:Addr):Prop:= ∃b,H a=some (.tup [kV k.1, .ref b])/\H b=some (.tup (k.2.map kV))
section
variable {X:Cx} {o i:Expr} {pos:Pos} {td ty:TE}
structure PIt where
 t:Addr
 a:Addr
 k:Key×List Key
 n:Int
structure XU (H:Hp) (e:PIt):Prop where
 tp:H e.t=some (.tup [.ref e.a, .int e.n])
 ky:N6 H e.k e.a
end
end L2
namespace L2.F2
open PySem PySem.Spec PyProof.Rows
end L2.F2
namespace L2
open PySem PySem.Spec PyProof.Rows
section
variable {prog:Program} {w:World} {A:Around} {E:Value->Shared->Prop} {s:Shared}
end
section
variable {X:Cx} {tg:Expr}
end
end L2
set_option maxHeartbeats 1000000
namespace L2
open PySem PySem.Spec PyProof.Rows
section
variable {X:Cx}
end
end L2
namespace L2
open PySem PySem.Spec PyProof.Rows PySem.W
section
structure Tot (lt:Nat->Nat->Bool) (n:Nat):Prop where
 tr: ∀a b c,lt b a=false->lt c b=false->lt c a=false
 sm: ∀a b,lt a b=true->lt b a=false
section
variable {lt:Nat->Nat->Bool} {n:Nat}
end
end
section
variable {prog:Program} {w:World} {A:Around} {E:Value->Shared->Prop} {s:Shared}
end
section
variable {X:Cx}
end
section
variable {X:Cx} {tg:Expr}
end
section
variable {X:Cx} {tg:Expr}
end
end L2
namespace L2
open PySem PySem.Spec PyProof.Rows PySem.MeetsSeq PySem.SeqAt
section
variable {X:Cx}
end
section
variable {prog:Program} {w:World} {A:Around} {E:Value->Shared->Prop} {s:Shared}
variable {z TI TO i1 i2:Addr} {f1 f2:List Addr} {n1 n2 i:Nat} {P1 P2:Nat->Value->Prop} {S1 S2:Nat->Heap->Prop} {a b:Value}
end
section
variable {X:Cx} {nx:Str} {pos':Pos} {a b:Expr} {ta:TA} {p pos:Pos}
end
end L2
namespace L2
open PySem PySem.Spec PyProof.Rows HT
section
variable {prog:Program} {w:World} {A:Around} {E:Value->Shared->Prop} {s:Shared}
end
section
variable {X:Cx}
end
structure KD (K:PySem.W.Frag) (P:Program) (w:World) (a:Addr) (aZ:List (Key×V)):Prop where
 sm:(a==sysModules)=false
 ok: ∃vs ep,KV aZ vs/\ ∀h:Heap,K.In h->h.DictAt (cH P w) a vs ep
section
variable {X:Cx} {o i e value tg:Expr} {pos pos' M0:Pos} {td ty tv:TE} (K:PySem.W.Frag) (P:Program) (w:World)
end
theorem FF (l p:List Nat) (i:Nat):Builtin.Str.subAt (S l) (S p) i=decide ((l.drop i).take p.length=p):=by
 unfold Builtin.Str.subAt
 have e:(S l).cps.extract i (i+(S p).length)=((l.drop i).take p.length).toArray:=by
  rw[bj]
  apply Array.ext'
  simp[S,List.take_drop]
 rw[e]
 show (((l.drop i).take p.length).toArray==p.toArray)=_
 by_cases h:(l.drop i).take p.length=p
 ·rw[decide_eq_true h,h];simp
 ·rw[decide_eq_false h,beq_eq_false_iff_ne]
  exact fun z=>h (by have:=congrArg Array.toList z;simpa using this)
section
variable {X:Cx}
end
section
variable {X:Cx}
end
section
variable {X:Cx} {tg:Expr}
end
end L2
set_option maxHeartbeats 1000000
namespace L2
open PySem PySem.Spec PyProof.Rows
section
variable {prog:Program} {w:World} {A:Around} {E:Value->Shared->Prop} {s:Shared}
end
section
variable {X:Cx} {a b:Expr} {ta:TA} {p p2 pos aac:Pos}
end
end L2
set_option maxHeartbeats 1000000
namespace L2
open PySem PySem.Spec PyProof.Rows
noncomputable def gal:Bool->Keyed->Array Keyed->Nat->Nat->Nat->StateT SortSt Sem (Option Nat):=sortPriv%PySem.Builtin.gallop
noncomputable def mLo:Array Keyed->Array Keyed->StateT SortSt Sem (Array Keyed):=sortPriv%PySem.Builtin.mergeLo
noncomputable def mHi:Array Keyed->Array Keyed->StateT SortSt Sem (Array Keyed):=sortPriv%PySem.Builtin.mergeHi
structure PB (a₀:Array Keyed) (st:SortSt):Prop where
 perm:(arrOf st).Perm a₀
 kind:kindOf st=oneType'
 failed:failedOf st=none
section
variable {prog:Program} {w:World} {A:Around} {E:Value->Shared->Prop} {s:Shared} {κ:KeyKind} {a₀:Array Keyed}
theorem bV {st:SortSt} {arr:Array Keyed} {i:Nat} {Q:Keyed->SortSt->Prop} (hi:i<arr.size) (h: ∀p,p∈arr.toList->arr[i]? =some p->Q p st):wpS (model prog w) A E s (elem' arr i) Q st:=by
 have e:arr[i]? =some arr[i]:=getElem?_pos arr i hi
 rw[elem'_eq,e]
 exact wpS_pure (h _ (by simp) e)
end
theorem aA {M:Model} {A:Around} {E:Value->Shared->Prop} {s:Shared} {σ α:Type} {c:Prop} [Decidable c] {m1 m2:StateT σ Sem α} {Q:α->σ->Prop} {st:σ} (h1:c->wpS M A E s m1 Q st) (h2: ¬c->wpS M A E s m2 Q st):wpS M A E s (if c then m1 else m2) Q st:=by
 by_cases g:c
 ·rw[if_pos g];exact h1 g
 ·rw[if_neg g];exact h2 g
noncomputable def sg (st:SortSt) (g:Nat):SortSt:=SortSt.mk' (kindOf st) (arrOf st) (pendingOf st) g (failedOf st)
def nV (st aL:SortSt):Prop:= ∃g,aL=sg st g
theorem nV.refl (st:SortSt):nV st st:=⟨gallopOf st,rfl⟩
theorem nV.set {st aL:SortSt} (h:nV st aL) (g:Nat):nV st (sg aL g):=by
 obtain ⟨g0,rfl⟩:=h
 exact ⟨g,rfl⟩
def Mg (a b out:Array Keyed) (ia ib:Nat):Prop:=out.toList.Perm (a.toList.take ia++b.toList.take ib)
theorem eR {α:Type} {l:List α} {i:Nat} {p:α} (h:l[i]? =some p):l.take (i+1)=l.take i++[p]:=by
 have:=Xy.mp h
 rw[Qdl this.1,this.2]
theorem fk {α:Type} {l:List α} {i:Nat} {p:α} (h:l[i]? =some p):l.drop i=p::l.drop (i+1):=by
 have:=Xy.mp h
 rw[Qa7 this.1,this.2]
theorem nW {α:Type} (l:List α) (i j:Nat) (h:i<=j):l.take j=l.take i++(l.drop i).take (j - i):=by
 have:j=i+(j - i):=by omega
 conv=>lhs;rw[this,List.take_add]
theorem nX {α:Type} (l:List α) (i j:Nat) (h:i<=j):l.drop i=(l.drop i).take (j - i)++l.drop j:=by
 conv=>lhs;rw[<-Qan (j - i) (l.drop i),List.drop_drop,show i+(j - i)=j by omega]
theorem aM {α:Type} (a:Array α) (i j:Nat):(a.extract i j).toList=(a.toList.drop i).take (j - i):=by simp[List.extract]
theorem Mg.xj {a b out:Array Keyed} {ia ib:Nat} (h:Mg a b out ia ib):(out++a.extract ia++b.extract ib).toList.Perm (a.toList++b.toList):=by
 rw[Qak,Qak,aM,aM,Qao (by simp),Qao (by simp)]
 refine ((h.append_right _).append_right _).trans ?_
 conv=>rhs;rw[<-Qan ia a.toList, <-Qan ib b.toList]
 rw[Xz,Xz,Xz]
 refine Qbi _ ?_
 rw[<-Xz, <-Xz]
 exact Qd8 _ Qb3
theorem Mg.KS {a b out:Array Keyed} {ia ib:Nat} (h:Mg a b out ia ib):(out++b.extract ib++a.extract ia).toList.Perm (a.toList++b.toList):=by
 refine List.Perm.trans ?_ h.xj
 simp only[Qak,Xz]
 exact Qbi _ Qb3
theorem Mg.jH {a b out:Array Keyed} {ia ib:Nat} {p:Keyed} (h:Mg a b out ia ib) (hp:b[ib]? =some p):Mg a b (out.push p) ia (ib+1):=by
 unfold Mg
 rw[Qbo,eR (l:=b.toList) (by simpa using hp), <-Xz]
 exact h.append_right _
theorem Mg.jI {a b out:Array Keyed} {ia ib:Nat} {p:Keyed} (h:Mg a b out ia ib) (hp:a[ia]? =some p):Mg a b (out.push p) (ia+1) ib:=by
 unfold Mg
 rw[Qbo,eR (l:=a.toList) (by simpa using hp),Xz]
 refine (h.append_right _).trans ?_
 rw[Xz]
 exact Qbi _ Qb3
theorem Mg.pI {a b out:Array Keyed} {ia ib k:Nat} (h:Mg a b out ia ib):Mg a b (out++b.extract ib (ib+k)) ia (ib+k):=by
 unfold Mg
 rw[Qak,aM,nW b.toList ib (ib+k) (by omega), <-Xz]
 exact h.append_right _
theorem Mg.pJ {a b out:Array Keyed} {ia ib k:Nat} (h:Mg a b out ia ib):Mg a b (out++a.extract ia (ia+k)) (ia+k) ib:=by
 unfold Mg
 rw[Qak,aM,nW a.toList ia (ia+k) (by omega),Xz]
 refine (h.append_right _).trans ?_
 rw[Xz]
 exact Qbi _ Qb3
def Mh (a b out:Array Keyed) (na nb:Nat):Prop:=out.toList.Perm (a.toList.drop na++b.toList.drop nb)
theorem Mh.xj {a b out:Array Keyed} {na nb:Nat} (h:Mh a b out na nb):(a.extract 0 na++b.extract 0 nb++out.reverse).toList.Perm (a.toList++b.toList):=by
 rw[Qak,Qak,aM,aM,Qbz,Qbz,Qcv,Qcv,Qb5]
 refine (Qbi _ ((Qer _).trans h)).trans ?_
 conv=>rhs;rw[<-Qan na a.toList, <-Qan nb b.toList]
 rw[Xz,Xz]
 refine Qbi _ ?_
 rw[<-Xz, <-Xz]
 exact Qd8 _ Qb3
theorem Mh.KS {a b out:Array Keyed} {na nb:Nat} (h:Mh a b out na nb):(b.extract 0 nb++a.extract 0 na++out.reverse).toList.Perm (a.toList++b.toList):=by
 refine List.Perm.trans ?_ h.xj
 simp only[Qak]
 exact Qd8 _ Qb3
theorem Mh.jI {a b out:Array Keyed} {na nb:Nat} {p:Keyed} (h:Mh a b out na nb) (h1:1<=na) (hp:a[na - 1]? =some p):Mh a b (out.push p) (na - 1) nb:=by
 unfold Mh
 rw[Qbo,fk (l:=a.toList) (i:=na - 1) (by simpa using hp),show na - 1+1=na by omega,Qc8]
 exact (h.append_right _).trans (List.perm_append_singleton _ _)
theorem Mh.jH {a b out:Array Keyed} {na nb:Nat} {p:Keyed} (h:Mh a b out na nb) (h1:1<=nb) (hp:b[nb - 1]? =some p):Mh a b (out.push p) na (nb - 1):=by
 unfold Mh
 rw[Qbo,fk (l:=b.toList) (i:=nb - 1) (by simpa using hp),show nb - 1+1=nb by omega]
 exact ((h.append_right _).trans (List.perm_append_singleton _ _)).trans Qey.symm
theorem Mh.pJ {a b out:Array Keyed} {na nb k:Nat} (h:Mh a b out na nb) (hk:k<=na):Mh a b (out++(a.extract k na).reverse) k nb:=by
 unfold Mh
 have e:a.toList.drop k++b.toList.drop nb=(a.toList.drop k).take (na - k)++(a.toList.drop na++b.toList.drop nb):=by rw[<-Xz, <-nX a.toList k na hk]
 rw[Qak,Qb5,aM,e]
 exact (h.append (Qer _)).trans Qb3
theorem Mh.pI {a b out:Array Keyed} {na nb k:Nat} (h:Mh a b out na nb) (hk:k<=nb):Mh a b (out++(b.extract k nb).reverse) na k:=by
 unfold Mh
 have e:b.toList.drop k=(b.toList.drop k).take (nb - k)++b.toList.drop nb:=nX b.toList k nb hk
 rw[Qak,Qb5,aM]
 refine (h.append (Qer _)).trans ?_
 conv=>rhs;rw[e]
 rw[Xz]
 exact Qbi _ Qb3
theorem Ah {ia k n:Nat} (h:k<=n - ia) (h1:ia+1<n) (z1: ¬ia+k+1=n) (z2: ¬ia+k=n):ia+k+1<n:=by omega
theorem Ai {ib k n:Nat} (h:k<=n - (ib+1)) (h1:ib<n) (z: ¬ib+1+k=n):ib+1+k<n:=by omega
theorem HR {i x y z:Nat} (h:i+2<=x+y) (g:y<=z):i+2<=x+1+z:=by omega
theorem yV {x n:Nat} (h1:1<=x) (h2:x<=n):x - 1<n:=by omega
theorem yW {x n:Nat} (h2:x<=n):x - 1<=n:=by omega
theorem KU {x:Nat} (h: ¬x=0):1<=x:=by omega
theorem CQ {i x y z n:Nat} (h:x+y+i+2<=n) (g:z<=y):x - 1+z+i+2<=n:=by omega
section
variable {prog:Program} {w:World} {A:Around} {E:Value->Shared->Prop} {s:Shared} {κ:KeyKind} {a₀:Array Keyed}
end
end L2
set_option maxHeartbeats 1000000
namespace L2
open PySem PySem.Spec PyProof.Rows
theorem nY {α:Type} (sa:Nat): ∀(l:List α) (n:Nat) (arr:Array α),sa+n+l.length<=arr.size->
  ((l.zipIdx n).foldl (fun a x=>match x with | (p,j)=>a.setIfInBounds (sa+j) p) arr).toList=arr.toList.take (sa+n)++l++arr.toList.drop (sa+n+l.length)
 | [],n,arr,h=>by simp
 | p::l,n,arr,h=>by
  rw[Qex,List.foldl_cons]
  have h':sa+n+(l.length+1)<=arr.size:=h
  have ih:=nY sa l (n+1) (arr.setIfInBounds (sa+n) p) (by rw[Array.size_setIfInBounds];omega)
  have e0:sa+(n+1)=sa+n+1:=by omega
  rw[e0]at ih
  refine Eq.trans ih ?_
  have bW:sa+n<arr.toList.length:=by rw[Qaw];omega
  rw[Array.toList_setIfInBounds,List.take_set,List.drop_set_of_lt (by omega),Zy,show sa+n+1+l.length=sa+n+(l.length+1) by omega]
  have e1:(arr.toList.take (sa+n+1)).set (sa+n) p=arr.toList.take (sa+n)++[p]:=by
   rw[Qdl bW,List.set_append_right _ _ (by rw[Qab];omega),Qab,Qdc (by omega),Qdi]
   rfl
  rw[e1]
  simp
section
variable {prog:Program} {w:World} {A:Around} {E:Value->Shared->Prop} {s:Shared} {κ:KeyKind} {a₀:Array Keyed}
theorem FG {M:Model} {σ:Type} {Q:PUnit->σ->Prop} {st aL:σ} (h:Q ⟨⟩ aL):wpS M A E s (set aL:StateT σ Sem PUnit) Q st:=by
 unfold wpS;rw[StateT.run_set];exact wpAny_pure ⟨rfl,h⟩
theorem Aj {arr:Array Keyed} {merged:Array Keyed} {x y z:Nat} (h1:x<=y) (h2:y<=z) (h3:z<=arr.size) (hp:merged.toList.Perm ((arr.extract x y).toList++(arr.extract y z).toList)):
  (merged.toList.zipIdx.foldl (fun a q=>match q with | (p,j)=>a.setIfInBounds (x+j) p) arr).Perm arr:=by
 rw[aM,aM]at hp
 have e:(arr.toList.drop x).take (y - x)++(arr.toList.drop y).take (z - y)=(arr.toList.drop x).take (z - x):=by
  have:=nW (arr.toList.drop x) (y - x) (z - x) (by omega)
  rw[List.drop_drop,show x+(y - x)=y by omega,show z - x - (y - x)=z - y by omega]at this
  exact this.symm
 rw[e]at hp
 have hl:merged.toList.length=z - x:=by rw[hp.length_eq,Qab,Qat,Qaw];omega
 rw[Qa9]
 have:=nY x merged.toList 0 arr (by omega)
 rw[Qdk,hl,show x+(z - x)=z by omega]at this
 refine List.Perm.trans (List.Perm.of_eq this) ?_
 refine ((Qbi _ hp).append_right _).trans ?_
 rw[Xz, <-nX arr.toList x z (by omega),Qan]
end
theorem CS (c:Prop) [Decidable c] {n:Nat} (h: ¬n<=1):(if c then n - 2 - 1 else n - 2)+1<n:=by split<;>omega
noncomputable def cp (P:Array (Nat×Nat×Nat)):List (Nat×Nat):=P.toList.map fun x=>(x.1,x.2.1)
theorem KW {α:Type} {l:List α} {i:Nat} {x y:α} (h1:l[i]? =some x) (h2:l[i+1]? =some y):l=l.take i++x::y::l.drop (i+2):=by
 conv=>lhs;rw[<-Qan i l,fk h1,fk h2]
theorem FH {α:Type} {l:List α} {i:Nat} {x y v:α} (h1:l[i]? =some x) (h2:l[i+1]? =some y):(l.set i v).eraseIdx (i+1)=l.take i++v::l.drop (i+2):=by
 have hi:=(Xy.mp h1).1
 rw[List.eraseIdx_eq_take_drop_succ,List.drop_set_of_lt (by omega),List.take_set,Qdl hi,List.set_append_right _ _ (by rw[Qab];omega),Qab,Qdc (by omega),Qdi]
 simp
section
variable {prog:Program} {w:World} {A:Around} {E:Value->Shared->Prop} {s:Shared} {κ:KeyKind} {a₀:Array Keyed}
end
end L2
set_option maxHeartbeats 1000000
namespace L2
open PySem PySem.Spec PyProof.Rows
section
variable {prog:Program} {w:World} {A:Around} {E:Value->Shared->Prop} {s:Shared}
end
section
variable {X:Cx}
end
end L2
set_option maxHeartbeats 1000000
namespace L2
open PySem PySem.Spec PyProof.Rows
section
variable {X:Cx}
end
end L2
set_option maxHeartbeats 1000000
namespace L2
open PySem PySem.Spec PyProof.Rows
structure fX (lt:Keyed->Keyed->Bool):Prop where
 jU: ∀p q,lt p q=true->lt q p=false
 tr: ∀p q r,lt q p=false->lt r q=false->lt r p=false
def iY (prog:Program) (w:World) (A:Around) (E:Value->Shared->Prop) (s:Shared) (kd:SortKind) (lt:Keyed->Keyed->Bool) (a₀:Array Keyed):Prop:=
 ∀(st:SortSt) (p q:Keyed) (Q:Option Bool->SortSt->Prop),kindOf st=kd->p∈a₀.toList->q∈a₀.toList->Q (some (lt p q)) st->wpS (model prog w) A E s (lt' p q) Q st
noncomputable def S5 (lt:Keyed->Keyed->Bool) (left:Bool) (key x:Keyed):Bool:=if left=true then lt x key else !lt key x
noncomputable def bS (lt:Keyed->Keyed->Bool) (left:Bool) (key:Keyed) (arr:Array Keyed) (base i:Nat):Bool:=match arr[base+i]? with
 | some p=>S5 lt left key p
 | none=>false
theorem sj {lt:Keyed->Keyed->Bool} {left:Bool} {key p:Keyed} {arr:Array Keyed} {base i:Nat} (h:arr[base+i]? =some p):bS lt left key arr base i=S5 lt left key p:=by unfold bS;rw[h]
section
variable {prog:Program} {w:World} {A:Around} {E:Value->Shared->Prop} {s:Shared} {kd:SortKind} {lt:Keyed->Keyed->Bool} {a₀:Array Keyed}
theorem lF {st:SortSt} {left:Bool} {key:Keyed} {arr:Array Keyed} {base n hint:Nat} {Q:Option Nat->SortSt->Prop} (C:iY prog w A E s kd lt a₀) (hk:kindOf st=kd) (EN:key∈a₀.toList) (N7: ∀p∈arr.toList,p∈a₀.toList) (hn:base+n<=arr.size) (hh:hint<n)
  (mono: ∀i j,i<=j->j<n->bS lt left key arr base j=true->bS lt left key arr base i=true)
  (h: ∀k,k<=n->(∀i,i<k->bS lt left key arr base i=true)->(∀i,k<=i->i<n->bS lt left key arr base i=false)->Q (some k) st):wpS (model prog w) A E s (gal left key arr base n hint) Q st:=by
 have ask: ∀(i:Nat) (R:Option Bool->SortSt->Prop),i<n->R (some (bS lt left key arr base i)) st->wpS (model prog w) A E s (elem' arr (base+i) >>= fun x=>if left=true then lt' x key else lt' key x >>= fun b=>pure (b.map fun x=>!x)) R st:=by
  intro i R hi hR
  refine wpS_bind (bV (by omega) fun p hp ep=>?_)
  rw[sj ep]at hR
  unfold S5 at hR
  cases left with
  | true=>rw[if_pos rfl]at hR ⊢; exact C _ _ _ _ hk (N7 p hp) EN hR
  | false=>rw[if_neg (by decide)]at hR ⊢; exact wpS_bind (C _ _ _ _ hk EN (N7 p hp) (wpS_pure hR))
 have up: ∀i,i<n->bS lt left key arr base i=true-> ∀j,j<=i->bS lt left key arr base j=true:=fun i hi e j hj=>mono j i hj hi e
 have dn: ∀i,bS lt left key arr base i=false-> ∀j,i<=j->j<n->bS lt left key arr base j=false:=fun i e j BN hj=>by
  cases z:bS lt left key arr base j with
  | false=>rfl
  | true=>rw[mono i j BN hj z]at e;cases e
 refine wpS_bind (ask hint _ hh ?_)
 cases eb:bS lt left key arr base hint with
 | true=>
  refine wpS_bind (wpS_mono (wpS_forRange (I:=fun x c aL=>aL=st/\ ∃l o,c=(none,l,o)/\x+1<=o/\l<n - hint/\bS lt left key arr base (hint+l)=true) (Q:=fun c aL=>aL=st/\ ∃l o,c=(none,l,o)/\l<n - hint/\bS lt left key arr base (hint+l)=true/\(n - hint<=o\/bS lt left key arr base (hint+o)=false)) ?_ ?_ ⟨rfl,0,1,rfl,by omega,by omega,by simpa using eb⟩) ?_)
  ·rintro x c aL _ hx ⟨rfl,l,o,rfl,h1,h2,h3⟩
   refine aA (fun g=>wpS_pure ⟨rfl,l,o,rfl,h2,h3, .inl g⟩) (fun g=>?_)
   have g': ¬o ≥ n - hint:=g
   refine wpS_bind (ask _ _ (show hint+o<n by omega) ?_)
   cases e2:bS lt left key arr base (hint+o) with
   | true=>exact wpS_pure ⟨rfl,o,2*o+1,rfl,by omega,by omega,e2⟩
   | false=>exact wpS_pure ⟨rfl,l,o,rfl,h2,h3, .inr e2⟩
  ·rintro c aL ⟨e,l,o,rfl,h1,h2,h3⟩
   exact ⟨e,l,o,rfl,h2,h3, .inl (by omega)⟩
  ·rintro c dY ⟨rfl,l,o,rfl,h2,h3,h4⟩
   dsimp only
   have a1: ∀i,i<hint+l+1->bS lt left key arr base i=true:=fun i hi=>up _ (by omega) h3 i (by omega)
   have a2: ∀i,hint+min o (n - hint)<=i->i<n->bS lt left key arr base i=false:=fun i hi S6=>by
    rcases h4 with g | g
    ·omega
    ·exact dn _ g i (by omega) S6
   have a3:hint+min o (n - hint)<=n:=by omega
   have a4:hint+l+1<=hint+min o (n - hint):=by
    rcases h4 with g | g
    ·omega
    ·by_cases z:hint+l+1<=hint+min o (n - hint)
     ·exact z
     ·have:bS lt left key arr base (hint+o)=true:=a1 _ (by omega)
      rw[g]at this;cases this
   refine wpS_bind (wpS_mono (wpS_forRange (I:=fun x c aL=>aL=dY/\ ∃l r,c=(none,l,r)/\l<=r/\r<=n/\r - l+x<=n/\(∀i,i<l->bS lt left key arr base i=true)/\(∀i,r<=i->i<n->bS lt left key arr base i=false)) (Q:=fun c aL=>aL=dY/\ ∃l r,c=(none,l,r)/\l=r/\r<=n/\(∀i,i<l->bS lt left key arr base i=true)/\(∀i,r<=i->i<n->bS lt left key arr base i=false)) ?_ ?_ ⟨rfl,_,_,rfl,a4,a3,by omega,a1,a2⟩) ?_)
   ·rintro x c aL _ hx ⟨rfl,l,r,rfl,b1,b2,b3,b4,b5⟩
    refine aA (fun g=>wpS_pure ⟨rfl,l,r,rfl,Qdd b1 g,b2,b4,b5⟩) (fun g=>?_)
    have g': ¬l ≥ r:=g
    refine wpS_bind (ask _ _ (show l+(r - l) / 2<n by omega) ?_)
    cases e2:bS lt left key arr base (l+(r - l) / 2) with
    | true=>exact wpS_pure ⟨rfl,l+(r - l) / 2+1,r,rfl,by omega,b2,by omega,fun i hi=>up _ (by omega) e2 i (by omega),b5⟩
    | false=>exact wpS_pure ⟨rfl,l,l+(r - l) / 2,rfl,by omega,by omega,by omega,b4,dn _ e2⟩
   ·rintro c aL ⟨e,l,r,rfl,b1,b2,b3,b4,b5⟩
    exact ⟨e,l,r,rfl,by omega,b2,b4,b5⟩
   ·rintro c aL ⟨rfl,l,r,rfl,rfl,b2,b4,b5⟩
    exact wpS_pure (h l b2 b4 b5)
 | false=>
  refine wpS_bind (wpS_mono (wpS_forRange (I:=fun x c aL=>aL=st/\ ∃l o,c=(none,l,o)/\x+1<=o/\l<=hint/\bS lt left key arr base (hint - l)=false) (Q:=fun c aL=>aL=st/\ ∃l o,c=(none,l,o)/\l<=hint/\bS lt left key arr base (hint - l)=false/\(hint+1<=o\/(o<=hint/\bS lt left key arr base (hint - o)=true))) ?_ ?_ ⟨rfl,0,1,rfl,by omega,by omega,by simpa using eb⟩) ?_)
  ·rintro x c aL _ hx ⟨rfl,l,o,rfl,h1,h2,h3⟩
   refine aA (fun g=>wpS_pure ⟨rfl,l,o,rfl,h2,h3, .inl g⟩) (fun g=>?_)
   have g': ¬o ≥ hint+1:=g
   refine wpS_bind (ask _ _ (show hint - o<n by omega) ?_)
   cases e2:bS lt left key arr base (hint - o) with
   | true=>exact wpS_pure ⟨rfl,l,o,rfl,h2,h3, .inr ⟨by omega,e2⟩⟩
   | false=>exact wpS_pure ⟨rfl,o,2*o+1,rfl,by omega,by omega,e2⟩
  ·rintro c aL ⟨e,l,o,rfl,h1,h2,h3⟩
   exact ⟨e,l,o,rfl,h2,h3, .inl (by omega)⟩
  ·rintro c dY ⟨rfl,l,o,rfl,h2,h3,h4⟩
   dsimp only
   have a1: ∀i,i<hint+1 - min o (hint+1)->bS lt left key arr base i=true:=fun i hi=>by
    rcases h4 with g | ⟨g1,g2⟩
    ·omega
    ·exact up _ (by omega) g2 i (by omega)
   have a2: ∀i,hint - l<=i->i<n->bS lt left key arr base i=false:=fun i hi S6=>dn _ h3 i hi S6
   have a4:hint+1 - min o (hint+1)<=hint - l:=by
    by_cases z:hint+1 - min o (hint+1)<=hint - l
    ·exact z
    ·have:bS lt left key arr base (hint - l)=true:=a1 _ (by omega)
     rw[h3]at this;cases this
   refine wpS_bind (wpS_mono (wpS_forRange (I:=fun x c aL=>aL=dY/\ ∃l r,c=(none,l,r)/\l<=r/\r<=n/\r - l+x<=n/\(∀i,i<l->bS lt left key arr base i=true)/\(∀i,r<=i->i<n->bS lt left key arr base i=false)) (Q:=fun c aL=>aL=dY/\ ∃l r,c=(none,l,r)/\l=r/\r<=n/\(∀i,i<l->bS lt left key arr base i=true)/\(∀i,r<=i->i<n->bS lt left key arr base i=false)) ?_ ?_ ⟨rfl,_,_,rfl,a4,by omega,by omega,a1,a2⟩) ?_)
   ·rintro x c aL _ hx ⟨rfl,l,r,rfl,b1,b2,b3,b4,b5⟩
    refine aA (fun g=>wpS_pure ⟨rfl,l,r,rfl,Qdd b1 g,b2,b4,b5⟩) (fun g=>?_)
    have g': ¬l ≥ r:=g
    refine wpS_bind (ask _ _ (show l+(r - l) / 2<n by omega) ?_)
    cases e2:bS lt left key arr base (l+(r - l) / 2) with
    | true=>exact wpS_pure ⟨rfl,l+(r - l) / 2+1,r,rfl,by omega,b2,by omega,fun i hi=>up _ (by omega) e2 i (by omega),b5⟩
    | false=>exact wpS_pure ⟨rfl,l,l+(r - l) / 2,rfl,by omega,by omega,by omega,b4,dn _ e2⟩
   ·rintro c aL ⟨e,l,r,rfl,b1,b2,b3,b4,b5⟩
    exact ⟨e,l,r,rfl,by omega,b2,b4,b5⟩
   ·rintro c aL ⟨rfl,l,r,rfl,rfl,b2,b4,b5⟩
    exact wpS_pure (h l b2 b4 b5)
end
end L2
set_option maxHeartbeats 1000000
namespace L2
open PySem PySem.Spec PyProof.Rows
section
variable {lt:Keyed->Keyed->Bool}
def cP (lt:Keyed->Keyed->Bool) (l:List Keyed):Prop:=l.Pairwise fun p q=>lt q p=false
theorem fD {x c y:List Keyed} (h1:cP lt (x++y)) (h2:cP lt (x++c)) (h3: ∀e∈c, ∀f∈y,lt f e=false):cP lt (x++c++y):=by
 unfold cP at*
 rw[Qa8]at h1 h2 ⊢
 refine ⟨Qa8.mpr h2,h1.2.1,fun e he f hf=>?_⟩
 rcases Qaa.mp he with z | z
 ·exact h1.2.2 e z f hf
 ·exact h3 e z f hf
theorem gJ {x y:List Keyed} (h:cP lt (x++y)):cP lt x:=(Qa8.mp h).1
theorem fE {x y:List Keyed} (h:cP lt (x++y)):cP lt y:=(Qa8.mp h).2.1
theorem gK (L:fX lt) {l:List Keyed} {i:Nat} {p q:Keyed} (h:cP lt l) (hp:l[i]? =some p) (hq:lt p q=false): ∀x∈l.drop i,lt x q=false:=fun x hx=>by
 rw[fk hp]at hx
 rcases XB.mp hx with z | z
 ·rw[z];exact hq
 ·have h2:cP lt (l.take i++p::l.drop (i+1)):=by rw[<-fk hp,Qan];exact h
  exact L.tr q p x hq (Qc9 (fE h2) z)
theorem xk {l:List Keyed} {i j:Nat} {p q:Keyed} (h:cP lt l) (BN:i<j) (hp:l[i]? =some p) (hq:l[j]? =some q):lt q p=false:=by
 have h1:=Xy.mp hp
 have h2:=Xy.mp hq
 have:=(Qdw.mp h) i j h1.1 h2.1 BN
 rwa [h1.2,h2.2]at this
theorem En (L:fX lt) (p:Keyed):lt p p=false:=by
 cases e:lt p p with
 | false=>rfl
 | true=>have:=L.jU p p e;rw[e]at this;cases this
theorem xl (L:fX lt) {l:List Keyed} {i j:Nat} {p q:Keyed} (h:cP lt l) (BN:i<=j) (hp:l[i]? =some p) (hq:l[j]? =some q):lt q p=false:=by
 rcases Nat.lt_or_eq_of_le BN with z | z
 ·exact xk h z hp hq
 ·subst z;rw[hp]at hq;cases hq;exact En L p
structure j0 (lt:Keyed->Keyed->Bool) (a b out:Array Keyed) (ia ib:Nat):Prop where
 m:Mg a b out ia ib
 sa:cP lt (out.toList++a.toList.drop ia)
 sb:cP lt (out.toList++b.toList.drop ib)
variable {a b out:Array Keyed} {ia ib k:Nat} {p q:Keyed}
theorem j0.jH (h:j0 lt a b out ia ib) (hp:b[ib]? =some q) (hq: ∀x∈a.toList.drop ia,lt x q=false):j0 lt a b (out.push q) ia (ib+1):=by
 have hd:b.toList.drop ib=q::b.toList.drop (ib+1):=fk (by simpa using hp)
 have h2:cP lt (out.toList++[q]++b.toList.drop (ib+1)):=by
  have:=h.sb;rw[hd]at this;simpa using this
 refine ⟨h.m.jH hp,?_,?_⟩
 ·rw[Qbo];exact fD h.sa (gJ h2) fun e he f hf=>by rw[QB.mp he];exact hq f hf
 ·rw[Qbo];exact h2
theorem j0.jI (h:j0 lt a b out ia ib) (hp:a[ia]? =some q) (hq: ∀x∈b.toList.drop ib,lt x q=false):j0 lt a b (out.push q) (ia+1) ib:=by
 have hd:a.toList.drop ia=q::a.toList.drop (ia+1):=fk (by simpa using hp)
 have h2:cP lt (out.toList++[q]++a.toList.drop (ia+1)):=by
  have:=h.sa;rw[hd]at this;simpa using this
 refine ⟨h.m.jI hp,?_,?_⟩
 ·rw[Qbo];exact h2
 ·rw[Qbo];exact fD h.sb (gJ h2) fun e he f hf=>by rw[QB.mp he];exact hq f hf
theorem j0.pJ (h:j0 lt a b out ia ib) (hq: ∀e∈(a.toList.drop ia).take k, ∀x∈b.toList.drop ib,lt x e=false):j0 lt a b (out++a.extract ia (ia+k)) (ia+k) ib:=by
 have hd:=nX a.toList ia (ia+k) (by omega)
 rw[Qbc]at hd
 have h2:cP lt (out.toList++(a.toList.drop ia).take k++a.toList.drop (ia+k)):=by
  have:=h.sa;rw[hd]at this;rw[Xz];exact this
 refine ⟨h.m.pJ,?_,?_⟩
 ·rw[Qak,aM,Qbc];exact h2
 ·rw[Qak,aM,Qbc];exact fD h.sb (gJ h2) hq
theorem j0.pI (h:j0 lt a b out ia ib) (hq: ∀e∈(b.toList.drop ib).take k, ∀x∈a.toList.drop ia,lt x e=false):j0 lt a b (out++b.extract ib (ib+k)) ia (ib+k):=by
 have hd:=nX b.toList ib (ib+k) (by omega)
 rw[Qbc]at hd
 have h2:cP lt (out.toList++(b.toList.drop ib).take k++b.toList.drop (ib+k)):=by
  have:=h.sb;rw[hd]at this;rw[Xz];exact this
 refine ⟨h.m.pI,?_,?_⟩
 ·rw[Qak,aM,Qbc];exact fD h.sa (gJ h2) hq
 ·rw[Qak,aM,Qbc];exact h2
def il (lt:Keyed->Keyed->Bool) (a b out:Array Keyed):Prop:=out.toList.Perm (a.toList++b.toList)/\cP lt out.toList
theorem j0.Ak (h:j0 lt a b out ia ib) (e:ib=b.size):il lt a b (out++a.extract ia++b.extract ib):=by
 refine ⟨h.m.xj,?_⟩
 rw[Qak,Qak,aM,aM,Qao (by simp),Qao (by simp),Qbt (l:=b.toList) (by simp[e]),Qal]
 exact h.sa
theorem j0.Al (h:j0 lt a b out ia ib) (e:ia=a.size):il lt a b (out++a.extract ia++b.extract ib):=by
 refine ⟨h.m.xj,?_⟩
 rw[Qak,Qak,aM,aM,Qao (by simp),Qao (by simp),Qbt (l:=a.toList) (by simp[e]),Qal]
 exact h.sb
theorem j0.S7 (h:j0 lt a b out ia ib) (hl: ∀e∈b.toList, ∀x∈a.toList.drop ia,lt x e=false):il lt a b (out++b.extract ib++a.extract ia):=by
 refine ⟨h.m.KS,?_⟩
 rw[Qak,Qak,aM,aM,Qao (by simp),Qao (by simp)]
 exact fD h.sa h.sb fun e he f hf=>hl e (Qbg he) f hf
theorem CT {l:List Keyed} {i:Nat} {y:Keyed} (hi:i+1=l.length) (hy:l[l.length - 1]? =some y):l.drop i=[y]:=by
 have e:l.length - 1=i:=by omega
 rw[e]at hy
 rw[fk hy,Qbt (by omega)]
theorem eS {l:List Keyed} {i k:Nat} {e:Keyed} (h:e∈(l.drop i).take k): ∃j,j<k/\l[i+j]? =some e:=by
 obtain ⟨j,hj⟩:=Qch h
 have h1:=(Xy.mp hj).1
 rw[Qab]at h1
 rw[Qav (by omega),Qbp]at hj
 exact ⟨j,by omega,hj⟩
theorem kl {l:List Keyed} {i:Nat} {e:Keyed} (h:e∈l.drop i): ∃j,l[i+j]? =some e:=by
 obtain ⟨j,hj⟩:=Qch h
 rw[Qbp]at hj
 exact ⟨j,hj⟩
theorem dR {arr:Array Keyed} {base i:Nat} {x key:Keyed} (h:arr.toList[base+i]? =some x):bS lt false key arr base i=!lt key x:=by
 rw[sj (p:=x) (by simpa using h)];rfl
theorem e_ {arr:Array Keyed} {base i:Nat} {x key:Keyed} (h:arr.toList[base+i]? =some x):bS lt true key arr base i=lt x key:=by
 rw[sj (p:=x) (by simpa using h)];rfl
theorem mono_right (L:fX lt) {arr:Array Keyed} {base n:Nat} (key:Keyed) (hn:base+n<=arr.size) (hs:cP lt ((arr.toList.drop base).take n)): ∀i j,i<=j->j<n->bS lt false key arr base j=true->bS lt false key arr base i=true:=fun i j BN hj e=>by
 have KY:base+j<arr.toList.length:=by rw[Qaw];omega
 have KZ:base+i<arr.toList.length:=by omega
 rw[dR (Mn KY)]at e
 rw[dR (Mn KZ)]
 have hle:lt (arr.toList[base+j]) (arr.toList[base+i])=false:=xl L hs BN (by rw[Qav (by omega),Qbp];exact Mn KZ) (by rw[Qav hj,Qbp];exact Mn KY)
 have e':lt key (arr.toList[base+j])=false:=by simpa using e
 rw[L.tr _ _ _ hle e'];rfl
theorem mono_left (L:fX lt) {arr:Array Keyed} {base n:Nat} (key:Keyed) (hn:base+n<=arr.size) (hs:cP lt ((arr.toList.drop base).take n)): ∀i j,i<=j->j<n->bS lt true key arr base j=true->bS lt true key arr base i=true:=fun i j BN hj e=>by
 have KY:base+j<arr.toList.length:=by rw[Qaw];omega
 have KZ:base+i<arr.toList.length:=by omega
 rw[e_ (Mn KY)]at e
 rw[e_ (Mn KZ)]
 have hle:lt (arr.toList[base+j]) (arr.toList[base+i])=false:=xl L hs BN (by rw[Qav (by omega),Qbp];exact Mn KZ) (by rw[Qav hj,Qbp];exact Mn KY)
 cases z:lt (arr.toList[base+i]) key with
 | true=>rfl
 | false=>rw[L.tr _ _ _ z hle]at e;cases e
theorem mZ {l:List Keyed} (h:cP lt l) (i n:Nat):cP lt ((l.drop i).take n):=h.sublist ((Qeq _ _).trans (List.drop_sublist _ _))
theorem CU {i g ac bc:Nat} {st aL:SortSt} (hg:nV st aL) (m:j0 lt a b out ia ib) (q:ia+1<a.size) (r:ib<b.size) (t:i+2<=ia+ib):nV st aL/\ ∃iZ pK pL g' K0 K3,((none,out,ia,ib,g,ac,bc):Option (Array Keyed)×Array Keyed×Nat×Nat×Nat×Nat×Nat)=(none,iZ,pK,pL,g',K0,K3)/\j0 lt a b iZ pK pL/\pK+1<a.size/\pL<b.size/\i+2<=pK+pL:=
 ⟨hg,_,_,_,_,_,_,rfl,m,q,r,t⟩
theorem CV {i g ac bc:Nat} {st aL:SortSt} (hg:nV st aL) (m:j0 lt a b out ia ib) (q:ia+1<a.size) (r:ib<b.size) (t:i+2<=ia+ib):nV st aL/\((∃iZ z,((none,out,ia,ib,g,ac,bc):Option (Array Keyed)×Array Keyed×Nat×Nat×Nat×Nat×Nat)=(some iZ,z)/\il lt a b iZ)\/ ∃iZ pK pL g' K0 K3,((none,out,ia,ib,g,ac,bc):Option (Array Keyed)×Array Keyed×Nat×Nat×Nat×Nat×Nat)=(none,iZ,pK,pL,g',K0,K3)/\j0 lt a b iZ pK pL/\pK+1<a.size/\pL<b.size/\i+2<=pK+pL):=
 ⟨hg, .inr (CU hg m q r t).2⟩
end
section
variable {prog:Program} {w:World} {A:Around} {E:Value->Shared->Prop} {s:Shared} {kd:SortKind} {lt:Keyed->Keyed->Bool} {a₀:Array Keyed}
theorem K4 {st:SortSt} {a b:Array Keyed} {Q:Array Keyed->SortSt->Prop} (L:fX lt) (C:iY prog w A E s kd lt a₀) (Eo:kindOf st=kd) (ha: ∀p∈a.toList,p∈a₀.toList) (hb: ∀p∈b.toList,p∈a₀.toList) (na:1<=a.size) (nb:1<=b.size)
  (sa:cP lt a.toList) (sb:cP lt b.toList) (hf: ∀x∈a.toList, ∀q,b[0]? =some q->lt x q=false) (hl: ∀y,a[a.size - 1]? =some y-> ∀e∈b.toList,lt y e=false)
  (h: ∀out aL,nV st aL->il lt a b out->Q out aL):wpS (model prog w) A E s (mLo a b) Q st:=by
 refine wpS_bind (wpS_lift (wpAny_rule ⟨rfl,?_⟩))
 refine wpS_bind (bV (by omega) fun p hp ep=>?_)
 have m0:j0 lt a b #[p] 0 1:=(show j0 lt a b #[] 0 0 from ⟨Qcq _,by simpa using sa,by simpa using sb⟩).jH ep fun x hx=>hf x (Qbg hx) p ep
 have yX: ∀{out:Array Keyed} {ia ib:Nat},j0 lt a b out ia ib->ia+1=a.size->il lt a b (out++b.extract ib++a.extract ia):=fun {out ia ib} m e=>m.S7 fun x hx y hy=>by
  have hz:a.size - 1<a.size:=by omega
  have ey:a[a.size - 1]? =some a[a.size - 1]:=getElem?_pos a _ hz
  rw[CT (l:=a.toList) (y:=a[a.size - 1]) (by rw[Qaw];exact e) (by rw[Qaw];simpa using ey)]at hy
  rw[QB.mp hy]
  exact hl _ ey x hx
 refine aA (fun g=>?_) (fun g=>?_)
 ·exact wpS_pure (h _ _ (.refl _) (m0.Ak (by simpa using g)))
 refine aA (fun g2=>?_) (fun g2=>?_)
 ·exact wpS_pure (h _ _ (.refl _) (yX m0 (by simpa using g2)))
 have g': ¬1=b.size:=fun z=>g (by simpa using z)
 have N8: ¬0+1=a.size:=fun z=>g2 (by simpa using z)
 refine wpS_bind (wpS_get ?_)
 refine wpS_bind (wpS_mono (wpS_forRange (I:=fun i c aL=>nV st aL/\ ∃out ia ib g,c=(none,out,ia,ib,g)/\j0 lt a b out ia ib/\ia+1<a.size/\ib<b.size/\i+1<=ia+ib)
  (Q:=fun c aL=>nV st aL/\ ∃out z,c=(some out,z)/\il lt a b out) ?_ ?_ ?_) ?_)
 ·rintro i c dY _ hi ⟨hg,out,ia,ib,g,rfl,m1,h1,h2,h3⟩
  have CW:kindOf dY=kd:=by obtain ⟨g0,rfl⟩:=hg;exact Eo
  refine wpS_bind (wpS_mono (wpS_forRange (I:=fun x c aL=>aL=dY/\ ∃out ia ib ac bc,c=(none,out,ia,ib,ac,bc)/\j0 lt a b out ia ib/\ia+1<a.size/\ib<b.size/\i+1+x<=ia+ib)
   (Q:=fun c aL=>aL=dY/\((∃out z,c=(some out,z)/\il lt a b out)\/ ∃out ia ib ac bc,c=(none,out,ia,ib,ac,bc)/\j0 lt a b out ia ib/\ia+1<a.size/\ib<b.size/\i+2<=ia+ib)) ?_ ?_ ⟨rfl,out,ia,ib,0,0,rfl,m1,h1,h2,by omega⟩) ?_)
  ·rintro x c gF _ hx ⟨rfl,out,ia,ib,ac,bc,rfl,m1,h1,h2,h3⟩
   refine wpS_bind (bV h2 fun pb FI eb=>wpS_bind (bV (show ia<a.size by omega) fun pa N9 ea=>wpS_bind (C _ _ _ _ CW (hb _ FI) (ha _ N9) ?_)))
   cases N_:lt pb pa with
   | true=>
    refine wpS_bind (bV h2 fun q hq eq=>?_)
    have m2:=m1.jH eq (gK L sa (i:=ia) (p:=pa) (by simpa using ea) (by rw[eb]at eq;cases eq;exact L.jU _ _ N_))
    refine aA (fun z=>wpS_pure ⟨rfl, .inl ⟨_,_,rfl,m2.Ak (by simpa using z)⟩⟩) (fun z=>?_)
    have z': ¬ib+1=b.size:=fun y=>z (by simpa using y)
    exact aA (fun _=>wpS_pure ⟨rfl, .inr ⟨_,ia,ib+1,_,_,rfl,m2,h1,by omega,by omega⟩⟩) (fun _=>wpS_pure ⟨rfl,_,ia,ib+1,_,_,rfl,m2,h1,by omega,by omega⟩)
   | false=>
    refine wpS_bind (bV (show ia<a.size by omega) fun q hq eq=>?_)
    have m2:=m1.jI eq (gK L sb (i:=ib) (p:=pb) (by simpa using eb) (by rw[ea]at eq;cases eq;exact N_))
    refine aA (fun z=>wpS_pure ⟨rfl, .inl ⟨_,_,rfl,yX m2 (by simpa using z)⟩⟩) (fun z=>?_)
    have z': ¬ia+1+1=a.size:=fun y=>z (by simpa using y)
    exact aA (fun _=>wpS_pure ⟨rfl, .inr ⟨_,ia+1,ib,_,_,rfl,m2,by omega,h2,by omega⟩⟩) (fun _=>wpS_pure ⟨rfl,_,ia+1,ib,_,_,rfl,m2,by omega,h2,by omega⟩)
  ·rintro c gF ⟨e2,out,ia,ib,ac,bc,rfl,m1,h1,h2,h3⟩
   exact ⟨e2, .inr ⟨_,_,_,_,_,rfl,m1,h1,h2,by omega⟩⟩
  ·rintro c gF ⟨rfl,⟨out,z,rfl,pf⟩ | ⟨out,ia,ib,ac,bc,rfl,m1,h1,h2,h3⟩⟩
   ·exact wpS_pure ⟨hg,out,_,rfl,pf⟩
   refine wpS_bind (wpS_lift (wpAny_rule ⟨rfl,?_⟩))
   refine wpS_bind (wpS_mono (wpS_forRange (I:=fun x c aL=>nV st aL/\ ∃out ia ib g ac bc,c=(none,out,ia,ib,g,ac,bc)/\j0 lt a b out ia ib/\ia+1<a.size/\ib<b.size/\i+2<=ia+ib)
    (Q:=fun c aL=>nV st aL/\((∃out z,c=(some out,z)/\il lt a b out)\/ ∃out ia ib g ac bc,c=(none,out,ia,ib,g,ac,bc)/\j0 lt a b out ia ib/\ia+1<a.size/\ib<b.size/\i+2<=ia+ib)) ?_ ?_ ⟨hg,out,ia,ib,_,ac,bc,rfl,m1,h1,h2,h3⟩) ?_)
   ·rintro x c rq _ hx ⟨lG,out,ia,ib,gg,ac,bc,rfl,m1,h1,h2,h3⟩
    have Oa:kindOf rq=kd:=by obtain ⟨g0,rfl⟩:=lG;exact Eo
    refine aA (fun _=>?_) (fun _=>?_)
    all_goals
     refine wpS_bind (wpS_modify ?_)
     refine wpS_bind (bV h2 fun pb FI eb=>wpS_bind (lF C Oa (hb _ FI) ha (show ia+(a.size - ia)<=a.size by omega) (show 0<a.size - ia by omega) (mono_right L pb (show ia+(a.size - ia)<=a.size by omega) (mZ sa _ _)) fun k hk y1 y2=>?_))
     have S8: ∀x∈b.toList.drop ib,lt x pb=false:=gK L sb (i:=ib) (p:=pb) (by simpa using eb) (En L pb)
     have c1: ∀e∈(a.toList.drop ia).take k, ∀x∈b.toList.drop ib,lt x e=false:=fun e he x hx=>by
      obtain ⟨j,hj,ej⟩:=eS he
      have:=y1 j hj
      rw[dR ej]at this
      exact L.tr e pb x (by simpa using this) (S8 x hx)
     have c2: ∀x∈a.toList.drop (ia+k),lt x pb=false:=fun x hx=>by
      obtain ⟨j,ej⟩:=kl hx
      have bW:=(Xy.mp ej).1
      rw[Qaw]at bW
      have:=(show ∀i,k<=i->i<a.size - ia->bS lt false pb a ia i=false from y2) (k+j) (by omega) (by omega)
      rw[dR (x:=x) (by rw[<-Qej];exact ej)]at this
      exact L.jU _ _ (by simpa using this)
     refine aA (fun CW=>aA (fun z=>wpS_pure ⟨lG.set _, .inl ⟨_,_,rfl,yX (m1.pJ c1) (by simpa using z)⟩⟩) (fun z1=>aA (fun z=>wpS_pure ⟨lG.set _, .inl ⟨_,_,rfl,(m1.pJ c1).Al (by simpa using z)⟩⟩) (fun z2=>?_))) (fun CW=>?_)
     all_goals first
      |(have m2:=m1.pJ c1
        have c3:=c2
        have q1:ia+k+1<a.size:=Ah hk h1 (fun e=>z1 (by simpa using e)) (fun e=>z2 (by simpa using e))
        have q2:i+2<=ia+k+ib:=by omega)
      |(have m2:=m1
        have S9:k=0:=Qdj CW
        have c3: ∀x∈a.toList.drop ia,lt x pb=false:=by rw[S9,Qdk]at c2;exact c2
        have q1:=h1
        have q2:=h3)
     all_goals
      refine wpS_bind (bV h2 fun pc hpc ec=>?_)
      have S_:pc=pb:=by rw[eb]at ec;exact (Qae ec).symm
      subst S_
      have m3:=m2.jH ec c3
      refine aA (fun z=>wpS_pure ⟨lG.set _, .inl ⟨_,_,rfl,m3.Ak (by simpa using z)⟩⟩) (fun z3=>?_)
      have z3': ¬ib+1=b.size:=fun e=>z3 (by simpa using e)
      refine wpS_bind (bV (Nat.lt_of_succ_lt q1) fun pd Ta ed=>wpS_bind (lF C Oa (ha _ Ta) hb (show ib+1+(b.size - (ib+1))<=b.size by omega) (show 0<b.size - (ib+1) by omega) (mono_left L pd (show ib+1+(b.size - (ib+1))<=b.size by omega) (mZ sb _ _)) fun k2 tT y3 y4=>?_))
      have QP:=gK L sa (p:=pd) (by simpa using ed) (En L pd)
      have c4: ∀e∈(b.toList.drop (ib+1)).take k2, ∀x∈a.toList.drop _,lt x e=false:=fun e he x hx=>by
       obtain ⟨j,hj,ej⟩:=eS he
       have:=y3 j hj
       rw[e_ ej]at this
       exact L.tr e pd x (L.jU _ _ this) (QP x hx)
      have c5: ∀x∈b.toList.drop (ib+1+k2),lt x pd=false:=fun x hx=>by
       obtain ⟨j,ej⟩:=kl hx
       have bW:=(Xy.mp ej).1
       rw[Qaw]at bW
       have:=(show ∀i,k2<=i->i<b.size - (ib+1)->bS lt true pd b (ib+1) i=false from y4) (k2+j) (by omega) (by omega)
       rw[e_ (x:=x) (by rw[<-Qej];exact ej)]at this
       exact this
      refine aA (fun CY=>aA (fun z=>wpS_pure ⟨lG.set _, .inl ⟨_,_,rfl,(m3.pI c4).Ak (by simpa using z)⟩⟩) (fun z4=>?_)) (fun CY=>?_)
      all_goals first
       |(have m4:=m3.pI c4
         have c6:=c5
         have r1:ib+1+k2<b.size:=Ai tT h2 (fun e=>z4 (by simpa using e))
         have r2:ib<=ib+1+k2:=by omega)
       |(have m4:=m3
         have Ob:k2=0:=Qdj CY
         have c6: ∀x∈b.toList.drop (ib+1),lt x pd=false:=by rw[Ob,Qdk]at c5;exact c5
         have r1:ib+1<b.size:=by omega
         have r2:ib<=ib+1:=by omega)
      all_goals
       refine wpS_bind (bV (Nat.lt_of_succ_lt q1) fun pe iE ee=>?_)
       have Tc:pe=pd:=by rw[ed]at ee;exact (Qae ee).symm
       subst Tc
       have m5:=m4.jI ee c6
       refine aA (fun z=>wpS_pure ⟨lG.set _, .inl ⟨_,_,rfl,yX m5 (by simpa using z)⟩⟩) (fun z5=>?_)
       have q5:=Nat.lt_of_le_of_ne q1 (fun e=>z5 (by simpa using e))
       exact aA (fun _=>wpS_pure (CV (lG.set _) m5 q5 r1 (HR q2 r2))) (fun _=>wpS_pure (CU (lG.set _) m5 q5 r1 (HR q2 r2)))
   ·rintro c rq ⟨lG,out,ia,ib,gg,ac,bc,rfl,m1,h1,h2,h3⟩
    exact ⟨lG, .inr ⟨_,_,_,_,_,_,rfl,m1,h1,h2,h3⟩⟩
   ·rintro c rq ⟨lG,⟨out,z,rfl,pf⟩ | ⟨out,ia,ib,g,ac,bc,rfl,m1,h1,h2,h3⟩⟩
    ·exact wpS_pure ⟨lG,out,_,rfl,pf⟩
    ·exact wpS_bind (wpS_modify (wpS_pure ⟨lG.set _,_,_,_,_,rfl,m1,h1,h2,by omega⟩))
 ·rintro c dY ⟨hg,out,ia,ib,g,rfl,m1,h1,h2,h3⟩
  exfalso
  omega
 ·exact ⟨.refl _,_,_,_,_,rfl,m0,by omega,by omega,by omega⟩
 ·rintro c aL ⟨hg,out,z,rfl,hp⟩
  exact wpS_pure (h _ _ hg hp)
end
end L2
set_option maxHeartbeats 1000000
namespace L2
open PySem PySem.Spec PyProof.Rows
section
variable {lt:Keyed->Keyed->Bool}
theorem i0 {x c y:List Keyed} (h1:cP lt (x++y)) (h2:cP lt (c++y)) (h3: ∀e∈x, ∀f∈c,lt f e=false):cP lt (x++c++y):=by
 unfold cP at*
 rw[Xz]
 rw[Qa8]at h1 ⊢
 refine ⟨h1.1,h2,fun e he f hf=>?_⟩
 rcases Qaa.mp hf with z | z
 ·exact h3 e he f z
 ·exact h1.2.2 e he f z
theorem gL (L:fX lt) {l:List Keyed} {i:Nat} {p q:Keyed} (h:cP lt l) (hp:l[i]? =some p) (hq:lt q p=false): ∀x∈l.take (i+1),lt q x=false:=fun x hx=>by
 obtain ⟨j,hj⟩:=Qch hx
 have h1:=(Xy.mp hj).1
 rw[Qab]at h1
 rw[Qav (by omega)]at hj
 exact L.tr x p q (xl L h (by omega) hj hp) hq
structure j5 (lt:Keyed->Keyed->Bool) (a b out:Array Keyed) (na nb:Nat):Prop where
 m:Mh a b out na nb
 sa:cP lt (a.toList.take na++out.toList.reverse)
 sb:cP lt (b.toList.take nb++out.toList.reverse)
variable {a b out:Array Keyed} {na nb k:Nat} {p q:Keyed}
theorem j5.jI (h:j5 lt a b out na nb) (h1:1<=na) (hp:a[na - 1]? =some q) (hq: ∀x∈b.toList.take nb,lt q x=false):j5 lt a b (out.push q) (na - 1) nb:=by
 have hd:a.toList.take na=a.toList.take (na - 1)++[q]:=by
  have:=eR (l:=a.toList) (i:=na - 1) (p:=q) (by simpa using hp)
  rwa [show na - 1+1=na by omega]at this
 have h2:cP lt (a.toList.take (na - 1)++([q]++out.toList.reverse)):=by
  have:=h.sa;rw[hd,Xz]at this;exact this
 refine ⟨h.m.jI h1 hp,?_,?_⟩
 ·rw[Qbo,Qcy];exact h2
 ·rw[Qbo,Qcy]
  have:=i0 h.sb (fE h2) fun e he f hf=>by rw[QB.mp hf];exact hq e he
  rw[Xz]at this
  exact this
theorem j5.jH (h:j5 lt a b out na nb) (h1:1<=nb) (hp:b[nb - 1]? =some q) (hq: ∀x∈a.toList.take na,lt q x=false):j5 lt a b (out.push q) na (nb - 1):=by
 have hd:b.toList.take nb=b.toList.take (nb - 1)++[q]:=by
  have:=eR (l:=b.toList) (i:=nb - 1) (p:=q) (by simpa using hp)
  rwa [show nb - 1+1=nb by omega]at this
 have h2:cP lt (b.toList.take (nb - 1)++([q]++out.toList.reverse)):=by
  have:=h.sb;rw[hd,Xz]at this;exact this
 refine ⟨h.m.jH h1 hp,?_,?_⟩
 ·rw[Qbo,Qcy]
  have:=i0 h.sa (fE h2) fun e he f hf=>by rw[QB.mp hf];exact hq e he
  rw[Xz]at this
  exact this
 ·rw[Qbo,Qcy];exact h2
theorem j5.pJ (h:j5 lt a b out na nb) (hk:k<=na) (hq: ∀e∈b.toList.take nb, ∀f∈(a.toList.drop k).take (na - k),lt f e=false):j5 lt a b (out++(a.extract k na).reverse) k nb:=by
 have hd:=nW a.toList k na hk
 have h2:cP lt (a.toList.take k++((a.toList.drop k).take (na - k)++out.toList.reverse)):=by
  have:=h.sa;rw[hd,Xz]at this;exact this
 have e:(out++(a.extract k na).reverse).toList.reverse=(a.toList.drop k).take (na - k)++out.toList.reverse:=by
  rw[Qak,Qb5,aM,Qcy,Qee]
 refine ⟨h.m.pJ hk,?_,?_⟩
 ·rw[e];exact h2
 ·rw[e]
  have:=i0 h.sb (fE h2) hq
  rw[Xz]at this
  exact this
theorem j5.pI (h:j5 lt a b out na nb) (hk:k<=nb) (hq: ∀e∈a.toList.take na, ∀f∈(b.toList.drop k).take (nb - k),lt f e=false):j5 lt a b (out++(b.extract k nb).reverse) na k:=by
 have hd:=nW b.toList k nb hk
 have h2:cP lt (b.toList.take k++((b.toList.drop k).take (nb - k)++out.toList.reverse)):=by
  have:=h.sb;rw[hd,Xz]at this;exact this
 have e:(out++(b.extract k nb).reverse).toList.reverse=(b.toList.drop k).take (nb - k)++out.toList.reverse:=by
  rw[Qak,Qb5,aM,Qcy,Qee]
 refine ⟨h.m.pI hk,?_,?_⟩
 ·rw[e]
  have:=i0 h.sa (fE h2) hq
  rw[Xz]at this
  exact this
 ·rw[e];exact h2
theorem j5.Al (h:j5 lt a b out na nb) (e:na=0):il lt a b (a.extract 0 na++b.extract 0 nb++out.reverse):=by
 refine ⟨h.m.xj,?_⟩
 rw[Qak,Qak,aM,aM,Qbz,Qbz,Qcv,Qcv,Qb5,e,List.take_zero,Qcl]
 exact h.sb
theorem j5.Ak (h:j5 lt a b out na nb) (e:nb=0):il lt a b (a.extract 0 na++b.extract 0 nb++out.reverse):=by
 refine ⟨h.m.xj,?_⟩
 rw[Qak,Qak,aM,aM,Qbz,Qbz,Qcv,Qcv,Qb5,e,List.take_zero,Qal]
 exact h.sa
theorem j5.Td (h:j5 lt a b out na nb) (hl: ∀e∈b.toList.take nb, ∀f∈a.toList,lt f e=false):il lt a b (b.extract 0 nb++a.extract 0 na++out.reverse):=by
 refine ⟨h.m.KS,?_⟩
 rw[Qak,Qak,aM,aM,Qbz,Qbz,Qcv,Qcv,Qb5]
 exact i0 h.sb h.sa fun e he f hf=>hl e he f (Qba hf)
theorem gM {l:List Keyed} {k:Nat} {e:Keyed} (h:e∈l.take k): ∃j,j<k/\l[0+j]? =some e:=by
 obtain ⟨j,hj⟩:=Qch h
 have h1:=(Xy.mp hj).1
 rw[Qab]at h1
 rw[Qav (by omega)]at hj
 exact ⟨j,by omega,by rw[Qcn];exact hj⟩
theorem CZ {i g ac bc:Nat} {st aL:SortSt} (hg:nV st aL) (m:j5 lt a b out na nb) (q:1<=na) (r:2<=nb) (l1:na<=a.size) (l2:nb<=b.size) (t:na+nb+i+2<=a.size+b.size):nV st aL/\ ∃pK pL iZ g' K0 K3,((none,na,nb,out,g,ac,bc):Option (Array Keyed)×Nat×Nat×Array Keyed×Nat×Nat×Nat)=(none,pK,pL,iZ,g',K0,K3)/\j5 lt a b iZ pK pL/\1<=pK/\2<=pL/\pK<=a.size/\pL<=b.size/\pK+pL+i+2<=a.size+b.size:=
 ⟨hg,_,_,_,_,_,_,rfl,m,q,r,l1,l2,t⟩
theorem C0 {i g ac bc:Nat} {st aL:SortSt} (hg:nV st aL) (m:j5 lt a b out na nb) (q:1<=na) (r:2<=nb) (l1:na<=a.size) (l2:nb<=b.size) (t:na+nb+i+2<=a.size+b.size):nV st aL/\((∃iZ z,((none,na,nb,out,g,ac,bc):Option (Array Keyed)×Nat×Nat×Array Keyed×Nat×Nat×Nat)=(some iZ,z)/\il lt a b iZ)\/ ∃pK pL iZ g' K0 K3,((none,na,nb,out,g,ac,bc):Option (Array Keyed)×Nat×Nat×Array Keyed×Nat×Nat×Nat)=(none,pK,pL,iZ,g',K0,K3)/\j5 lt a b iZ pK pL/\1<=pK/\2<=pL/\pK<=a.size/\pL<=b.size/\pK+pL+i+2<=a.size+b.size):=
 ⟨hg, .inr (CZ hg m q r l1 l2 t).2⟩
end
section
variable {prog:Program} {w:World} {A:Around} {E:Value->Shared->Prop} {s:Shared} {kd:SortKind} {lt:Keyed->Keyed->Bool} {a₀:Array Keyed}
theorem K5 {st:SortSt} {a b:Array Keyed} {Q:Array Keyed->SortSt->Prop} (L:fX lt) (C:iY prog w A E s kd lt a₀) (Eo:kindOf st=kd) (ha: ∀p∈a.toList,p∈a₀.toList) (hb: ∀p∈b.toList,p∈a₀.toList) (na:1<=a.size) (nb:1<=b.size)
  (sa:cP lt a.toList) (sb:cP lt b.toList) (hf: ∀x∈a.toList, ∀q,b[0]? =some q->lt x q=false) (hl: ∀y,a[a.size - 1]? =some y-> ∀e∈b.toList,lt y e=false)
  (h: ∀out aL,nV st aL->il lt a b out->Q out aL):wpS (model prog w) A E s (mHi a b) Q st:=by
 refine wpS_bind (wpS_lift (wpAny_rule ⟨rfl,?_⟩))
 refine wpS_bind (bV (show a.size - 1<a.size by omega) fun p hp ep=>?_)
 have m0:j5 lt a b #[p] (a.size - 1) b.size:=(show j5 lt a b #[] a.size b.size from ⟨by unfold Mh;simp,by rw[Qao (by simp)];simpa using sa,by rw[Qao (by simp)];simpa using sb⟩).jI na ep fun x hx=>hl p ep x (Qba hx)
 have sr: ∀{out:Array Keyed} {ia ib:Nat},j5 lt a b out ia ib->ib=1->il lt a b (b.extract 0 ib++a.extract 0 ia++out.reverse):=fun {out ia ib} m e=>m.Td fun x hx f Oc=>by
  subst e
  have e0:b[0]? =some b[0]:=getElem?_pos b 0 (by omega)
  obtain ⟨j,hj,ej⟩:=gM hx
  have hj0:j=0:=by omega
  subst hj0
  exact hf f Oc x (by simpa using ej)
 refine aA (fun g=>?_) (fun g=>?_)
 ·exact wpS_pure (h _ _ (.refl _) (m0.Al (by simpa using g)))
 refine aA (fun g2=>?_) (fun g2=>?_)
 ·exact wpS_pure (h _ _ (.refl _) (sr m0 (by simpa using g2)))
 have g': ¬a.size - 1=0:=fun z=>g (by simpa using z)
 have N8: ¬b.size=1:=fun z=>g2 (by simpa using z)
 refine wpS_bind (wpS_get ?_)
 refine wpS_bind (wpS_mono (wpS_forRange (I:=fun i c aL=>nV st aL/\ ∃ia ib out g,c=(none,ia,ib,out,g)/\j5 lt a b out ia ib/\1<=ia/\2<=ib/\ia<=a.size/\ib<=b.size/\ia+ib+i+1<=a.size+b.size)
  (Q:=fun c aL=>nV st aL/\ ∃out z,c=(some out,z)/\il lt a b out) ?_ ?_ ?_) ?_)
 ·rintro i c dY _ hi ⟨hg,ia,ib,out,g,rfl,m1,h1,h2,l1,l2,h3⟩
  have CW:kindOf dY=kd:=by obtain ⟨g0,rfl⟩:=hg;exact Eo
  refine wpS_bind (wpS_mono (wpS_forRange (I:=fun x c aL=>aL=dY/\ ∃ia ib out ac bc,c=(none,ia,ib,out,ac,bc)/\j5 lt a b out ia ib/\1<=ia/\2<=ib/\ia<=a.size/\ib<=b.size/\ia+ib+i+1+x<=a.size+b.size)
   (Q:=fun c aL=>aL=dY/\((∃out z,c=(some out,z)/\il lt a b out)\/ ∃ia ib out ac bc,c=(none,ia,ib,out,ac,bc)/\j5 lt a b out ia ib/\1<=ia/\2<=ib/\ia<=a.size/\ib<=b.size/\ia+ib+i+2<=a.size+b.size)) ?_ ?_ ⟨rfl,ia,ib,out,0,0,rfl,m1,h1,h2,l1,l2,by omega⟩) ?_)
  ·rintro x c gF _ hx ⟨rfl,ia,ib,out,ac,bc,rfl,m1,h1,h2,l1,l2,h3⟩
   refine wpS_bind (bV (show ib - 1<b.size by omega) fun pb FI eb=>wpS_bind (bV (show ia - 1<a.size by omega) fun pa N9 ea=>wpS_bind (C _ _ _ _ CW (hb _ FI) (ha _ N9) ?_)))
   have Te:ib - 1+1=ib:=by omega
   have eia:ia - 1+1=ia:=by omega
   cases N_:lt pb pa with
   | true=>
    refine wpS_bind (bV (show ia - 1<a.size by omega) fun q hq eq=>?_)
    have Tf:q=pa:=(Qae (ea.symm.trans eq)).symm
    have m2:=m1.jI h1 eq (by
     have:=gL L sb (i:=ib - 1) (p:=pb) (q:=q) (by simpa using eb) (by rw[Tf];exact L.jU _ _ N_)
     rw[Te]at this;exact this)
    refine aA (fun z=>wpS_pure ⟨rfl, .inl ⟨_,_,rfl,m2.Al (by simpa using z)⟩⟩) (fun z=>?_)
    have z': ¬ia - 1=0:=fun y=>z (by simpa using y)
    exact aA (fun _=>wpS_pure ⟨rfl, .inr ⟨ia - 1,ib,_,_,_,rfl,m2,by omega,h2,by omega,l2,by omega⟩⟩) (fun _=>wpS_pure ⟨rfl,ia - 1,ib,_,_,_,rfl,m2,by omega,h2,by omega,l2,by omega⟩)
   | false=>
    refine wpS_bind (bV (show ib - 1<b.size by omega) fun q hq eq=>?_)
    have Tf:q=pb:=(Qae (eb.symm.trans eq)).symm
    have m2:=m1.jH (by omega) eq (by
     have:=gL L sa (i:=ia - 1) (p:=pa) (q:=q) (by simpa using ea) (by rw[Tf];exact N_)
     rw[eia]at this;exact this)
    refine aA (fun z=>wpS_pure ⟨rfl, .inl ⟨_,_,rfl,sr m2 (by simpa using z)⟩⟩) (fun z=>?_)
    have z': ¬ib - 1=1:=fun y=>z (by simpa using y)
    exact aA (fun _=>wpS_pure ⟨rfl, .inr ⟨ia,ib - 1,_,_,_,rfl,m2,h1,by omega,l1,by omega,by omega⟩⟩) (fun _=>wpS_pure ⟨rfl,ia,ib - 1,_,_,_,rfl,m2,h1,by omega,l1,by omega,by omega⟩)
  ·rintro c gF ⟨e2,ia,ib,out,ac,bc,rfl,m1,h1,h2,l1,l2,h3⟩
   exact ⟨e2, .inr ⟨_,_,_,_,_,rfl,m1,h1,h2,l1,l2,by omega⟩⟩
  ·rintro c gF ⟨rfl,⟨out,z,rfl,pf⟩ | ⟨ia,ib,out,ac,bc,rfl,m1,h1,h2,l1,l2,h3⟩⟩
   ·exact wpS_pure ⟨hg,out,_,rfl,pf⟩
   refine wpS_bind (wpS_lift (wpAny_rule ⟨rfl,?_⟩))
   refine wpS_bind (wpS_mono (wpS_forRange (I:=fun x c aL=>nV st aL/\ ∃ia ib out g ac bc,c=(none,ia,ib,out,g,ac,bc)/\j5 lt a b out ia ib/\1<=ia/\2<=ib/\ia<=a.size/\ib<=b.size/\ia+ib+i+2<=a.size+b.size)
    (Q:=fun c aL=>nV st aL/\((∃out z,c=(some out,z)/\il lt a b out)\/ ∃ia ib out g ac bc,c=(none,ia,ib,out,g,ac,bc)/\j5 lt a b out ia ib/\1<=ia/\2<=ib/\ia<=a.size/\ib<=b.size/\ia+ib+i+2<=a.size+b.size)) ?_ ?_ ⟨hg,ia,ib,out,_,ac,bc,rfl,m1,h1,h2,l1,l2,h3⟩) ?_)
   ·rintro x c rq _ hx ⟨lG,ia,ib,out,gg,ac,bc,rfl,m1,h1,h2,l1,l2,h3⟩
    have Oa:kindOf rq=kd:=by obtain ⟨g0,rfl⟩:=lG;exact Eo
    have Te:ib - 1+1=ib:=by omega
    refine aA (fun _=>?_) (fun _=>?_)
    all_goals
     refine wpS_bind (wpS_modify ?_)
     refine wpS_bind (bV (show ib - 1<b.size by omega) fun pb FI eb=>wpS_bind (lF C Oa (hb _ FI) ha (show 0+ia<=a.size by omega) (show ia - 1<ia by omega) (mono_right L pb (show 0+ia<=a.size by omega) (mZ sa _ _)) fun k Mo y1 y2=>?_))
     have hk:k<=ia:=Mo
     have y2': ∀i,k<=i->i<ia->bS lt false pb a 0 i=false:=y2
     have S8: ∀x∈b.toList.take ib,lt pb x=false:=by
      have:=gL L sb (i:=ib - 1) (p:=pb) (q:=pb) (by simpa using eb) (En L pb)
      rw[Te]at this;exact this
     have c1: ∀e∈b.toList.take ib, ∀f∈(a.toList.drop k).take (ia - k),lt f e=false:=fun e he f Oc=>by
      obtain ⟨j,hj,ej⟩:=eS Oc
      have:=y2' (k+j) (by omega) (by omega)
      rw[dR (x:=f) (by rw[Qcn];exact ej)]at this
      exact L.tr e pb f (S8 e he) (L.jU _ _ (by simpa using this))
     have c2: ∀x∈a.toList.take k,lt pb x=false:=fun x hx=>by
      obtain ⟨j,hj,ej⟩:=gM hx
      have:=y1 j hj
      rw[dR ej]at this
      simpa using this
     refine aA (fun CW=>aA (fun z=>wpS_pure ⟨lG.set _, .inl ⟨_,_,rfl,(m1.pJ hk c1).Al (by simpa using z)⟩⟩) (fun z1=>?_)) (fun CW=>?_)
     all_goals first
      |(have m2:=m1.pJ hk c1
        have c3:=c2
        have z1': ¬k=0:=fun e=>z1 (by simpa using e)
        have q1:1<=k:=by omega
        have q2:k<=a.size:=by omega
        have q3:k+ib+i+2<=a.size+b.size:=by omega)
      |(have m2:=m1
        have ek:k=ia:=Qdd hk (Nat.le_of_sub_eq_zero (Qdj CW))
        have c3: ∀x∈a.toList.take ia,lt pb x=false:=by rw[ek]at c2;exact c2
        have q1:=h1
        have q2:=l1
        have q3:=h3)
     all_goals
      refine wpS_bind (bV (show ib - 1<b.size by omega) fun pc hpc ec=>?_)
      have S_:pc=pb:=(Qae (eb.symm.trans ec)).symm
      subst S_
      have m3:=m2.jH (by omega) ec c3
      refine aA (fun z=>wpS_pure ⟨lG.set _, .inl ⟨_,_,rfl,sr m3 (by simpa using z)⟩⟩) (fun z3=>?_)
      have z3': ¬ib - 1=1:=fun e=>z3 (by simpa using e)
      refine wpS_bind (bV (yV q1 q2) fun pd Ta ed=>wpS_bind (lF C Oa (ha _ Ta) hb (show 0+(ib - 1)<=b.size by omega) (show ib - 1 - 1<ib - 1 by omega) (mono_left L pd (show 0+(ib - 1)<=b.size by omega) (mZ sb _ _)) fun k2 Tg y3 y4=>?_))
      have tT:k2<=ib - 1:=Tg
      have y4': ∀i,k2<=i->i<ib - 1->bS lt true pd b 0 i=false:=y4
      have QP:=gL L sa (p:=pd) (q:=pd) (by simpa using ed) (En L pd)
      rw[Nat.sub_add_cancel q1]at QP
      have c4: ∀e∈a.toList.take _, ∀f∈(b.toList.drop k2).take (ib - 1 - k2),lt f e=false:=fun e he f Oc=>by
       obtain ⟨j,hj,ej⟩:=eS Oc
       have:=y4' (k2+j) (by omega) (by omega)
       rw[e_ (x:=f) (by rw[Qcn];exact ej)]at this
       exact L.tr e pd f (QP e he) this
      have c5: ∀x∈b.toList.take k2,lt pd x=false:=fun x hx=>by
       obtain ⟨j,hj,ej⟩:=gM hx
       have:=y3 j hj
       rw[e_ ej]at this
       exact L.jU _ _ this
      refine aA (fun CY=>aA (fun z=>wpS_pure ⟨lG.set _, .inl ⟨_,_,rfl,sr (m3.pI tT c4) (by simpa using z)⟩⟩) (fun z4=>aA (fun z=>wpS_pure ⟨lG.set _, .inl ⟨_,_,rfl,(m3.pI tT c4).Ak (by simpa using z)⟩⟩) (fun z5=>?_))) (fun CY=>?_)
      all_goals first
       |(have m4:=m3.pI tT c4
         have c6:=c5
         have z4': ¬k2=1:=fun e=>z4 (by simpa using e)
         have z5': ¬k2=0:=fun e=>z5 (by simpa using e)
         have r1:2<=k2:=by omega
         have r2:k2<=b.size:=by omega
         have r3:k2<=ib:=by omega)
       |(have m4:=m3
         have ek2:k2=ib - 1:=Qdd tT (Nat.le_of_sub_eq_zero (Qdj CY))
         have c6: ∀x∈b.toList.take (ib - 1),lt pd x=false:=by rw[ek2]at c5;exact c5
         have r1:2<=ib - 1:=by omega
         have r2:ib - 1<=b.size:=by omega
         have r3:ib - 1<=ib:=by omega)
      all_goals
       refine wpS_bind (bV (yV q1 q2) fun pe iE ee=>?_)
       have Tc:pe=pd:=(Qae (ed.symm.trans ee)).symm
       subst Tc
       have m5:=m4.jI q1 ee c6
       refine aA (fun z=>wpS_pure ⟨lG.set _, .inl ⟨_,_,rfl,m5.Al (by simpa using z)⟩⟩) (fun z6=>?_)
       have q5:=KU (fun e=>z6 (by simpa using e))
       exact aA (fun _=>wpS_pure (C0 (lG.set _) m5 q5 r1 (yW q2) r2 (CQ q3 r3))) (fun _=>wpS_pure (CZ (lG.set _) m5 q5 r1 (yW q2) r2 (CQ q3 r3)))
   ·rintro c rq ⟨lG,ia,ib,out,gg,ac,bc,rfl,m1,h1,h2,l1,l2,h3⟩
    exact ⟨lG, .inr ⟨_,_,_,_,_,_,rfl,m1,h1,h2,l1,l2,h3⟩⟩
   ·rintro c rq ⟨lG,⟨out,z,rfl,pf⟩ | ⟨ia,ib,out,g,ac,bc,rfl,m1,h1,h2,l1,l2,h3⟩⟩
    ·exact wpS_pure ⟨lG,out,_,rfl,pf⟩
    ·exact wpS_bind (wpS_modify (wpS_pure ⟨lG.set _,ia,ib,_,_,rfl,m1,h1,h2,l1,l2,by omega⟩))
 ·rintro c dY ⟨hg,ia,ib,out,g,rfl,m1,h1,h2,l1,l2,h3⟩
  exfalso
  omega
 ·exact ⟨.refl _,a.size - 1,b.size,_,_,rfl,m0,by omega,by omega,by omega,by omega,by omega⟩
 ·rintro c aL ⟨hg,out,z,rfl,hp⟩
  exact wpS_pure (h _ _ hg hp)
end
end L2
set_option maxHeartbeats 1000000
namespace L2
open PySem PySem.Spec PyProof.Rows
section
variable {lt:Keyed->Keyed->Bool}
theorem ja {x y:List Keyed} (hx:cP lt x) (hy:cP lt y) (h: ∀e∈x, ∀f∈y,lt f e=false):cP lt (x++y):=Qa8.mpr ⟨hx,hy,h⟩
theorem yY (L:fX lt) {l:List Keyed} {q e:Keyed} (h:cP lt l) (h0:l[0]? =some q) (he:lt q e=false): ∀f∈l,lt f e=false:=by
 have:=gK L h h0 he
 rwa [Qbz]at this
theorem le_last (L:fX lt) {l:List Keyed} {y f:Keyed} (h:cP lt l) (h0:l[l.length - 1]? =some y) (hf:lt f y=false): ∀e∈l,lt f e=false:=fun e he=>by
 have hl:=(Xy.mp h0).1
 have:=gL L h h0 hf
 rw[show l.length - 1+1=l.length by omega,Qbh]at this
 exact this e he
theorem Am (L:fX lt) {x y merged:List Keyed} {k m:Nat} {q z:Keyed} (sx:cP lt x) (sy:cP lt y) (h0:y[0]? =some q) (hz:x[x.length - 1]? =some z) (h1: ∀e∈x.take k,lt q e=false) (h2: ∀e∈y.drop m,lt e z=false) (pm:merged.Perm (x.drop k++y.take m)) (sm:cP lt merged):
  cP lt (x.take k++merged++y.drop m):=by
 have XW: ∀f∈y, ∀e∈x.take k,lt f e=false:=fun f hf e he=>yY L sy h0 (h1 e he) f hf
 have hxz: ∀f∈y.drop m, ∀e∈x,lt f e=false:=fun f hf e he=>le_last L sx hz (h2 f hf) e he
 have XX:cP lt (x.take k++x.drop k):=by rw[Qan];exact sx
 have XY:cP lt (y.take m++y.drop m):=by rw[Qan];exact sy
 refine ja (ja (gJ XX) sm fun e he f hf=>?_) (fE XY) fun e he f hf=>?_
 ·rcases Qaa.mp (pm.mem_iff.mp hf) with g | g
  ·exact (Qa8.mp XX).2.2 e he f g
  ·exact XW f (Qba g) e he
 ·rcases Qaa.mp he with g | g
  ·exact XW f (Qbg hf) e g
  ·rcases Qaa.mp (pm.mem_iff.mp g) with g | g
   ·exact hxz f hf e (Qbg g)
   ·exact (Qa8.mp XY).2.2 e g f hf
structure jw (kd:SortKind) (a₀:Array Keyed) (st:SortSt):Prop where
 perm:(arrOf st).Perm a₀
 kind:kindOf st=kd
 failed:failedOf st=none
theorem su {α:Type} {pre l:List α} {i:Nat}:(pre++l)[pre.length+i]? =l[i]?:= by rw[Qax (by omega),Qbc]
theorem i3 {α:Type} {pre x post:List α} {i:Nat} (h:i<x.length):(pre++x++post)[pre.length+i]? =x[i]?:= by
 rw[Xz,su,Qbd h]
theorem nZ {α:Type} {pre x post:List α} {arr:Array α} (e:arr.toList=pre++x++post):(mirror arr pre.length (pre.length+x.length) ((pre.length+x.length - pre.length) / 2)).toList=pre++x.reverse++post:=by
 have hsz:arr.size=pre.length+x.length+post.length:=by rw[<-Qaw,e];simp;omega
 refine Qet fun k=>?_
 rw[Qa2,getElem?_mirror_all (i:=pre.length) (j:=pre.length+x.length) (by omega) k]
 by_cases h:pre.length<=k/\k<pre.length+x.length
 ·rw[if_pos h, <-Qa2,e]
  rw[Qbd (by rw[JQ];omega),Qax (by omega)]
  rw[Qbd (by rw[JQ,Qbf];omega),Qax (by omega),List.getElem?_reverse (by omega)]
  congr 1
  omega
 ·rw[if_neg h, <-Qa2,e]
  by_cases g:k<pre.length
  ·rw[Xz,Xz,Qbd g,Qbd g]
  ·rw[Qax (by rw[JQ];omega),Qax (by rw[JQ,Qbf];omega),JQ,JQ,Qbf]
theorem C1 {α:Type} {pre x post:List α} {q:α} {arr:Array α} {l:Nat} (e:arr.toList=pre++x++q::post) (hl:l<=x.length):(bubble arr (pre.length+x.length) (pre.length+x.length - (pre.length+l))).toList=pre++(x.take l++q::x.drop l)++post:=by
 have hsz:arr.size=pre.length+x.length+(post.length+1):=by rw[<-Qaw,e];simp;omega
 have hq:arr[pre.length+x.length]? =some q:=by
  rw[<-Qa2,e,Qax (by rw[JQ];omega),JQ,Qdi];rfl
 refine Qet fun k=>?_
 rw[Qa2,getElem?_bubble (by omega) _ (by omega) k,show pre.length+x.length - (pre.length+x.length - (pre.length+l))=pre.length+l by omega]
 by_cases h1:k=pre.length+l
 ·rw[if_pos h1,hq,h1]
  rw[i3 (by simp;omega),Qax (by rw[Qab];omega),Qab,Qdc hl,Qdi]
  rfl
 ·rw[if_neg h1]
  by_cases h2:pre.length+l<k/\k<=pre.length+x.length
  ·rw[if_pos h2, <-Qa2,e]
   obtain ⟨j,rfl⟩: ∃j,k=pre.length+(l+1+j):=⟨k - pre.length - l - 1,by omega⟩
   rw[show pre.length+(l+1+j) - 1=pre.length+(l+j) by omega,i3 (by omega),i3 (by simp;omega),Qax (by rw[Qab];omega),Qab,Qdc hl,show l+1+j - l=j+1 by omega,List.getElem?_cons_succ,Qbp]
  ·rw[if_neg h2, <-Qa2,e]
   by_cases h3:k<pre.length+l
   ·by_cases h4:k<pre.length
    ·rw[Xz,Xz,Qbd h4,Qbd h4]
    ·obtain ⟨j,rfl⟩: ∃j,k=pre.length+j:=⟨k - pre.length,by omega⟩
     rw[i3 (by omega),i3 (by simp;omega),Qbd (by rw[Qab];omega),Qav (by omega)]
   ·rw[Qax (by rw[JQ];omega),Qax (by simp;omega)]
    simp only[JQ,Zy,Qab,Qat]
    rw[show k - (pre.length+x.length)=k - (pre.length+x.length) - 1+1 by omega,List.getElem?_cons_succ]
    congr 1
    omega
end
section
variable {prog:Program} {w:World} {A:Around} {E:Value->Shared->Prop} {s:Shared} {kd:SortKind} {lt:Keyed->Keyed->Bool} {a₀:Array Keyed}
theorem jw.size {st:SortSt} (h:jw kd a₀ st):(arrOf st).size=a₀.size:=h.perm.size_eq
theorem jw.mem {st:SortSt} (h:jw kd a₀ st) {p:Keyed} (hp:p∈(arrOf st).toList):p∈a₀.toList:=(Qa9.mp h.perm).mem_iff.mp hp
theorem jw.set {st:SortSt} (h:jw kd a₀ st) {xs:Array Keyed} (hp:xs.toList.Perm (arrOf st).toList):jw kd a₀ (setArr st xs):=⟨(Qa9.mpr hp).trans h.perm,h.kind,h.failed⟩
theorem lH {st:SortSt} {i j:Nat} {p q:Keyed} {Q:Option Bool->SortSt->Prop} (C:iY prog w A E s kd lt a₀) (hB:jw kd a₀ st) (hi:(arrOf st).toList[i]? =some p) (hj:(arrOf st).toList[j]? =some q) (h:Q (some (lt p q)) st):wpS (model prog w) A E s (ltAt' i j) Q st:=by
 rw[ltAt'_eq]
 refine wpS_bind (wpS_get ?_)
 have li:=(Xy.mp hi).1
 have lj:=(Xy.mp hj).1
 rw[Qaw]at li lj
 refine wpS_bind (bV (show i<(arrOf st).size from li) fun p' hp ep=>wpS_bind (bV (show j<(arrOf st).size from lj) fun q' hq eq=>?_))
 have e1:p'=p:=by rw[Qa2,ep]at hi;exact Qae hi
 have e2:q'=q:=by rw[Qa2,eq]at hj;exact Qae hj
 subst e1
 subst e2
 exact C _ _ _ _ hB.kind (hB.mem hp) (hB.mem hq) h
theorem xm {st:SortSt} {i pw Th:Nat} {pre x y post:List Keyed} {Q:Bool->SortSt->Prop} (L:fX lt) (C:iY prog w A E s kd lt a₀) (hB:jw kd a₀ st) (hi:(pendingOf st)[i]? =some (pre.length,x.length,pw)) (hj:(pendingOf st)[i+1]? =some (pre.length+x.length,y.length,Th))
  (ea:(arrOf st).toList=pre++x++y++post) (hx:x≠[]) (hy:y≠[]) (sx:cP lt x) (sy:cP lt y)
  (h: ∀aL z,jw kd a₀ aL->pendingOf aL=((pendingOf st).setIfInBounds i (pre.length,x.length+y.length,pw)).eraseIdxIfInBounds (i+1)->z.Perm (x++y)->cP lt z->(arrOf aL).toList=pre++z++post->Q true aL):wpS (model prog w) A E s (mergeAt' i) Q st:=by
 have hm: ∀p∈(arrOf st).toList,p∈a₀.toList:=fun p hp=>hB.mem hp
 have lx:=Qbq.mpr hx
 have ly:=Qbq.mpr hy
 have hz:(arrOf st).size=pre.length+x.length+y.length+post.length:=by rw[<-Qaw,ea];simp only[JQ]
 have Ti: ∀j,j<x.length->(arrOf st).toList[pre.length+j]? =x[j]?:= fun j hj=>by rw[ea,Xz,i3 hj]
 have Tj: ∀j,j<y.length->(arrOf st).toList[pre.length+x.length+j]? =y[j]?:= fun j hj=>by
  rw[ea, <-JQ,i3 hj]
 have dx:((arrOf st).toList.drop pre.length).take x.length=x:=by rw[ea,Xz,Xz,Qeg,List.take_left]
 have dy:((arrOf st).toList.drop (pre.length+x.length)).take y.length=y:=by rw[ea, <-JQ,Xz (pre++x),Qeg,List.take_left]
 have QQ:y[0]? =some y[0]:=Mn ly
 have wc:x[x.length - 1]? =some x[x.length - 1]:=Mn (by omega)
 refine wpS_bind (wpS_get ?_)
 simp only[hi,hj]
 refine wpS_bind (FG ?_)
 refine wpS_bind (bV (show pre.length+x.length<(arrOf st).size by omega) fun pb FI eb=>wpS_bind (lF C hB.kind (hm _ FI) hm (show pre.length+x.length<=(arrOf st).size by omega) (show 0<x.length by omega) (mono_right L pb (show pre.length+x.length<=(arrOf st).size by omega) (by rw[dx];exact sx)) fun k hk y1 y2=>?_))
 have Mo:k<=x.length:=hk
 have epb:pb=y[0]:=by
  have:=Tj 0 ly
  rw[Qdk,Qa2,eb,QQ]at this
  exact Qae this
 subst epb
 have b1: ∀e∈x.take k,lt y[0] e=false:=fun e he=>by
  obtain ⟨j,hj,ej⟩:=gM he
  rw[Qcn]at ej
  have:=y1 j hj
  rw[dR (x:=e) (by rw[Ti j (by omega)];exact ej)]at this
  simpa using this
 have b2: ∀e∈x.drop k,lt e y[0]=false:=fun e he=>by
  obtain ⟨j,ej⟩:=kl he
  have bW:=(Xy.mp ej).1
  have:=(show ∀i,k<=i->i<x.length->bS lt false y[0] (arrOf st) pre.length i=false from y2) (k+j) (by omega) bW
  rw[dR (x:=e) (by rw[Ti _ bW];exact ej)]at this
  exact L.jU _ _ (by simpa using this)
 refine aA (fun g=>?_) (fun g=>?_)
 ·have g':x.length - k=0:=by simpa using g
  have ek:k=x.length:=by omega
  rw[ek,Qbh]at b1
  exact wpS_pure (h _ (x++y) ⟨hB.perm,hB.kind,hB.failed⟩ rfl (Qcq _) (ja sx sy fun e he f hf=>yY L sy QQ (b1 e he) f hf) (by rw[<-Xz];exact ea))
 have g': ¬x.length - k=0:=fun e=>g (by simpa using e)
 refine wpS_bind (bV (show pre.length+k+(x.length - k) - 1<(arrOf st).size by omega) fun pa N9 ep=>wpS_bind (lF C hB.kind (hm _ N9) hm (show pre.length+x.length+y.length<=(arrOf st).size by omega) (show y.length - 1<y.length by omega) (mono_left L pa (show pre.length+x.length+y.length<=(arrOf st).size by omega) (by rw[dy];exact sy)) fun m Ms y3 y4=>?_))
 have HQ:m<=y.length:=Ms
 have epa:pa=x[x.length - 1]:=by
  have:=Ti (x.length - 1) (by omega)
  rw[Qa2,show pre.length+(x.length - 1)=pre.length+k+(x.length - k) - 1 by omega,wc]at this
  rw[ep]at this
  exact Qae this
 subst epa
 have c1: ∀e∈y.take m,lt x[x.length - 1] e=false:=fun e he=>by
  obtain ⟨j,hj,ej⟩:=gM he
  rw[Qcn]at ej
  have:=y3 j hj
  rw[e_ (x:=e) (by rw[Tj j (by omega)];exact ej)]at this
  exact L.jU _ _ this
 have c2: ∀e∈y.drop m,lt e x[x.length - 1]=false:=fun e he=>by
  obtain ⟨j,ej⟩:=kl he
  have bW:=(Xy.mp ej).1
  have:=(show ∀i,m<=i->i<y.length->bS lt true x[x.length - 1] (arrOf st) (pre.length+x.length) i=false from y4) (m+j) (by omega) bW
  rw[e_ (x:=e) (by rw[Tj _ bW];exact ej)]at this
  exact this
 refine aA (fun g2=>?_) (fun g2=>?_)
 ·have g3:m=0:=by simpa using g2
  rw[g3,Qbz]at c2
  exact wpS_pure (h _ (x++y) ⟨hB.perm,hB.kind,hB.failed⟩ rfl (Qcq _) (ja sx sy fun e he f hf=>le_last L sx wc (c2 f hf) e he) (by rw[<-Xz];exact ea))
 have g3: ¬m=0:=fun e=>g2 (by simpa using e)
 have ex:((arrOf st).extract (pre.length+k) (pre.length+x.length)).toList=x.drop k:=by
  rw[aM,ea,Xz,Xz,Qe0,Qbt (by omega),Qcl,Qbc,Qc3 Mo,Qbm (by rw[Qat];omega),Qao (by rw[Qat];omega)]
 have ey:((arrOf st).extract (pre.length+x.length) (pre.length+x.length+m)).toList=y.take m:=by
  rw[aM,ea, <-JQ,Xz (pre++x),Qeg,Qbc,Qbm HQ]
 have XZ:cP lt (x.drop k):=sx.sublist (List.drop_sublist _ _)
 have sym:cP lt (y.take m):=sy.sublist (Qeq _ _)
 have sX:((arrOf st).extract (pre.length+k) (pre.length+x.length)).size=x.length - k:=by rw[<-Qaw,ex,Qat]
 have sY:((arrOf st).extract (pre.length+x.length) (pre.length+x.length+m)).size=m:=by rw[<-Qaw,ey,Qab];omega
 have mx: ∀p∈((arrOf st).extract (pre.length+k) (pre.length+x.length)).toList,p∈a₀.toList:=fun p hp=>hm p (by rw[aM]at hp;exact Qbg (Qba hp))
 have my: ∀p∈((arrOf st).extract (pre.length+x.length) (pre.length+x.length+m)).toList,p∈a₀.toList:=fun p hp=>hm p (by rw[aM]at hp;exact Qbg (Qba hp))
 have hf: ∀e∈((arrOf st).extract (pre.length+k) (pre.length+x.length)).toList, ∀q,((arrOf st).extract (pre.length+x.length) (pre.length+x.length+m))[0]? =some q->lt e q=false:=fun e he q hq=>by
  rw[ex]at he
  rw[<-Qa2,ey,Qav (by omega),QQ]at hq
  rw[<-Qae hq]
  exact b2 e he
 have hl: ∀z,((arrOf st).extract (pre.length+k) (pre.length+x.length))[((arrOf st).extract (pre.length+k) (pre.length+x.length)).size - 1]? =some z-> ∀e∈((arrOf st).extract (pre.length+x.length) (pre.length+x.length+m)).toList,lt z e=false:=fun z C2 e he=>by
  rw[ey]at he
  rw[<-Qa2,ex,sX,Qbp,show k+(x.length - k - 1)=x.length - 1 by omega,wc]at C2
  rw[<-Qae C2]
  exact c1 e he
 have ef:(failedOf st).isNone=true:=by rw[hB.failed];rfl
 have Oe: ∀(out:Array Keyed) (g:Nat),il lt ((arrOf st).extract (pre.length+k) (pre.length+x.length)) ((arrOf st).extract (pre.length+x.length) (pre.length+x.length+m)) out->Q true (SortSt.mk' (kindOf st) (out.toList.zipIdx.foldl (fun a q=>match q with | (p,j)=>a.setIfInBounds (pre.length+k+j) p) (arrOf st)) (((pendingOf st).setIfInBounds i (pre.length,x.length+y.length,pw)).eraseIdxIfInBounds (i+1)) g (failedOf st)):=fun out g ⟨hp,hs⟩=>by
  have lB:=hp
  rw[ex,ey]at lB
  have FJ:out.toList.length=x.length - k+m:=by rw[lB.length_eq,JQ,Qat,Qab];omega
  have el:=nY (pre.length+k) out.toList 0 (arrOf st) (by omega)
  rw[Qdk,FJ,show pre.length+k+(x.length - k+m)=pre.length+x.length+m by omega]at el
  have e1:(arrOf st).toList.take (pre.length+k)=pre++x.take k:=by
   rw[ea,Xz,Xz,List.take_append,Qao (by omega),Qbc,Qbm Mo]
  have e2:(arrOf st).toList.drop (pre.length+x.length+m)=y.drop m++post:=by
   rw[ea, <-JQ,Xz (pre++x),Qe0,Qbt (by omega),Qcl,Qbc,Qc3 HQ]
  rw[e1,e2]at el
  refine h _ (x.take k++out.toList++y.drop m) ⟨(Aj (arr:=arrOf st) (x:=pre.length+k) (y:=pre.length+x.length) (z:=pre.length+x.length+m) (by omega) (by omega) (by omega) hp).trans hB.perm,hB.kind,hB.failed⟩ rfl ?_ (Am L sx sy QQ wc b1 c2 lB hs) ?_
  ·refine ((Qbi _ lB).append_right _).trans ?_
   rw[<-Xz,Qan,Xz,Qan]
  ·refine el.trans ?_
   simp only[Xz]
 refine aA (fun _=>?_) (fun _=>?_)
 ·refine wpS_bind (K4 L C hB.kind mx my (show 1<=((arrOf st).extract (pre.length+k) (pre.length+x.length)).size by omega) (show 1<=((arrOf st).extract (pre.length+x.length) (pre.length+x.length+m)).size by omega) (by rw[ex];exact XZ) (by rw[ey];exact sym) hf hl fun out aL hg K6=>?_)
  obtain ⟨g0,rfl⟩:=hg
  refine wpS_bind (wpS_modify (wpS_bind (wpS_get (wpS_pure ?_))))
  show Q ((failedOf st).isNone) _
  rw[ef]
  exact Oe out g0 K6
 ·refine wpS_bind (K5 L C hB.kind mx my (show 1<=((arrOf st).extract (pre.length+k) (pre.length+x.length)).size by omega) (show 1<=((arrOf st).extract (pre.length+x.length) (pre.length+x.length+m)).size by omega) (by rw[ex];exact XZ) (by rw[ey];exact sym) hf hl fun out aL hg K6=>?_)
  obtain ⟨g0,rfl⟩:=hg
  refine wpS_bind (wpS_modify (wpS_bind (wpS_get (wpS_pure ?_))))
  show Q ((failedOf st).isNone) _
  rw[ef]
  exact Oe out g0 K6
theorem K7 {st:SortSt} {pre x rest:List Keyed} {n:Nat} {Q:Bool->SortSt->Prop} (L:fX lt) (C:iY prog w A E s kd lt a₀) (hB:jw kd a₀ st) (ea:(arrOf st).toList=pre++x++rest) (hx:x≠[]) (sx:cP lt x) (hn:n<=x.length+rest.length) (hxn:x.length<=n)
  (h: ∀aL z Of,jw kd a₀ aL->pendingOf aL=pendingOf st->(arrOf aL).toList=pre++z++Of->z.length=n->cP lt z->Q true aL):wpS (model prog w) A E s (binarySort' pre.length n x.length) Q st:=by
 have lx:=Qbq.mpr hx
 refine wpS_bind (wpS_mono (wpS_forRange (I:=fun k c aL=>c=(none,())/\jw kd a₀ aL/\pendingOf aL=pendingOf st/\ ∃z r,(arrOf aL).toList=pre++z++r/\z.length=k/\z.length+r.length=x.length+rest.length/\cP lt z) (Q:=fun c aL=>c=(none,())/\jw kd a₀ aL/\pendingOf aL=pendingOf st/\ ∃z r,(arrOf aL).toList=pre++z++r/\z.length=n/\cP lt z) ?_ ?_ ⟨rfl,hB,rfl,x,rest,ea,by omega,rfl,sx⟩) ?_)
 ·rintro k c dY hak hkn ⟨rfl,we,e1,z,r,ez,Og,Tn,sz⟩
  obtain ⟨q,r',rfl⟩: ∃q r',r=q::r':=by
   cases r with
   | nil=>simp at Tn;omega
   | cons q r'=>exact ⟨q,r',rfl⟩
  have atq:(arrOf dY).toList[pre.length+k]? =some q:=by
   rw[ez, <-Og, <-JQ,Qax (XA _),Qdi];rfl
  have atz: ∀j,j<k->(arrOf dY).toList[pre.length+j]? =z[j]?:= fun j hj=>by rw[ez,i3 (by omega)]
  refine wpS_bind (wpS_mono (wpS_forRange (I:=fun y c aL=>aL=dY/\ ∃l r,c=(none,l,r)/\l<=r/\r<=k/\r - l+y<=k/\(∀e∈z.take l,lt q e=false)/\(∀e∈z.drop r,lt e q=false)) (Q:=fun c aL=>aL=dY/\ ∃l r,c=(none,l,r)/\l<=k/\(∀e∈z.take l,lt q e=false)/\(∀e∈z.drop l,lt e q=false)) ?_ ?_ ⟨rfl,0,k,rfl,by omega,by omega,by omega,by simp,fun e he=>by rw[Qbt (by omega)]at he;cases he⟩) ?_)
  ·rintro y c gF _ hy ⟨rfl,l,r,rfl,b1,b2,b3,b4,b5⟩
   refine aA (fun g=>?_) (fun g=>?_)
   ·have g':l ≥ r:=g
    have:l=r:=by omega
    subst this
    exact wpS_pure ⟨rfl,l,l,rfl,b2,b4,b5⟩
   have g': ¬l ≥ r:=g
   have hm:(l+r) / 2<z.length:=by omega
   have em:=Mn hm
   refine wpS_bind (lH C we atq (show (arrOf gF).toList[pre.length+(l+r) / 2]? =some z[(l+r) / 2] by rw[atz _ (by omega)];exact em) ?_)
   cases e2:lt q z[(l+r) / 2] with
   | true=>exact wpS_pure ⟨rfl,l,(l+r) / 2,rfl,by omega,by omega,by omega,b4,gK L sz em (L.jU _ _ e2)⟩
   | false=>exact wpS_pure ⟨rfl,(l+r) / 2+1,r,rfl,by omega,b2,by omega,gL L sz em e2,b5⟩
  ·rintro c gF ⟨e,l,r,rfl,b1,b2,b3,b4,b5⟩
   have:l=r:=by omega
   subst this
   exact ⟨e,l,l,rfl,b2,b4,b5⟩
  ·rintro c gF ⟨rfl,l,r,rfl,b2,b4,b5⟩
   have eb:=C1 (l:=l) ez (by omega)
   rw[Og]at eb
   have hp:(bubble (arrOf gF) (pre.length+k) (pre.length+k - (pre.length+l))).toList.Perm (arrOf gF).toList:=Qa9.mp (bubble_perm _ _ _)
   refine wpS_bind (wpS_modify (wpS_pure ⟨rfl,we.set hp,e1,z.take l++q::z.drop l,r',eb,?_,?_,?_⟩))
   ·rw[JQ,Zy,Qab,Qat];omega
   ·rw[JQ,Zy,Qab,Qat]
    rw[Zy]at Tn
    omega
   ·have s1:cP lt (z.take l++z.drop l):=by rw[Qan];exact sz
    have:=fD (x:=z.take l) (c:=[q]) (y:=z.drop l) s1 (ja (gJ s1) (Qbn _ _) fun e he f hf=>by rw[QB.mp hf];exact b4 e he) fun e he f hf=>by rw[QB.mp he];exact b5 f hf
    rw[Xz]at this
    exact this
 ·rintro c dY ⟨e,we,e1,z,r,ez,Og,Tn,sz⟩
  exact ⟨e,we,e1,z,r,ez,by omega,sz⟩
 ·rintro c dY ⟨rfl,we,e1,z,r,ez,Og,sz⟩
  exact wpS_pure (h dY z r we e1 ez Og sz)
end
section
variable {prog:Program} {w:World} {A:Around} {E:Value->Shared->Prop} {s:Shared} {kd:SortKind} {lt:Keyed->Keyed->Bool} {a₀:Array Keyed}
theorem uO (L:fX lt) {l:List Keyed} {n:Nat} {p q:Keyed} (hs:cP lt (l.take n)) (h1:1<=n) (hp:l[n - 1]? =some p) (hq:l[n]? =some q) (hle:lt q p=false):cP lt (l.take (n+1)):=by
 rw[eR hq]
 have hn:=(Xy.mp hq).1
 refine ja hs (Qbn _ _) fun e he f hf=>?_
 rw[QB.mp hf]
 have hlen:(l.take n).length=n:=by rw[Qab];omega
 exact le_last L hs (by rw[hlen,Qav (by omega)];exact hp) hle e he
def An (lt:Keyed->Keyed->Bool) (l:List Keyed):Prop:=l.Pairwise fun p q=>lt p q=false
theorem FK {l:List Keyed} (h:An lt l):cP lt l.reverse:=List.pairwise_reverse.mpr h
theorem n_ (L:fX lt) {l:List Keyed} {n:Nat} {p q:Keyed} (hs:An lt (l.take n)) (h1:1<=n) (hp:l[n - 1]? =some p) (hq:l[n]? =some q) (hle:lt p q=false):An lt (l.take (n+1)):=by
 rw[eR hq]
 have hn:=(Xy.mp hq).1
 refine Qa8.mpr ⟨hs,Qbn _ _,fun e he f hf=>?_⟩
 rw[QB.mp hf]
 obtain ⟨j,hj⟩:=Qch he
 have hj1:=(Xy.mp hj).1
 have hlen:(l.take n).length=n:=by rw[Qab];omega
 rcases Nat.lt_or_ge j (n - 1) with g | g
 ·have Ep:(l.take n)[n - 1]? =some p:=by rw[Qav (by omega)];exact hp
  have h2:=Xy.mp hj
  have h3:=Xy.mp Ep
  have:=(Qdw.mp hs) j (n - 1) h2.1 h3.1 g
  rw[h2.2,h3.2]at this
  exact L.tr q p e hle this
 ·have:j=n - 1:=by omega
  subst this
  rw[Qav (by omega),hp]at hj
  cases hj
  exact hle
theorem Oh {P X:SortSt->Prop} {G:Prop} (f:(∀st,P st->X st)->G) (x: ∀st,P st->X st):G:=f x
def Er (lt:Keyed->Keyed->Bool) (l:List Keyed):Prop:= ∀p∈l, ∀q∈l,lt p q=false
theorem Er.X3 {l:List Keyed} (h:Er lt l):An lt l:=Qdw.mpr fun i j hi hj _=>h _ (Qa4 hi) _ (Qa4 hj)
theorem C3 {u v:List Keyed} (h:An lt (u++v)) (hv:Er lt v):An lt (u++v.reverse):=by
 obtain ⟨h1,_,h3⟩:=Qa8.mp h
 exact Qa8.mpr ⟨h1,Er.X3 fun p hp q hq=>hv p (Qc0.mp hp) q (Qc0.mp hq),fun e he f hf=>h3 e he f (Qc0.mp hf)⟩
theorem fX.En (L:fX lt) (p:Keyed):lt p p=false:=by
 cases h:lt p p with
 | false=>rfl
 | true=>rw[L.jU _ _ h]at h;cases h
theorem rev_last {st:SortSt} {pre R:List Keyed} {x n:Nat} (ea:(arrOf st).toList=pre++R) (hx:x<=R.length) (hn:n<=x) (d:An lt (R.take x)) (al:Er lt ((R.take x).drop (x - n))):
  ∃R',(mirror (arrOf st) (pre.length+x - n) (pre.length+x) ((pre.length+x - (pre.length+x - n)) / 2)).toList=pre++R'/\R'.length=R.length/\An lt (R'.take x)/\(∀j,x<=j->R'[j]? =R[j]?)/\ ∀p∈R'.take x,p∈R.take x:=by
 have uP:(R.take x).length=x:=by rw[Qab];omega
 have hu:((R.take x).take (x - n)).length=x - n:=by rw[Qab,uP];omega
 have hv:((R.take x).drop (x - n)).length=n:=by rw[Qat,uP];omega
 have e0:(arrOf st).toList=(pre++(R.take x).take (x - n))++(R.take x).drop (x - n)++R.drop x:=by
  rw[Xz pre,Qan,Xz,Qan];exact ea
 have er:=nZ e0
 rw[JQ,hu,hv,show pre.length+(x - n)=pre.length+x - n by omega,show pre.length+x - n+n=pre.length+x by omega]at er
 refine ⟨(R.take x).take (x - n)++((R.take x).drop (x - n)).reverse++R.drop x,by rw[er];simp only[Xz],?_,?_,fun j hj=>?_,fun p hp=>?_⟩
 ·rw[JQ,JQ,Qbf,hu,hv,Qat];omega
 ·rw[Qbm (by rw[JQ,Qbf,hu,hv];omega),Qao (by rw[JQ,Qbf,hu,hv];omega)]
  exact C3 (by rw[Qan];exact d) al
 ·rw[Qax (by rw[JQ,Qbf,hu,hv];omega),JQ,Qbf,hu,hv,Qbp]
  congr 1
  omega
 ·rw[Qbm (by rw[JQ,Qbf,hu,hv];omega)]at hp
  have ij:=Qba hp
  rcases Qaa.mp ij with g | g
  ·exact Qba g
  ·exact Qbg (Qc0.mp g)
theorem K8 {st:SortSt} {pre rest:List Keyed} {Q:Option Nat->SortSt->Prop} (L:fX lt) (C:iY prog w A E s kd lt a₀) (hB:jw kd a₀ st) (ea:(arrOf st).toList=pre++rest) (h1:1<=rest.length)
  (h: ∀m aL x r,jw kd a₀ aL->pendingOf aL=pendingOf st->(arrOf aL).toList=pre++x++r->x.length=m->1<=m->x.length+r.length=rest.length->cP lt x->Q (some m) aL):wpS (model prog w) A E s (countRun' pre.length rest.length) Q st:=by
 have at_: ∀j,(arrOf st).toList[pre.length+j]? =rest[j]?:= fun j=>by rw[ea,su]
 have fin: ∀n,1<=n->n<=rest.length->cP lt (rest.take n)->Q (some n) st:=fun n g1 g2 g3=>h n st (rest.take n) (rest.drop n) hB rfl (by rw[Xz,Qan];exact ea) (by rw[Qab];omega) g1 (by rw[Qab,Qat];omega) g3
 refine wpS_bind (wpS_mono (wpS_forRange (I:=fun x c aL=>aL=st/\c=(none,x)/\cP lt (rest.take x)) (Q:=fun c aL=>aL=st/\ ∃n,c=(none,n)/\1<=n/\n<=rest.length/\cP lt (rest.take n)/\(n=rest.length\/ ∃p q,rest[n - 1]? =some p/\rest[n]? =some q/\lt q p=true)) ?_ ?_ ⟨rfl,rfl,?_⟩) ?_)
 ·rintro x c dY QR hx ⟨rfl,rfl,sx⟩
  have e1:rest[x - 1]? =some rest[x - 1]:=Mn (by omega)
  have e2:rest[x]? =some rest[x]:=Mn hx
  refine wpS_bind (lH C hB (show (arrOf dY).toList[pre.length+x]? =some rest[x] by rw[at_];exact e2) (show (arrOf dY).toList[pre.length+x - 1]? =some rest[x - 1] by rw[show pre.length+x - 1=pre.length+(x - 1) by omega,at_];exact e1) ?_)
  cases e3:lt rest[x] rest[x - 1] with
  | true=>exact wpS_pure ⟨rfl,x,rfl,QR,by omega,sx, .inr ⟨_,_,e1,e2,e3⟩⟩
  | false=>exact wpS_pure ⟨rfl,rfl,uO L sx QR e1 e2 e3⟩
 ·rintro c dY ⟨e,rfl,sx⟩
  have em:max 1 rest.length=rest.length:=by omega
  rw[em]at sx
  exact ⟨e,max 1 rest.length,rfl,by omega,by omega,by rw[em];exact sx, .inl em⟩
 ·rw[show rest.take 1=[rest[0]] by
   cases rest with
   | nil=>simp at h1
   | cons a r=>rfl]
  exact Qbn _ _
 ·rintro c dY ⟨rfl,n,rfl,X4,Mm,sn,Mt⟩
  refine aA (fun g=>wpS_pure (fin n X4 Mm sn)) (fun g=>?_)
  have g': ¬n=rest.length:=fun e=>g (by simpa using e)
  obtain ⟨p,q,ep,eq,elt⟩:=Mt.resolve_left g'
  have e0:rest[0]? =some rest[0]:=Mn (by omega)
  have QS:(rest.take n).length=n:=by rw[Qab];omega
  apply Oh (P:=fun aL=> ∃R,jw kd a₀ aL/\pendingOf aL=pendingOf dY/\(arrOf aL).toList=pre++R/\R.length=rest.length/\An lt (R.take (n+1)))
  ·intro key
   refine aA (fun g2=>wpS_bind (lH C hB (show (arrOf dY).toList[pre.length]? =some rest[0] by have:=at_ 0;rw[Qdk]at this;rw[this];exact e0) (show (arrOf dY).toList[pre.length+n - 1]? =some p by rw[show pre.length+n - 1=pre.length+(n - 1) by omega,at_];exact ep) ?_)) (fun g2=>?_)
   ·have N8:n>1:=g2
    cases z:lt rest[0] p with
    | true=>exact aA (fun _=>wpS_pure (fin n X4 Mm sn)) (fun z=>absurd rfl z)
    | false=>
     refine aA (fun z=>absurd z Qaj) (fun _=>?_)
     have low: ∀e∈rest.take n,lt e rest[0]=false:=fun e he=>by
      obtain ⟨j,hj⟩:=Qch he
      rcases Nat.eq_zero_or_pos j with z0 | z0
      ·subst z0
       rw[Qav (by omega),e0]at hj
       cases hj
       exact L.En _
      ·exact xk sn (i:=0) (j:=j) z0 (by rw[Qav (by omega)];exact e0) hj
     have high: ∀e∈rest.take n,lt p e=false:=fun e he=>by
      obtain ⟨j,hj⟩:=Qch he
      have hjn:=(Xy.mp hj).1
      rw[QS]at hjn
      rcases Nat.lt_or_ge j (n - 1) with z1 | z1
      ·exact xk sn (i:=j) (j:=n - 1) z1 hj (by rw[Qav (by omega)];exact ep)
      ·have:j=n - 1:=by omega
       subst this
       rw[Qav (by omega),ep]at hj
       cases hj
       exact L.En _
     have al:Er lt (rest.take n):=fun e he f hf=>L.tr f rest[0] e (L.tr f p rest[0] (high f hf) z) (low e he)
     have er:(mirror (arrOf dY) pre.length (pre.length+n) ((pre.length+n - pre.length) / 2)).toList=pre++(rest.take n).reverse++rest.drop n:=by
      have:=nZ (arr:=arrOf dY) (pre:=pre) (x:=rest.take n) (post:=rest.drop n) (by rw[Xz,Qan];exact ea)
      rw[QS]at this
      exact this
     have hp:(mirror (arrOf dY) pre.length (pre.length+n) ((pre.length+n - pre.length) / 2)).toList.Perm (arrOf dY).toList:=Qa9.mp (mirror_perm _ _ _ _)
     refine wpS_bind (wpS_reverse ?_)
     have K9:=hB.set hp
     generalize e7:setArr dY (mirror (arrOf dY) pre.length (pre.length+n) ((pre.length+n - pre.length) / 2))=gF at K9
     have To:(arrOf gF).toList=pre++((rest.take n).reverse++rest.drop n):=by rw[<-e7, <-Xz];exact er
     have Tp:pendingOf gF=pendingOf dY:=by rw[<-e7]
     refine key gF ⟨_,K9,Tp,To,by rw[JQ,Qbf,QS,Qat];omega,?_⟩
     have Mu:(rest.take n).reverse.length=n:=by rw[Qbf];exact QS
     have t1:((rest.take n).reverse++rest.drop n).take (n+1)=(rest.take n).reverse++[q]:=by
      rw[List.take_append,Qao (by omega),Mu,show n+1 - n=1 by omega]
      congr 1
      have:(rest.drop n)[0]? =some q:=by rw[Qbp];exact eq
      cases hd:rest.drop n with
      | nil=>rw[hd]at this;cases this
      | cons a r=>rw[hd]at this;cases this;rfl
     rw[t1]
     refine Qa8.mpr ⟨Er.X3 fun e he f hf=>al e (Qc0.mp he) f (Qc0.mp hf),Qbn _ _,fun e he f hf=>?_⟩
     rw[QB.mp hf]
     exact L.tr q rest[0] e (L.tr q p rest[0] (L.jU _ _ elt) z) (low e (Qc0.mp he))
   ·have N8: ¬n>1:=g2
    refine key dY ⟨rest,hB,rfl,ea,rfl,?_⟩
    have en:n=1:=by omega
    subst en
    have d1:An lt (rest.take 1):=by
     rw[show rest.take 1=[rest[0]] by
      cases rest with
      | nil=>simp at h1
      | cons a r=>rfl]
     exact Qbn _ _
    exact n_ L d1 (XA _) ep eq (L.jU _ _ elt)
  ·rintro gF ⟨R2,K9,Tp,To,l2,d2⟩
   refine wpS_bind (wpS_lift (wpAny_rule ⟨rfl,?_⟩))
   have one: ∀{R:List Keyed} {x:Nat},x<R.length->Er lt ((R.take (x+1)).drop (x+1 - (0+1))):=fun {R x} hx p hp q hq=>by
    have e:(R.take (x+1)).drop (x+1 - (0+1))=[R[x]]:=by
     rw[eR (Mn hx),show x+1 - (0+1)=(R.take x).length by rw[Qab];omega,Qeg]
    rw[e]at hp hq
    rw[QB.mp hp,QB.mp hq]
    exact L.En _
   refine wpS_bind (wpS_mono (wpS_forRange (I:=fun x c aL=> ∃R lI,c=(none,x,lI)/\jw kd a₀ aL/\pendingOf aL=pendingOf dY/\(arrOf aL).toList=pre++R/\R.length=rest.length/\An lt (R.take x)/\lI+1<=x/\Er lt ((R.take x).drop (x - (lI+1))))
    (Q:=fun c aL=> ∃R m lI,c=(none,m,lI)/\jw kd a₀ aL/\pendingOf aL=pendingOf dY/\(arrOf aL).toList=pre++R/\R.length=rest.length/\n+1<=m/\m<=rest.length/\An lt (R.take m)/\lI+1<=m/\Er lt ((R.take m).drop (m - (lI+1)))) ?_ ?_ ⟨R2,0,rfl,K9,Tp,To,l2,d2,by omega,one (by omega)⟩) ?_)
   ·rintro x c nO hax hx ⟨R,lI,rfl,uQ,C4,Es,l4,dx,Et,al⟩
    have Tq:n+1<=x:=hax
    have wc:x<R.length:=by omega
    have X5: ∀j,(arrOf nO).toList[pre.length+j]? =R[j]?:= fun j=>by rw[Es,su]
    have e1:R[x - 1]? =some (R[x - 1]'(by omega)):=Mn (by omega)
    have e2:R[x]? =some R[x]:=Mn wc
    have a1:(arrOf nO).toList[pre.length+x]? =some R[x]:=by rw[X5];exact e2
    have a2:(arrOf nO).toList[pre.length+x - 1]? =some (R[x - 1]'(by omega)):=by rw[show pre.length+x - 1=pre.length+(x - 1) by omega,X5];exact e1
    refine wpS_bind (lH C uQ a1 a2 ?_)
    cases e3:lt R[x] (R[x - 1]'(by omega)) with
    | true=>
     have dn:=n_ L dx (by omega) e1 e2 (L.jU _ _ e3)
     refine aA (fun _=>?_) (fun z=>absurd rfl z)
     refine aA (fun z=>?_) (fun _=>wpS_pure ⟨R,0,rfl,uQ,C4,Es,l4,dn,by omega,one wc⟩)
     obtain ⟨R',er,lr,dr,ar,mr⟩:=rev_last (st:=nO) Es (by omega) Et dx al
     have hp:(mirror (arrOf nO) (pre.length+x - (lI+1)) (pre.length+x) ((pre.length+x - (pre.length+x - (lI+1))) / 2)).toList.Perm (arrOf nO).toList:=Qa9.mp (mirror_perm _ _ _ _)
     refine wpS_bind (wpS_reverse (wpS_pure ?_))
     have Tr:x<R'.length:=by omega
     refine ⟨R',0,rfl,uQ.set hp,C4,er,by omega,?_,by omega,one Tr⟩
     rw[eR (show R'[x]? =some R[x] by rw[ar x (XA _)];exact e2)]
     refine Qa8.mpr ⟨dr,Qbn _ _,fun e he f hf=>?_⟩
     rw[QB.mp hf]
     rw[eR e2]at dn
     exact (Qa8.mp dn).2.2 e (mr e he) _ (QB.mpr rfl)
    | false=>
     refine aA (fun z=>absurd z Qaj) (fun _=>?_)
     refine wpS_bind (lH C uQ a2 a1 ?_)
     cases e4:lt (R[x - 1]'(by omega)) R[x] with
     | true=>exact aA (fun _=>wpS_pure ⟨R,x,lI,rfl,uQ,C4,Es,l4,Tq,by omega,dx,Et,al⟩) (fun z=>absurd rfl z)
     | false=>
      refine aA (fun z=>absurd z Qaj) (fun _=>wpS_pure ⟨R,lI+1,rfl,uQ,C4,Es,l4,n_ L dx (by omega) e1 e2 e4,by omega,?_⟩)
      have hl:(R.take x).length=x:=by rw[Qab];omega
      have et:(R.take (x+1)).drop (x+1 - (lI+1+1))=(R.take x).drop (x - (lI+1))++[R[x]]:=by
       rw[eR e2,show x+1 - (lI+1+1)=x - (lI+1) by omega,Qc3 (by omega)]
      have HS:(R[x - 1]'(by omega))∈(R.take x).drop (x - (lI+1)):=by
       refine Qay (i:=lI) ?_
       rw[Qbp,Qav (by omega),show x - (lI+1)+lI=x - 1 by omega]
       exact e1
      rw[et]
      intro e he f hf
      rcases Qaa.mp he with ge | ge
      ·rcases Qaa.mp hf with gf | gf
       ·exact al e ge f gf
       ·rw[QB.mp gf]
        exact L.tr _ _ _ e4 (al e ge _ HS)
      ·rw[QB.mp ge]
       rcases Qaa.mp hf with gf | gf
       ·exact L.tr _ _ _ (al _ HS f gf) e3
       ·rw[QB.mp gf];exact L.En _
   ·rintro c nO ⟨R,lI,rfl,uQ,C4,Es,l4,dx,Et,al⟩
    have em:max (n+1) rest.length=rest.length:=by omega
    exact ⟨R,max (n+1) rest.length,lI,rfl,uQ,C4,Es,l4,by omega,by omega,dx,Et,al⟩
   ·rintro c nO ⟨R,m,lI,rfl,uQ,C4,Es,l4,QM,HQ,dm,Et,al⟩
    apply Oh (P:=fun aL=> ∃R,jw kd a₀ aL/\pendingOf aL=pendingOf dY/\(arrOf aL).toList=pre++R/\R.length=rest.length/\An lt (R.take m))
    ·intro key
     refine aA (fun z=>?_) (fun _=>key nO ⟨R,uQ,C4,Es,l4,dm⟩)
     obtain ⟨R',er,lr,dr,_,_⟩:=rev_last (st:=nO) Es (by omega) Et dm al
     have hp:(mirror (arrOf nO) (pre.length+m - (lI+1)) (pre.length+m) ((pre.length+m - (pre.length+m - (lI+1))) / 2)).toList.Perm (arrOf nO).toList:=Qa9.mp (mirror_perm _ _ _ _)
     refine wpS_bind (wpS_reverse ?_)
     have mh:=uQ.set hp
     generalize e7:setArr nO (mirror (arrOf nO) (pre.length+m - (lI+1)) (pre.length+m) ((pre.length+m - (pre.length+m - (lI+1))) / 2))=jA at mh
     exact key jA ⟨R',mh,by rw[<-e7];exact C4,by rw[<-e7];exact er,by omega,dr⟩
    ·rintro nO ⟨gN,hB,C4,ea,l4,dm⟩
     have hlm:(gN.take m).length=m:=by rw[Qab];omega
     have er:(mirror (arrOf nO) pre.length (pre.length+m) ((pre.length+m - pre.length) / 2)).toList=pre++(gN.take m).reverse++gN.drop m:=by
      have:=nZ (arr:=arrOf nO) (pre:=pre) (x:=gN.take m) (post:=gN.drop m) (by rw[Xz,Qan];exact ea)
      rw[hlm]at this
      exact this
     have hp:(mirror (arrOf nO) pre.length (pre.length+m) ((pre.length+m - pre.length) / 2)).toList.Perm (arrOf nO).toList:=Qa9.mp (mirror_perm _ _ _ _)
     refine wpS_bind (wpS_reverse ?_)
     have Ts:=hB.set hp
     generalize e7:setArr nO (mirror (arrOf nO) pre.length (pre.length+m) ((pre.length+m - pre.length) / 2))=Oi at Ts
     have Tt:(arrOf Oi).toList=pre++((gN.take m).reverse++gN.drop m):=by rw[<-e7, <-Xz];exact er
     have ep7:pendingOf Oi=pendingOf dY:=by rw[<-e7];exact C4
     have s7:cP lt (((gN.take m).reverse++gN.drop m).take m):=by
      rw[Qbm (by rw[Qbf];omega),Qao (by rw[Qbf];omega)]
      exact FK dm
     have l7:((gN.take m).reverse++gN.drop m).length=rest.length:=by rw[JQ,Qbf,Qab,Qat];omega
     generalize (gN.take m).reverse++gN.drop m=R at Tt s7 l7
     have X6: ∀j,(arrOf Oi).toList[pre.length+j]? =R[j]?:= fun j=>by rw[Tt,su]
     refine wpS_bind (wpS_mono (wpS_forRange (I:=fun x c aL=>aL=Oi/\c=(none,x)/\cP lt (R.take x)) (Q:=fun c aL=>aL=Oi/\ ∃k,c=(none,k)/\1<=k/\k<=rest.length/\cP lt (R.take k)) ?_ ?_ ⟨rfl,rfl,s7⟩) ?_)
     ·rintro x c Oj QR hx ⟨rfl,rfl,sx⟩
      have aad:m<=x:=QR
      have e1:R[x - 1]? =some (R[x - 1]'(by omega)):=Mn (by omega)
      have e2:R[x]? =some (R[x]'(by omega)):=Mn (by omega)
      refine wpS_bind (lH C Ts (show (arrOf Oj).toList[pre.length+x]? =some (R[x]'(by omega)) by rw[X6];exact e2) (show (arrOf Oj).toList[pre.length+x - 1]? =some (R[x - 1]'(by omega)) by rw[show pre.length+x - 1=pre.length+(x - 1) by omega,X6];exact e1) ?_)
      cases e3:lt (R[x]'(by omega)) (R[x - 1]'(by omega)) with
      | true=>exact wpS_pure ⟨rfl,x,rfl,by omega,by omega,sx⟩
      | false=>exact wpS_pure ⟨rfl,rfl,uO L sx (by omega) e1 e2 e3⟩
     ·rintro c Oj ⟨e,rfl,sx⟩
      exact ⟨e,max m rest.length,rfl,by omega,by omega,sx⟩
     ·rintro c Oj ⟨rfl,k,rfl,CW,tT,sk⟩
      exact wpS_pure (h k Oj (R.take k) (R.drop k) Ts ep7 (by rw[Xz,Qan];exact Tt) (by rw[Qab];omega) CW (by rw[Qab,Qat];omega) sk)
end
end L2
set_option maxHeartbeats 1000000
namespace L2
open PySem PySem.Spec PyProof.Rows
noncomputable def spans:Nat->List (List Keyed)->List (Nat×Nat)
 | _,[]=>[]
 | a,l::r=>(a,l.length)::spans (a+l.length) r
theorem jb: ∀(b1 b2:List (List Keyed)) (a:Nat),spans a (b1++b2)=spans a b1++spans (a+b1.flatten.length) b2
 | [],b2,a=>by simp[spans]
 | l::b1,b2,a=>by
  show (a,l.length)::spans (a+l.length) (b1++b2)=(a,l.length)::(spans (a+l.length) b1++spans (a+(l++b1.flatten).length) b2)
  rw[jb b1 b2,JQ,Qej]
theorem lJ: ∀(bl:List (List Keyed)) (a:Nat),(spans a bl).length=bl.length
 | [],a=>rfl
 | l::r,a=>by show (spans (a+l.length) r).length+1=r.length+1;rw[lJ r]
structure tW (lt:Keyed->Keyed->Bool) (st:SortSt) (bl:List (List Keyed)) (rest:List Keyed):Prop where
 arr:(arrOf st).toList=bl.flatten++rest
 FL:cp (pendingOf st)=spans 0 bl
 ok: ∀l∈bl,l≠[]/\cP lt l
theorem yZ {P:Array (Nat×Nat×Nat)} {i:Nat} (pw:Nat):cp (P.modify i fun x=>match x with | (st,len,_)=>(st,len,pw))=cp P:=by
 unfold cp
 refine Qet fun j=>?_
 rw[Qau,Qau,Qa2,Qa2,Array.getElem?_modify]
 by_cases z:i=j
 ·rw[if_pos z]
  cases P[j]?<;> rfl
 ·rw[if_neg z]
theorem tW.HU {lt:Keyed->Keyed->Bool} {st:SortSt} {bl:List (List Keyed)} {rest:List Keyed} (h:tW lt st bl rest):(pendingOf st).size=bl.length:=by
 have:=congrArg List.length h.FL
 unfold cp at this
 rw[kb,Qaw,lJ]at this
 exact this
theorem tW.iT {lt:Keyed->Keyed->Bool} {st:SortSt} {bl:List (List Keyed)} {rest:List Keyed} (h:tW lt st bl rest):bl.length<=bl.flatten.length:=by
 have key: ∀bl:List (List Keyed),(∀l∈bl,l≠[])->bl.length<=bl.flatten.length:=by
  intro bl
  induction bl with
  | nil=>intro _;exact XA _
  | cons l r ih=>
   intro hn
   have h1:=Qbq.mpr (hn l ZC)
   have h2:=ih fun l hl=>hn l (Zz _ hl)
   rw[Qcw,JQ,Zy]
   omega
 exact key bl fun l hl=>(h.ok l hl).1
section
variable {prog:Program} {w:World} {A:Around} {E:Value->Shared->Prop} {s:Shared} {kd:SortKind} {lt:Keyed->Keyed->Bool} {a₀:Array Keyed}
theorem xn {st:SortSt} {i:Nat} {bl:List (List Keyed)} {rest:List Keyed} {Q:Bool->SortSt->Prop} (L:fX lt) (C:iY prog w A E s kd lt a₀) (hB:jw kd a₀ st) (hb:tW lt st bl rest) (hi:i+1<(pendingOf st).size)
  (h: ∀aL sL,jw kd a₀ aL->tW lt aL sL rest->sL.flatten.length=bl.flatten.length->sL.length+1=bl.length->Q true aL):wpS (model prog w) A E s (mergeAt' i) Q st:=by
 have kL:=hb.HU
 have ex:bl[i]? =some (bl[i]'(by omega)):=Mn _
 have ey:bl[i+1]? =some (bl[i+1]'(by omega)):=Mn _
 generalize hx:(bl[i]'(by omega))=x at ex
 generalize hy:(bl[i+1]'(by omega))=y at ey
 have e0:=KW ex ey
 have l1:(bl.take i).length=i:=by rw[Qab];omega
 generalize bl.take i=b1 at e0 l1
 generalize bl.drop (i+2)=b2 at e0
 subst e0
 obtain ⟨⟨sa,na,pw⟩,q1⟩: ∃v,(pendingOf st)[i]? =some v:=⟨_,getElem?_pos (pendingOf st) i (by omega)⟩
 obtain ⟨⟨sb,nb,Th⟩,q2⟩: ∃v,(pendingOf st)[i+1]? =some v:=⟨_,getElem?_pos (pendingOf st) (i+1) hi⟩
 have p1:(pendingOf st).toList[i]? =some (sa,na,pw):=by simpa using q1
 have p2:(pendingOf st).toList[i+1]? =some (sb,nb,Th):=by simpa using q2
 have sp:spans 0 (b1++x::y::b2)=spans 0 b1++(b1.flatten.length,x.length)::(b1.flatten.length+x.length,y.length)::spans (b1.flatten.length+x.length+y.length) b2:=by rw[jb,Qcn];rfl
 have ls:(spans 0 b1).length=i:=by rw[lJ];exact l1
 have c1:(cp (pendingOf st))[i]? =some (sa,na):=by unfold cp;rw[Qau,p1];rfl
 have c2:(cp (pendingOf st))[i+1]? =some (sb,nb):=by unfold cp;rw[Qau,p2];rfl
 rw[hb.FL,sp]at c1 c2
 rw[Qax (by omega),ls,Qdi]at c1
 rw[Qax (by omega),ls,Qbc]at c2
 have d1:b1.flatten.length=sa/\x.length=na:=by cases c1;exact ⟨rfl,rfl⟩
 have d2:b1.flatten.length+x.length=sb/\y.length=nb:=by cases c2;exact ⟨rfl,rfl⟩
 rw[<-d1.1, <-d1.2]at q1
 rw[<-d2.1, <-d2.2]at q2
 have Tu:=hb.ok x (by simp)
 have X7:=hb.ok y (by simp)
 refine xm (pre:=b1.flatten) (x:=x) (y:=y) (post:=b2.flatten++rest) L C hB q1 q2 (by rw[hb.arr];simp) Tu.1 X7.1 Tu.2 X7.2 fun aL z hB' ep pz sz ea=>?_
 have lz:z.length=x.length+y.length:=by rw[pz.length_eq,JQ]
 refine h aL (b1++z::b2) hB' ⟨by rw[ea];simp,?_,fun l hl=>?_⟩ (by simp[lz];omega) (by simp;omega)
 ·unfold cp
  rw[ep,Array.toList_eraseIdxIfInBounds,Array.toList_setIfInBounds,FH p1 p2,Qar,ZD]
  have t1:(cp (pendingOf st)).take i=spans 0 b1:=by rw[hb.FL,sp,Qbm (by omega),Qao (by omega)]
  have t2:(cp (pendingOf st)).drop (i+2)=spans (b1.flatten.length+x.length+y.length) b2:=by
   rw[hb.FL,sp,Qe0,Qbt (by omega),Qcl,ls,show i+2 - i=2 by omega];rfl
  unfold cp at t1 t2
  rw[Qdz,Qd0,t1,t2,jb,Qcn]
  show spans 0 b1++(b1.flatten.length,x.length+y.length)::_=spans 0 b1++(b1.flatten.length,z.length)::spans (b1.flatten.length+z.length) b2
  rw[lz,Qej]
 ·rcases Qaa.mp hl with g | g
  ·exact hb.ok l (Qbr _ g)
  ·rcases XB.mp g with g | g
   ·rw[g]
    have uP:=Qbq.mpr Tu.1
    exact ⟨fun e=>by rw[e,Qcd]at lz;omega,sz⟩
   ·exact hb.ok l (Qag _ (Zz _ (Zz _ g)))
theorem sM {st:SortSt} {bl:List (List Keyed)} {z r:List Keyed} {P:Array (Nat×Nat×Nat)} {lo n x:Nat} (hB:jw kd a₀ st) (hb:tW lt st bl (z++r)) (hz:z≠[]) (sz:cP lt z) (hP:cp P=cp (pendingOf st)) (Xu:lo=bl.flatten.length) (hn:z.length=n) (hx:x<=lo):
  jw kd a₀ (setPending st (P.push (lo,n,0)))/\ ∃sL rest,tW lt (setPending st (P.push (lo,n,0))) sL rest/\((none,lo+n):Option Unit×Nat)=(none,sL.flatten.length)/\x+1<=sL.flatten.length:=by
 subst Xu
 subst hn
 have lz:=Qbq.mpr hz
 refine ⟨⟨hB.perm,hB.kind,hB.failed⟩,bl++[z],r,⟨by show (arrOf st).toList=_;rw[hb.arr];simp,?_,fun l hl=>?_⟩,by rw[List.flatten_append,JQ,Qcw,Qez,Qal],by rw[List.flatten_append,JQ,Qcw,Qez,Qal];omega⟩
 ·show cp (P.push (bl.flatten.length,z.length,0))=_
  have:cp (P.push (bl.flatten.length,z.length,0))=cp P++[(bl.flatten.length,z.length)]:=by unfold cp;rw[Qbo,Qar];rfl
  rw[this,hP,hb.FL,jb,Qcn]
  rfl
 ·rcases Qaa.mp hl with g | g
  ·exact hb.ok l g
  ·rw[QB.mp g];exact ⟨hz,sz⟩
theorem y0 {st:SortSt} {Q:Unit->SortSt->Prop} (L:fX lt) (C:iY prog w A E s kd lt a₀) (hB:jw kd a₀ st) (hp:pendingOf st= #[])
  (h: ∀aL,(arrOf aL).Perm a₀->failedOf aL=none->cP lt (arrOf aL).toList->Q () aL):wpS (model prog w) A E s sortRuns' Q st:=by
 have hz:=hB.size
 rw[sortRuns'_eq]
 refine wpS_bind (wpS_get ?_)
 refine wpS_bind (wpS_mono (wpS_forRange (I:=fun x c aL=>jw kd a₀ aL/\ ∃bl rest,tW lt aL bl rest/\c=(none,bl.flatten.length)/\x<=bl.flatten.length) (Q:=fun c aL=>jw kd a₀ aL/\ ∃bl,tW lt aL bl []/\c=(none,bl.flatten.length)) ?_ ?_ ⟨hB,[],(arrOf st).toList,⟨rfl,by rw[hp];rfl,fun l hl=>by cases hl⟩,rfl,Qaq _⟩) ?_)
 ·rintro x c dY _ hx ⟨we,bl,rest,b1,rfl,wc⟩
  have Ol:=we.size
  have hlen:bl.flatten.length+rest.length=a₀.size:=by rw[<-Ol, <-Qaw,b1.arr,JQ]
  refine aA (fun g=>?_) (fun g=>?_)
  ·have g':bl.flatten.length ≥ (arrOf st).size:=g
   have e0:rest=[]:=Qci (by omega)
   subst e0
   exact wpS_pure ⟨we,bl,b1,rfl⟩
  have g': ¬bl.flatten.length ≥ (arrOf st).size:=g
  have er:(arrOf st).size - bl.flatten.length=rest.length:=by omega
  show wpS (model prog w) A E s (countRun' bl.flatten.length ((arrOf st).size - bl.flatten.length) >>= _) _ dY
  rw[er]
  refine wpS_bind (K8 L C we b1.arr (by omega) fun m gF y r K9 e2 a2 hm m1 hyr sy=>?_)
  refine aA (fun g2=>wpS_bind (wpS_lift (wpAny_rule ⟨rfl,?_⟩))) (fun g2=>wpS_bind (wpS_get ?_))
  ·have N8:m<minRun' (arrOf st).size (arrOf st).size 0:=g2
   subst hm
   refine wpS_bind (K7 (pre:=bl.flatten) (x:=y) (rest:=r) (n:=min rest.length (minRun' (arrOf st).size (arrOf st).size 0)) L C K9 a2 (fun e=>by rw[e]at m1;cases m1) sy (by omega) (by omega) fun rq z r3 hB3 e3 a3 X8 sz=>aA (fun z=>by cases z) (fun _=>wpS_bind (wpS_get ?_)))
   have uQ:=hB3
   have b4:tW lt rq bl (z++r3):=⟨by rw[<-Xz];exact a3,by rw[e3,e2];exact b1.FL,b1.ok⟩
   have QT:=X8
   have s4:=sz
   have n4:z≠[]:=fun e=>by rw[e,Qcd]at X8;omega
   generalize hb:(pendingOf rq).back? =o
   cases o with
   | none=>exact wpS_bind (wpS_modify (wpS_pure (sM uQ b4 n4 s4 rfl rfl QT wc)))
   | some v=>
    obtain ⟨s1,l1,p1⟩:=v
    refine wpS_bind (wpS_mono (wpS_forRange (I:=fun _ c aL=>c=(none,())/\jw kd a₀ aL/\ ∃sL,tW lt aL sL (z++r3)/\sL.flatten.length=bl.flatten.length) (Q:=fun c aL=>c=(none,())/\jw kd a₀ aL/\ ∃sL,tW lt aL sL (z++r3)/\sL.flatten.length=bl.flatten.length) ?_ (fun _ _ z=>z) ⟨rfl,uQ,bl,b4,rfl⟩) ?_)
    ·rintro y' c jA _ _ ⟨rfl,mh,Ao,b5,l5⟩
     refine wpS_bind (wpS_get ?_)
     by_cases hs:(pendingOf jA).size>1
     ·obtain ⟨⟨u,v,Om⟩,eo⟩: ∃x,(pendingOf jA)[(pendingOf jA).size - 2]? =some x:=⟨_,getElem?_pos (pendingOf jA) ((pendingOf jA).size - 2) (by omega)⟩
      simp only[if_pos hs,eo]
      exact aA (fun _=>wpS_pure ⟨rfl,mh,Ao,b5,l5⟩) (fun _=>wpS_bind (xn L C mh b5 (by omega) fun X9 Oo Oq b6 l6 _=>aA (fun z=>by cases z) (fun z=>wpS_pure ⟨rfl,Oq,Oo,b6,l6.trans l5⟩)))
     ·simp only[if_neg hs]
      exact wpS_pure ⟨rfl,mh,Ao,b5,l5⟩
    ·rintro c jA ⟨rfl,mh,Ao,b5,l5⟩
     exact wpS_bind (wpS_modify (wpS_bind (wpS_modify (wpS_pure (sM ⟨mh.perm,mh.kind,mh.failed⟩ ⟨b5.arr,(yZ _).trans b5.FL,b5.ok⟩ n4 s4 rfl l5.symm QT wc)))))
  ·subst hm
   have uQ:=K9
   have b4:tW lt gF bl (y++r):=⟨by rw[<-Xz];exact a2,by rw[e2];exact b1.FL,b1.ok⟩
   have n4:y≠[]:=fun e=>by rw[e]at m1;cases m1
   generalize hb:(pendingOf gF).back? =o
   cases o with
   | none=>exact wpS_bind (wpS_modify (wpS_pure (sM uQ b4 n4 sy rfl rfl rfl wc)))
   | some v=>
    obtain ⟨s1,l1,p1⟩:=v
    refine wpS_bind (wpS_mono (wpS_forRange (I:=fun _ c aL=>c=(none,())/\jw kd a₀ aL/\ ∃sL,tW lt aL sL (y++r)/\sL.flatten.length=bl.flatten.length) (Q:=fun c aL=>c=(none,())/\jw kd a₀ aL/\ ∃sL,tW lt aL sL (y++r)/\sL.flatten.length=bl.flatten.length) ?_ (fun _ _ z=>z) ⟨rfl,uQ,bl,b4,rfl⟩) ?_)
    ·rintro y' c jA _ _ ⟨rfl,mh,Ao,b5,l5⟩
     refine wpS_bind (wpS_get ?_)
     by_cases hs:(pendingOf jA).size>1
     ·obtain ⟨⟨u,v,Om⟩,eo⟩: ∃x,(pendingOf jA)[(pendingOf jA).size - 2]? =some x:=⟨_,getElem?_pos (pendingOf jA) ((pendingOf jA).size - 2) (by omega)⟩
      simp only[if_pos hs,eo]
      exact aA (fun _=>wpS_pure ⟨rfl,mh,Ao,b5,l5⟩) (fun _=>wpS_bind (xn L C mh b5 (by omega) fun X9 Oo Oq b6 l6 _=>aA (fun z=>by cases z) (fun z=>wpS_pure ⟨rfl,Oq,Oo,b6,l6.trans l5⟩)))
     ·simp only[if_neg hs]
      exact wpS_pure ⟨rfl,mh,Ao,b5,l5⟩
    ·rintro c jA ⟨rfl,mh,Ao,b5,l5⟩
     exact wpS_bind (wpS_modify (wpS_bind (wpS_modify (wpS_pure (sM ⟨mh.perm,mh.kind,mh.failed⟩ ⟨b5.arr,(yZ _).trans b5.FL,b5.ok⟩ n4 sy rfl l5.symm rfl wc)))))
 ·rintro c dY ⟨we,bl,rest,b1,rfl,wc⟩
  have Ol:=we.size
  have hlen:bl.flatten.length+rest.length=a₀.size:=by rw[<-Ol, <-Qaw,b1.arr,JQ]
  have e0:rest=[]:=Qci (by omega)
  subst e0
  exact ⟨we,bl,b1,rfl⟩
 ·rintro c dY ⟨we,bl,b1,rfl⟩
  have Ol:=we.size
  have hlen:bl.flatten.length=a₀.size:=by rw[<-Ol, <-Qaw,b1.arr,Qal]
  have BW:=b1.iT
  refine wpS_bind (wpS_mono (wpS_forRange (I:=fun y c aL=>c=(none,())/\jw kd a₀ aL/\ ∃bl,tW lt aL bl []/\bl.length+y<=a₀.size+1) (Q:=fun c aL=>c=(none,())/\jw kd a₀ aL/\ ∃bl,tW lt aL bl []/\bl.length<=1) ?_ ?_ ⟨rfl,we,bl,b1,by omega⟩) ?_)
  ·rintro y c jA _ _ ⟨rfl,mh,Ao,b5,hy5⟩
   refine wpS_bind (wpS_get ?_)
   refine aA (fun g=>?_) (fun g=>?_)
   ·have g':(pendingOf jA).size<=1:=g
    rw[b5.HU]at g'
    exact wpS_pure ⟨rfl,mh,Ao,b5,g'⟩
   have g': ¬(pendingOf jA).size<=1:=g
   refine wpS_bind (xn L C mh b5 ?_ fun X9 Oo Oq b6 l6 n6=>aA (fun z=>by cases z) (fun z=>wpS_pure ⟨rfl,Oq,Oo,b6,by omega⟩))
   exact CS _ g'
  ·rintro c jA ⟨e,mh,Ao,b5,hy5⟩
   exact ⟨e,mh,Ao,b5,by omega⟩
  ·rintro c jA ⟨rfl,mh,Ao,b5,h5⟩
   refine wpS_pure (h _ mh.perm mh.failed ?_)
   rw[b5.arr,Qal]
   match Ao,h5,b5.ok with
   | [],_,_=>exact List.Pairwise.nil
   | [l],_,ok=>rw[Qcw,Qez,Qal];exact (ok l ZC).2
   | _::_::_,h5,_=>simp at h5
end
end L2
set_option maxHeartbeats 1000000
namespace L2
open PySem PySem.Spec PyProof.Rows
theorem qN: ∀a b:List Int,eZ a b=true->eZ b a=false
 | [],[],h=>by cases h
 | [],_::_,_=>rfl
 | _::_,[],h=>by cases h
 | x::r,y::t,h=>by
  have h':(if x=y then eZ r t else decide (x<y))=true:=h
  show (if y=x then eZ t r else decide (y<x))=false
  by_cases e:x=y
  ·rw[if_pos e]at h';rw[if_pos e.symm];exact qN r t h'
  ·rw[if_neg e]at h';rw[if_neg fun z=>e z.symm]
   have:=of_decide_eq_true h'
   exact decide_eq_false (by omega)
theorem y6: ∀a b c:List Int,eZ b a=false->eZ c b=false->eZ c a=false
 | [],[],[],_,_=>rfl
 | [],[],_::_,_,h=>h
 | [],_::_,[],_,_=>rfl
 | [],_::_,_::_,_,_=>rfl
 | _::_,[],_,h,_=>by cases h
 | _::_,_::_,[],_,h=>by cases h
 | x::a,y::b,z::c,h,g=>by
  have h':(if y=x then eZ b a else decide (y<x))=false:=h
  have g':(if z=y then eZ c b else decide (z<y))=false:=g
  show (if z=x then eZ c a else decide (z<x))=false
  by_cases e1:y=x
  ·rw[if_pos e1]at h'
   by_cases e2:z=y
   ·rw[if_pos e2]at g'
    rw[if_pos (e2.trans e1)]
    exact y6 a b c h' g'
   ·rw[if_neg e2]at g'
    rw[if_neg fun w=>e2 (w.trans e1.symm), <-e1]
    exact g'
  ·rw[if_neg e1]at h'
   have q1:=of_decide_eq_false h'
   by_cases e2:z=y
   ·rw[if_neg fun w=>e1 (e2.symm.trans w),e2];exact h'
   ·rw[if_neg e2]at g'
    have q2:=of_decide_eq_false g'
    rw[if_neg (by omega)]
    exact decide_eq_false (by omega)
theorem uR: ∀{us:List Value} {ns ms:List Int},IntsAre us ns->IntsAre us ms->ns=ms
 | _,_,_, .nil, .nil=>rfl
 | _,_,_, .cons _ _ h, .cons _ _ g=>by rw[uR h g]
theorem TupAt.Tv {h:Heap} {k:Nat} {v:Value} {n m:List Int} (p:TupAt h k v n) (q:TupAt h k v m):n=m:=by
 obtain ⟨x,ox,us,j,rfl,e1,_,d1,i1,_⟩:=p
 obtain ⟨y,oy,vs,l,e,e2,_,d2,i2,_⟩:=q
 cases e
 rw[e1]at e2
 cases e2
 rw[d1]at d2
 cases d2
 exact uR i1 i2
open Classical in
noncomputable def numsOf (h:Heap) (k:Nat) (p:Keyed):List Int:=if e: ∃n,TupAt h k p.1 n then Classical.choose e else []
theorem jc {h:Heap} {k:Nat} {p:Keyed} {n:List Int} (q:TupAt h k p.1 n):numsOf h k p=n:=by
 unfold numsOf
 rw[dif_pos ⟨n,q⟩]
 exact (Classical.choose_spec (⟨n,q⟩: ∃n,TupAt h k p.1 n)).Tv q
theorem br.mem {h:Heap} {k:Nat}: ∀{vs:List Value} {ns:List (List Int)} {v:Value},br h k vs ns->v∈vs-> ∃n,TupAt h k v n
 | v::vs,n::ns,u,⟨a,b⟩,hu=>by
  rcases XB.mp hu with z | z
  ·rw[z];exact ⟨n,a⟩
  ·exact br.mem b z
theorem br.nums {h:Heap} {k:Nat}: ∀{vs:List Value} {ns:List (List Int)},br h k vs ns->(vs.zip vs).map (numsOf h k)=ns
 | [],[],_=>rfl
 | v::vs,n::ns,⟨a,b⟩=>by
  show numsOf h k (v,v)::(vs.zip vs).map (numsOf h k)=n::ns
  rw[jc (p:=(v,v)) a,br.nums b]
theorem K_ {ns:List (List Int)} {R:List Int->List Int->Prop} (h:ns.length<2):ns.Pairwise R:=by
 match ns,h with
 | [],_=>exact List.Pairwise.nil
 | [_],_=>exact Qbn _ _
 | _::_::_,h=>exact absurd h (by simp)
section
variable {prog:Program} {w:World} {A:Around} {E:Value->Shared->Prop} {s:Shared}
theorem Ot (h:Heap) (k:Nat):fX fun p q=>eZ (numsOf h k p) (numsOf h k q):=⟨fun p q e=>qN _ _ e,fun p q r e g=>y6 _ _ _ e g⟩
theorem uS {a:Addr} {vs:List Value} {ns:List (List Int)} {k n:Nat} {P:PySem.Fin->Shared->Prop} (ho:s.heap.get? a=some (seqObj "list" vs.toArray n)) (hp:br s.heap k vs ns) (X_: ∀v∈vs,v≠ .ref a) (hsz:vs.length<=sizeLine)
  (q: ∀(out:List Value) (ms:List (List Int)),out.Perm vs->br s.heap k out ms->(ms.Pairwise fun x y=>eZ y x=false)->P (.done (.ret .none)) { s with heap:=sortedHeap s.heap a vs out.toArray }):wpAny (model prog w) A (Builtin.«list.sort» ⟨[.ref a],[]⟩) P E s:=by
 rw[list_sort_plain]
 have ha:a<s.heap.objs.size:=Qac ho
 refine wpAny_bind (listItems_at ho rfl (wpAny_bind (listUpdate_at ho rfl ?_ (by rw[Qad];omega) (Qaq _))))
 obtain ⟨e1,Ya⟩: ∃e1,(s.heap.update a (Obj.mapSeq fun _=> #[])).get? a=some (seqObj "list" #[] e1):=⟨_,get?_update_seq ho (fun _=> #[])⟩
 refine wpAny_bind (seqEpoch_at Ya rfl (wpAny_bind (wpAny_newTuple (wpAny_bind (wpAny_newList (wpAny_holding ?_) (Qaq _))) (by show vs.length<=_;omega))))
 generalize hH:((s.heap.update a (Obj.mapSeq fun _=>(#[]:Array Value))).push (seqObj "tuple" vs.toArray 0)).push (seqObj "list" #[] 0)=H2
 have La:H2.get? a=some (seqObj "list" #[] e1):=by
  rw[<-hH]
  exact JR _ (JR _ Ya)
 have keep: ∀b o,b≠a->s.heap.get? b=some o->H2.get? b=some o:=fun b o hb e=>by
  rw[<-hH]
  exact JR _ (JR _ ((Qa6 s.heap _ (Ne.symm hb)).trans e))
 have QU: ∀{us:List Value} {ms:List (List Int)},(∀v∈us,v≠ .ref a)->br s.heap k us ms->br H2 k us ms:=by
  intro us
  induction us with
  | nil=>intro ms _ hp;cases ms with
   | nil=>trivial
   | cons _ _=>exact hp.elim
  | cons v us ih=>
   intro ms hn hp
   cases ms with
   | nil=>exact hp.elim
   | cons m ms=>
    obtain ⟨⟨x,ox,QV,j,rfl,g2,g3⟩,b⟩:=hp
    exact ⟨⟨x,ox,QV,j,rfl,keep x ox (fun z=>hn _ ZC (by rw[z])) g2,g3⟩,ih (fun u hu=>hn u (Zz _ hu)) b⟩
 have ij:br H2 k vs ns:=QU X_ hp
 -- RZ comes,back at Ef first heap
 have back: ∀(l:List Keyed),(∀p∈l,p.1=p.2/\p.1∈vs)-> ∃ms,br s.heap k (l.map (·.2)) ms/\ms=l.map (numsOf H2 k):=by
  intro l
  induction l with
  | nil=>intro _;exact ⟨[],trivial,rfl⟩
  | cons p l ih=>
   intro hl
   obtain ⟨ms,g1,g2⟩:=ih fun r hr=>hl r (Zz _ hr)
   obtain ⟨e3,e4⟩:=hl p ZC
   obtain ⟨m,hm⟩:=hp.mem e4
   have HQ:TupAt H2 k p.1 m:=by
    have:=QU (us:=[p.1]) (ms:=[m]) (fun v hv=>by rw[QB.mp hv];exact X_ _ e4) ⟨hm,trivial⟩
    exact this.1
   refine ⟨m::ms,⟨by show TupAt s.heap k p.2 m;rw[<-e3];exact hm,g1⟩,?_⟩
   rw[ZD,jc HQ,g2]
 have fin: ∀st:SortSt,(arrOf st).toList.Perm (vs.zip vs)->((arrOf st).toList.map (numsOf H2 k)).Pairwise (fun x y=>eZ y x=false)->failedOf st=none->wpAny (model prog w) A (do { let touched:=(<-seqEpoch a) != e1;Builtin.List.listUpdate (.ref a) (fun _=>(arrOf st).map (·.2));if let some e:=failedOf st then { rule "list.sort.comparison-raised";throw e };if touched then { rule "list.sort.modified";raiseError "ValueError" "list modified during sort" };ret .none }) P E { s with heap:=H2 }:=fun st e0 e9 e2=>by
  rw[e2]
  have hlen:(arrOf st).size=vs.length:=by rw[<-Qaw,e0.length_eq,List.length_zip,Nat.min_self]
  refine wpAny_bind (seqEpoch_at La rfl (wpAny_bind (listUpdate_at La rfl ?_ (Qaq _) (by rw[Array.size_map,hlen];omega))))
  simp only[bne_self_eq_false,Qdh,if_false]
  refine wpAny_pure ?_
  obtain ⟨ms,g1,g2⟩:=back (arrOf st).toList fun p lK=>mem_zip_self (e0.mem_iff.mp lK)
  have g3:((arrOf st).toList.map (·.2)).Perm vs:=by
   have:=e0.map (·.2)
   rwa [yJ]at this
  have:=q _ ms g3 g1 (by rw[g2];exact e9)
  have e3:sortedHeap s.heap a vs ((arrOf st).toList.map (·.2)).toArray=H2.update a (Obj.mapSeq fun _=>(arrOf st).map (·.2)):=by
   unfold sortedHeap
   rw[hH]
   have:((arrOf st).toList.map (·.2)).toArray=(arrOf st).map (·.2):=by apply Qd6.mp;simp
   rw[this]
  rw[e3]at this
  exact this
 show wpAny (model prog w) A _ P E { s with heap:=H2 }
 dsimp only
 by_cases h2:vs.toArray.size<2
 ·rw[if_pos h2,if_pos h2]
  refine wpAny_bind (wpAny_pure ?_)
  rw[StateT.run_pure]
  refine wpAny_bind (wpAny_pure ?_)
  refine fin (SortSt.mk' general' (vs.toArray.zip vs.toArray) #[] 7 none) (by show (vs.toArray.zip vs.toArray).toList.Perm _;simp) ?_ rfl
  show ((vs.toArray.zip vs.toArray).toList.map (numsOf H2 k)).Pairwise _
  have e4:(vs.toArray.zip vs.toArray).toList=vs.zip vs:=by simp
  rw[e4,ij.nums]
  have l2:ns.length<2:=by
   have:=congrArg List.length ij.nums
   rw[kb,List.length_zip,Nat.min_self]at this
   rw[Qad]at h2
   omega
  exact K_ l2
 ·have Yb:2<=vs.length:=by rw[Qad]at h2;omega
  rw[if_neg h2,if_neg h2]
  obtain ⟨fs,k1,k2,k3⟩:=ij.hX
  refine wpAny_bind (PySem.W.kat_kind (s:={ s with heap:=H2 }) (T:= .type "int") k1 (by omega) (fun v hv=>by obtain ⟨i,t,rfl⟩:=k3 v hv;exact PySem.W.Looks.of_pure rfl) (by rfl) ?_)
  have ez:(vs.toArray.zip vs.toArray).toList=vs.zip vs:=by simp
  have C:iY prog w A E { s with heap:=H2 } (tuples' true) (fun p q=>eZ (numsOf H2 k p) (numsOf H2 k q)) (vs.toArray.zip vs.toArray):=by
   intro st p q' Q hk lB El hQ
   rw[ez]at lB El
   obtain ⟨m1,t1⟩:=ij.mem (mem_zip_self lB).2
   obtain ⟨m2,t2⟩:=ij.mem (mem_zip_self El).2
   have QW:Q (some (eZ (numsOf H2 k p) (numsOf H2 k q'))) st:=hQ
   rw[jc t1,jc t2]at QW
   rw[lt'_eq]
   refine wpS_bind (wpS_get ?_)
   rw[hk]
   refine wpS_bind (wpS_lift (wpAny_attempt (Kb (s:={ s with heap:=H2 }) t1 t2 ⟨rfl,?_⟩)))
   exact wpS_pure QW
  have run:=y0 (a₀:=vs.toArray.zip vs.toArray) (st:=SortSt.mk' (tuples' (Value.type "int" != Value.type "tuple")) (vs.toArray.zip vs.toArray) #[] 7 none) (Q:=fun _ aL=>(arrOf aL).toList.Perm (vs.zip vs)/\((arrOf aL).toList.map (numsOf H2 k)).Pairwise (fun x y=>eZ y x=false)/\failedOf aL=none) (Ot H2 k) C ⟨Qe3 _,rfl,rfl⟩ rfl fun aL a1 a2 a3=>⟨by rw[<-ez];exact Qa9.mp a1,Qb2.mpr a3,a2⟩
  refine wpAny_bind (wpAny_mono run ?_ fun _ _ e=>e)
  rintro ⟨⟨⟩,aL⟩ s' ⟨rfl,g1,g2,g3⟩
  exact fin aL g1 g2 g3
theorem uT {tp:Addr} {T:String} {o:Obj} {vs:List Value} {ns:List (List Int)} {k n:Nat} {Q:Value->Shared->Prop} (hT:T="list"\/T="tuple") (ho:s.heap.get? tp=some o) (hc:o.cls= .type T) (hd:o.data= .seq vs.toArray n) (hp:br s.heap k vs ns) (hsz:vs.length<=sizeLine)
  (q: ∀(h1 h':Heap) (a:Addr) (e:Nat) (out:List Value) (ms:List (List Int)),(∀b o,s.heap.get? b=some o->h1.get? b=some o)->(∀b o,h1.get? b=some o->h'.get? b=some o)->a=h1.objs.size->h'.get? a=some (seqObj "list" out.toArray e)->out.Perm vs->br s.heap k out ms->(ms.Pairwise fun x y=>eZ y x=false)->Q (.ref a) { s with heap:=h' }):
  wpAny (model prog w) A (call (.builtin "sorted") [.ref tp]) Q E s:=by
 refine Qd9 kind_sorted plain_sorted entry_sorted (args_sorted1 _) ?_
 unfold Builtin.«sorted»
 refine wpAny_bind (m:=checkCount "sorted" 1 1 _) (wpAny_pure (wpAny_bind (wpAny_collect_seq tp hT ho hc hd (fun h1 k1=>?_) (by rw[Qad];omega))))
 refine wpAny_bind (wpAny_newList ?_ (by show vs.length<=_;omega))
 have ya:(h1.push (seqObj "list" vs.toArray 0)).get? h1.objs.size=some (seqObj "list" vs.toArray 0):=Qai _ rfl
 show wpAny _ _ _ _ _ { s with heap:=h1.push (seqObj "list" vs.toArray 0) }
 have eL:=hp.keep (h':=h1) k1
 have ij:=eL.keep (h':=h1.push (seqObj "list" vs.toArray 0)) fun b o e=>JR _ e
 refine wpAny_bind (wpAny_holding (wpAny_call_entry slot_list_sort ⟨_,ya,rfl⟩ entry_list_sort (uS (s:={ s with heap:=h1.push (seqObj "list" vs.toArray 0) }) ya ij (eL.ne (XA _)) hsz fun out ms po to ps=>⟨_,rfl,?_⟩) (args_list_sort _)))
 obtain ⟨e,he⟩:=sortedHeap_at (out:=out.toArray) ya
 have to':br s.heap k out ms:=by
  have key: ∀(us:List Value) (ms:List (List Int)),(∀v∈us, ∃m,TupAt s.heap k v m)->br (h1.push (seqObj "list" vs.toArray 0)) k us ms->br s.heap k us ms:=by
   intro us
   induction us with
   | nil=>intro ms _ h;cases ms with
    | nil=>trivial
    | cons _ _=>exact h.elim
   | cons v us ih=>
    intro ms hv h
    cases ms with
    | nil=>exact h.elim
    | cons m ms=>
     obtain ⟨m',Ms⟩:=hv v ZC
     have:m'=m:=(Ms.keep (h':=h1.push (seqObj "list" vs.toArray 0)) fun b o e=>JR _ (k1 b o e)).Tv h.1
     exact ⟨this▸Ms,ih ms (fun u hu=>hv u (Zz _ hu)) h.2⟩
  exact key out ms (fun v hv=>hp.mem (po.mem_iff.mp hv)) to
 refine wpAny_pure ⟨_,rfl,q h1 _ _ e out ms k1 (fun b o hb=>?_) rfl he po to' ps⟩
 have bW:=Qac hb
 rw[sortedHeap_old (Qa0 bW) (by rw[size_push'];exact Qb9 bW)]
 exact JR _ hb
end
section
variable {X:Cx}
theorem Ap {us QV:List Value} (h:QV.Perm us): ∀{ys:List V},Vals ys us-> ∃wg,wg.Perm ys/\Vals wg QV:=by
 induction h with
 | nil=>intro ys r;cases r;exact ⟨[], .refl _, .nil⟩
 | cons x _ ih=>
  intro ys r
  cases r with
  | cons a b=>
   obtain ⟨wg,p1,p2⟩:=ih b
   exact ⟨_::wg,p1.cons _, .cons a p2⟩
 | swap x y l=>
  intro ys r
  cases r with
  | cons a b=>cases b with
   | cons c d=>exact ⟨_::_::_, .swap _ _ _, .cons c (.cons a d)⟩
 | trans _ _ ih1 ih2=>
  intro ys r
  obtain ⟨y1,p1,q1⟩:=ih2 r
  obtain ⟨y2,p2,q2⟩:=ih1 q1
  exact ⟨y2,p2.trans p1,q2⟩
theorem qO {h:Heap} {k:Nat}: ∀{us:List Value} {ns ms:List (List Int)},br h k us ns->br h k us ms->ns=ms
 | [],[],[],_,_=>rfl
 | [],_::_,_,h,_=>h.elim
 | [],[],_::_,_,h=>h.elim
 | _::_,[],_,h,_=>h.elim
 | _::_,_::_,[],_,h=>h.elim
 | _::_,_::_,_::_,⟨a,b⟩,⟨c,d⟩=>by rw[a.Tv c,qO b d]
def Lb (K:PySem.W.Frag):List V->Hp->VK->Prop:=fun xs H Q=> ∃p ys ns k,xs=[.ref p]/\(aN K H p ys\/cU K H p ys)/\xa K H k ys ns/\ ∀q wg,H q=none->wg.Perm ys->(∀ms,xa K H k wg ms->ms.Pairwise fun x y=>eZ y x=false)->Q (.ref q) (upd H q (.lst wg))
theorem sN (K:PySem.W.Frag) (h:X.K=K):cF X (.builtin "sorted") (Lb K):=by
 subst h
 intro pins s σ H xs us Q I r h
 obtain ⟨p,ys,ns,k,rfl,hq,hv,q⟩:=h
 obtain ⟨u,rfl,ru⟩:=vals1 r
 cases ru
 have fin: ∀aD:List Value,ys.length<=sizeLine->Vals ys aD-> ∀(h1 h':Heap) (a:Addr) (e:Nat) (out:List Value) (ms:List (List Int)),(∀b o,s.heap.get? b=some o->h1.get? b=some o)->(∀b o,h1.get? b=some o->h'.get? b=some o)->a=h1.objs.size->h'.get? a=some (seqObj "list" out.toArray e)->out.Perm aD->br s.heap k out ms->(ms.Pairwise fun x y=>eZ y x=false)->EP X pins σ Q (.ref a) { s with heap:=h' }:=fun aD hz rv h1 h' a e out ms k1 k2 ea he po to ps=>by
  obtain ⟨wg,py,ry⟩:=Ap po rv
  have I1:Inv X pins σ H { s with heap:=h1 }:=I.kept (t':=s.toks) k1
  have I2:Inv X pins σ (upd H a (.lst wg)) { s with heap:=h' }:=I1.laid (t':=s.toks) (a:=a) (o:= .lst wg) k2 (by rw[ea];exact XA _) ⟨by rw[py.length_eq];exact hz,out,e,ry,by simpa [seqObj]using he⟩
  exact ⟨.ref a,_,I2,rfl,q _ wg (I1.bg.fresh (by rw[ea];exact XA _)) py fun ms' h=>by rw[qO (h.at I ry) to];exact ps⟩
 rcases hq with hq | hq
 ·obtain ⟨aD,rv,pl,hz⟩:=I.list hq
  obtain ⟨o,ho,hc,m,hd⟩:=pl.isList
  exact uT (.inl rfl) ho hc hd (hv.at I rv) (by rw[<-rv.length];exact hz) (fin aD hz rv)
 ·obtain ⟨aD,rv,pl,hz⟩:=I.tuple hq
  obtain ⟨o,ho,hc,m,hd⟩:=pl
  exact uT (.inr rfl) ho hc hd (hv.at I rv) (by rw[<-rv.length];exact hz) (fin aD hz rv)
end
section
variable {X:Cx} {e st:Expr} {te:TE} {ts:TO} {pos p2:Pos}
end
end L2
namespace PySem
open PySem.Spec PyProof.Rows
section
variable {M:Model} {A:Around} {E:Value->Shared->Prop} {s₀ s:Shared} {m cm:Str->Option Value} {env:Env}
theorem C5 {n:Str} {v:Value} {Q:Unit->Shared->Prop} (x:InCallC s₀ env.locals m env.cells cm s) (hk:env.scope.kind= .function) (hl:env.kindOf n=some .local)
  (h: ∀s',InCallC s₀ env.locals (fun y=>if y=n then some v else m y) env.cells cm s'->s'.toks=s.toks+1->Q () s'):wpAny M A (storeName env n v) Q E s:=by
 obtain ⟨m',hn⟩: ∃m',s.heap.Ns env.locals m':=⟨_,x.toInCall.ns⟩
 refine wpAny_mono (fz (stLC x hk hl (Q:=fun _ s'=>InCallC s₀ env.locals (fun y=>if y=n then some v else m y) env.cells cm s') (E:=E) fun s' x'=>x') (wpAny_storeName_local (v:=v) (Q:=fun _ s'=>s'.toks=s.toks+1) (E:=E) hl hn (fun h' _ _=>rfl) (by rw[hk];rfl))) (fun u s' ⟨a,b⟩=>h s' a b) fun _ _ z=>z.1
theorem uU {scope:Scope} {globals:Addr} {n:Str} {v:Value} {r:List (Str×Value)} {qual:Str} {func:Option Addr} {code:Value} {builtins:Addr} {Q:Env->Shared->Prop}
  (hk:scope.kind= .function) (hl:scope.names.lookup n=some .local)
  (dE: ∀x∈(n,v)::r,scope.names.lookup x.1=some .local\/(scope.names.lookup x.1=some .cell/\((cellsFrom (s.heap.objs.size+1) scope.names []).lookup x.1).isSome=true))
  (hQ: ∀env,env=newEnv scope s.heap.objs.size globals (cellsFrom (s.heap.objs.size+1) scope.names []) qual func code none builtins->
   ∀s',InCallC s env.locals (bindL env.kindOf ((n,v)::r) fun _=>none) env.cells (bindC env.kindOf ((n,v)::r) fun _=>none) s'->s.toks<s'.toks->Q env s'):
  wpAny M A (newFunctionEnv scope globals [] ((n,v)::r) qual func code none builtins) Q E s:=by
 refine wpAny_mono (fz (wpAny_newFunctionEnv_cells (Q:=fun env s'=>env=newEnv scope s.heap.objs.size globals (cellsFrom (s.heap.objs.size+1) scope.names []) qual func code none builtins/\InCallC s env.locals (bindL env.kindOf ((n,v)::r) fun _=>none) env.cells (bindC env.kindOf ((n,v)::r) fun _=>none) s') (E:=E) hk dE fun env he s' x=>⟨he,x⟩) (Q':=fun _ s'=>s.toks<s'.toks) (E':=E) ?_) (fun env s' ⟨⟨a,b⟩,c⟩=>hQ env a s' b c) fun _ _ z=>z.1
 simp only[newFunctionEnv,Option.isSome_none,Qdh,if_false]
 refine wpAny_bind (wpAny_alloc ?_)
 refine wpAny_bind (wpAny_layCells _ (fun name kind cells=>by cases hkc:kind==NameKind.cell<;>simp[hkc]) _ _ _ _ ?_)
 have ok:=cellsFrom_ok scope.names (s.heap.push { cls:= .type "frame",data:= .dict #[] }) (s.heap.objs.size+1) [] ⟨fun _ _ hm=>(nomatch hm),List.Pairwise.nil⟩ (by rw[Qbx];exact XA _)
 rw[Qbx]at ok
 rw[show ({ s with heap:=s.heap.push { cls:= .type "frame",data:= .dict #[] } }:Shared).heap.objs.size=s.heap.objs.size+1 from Qbx ..]
 have X0:InCallC s (newEnv scope s.heap.objs.size globals (cellsFrom (s.heap.objs.size+1) scope.names []) qual func code none builtins).locals (fun _=>none) (newEnv scope s.heap.objs.size globals (cellsFrom (s.heap.objs.size+1) scope.names []) qual func code none builtins).cells (fun _=>none) { s with heap:=pushCells (s.heap.push { cls:= .type "frame",data:= .dict #[] }) scope.names }:=
  ⟨⟨⟨_,_,rfl⟩,(Heap.Ns.new s.heap (.type "frame")).keeps (pushCells_keeps _ _),fun b o e=>pushCells_keeps _ _ b o (JR _ e),XA _⟩,
   fun n c hc=>(ok.empty n c (mem_of_lookup hc)).1,ok.apart,fun n c hm=>(ok.empty n c hm).2⟩
 rw[Qct]
 refine wpAny_bind (wpAny_bind (wpAny_bind (C5 X0 hk hl fun s' x' ht=>wpAny_pure ?_)))
 refine wpAny_mono (wpAny_toks (wpAny_bindParams (s₀:=s) (E:=E) _ (fun _ _ _=>rfl) hk r _ _ s' (fun _ _=>True) x' (fun y hy=>dE y (Zz _ hy)) fun _ _=>trivial)) (fun _ Mj ⟨hle,_⟩=>wpAny_pure ?_) fun _ _ z=>z.2
 exact Qaf (by rw[ht];exact Qce _) hle
end
end PySem
namespace L2
open PySem PySem.Spec PyProof.Rows
def Tk (lo hi:Nat) (u:Value):Prop:= ∃z t,u= .str z t/\lo<=t/\t<hi
theorem Tk.mono {lo Yc hi QE:Nat} {u:Value} (h:Tk lo hi u) (h1:Yc<=lo) (h2:hi<=QE):Tk Yc QE u:=by
 obtain ⟨z,t,e,a,b⟩:=h
 exact ⟨z,t,e,Qa1 h1 a,Qaf b h2⟩
structure ml (P:Program) (w:World) (K:PySem.W.Frag) (mg:Str->Option Value) (base:Heap) (k:Nat) (f:Addr) (fd:FuncData) (ps:List Str) (sp:Sp) (post:Shared->Value->Shared->Prop):Prop where
 len: ∀vs H Q E,sp vs H Q E->vs.length=ps.length
 run: ∀(A:Around) (outer:List Env) (s:Shared) (H:Hp) (args:Args) (us:List Value) (vs:List V) (Q:VK) (E:XK),cj k A->rA P w K mg base A outer s H->BindsTo s fd args (ps.zip us)->Vals vs us->sp vs H Q E->
  codeAny (model P w) A (.call (.ref f) args) (fun r s'=>CR fU outer P w H s Q E r s'/\ ∀u,r= .ok (.ret u)->post s u s') s
theorem ml.fn {P:Program} {w:World} {K:PySem.W.Frag} {mg:Str->Option Value} {base:Heap} {k:Nat} {f:Addr} {fd:FuncData} {ps:List Str} {sp:Sp} {post:Shared->Value->Shared->Prop}
  (F:ml P w K mg base k f fd ps sp post):ck P w K mg base fU k f fd ps sp:=⟨F.len,fun A outer s H args us vs Q E hr e0 hb hv hs=>codeAny_mono (F.run A outer s H args us vs Q E hr e0 hb hv hs) fun _ _ h=>h.1⟩
def Tw (p:Value->Shared->Prop) (fl:Flow) (s':Shared):Prop:=match fl with
 | .ret u=>p u s'
 | _=>False
def uV (X:Cx) (n:Nat) (p:Value->Shared->Prop) (st:List Stmt) (t:TS):Prop:=
 ∀(pins:List (Addr×Obj)) (s:Shared) (σ:St) (H:Hp) (D:Ends),Inv X pins σ H s->n<=s.toks->t D σ H->wpAny (model X.prog X.w) X.A (execs st X.env) (fun fl s'=>SP X pins D fl s'/\Tw p fl s') X.xe s
section
variable {P:Program} {w:World} {K:PySem.W.Frag} {mg:Str->Option Value} {base:Heap}
theorem B1.Ye {x qual:Str} {st:Stmt} {f:Addr} {fd:FuncData} {N ps:List Str} {k:Nat} {sp:Sp} {post:Shared->Value->Shared->Prop} (F:B1 K x qual st f fd) (S:aW N ps (ai st)) (len: ∀vs H Q E,sp vs H Q E->vs.length=ps.length)
  (hp0: ∃n r,ps=n::r/\(ai st).names.lookup n=some .local)
  (ni: ∀(cdv:Value) (A:Around) (outer:List Env) (s:Shared) (H:Hp) (vs:List V) (Q:VK) (E:XK),cj k (A.deeper (envOfC qual (ai st) s.heap.objs.size f cdv))->sp vs H Q E->
   ∃t:TS,uV (jv fU P w K mg base N qual (ai st) f cdv A outer s H E).BK (s.toks+1) (post s) (aJ st) t/\t { nx:=fun _ H'=>Q .cK H',rt:=Q } (start N vs) H):ml P w K mg base (k+1) f fd ps sp post:=by
 obtain ⟨oc,od,kV,doc,pm,an,cdv,ct,wM,rfl,lk,lX⟩:=F.ex
 refine ⟨len,fun A outer s H args us vs Q E hr e0 hb r yq=>?_⟩
 have KX:K.In s.heap:=e0.mod.G3.keeps fun b o e=>(e0.bs b o e).1
 have lim:s.heap.NoLimit:=e0.mod.nolimit.keeps fun b o e=>(e0.bs b o e).1
 obtain ⟨n0,r0,rfl,hl0⟩:=hp0
 obtain ⟨u0,ur,rfl⟩: ∃u0 ur,us=u0::ur:=by
  have h1:=len _ _ _ _ yq
  have h2:=r.length
  cases us with
  | nil=>rw[h1]at h2;simp at h2
  | cons u0 ur=>exact ⟨u0,ur,rfl⟩
 refine codeAny_call_function hr.depth (KX _ _ lk) rfl S.co S.gen rfl (PySem.W.codeRec_of KX lX) (hb _ _ _ _ ?_)
 rw[Qds]at*
 refine uU S.kind hl0 (fun ⟨n,v⟩ hy=>?_) fun env he s1 x Qy=>?_
 ·rcases S.par n (by rw[<-Qds]at hy;exact (Qea hy).1) with q | q
  ·exact .inl q
  ·exact .inr ⟨q,Qd7 _ _ _ (.inl q)⟩
 subst he
 rw[<-Qds]at x
 obtain ⟨t,ht,hq⟩:=ni cdv A outer s H vs Q E (hr.deeper _) yq
 have I0:Inv (jv fU P w K mg base N qual (ai st) f cdv A outer s H E) [] (start N vs) H s1:=ql S hr.hd e0 (len _ _ _ _ yq) r x
 refine ⟨lim.keeps x.toInCall.keep,codeAny_func (wpAny_mono (ht [] s1 _ _ _ (I0.ng _) Qy hq) (fun fl s' ⟨hs,hp⟩=>?_) fun _ _ z=>z.elim)⟩
 cases fl with
 | ret u=>
  obtain ⟨v,σ',H',J,rv,q⟩:=hs
  exact ⟨⟨v,H',J.os,J.bare,J.base,J.bg,rv,q⟩,fun u' e=>by cases e;exact hp⟩
 | next=>exact hp.elim
 | brk=>exact hp.elim
 | cont=>exact hp.elim
end
section
variable {X:Cx} {n:Nat} {p:Value->Shared->Prop}
theorem uW {i:Nat} {y:Str} {e:Expr} {te:TE} {pos pos':Pos} {rest:List Stmt} {u:TS} (hN:X.N.Nodup) (hi:X.N[i]? =some y) (hy:Loc X.env.scope y) (he:PE X e te) (jF:uV X n p rest u)
  (hs:swapsWith e (some (.Name y pos')) pos.line X.env=pure false:=by rfl) (hf:X.fn y=true\/X.env.scope.names.lookup y=some .local:=by first | exact .inl rfl | exact .inr rfl | assumption):
  uV X n p (.Assign [.Name y pos'] e pos::rest) (Jm (zL te (j7 i)) u):=by
 intro pins s σ H D I hn h
 refine wpAny_execs_cons (wpAny_Assign_Name (nR (he pins s σ H _ I h) fun v s1 zz=>?_) hs)
 obtain ⟨k1,w',H1,I1,r1,q1⟩:=zz
 refine nR (cL (Q:=fun _ s'=>Inv X pins (σ.set i (some w')) H1 s') (E:=X.xe) I1 hN hi hy r1 (fun s2 I2=>I2) hf) fun _ s2 zz=>?_
 obtain ⟨k2,I2⟩:=zz
 exact jF pins s2 _ H1 D I2 (by omega) q1
theorem FN {c:Expr} {a rest:List Stmt} {tc:TT} {t u:TS} {pos:Pos} (hc:PT X c tc) (ha:uV X n p a t) (jF:uV X n p rest u):uV X n p (.If c a [] pos::rest) (Jm (MM tc t G_) u):=by
 intro pins s σ H D I hn h
 refine wpAny_execs_cons (wpAny_If (nR (hc pins s σ H _ I h) fun d s1 zz=>?_))
 obtain ⟨k1,H1,I1,q1⟩:=zz
 cases d with
 | true=>
  refine wpAny_mono (ha pins s1 σ H1 _ I1 (by omega) q1) (fun fl s' ⟨a,b⟩=>?_) fun _ _ z=>z
  cases fl with
  | ret u=>exact ⟨a,b⟩
  | next=>exact b.elim
  | brk=>exact b.elim
  | cont=>exact b.elim
 | false=>exact wpAny_execs_nil (jF pins s1 σ H1 D I1 (by omega) q1)
theorem FP {value slice:Expr} {pins:List (Addr×Obj)} {s:Shared} {σ:St} {H:Hp} {x y:V} {v u:Value} {Q:VK} (I:Inv X pins σ H s) (rx:RelV x v) (ry:RelV y u) (h:yA x y H Q) (hs:subscripted slice false v u=operate [v,u] (getItem v u)):
  wpAny (model X.prog X.w) X.A (subscriptTail value slice v u) (fun r s'=>EP X pins σ Q r s'/\Tk s.toks s'.toks r) X.xe s:=by
 obtain ⟨l,i,c,rfl,rfl,hz,he,q⟩:=h
 have Yf:lZ (S l).cps.toList i=some c:=by rw[cX];exact he
 have C2:(S l).length<=sizeLine:=by rw[bj];exact hz
 generalize S l=z at Yf C2 rx hs
 obtain ⟨t,rfl⟩:=rx
 obtain ⟨t',rfl⟩:=ry
 obtain ⟨j,h1,h2,h3,h4,h5⟩:=j9 Yf
 have hl:z.cps.toList.length=z.length:=by simp[Str.length]
 rw[hl]at h1 h4 h5
 have hn:=iL
 exact tail_any (typeIs_str s z t) slot_str_getitem.lookup (getItem_str (c:=c) (by
  have e1:decide (i< -(2 ^ 63:Int))=false:=decide_eq_false (by omega)
  have e2:decide (i ≥ 2 ^ 63)=false:=decide_eq_false (by omega)
  rw[e1,e2,Qel]) (by rw[h1];simpa using h2) ⟨⟨.str ⟨#[c]⟩,H,I.tok _,⟨_,rfl⟩,q⟩,_,_,rfl,XA _,Qce _⟩) hs
theorem oa {a b:Expr} {ta tb:TE} {pos pos':Pos} (ha:PE X a ta) (hb:PE X b tb) (hs:mS b):uV X n (fun u s'=>Tk n s'.toks u) [.Return (some (.Subscript a b pos)) pos'] (Jo (Jx yA ta tb)):=by
 intro pins s σ H D I hn h
 refine wpAny_execs_cons (wpAny_Return_some (Subscript_ ?_))
 refine nR (ha pins s σ H _ I h) fun v s1 zz=>?_
 obtain ⟨k1,x,H1,I1,r1,q1⟩:=zz
 refine nR (hb pins s1 σ H1 _ I1 q1) fun u s2 zz=>?_
 obtain ⟨k2,y,H2,I2,r2,q2⟩:=zz
 refine bN (FP I2 r1 r2 q2 (hs _ _)) fun r s3 ⟨⟨z,H3,I3,r3,q3⟩,tk⟩=>⟨⟨z,σ,H3,I3,r3,q3⟩,?_⟩
 exact tk.mono (by omega) (XA _)
end
def Kp (X:Cx) (s s':Shared):Prop:= ∀m,s.heap.Ns X.env.locals m->s'.heap.Ns X.env.locals m
theorem Kp.trans {X:Cx} {s s' s2:Shared} (a:Kp X s s') (b:Kp X s' s2):Kp X s s2:=fun m h=>b m (a m h)
theorem Kp.un {X:Cx} {pins:List (Addr×Obj)} {s s':Shared} {σ:St} {H H':Hp} {fs ex:List Addr} (I:Inv X pins σ H s) (u:Un fs ex H H' s.heap s'.heap) (hx:X.env.locals∉ex):Kp X s s':=fun m ⟨o,es,ep,e,r⟩=>by
 obtain ⟨sl,e'⟩:=u.any e I.free hx
 exact ⟨_,es,ep,e',r⟩
def Mv (Y:Cx) (c:Expr) (tc:TT):Prop:= ∀(pins:List (Addr×Obj)) (s:Shared) (σ:St) (H:Hp) (Q:Bool->Hp->Prop),Inv Y pins σ H s->tc σ H Q->wpAny (model Y.prog Y.w) Y.A (isTrue c Y.env (eval c Y.env)) (fun b s'=>TP Y pins σ Q b s'/\s'.heap=s.heap) Y.xe s
def Tx (X:Cx) (s:Shared) (pins:List (Addr×Obj)) (σ:St) (tg:Expr) (R:It->Hp->Prop) (Mf:Value) (s2:Shared):Prop:=
 ∃(it:Addr) (fp:List Addr) (tn:Nat->Heap->Prop) (J:It) (H':Hp),Mf= .ref it/\Inv X pins σ H' s2/\HM X.prog X.w X.K tg J fp it tn/\tn 0 s2.heap/\(∀b∈fp,ju X pins H' b)/\R J H'/\s.toks<=s2.toks/\Kp X s s2
def Mw (X:Cx) (tg iter:Expr) (wi:TI):Prop:=
 ∀(pins:List (Addr×Obj)) (s:Shared) (σ:St) (H:Hp) (R:It->Hp->Prop),Inv X pins σ H s->wi σ H R->
  wpAny (model X.prog X.w) X.A (eval iter X.env) (fun v s1=>wpAny (model X.prog X.w) X.A (pyIter v) (Tx X s pins σ tg R) X.xe s1) X.xe s
theorem xo {X:Cx} {iter cond:Expr} {xb:Str} {bp xp:Pos} {j:Nat} {scope:Scope} {pos:Pos} {wi:TI} {tc:TT} {Nc:List Str} {ix:List (Option Nat)} (hi:Mw X (.Name xb bp) iter wi) (dX:X.calm=true) (mU:gG X scope Nc ix)
  (dD: ∀y∈scope.names,y.2≠ .cell) (dE:scope.kind= .function) (ny: ∀y∈scope.names,y.2= .free->X.env.kindOf y.1=some .cell\/X.env.kindOf y.1=some .free)
  (FQ:Nc.Nodup) (HV:Nc[j]? =some xb) (uP: ∀C s H fp,(aQ X scope C Nc s H fp).env.kindOf xb=some .local) (hCc: ∀C s H fp,Mv (aQ X scope C Nc s H fp) cond tc)
  (Lc:(xb==("__debug__":Str))=false) (Ce:(xb==("__classdict__":Str))=false)
  {pins:List (Addr×Obj)} {s:Shared} {σ:St} {H:Hp} {Q:VK} (I:Inv X pins σ H s) (h:ke wi ix (j7 j) tc (kP j) σ H Q) {RR:Value->Addr->Result->Shared->Prop}
  (Sm: ∀(D C:Addr) (oC:Obj) (m:Str->Option Value) (H':Hp) (s':Shared) (aD:List Value) (nn:Nat),s'.heap.get? C=some oC->s'.heap.Ns C m->ju X pins H' C->Inv X (pins++[(C,oC)]) σ H' s'->D≠C->s'.heap.get? D=some { cls:= .type "list",data:= .seq aD.toArray nn }->(∀u∈aD,Tk s.toks s'.toks u)->Kp X s s'->Q (.ref D) H'->RR (.ref D) C (.ok .next) s'):
  wpAny (model X.prog X.w) X.A (eval iter X.env) (fun v s1=>wpAny (model X.prog X.w) X.A (pyIter v) (fun it s2=>wpAny (model X.prog X.w) X.A (newList []) (fun acc s3=>
   wpAny (model X.prog X.w) X.A (newFunctionEnv scope X.env.globals (fV X.env scope.names []) [] X.env.qual none .none (some X.env)) (fun B2 s4=>
    codeAny (model X.prog X.w) X.A (.compStart (.ListComp (.Name xb xp) [⟨.Name xb bp,iter,[cond],0⟩] scope pos) 0 it acc { B2 with scope:=relabel scope X.env }) (RR acc B2.locals) s4) X.xe s3) X.xe s2) X.xe s1) X.xe s:=by
 refine bN (hi pins s σ H _ I h) fun v s1 h1=>bN h1 fun Mf s2 h2=>?_
 obtain ⟨it,fp,tn,J,H2,e,I2,TT,gF,f2,⟨W,⟨m0,w0⟩,turn⟩,tT,QU⟩:=h2
 have T:=TT.toTurn
 subst e
 refine wpAny_newObj_type (wpAny_newFunctionEnv dD (by intro y hy;simp at hy) (fun h₁ wU rK=>?_) dE)
 dsimp only at wU rK ⊢
 generalize By:s2.heap.push { cls:= .type "list",dict:=none,data:= .seq ([]:List Value).toArray }=P2 at wU rK ⊢
 have hC:P2.objs.size=s2.heap.objs.size+1:=by rw[<-By,Qbx]
 have wa:s2.heap.objs.size≠P2.objs.size:=by rw[hC];exact Qa0 (Qce _)
 have wV:s2.heap.objs.size<=P2.objs.size:=by rw[hC];exact Qco _
 have Ed: ∀b,b<s2.heap.objs.size->b≠P2.objs.size:=fun b hb=>by rw[hC];exact Qa0 (Qb9 hb)
 have old: ∀b o,s2.heap.get? b=some o->h₁.get? b=some o:=fun b o e=>rK.extBut b o (Ed b (Qac e)) (JR _ (By▸JR _ e))
 have rM:h₁.get? s2.heap.objs.size=some { cls:= .type "list",data:= .seq ([]:List Value).toArray }:=rK.extBut _ _ wa (JR _ (By▸Qai _ rfl))
 have Ni:tn 0 h₁:=T.keep 0 _ _ gF fun b _ o e=>old b o e
 have E2: ∀b∈fp, ∃o,s2.heap.get? b=some o:=fun b hb=>let ⟨o,e,_⟩:=T.obj 0 _ gF b hb;⟨o,e⟩
 have Nj: ∀b∈fp,s2.heap.objs.size≠b:=fun b hb=>let ⟨o,e⟩:=E2 b hb;Qb4 (Qac e)
 have IY:=nv I2 mU dD dE ny f2 E2 (t':=s2.toks+([]:List (Str×Value)).length) wV wU old
 have JS: ∀b,s2.heap.objs.size<=b->b∉jO X.stack:=fun b hb hs=>by
  rcases XB.mp (I2.hZ b hs) with z | z
  ·exact absurd (Qaf I2.lt hb) (by rw[z];exact Qb1 _)
  ·exact I2.EF hb z
 have iw: ∀{x:Str} {c:Addr},(fV X.env scope.names []).lookup x=some c->X.env.cells.lookup x=some c:=fun {x c} e=>i8 scope.names [] (fun y d q=>by simp at q) e
 have B3: ∀x c,(fV X.env scope.names []).lookup x=some c->c≠s2.heap.objs.size:=fun x c e z=>by
  obtain ⟨v,q⟩:=I2.cell x c (iw e)
  exact absurd (q.lt) (by rw[z];exact Qb1 _)
 have fY: ∀{pl:List (Addr×Obj)} {H':Hp},(∀p∈pl,p.1=s2.heap.objs.size)->(∀b∈fp,H' b=none)-> ∀b∈fp,ju (aQ X scope P2.objs.size Nc s2 H2 fp) pl H' b:=fun {pl H'} fu hn b hb=>by
  refine ⟨hn b hb,?_,?_, .inl hb,fun x c e=>(f2 b hb).2.2.2.2.1 x c (iw e),fun p hp=>?_⟩
  ·obtain ⟨o,e⟩:=E2 b hb
   exact Ed b (Qac e)
  ·intro hs
   rcases XB.mp (I2.hZ b hs) with z | z
   ·exact (f2 b hb).2.1 z
   ·exact (f2 b hb).2.2.1 z
  ·rw[fu p hp]
   exact Nj b hb
 have loop: ∀s₃:Shared,s₃={ s2 with heap:=h₁,toks:=s2.toks+([]:List (Str×Value)).length }->
   codeAny (model X.prog X.w) X.A (.compLoop (.ListComp (.Name xb xp) [⟨.Name xb bp,iter,[cond],0⟩] scope pos) 0 (.ref it) (.ref s2.heap.objs.size) (compEnvC scope (fV X.env scope.names []) P2.objs.size X.env)) (RR (.ref s2.heap.objs.size) P2.objs.size) s₃:=by
  rintro s₃ rfl
  refine kc (fun n s'=> ∃i acc aD nn H',Inv (aQ X scope P2.objs.size Nc s2 H2 fp) [] (gb σ ix) H' s'/\tn i s'.heap/\(∀b∈fp,H' b=none)/\
   s'.heap.get? s2.heap.objs.size=some { cls:= .type "list",data:= .seq (aD:List Value).toArray nn }/\Vals acc aD/\H' s2.heap.objs.size=none/\W i n acc H'/\s.toks<=s'.toks/\ ∀u∈aD,Tk s.toks s'.toks u) ?_ m0
   ⟨0,[],[],0,H2,IY,Ni,fun b hb=>(f2 b hb).1,rM, .nil,I2.bg.fresh (XA _),w0,tT,fun _ h=>absurd h Qam⟩
  rintro n s3 ⟨i,acc,aD,nn,H3,I3,rq,Hd,eD,rv,nD,w3,p3,Tz⟩
  obtain ⟨hz,alt⟩:=turn i n acc H3 w3
  have IP:Inv (aQ X scope P2.objs.size Nc s2 H2 fp) [(s2.heap.objs.size,{ cls:= .type "list",data:= .seq aD.toArray nn })] (gb σ ix) H3 s3:=I3.h_ fun p hp=>by
   have e:p=(s2.heap.objs.size,_):=QB.mp hp
   subst e
   refine ⟨eD,nD,wa,JS _ (XA _),fun v z=>?_⟩
   have z':Data.seq aD.toArray nn=Data.cell v:=z
   cases z'
  have fu: ∀p∈[(s2.heap.objs.size,({ cls:= .type "list",data:= .seq aD.toArray nn }:Obj))],p.1=s2.heap.objs.size:=fun p hp=>by
   have e:p=(s2.heap.objs.size,_):=QB.mp hp
   rw[e]
  rcases alt with ⟨stop,fin⟩ | ⟨go,step⟩
  ·refine nR (T.done (aQ X scope P2.objs.size Nc s2 H2 fp) rfl rfl rfl dX i _ s3 _ H3 yx IP (fY fu Hd) rq stop) fun r s4 zz=>?_
   obtain ⟨k4,hr,I4⟩:=zz
   subst hr
   obtain ⟨m,hn,_⟩:=id I4.loc
   obtain ⟨oC,es,ep,eC,dC,_⟩:=id hn
   have QD:=(I4.pin (s2.heap.objs.size,_) (Qag _ (QB.mpr rfl))).1
   have JT:=fin _ nD
   have kp4:Kp X s2 s4:=Kp.un I2 I4.base fun z=>(f2 _ z).2.1 rfl
   refine Sm _ _ oC m _ s4 aD nn eC hn ?_ (qt I2 I4 f2 (XA _) wV wa QD rv (Qc7 hz) nD eC fun v z=>?_) wa QD (fun u hu=>(Tz u hu).mono (XA _) k4) (QU.trans kp4) JT
   ·refine I2.kW wV ?_
    rw[ao (Ne.symm wa)]
    exact I4.free
   ·rw[dC]at z;cases z
  ·refine bN (TT.HN (aQ X scope P2.objs.size Nc s2 H2 fp) rfl rfl rfl dX i _ s3 _ H3 yx IP (fY fu Hd) rq go) fun r s4 zz=>?_
   obtain ⟨u,hr,⟨z4,QT⟩,k4,h4⟩:=zz
   subst hr
   refine nR h4 fun _ s5 zz=>?_
   obtain ⟨k5,x,H5,I5,r5,y5,jA,MW⟩:=zz
   have Jw:=I5.pinned (fY fu MW) (T.obj _ _ jA)
   have wk:=(step x H5 y5).1
   have q6:tc _ H5 _:=(step x H5 y5).2
   obtain ⟨mm,hnn,_⟩:=id Jw.loc
   have m9:((aQ X scope P2.objs.size Nc s2 H2 fp).env.scope.kind== .class||((aQ X scope P2.objs.size Nc s2 H2 fp).env.scope.kind== .module&&(aQ X scope P2.objs.size Nc s2 H2 fp).env.locals != (aQ X scope P2.objs.size Nc s2 H2 fp).env.globals))=false:=by rw[Jw.ok.kind];rfl
   refine wpAny_mono (wpAny_assign_Name (fz (Q:=fun _ s'=>Inv (aQ X scope P2.objs.size Nc s2 H2 fp) _ ((gb σ ix).set j (some x)) H5 s') (Q':=fun _ s'=>(∃m,s'.heap.Ns P2.objs.size m/\m xb=some u)/\s'.toks=s5.toks+1)
    (cL (E:=yx) Jw FQ HV (.inl (uP P2.objs.size s2 H2 fp)) r5 (fun s' I'=>I') (.inr (uP P2.objs.size s2 H2 fp)))
    (wpAny_storeName_local (E:=yx) (uP P2.objs.size s2 H2 fp) hnn (fun h' EH hs=>⟨⟨_,EH,by rw[if_pos rfl]⟩,rfl⟩) m9))) (fun _ s6 ⟨I6,⟨m6,n6,e6⟩,k6⟩=>?_) fun _ _ z=>z.1.elim
   generalize hσ6:(gb σ ix).set j (some x)=σ6 at I6 q6 wk
   have again: ∀{H9:Hp} {s9:Shared} {m':Nat},Inv (aQ X scope P2.objs.size Nc s2 H2 fp) ([(s2.heap.objs.size,({ cls:= .type "list",data:= .seq aD.toArray nn }:Obj))]++kY fp s5.heap) σ6 H9 s9->
     (s9.heap.get? s2.heap.objs.size=some { cls:= .type "list",data:= .seq aD.toArray nn }/\H9 s2.heap.objs.size=none)/\tn (i+1) s9.heap/\(∀b∈fp,H9 b=none)/\Inv (aQ X scope P2.objs.size Nc s2 H2 fp) [] (gb σ ix) H9 s9:=fun {H9 s9 m'} I9=>by
    have pD:=I9.pin (s2.heap.objs.size,_) (Qag _ (Qbr _ (QB.mpr rfl)))
    refine ⟨⟨pD.1,pD.2.1⟩,T.keep _ _ _ jA fun b hb o e=>(I9.pin (b,o) (Qag _ (Qag _ (eI hb e)))).1,fun b hb=>?_,?_⟩
    ·obtain ⟨o,e,d⟩:=T.obj _ _ jA b hb
     exact (I9.pin (b,o) (Qag _ (Qag _ (eI hb e)))).2.1
    ·exact (I9.weak wk.len fun i v e=>wk.get e).h_ fun p hp=>absurd hp (by simp)
   refine wpAny_tests_one (nR (hCc _ s2 H2 fp _ s6 σ6 H5 _ I6 q6) fun b s7 zz=>?_)
   obtain ⟨k7,⟨H7,I7,q7⟩,hh7⟩:=zz
   have k36:s3.toks<s7.toks:=by omega
   cases b with
   | false=>
    rw[if_neg Qaj]at q7 ⊢
    obtain ⟨m',hm,w7⟩:=q7
    obtain ⟨⟨e7,n7⟩,t7,f7,J7⟩:=again (m':=0) I7
    exact ⟨m',hm,i+1,acc,aD,nn,H7,J7,t7,f7,e7,rv,n7,w7,by omega,fun u hu=>(Tz u hu).mono (XA _) (by omega)⟩
   | true=>
    rw[if_pos rfl]at q7 ⊢
    obtain ⟨v,ev,m',hm,w8⟩:=q7
    refine bN (iX (pos:=xp) I7 HV (.inl (uP _ s2 H2 fp)) ev Lc Ce) fun y s8 zz=>?_
    obtain ⟨es,r8,mx⟩:=zz
    subst es
    have n7:s8.heap.Ns P2.objs.size m6:=by rw[hh7];exact n6
    have ey:some y=some u:=(mx (uP _ s2 H2 fp) m6 n7).symm.trans e6
    cases ey
    obtain ⟨⟨e8,n8⟩,t8,f8,J8⟩:=again (m':=0) I7
    refine wpAny_list_append_plain (items:=aD.toArray) ⟨nn,e8⟩ (fun h9 Sn Nk=>?_) (by rw[Qad, <-rv.length];exact Qc7 hz)
    obtain ⟨n9,e9⟩:=Sn
    refine ⟨m',hm,i+1,acc++[v],aD++[u],n9,H7,J8.turned (t':=s8.toks) (fun b o hb e=>(Nk.2 b hb).trans e) n8 wa (.inr (XA _)) B3 (fun p hp=>absurd hp (by simp[aQ])),?_,f8,?_,rv.append (.cons r8 .nil),n8,w8,?_,fun z C2=>?_⟩
    ·exact T.keep _ _ _ t8 fun b hb o e=>(Nk.2 b (Ne.symm (Nj b hb))).trans e
    ·simpa using e9
    ·show s.toks<=s8.toks
     omega
    ·show Tk s.toks s8.toks z
     rcases Qaa.mp C2 with g | g
     ·exact (Tz z g).mono (XA _) (by omega)
     ·rw[QB.mp g,QT]
      exact ⟨_,_,rfl,p3,k36⟩
 exact codeAny_compStart_list (loop _ rfl) (T.self _ 0 _ _ _ Ni (loop _ rfl))
section
variable {X:Cx}
theorem Inv.freeze {pins:List (Addr×Obj)} {s:Shared} {σ:St} {H:Hp} {D:Addr} {xs:List V} {o:Obj} (I:Inv X pins σ H s) (hD:H D=some (.lst xs)) (ho:s.heap.get? D=some o):Inv X pins σ (upd H D (.j6 o (.lst xs))) s:=by
 have nD: ∀{b:Addr},H b=none->upd H D (.j6 o (.lst xs)) b=none:=fun {b} e=>by rw[ao (fun z=>by rw[z,hD]at e;cases e)];exact e
 have kD: ∀{b:Addr} {u:HO},H b=some u->(∀ys,u≠ .lst ys)->upd H D (.j6 o (.lst xs)) b=some u:=fun {b u} e n=>by rw[ao (fun z=>by rw[z,hD]at e;cases e;exact n _ rfl)];exact e
 refine ⟨I.ok,I.os,I.bare,⟨I.base.keep,I.base.slot,fun b ob e n hx=>nD (I.base.free b ob e n hx),I.base.there,fun b ys e=>kD (I.base.hX b ys e) (fun _ z=>by cases z),fun b ob u e=>kD (I.base.iG b ob u e) (fun _ z=>by cases z),fun b ps e=>?_⟩,I.loc,I.cell,nD I.free,fun x c e=>nD (I.dQ x c e),fun p hp=>?_,fun b u e=>?_,I.len⟩
 ·obtain ⟨more,q⟩:=I.base.jN b ps e
  exact ⟨more,kD q fun _ z=>by cases z⟩
 ·obtain ⟨a1,a2,a3⟩:=I.pin p hp
  exact ⟨a1,nD a2,a3⟩
 ·have jt: ∀{c:Addr} {v:HO},bK X.prog X.w H s.heap c v->bK X.prog X.w (upd H D (.j6 o (.lst xs))) s.heap c v:=fun {c v} q=>q.jt (fun _ _ _ z=>z) (fun b z=>kD z fun _ z'=>by cases z') (fun b ys z=>kD z fun _ z'=>by cases z')
  by_cases hb:b=D
  ·subst hb
   rw[af]at e
   cases e
   exact ⟨ho,jt (I.bg b _ hD)⟩
  ·rw[ao hb]at e
   exact jt (I.bg b u e)
theorem C6 {tg:Expr} {i:Nat} {y:Str} {yp:Pos} (hN:X.N[i]? =some y) (hv:x_ X.env.scope y) (Ou:(y==("__debug__":Str))=false:=by decide) (HW:(y==("__classdict__":Str))=false:=by decide):Mw X tg (.Name y yp) (JZ (kP i)):=by
 intro pins s σ H R I h
 obtain ⟨v,e1,l,rfl,q⟩:=h
 refine bN (iX (pos:=yp) I hN hv e1 Ou HW) fun u s1 zz=>?_
 obtain ⟨es,r1,_⟩:=zz
 subst es
 obtain ⟨t,rfl⟩:=r1
 refine wpAny_pyIter_strU ?_
 refine ⟨s1.heap.objs.size,[s1.heap.objs.size],_,_,H,rfl,I.kept (t':=s1.toks) fun b o e=>JR _ e,qL _ l t,⟨_,Qai _ rfl,rfl,rfl⟩,fun b hb=>?_,q,XA _,fun m hn=>hn.keeps fun b o e=>JR _ e⟩
 have e:b=s1.heap.objs.size:=by simpa using hb
 subst e
 exact I.kW (XA _) (I.bg.fresh (XA _))
theorem Aq {tg:Expr} {x:Str} {kk:Nat} {sq:Pos} (l:List Nat) (hx:x=S l):Mw X tg (.Constant (.str x) kk sq) (JZ (tC (.str (S l)))):=by
 subst hx
 intro pins s σ H R I h
 obtain ⟨l',e1,q⟩:=h
 have el:S l=S l':=by injection e1
 have I1:Inv X pins σ H { s with toks:=s.toks+1 }:=I.tok _
 refine Qd5 (k:=kk) (pos:=sq) ?_
 rw[el]
 refine wpAny_pyIter_strU ?_
 refine ⟨s.heap.objs.size,[s.heap.objs.size],_,_,H,rfl,I1.kept (t':=s.toks+1) fun b o e=>JR _ e,qL _ l' s.toks,⟨_,Qai _ rfl,rfl,rfl⟩,fun b hb=>?_,q,Qco _,fun m hn=>hn.keeps fun b o e=>JR _ e⟩
 have e:b=s.heap.objs.size:=by simpa using hb
 subst e
 exact I1.kW (XA _) (I1.bg.fresh (XA _))
theorem Ld {Y:Cx} {i:Nat} {x cs:Str} {xp cV pos:Pos} {kk:Nat} (l:List Nat) (hl:cs=S l) (hN:Y.N[i]? =some x) (hv:x_ Y.env.scope x) (hd:(x==("__debug__":Str))=false:=by decide) (hc:(x==("__classdict__":Str))=false:=by decide)
  (hm:behindInMarks .In (.Constant (.str cs) kk cV)=false:=by with_unfolding_all rfl):Mv Y (.Compare (.Name x xp) [.In] [.Constant (.str cs) kk cV] pos) (BR (Jx Nm (kP i) (tC (.str (S l))))):=by
 subst hl
 intro pins s σ H Q I h
 obtain ⟨v,e1,c,l',rfl,e2,k,ek,q⟩:=h
 have el:S l=S l':=by injection e2
 refine wpAny_isTrue_Compare1 (bN (iX (pos:=xp) I hN hv e1 hd hc) fun u s1 zz=>?_) hm
 obtain ⟨es,r1,_⟩:=zz
 subst es
 obtain ⟨t,rfl⟩:=r1
 refine Qd5 (k:=kk) (pos:=cV) (in_str (wpAny_truthy_bool ?_))
 have e:=StrLaws.found_one (S l') c
 rw[cX]at e
 rw[el,show (S [c])=(⟨#[c]⟩:Str) from rfl,e]
 cases ek
 exact ⟨⟨H,I.tok _,q⟩,rfl⟩
theorem FR {Y:Cx} {i j:Nat} {x z:Str} {xp zp pos:Pos} (hN:Y.N[i]? =some x) (hv:x_ Y.env.scope x) (hNz:Y.N[j]? =some z) (hvz:x_ Y.env.scope z) (hd:(x==("__debug__":Str))=false:=by decide) (hc:(x==("__classdict__":Str))=false:=by decide)
  (hdz:(z==("__debug__":Str))=false:=by decide) (hcz:(z==("__classdict__":Str))=false:=by decide)
  (hm:behindInMarks .NotIn (.Name z zp)=false:=by with_unfolding_all rfl):Mv Y (.Compare (.Name x xp) [.NotIn] [.Name z zp] pos) (BR (Jx Hn (kP i) (kP j))):=by
 intro pins s σ H Q I h
 obtain ⟨v,e1,v2,e2,c,l',rfl,rfl,k,ek,q⟩:=h
 refine wpAny_isTrue_Compare1 (bN (iX (pos:=xp) I hN hv e1 hd hc) fun u s1 zz=>?_) hm
 obtain ⟨es,r1,_⟩:=zz
 subst es
 obtain ⟨t,rfl⟩:=r1
 refine bN (iX (pos:=zp) I hNz hvz e2 hdz hcz) fun u s2 zz=>?_
 obtain ⟨es,r2,_⟩:=zz
 subst es
 obtain ⟨t2,rfl⟩:=r2
 refine notIn_str (wpAny_truthy_bool ?_)
 have e:=StrLaws.found_one (S l') c
 rw[cX]at e
 rw[show (S [c])=(⟨#[c]⟩:Str) from rfl,e]
 cases ek
 exact ⟨⟨H,I,q⟩,rfl⟩
def Yg (X:Cx) (pins:List (Addr×Obj)) (σ:St) (Q:VK) (s:Shared) (u:Value) (s':Shared):Prop:=
 ∃D H' aD nn,u= .ref D/\Inv X pins σ H' s'/\s'.heap.get? D=some { cls:= .type "list",data:= .seq (aD:List Value).toArray nn }/\(∀u∈aD,Tk s.toks s'.toks u)/\Kp X s s'/\Q (.ref D) H'
theorem uX {iter cond:Expr} {xb:Str} {bp xp:Pos} {j:Nat} {scope:Scope} {pos:Pos} {wi:TI} {tc:TT} (Nc:List Str) (ix:List (Option Nat)) (hi:Mw X (.Name xb bp) iter wi) (mU:gG X scope Nc ix)
  (FQ:Nc.Nodup) (HV:Nc[j]? =some xb) (hC: ∀C s H fp,Mv (aQ X scope C Nc s H fp) cond tc) (uP: ∀C s H fp,(aQ X scope C Nc s H fp).env.kindOf xb=some .local:=by intro _ _ _ _;rfl) (bg:jS X scope=true:=by rfl) (dX:X.calm=true:=by rfl)
  (hs: ∀x,foldedSetIterable iter X.env x=pure x:=by intro _;rfl) (Lc:(xb==("__debug__":Str))=false:=by decide) (Ce:(xb==("__classdict__":Str))=false:=by decide)
  {pins:List (Addr×Obj)} {s:Shared} {σ:St} {H:Hp} {Q:VK} (I:Inv X pins σ H s) (h:ke wi ix (j7 j) tc (kP j) σ H Q):wpAny (model X.prog X.w) X.A (eval (.ListComp (.Name xb xp) [⟨.Name xb bp,iter,[cond],0⟩] scope pos) X.env) (Yg X pins σ Q s) X.xe s:=by
 obtain ⟨dD,dE,ny,nA⟩:=ie bg
 rw[eval_ListComp]
 have Hl: ∀y∈scope.names,y.2= .free-> ∃c,X.env.cells.lookup y.1=some c:=fun y hy e=>I.ok.has y.1 (ny y hy e)
 refine wpAny_comprehension_free (use:=none) rfl hs (gw Hl) dE nA (xo hi dX mU dD dE ny FQ HV uP hC Lc Ce I h (RR:=fun acc C=>compPost (model X.prog X.w) X.A X.xe none (Yg X pins σ Q s) acc C) ?_)
 intro D C oC m H' s' aD nn eC hn fC I' wa eD tk kp q
 refine ⟨m,hn,fun h' JU=>⟨D,H',aD,nn,rfl,?_,(JU.2 D wa).trans eD,tk,fun m' Ms=>(kp m' Ms).sameBut JU (Ne.symm fC.2.1),q⟩⟩
 exact I'.gE.turned (t':=s'.toks) (fun b o hb e=>(JU.2 b hb).trans e) fC.1 fC.2.1 fC.2.2.2.1 fC.2.2.2.2.1 fC.2.2.2.2.2
end
section
variable {X:Cx}
def FU (lo:Nat) (u:Value) (s':Shared):Prop:= ∃q aD nn,u= .ref q/\s'.heap.get? q=some { cls:= .type "list",data:= .seq (aD:List Value).toArray nn }/\ ∀v∈aD,Tk lo s'.toks v
theorem xq {pins:List (Addr×Obj)} {s:Shared} {σ:St} {H:Hp} {D:Addr} {aD:List Value} {nn lo:Nat} {Q:VK} (I:Inv X pins σ H s) (eD:s.heap.get? D=some { cls:= .type "list",data:= .seq aD.toArray nn }) (tk: ∀u∈aD,Tk lo s.toks u) (h:wZ X.K [.ref D] H Q):
  wpAny (model X.prog X.w) X.A (call (.builtin "sorted") [.ref D]) (fun u s'=>EP X pins σ Q u s'/\FU lo u s') X.xe s:=by
 obtain ⟨p,ls,hp,hq,hn,q⟩:=id h
 cases hp
 obtain ⟨iM,rv,pl,hz⟩:=I.list hq
 have hlen:iM.length=ls.length:=by rw[<-rv.length,kb]
 have e2:iM=aD:=by
  obtain ⟨o,ho,hc,m,hd⟩:=pl.isList
  rw[eD]at ho
  cases ho
  have:=congrArg Array.toList (Data.seq.inj hd).1
  simpa using this.symm
 subst e2
 have r0:Vals [V.ref D] [Value.ref D]:= .cons (show RelV (.ref D) (.ref D) from rfl) .nil
 refine wpAny_mono (fz (E:=X.xe) (E':=X.xe) (ki X.K rfl pins s σ H _ _ Q I r0 h) ?_) (fun _ _ z=>z) fun _ _ z=>z.1
 have hS:=kh rv
 refine sortedK strKind_oneLt pl.isList hS.keysOf (fun v₁ v₂ rest e=>keyKind_strs (by rw[<-e];exact hS)) (by omega) fun aL hp hs=>?_
 obtain ⟨e,he⟩:=sortedAll_at s.heap iM ((arrOf aL).map (·.2))
 refine ⟨_,((arrOf aL).map (·.2)).toList,e,rfl,by rw[Array.toArray_toList];exact he,fun v hv=>?_⟩
 have hl:(arrOf aL).toList.Perm (iM.zip iM):=by rw[<-pairsOf_toList];exact Qa9.mp hp
 rw[Array.toList_map]at hv
 obtain ⟨pp,Ep,rfl⟩:=Qa5.mp hv
 have:=mem_zip_self (hl.mem_iff.mp Ep)
 exact tk _ (this.1▸this.2)
theorem og {n:Nat} {iter cond:Expr} {xb:Str} {bp xp p pos pos' cV:Pos} {j:Nat} {scope:Scope} {wi:TI} {tc:TT} (Nc:List Str) (ix:List (Option Nat)) (hg:Gl X "sorted") (hm:X.mg "sorted"=none) (hi:Mw X (.Name xb bp) iter wi) (mU:gG X scope Nc ix)
  (FQ:Nc.Nodup) (HV:Nc[j]? =some xb) (hC: ∀C s H fp,Mv (aQ X scope C Nc s H fp) cond tc) (uP: ∀C s H fp,(aQ X scope C Nc s H fp).env.kindOf xb=some .local:=by intro _ _ _ _;rfl) (bg:jS X scope=true:=by rfl) (dX:X.calm=true:=by rfl)
  (hs: ∀x,foldedSetIterable iter X.env x=pure x:=by intro _;rfl) (Lc:(xb==("__debug__":Str))=false:=by decide) (Ce:(xb==("__classdict__":Str))=false:=by decide):
  uV X n (FU n) [.Return (some (.Call (.Name "sorted" p) [.ListComp (.Name xb xp) [⟨.Name xb bp,iter,[cond],0⟩] scope cV] [] pos)) pos'] (Jo (R7 (wZ X.K) (BS (ke wi ix (j7 j) tc (kP j)) JC))):=by
 intro pins s σ H D I hn h
 refine wpAny_execs_cons (wpAny_Return_some (wpAny_Call_Name_kw (gv I hg hm boot_sorted ?_ (by decide) (by decide))))
 refine Qdp ?_ rfl rfl
 refine Qb6 (bN (uX Nc ix hi mU FQ HV hC uP bg dX hs Lc Ce I h) fun u s1 ⟨D',H1,aD,nn,e,I1,eD,tk,kp,q⟩=>Qda ?_)
 subst e
 refine bN (xq (lo:=n) I1 eD (fun u hu=>(tk u hu).mono hn (XA _)) q) fun u s2 zz=>?_
 obtain ⟨⟨v,H2,I2,r2,q2⟩,ls⟩:=zz
 exact ⟨⟨v,σ,H2,I2,r2,q2⟩,ls⟩
theorem xr {k:Nat} {f:Addr} {fd:FuncData} {ps:List Str} {sp:Sp} {E:XK} {post:Shared->Value->Shared->Prop} {fx y:Str} {p pos yp:Pos} {i:Nat} {v:V} {pins:List (Addr×Obj)} {s:Shared} {σ:St} {H:Hp} {Q:VK}
  (F:ml X.prog X.w X.K X.mg X.base k f fd ps sp post) (hr:cj k X.A) (hg:Gl X fx) (hm:X.mg fx=some (.ref f)) (hk:PySem.W.keepIn X.K (.ref f)=true) (hb:Binds X.K fd ps [])
  (hN:X.N[i]? =some y) (hv:x_ X.env.scope y) (Ou:(y==("__debug__":Str))=false) (HW:(y==("__classdict__":Str))=false) (mG:(fx==("__debug__":Str))=false)
  (I:Inv X pins σ H s) (e:σ[i]? =some (some v)) (h:sp [v] H Q E):
  wpAny (model X.prog X.w) X.A (eval (.Call (.Name fx p) [.Name y yp] [] pos) X.env) (fun u s'=>EP X pins σ Q u s'/\post s u s'/\Kp X s s'/\s.toks<=s'.toks) X.xe s:=by
 refine wpAny_Call_Name_kw (f_ I hg hm ?_ mG)
 refine Qdf (h₀:=X.base) I.ok.mod.G3 hk (Q:=fun u s'=>EP X pins σ Q u s'/\post s u s'/\Kp X s s'/\s.toks<=s'.toks) (Qb6 (bN (iX I hN hv e Ou HW) fun u s1 ⟨e1,r1,_⟩=>Qda ?_)) rfl rfl
 subst e1
 refine ⟨I.iH,?_⟩
 have hl:([u]:List Value).length=ps.length:=by have:=F.len _ _ _ _ h;simpa using this
 have FV:=hb s1 [u] I.iH (by simpa using hl)
 rw[Qal]at FV
 refine wpAny_call (codeAny_mono (codeAny_toks_of (XA _) (F.run X.A X.stack s1 H ⟨[u],[]⟩ [u] [v] Q E hr I.BU FV (.cons r1 .nil) h)) fun r s' ⟨hle,hq,hp⟩=>?_)
 cases r with
 | error e=>exact False.elim hq
 | ok fl=>
  cases fl with
  | ret u=>
   obtain ⟨_,_,_,_,un,_⟩:=id hq
   exact ⟨I.after hq,hp u rfl,Kp.un I un (by simp),hle⟩
  | next=>exact False.elim hq
  | brk=>exact False.elim hq
  | cont=>exact False.elim hq
theorem Le {k:Nat} {f:Addr} {fd:FuncData} {ps:List Str} {sp:Sp} {E:XK} {fx y:Str} {p pos yp cp:Pos} {kk:Nat} {i:Nat} {c:Int} {v:V} {pins:List (Addr×Obj)} {s:Shared} {σ:St} {H:Hp} {Q:VK}
  (F:ck X.prog X.w X.K X.mg X.base fU k f fd ps sp) (hr:cj k X.A) (hg:Gl X fx) (hm:X.mg fx=some (.ref f)) (hk:PySem.W.keepIn X.K (.ref f)=true) (hb:Binds X.K fd ps [])
  (hN:X.N[i]? =some y) (hv:x_ X.env.scope y) (Ou:(y==("__debug__":Str))=false) (HW:(y==("__classdict__":Str))=false) (mG:(fx==("__debug__":Str))=false)
  (I:Inv X pins σ H s) (e:σ[i]? =some (some v)) (h:sp [v, .int c] H Q E):
  wpAny (model X.prog X.w) X.A (eval (.Call (.Name fx p) [.Name y yp, .Constant (.int c) kk cp] [] pos) X.env) (fun u s'=>EP X pins σ Q u s'/\Kp X s s') X.xe s:=by
 refine wpAny_Call_Name_kw (f_ I hg hm ?_ mG)
 refine Qdf (h₀:=X.base) I.ok.mod.G3 hk (Q:=fun u s'=>EP X pins σ Q u s'/\Kp X s s') (Qb6 (bN (iX I hN hv e Ou HW) fun u s1 ⟨e1,r1,_⟩=>Qb6 (wpAny_Constant_int (k:=kk) (pos:=cp) (Qda ?_)))) rfl rfl
 subst e1
 have I1:Inv X pins σ H { s1 with toks:=s1.toks+1 }:=I.tok _
 refine ⟨I1.iH,?_⟩
 have hl:([u, .int c s1.toks]:List Value).length=ps.length:=by have:=F.len _ _ _ _ h;simpa using this
 have FV:=hb { s1 with toks:=s1.toks+1 } [u, .int c s1.toks] I1.iH (by simpa using hl)
 rw[Qal]at FV
 refine wpAny_call (codeAny_mono (F.run X.A X.stack { s1 with toks:=s1.toks+1 } H ⟨[u, .int c s1.toks],[]⟩ [u, .int c s1.toks] [v, .int c] Q E hr I1.BU FV (.cons r1 (.cons ⟨_,rfl⟩ .nil)) h) fun r s' hq=>?_)
 cases r with
 | error e=>exact False.elim hq
 | ok fl=>
  cases fl with
  | ret u=>
   obtain ⟨_,_,_,_,un,_⟩:=id hq
   exact ⟨I1.after hq,Kp.un (s:={ s1 with toks:=s1.toks+1 }) I1 un (by simp)⟩
  | next=>exact False.elim hq
  | brk=>exact False.elim hq
  | cont=>exact False.elim hq
end
noncomputable def rp (c f:Nat) (l:List Nat):List Nat:=l.map fun d=>if d=c then f else d
theorem sO (c f:Nat): ∀l:List Nat,bI f (bY c l)=rp c f l
 | []=>rfl
 | d::r=>by
  have ih:=sO c f r
  obtain ⟨p,ps,e⟩:=eK c r
  rw[e]at ih
  unfold bY rp
  rw[ZD]
  by_cases h:d=c
  ·rw[if_pos h,if_pos h,e]
   show []++f::bI f (p::ps)=_
   rw[ih];rfl
  ·rw[if_neg h,if_neg h,e]
   show bI f ((d::p)::ps)=d::rp c f r
   rw[<-ih]
   cases ps with
   | nil=>rfl
   | cons q qs=>rfl
theorem C7 (c f:Nat): ∀(l:List Nat) (a:Nat),rY c a l=[]->rp c f l=l
 | [],_,_=>rfl
 | d::r,a,h=>by
  unfold rY at h
  by_cases e:d=c
  ·rw[if_pos e]at h;cases h
  ·rw[if_neg e]at h
   unfold rp
   rw[ZD,if_neg e]
   congr 1
   exact C7 c f r (a+1) h
theorem oh (l:List Nat) (c f:Nat):Txt.replace (S l) (S [c]) (S [f])=S (rp c f l):=by
 unfold Txt.replace
 have e0:(S l).length+1=l.length+1:=by rw[bj]
 have e1:(S [c]).length=1:=by rw[bj];rfl
 have hp:=r_ l c (l.length+1) (Qce _)
 have ho:=r6 l c (l.length+1) (Qce _)
 rw[e0,e1,hp,ho]
 split
 ·rename_i h
  have h':(rY c 0 l).isEmpty=true:=by simpa using h
  rw[C7 c f l 0 (List.isEmpty_iff.mp h')]
 ·rw[se,sO]
section
variable {X:Cx}
theorem lL {E:Value->Shared->Prop} {pins:List (Addr×Obj)} {s:Shared} {σ:St} {H:Hp} {i:Nat} {x:Str} {v:V} {u:Value} (I:Inv X pins σ H s) (hN:X.N.Nodup) (hi:X.N[i]? =some x) (hx:X.env.kindOf x=some .local) (hf:X.fn x=true\/X.env.scope.names.lookup x=some .local) (r:RelV v u):
  wpAny (model X.prog X.w) X.A (storeName X.env x u) (fun _ s'=>Inv X pins (σ.set i (some v)) H s'/\s'.toks=s.toks+1/\ ∀m,s.heap.Ns X.env.locals m->s'.heap.Ns X.env.locals (fun y=>if y=x then some u else m y)) E s:=by
 obtain ⟨m0,Yh,_⟩:=id I.loc
 have m9:(X.env.scope.kind== .class||(X.env.scope.kind== .module&&X.env.locals != X.env.globals))=false:=by rw[I.ok.kind];rfl
 have each: ∀m,s.heap.Ns X.env.locals m->m=m0:=fun m hm=>funext fun y=>yS hm Yh y
 refine wpAny_mono (fz (Q:=fun _ s'=>Inv X pins (σ.set i (some v)) H s') (Q':=fun _ s'=>s'.toks=s.toks+1/\s'.heap.Ns X.env.locals (fun y=>if y=x then some u else m0 y)) (E:=E) (E':=E)
  (cL I hN hi (.inl hx) r (fun s' I'=>I') hf) (wpAny_storeName_local hx Yh (fun h' EH _=>⟨rfl,EH⟩) m9)) (fun _ s' ⟨a,b,c⟩=>⟨a,b,fun m hm=>by rw[each m hm];exact c⟩) fun _ _ z=>z.1
theorem uY {value slice:Expr} {pins:List (Addr×Obj)} {s:Shared} {σ:St} {H:Hp} {q:Addr} {aD:List Value} {nn:Nat} {ls:List Nat} {k:Int} {c lo hi:Nat} {t:Tok} {o:Obj} (I:Inv X pins σ H s) (hq:H q=some (.j6 o (.lst (bX ls)))) (eo:o={ cls:= .type "list",data:= .seq aD.toArray nn }) (tk: ∀u∈aD,Tk lo hi u) (hk:lZ ls k=some c) (Eo:0<=k) (hl:ls.length<=1000)
  (hs:subscripted slice false (.ref q) (.int k t)=operate [.ref q, .int k t] (getItem (.ref q) (.int k t))):
  wpAny (model X.prog X.w) X.A (subscriptTail value slice (.ref q) (.int k t)) (fun u s'=>s'=s/\RelV (.str (S [c])) u/\Tk lo hi u) X.xe s:=by
 subst eo
 obtain ⟨e1,_,iM,n2,rv,e2⟩:=(show bK X.prog X.w H s.heap q (.j6 _ (.lst (bX ls))) from I.bg q _ hq)
 have ei:iM=aD:=by
  rw[e1]at e2
  have:=congrArg (fun o:Obj=>o.data) (Qae e2)
  have h2:=congrArg Array.toList (Data.seq.inj this).1
  simpa using h2.symm
 subst ei
 obtain ⟨j,h1,h2,h3,h4,h5⟩:=j9 hk
 have hj:k.toNat=j:=by rw[seqIndex_of Eo h5]at h1;exact Qae h1
 have hv:(bX ls)[j]? =some (.str (S [c])):=by unfold bX;rw[Qau,h2];rfl
 obtain ⟨w,ew,wC⟩:=rv.get hv
 have hlen:ls.length<2 ^ 63:=by omega
 refine item_listR (items:=iM.toArray) (x:=w) ⟨_,e1,rfl,_,rfl⟩ Eo (by omega) (by rw[hj];simpa using ew) ⟨rfl,wC,tk w (Qay ew)⟩ hs
end
section
variable {X:Cx}
theorem lM {α:Type} {l:List α} {i j:Nat} {a b:α} (h:l[j]? =some b) (ne:i≠j):(l.set i a)[j]? =some b:=by rw[List.getElem?_set,if_neg ne];exact h
theorem oj {α:Type} {l:List α} {i:Nat} {a:α} (h:i<l.length):(l.set i a)[i]? =some a:=Qc4 h
theorem HX {c f:Nat} (h:c≠f):(S [c]==S [f])=false:=by
 rw[beq_eq_false_iff_ne]
 intro z
 have e:=congrArg (fun t:Str=>t.cps.toList) z
 have e2:(S [c]).cps.toList=(S [f]).cps.toList:=e
 rw[cX,cX]at e2
 exact h (Qbv e2).1
theorem xt (c f:Nat) (l:List Nat):(rp c f l).length=l.length:=by unfold rp;rw[kb]
end
section
variable {X:Cx}
end
end L2
set_option maxHeartbeats 1000000
namespace L2
open PySem PySem.Spec PyProof.Rows
noncomputable def C9 (p q:Keyed):Bool:=decide ((strOf p.1).cps.toList<(strOf q.1).cps.toList)
theorem Lf:fX C9 where
 jU p q h:=by
  unfold C9 at*
  exact decide_eq_false fun z=>List.lt_irrefl _ (List.lt_trans (of_decide_eq_true h) z)
 tr p q r h1 h2:=by
  unfold C9 at*
  have a:=List.not_lt.mp (of_decide_eq_false h1)
  have b:=List.not_lt.mp (of_decide_eq_false h2)
  exact decide_eq_false (List.not_lt.mpr (List.le_trans a b))
section
variable {prog:Program} {w:World} {A:Around} {E:Value->Shared->Prop} {s:Shared}
theorem TB {vs:List Value} {ss:List Str} (hS:StrsAre vs ss):iY prog w A E s oneType' C9 (pairsOf vs):=by
 intro st p q Q hk hp hq hQ
 have e:(pairsOf vs).toList=vs.zip vs:=pairsOf_toList vs
 rw[e]at hp hq
 obtain ⟨x,t,ex⟩:=hS.all _ (mem_zip_self hp).2
 obtain ⟨y,u,ey⟩:=hS.all _ (mem_zip_self hq).2
 rw[lt'_eq]
 refine wpS_bind (wpS_get ?_)
 rw[hk]
 have QW:Q (some (decide (x.cps.toList<y.cps.toList))) st:=by
  have:C9 p q=decide (x.cps.toList<y.cps.toList):=by unfold C9;rw[ex,ey];rfl
  rw[<-this];exact hQ
 refine wpS_bind (wpS_lift (wpAny_attempt ?_))
 rw[ex,ey]
 exact oneLt_str ⟨rfl,wpS_pure QW⟩
theorem km {ad:Addr} {ss:List Str} {xs:List Value} {ep:Nat} {P:Fin->Shared->Prop} (BA:s.heap.get? ad=some (seqObj "list" xs.toArray ep))
  (hS:StrsAre xs ss) (hkd: ∀u v r,xs=u::v::r->keyKind' (u::v::r).toArray=pure oneType') (hlen:xs.length<=10000)
  (hP: ∀Eu:SortSt,(arrOf Eu).Perm (pairsOf xs)->cP C9 (arrOf Eu).toList->P (.done (.ret .none)) { s with heap:=sortedHeap s.heap ad xs ((arrOf Eu).map (·.2)) }):
  wpAny (model prog w) A (Builtin.«list.sort» ⟨[.ref ad],[]⟩) P E s:=by
 have lim:(10000:Nat)<sizeLine:=by decide
 have lad:ad<s.heap.objs.size:=Qac BA
 rw[list_sort_plain]
 refine wpAny_bind (listItems_at BA rfl (wpAny_bind (listUpdate_at BA rfl ?_)))
 obtain ⟨ep1,Ov⟩: ∃q,(s.heap.update ad (Obj.mapSeq fun _=> #[])).get? ad=some (seqObj "list" #[] q):=⟨_,get?_update_seq BA (fun _=> #[])⟩
 refine wpAny_bind (seqEpoch_at Ov rfl (wpAny_bind (wpAny_newTuple (wpAny_bind (wpAny_newList (wpAny_holding ?_))))))
 have FW:(((s.heap.update ad (Obj.mapSeq fun _=> #[])).push (seqObj "tuple" xs.toArray 0)).push (seqObj "list" #[] 0)).get? ad=some (seqObj "list" #[] ep1):=by
  have n1:ad<(s.heap.update ad (Obj.mapSeq fun _=> #[])).objs.size:=by rw[Heap.size_update];exact lad
  exact JR _ (JR _ Ov)
 show wpAny (model prog w) A _ P E { s with heap:=((s.heap.update ad (Obj.mapSeq fun _=> #[])).push (seqObj "tuple" xs.toArray 0)).push (seqObj "list" #[] 0) }
 dsimp only
 by_cases iT:xs.toArray.size<2
 ·rw[if_pos iT,if_pos iT]
  refine wpAny_bind (wpAny_pure ?_)
  rw[StateT.run_pure]
  refine wpAny_bind (wpAny_pure ?_)
  dsimp only
  refine wpAny_bind (seqEpoch_at FW rfl (wpAny_bind (listUpdate_at FW rfl ?_ (hsz2:=by rw[Array.size_map];show (pairsOf xs).size<=_;rw[pairsOf_size];omega))))
  simp only[bne_self_eq_false,Qdh,if_false]
  refine wpAny_pure (hP (SortSt.mk' general' (xs.toArray.zip xs.toArray) #[] 7 none) (Qe3 _) ?_)
  show cP C9 (xs.toArray.zip xs.toArray).toList
  have e4:(xs.toArray.zip xs.toArray).toList=xs.zip xs:=by simp
  rw[e4]
  rcases xs with _ | ⟨u,_ | ⟨v,r⟩⟩
  ·exact List.Pairwise.nil
  ·exact Qbn _ _
  ·exact absurd iT (by simp)
 ·rw[if_neg iT,if_neg iT]
  obtain ⟨u,v,r,rfl⟩: ∃u v r,xs=u::v::r:=by
   rcases xs with _ | ⟨u,_ | ⟨v,r⟩⟩
   ·exact absurd (by simp) iT
   ·exact absurd (by simp) iT
   ·exact ⟨u,v,r,rfl⟩
  rw[hkd _ _ _ rfl]
  refine wpAny_bind (wpAny_pure (wpAny_bind (wpAny_mono (y0 (lt:=C9) (kd:=oneType') (a₀:=pairsOf (u::v::r)) (st:=SortSt.mk' oneType' ((u::v::r).toArray.zip (u::v::r).toArray) #[] 7 none)
   (Q:=fun _ Eu=>(arrOf Eu).Perm (pairsOf (u::v::r))/\failedOf Eu=none/\cP C9 (arrOf Eu).toList) Lf (TB hS) ⟨Qe3 _,rfl,rfl⟩ rfl fun Eu a1 a2 a3=>⟨a1,a2,a3⟩) ?_ fun _ _ e=>e)))
  rintro ⟨⟨⟩,Eu⟩ s2 ⟨rfl,hp,hf,hsr⟩
  dsimp only
  refine wpAny_bind (seqEpoch_at FW rfl (wpAny_bind (listUpdate_at FW rfl ?_ (hsz2:=by refine Qa1 (Qep ((Array.size_map ..).trans (hp.size_eq.trans (pairsOf_size _)))) ?_;omega))))
  rw[hf]
  simp only[bne_self_eq_false,Qdh,if_false]
  exact wpAny_pure (hP Eu hp hsr)
theorem HY {vs:List Value} {ss:List Str} (hS:StrsAre vs ss) {xs:Array Keyed} (hp:xs.Perm (pairsOf vs)) (hs:cP C9 xs.toList): ∃i9,StrsAre (xs.map (·.2)).toList i9/\i9.Perm ss/\(i9.map fun x=>x.cps.toList).Pairwise fun a b=> ¬b<a:=by
 have q1:xs.toList.Perm (vs.zip vs):=by rw[<-pairsOf_toList];exact Qa9.mp hp
 have q2: ∀p,p∈xs.toList->p.1=p.2/\p.1∈vs:=fun p h=>mem_zip_self (q1.mem_iff.mp h)
 refine ⟨xs.toList.map (fun p=>strOf p.1),?_,?_,?_⟩
 ·rw[show (xs.map (·.2)).toList=xs.toList.map (·.1) by rw[Array.toList_map];exact Qcm fun p h=>(q2 p h).1.symm]
  have q3:=strsAre_map (xs.toList.map (·.1)) fun v hv=>by
   obtain ⟨p,h,rfl⟩:=Qa5.mp hv
   exact hS.all _ (q2 p h).2
  rwa [Qbs]at q3
 ·have q3:=q1.map (fun p=>strOf p.1)
  rwa [show (vs.zip vs).map (fun p=>strOf p.1)=ss by rw[show (fun p:Value×Value=>strOf p.1)=strOf ∘ Prod.fst from rfl, <-Qbs,List.map_fst_zip (XA _),hS.strs]]at q3
 ·rw[Qbs,Qb2]
  exact hs.imp fun {p q} h=>of_decide_eq_false h
theorem sP {Q:Value->Shared->Prop} (hh:A.handled=none) (d:Addr) (aZ:List (Key×Value)) (ep:Nat) (ls:List (List Nat)) (hk:aZ.map (·.1)=ls.map fun l=>Sum.inr (S l)) (hd:(d==sysModules)=false) (hm:s.heap.DictAt (cH prog w) d aZ ep) (ZG:aZ.length<=10000)
  (h: ∀(h1 h':Heap) (tk:Nat) (a:Addr) (out:Array Value) (i9:List Str) (e:Nat),(∀b o,s.heap.get? b=some o->h1.get? b=some o)->(∀b o,h1.get? b=some o->h'.get? b=some o)->a=h1.objs.size->h'.get? a=some (seqObj "list" out e)->StrsAre out.toList i9->i9.Perm (ls.map S)->((i9.map fun x=>x.cps.toList).Pairwise fun a b=> ¬b<a)->Q (.ref a) { s with heap:=h',toks:=tk }):
  wpAny (model prog w) A (call (.builtin "sorted") [.ref d]) Q E s:=by
 refine Qd9 kind_sorted plain_sorted entry_sorted (args_sorted1 _) ?_
 unfold Builtin.«sorted»
 refine wpAny_bind (m:=checkCount "sorted" 1 1 _) (wpAny_pure ?_)
 have jC:(10000:Nat)<sizeLine:=by decide
 refine wpAny_bind (sf (A:=A.in1) (show A.in1.handled=none from hh) d aZ ep hd hm (by omega) (fun s' acc hkk hg Ew ho rM=>?_))
 obtain ⟨h1,h2⟩:=rM
 have hlen:aZ.length=ls.length:=by have:=congrArg List.length hk;simpa using this
 have rv:Vals (ls.map fun l=>V.str (S l)) acc.toList:=by
  have key: ∀(ls:List (List Nat)) (vs:List Value),vs.length=ls.length->(∀(j:Nat) (v:Value),vs[j]? =some v-> ∃l t,ls[j]? =some l/\v=Value.str (S l) t)->Vals (ls.map fun l=>V.str (S l)) vs:=by
   intro ls
   induction ls with
   | nil=>intro vs hl _;have:vs=[]:=Qci hl;subst this;exact .nil
   | cons l ls ih=>
    intro vs hl hv
    cases vs with
    | nil=>simp at hl
    | cons v vs=>
     obtain ⟨l',t,e1,e2⟩:=hv 0 v rfl
     have Sv:l=l':=by simpa using e1
     subst Sv
     refine .cons ⟨t,e2⟩ (ih vs (by simpa using hl) fun j v' e=>?_)
     obtain ⟨l',t',g1,g2⟩:=hv (j+1) v' (by simpa using e)
     exact ⟨l',t',by simpa using g1,g2⟩
  refine key ls acc.toList (by simpa [<-hlen]using h1) fun j v e=>?_
  obtain ⟨k,x,e1,e2⟩:=h2 j v (by simpa using e)
  have e3:(aZ.map (·.1))[j]? =some k:=by rw[Qau,e1];rfl
  rw[hk,Qau]at e3
  cases e4:ls[j]? with
  | none=>rw[e4]at e3;cases e3
  | some l=>
   rw[e4]at e3
   have e5:k=Sum.inr (S l):=(Qae e3).symm
   subst e5
   obtain ⟨t,e6⟩:=Value.isStrOf_shape (x:=S l) (v:=v) e2
   exact ⟨l,t,rfl,e6⟩
 have hS:=kh rv
 have hn:acc.toList.length=ls.length:=by rw[<-rv.length,kb]
 refine wpAny_bind (wpAny_newList ?_)
 have ya:(s'.heap.push (seqObj "list" acc.toList.toArray 0)).get? s'.heap.objs.size=some (seqObj "list" acc.toList.toArray 0):=Qai _ rfl
 show wpAny _ _ _ _ _ { s' with heap:=s'.heap.push (seqObj "list" acc.toList.toArray 0) }
 refine wpAny_bind (wpAny_holding (wpAny_call_entry slot_list_sort ⟨_,ya,rfl⟩ entry_list_sort (km ya hS (fun v₁ v₂ rest e=>keyKind_strs (by rw[<-e];exact hS)) (by omega) fun aL hp hs=>⟨_,rfl,?_⟩) (args_list_sort _)))
 obtain ⟨i9,k1,k2,k3⟩:=HY hS hp hs
 obtain ⟨e,he⟩:=sortedHeap_at (out:=(arrOf aL).map (·.2)) ya
 refine wpAny_pure ⟨_,rfl,?_⟩
 have es: ∀hh:Heap,({ s' with heap:=hh }:Shared)={ s with heap:=hh,toks:=s'.toks }:=fun hh=>by
  cases s;cases s'
  simp only at hg Ew ho
  subst hg Ew ho
  rfl
 show Q (.ref s'.heap.objs.size) { s' with heap:=sortedHeap (s'.heap.push (seqObj "list" acc.toList.toArray 0)) s'.heap.objs.size acc.toList ((arrOf aL).map (·.2)) }
 rw[es]
 refine h s'.heap _ _ _ _ i9 e hkk (fun b o hb=>?_) rfl he k1 k2 k3
 have bW:=Qac hb
 rw[sortedHeap_old (Qa0 bW) (by rw[size_push'];exact Qb9 bW)]
 exact JR _ hb
theorem kn {tp:Addr} {T:String} {o:Obj} {vs:List Value} {ss:List Str} {n:Nat} {Q:Value->Shared->Prop} (hT:T="list"\/T="tuple") (ho:s.heap.get? tp=some o) (hc:o.cls= .type T) (hd:o.data= .seq vs.toArray n) (hS:StrsAre vs ss) (hsz:vs.length<=10000)
  (q: ∀(h1 h':Heap) (a:Addr) (e:Nat) (out:Array Value) (i9:List Str),(∀b o,s.heap.get? b=some o->h1.get? b=some o)->(∀b o,h1.get? b=some o->h'.get? b=some o)->a=h1.objs.size->h'.get? a=some (seqObj "list" out e)->StrsAre out.toList i9->i9.Perm ss->((i9.map fun x=>x.cps.toList).Pairwise fun a b=> ¬b<a)->Q (.ref a) { s with heap:=h' }):
  wpAny (model prog w) A (call (.builtin "sorted") [.ref tp]) Q E s:=by
 have jC:(10000:Nat)<sizeLine:=by decide
 refine Qd9 kind_sorted plain_sorted entry_sorted (args_sorted1 _) ?_
 unfold Builtin.«sorted»
 refine wpAny_bind (m:=checkCount "sorted" 1 1 _) (wpAny_pure (wpAny_bind (wpAny_collect_seq tp hT ho hc hd (fun h1 k1=>?_) (by rw[Qad];omega))))
 refine wpAny_bind (wpAny_newList ?_ (by show vs.length<=_;omega))
 have ya:(h1.push (seqObj "list" vs.toArray 0)).get? h1.objs.size=some (seqObj "list" vs.toArray 0):=Qai _ rfl
 show wpAny _ _ _ _ _ { s with heap:=h1.push (seqObj "list" vs.toArray 0) }
 refine wpAny_bind (wpAny_holding (wpAny_call_entry slot_list_sort ⟨_,ya,rfl⟩ entry_list_sort (km (s:={ s with heap:=h1.push (seqObj "list" vs.toArray 0) }) ya hS (fun v₁ v₂ rest e=>keyKind_strs (by rw[<-e];exact hS)) hsz fun aL hp hs=>⟨_,rfl,?_⟩) (args_list_sort _)))
 obtain ⟨i9,k2,k3,k4⟩:=HY hS hp hs
 obtain ⟨e,he⟩:=sortedHeap_at (out:=(arrOf aL).map (·.2)) ya
 refine wpAny_pure ⟨_,rfl,q h1 _ _ e _ i9 k1 (fun b o hb=>?_) rfl he k2 k3 k4⟩
 have bW:=Qac hb
 rw[sortedHeap_old (Qa0 bW) (by rw[size_push'];exact Qb9 bW)]
 exact JR _ hb
end
section
variable {X:Cx}
def FX (K:PySem.W.Frag):List V->Hp->VK->Prop:=fun xs H Q=> ∃(p:Addr) (ls:List (List Nat)),xs=[.ref p]/\(aN K H p (ls.map fun l=>V.str (S l))\/cU K H p (ls.map fun l=>V.str (S l)))/\ls.length<=10000/\ ∀(q:Addr) (J6:List (List Nat)),H q=none->J6.Perm ls->(J6.Pairwise fun a b=> ¬b<a)->Q (.ref q) (upd H q (.lst (J6.map fun l=>V.str (S l))))
theorem Lg {ls:List (List Nat)} {i9:List Str} (h2:i9.Perm (ls.map S)):(i9.map fun x=>x.cps.toList).Perm ls:=by
 have:=h2.map fun x:Str=>x.cps.toList
 rw[Qbs]at this
 have e2:ls.map ((fun x:Str=>x.cps.toList) ∘ S)=ls:=by
  have: ∀l∈ls,((fun x:Str=>x.cps.toList) ∘ S) l=l:=fun l _=>cX l
  calc ls.map _=ls.map id:=Qcm this
   _=ls:=Qe1 ls
 rwa [e2]at this
theorem pM (K:PySem.W.Frag) (h:X.K=K):cF X (.builtin "sorted") (FX K):=by
 subst h
 intro pins s σ H xs us Q I r h
 obtain ⟨p,ls,rfl,hq,hn,q⟩:=h
 obtain ⟨u,rfl,ru⟩:=vals1 r
 cases ru
 have jC:(10000:Nat)<sizeLine:=by decide
 have fin: ∀aD:List Value,Vals (ls.map fun l=>V.str (S l)) aD-> ∀(h1 h':Heap) (a:Addr) (e:Nat) (out:Array Value) (i9:List Str),(∀b o,s.heap.get? b=some o->h1.get? b=some o)->(∀b o,h1.get? b=some o->h'.get? b=some o)->a=h1.objs.size->h'.get? a=some (seqObj "list" out e)->StrsAre out.toList i9->i9.Perm (ls.map S)->((i9.map fun x=>x.cps.toList).Pairwise fun a b=> ¬b<a)->EP X pins σ Q (.ref a) { s with heap:=h' }:=fun aD rv h1 h' a e out i9 k1 k2 ea he g1 g2 g3=>by
  have I1:Inv X pins σ H { s with heap:=h1 }:=I.kept (t':=s.toks) k1
  have jE:=Lg g2
  have Sz:((i9.map fun x=>x.cps.toList).map fun l=>V.str (S l)).length<=sizeLine:=by rw[kb,jE.length_eq];omega
  have I2:Inv X pins σ (upd H a (.lst ((i9.map fun x=>x.cps.toList).map fun l=>V.str (S l)))) { s with heap:=h' }:=I1.laid (t':=s.toks) (a:=a) (o:= .lst ((i9.map fun x=>x.cps.toList).map fun l=>V.str (S l))) k2 (by rw[ea];exact XA _) ⟨Sz,out.toList,e,mX g1,by simpa [seqObj]using he⟩
  exact ⟨.ref a,_,I2,rfl,q _ _ (I1.bg.fresh (by rw[ea];exact XA _)) jE g3⟩
 rcases hq with hq | hq
 ·obtain ⟨aD,rv,pl,hz⟩:=I.list hq
  obtain ⟨o,ho,hc,m,hd⟩:=pl.isList
  exact kn (.inl rfl) ho hc hd (kh rv) (by rw[<-rv.length,kb];exact hn) (fin aD rv)
 ·obtain ⟨aD,rv,pl,hz⟩:=I.tuple hq
  obtain ⟨o,ho,hc,m,hd⟩:=pl
  exact kn (.inr rfl) ho hc hd (kh rv) (by rw[<-rv.length,kb];exact hn) (fin aD rv)
def FY:List V->Hp->VK->Prop:=fun xs H Q=> ∃(d:Addr) (aZ:List (Key×V)) (ls:List (List Nat)),xs=[.ref d]/\H d=some (.dK aZ)/\aZ.map (·.1)=(ls.map fun l=>Sum.inr (S l))/\ls.length<=10000/\ ∀(q:Addr) (ms:List (List Nat)),H q=none->ms.Perm ls->(ms.Pairwise fun a b=> ¬b<a)->Q (.ref q) (upd H q (.lst (ms.map fun l=>V.str (S l))))
theorem pN (hc:X.calm=true):cF X (.builtin "sorted") FY:=by
 intro pins s σ H xs us Q I r h
 obtain ⟨d,aZ,ls,rfl,hd,hk,hn,q⟩:=h
 obtain ⟨u,rfl,ru⟩:=vals1 r
 cases ru
 obtain ⟨hz,TC,vs,kv,o,es,ep,e1,e2,e3,e4,e5,e6⟩:=I.bg d _ hd
 have hlen:vs.length=ls.length:=by
  have a1:=congrArg List.length (yU kv)
  have a2:=congrArg List.length hk
  simp only[kb]at a1 a2
  omega
 refine sP (s:=s) (I.ok.hd hc) d vs ep ls ((yU kv).trans hk) TC ⟨o,es,e1,e2,e3,e4,e5,e6⟩ (by omega) fun h1 h' tk a out i9 e k1 k2 ea he g1 g2 g3=>?_
 have jE:(i9.map fun x=>x.cps.toList).Perm ls:=by
  have:=g2.map fun x:Str=>x.cps.toList
  rw[Qbs]at this
  have e2:ls.map ((fun x:Str=>x.cps.toList) ∘ S)=ls:=by
   calc ls.map _=ls.map id:=Qcm fun l _=>cX l
    _=_:=Qe1 _
  rwa [e2]at this
 have hv:=mX g1
 have pw:=g3
 have I1:Inv X pins σ H { s with heap:=h1,toks:=tk }:=I.kept k1
 have hsz:(10000:Nat)<sizeLine:=by decide
 have I2:Inv X pins σ (upd H a (.lst ((i9.map fun x=>x.cps.toList).map fun l=>V.str (S l)))) { s with heap:=h',toks:=tk }:=
  I1.laid (t':=tk) (a:=a) (o:= .lst ((i9.map fun x=>x.cps.toList).map fun l=>V.str (S l))) k2 (by rw[ea];exact XA _) ⟨by rw[kb,jE.length_eq];omega,out.toList,e,hv,by simpa [seqObj]using he⟩
 exact ⟨.ref a,_,I2,rfl,q _ _ (I1.bg.fresh (by rw[ea];exact XA _)) jE pw⟩
end
section
variable {X:Cx}
def Ow:List V->Hp->VK->Prop:=fun xs H Q=> ∃l,xs=[.str (S l)]/\PySem.NumText.AllDigits l/\l≠[]/\l.length<=640/\Q (.int ((PySem.NumText.digitsVal l:Nat):Int)) H
theorem qP:cF X (.type "int") Ow:=by
 intro pins s σ H xs us Q I r h
 obtain ⟨l,rfl,h1,h2,h3,q⟩:=h
 obtain ⟨u,rfl,t,rfl⟩:=vals1 r
 have e:=PySem.intText_digits (x:=S l) (by rw[cX];exact h1) (by rw[cX];exact h2) (by rw[bj];omega)
 rw[cX]at e
 exact PySem.W.KIN.call_text e (by rw[bj];exact h3) ⟨.int _,H,I.tok _,⟨_,rfl⟩,q⟩
def FZ:V->List V->Hp->VK->Prop:=fun x vs H Q=> ∃(l p:List Nat),x= .str (S l)/\vs=[.str (S p)]/\Q (.bl (decide (0+p.length<=l.length)&&decide ((l.drop 0).take p.length=p))) H
theorem Ar:wN X "str.startswith" FZ:=by
 intro pins s σ H x xs v us Q I rx rv h
 obtain ⟨l,p,rfl,rfl,q⟩:=h
 obtain ⟨t,rfl⟩:=rx
 obtain ⟨u,rfl,t',rfl⟩:=vals1 rv
 refine SC.startswith ⟨.bl _,H,I,rfl,?_⟩
 unfold Txt.startswith
 rw[FF,bj,bj]
 exact q
end
section
variable {X:Cx}
def TF (QX spT Ox:Sp) (QY tcp:TE) (many:Int) (tr:TS):TS:=fun D σ H=> ∃vb y,σ[1]? =some (some vb)/\σ[2]? =some (some (.str (S y)))/\y.length<=1000/\
 QX [.str (S y)] H (fun x H1=> ∃q ls,x= .ref q/\H1 q=some (.lst (bX ls))/\ls.length<=1000/\ ∀o,
  QY (σ.set 5 (some (.ref q))) (upd H1 q (.j6 o (.lst (bX ls)))) (fun i H3=> ∃k c,i= .int k/\H3 q=some (.j6 o (.lst (bX ls)))/\lZ ls k=some c/\0<=k/\
   tcp ((σ.set 5 (some (.ref q))).set 6 (some (.str (S [c])))) H3 (fun d H4=> ∃dd fr,d= .ref dd/\H4 dd=some (.lst (bX fr))/\fr.length<=1000/\ ∀o2,
    spT [vb, .int many] (upd H4 dd (.j6 o2 (.lst (bX fr)))) (fun i2 H5=> ∃k2 f,i2= .int k2/\H5 dd=some (.j6 o2 (.lst (bX fr)))/\lZ fr k2=some f/\0<=k2/\c≠f/\
     Ox [.str (S [c])] H5 (fun x1 H6=> ∃c',x1= .str (S [c'])/\Ox [.str (S [f])] H6 (fun x2 H7=> ∃f',x2= .str (S [f'])/\c'≠f'/\tr D ((((σ.set 5 (some (.ref q))).set 6 (some (.str (S [c])))).set 7 (some (.str (S [f])))).set 8 (some (.str (S (rp c' f' (rp c f y)))))) H7) E0) E0) E0))) E0
theorem F_ {kB kT kO:Nat} {fB fT fO:Addr} {dB dT dO:FuncData} {pB pT pO:List Str} {QX spT Ox:Sp} {xB xT xO yb yy yn yd yf yo:Str}
  {iter cond Ga:Expr} {xb:Str} {bp xp:Pos} {j:Nat} {scope:Scope} {cV:Pos} {wi:TI} {tc:TT} {QY:TE} {many:Int} {rest:List Stmt} {tr:TS} (Nc:List Str) (ix:List (Option Nat))
  {p1 p2 p3 p4 p5 p6 p7 p8 p9 Mx HZ y7 p13 p14 p15 Yi Yj Yk Yl p20 p21 Ym Yn p24 Yo q1 q2 q3 q4 q5 q6:Pos} {kk:Nat}
  (FB:ml X.prog X.w X.K X.mg X.base kB fB dB pB QX (fun s u s'=>FU (s.toks+1) u s')) (FT:ck X.prog X.w X.K X.mg X.base fU kT fT dT pT spT) (FO:ml X.prog X.w X.K X.mg X.base kO fO dO pO Ox (fun s u s'=>Tk (s.toks+1) s'.toks u))
  (rB:cj kB X.A) (rT:cj kT X.A) (rO:cj kO X.A) (gB:Gl X xB) (gT:Gl X xT) (gO:Gl X xO) (mB:X.mg xB=some (.ref fB)) (mT:X.mg xT=some (.ref fT)) (mO:X.mg xO=some (.ref fO))
  (KB:PySem.W.keepIn X.K (.ref fB)=true) (KT:PySem.W.keepIn X.K (.ref fT)=true) (KO:PySem.W.keepIn X.K (.ref fO)=true) (bB:Binds X.K dB pB []) (bT:Binds X.K dT pT []) (bO:Binds X.K dO pO [])
  (hN:X.N.Nodup) (n0:X.N[1]? =some yb) (n1:X.N[2]? =some yy) (n2:X.N[5]? =some yn) (n3:X.N[6]? =some yd) (n4:X.N[7]? =some yf) (n5:X.N[8]? =some yo)
  (v0:x_ X.env.scope yb) (v1:x_ X.env.scope yy) (l2:X.env.kindOf yn=some .local) (l3:X.env.kindOf yd=some .local) (l4:X.env.kindOf yf=some .local) (l5:X.env.kindOf yo=some .local)
  (f2:X.fn yn=true\/X.env.scope.names.lookup yn=some .local) (f3:X.fn yd=true\/X.env.scope.names.lookup yd=some .local) (f4:X.fn yf=true\/X.env.scope.names.lookup yf=some .local) (f5:X.fn yo=true\/X.env.scope.names.lookup yo=some .local)
  (hI1:PE X Ga QY) (hs1:mS Ga) (EK:mS (.Call (.Name xT p8) [.Name yb p9, .Constant (.int many) kk Mx] [] HZ))
  (hi:Mw X (.Name xb bp) iter wi) (mU:gG X scope Nc ix) (FQ:Nc.Nodup) (HV:Nc[j]? =some xb) (hC: ∀C s H fp,Mv (aQ X scope C Nc s H fp) cond tc)
  (TH:swapsWith (.Subscript (.Name yn p5) Ga p6) (some (.Name yd p7)) p4.line X.env=pure false:=by rfl)
  (uP: ∀C s H fp,(aQ X scope C Nc s H fp).env.kindOf xb=some .local:=by intro _ _ _ _;rfl) (bg:jS X scope=true:=by rfl) (dX:X.calm=true:=by rfl)
  (Oy: ∀x,foldedSetIterable iter X.env x=pure x:=by intro _;rfl) (Lc:(xb==("__debug__":Str))=false:=by decide) (Ce:(xb==("__classdict__":Str))=false:=by decide)
  (mG:(xB==("__debug__":Str))=false/\(xT==("__debug__":Str))=false/\(xO==("__debug__":Str))=false:=by decide)
  (hd: ∀z∈[yb,yy,yn,yd,yf,yo],(z==("__debug__":Str))=false/\(z==("__classdict__":Str))=false:=by decide)
  (Lh:(Yi.endLine==Yl.line)=true:=by rfl) (Li:(Ym.endLine==Yo.line)=true:=by rfl) (Et:yd≠yf:=by decide) (jF:kN X rest tr):
  kN X (.Assign [.Name yn p1] (.Call (.Name xB p2) [.Name yy p3] [] y7) p13::
   .Assign [.Name yd p7] (.Subscript (.Name yn p5) Ga p6) p4::
   .Assign [.Name yf p14] (.Subscript (.ListComp (.Name xb xp) [⟨.Name xb bp,iter,[cond],0⟩] scope cV) (.Call (.Name xT p8) [.Name yb p9, .Constant (.int many) kk Mx] [] HZ) p15) p20::
   .Assign [.Name yo p21] (.Call (.Attribute (.Call (.Attribute (.Name yy Yn) "replace" Yi) [.Name yd Yj, .Name yf Yk] [] Yl) "replace" Ym) [.Call (.Name xO q1) [.Name yd q2] [] q3, .Call (.Name xO q4) [.Name yf q5] [] q6] [] Yo) p24::rest) (TF QX spT Ox QY (ke wi ix (j7 j) tc (kP j)) many tr):=by
 intro pins s σ H D I h
 obtain ⟨vb,y,e0,e1,hy,h⟩:=h
 have hlen:8<σ.length:=by rw[I.len];exact (Xy.mp n5).1
 obtain ⟨d0,d0'⟩:=hd yb (by simp)
 obtain ⟨d1,TJ⟩:=hd yy (by simp)
 obtain ⟨d2,Yp⟩:=hd yn (by simp)
 obtain ⟨d3,Yq⟩:=hd yd (by simp)
 obtain ⟨d4,Yr⟩:=hd yf (by simp)
 obtain ⟨d5,d5'⟩:=hd yo (by simp)
 -- names
 refine wpAny_execs_cons (wpAny_Assign_Name (bN (xr FB rB gB mB KB bB n1 v1 d1 TJ mG.1 I e1 h) fun u s1 zz=>?_) rfl)
 obtain ⟨⟨x,H1,I1,r1,q,ls,ex,hq,hl,h1⟩,⟨q',aD,nn,eu,eq,tk⟩,_,_⟩:=zz
 subst ex
 cases r1
 cases eu
 refine bN (lL (E:=X.xe) (I1.freeze hq eq) hN n2 l2 f2 (v:= .ref q) rfl) fun _ s2 zz=>?_
 obtain ⟨I2,t2,ns2⟩:=zz
 -- band
 refine wpAny_execs_cons (wpAny_Assign_Name (Subscript_ ?_) TH)
 refine bN (iX (pos:=p5) I2 n2 (.inl l2) (oj (by omega)) d2 Yp) fun u2 s3 zz=>?_
 obtain ⟨es,r3,_⟩:=zz
 subst es
 cases r3
 refine nR (hI1 pins s3 _ _ _ I2 (h1 _)) fun u3 s4 zz=>?_
 obtain ⟨k4,i,H3,I3,ri,k,c,ei,Oz,hk,Eo,h2⟩:=zz
 subst ei
 obtain ⟨t,rfl⟩:=ri
 refine bN (uY I3 Oz rfl tk hk Eo hl (hs1 _ _)) fun u4 s5 zz=>?_
 obtain ⟨es,r5,tk5⟩:=zz
 subst es
 obtain ⟨m3,hn3,_⟩:=id I3.loc
 refine bN (lL (E:=X.xe) I3 hN n3 l3 f3 r5) fun _ s6 zz=>?_
 obtain ⟨I6,t6,ns6⟩:=zz
 have nb6:=ns6 m3 hn3
 obtain ⟨zb,tb,eb,As,gc⟩:=tk5
 have Ys:tb<s6.toks:=Qaf gc (by omega)
 have TK:tb≠0:=Qb4 (Qaf (Nat.succ_pos _) As)
 -- fresh
 refine wpAny_execs_cons (wpAny_Assign_Name (Subscript_ ?_) rfl)
 refine nR (uX Nc ix hi mU FQ HV hC uP bg dX Oy Lc Ce I6 h2) fun u7 s7 zz=>?_
 obtain ⟨k7,D',H7,iM,nn2,eD',I7,eD,tk7,kp7,dd,fr,ed,hd7,Mz,h3⟩:=zz
 subst eD'
 cases ed
 have H_:((σ.set 5 (some (V.ref q))).set 6 (some (V.str (S [c])))).length=σ.length:=by rw[Qde,Qde]
 refine nR (Le FT rT gT mT KT bT n0 v0 d0 d0' mG.2.1 (I7.freeze hd7 eD) (lM (lM e0 (by decide)) (by decide)) (h3 _)) fun u8 s8 zz=>?_
 obtain ⟨k8,⟨i2,H8,I8,ri2,k2,f,ei2,hd8,hf,hf0,OA,h4⟩,kp8⟩:=zz
 subst ei2
 obtain ⟨t2',rfl⟩:=ri2
 refine bN (uY I8 hd8 rfl tk7 hf hf0 Mz (EK _ _)) fun u9 s9 zz=>?_
 obtain ⟨es,r9,tk9⟩:=zz
 subst es
 have nb9:s9.heap.Ns X.env.locals _:=kp8 _ (kp7 _ nb6)
 refine bN (lL (E:=X.xe) I8 hN n4 l4 f4 r9) fun _ sA zz=>?_
 obtain ⟨IA,tA,nsA⟩:=zz
 have Yt:=nsA _ nb9
 obtain ⟨zf,tf,ef,QK,hf2⟩:=tk9
 have TL:tf≠0:=Qb4 (Qaf (Qem (Qaq _) Ys) QK)
 have TM:tb≠tf:=Qa0 (Qaf Ys QK)
 generalize OB:(((σ.set 5 (some (V.ref q))).set 6 (some (V.str (S [c])))).set 7 (some (V.str (S [f]))))=σA at IA
 have a1:σA[2]? =some (some (.str (S y))):=by rw[<-OB];exact lM (lM (lM e1 (by decide)) (by decide)) (by decide)
 have a3:σA[6]? =some (some (.str (S [c]))):=by rw[<-OB];exact lM (oj (by rw[Qde];omega)) (by decide)
 have a4:σA[7]? =some (some (.str (S [f]))):=by rw[<-OB];exact oj (by rw[H_];omega)
 have aae:σA.length=σ.length:=by rw[<-OB,Qde,H_]
 -- other
 refine wpAny_execs_cons (wpAny_Assign_Name (wpAny_Call_method_late rfl rfl Li rfl (wpAny_Call_method_late rfl rfl Lh rfl (bN (iX (pos:=Yn) IA n1 v1 a1 d1 TJ) fun uy sB zz=>?_))) rfl)
 obtain ⟨es,ry,_⟩:=zz
 subst es
 obtain ⟨ty,rfl⟩:=ry
 have Eg:=rJ (T:="str") (x:= .str (S y)) IA ⟨ty,rfl⟩ (by first | rfl | trivial | exact ⟨_,rfl⟩)
 refine ⟨"str","str.replace",Qas,PySem.F.slot_str_replace,PySem.F.type_str_replace,Eg.1,Eg.2,?_⟩
 refine Qdq rfl (Qeu ?_)
 refine Qb6 (bN (iX (pos:=Yj) IA n3 (.inl l3) a3 d3 Yq) fun ud sC zz=>?_)
 obtain ⟨es,rd,md⟩:=zz
 subst es
 refine Qb6 (bN (iX (pos:=Yk) IA n4 (.inl l4) a4 d4 Yr) fun uf sC zz=>Qda ?_)
 obtain ⟨es,rf,mf⟩:=zz
 subst es
 have eud:some ud=some u4:=(md l3 _ Yt).symm.trans (by rw[if_neg Et,if_pos rfl])
 have euf:some uf=some u9:=(mf l4 _ Yt).symm.trans (by rw[if_pos rfl])
 cases eud
 cases euf
 subst eb ef
 obtain ⟨_,ezb⟩:=rd
 obtain ⟨_,ezf⟩:=rf
 cases ezb
 cases ezf
 refine SC.replace (x:=S y) (y:=S [c]) (z:=S [f]) TK TL TM (HX OA) (by rw[bj,bj];simp;omega) fun t' kx=>?_
 rw[oh]
 have ID:Inv X pins σA H8 { sC with toks:=kx }:=(IA.tok _).tok _
 have OC:=rJ (T:="str") (x:= .str (S (rp c f y))) (v:= .str (S (rp c f y)) t') ID ⟨t',rfl⟩ (by first | rfl | trivial | exact ⟨_,rfl⟩)
 refine ⟨"str","str.replace",Qas,PySem.F.slot_str_replace,PySem.F.type_str_replace,OC.1,OC.2,?_⟩
 refine Qdq rfl (Qeu ?_)
 refine Qb6 (bN (xr FO rO gO mO KO bO n3 (.inl l3) d3 Yq mG.2.2 ID a3 h4) fun g1 sF zz=>?_)
 obtain ⟨⟨x1,H9,IF,rg1,c',ex1,h5⟩,⟨z1,t1,eg1,hg1,TN⟩,_,kF⟩:=zz
 subst ex1
 refine Qb6 (bN (xr FO rO gO mO KO bO n4 (.inl l4) d4 Yr mG.2.2 IF a4 h5) fun g2 sG zz=>Qda ?_)
 obtain ⟨⟨x2,HA,IG,rg2,f',ex2,TQ,h6⟩,⟨z2,aaf,eg2,Yu,aag⟩,_,kG⟩:=zz
 subst ex2
 subst eg1 eg2
 obtain ⟨_,ez1⟩:=rg1
 obtain ⟨_,ez2⟩:=rg2
 cases ez1
 cases ez2
 refine SC.replace (x:=S (rp c f y)) (y:=S [c']) (z:=S [f']) (Qb4 (Qaf (Nat.succ_pos _) hg1)) (Qb4 (Qaf (Nat.succ_pos _) Yu)) (Qa0 (Qaf TN (Qa1 (Qco _) Yu))) (HX TQ) (by rw[bj,bj,xt];simp;omega) fun t' kx=>?_
 rw[oh]
 have IH:Inv X pins σA HA { sG with toks:=kx }:=(IG.tok _).tok _
 refine bN (cL (Q:=fun _ s'=>Inv X pins (σA.set 8 (some (.str (S (rp c' f' (rp c f y)))))) HA s') (E:=X.xe) IH hN n5 (.inl l5) (show RelV (.str (S (rp c' f' (rp c f y)))) (Value.str (S (rp c' f' (rp c f y))) _) from ⟨_,rfl⟩) (fun s' I'=>I') f5) fun _ sD IJ=>?_
 subst OB
 exact jF pins sD _ _ D IJ h6
end
section
variable {X:Cx}
def xu (H:Hp) (o:HO) (Q:VK):Prop:= ∀p H',H p=none->H' p=some o->ah H H'->Q (.ref p) H'
theorem xu.at {H:Hp} {o:HO} {Q:VK} (g:xu H o Q): ∀p,H p=none->Q (.ref p) (upd H p o):=fun p n=>g p _ n af fun c u e=>by rw[ao (ak e n)];exact e
def tW8 (t:TA):TA:=fun σ H Q=> ∃P:List V->Hp->Prop,t σ H P/\ ∀xs H1,P xs H1->Q xs H1
theorem Ia {es:List Expr} {t:TA} (h:PA X es t):PA X es (tW8 t):=fun pos pins s σ H Q I ⟨P,hP,m⟩=>bN (h pos pins s σ H P I hP) fun us s1 z=>by
 obtain ⟨xs,H1,I1,r,q⟩:=z
 exact ⟨xs,H1,I1,r,m _ _ q⟩
def OD (t:TA):TE:=fun σ H Q=>t σ H fun xs H1=>xs.length<=sizeLine/\xu H1 (.lst xs) Q
theorem eT {es:List Expr} {t:TA} {pos:Pos} (h:PA X es t):PE X (.List es pos) (OD t):=fun pins s σ H Q I hq=>
 bE (Ia h) pins s σ H Q I ⟨_,hq,fun _ _ z=>⟨z.1,z.2.at⟩⟩
def OE (t:TA):TE:=fun σ H Q=>t σ H fun xs H1=>xs.length<=sizeLine/\xu H1 (.tup xs) Q
theorem Gb {es:List Expr} {t:TA} {x1} {pos:Pos} (h:PA X es t):PE X (.Tuple es x1 pos) (OE t):=fun pins s σ H Q I hq=>
 dz (Ia h) pins s σ H Q I ⟨_,hq,fun _ _ z=>⟨z.1,z.2.at⟩⟩
def OF:R2:=fun x y H Q=> ∃l b xs zs,x= .ref l/\y= .ref b/\H l=some (.lst xs)/\H b=some (.lst zs)/\xs.length+zs.length<=sizeLine/\xu H (.lst (xs++zs)) Q
theorem eU:iK X (binaryOp .Add) OF:=fun pins s σ H x y v u Q I rx ry ⟨l,b,xs,zs,e1,e2,h1,h2,hz,g⟩=>BZ pins s σ H x y v u Q I rx ry ⟨l,b,xs,zs,e1,e2,h1,h2,hz,g.at⟩
def OG (K:PySem.W.Frag):V->Option Int->Option Int->Hp->VK->Prop:=fun x lo hi H Q=> ∃a xs,x= .ref a/\aN K H a xs/\xu H (.lst (j8 xs lo hi)) Q
theorem cq (K:PySem.W.Frag) (h:X.K=K):M6 X (OG K):=fun pins s σ H x v vl vu lo hi sl Q I rx hs pl pu ⟨a,xs,e,hx,g⟩=>gI K h pins s σ H x v vl vu lo hi sl Q I rx hs pl pu ⟨a,xs,e,hx,g.at⟩
def Gd (c:Nat):V->List V->Hp->VK->Prop:=fun x vs H Q=> ∃l,x= .str (S l)/\vs=[.str (S [c])]/\l.length<=1000000/\xu H (.lst ((bY c l).map fun l=>V.str (S l))) Q
theorem oq (c:Nat):wN X "str.split" (Gd c):=fun pins s σ H x xs v us Q I rx rv ⟨l,e1,e2,hl,g⟩=>fA c pins s σ H x xs v us Q I rx rv ⟨l,e1,e2,hl,g.at⟩
end
end L2
set_option maxHeartbeats 4000000
namespace My
open PySem PySem.Spec PyProof.Rows L2 XL
noncomputable def aH:List Nat:=[97,98,99,100,101,102,103,104,105,106,107,108,109,110,111,112,113,114,115,116,117,118,119,120,121,122]
noncomputable def jx:List Nat:=[65,66,67,68,69,70,71,72,73,74,75,76,77,78,79,80,81,82,83,84,85,86,87,88,89,90]
def Lt (c:Nat):Prop:=c∈aH\/c∈jx
noncomputable instance (c:Nat):Decidable (Lt c):=by unfold Lt;infer_instance
noncomputable def eV (c:Nat):Nat:=if cM c=true then PyProof.Rows.up1 c else PyProof.Rows.lo1 c
theorem sQ: ∀c∈aH++jx,c<128/\eV c∈aH++jx/\eV (eV c)=c/\eV c≠c:=by decide+kernel
theorem Lt.mem {c:Nat} (h:Lt c):c∈aH++jx:=Qaa.mpr h
theorem Lt.lt {c:Nat} (h:Lt c):c<128:=(sQ c h.mem).1
theorem Lt.eV {c:Nat} (h:Lt c):Lt (eV c):=Qaa.mp (sQ c h.mem).2.1
theorem gn {c:Nat} (h:Lt c):eV (eV c)=c:=(sQ c h.mem).2.2.1
theorem Lj {c:Nat} (h:Lt c):eV c≠c:=(sQ c h.mem).2.2.2
theorem Ge {a b:Nat} (ha:Lt a) (hb:Lt b) (e:My.eV a=My.eV b):a=b:=by rw[<-gn ha,e,gn hb]
theorem uZ: ∀c∈aH,lZ jx ((aH.idxOf c:Nat):Int)=some (eV c):=by decide+kernel
theorem Au: ∀c∈jx,lZ aH ((jx.idxOf c:Nat):Int)=some (eV c):=by decide+kernel
def aI (b:Addr) (H H':Hp):Prop:= ∀c o,H c=some o->c≠b->H' c=some o
theorem aI.refl (b:Addr) (H:Hp):aI b H H:=fun _ _ h _=>h
theorem aI.trans {b:Addr} {H H1 H2:Hp} (x:aI b H H1) (y:aI b H1 H2):aI b H H2:=fun c o h n=>y c o (x c o h n) n
theorem aI.of {b:Addr} {H H':Hp} (x:ah H H'):aI b H H':=fun c o h _=>x c o h
theorem aI.upd (b:Addr) (H:Hp) (o:HO):aI b H (upd H b o):=fun c o h n=>by rw[ao n];exact h
theorem ah.upd {H:Hp} {p:Addr} {o:HO} (h:H p=none):ah H (L2.upd H p o):=fun c u e=>by rw[ao (ak e h)];exact e
def bG (H:Hp) (b:Addr):Prop:= ∃x y:Int,H b=some (.lst [.int x, .int y])
theorem bG.same {H H':Hp} {b:Addr} (h:bG H b) (s:ah H H'):bG H' b:=let ⟨x,y,e⟩:=h;⟨x,y,s _ _ e⟩
structure Yd (y:List Nat):Prop where
 nd:y.Nodup
 lt: ∀c∈y,Lt c
 cl: ∀c∈y,eV c∈y
def lN (_:PySem.W.Frag):Sp:=fun vs H Q _=> ∃c,vs=[.str (S [c])]/\Lt c/\Q (.str (S [eV c])) H
theorem xv {K:PySem.W.Frag} {vs:List V} {H:Hp} {Q:VK} {E:XK} (h:lN K vs H Q E):vs.length=1:=by obtain ⟨c,rfl,_⟩:=h;rfl
def y9 (K:PySem.W.Frag):Sp:=fun vs H Q _=> ∃(a:Addr) (ns:List Int) (k:Nat),vs=[.ref a, .int k]/\aN K H a (ns.map V.int)/\k<=1000/\ ∀b H',H b=none->bG H' b->ah H H'->Q (.ref b) H'
theorem C_ {K:PySem.W.Frag} {vs:List V} {H:Hp} {Q:VK} {E:XK} (h:y9 K vs H Q E):vs.length=2:=by obtain ⟨a,ns,k,rfl,_⟩:=h;rfl
def u_ (_:PySem.W.Frag):Sp:=fun vs H Q _=> ∃(b:Addr) (m:Int),vs=[.ref b, .int m]/\bG H b/\1<=m/\m<1000000/\ ∀(r:Nat) H',(r:Int)<m->bG H' b->aI b H H'->Q (.int r) H'
theorem Av {K:PySem.W.Frag} {vs:List V} {H:Hp} {Q:VK} {E:XK} (h:u_ K vs H Q E):vs.length=2:=by obtain ⟨b,m,rfl,_⟩:=h;rfl
def va (_:PySem.W.Frag):Sp:=fun vs H Q _=> ∃(b:Addr) (iT top:Nat),vs=[.ref b, .int iT, .int top]/\bG H b/\1<=iT/\iT<=top/\top<=8/\ ∀(y:List Nat) H',Yd y->2*iT<=y.length->y.length<=2*top->bG H' b->aI b H H'->Q (.str (S y)) H'
theorem Aw {K:PySem.W.Frag} {vs:List V} {H:Hp} {Q:VK} {E:XK} (h:va K vs H Q E):vs.length=3:=by obtain ⟨b,m,t,rfl,_⟩:=h;rfl
def vd (_:PySem.W.Frag):Sp:=fun vs H Q _=> ∃(b:Addr) (y:List Nat) (top:Nat),vs=[.ref b, .str (S y), .int top]/\bG H b/\y≠[]/\y.length<=1000/\top<=1000/\ ∀(l:List Nat) H',(∀c∈l,c∈y)->l.length<=top->bG H' b->aI b H H'->Q (.str (S l)) H'
theorem Ax {K:PySem.W.Frag} {vs:List V} {H:Hp} {Q:VK} {E:XK} (h:vd K vs H Q E):vs.length=3:=by obtain ⟨b,m,t,rfl,_⟩:=h;rfl
def lh (K:PySem.W.Frag):Sp:=fun vs H Q _=> ∃(a:Addr) (ns:List Int),vs=[.ref a]/\aN K H a (ns.map V.int)/\ns.length<=63/\ ∀H',Q (.bl true) H'
theorem Gf {K:PySem.W.Frag} {vs:List V} {H:Hp} {Q:VK} {E:XK} (h:lh K vs H Q E):vs.length=1:=by obtain ⟨b,m,rfl,_⟩:=h;rfl
theorem Dc: ∀l:List Nat,(l.map fun c=>[c]).flatten=l
 | []=>rfl
 | c::l=>by rw[ZD,Qcw,Dc l];rfl
theorem Lk: ∀l:List Nat,((l.map fun c=>[c]).map List.length).sum=l.length
 | []=>rfl
 | c::l=>by
  rw[ZD,ZD,Qaz,Lk l]
  show 1+l.length=l.length+1
  omega
theorem jd (l:List Nat):bX l=(l.map fun c=>[c]).map fun l=>V.str (S l):=by unfold bX;rw[Qbs];rfl
theorem gP (l:List Nat) (c:Nat):bX l++[V.str (S [c])]=bX (l++[c]):=by unfold bX;rw[Qar];rfl
theorem take_snoc {α:Type} {l:List α} {i:Nat} {x:α} (h:l[i]? =some x):l.take i++[x]=l.take (i+1):=by rw[Qdm,h];rfl
theorem y_ {ns:List Int} {i:Nat} (h:i<ns.length): ∃z,(ns.map V.int)[i]? =some (V.int z):=⟨ns[i],by rw[Qau,Mn h];rfl⟩
theorem sR {σ:L2.St} {H:Hp} {A B:Hp->Prop} (h:A H):Nh σ H fun b H3=>if b=true then A H3 else B H3:=by
 show (if true=true then A H else B H)
 rw[if_pos rfl]
 exact h
theorem xw (b:Bool) (z:Int): ∃y,lZ [V.int 0,V.int z] (if b=true then 1 else 0)=some (V.int y):=by
 cases b
 ·exact ⟨0,rfl⟩
 ·exact ⟨z,rfl⟩
theorem fK {α:Type}: ∀{l:List α} {i:Nat} {x:α},l[i]? =some x->(x::l.eraseIdx i).Perm l
 | [],i,x,h=>by simp at h
 | a::l,0,x,h=>by
  have:a=x:=by simpa using h
  subst this
  exact Qcq _
 | a::l,i+1,x,h=>by
  have ih:=fK (l:=l) (i:=i) (x:=x) (by simpa using h)
  rw[Qd3]
  exact (List.Perm.swap a x _).trans (List.Perm.cons a ih)
theorem qQ (l:List Nat) (i:Nat):(bX l).eraseIdx i=bX (l.eraseIdx i):=by
 unfold bX
 induction l generalizing i with
 | nil=>rfl
 | cons a l ih=>
  cases i with
  | zero=>rfl
  | succ i=>rw[ZD,Qd3,ih,Qd3,ZD]
theorem Dd {l:List Nat} {i:Nat} (h:i<l.length):(bX l)[i]? =some (V.str (S [l[i]])):=by unfold bX;rw[Qau,Mn h];rfl
theorem Gg (a b:List Nat):bX a++bX b=bX (a++b):=by unfold bX;rw[Qar]
theorem Ay: ∀c∈aH,eV c∉aH:=by decide+kernel
theorem qR:aH.Nodup:=by decide+kernel
theorem Yd.perm {a b:List Nat} (h:Yd a) (p:a.Perm b):Yd b:=
 ⟨p.nodup_iff.mp h.nd,fun c hc=>h.lt c (p.mem_iff.mpr hc),fun c hc=>p.mem_iff.mp (h.cl c (p.mem_iff.mpr hc))⟩
structure Ll (i:Nat) (L E:List Nat):Prop where
 yd:Yd E
 nd:L.Nodup
 sm: ∀c∈L,c∈aH
 ap: ∀c∈L,c∉E
 ll:L.length=26 - i
 el:E.length=2*i
theorem Ll.start:Ll 0 aH []:=⟨⟨List.nodup_nil,fun _ h=>absurd h Qam,fun _ h=>absurd h Qam⟩,qR,fun _ h=>h,fun _ _ h=>absurd h Qam,rfl,rfl⟩
theorem Ll.turn {i r:Nat} {L E:List Nat} (w:Ll i L E) (hi:i<26) (hr:r<L.length):Ll (i+1) (L.eraseIdx r) (E++[L[r],eV L[r]]):=by
 have hp:=fK (l:=L) (Mn hr)
 have hm:L[r]∈L:=Qa4 hr
 have hs:=w.sm _ hm
 have hl:Lt L[r]:= .inl hs
 have Yv:=hp.nodup_iff.mpr w.nd
 have sub: ∀c∈L.eraseIdx r,c∈L:=fun c hc=>hp.mem_iff.mp (Zz _ hc)
 have Yw:=w.ap _ hm
 have ap2:eV L[r]∉E:=fun z=>Yw (by have:=w.yd.cl _ z;rwa [gn hl]at this)
 refine ⟨⟨?_,fun c hc=>?_,fun c hc=>?_⟩,(Qcs.mp Yv).2,fun c hc=>w.sm c (sub c hc),fun c hc hE=>?_,?_,?_⟩
 ·rw[List.nodup_append]
  refine ⟨w.yd.nd,?_,fun a ha b hb z=>?_⟩
  ·rw[Qcs]
   refine ⟨fun z=>(Lj hl) (QB.mp z).symm,Qcs.mpr ⟨Qam,List.nodup_nil⟩⟩
  ·subst z
   rcases XB.mp hb with z | z
   ·exact Yw (z▸ha)
   ·exact ap2 (QB.mp z▸ha)
 ·rcases Qaa.mp hc with z | z
  ·exact w.yd.lt c z
  ·rcases XB.mp z with z | z
   ·rw[z];exact hl
   ·rw[QB.mp z];exact hl.eV
 ·rcases Qaa.mp hc with z | z
  ·exact Qbr _ (w.yd.cl c z)
  ·refine Qag _ ?_
   rcases XB.mp z with z | z
   ·rw[z];exact Zz _ (QB.mpr rfl)
   ·rw[QB.mp z,gn hl];exact ZC
 ·rcases Qaa.mp hE with z | z
  ·exact w.ap c (sub c hc) z
  ·rcases XB.mp z with z | z
   ·exact (Qcs.mp Yv).1 (z▸hc)
   ·have e:c=eV L[r]:=QB.mp z
    exact Ay _ hs (e▸w.sm c (sub c hc))
 ·have:=hp.length_eq
  rw[Zy,w.ll]at this
  omega
 ·rw[JQ,w.el]
  show 2*i+2=_
  omega
theorem aI.cS {b p:Addr} {H H':Hp} {o:HO} (h:aI b H H') (n:H p=none):aI b H (L2.upd H' p o):=fun c u e z=>by rw[ao (ak e n)];exact h c u e z
theorem bG.cS {b p:Addr} {H:Hp} {o:HO} (h:bG H b) (n:p≠b):bG (L2.upd H p o) b:=let ⟨x,y,e⟩:=h;⟨x,y,by rw[ao (Ne.symm n)];exact e⟩
theorem aI.none {b p:Addr} {H H':Hp} (h:aI b H H') (n:H' p=none) (z:p≠b):H p=none:=by
 cases q:H p with
 | none=>rfl
 | some o=>rw[h p o q z]at n;cases n
theorem bG.ne {b p:Addr} {H:Hp} (h:bG H b) (n:H p=none):p≠b:=fun z=>by obtain ⟨x,y,e⟩:=h;rw[<-z,n]at e;cases e
theorem mI {c:Bool} {A B:Prop} (h:c=false) (hB:B):if c=true then A else B:=by rw[h];exact Sk hB
theorem ou {c:Bool} {A B:Prop} (h:c=true) (hA:A):if c=true then A else B:=by rw[h];exact Sl hA
theorem OH {l:List Nat} (h: ∀c∈l,Lt c): ∀c∈l,c<128:=fun c hc=>(h c hc).lt
theorem ve (a:List Nat):a.take (bX a).length=a:=by rw[aU];exact Qao (XA _)
theorem aI.same {b:Addr} {H H2 H3:Hp} (n:H b=Option.none) (s:ah H H2) (t:aI b H2 H3):ah H H3:=fun c o e=>t c o (s c o e) (ak e n)
theorem aI.after {p:Addr} {H H1 H2:Hp} (s:aI p H H1) (t:ah H1 H2):aI p H H2:=fun c o e z=>t c o (s c o e z)
noncomputable def ba (ws:List (List Nat)):List V:=ws.map fun l=>V.str (S l)
theorem ay (ws:List (List Nat)):(ba ws).length=ws.length:=by unfold ba;rw[kb]
theorem i4 (ws:List (List Nat)) (l:List Nat):ba ws++[V.str (S l)]=ba (ws++[l]):=by unfold ba;rw[Qar];rfl
theorem sS {ws:List (List Nat)} {i:Nat} (h:i<ws.length):(ba ws)[i]? =some (V.str (S ws[i])):=by unfold ba;rw[Qau,Mn h];rfl
noncomputable def OJ (st:List Nat) (c:Nat):List Nat:=if st.getLast? =some (eV c) then st.dropLast else st++[c]
noncomputable def red (l:List Nat):List Nat:=l.foldl OJ []
noncomputable def strip:Nat->List Nat->List Nat
 | 0,l=>l
 | n+1,l=>match l with
  | []=>[]
  | [a]=>[a]
  | a::b::r=>if a=eV ((b::r).getLast (by simp)) then strip n (b::r).dropLast else a::b::r
noncomputable def core (l:List Nat):List Nat:=strip l.length l
theorem ow {α:Type} (l:List α) (k:Nat):cut l none (some (k:Int))=l.take k:=by
 unfold cut
 rw[HT.uc,HT.yr,Qbz,Qcv]
 by_cases h:k<=l.length
 ·rw[Qdc h]
 ·rw[Nat.min_eq_right (by omega),Qao (XA _),Qao (by omega)]
theorem fL {α:Type} (l:List α) (k:Nat):cut l (some (k:Int)) none=l.drop k:=by
 unfold cut
 rw[HT.uc,HT.yr]
 by_cases h:k<=l.length
 ·rw[Qdc h,Qao (by rw[Qat];exact XA _)]
 ·rw[Nat.min_eq_right (by omega),Qbt (XA _),Qbt (by omega)]
  simp
noncomputable def gD (ws:List (List Nat)):List PyData:=ws.map fun l=>PyData.str (S l)
theorem dF {K:PySem.W.Frag} {H:Hp}: ∀ws:List (List Nat),gz K H (ba ws) (gD ws)
 | []=> .nil
 | w::ws=> .cons (.str _) (dF ws)
theorem Lm {l:List Nat} (h: ∀c∈l,c<128):PyData.strOk (S l)=true:=by
 unfold PyData.strOk
 rw[Array.all_eq_true_iff_forall_mem]
 intro c hc
 have:c∈l:=by simpa [S]using hc
 have:=h c this
 simp;omega
theorem eh: ∀{ws:List (List Nat)},(∀l∈ws, ∀c∈l,c<128)->PyData.canLayAll0 (gD ws)=true
 | [],_=>rfl
 | w::ws,h=>by
  show (PyData.strOk (S w)&&PyData.canLayAll0 (gD ws))=true
  rw[Lm (h w ZC),eh fun l hl=>h l (Zz _ hl)]
  rfl
theorem fF: ∀ws:List (List Nat),PyData.depthAll (gD ws)=0
 | []=>rfl
 | k::ks=>by show max (PyData.depth (.str _)) (PyData.depthAll (gD ks))=0;rw[fF ks];rfl
mutual
theorem eqv_refl: ∀d:PyData,d.hasDict=false->PyData.eqv d d=true
 | .none,_=>rfl
 | .bool b,_=>by simp[PyData.eqv]
 | .int i,_=>by simp[PyData.eqv]
 | .str x,_=>by simp[PyData.eqv]
 | .list xs,h=>by show PyData.eqvAll xs xs=true;exact eqvAll_refl xs (by simpa [PyData.hasDict]using h)
 | .tuple xs,h=>by show PyData.eqvAll xs xs=true;exact eqvAll_refl xs (by simpa [PyData.hasDict]using h)
 | .dict aZ,h=>by simp[PyData.hasDict]at h
theorem eqvAll_refl: ∀ds:List PyData,PyData.hasDictAll ds=false->PyData.eqvAll ds ds=true
 | [],_=>rfl
 | d::ds,h=>by
  simp[PyData.hasDictAll]at h
  show (PyData.eqv d d&&PyData.eqvAll ds ds)=true
  rw[eqv_refl d h.1,eqvAll_refl ds h.2]
  rfl
end
noncomputable def rot (c:List Nat) (k:Nat):List Nat:=c.drop k++c.take k
noncomputable def TR (c:List Nat) (n:Nat):List (List Nat):=(List.range n).map fun k=>rot c (k+1)
noncomputable def OK (c:List Nat):List Nat:=yE c (TR c (c.length - 1))
@[irreducible] noncomputable def Yx (w:List Nat):List Nat:=OK (core (red w))
theorem cI: ∀c∈aH,cM c=true/\PyProof.Rows.lo1 c=c/\eV c∈jx:=by decide+kernel
theorem fM: ∀c∈jx,cM c=false/\PyProof.Rows.lo1 c=eV c/\c∉aH/\eV c∈aH:=by decide+kernel
theorem qS: ∀c∈jx,c∉aH:=by decide+kernel
theorem lO {c:Nat} (h:Lt c):cM c=decide (c∈aH):=by
 rcases h with h | h
 ·rw[(cI c h).1,decide_eq_true h]
 ·rw[(fM c h).1,decide_eq_false (fM c h).2.2.1]
noncomputable def kept (sm:List Nat) (c:Nat):Bool:=decide (PyProof.Rows.lo1 c∈sm)
def Yy (i j k:Nat):Prop:=(i<j/\j<k)\/(j<k/\k<i)\/(k<i/\i<j)
noncomputable instance (i j k:Nat):Decidable (Yy i j k):=by unfold Yy;infer_instance
theorem Az {a b:List Nat} (h:a.Perm b) (ha:a.Pairwise (· <= ·)) (hb:b.Pairwise (· <= ·)):a=b:=
 List.Perm.eq_of_pairwise (le:=fun x y=>x<=y) (fun _ _ _ _ h1 h2=>Qdd h1 h2) ha hb h
def vg (_:PySem.W.Frag):Sp:=fun vs H Q _=> ∃l:List Nat,vs=[.str (S l)]/\(∀c∈l,c<128)/\l.length<64/\ ∀l' H',l'.Perm (l.filter cM)->l'.Pairwise (· <= ·)->ah H H'->Q (.str (S l')) H'
theorem AA {K:PySem.W.Frag} {vs:List V} {H:Hp} {Q:VK} {E:XK} (h:vg K vs H Q E):vs.length=1:=by obtain ⟨c,rfl,_⟩:=h;rfl
def lP (_:PySem.W.Frag):Sp:=fun vs H Q _=> ∃y:List Nat,vs=[.str (S y)]/\y.length<64/\ ∀q l' H',H q=none->H' q=some (.lst (bX l'))->l'.Perm (y.filter fun c=>decide (c∈aH))->l'.Pairwise (· <= ·)->ah H H'->Q (.ref q) H'
theorem xx {K:PySem.W.Frag} {vs:List V} {H:Hp} {Q:VK} {E:XK} (h:lP K vs H Q E):vs.length=1:=by obtain ⟨c,rfl,_⟩:=h;rfl
theorem fb {p:Nat->Bool} {l:List Nat} {i c:Nat} (h:l[i]? =some c):(l.take (i+1)).filter p=(l.take i).filter p++if p c=true then [c] else []:=by
 rw[<-take_snoc h,Qdu]
 congr 1
 by_cases z:p c=true
 ·rw[if_pos z,Qck z];rfl
 ·rw[if_neg z,Qc2 z];rfl
theorem vh: ∀ws:List (List Nat),PyData.hasDictAll (gD ws)=false
 | []=>rfl
 | w::ws=>by show (PyData.hasDict (.str (S w))||PyData.hasDictAll (gD ws))=false;rw[vh ws];rfl
theorem De {y:List Nat} (h:Yd y):2*(y.filter cM).length=y.length:=by
 have key: ∀p q:Nat->Bool,(∀c∈y,p c=true->q (eV c)=true)->(y.filter p).length<=(y.filter q).length:=fun p q QZ=>by
  have hn:((y.filter p).map eV).Nodup:=by
   show ((y.filter p).map eV).Pairwise (· ≠ ·)
   rw[Qb2]
   refine (h.nd.filter p).imp_of_mem fun {a b} ha hb z e=>z ?_
   exact Ge (h.lt a (Qbb.mp ha).1) (h.lt b (Qbb.mp hb).1) e
  have:=hn.length_le_of_subset (l₂:=y.filter q) fun c hc=>by
   obtain ⟨d,hd,rfl⟩:=Qa5.mp hc
   obtain ⟨d1,d2⟩:=Qbb.mp hd
   exact Qbb.mpr ⟨h.cl d d1,QZ d d1 d2⟩
  rwa [kb]at this
 have k1:=key cM (fun c=>!cM c) fun c hc z=>by
  rw[lO (h.lt c hc)]at z
  have hs:=of_decide_eq_true z
  rw[(fM _ (cI c hs).2.2).1];rfl
 have k2:=key (fun c=>!cM c) cM fun c hc z=>by
  rcases h.lt c hc with q | q
  ·rw[(cI c q).1]at z;cases z
  ·exact (cI _ (fM c q).2.2.2).1
 have k3:(y.filter cM).length+(y.filter fun c=>!cM c).length=y.length:=by
  clear k1 k2 key h
  induction y with
  | nil=>rfl
  | cons a r ih=>
   cases hq:cM a
   ·rw[Qc2 (by simp[hq]),Qck (by simp[hq]),Zy,Zy];omega
   ·rw[Qck hq,Qc2 (by simp[hq]),Zy,Zy];omega
 omega
noncomputable def bh (y:List Nat):List Nat:=(y.filter cM).mergeSort fun a b=>decide (a<=b)
theorem dc (y:List Nat):(bh y).Perm (y.filter cM):=List.mergeSort_perm _ _
theorem vi (y:List Nat):(bh y).Pairwise (· <= ·):=
 (List.pairwise_mergeSort (le:=fun a b=>decide (a<=b)) (fun a b c h1 h2=>decide_eq_true (Qa1 (of_decide_eq_true h1) (of_decide_eq_true h2))) (fun a b=>by
  rcases Nat.le_total a b with z | z
  ·rw[decide_eq_true z];rfl
  ·rw[decide_eq_true z,Qdo]) (y.filter cM)).imp fun z=>of_decide_eq_true z
theorem ko {y l:List Nat} (h:l.Perm (y.filter cM)) (p:l.Pairwise (· <= ·)):l=bh y:=Az (h.trans (dc y).symm) p (vi y)
theorem fN {y:List Nat} (h: ∀c∈y,Lt c):(y.filter fun c=>decide (c∈aH))=y.filter cM:=Qes fun c hc=>(lO (h c hc)).symm
theorem oA {y:List Nat} (h:Yd y):2*(bh y).length=y.length:=by rw[(dc y).length_eq];exact De h
structure Pr where
 t:Addr
 c:Nat
 i:Nat
noncomputable def iF (ps:List Pr):List V:=ps.map fun p=>V.ref p.t
theorem gp (ps:List Pr):(iF ps).length=ps.length:=by unfold iF;rw[kb]
theorem za (a b:List Pr):iF a++iF b=iF (a++b):=by unfold iF;rw[Qar]
theorem kq (a:List Pr) (p:Pr):iF a++[V.ref p.t]=iF (a++[p]):=by unfold iF;rw[Qar];rfl
theorem Df {ps:List Pr} {i:Nat} {x:V} (h:(iF ps)[i]? =some x): ∃p,ps[i]? =some p/\x=V.ref p.t:=by
 unfold iF at h
 rw[Qau]at h
 cases e:ps[i]? with
 | none=>rw[e]at h;cases h
 | some p=>rw[e]at h;cases h;exact ⟨p,rfl,rfl⟩
structure gQ (H:Hp) (p:Pr):Prop where
 tp:H p.t=some (.tup [.int p.c, .int p.i])
 cz:p.c<1000
 iz:p.i<1000
theorem gQ.same {H H':Hp} {p:Pr} (h:gQ H p) (s:ah H H'):gQ H' p:=⟨s _ _ h.tp,h.cz,h.iz⟩
structure Od where
 o:Addr
 ps:List Pr
structure sU (H:Hp) (o:Od):Prop where
 tp:H o.o=some (.tup (iF o.ps))
 pr: ∀p∈o.ps,gQ H p
 fw:o.ps.length<=100
theorem sU.same {H H':Hp} {o:Od} (h:sU H o) (s:ah H H'):sU H' o:=⟨s _ _ h.tp,fun p hp=>(h.pr p hp).same s,h.fw⟩
noncomputable def kr (os:List Od):List V:=os.map fun o=>V.ref o.o
theorem gq (os:List Od):(kr os).length=os.length:=by unfold kr;rw[kb]
theorem oB (a:List Od) (p:Od):kr a++[V.ref p.o]=kr (a++[p]):=by unfold kr;rw[Qar];rfl
theorem Ln {os:List Od} {i:Nat} {o:Od} (h:os[i]? =some o):(kr os)[i]? =some (V.ref o.o):=by unfold kr;rw[Qau,h];rfl
structure xy (H:Hp) (dr:Addr) (ws:List (List Nat)) (os:List Od):Prop where
 ex: ∃wt ot,H dr=some (.tup [.ref wt, .ref ot])/\H wt=some (.tup (ba ws))/\H ot=some (.tup (kr os))
 od: ∀o∈os,sU H o
theorem xy.same {H H':Hp} {dr:Addr} {ws:List (List Nat)} {os:List Od} (h:xy H dr ws os) (s:ah H H'):xy H' dr ws os:=by
 obtain ⟨⟨wt,ot,h1,h2,h3⟩,g⟩:=h
 exact ⟨⟨wt,ot,s _ _ h1,s _ _ h2,s _ _ h3⟩,fun o ho=>(g o ho).same s⟩
noncomputable def OL (y:List Nat) (os:List Od) (e:Nat):List Pr:=((os[(bh y).idxOf (PyProof.Rows.lo1 e)]?).map Od.ps).getD []
noncomputable def stA (y:List Nat) (os:List Od) (e:Nat):List Pr:=if isUp e=true then (OL y os e).reverse else OL y os e
structure Pt where
 t:Addr
 c:Nat
 i:Nat
 e:Nat
noncomputable def Pt.is (p:Pt):Nat×Nat×Nat:=(p.c,p.i,p.e)
structure aah (H:Hp) (p:Pt):Prop where
 tp:H p.t=some (.tup [.int p.c, .int p.i, .str (S [p.e])])
 cz:p.c<1000
 iz:p.i<1000
 ez:p.e<128
noncomputable def OM (y:List Nat) (os:List Od) (e:Nat):List (Nat×Nat×Nat):=(stA y os e).map fun p=>(p.c,p.i,e)
noncomputable def cD (y:List Nat) (os:List Od):List (Nat×Nat×Nat):=y.flatMap (OM y os)
def Dg (K:PySem.W.Frag) (H:Hp) (x:V) (ys:List V):Prop:=(∃p,x= .ref p/\(aN K H p ys\/cU K H p ys))\/ ∃l:List Nat,x= .str (S l)/\ys=bX l
def qT (K:PySem.W.Frag):Sp:=fun vs H Q _=> ∃(b:Addr) (x:V) (ys:List V),vs=[.ref b,x]/\bG H b/\Dg K H x ys/\ys.length<=1000/\ ∀q wg H',H q=none->q≠b->H' q=some (.lst wg)->wg.Perm ys->bG H' b->aI b H H'->Q (.ref q) H'
theorem xA {K:PySem.W.Frag} {vs:List V} {H:Hp} {Q:VK} {E:XK} (h:qT K vs H Q E):vs.length=2:=by obtain ⟨c,_,_,rfl,_⟩:=h;rfl
theorem xC {α β:Type} {f:α->β} {ys zs:List β} (h:ys.Perm zs): ∀l:List α,zs=l.map f-> ∃l':List α,ys=l'.map f/\l'.Perm l:=by
 induction h with
 | nil=>intro l e;cases l with
  | nil=>exact ⟨[],rfl,Qcq _⟩
  | cons a l=>cases e
 | cons x h ih=>
  intro l e
  cases l with
  | nil=>cases e
  | cons a l=>
   injection e with e1 e2
   obtain ⟨l',g1,g2⟩:=ih l e2
   exact ⟨a::l',by rw[g1,e1];rfl,g2.cons a⟩
 | swap x y t=>
  intro l e
  cases l with
  | nil=>cases e
  | cons a l=>
   cases l with
   | nil=>cases e
   | cons b l=>
    injection e with e1 e2
    injection e2 with e2 e3
    exact ⟨b::a::l,by rw[e1,e2,e3];rfl,List.Perm.swap a b l⟩
 | trans h1 h2 i1 i2=>
  intro l e
  obtain ⟨l1,g1,g2⟩:=i2 l e
  obtain ⟨l2,g3,g4⟩:=i1 l1 g1
  exact ⟨l2,g3,g4.trans g2⟩
noncomputable def Pr.pair (p:Pr):Nat×Nat:=(p.c,p.i)
noncomputable def AB (band l:Nat):Bool:=decide (l=band)||decide (l=eV band)
noncomputable def du (band c:Nat) (w:List Nat) (n:Nat):List (Nat×Nat):=((List.range n).filter fun i=>AB band (w.getD i 0)).map fun i=>(c,i)
noncomputable def aK (band:Nat) (ws:List (List Nat)) (n:Nat):List (Nat×Nat):=(List.range n).flatMap fun c=>du band c (ws.getD c []) (ws.getD c []).length
theorem jV {band c i l:Nat} {w:List Nat} (h:w[i]? =some l):du band c w (i+1)=du band c w i++if AB band l=true then [(c,i)] else []:=by
 have e:w.getD i 0=l:=by rw[Qca,h];rfl
 unfold du
 rw[List.range_succ,Qdu,Qar]
 congr 1
 by_cases z:AB band l=true
 ·rw[if_pos z,Qck (by rw[e];exact z)];rfl
 ·rw[if_neg z,Qc2 (by rw[e];exact z)];rfl
theorem cY {band i:Nat} {ws:List (List Nat)} {w:List Nat} (h:ws[i]? =some w):aK band ws (i+1)=aK band ws i++du band i w w.length:=by
 have e:ws.getD i []=w:=by rw[Qca,h];rfl
 unfold aK
 rw[List.range_succ,List.flatMap_append]
 congr 1
 rw[List.flatMap_cons,List.flatMap_nil,Qal,e]
theorem AD (band c:Nat) (w:List Nat) (n:Nat):(du band c w n).length<=n:=by
 unfold du
 rw[kb]
 exact Qa1 (Qcr _ _) (by rw[Qdy];exact XA _)
structure AE (y:List Nat) (ws:List (List Nat)):Prop where
 iT:ws.length<=4
 all: ∀w∈ws,(∀c∈w,c∈y)/\w.length<=12
def ON (y:List Nat) (ws:List (List Nat)) (os:List Od):Prop:=os.length=(bh y).length/\ ∀(j:Nat) (o:Od) (b:Nat),os[j]? =some o->(bh y)[j]? =some b->(o.ps.map Pr.pair).Perm (aK b ws ws.length)
def mn (_:PySem.W.Frag):Sp:=fun vs H Q _=> ∃(b:Addr) (y:List Nat) (wt:Addr) (ws:List (List Nat)),vs=[.ref b, .str (S y), .ref wt]/\bG H b/\Yd y/\y.length<=8/\wt≠b/\H wt=some (.tup (ba ws))/\AE y ws/\ ∀(dr:Addr) (os:List Od) (H':Hp),xy H' dr ws os->ON y ws os->bG H' b->aI b H H'->Q (.ref dr) H'
theorem sV {K:PySem.W.Frag} {vs:List V} {H:Hp} {Q:VK} {E:XK} (h:mn K vs H Q E):vs.length=3:=by obtain ⟨c,_,_,_,rfl,_⟩:=h;rfl
theorem bF.box {H H':Hp} {b:Addr} (h:bG H b) (s:aI b H H'):bF H H':=fun c xs e=>s c _ e fun z=>by
 obtain ⟨x,y,g⟩:=h
 rw[z,g]at e;cases e
theorem gQ.ts {H H':Hp} {p:Pr} (h:gQ H p) (s:bF H H'):gQ H' p:=⟨s _ _ h.tp,h.cz,h.iz⟩
theorem sU.ts {H H':Hp} {o:Od} (h:sU H o) (s:bF H H'):sU H' o:=⟨s _ _ h.tp,fun p hp=>(h.pr p hp).ts s,h.fw⟩
theorem Lo {band l:Nat} (hb:band∈aH) (hl:Lt l):decide (PyProof.Rows.lo1 l=band)=AB band l:=by
 unfold AB
 rcases hl with h | h
 ·have e:=(cI l h).2.1
  have n:l≠eV band:=fun z=>qS _ (cI band hb).2.2 (z▸h)
  rw[e,decide_eq_false n,Qel]
 ·have e:=(fM l h).2.1
  have n:l≠band:=fun z=>qS l h (z▸hb)
  rw[e,decide_eq_false n,Bool.false_or]
  refine decide_eq_decide.mpr ⟨fun z=>by rw[<-z,gn (.inr h)],fun z=>by rw[z,gn (.inl hb)]⟩
theorem oE {band:Nat} {ws:List (List Nat)}: ∀{n:Nat}, ∀p∈aK band ws n,p.1<n:=fun {n} p hp=>by
 unfold aK at hp
 obtain ⟨c,hc,h⟩:=Qd2.mp hp
 unfold du at h
 obtain ⟨i,_,rfl⟩:=Qa5.mp h
 exact Qc1.mp hc
noncomputable def pz (p:Nat×Nat):Int×Int:=(p.1,p.2)
theorem xD (band c:Nat) (w:List Nat): ∀n,(du band c w n).Pairwise fun x y=>eJ (pz y) (pz x)=false:=fun n=>by
 unfold du
 rw[Qb2]
 refine (List.Pairwise.filter _ List.pairwise_lt_range).imp fun {i j} h=>?_
 unfold eJ pz
 simp
 omega
theorem mq (band:Nat) (ws:List (List Nat)): ∀n,n<=ws.length->(aK band ws n).Pairwise fun x y=>eJ (pz y) (pz x)=false
 | 0,_=>List.Pairwise.nil
 | n+1,h=>by
  rw[cY (Mn (by omega:n<ws.length)),Qa8]
  refine ⟨mq band ws n (by omega),xD _ _ _ _,fun x hx y hy=>?_⟩
  have h1:=oE x hx
  unfold du at hy
  obtain ⟨i,_,rfl⟩:=Qa5.mp hy
  unfold eJ pz
  simp
  omega
theorem oF (band:Nat) {ws:List (List Nat)} (hw: ∀w∈ws,w.length<=12): ∀n,n<=ws.length->(aK band ws n).length<=12*n
 | 0,_=>XA _
 | n+1,h=>by
  have hn:n<ws.length:=by omega
  rw[cY (Mn hn),JQ]
  have h1:=oF band hw n (by omega)
  have h2:=AD band n ws[n] ws[n].length
  have h3:=hw _ (Qa4 hn)
  omega
noncomputable def jW (p:Nat×Nat):PyData:= .tuple [.int p.1, .int p.2]
theorem oG {K:PySem.W.Frag} {H:Hp}: ∀{ps:List Pr},(∀p∈ps,gQ H p)->gz K H (iF ps) ((ps.map Pr.pair).map jW)
 | [],_=> .nil
 | p::ps,h=> .cons (.tup (cU.of (h p ZC).tp) (.cons (.int _) (.cons (.int _) .nil))) (oG fun q hq=>h q (Zz _ hq))
theorem vj: ∀ns:List (Nat×Nat),PyData.hasDictAll (ns.map jW)=false
 | []=>rfl
 | n::ns=>by show (PyData.hasDict (jW n)||PyData.hasDictAll (ns.map jW))=false;rw[vj ns];rfl
def TU (y:List Nat) (ws:List (List Nat)) (os:List Od):Prop:=os.map (fun o=>o.ps.map Pr.pair)=(bh y).map fun b=>aK b ws ws.length
theorem vk {y:List Nat} (h:Yd y) {b:Nat} (hb:b∈bh y):b∈aH:=by
 obtain ⟨h1,h2⟩:=Qbb.mp ((dc y).mem_iff.mp hb)
 rw[lO (h.lt b h1)]at h2
 exact of_decide_eq_true h2
structure Ask where
 t:Addr
 u:List Nat
 wt:Addr
 ws:List (List Nat)
 ot:Addr
 os:List Od
structure Yz (H:Hp) (k:Ask):Prop where
 tp:H k.t=some (.tup [.str (S k.u), .ref k.wt, .ref k.ot])
 yd:Yd k.u
 yz:k.u.length<=8
 wo:AE k.u k.ws
 hw:H k.wt=some (.tup (ba k.ws))
 ho:H k.ot=some (.tup (kr k.os))
 od: ∀o∈k.os,sU H o
 ex:TU k.u k.ws k.os
noncomputable def sW (y l:List Nat):Option Nat:=l.findIdx? fun c=>!decide (c∈y)
theorem sZ {y:List Nat}: ∀{l:List Nat},(∀d∈l,d∈y)->sW y l=none
 | [],_=>rfl
 | a::l,h=>by
  unfold sW
  rw[Qen,show (!decide (a∈y))=false from by simp[h a ZC]]
  have e:=sZ (l:=l) fun d hd=>h d (Zz _ hd)
  unfold sW at e
  rw[e];rfl
theorem Dh {y:List Nat} {c:Nat}: ∀{l:List Nat} {i:Nat},l[i]? =some c->c∉y->(∀d∈l.take i,d∈y)->sW y l=some i
 | [],i,h,_,_=>by simp at h
 | a::l,0,h,n,_=>by
  obtain rfl:a=c:=by simpa using h
  unfold sW
  rw[Qen,show (!decide (a∈y))=true from by simp[n]];rfl
 | a::l,i+1,h,n,b=>by
  unfold sW
  rw[Qen,show (!decide (a∈y))=false from by simp[b a (by simp)]]
  have e:=Dh (l:=l) (i:=i) (by simpa using h) n fun d hd=>b d (by simp[hd])
  unfold sW at e
  rw[e];rfl
noncomputable def frV:Option Nat->V
 | none=> .cK
 | some i=> .int i
def iB (_:PySem.W.Frag):Sp:=fun vs H Q _=> ∃(y w:List Nat),vs=[.str (S y), .str (S w)]/\ ∀H',ah H H'->Q (frV (sW y w)) H'
theorem lQ {K:PySem.W.Frag} {vs:List V} {H:Hp} {Q:VK} {E:XK} (h:iB K vs H Q E):vs.length=2:=by obtain ⟨c,_,rfl,_⟩:=h;rfl
structure OO where
 t:Addr
 c:Int
 i:Int
noncomputable def OO.pair (p:OO):Int×Int:=(p.c,p.i)
structure OI where
 o:Addr
 ps:List OO
noncomputable def piv (ps:List OO):List V:=ps.map fun p=>V.ref p.t
noncomputable def oiv (os:List OI):List V:=os.map fun o=>V.ref o.o
def TV (H:Hp) (p:OO):Prop:=H p.t=some (.tup [.int p.c, .int p.i])
structure TX (H:Hp) (o:OI):Prop where
 tp:H o.o=some (.tup (piv o.ps))
 pr: ∀p∈o.ps,TV H p
structure aai (H:Hp) (dr:Addr) (ws:List (List Nat)) (os:List OI):Prop where
 tp: ∃wt ot,H dr=some (.tup [.ref wt, .ref ot])/\H wt=some (.tup (ba ws))/\H ot=some (.tup (oiv os))
 od: ∀o∈os,TX H o
structure Bd (j:Nat) (ws:List (List Nat)) (os:List OI):Prop where
 iT:ws.length<=4
 wd: ∀w∈ws,(∀c∈w,c<128)/\w.length<=12
 om:os.length<=4+j
 op: ∀o∈os,o.ps.length<=48+j
theorem Gh {y w:List Nat} (h:sW y w=none): ∀c∈w,c∈y:=fun c hc=>by
 unfold sW at h
 have:=Qdx.mp h c hc
 simpa using this
noncomputable def Gi (p:Int×Int):PyData:= .tuple [.int p.1, .int p.2]
theorem Lp (p q:Int×Int):PyData.eqv (Gi p) (Gi q)=decide (p=q):=by
 obtain ⟨a,b⟩:=p
 obtain ⟨c,d⟩:=q
 show (decide (a=c)&&(decide (b=d)&&true))=_
 by_cases h1:a=c
 ·by_cases h2:b=d
  ·subst h1;subst h2;simp
  ·rw[decide_eq_false h2,decide_eq_false (show ¬(a,b)=(c,d) from fun z=>h2 (Prod.mk.inj z).2)];simp
 ·rw[decide_eq_false h1,decide_eq_false (show ¬(a,b)=(c,d) from fun z=>h1 (Prod.mk.inj z).1)];simp
theorem zc: ∀a b:List (Int×Int),PyData.eqvAll (a.map Gi) (b.map Gi)=decide (a=b)
 | [],[]=>rfl
 | [],_::_=>rfl
 | _::_,[]=>rfl
 | p::a,q::b=>by
  show (PyData.eqv (Gi p) (Gi q)&&PyData.eqvAll (a.map Gi) (b.map Gi))=_
  rw[Lp,zc a b]
  by_cases h1:p=q
  ·by_cases h2:a=b
   ·subst h1;subst h2;simp
   ·rw[decide_eq_false h2,decide_eq_false (fun z=>h2 (Qbv z).2)];simp
  ·rw[decide_eq_false h1,decide_eq_false (fun z=>h1 (Qbv z).1)];simp
theorem AF {x y:Int×Int} (h1:eJ y x=false) (h2:eJ x y=false):x=y:=by
 obtain ⟨a,b⟩:=x
 obtain ⟨c,d⟩:=y
 unfold eJ at*
 simp only[Bool.or_eq_false_iff,Bool.and_eq_false_iff,decide_eq_false_iff_not]at*
 refine Prod.ext ?_ ?_<;>(show (_:Int)=_;omega)
theorem zd: ∀{l m:List (Int×Int)},l.Perm m->l.Pairwise (fun x y=>eJ y x=false)->m.Pairwise (fun x y=>eJ y x=false)->l=m
 | [],m,h,_,_=>h.symm.eq_nil.symm
 | x::l,[],h,_,_=>absurd h.length_eq (by simp)
 | x::l,y::m,h,hl,hm=>by
  have e:x=y:=by
   have h1:x∈y::m:=h.mem_iff.mp ZC
   have h2:y∈x::l:=h.mem_iff.mpr ZC
   rcases XB.mp h1 with z | z
   ·exact z
   rcases XB.mp h2 with z2 | z2
   ·exact z2.symm
   exact AF (Qc9 hl z2) (Qc9 hm z)
  subst e
  rw[zd (List.Perm.cons_inv h) (Qdt.mp hl).2 (Qdt.mp hm).2]
theorem ze {y:List Nat} (h: ∀c∈y,Lt c): ∀b∈bh y,b∈aH:=fun b hb=>by
 have h1:=(dc y).mem_iff.mp hb
 rw[<-fN h]at h1
 exact of_decide_eq_true (Qbb.mp h1).2
theorem s_ (y:List Nat):(bh y).length<=y.length:=by rw[(dc y).length_eq];exact Qcr _ _
noncomputable def mv:List Nat:=[114,101,102,117,115,101,100]
noncomputable def xF:List Nat:=[116,111,108,100]
def vm (_:PySem.W.Frag):Sp:=fun vs H Q _=> ∃(b:Addr) (y:List Nat),vs=[.ref b, .str (S y)]/\bG H b/\(∀c∈y,c<128)/\y.length<=8/\ ∀(x:Nat) H',x<128->bG H' b->aI b H H'->Q (.str (S [x])) H'
theorem AG {K:PySem.W.Frag} {vs:List V} {H:Hp} {Q:VK} {E:XK} (h:vm K vs H Q E):vs.length=2:=by obtain ⟨_,_,rfl,_⟩:=h;rfl
theorem vn (l:List (List Nat)) (lo hi:Option Int):j8 (ba l) lo hi=ba (cut l lo hi):=by unfold ba j8 cut;rw[kb, <-Qd0, <-Qdz]
theorem TY {H5:Hp} {X:Hp->Prop} {G:Prop} (f:(∀H6,ah H5 H6->X H6)->G) (x: ∀H6,ah H5 H6->X H6):G:=f x
theorem tm: ∀n,n<30->(46∉dg n)/\32∉dg n/\10∉dg n/\(dg n).length<=3:=by decide+kernel
noncomputable def stx (p:Nat×Nat):List Nat:=dg p.1++46::dg p.2
def Ib (p:Nat×Nat):Prop:=p.1<30/\p.2<30
theorem Lq {p:Nat×Nat} (hp:Ib p):32∉stx p/\10∉stx p/\(stx p).length<=7:=by
 obtain ⟨_,a2,a3,a4⟩:=tm _ hp.1
 obtain ⟨_,b2,b3,b4⟩:=tm _ hp.2
 unfold stx
 refine ⟨fun z=>?_,fun z=>?_,by rw[JQ,Zy];omega⟩
 ·rcases Qaa.mp z with g | g
  ·exact a2 g
  ·rcases XB.mp g with g | g
   ·cases g
   ·exact b2 g
 ·rcases Qaa.mp z with g | g
  ·exact a3 g
  ·rcases XB.mp g with g | g
   ·cases g
   ·exact b3 g
noncomputable def cw:List Nat:=[99,111,114,100]
noncomputable def cN:List Nat:=[98,97,110,100]
noncomputable def eG (w:List Nat):List Nat:=if w=[] then [45] else w
noncomputable def gr (w:List Nat):List Nat:=bI 32 [cw,eG w]
noncomputable def fj (b:Nat) (ps:List (Nat×Nat)):List (List Nat):=cN::[b]::ps.map stx
noncomputable def b_ (b:Nat) (ps:List (Nat×Nat)):List Nat:=bI 32 (fj b ps)
noncomputable def rowsOf (y:List Nat) (ws:List (List Nat)) (os:List (List (Nat×Nat))):List (List Nat):=ws.map gr++List.zipWith b_ (bh y) os
noncomputable def textOf (y:List Nat) (ws:List (List Nat)) (os:List (List (Nat×Nat))):List Nat:=bI 10 (rowsOf y ws os)
theorem oH: ∀c∈aH++jx,c≠32/\c≠10/\c≠45:=by decide+kernel
theorem lR {c d:Nat}: ∀{ps:List (List Nat)},d∈bI c ps->d=c\/ ∃p∈ps,d∈p
 | [],h=>by simp[bI]at h
 | [p],h=> .inr ⟨p,ZC,h⟩
 | p::q::r,h=>by
  have h':d∈p++c::bI c (q::r):=h
  rcases Qaa.mp h' with g | g
  ·exact .inr ⟨p,ZC,g⟩
  ·rcases XB.mp g with g | g
   ·exact .inl g
   ·rcases lR g with g | ⟨x,hx,g⟩
    ·exact .inl g
    ·exact .inr ⟨x,Zz _ hx,g⟩
theorem Di {w:List Nat} (h: ∀c∈w,Lt c):32∉eG w/\10∉eG w/\eG w≠[]:=by
 unfold eG
 split
 ·exact ⟨by decide,by decide,by decide⟩
 ·rename_i hw
  exact ⟨fun z=>(oH _ (h _ z).mem).1 rfl,fun z=>(oH _ (h _ z).mem).2.1 rfl,hw⟩
theorem Dj {w:List Nat} (h: ∀c∈w,Lt c):10∉gr w:=fun z=>by
 rcases lR z with g | ⟨p,hp,g⟩
 ·cases g
 ·rcases XB.mp hp with e | e
  ·rw[e]at g;revert g;decide
  ·rw[QB.mp e]at g;exact (Di h).2.1 g
theorem oI {b:Nat} {ps:List (Nat×Nat)} (hb:Lt b) (h: ∀p∈ps,Ib p): ∀x∈fj b ps,32∉x/\10∉x/\x.length<=7:=fun x hx=>by
 rcases XB.mp hx with g | g
 ·rw[g];exact ⟨by decide,by decide,by decide⟩
 ·rcases XB.mp g with g | g
  ·rw[g]
   exact ⟨fun z=>(oH _ hb.mem).1 (QB.mp z).symm,fun z=>(oH _ hb.mem).2.1 (QB.mp z).symm,by simp⟩
  ·obtain ⟨p,hp,rfl⟩:=Qa5.mp g
   exact Lq (h p hp)
theorem AH {b:Nat} {ps:List (Nat×Nat)} (hb:Lt b) (h: ∀p∈ps,Ib p):bY 32 (b_ b ps)=fj b ps:=nS (by unfold fj;simp) fun x hx=>(oI hb h x hx).1
theorem Dk {b:Nat} {ps:List (Nat×Nat)} (hb:Lt b) (h: ∀p∈ps,Ib p):10∉b_ b ps:=fun z=>by
 rcases lR z with g | ⟨p,hp,g⟩
 ·cases g
 ·exact (oI hb h p hp).2.1 g
theorem ip {k:Nat}: ∀{ps:List (List Nat)},(∀p∈ps,p.length<=k)->(ps.map List.length).sum<=k*ps.length
 | [],_=>Qaq _
 | p::ps,h=>by
  have ih:=ip (ps:=ps) (fun x hx=>h x (Zz _ hx))
  have:=h p ZC
  rw[ZD,Qaz,Zy,Nat.mul_succ]
  omega
theorem qU {b:Nat} {ps:List (Nat×Nat)} (hb:Lt b) (h: ∀p∈ps,Ib p) (hz:ps.length<=100):(b_ b ps).length<=1000:=by
 have h1:=i_ 32 (fj b ps)
 have h2:=ip fun x hx=>(oI hb h x hx).2.2
 have h3:(fj b ps).length=ps.length+2:=by unfold fj;simp
 unfold b_
 omega
theorem AI {w:List Nat} (h:w.length<=12):(gr w).length<=20:=by
 have e:gr w=cw++32::eG w:=rfl
 rw[e]
 unfold eG cw
 split<;>simp<;>omega
theorem AJ {y:List Nat} {ws:List (List Nat)} (h:AE y ws) {b:Nat}: ∀p∈aK b ws ws.length,Ib p:=fun p hp=>by
 unfold aK at hp
 obtain ⟨c,hc,hp⟩:=Qd2.mp hp
 unfold du at hp
 obtain ⟨i,hi,rfl⟩:=Qa5.mp hp
 have h1:=Qc1.mp hc
 have h2:=Qc1.mp (Qbb.mp hi).1
 have h3:(ws.getD c []).length<=12:=by
  rw[Qca,Mn h1]
  exact (h.all _ (Qa4 h1)).2
 have:=h.iT
 exact ⟨by show c<30;omega,by show i<30;omega⟩
theorem AK (b:Nat) (ws:List (List Nat)): ∀n,(aK b ws n).Nodup:=fun n=>by
 unfold aK
 refine List.pairwise_flatMap.mpr ⟨fun c _=>?_,?_⟩
 ·unfold du
  refine Qb2.mpr (List.Pairwise.imp (fun {i j} h e=>h (Prod.ext_iff.mp e).2) ((List.nodup_range (n:=(ws.getD c []).length)).filter _))
 ·refine List.Pairwise.imp (fun {c d} lX=>?_) (List.nodup_range (n:=n))
  intro p hp q hq e
  subst e
  unfold du at hp hq
  obtain ⟨i,_,rfl⟩:=Qa5.mp hp
  obtain ⟨j,_,e⟩:=Qa5.mp hq
  exact lX (Prod.ext_iff.mp e).1.symm
structure Told (y:List Nat) (ws:List (List Nat)) (os:List (List (Nat×Nat))):Prop where
 yd:Yd y
 y2:2<=y.length
 y8:y.length<=8
 wo:AE y ws
 ol:os.length=(bh y).length
 pm: ∀(j:Nat) (o:List (Nat×Nat)) (b:Nat),os[j]? =some o->(bh y)[j]? =some b->o.Perm (aK b ws ws.length)
theorem Told.wl {y:List Nat} {ws:List (List Nat)} {os:List (List (Nat×Nat))} (h:Told y ws os): ∀w∈ws, ∀c∈w,Lt c:=fun w hw c hc=>h.yd.lt c ((h.wo.all w hw).1 c hc)
theorem Told.sm {y:List Nat} {ws:List (List Nat)} {os:List (List (Nat×Nat))} (h:Told y ws os) {j b:Nat} {o:List (Nat×Nat)} (e1:os[j]? =some o) (e2:(bh y)[j]? =some b): ∀p∈o,Ib p:=fun p hp=>AJ h.wo p ((h.pm j o b e1 e2).mem_iff.mp hp)
theorem Told.blt {y:List Nat} {ws:List (List Nat)} {os:List (List (Nat×Nat))} (h:Told y ws os) {b:Nat} (hb:b∈bh y):Lt b:= .inl (vk h.yd hb)
theorem Told.iT {y:List Nat} {ws:List (List Nat)} {os:List (List (Nat×Nat))} (h:Told y ws os) {j b:Nat} {o:List (Nat×Nat)} (e1:os[j]? =some o) (e2:(bh y)[j]? =some b):o.length<=48:=by
 rw[(h.pm j o b e1 e2).length_eq]
 have:=oF b (fun w hw=>(h.wo.all w hw).2) ws.length (XA _)
 have:=h.wo.iT
 omega
theorem Dl {y:List Nat} {os:List (List (Nat×Nat))} {x:List Nat} (h:x∈List.zipWith b_ (bh y) os): ∃(j b:Nat) (o:List (Nat×Nat)),os[j]? =some o/\(bh y)[j]? =some b/\x=b_ b o:=by
 obtain ⟨j,hj,e⟩:=Qei h
 rw[List.getElem_zipWith]at e
 rw[Qeh]at hj
 exact ⟨j,(bh y)[j],os[j],Mn (by omega),Mn (by omega),e.symm⟩
theorem Told.rows {y:List Nat} {ws:List (List Nat)} {os:List (List (Nat×Nat))} (h:Told y ws os): ∀x∈rowsOf y ws os,10∉x/\x.length<=1000:=fun x hx=>by
 rcases Qaa.mp hx with g | g
 ·obtain ⟨w,hw,rfl⟩:=Qa5.mp g
  exact ⟨Dj (h.wl w hw),Qa1 (AI (h.wo.all w hw).2) (by decide)⟩
 ·obtain ⟨j,b,o,e1,e2,rfl⟩:=Dl g
  have hb:=h.blt (Qay e2)
  exact ⟨Dk hb (h.sm e1 e2),qU hb (h.sm e1 e2) (Qa1 (h.iT e1 e2) (by decide))⟩
theorem Told.bl {y:List Nat} {ws:List (List Nat)} {os:List (List (Nat×Nat))} (h:Told y ws os):1<=os.length/\os.length<=4:=by
 have h1:=oA h.yd
 have h2:=h.y2
 have h3:=h.y8
 rw[h.ol]
 omega
theorem oJ {y:List Nat} {ws:List (List Nat)} {os:List (List (Nat×Nat))} (h:os.length=(bh y).length):(rowsOf y ws os).length=ws.length+os.length:=by unfold rowsOf;rw[JQ,kb,Qeh];omega
theorem Told.bY {y:List Nat} {ws:List (List Nat)} {os:List (List (Nat×Nat))} (h:Told y ws os):L2.bY 10 (textOf y ws os)=rowsOf y ws os:=nS (fun z=>by
  have e:=oJ (ws:=ws) h.ol
  have hb:=h.bl
  rw[z]at e
  simp only[Qcd]at e
  omega) fun x hx=>(h.rows x hx).1
noncomputable def gC (os:List Od):List (List (Nat×Nat)):=os.map fun o=>o.ps.map Pr.pair
theorem ku (os:List Od):(gC os).length=os.length:=by unfold gC;rw[kb]
theorem Lr {os:List Od} {j:Nat} {o:Od} (h:os[j]? =some o):(gC os)[j]? =some (o.ps.map Pr.pair):=by unfold gC;rw[Qau,h];rfl
theorem Told.of {y:List Nat} {ws:List (List Nat)} {os:List Od} (hy:Yd y) (h2:2<=y.length) (h8:y.length<=8) (hw:AE y ws) (ho:ON y ws os):Told y ws (gC os):=
 ⟨hy,h2,h8,hw,by rw[ku];exact ho.1,fun j o b e1 e2=>by
  unfold gC at e1
  rw[Qau]at e1
  cases e:os[j]? with
  | none=>rw[e]at e1;cases e1
  | some o'=>rw[e]at e1;cases e1;exact ho.2 j o' b e e2⟩
def vo (_:PySem.W.Frag):Sp:=fun vs H Q _=> ∃(y:List Nat) (dr:Addr) (ws:List (List Nat)) (os:List Od),vs=[.str (S y), .ref dr]/\xy H dr ws os/\Told y ws (gC os)/\ ∀H',ah H H'->Q (.str (S (textOf y ws (gC os)))) H'
theorem AL {K:PySem.W.Frag} {vs:List V} {H:Hp} {Q:VK} {E:XK} (h:vo K vs H Q E):vs.length=2:=by obtain ⟨p,_,_,_,rfl,_⟩:=h;rfl
theorem kz {ls:List (List Nat)} {i:Nat} {x:V} (h:(ba ls)[i]? =some x): ∃l,ls[i]? =some l/\x=V.str (S l):=by
 unfold ba at h
 rw[Qau]at h
 cases e:ls[i]? with
 | none=>rw[e]at h;cases h
 | some l=>rw[e]at h;cases h;exact ⟨l,rfl,rfl⟩
noncomputable def sk (p:Nat×Nat):Key:=Sum.inr (S (stx p))
noncomputable def Dm (l:List Pr):List (Key×V):=l.map fun p=>(sk p.pair,V.ref p.t)
theorem Dn (l:List Pr):(Dm l).map (·.1)=((l.map Pr.pair).map stx).map fun x=>Sum.inr (S x):=by unfold Dm;rw[Qbs,Qbs,Qbs];rfl
theorem vp {a b c:List (List Nat)} (h1:a.Perm c) (h2:b.Perm c) (p1:a.Pairwise fun x y=> ¬y<x) (p2:b.Pairwise fun x y=> ¬y<x):a=b:=
 List.Perm.eq_of_pairwise (le:=fun x y=> ¬y<x) (fun x y _ _ g1 g2=>List.le_antisymm (show x<=y from g1) (show y<=x from g2)) p1 p2 (h1.trans h2.symm)
theorem oK {c:Nat} {p:List Nat}: ∀{ps:List (List Nat)},ps≠[]->bI c (ps++[p])=bI c ps++c::p
 | [],h=>absurd rfl h
 | [q],_=>rfl
 | q::r::s,_=>by
  show q++c::bI c (r::s++[p])=(q++c::bI c (r::s))++c::p
  rw[oK (by simp)]
  simp
theorem xG {b:Nat} {ps:List (Nat×Nat)} {p:Nat×Nat}:b_ b (ps++[p])=(((b_ b ps++[32])++dg p.1)++[46])++dg p.2:=by
 have e:fj b (ps++[p])=fj b ps++[stx p]:=by unfold fj;simp
 unfold b_
 rw[e,oK (by unfold fj;simp)]
 unfold stx
 simp
theorem AM (w:List Nat):lZ [V.str (S w),V.str (S [45])] (if decide (w=[])=true then 1 else 0)=some (V.str (S (eG w))):=by
 unfold eG
 by_cases h:w=[]
 ·rw[if_pos (decide_eq_true h),if_pos h];rfl
 ·rw[if_neg (fun z=>h (of_decide_eq_true z)),if_neg h];rfl
structure Asd where
 t:Addr
 y:List Nat
 dr:Addr
 ws:List (List Nat)
 os:List Od
structure YA (H:Hp) (k:Asd):Prop where
 tp:H k.t=some (.tup [.str (S k.y), .ref k.dr, .str (S (textOf k.y k.ws (gC k.os)))])
 dw:xy H k.dr k.ws k.os
 td:Told k.y k.ws (gC k.os)
open PySem.NumText in
theorem iq (n:Nat):dg n=(Nat.toDigits 10 n).map Char.toNat:=by unfold dg;exact PySem.W.KIN.signs_num n
theorem Dp (n:Nat):PySem.NumText.digitsVal (dg n)=n:=by rw[iq];exact PySem.W.KIN.val_back n
theorem zg {n m:Nat} (h:dg n=dg m):n=m:=by have:=congrArg PySem.NumText.digitsVal h;rwa [Dp,Dp]at this
theorem tw (n:Nat):PySem.NumText.AllDigits (dg n):=fun c hc=>by
 rw[iq]at hc
 obtain ⟨ch,Bx,e⟩:=Qa5.mp hc
 have r:=PyProof.Rows.digit_range (Nat.isDigit_of_mem_toDigits (by decide) (by decide) Bx)
 rw[<-e]
 exact r
theorem zh (n:Nat):dg n≠[]:=fun z=>by
 rw[iq]at z
 have h:=PySem.W.KIN.val_back n
 rw[z]at h
 have:n=0:=h.symm
 subst this
 revert z
 decide
def Cn (l:List Nat):Prop:=PySem.NumText.AllDigits l/\l≠[]/\(l[0]? =some 48->l.length=1)
theorem Ic {α:Type} {M:List α->Prop} (h0:M []) (h1: ∀u c,M u->M (u++[c])) (l:List α):M l:=by
 have key: ∀r:List α,M r.reverse:=by
  intro r
  induction r with
  | nil=>exact h0
  | cons a r ih=>rw[List.reverse_cons];exact h1 _ _ ih
 have:=key l.reverse
 rwa [Qee]at this
theorem Gj: ∀{l:List Nat},PySem.NumText.AllDigits l->l≠[]->l[0]?≠ some 48->0<PySem.NumText.digitsVal l:=by
 intro l
 induction l using Ic with
 | h0=>intro _ h;exact absurd rfl h
 | h1 u c ih=>
  intro hd _ h0
  rw[PySem.NumText.digitsVal_snoc]
  have hc:=hd c (Qag _ ZC)
  cases u with
  | nil=>
   have:c≠48:=fun z=>h0 (by rw[z];rfl)
   omega
  | cons a u=>
   have:=ih (fun x hx=>hd x (Qbr _ hx)) (by simp) (by simpa using h0)
   omega
theorem Ie: ∀{l:List Nat},Cn l->dg (PySem.NumText.digitsVal l)=l:=by
 intro l
 induction l using Ic with
 | h0=>intro h;exact absurd rfl h.2.1
 | h1 u c ih=>
  rintro ⟨hd,_,h0⟩
  have hc:=hd c (Qag _ ZC)
  have OP: ∀k,48<=k->k<=57->dg (k - 48)=[k]:=fun k g1 g2=>by
   have t: ∀j:Fin 10,dg j.val=[j.val+48]:=by decide+kernel
   have:=t ⟨k - 48,by omega⟩
   rw[this]
   show [k - 48+48]=[k]
   congr 1
   omega
  rw[PySem.NumText.digitsVal_snoc]
  cases u with
  | nil=>
   show dg (0*10+(c - 48))=[c]
   rw[Nat.zero_mul,Qcn]
   exact OP c hc.1 hc.2
  | cons a u=>
   have hu:PySem.NumText.AllDigits (a::u):=fun x hx=>hd x (Qbr _ hx)
   have ha:(a::u)[0]?≠ some 48:=fun z=>by
    have:=h0 (by simpa using z)
    simp at this
   have hp:=Gj hu (by simp) ha
   have e:=ih ⟨hu,by simp,fun z=>absurd z ha⟩
   rw[iq]at e ⊢
   have t:Nat.toDigits 10 (PySem.NumText.digitsVal (a::u))++Nat.toDigits 10 (c - 48)=Nat.toDigits 10 (10*PySem.NumText.digitsVal (a::u)+(c - 48)):=Nat.toDigits_append_toDigits (by decide) hp (by omega)
   rw[show PySem.NumText.digitsVal (a::u)*10+(c - 48)=10*PySem.NumText.digitsVal (a::u)+(c - 48) by omega, <-t,Qar,e]
   congr 1
   have:=OP c hc.1 hc.2
   rwa [iq]at this
theorem Ig (n:Nat):Cn (dg n):=by
 refine ⟨tw n,zh n,fun z=>?_⟩
 by_cases h:n=0
 ·subst h;decide
 ·exfalso
  have hp:0<n:=by omega
  rw[iq]at z
  have key: ∀n,0<n->((Nat.toDigits 10 n).map Char.toNat)[0]?≠ some 48:=by
   intro n
   induction n using Nat.strongRecOn with
   | _ n ih=>
    intro hn
    by_cases hl:n<10
    ·revert n
     intro n _ hn hl
     have: ∀n,n<10->0<n->((Nat.toDigits 10 n).map Char.toNat)[0]?≠ some 48:=by decide+kernel
     exact this n hl hn
    ·have hm:n%10<10:=Nat.mod_lt n (by decide)
     have t:Nat.toDigits 10 (n / 10)++Nat.toDigits 10 (n%10)=Nat.toDigits 10 (10*(n / 10)+n%10):=Nat.toDigits_append_toDigits (by decide) (by omega) hm
     rw[Nat.div_add_mod]at t
     rw[<-t,Qar]
     have Et:((Nat.toDigits 10 (n / 10)).map Char.toNat)≠[]:=by rw[<-iq];exact zh _
     rw[Qbd (Qbq.mpr Et)]
     exact ih (n / 10) (by omega) (by omega)
  exact key n hp z
theorem qV {n c:Nat} (h:c<48\/57<c):c∉dg n:=fun z=>by have:=tw n c z;omega
theorem oM {p q:Nat×Nat} (h:stx p=stx q):p=q:=by
 have e:=congrArg (bY 46) h
 unfold stx at e
 rw[gm _ (qV (by omega)),gm _ (qV (by omega)),ik (qV (by omega)),ik (qV (by omega))]at e
 simp only[List.cons.injEq,and_true]at e
 exact Prod.ext (zg e.1) (zg e.2)
noncomputable def qW (y:List Nat) (cD:List (List Nat)):Option (List Nat):=match cD with
 | [p,w]=>if p=cw/\w≠[] then (if w=[45] then some [] else if sW y w=none then some w else none) else none
 | _=>none
noncomputable def dG (y row:List Nat):Option (List Nat):=qW y (bY 32 row)
theorem Dq {y:List Nat}: ∀{cD:List (List Nat)},cD.length≠2->qW y cD=none
 | [],_=>rfl
 | [_],_=>rfl
 | [_,_],h=>absurd rfl h
 | _::_::_::_,_=>rfl
theorem AN {y p w:List Nat}:qW y [p,w]=if p=cw/\w≠[] then (if w=[45] then some [] else if sW y w=none then some w else none) else none:=rfl
noncomputable def fZ (y:List Nat):List (List Nat)->List (List Nat)
 | []=>[]
 | r::rs=>match dG y r with
  | some w=>w::fZ y rs
  | none=>[]
theorem oN {y r w:List Nat} {rs:List (List Nat)} (h:dG y r=some w):fZ y (r::rs)=w::fZ y rs:=by show (match dG y r with | some w=>w::fZ y rs | none=>[])=_;rw[h]
theorem kA {y r:List Nat} {rs:List (List Nat)} (h:dG y r=none):fZ y (r::rs)=[]:=by show (match dG y r with | some w=>w::fZ y rs | none=>[])=_;rw[h]
theorem eW {c:Nat}: ∀{l:List Nat} {p:List Nat},p∈bY c l-> ∀d∈p,d∈l/\d≠c
 | [],p,h,d,hd=>by
  have:p=[]:=by simpa [bY]using h
  rw[this]at hd;cases hd
 | a::l,p,h,d,hd=>by
  unfold bY at h
  by_cases e:a=c
  ·rw[if_pos e]at h
   rcases XB.mp h with g | g
   ·rw[g]at hd;cases hd
   ·have:=eW g d hd
    exact ⟨Zz _ this.1,this.2⟩
  ·rw[if_neg e]at h
   obtain ⟨q,qs,eq⟩:=eK c l
   rw[eq]at h
   rcases XB.mp h with g | g
   ·rw[g]at hd
    rcases XB.mp hd with z | z
    ·rw[z];exact ⟨ZC,e⟩
    ·have:=eW (l:=l) (p:=q) (by rw[eq];exact ZC) d z
     exact ⟨Zz _ this.1,this.2⟩
   ·have:=eW (l:=l) (p:=p) (by rw[eq];exact Zz _ g) d hd
    exact ⟨Zz _ this.1,this.2⟩
theorem oO (c:Nat): ∀l:List Nat,bI c (bY c l)=l:=fun l=>by
 rw[sO]
 unfold rp
 have:(fun d=>if d=c then c else d)=id:=funext fun d=>by by_cases e:d=c<;>simp[e]
 rw[this,Qe1]
theorem Dr {c:Nat} {l p:List Nat} (h:bY c l=[p]):l=p:=by have:=oO c l;rw[h]at this;exact this.symm
theorem vt {y v:List Nat} (hy:32∉y):dG y (cw++32::v)=if v=[45] then some [] else if v≠[]/\sW y v=none then some v else none:=by
 unfold dG qW
 rw[gm v (by decide)]
 by_cases hv:32∈v
 ·have h1:v≠[45]:=fun z=>by rw[z]at hv;revert hv;decide
  have h2:sW y v≠none:=fun z=>by
   unfold sW at z
   have:=Qdx.mp z 32 hv
   simp at this
   exact hy this
  rw[if_neg h1,if_neg (fun z=>h2 z.2)]
  obtain ⟨p,ps,e⟩:=eK 32 v
  rw[e]
  cases ps with
  | nil=>
   exfalso
   have ep:=Dr e
   exact (eW (by rw[e];exact ZC) 32 (by rw[<-ep];exact hv)).2 rfl
  | cons q qs=>rfl
 ·rw[ik hv]
  show (if cw=cw/\v≠[] then _ else none)=_
  by_cases h0:v=[]
  ·subst h0;rfl
  ·rw[if_pos ⟨rfl,h0⟩]
   by_cases h1:v=[45]
   ·rw[if_pos h1,if_pos h1]
   ·rw[if_neg h1,if_neg h1]
    by_cases h2:sW y v=none
    ·rw[if_pos h2,if_pos ⟨h0,h2⟩]
    ·rw[if_neg h2,if_neg fun z=>h2 z.2]
theorem vv {y row:List Nat} (h: ∀v,row≠cw++32::v):dG y row=none:=by
 unfold dG qW
 cases e:bY 32 row with
 | nil=>rfl
 | cons p ps=>
  cases ps with
  | nil=>rfl
  | cons w qs=>
   cases qs with
   | cons _ _=>rfl
   | nil=>
    show (if p=cw/\w≠[] then _ else none)=none
    refine if_neg fun z=>h w ?_
    have:=oO 32 row
    rw[e,z.1]at this
    exact this.symm
theorem vw {y row w:List Nat} (h:dG y row=some w):(∀c∈w,c∈y)/\w.length<=row.length:=by
 unfold dG qW at h
 split at h
 ·rename_i p v e
  split at h
  ·split at h
   ·cases h;exact ⟨fun _ h=>absurd h Qam,Qaq _⟩
   ·split at h
    ·rename_i hf
     cases h
     refine ⟨fun c hc=>?_,?_⟩
     ·unfold sW at hf
      have:=Qdx.mp hf c hc
      simpa using this
     ·have:=oO 32 row
      rw[e]at this
      rw[<-this]
      show _<=(p++32::w).length
      rw[JQ,Zy]
      omega
    ·cases h
  ·cases h
 ·cases h
theorem Ds {y:List Nat}: ∀{rs:List (List Nat)} {n:Nat},(∀r∈rs,r.length<=n)-> ∀w∈fZ y rs,(∀c∈w,c∈y)/\w.length<=n
 | [],_,_,w,hw=>absurd hw Qam
 | r::rs,n,h,w,hw=>by
  unfold fZ at hw
  cases e:dG y r with
  | none=>rw[e]at hw;cases hw
  | some v=>
   rw[e]at hw
   rcases XB.mp hw with g | g
   ·rw[g]
    have:=vw e
    exact ⟨this.1,Qa1 this.2 (h r ZC)⟩
   ·exact Ds (fun r hr=>h r (Zz _ hr)) w g
theorem tF {y:List Nat}: ∀rs:List (List Nat),(fZ y rs).length<=rs.length
 | []=>XA _
 | r::rs=>by
  unfold fZ
  cases dG y r with
  | none=>exact Qaq _
  | some v=>exact Qcz (tF rs)
theorem dH {c:Nat}: ∀(l:List Nat),(∀p∈bY c l,p.length<=l.length)/\(bY c l).length<=l.length+1
 | []=>by
  refine ⟨fun p hp=>?_,XA _⟩
  have e:p=[]:=by simpa [bY]using hp
  rw[e]
  exact XA _
 | a::l=>by
  obtain ⟨h1,h2⟩:=dH (c:=c) l
  unfold bY
  by_cases e:a=c
  ·rw[if_pos e]
   refine ⟨fun p hp=>?_,by rw[Zy,Zy];omega⟩
   rcases XB.mp hp with g | g
   ·rw[g];exact Qaq _
   ·have:=h1 p g;rw[Zy];omega
  ·rw[if_neg e]
   obtain ⟨q,qs,eq⟩:=eK c l
   rw[eq]at h1 h2 ⊢
   refine ⟨fun p hp=>?_,by rw[Zy]at h2 ⊢; rw[Zy];omega⟩
   rcases XB.mp hp with g | g
   ·rw[g,Zy,Zy]
    have:=h1 q ZC
    omega
   ·have:=h1 p (Zz _ g);rw[Zy];omega
def mw (ws:List (List Nat)) (b:Nat) (row:List Nat) (ps:List (Nat×Nat)):Prop:=bY 32 row=cN::[b]::ps.map stx/\ps.Perm (aK b ws ws.length)
theorem map_inj {ps qs:List (Nat×Nat)} (h:ps.map stx=qs.map stx):ps=qs:=by
 induction ps generalizing qs with
 | nil=>cases qs with
  | nil=>rfl
  | cons _ _=>cases h
 | cons p ps ih=>cases qs with
  | nil=>cases h
  | cons q qs=>
   rw[ZD,ZD]at h
   obtain ⟨h1,h2⟩:=Qbv h
   rw[oM h1,ih h2]
def AO (ws:List (List Nat)) (P:List (List (Nat×Nat))->Prop) (R:Nat->Prop):Nat->List Nat->List (List Nat)->List (List (Nat×Nat))->Prop
 | k,b::bs,r::rs,acc=>(∃ps,mw ws b r ps/\AO ws P R (k+1) bs rs (acc++[ps]))\/((∀ps, ¬mw ws b r ps)/\R k)
 | k,_::_,[],_=>R k
 | _,[],[],acc=>P acc
 | k,[],_::_,_=>R k
theorem gR: ∀a b:List (List Nat),PyData.eqvAll (gD a) (gD b)=decide (a=b)
 | [],[]=>by simp[gD,PyData.eqvAll]
 | [],y::b=>by simp[gD,PyData.eqvAll]
 | x::a,[]=>by simp[gD,PyData.eqvAll]
 | x::a,y::b=>by
  show (PyData.eqv (.str (S x)) (.str (S y))&&PyData.eqvAll (gD a) (gD b))=_
  rw[gR a b]
  have e:PyData.eqv (.str (S x)) (.str (S y))=decide (x=y):=by
   show (S x==S y)=_
   by_cases g:x=y
   ·rw[g];simp
   ·rw[decide_eq_false g]
    exact beq_eq_false_iff_ne.mpr fun z=>g (B5 z)
  rw[e]
  by_cases g:x=y<;>by_cases h:a=b<;>simp[g,h]
theorem oP {α β:Type} {f:α->β}: ∀{m:List α} {l:List β},l.Perm (m.map f)-> ∃m':List α,l=m'.map f/\m'.Perm m
 | [],l,h=>⟨[],by rw[Qdn]at h;rw[h.eq_nil];rfl,Qcq _⟩
 | a::m,l,h=>by
  have hm:f a∈l:=h.mem_iff.mpr (by rw[ZD];exact ZC)
  obtain ⟨l1,l2,rfl⟩:=List.append_of_mem hm
  have h2:(l1++l2).Perm (m.map f):=(Qey.symm.trans h).cons_inv
  obtain ⟨m',e,pm⟩:=oP h2
  obtain ⟨n1,n2,rfl,rfl,rfl⟩:=List.append_eq_map_iff.mp e
  exact ⟨n1++a::n2,by rw[Qar,ZD],Qey.trans (pm.cons a)⟩
theorem zi {p q:Nat×Nat} (h:sk p=sk q):p=q:=oM (B5 (Sum.inr.inj h))
theorem AQ {l:List Pr} {p:Nat×Nat} (h:p∉l.map Pr.pair):iR (Dm l) (sk p)=none:=by
 induction l with
 | nil=>rfl
 | cons q l ih=>
  show iR ((sk q.pair,V.ref q.t)::Dm l) (sk p)=none
  rw[iS (fun z=>h (by rw[ZD,zi z];exact ZC))]
  exact ih fun z=>h (by rw[ZD];exact Zz _ z)
theorem AR {l:List Pr} {p:Nat×Nat} (h:p∈l.map Pr.pair): ∃q∈l,q.pair=p/\iR (Dm l) (sk p)=some (.ref q.t):=by
 induction l with
 | nil=>simp at h
 | cons q l ih=>
  by_cases z:q.pair=p
  ·refine ⟨q,ZC,z,?_⟩
   show iR ((sk q.pair,V.ref q.t)::Dm l) (sk p)=_
   rw[kj (by rw[z])]
  ·have h':p∈l.map Pr.pair:=by
    rw[ZD]at h
    exact (XB.mp h).resolve_left (fun g=>z g.symm)
   obtain ⟨r,hr,e1,e2⟩:=ih h'
   refine ⟨r,Zz _ hr,e1,?_⟩
   show iR ((sk q.pair,V.ref q.t)::Dm l) (sk p)=_
   rw[iS (fun g=>z (zi g))]
   exact e2
theorem zj (p:Nat×Nat): ∀c∈stx p,c<128:=fun c hc=>by
 unfold stx at hc
 rcases Qaa.mp hc with g | g
 ·have:=tw _ c g;omega
 ·rcases XB.mp g with g | g
  ·rw[g];decide
  ·have:=tw _ c g;omega
theorem zk: ∀n,n<1000->(dg n).length<=3:=by decide+kernel
structure Ls (ws:List (List Nat)):Prop where
 iT:ws.length<=700
 all: ∀w∈ws,(∀c∈w,Lt c)/\w.length<=700
 YB:(ws.map List.length).sum<=700
theorem xH (b c:Nat) (w:List Nat) (n:Nat):(du b c w n).length<=n:=by
 unfold du
 rw[kb]
 exact Qa1 (Qcr _ _) (by rw[Qdy];exact XA _)
theorem jX (b:Nat) (ws:List (List Nat)): ∀n,n<=ws.length->(aK b ws n).length<=((ws.take n).map List.length).sum
 | 0,_=>Qaq _
 | n+1,h=>by
  have ih:=jX b ws n (by omega)
  have hn:ws[n]? =some ws[n]:=Mn (by omega)
  rw[cY hn,JQ,Qdm,hn,Qar,Qdr]
  have:=xH b n ws[n] ws[n].length
  show _<=_+[ws[n].length].sum
  rw[List.sum_singleton]
  omega
theorem Ls.str {ws:List (List Nat)} (h:Ls ws) (b:Nat):(aK b ws ws.length).length<=700:=by
 have:=jX b ws ws.length (XA _)
 rw[Qbh]at this
 exact Qa1 this h.YB
noncomputable def bL (rs:List (List Nat)):Nat:=(rs.map List.length).sum+rs.length
theorem je (c:Nat): ∀l:List Nat,bL (bY c l)=l.length+1
 | []=>rfl
 | a::l=>by
  have ih:=je c l
  unfold bY
  by_cases e:a=c
  ·rw[if_pos e]
   unfold bL at ih ⊢
   rw[ZD,Qaz,Zy,Zy,Qcd]
   omega
  ·rw[if_neg e]
   obtain ⟨q,qs,eq⟩:=eK c l
   rw[eq]at ih ⊢
   unfold bL at ih ⊢
   simp only[ZD,Qaz,Zy]at ih ⊢
   omega
theorem zm {y:List Nat}: ∀rs:List (List Nat),((fZ y rs).map List.length).sum<=(rs.map List.length).sum
 | []=>XA _
 | r::rs=>by
  unfold fZ
  cases e:dG y r with
  | none=>exact Qaq _
  | some v=>
   have h1:=(vw e).2
   have h2:=zm (y:=y) rs
   show ((v::fZ y rs).map List.length).sum<=_
   rw[ZD,ZD,Qaz,Qaz]
   omega
def Ex (y:List Nat):Prop:=(∀c∈y,Lt c)/\y.length<=8
def jy (t:List Nat):Prop:=(∀c∈t,c<128)/\t.length<=640
theorem tG {y t:List Nat} (hy:Ex y) (ht:jy t):Ls (fZ y (bY 10 t)):=by
 have hl:=ht.2
 have h1:=dH (c:=10) t
 have h2:=tF (y:=y) (bY 10 t)
 refine ⟨by omega,fun w hw=>?_,?_⟩
 ·have:=Ds (y:=y) h1.1 w hw
  exact ⟨fun c hc=>hy.1 c (this.1 c hc),by omega⟩
 ·have h3:=zm (y:=y) (bY 10 t)
  have h4:=je 10 t
  unfold bL at h4
  omega
def i5 (_:PySem.W.Frag):Sp:=fun vs H Q _=> ∃p:Pr,vs=[.ref p.t]/\gQ H p/\Q (.str (S (stx p.pair))) H
theorem mJ {K:PySem.W.Frag} {vs:List V} {H:Hp} {Q:VK} {E:XK} (h:i5 K vs H Q E):vs.length=1:=by obtain ⟨p,rfl,_⟩:=h;rfl
def jJ (_:PySem.W.Frag):Sp:=fun vs H Q _=> ∃(wt:Addr) (ws:List (List Nat)) (band:Nat),vs=[.ref wt, .str (S [band])]/\H wt=some (.tup (ba ws))/\ws.length<=700/\(∀w∈ws,(∀c∈w,Lt c)/\w.length<=700)/\band∈aH/\ ∀(q:Addr) (ps:List Pr) (H':Hp),H q=none->H' q=some (.lst (iF ps))->(∀p∈ps,gQ H' p)->ps.map Pr.pair=aK band ws ws.length->ah H H'->Q (.ref q) H'
theorem oQ {K:PySem.W.Frag} {vs:List V} {H:Hp} {Q:VK} {E:XK} (h:jJ K vs H Q E):vs.length=2:=by obtain ⟨c,_,_,rfl,_⟩:=h;rfl
def mz (_:PySem.W.Frag):Sp:=fun vs H Q _=> ∃(wt:Addr) (ws:List (List Nat)) (band:Nat),vs=[.ref wt, .str (S [band])]/\H wt=some (.lst (ba ws))/\ws.length<=700/\(∀w∈ws,(∀c∈w,Lt c)/\w.length<=700)/\band∈aH/\ ∀(q:Addr) (ps:List Pr) (H':Hp),H q=none->H' q=some (.lst (iF ps))->(∀p∈ps,gQ H' p)->ps.map Pr.pair=aK band ws ws.length->ah H H'->Q (.ref q) H'
theorem tH {K:PySem.W.Frag} {vs:List V} {H:Hp} {Q:VK} {E:XK} (h:mz K vs H Q E):vs.length=2:=by obtain ⟨c,_,_,rfl,_⟩:=h;rfl
noncomputable def crV:Option (List Nat)->V
 | some w=> .str (S w)
 | none=> .cK
def kC (_:PySem.W.Frag):Sp:=fun vs H Q _=> ∃(y row:List Nat),vs=[.str (S y), .str (S row)]/\row.length<=640/\ ∀H',ah H H'->Q (crV (dG y row)) H'
theorem pP {K:PySem.W.Frag} {vs:List V} {H:Hp} {Q:VK} {E:XK} (h:kC K vs H Q E):vs.length=2:=by obtain ⟨p,_,rfl,_⟩:=h;rfl
def jK (_:PySem.W.Frag):Sp:=fun vs H Q _=> ∃(y:List Nat) (p:Addr) (rs:List (List Nat)),vs=[.str (S y), .ref p]/\H p=some (.lst (ba rs))/\rs.length<=700/\(∀r∈rs,r.length<=640)/\ ∀(t:Addr) H',H t=none->H' t=some (.tup (ba (fZ y rs)))->ah H H'->Q (.ref t) H'
theorem oR {K:PySem.W.Frag} {vs:List V} {H:Hp} {Q:VK} {E:XK} (h:jK K vs H Q E):vs.length=2:=by obtain ⟨p,_,_,rfl,_⟩:=h;rfl
def wj (H:Hp) (o:Od):Prop:=H o.o=some (.tup (iF o.ps))/\ ∀p∈o.ps,gQ H p
theorem wj.same {H H':Hp} {o:Od} (h:wj H o) (s:ah H H'):wj H' o:=⟨s _ _ h.1,fun p hp=>(h.2 p hp).same s⟩
theorem wj.ts {H H':Hp} {o:Od} (h:wj H o) (s:bF H H'):wj H' o:=⟨s _ _ h.1,fun p hp=>(h.2 p hp).ts s⟩
def jL (_:PySem.W.Frag):Sp:=fun vs H Q _=> ∃(wt:Addr) (ws:List (List Nat)) (b:Nat) (row:List Nat),vs=[.ref wt, .str (S [b]), .str (S row)]/\H wt=some (.tup (ba ws))/\Ls ws/\b∈aH/\jy row/\
 ((∃ps,mw ws b row ps/\ ∀(o:Od) H',wj H' o->o.ps.map Pr.pair=ps->ah H H'->Q (.ref o.o) H')\/((∀ps, ¬mw ws b row ps)/\ ∀H',ah H H'->Q .cK H'))
theorem oS {K:PySem.W.Frag} {vs:List V} {H:Hp} {Q:VK} {E:XK} (h:jL K vs H Q E):vs.length=3:=by obtain ⟨p,_,_,_,rfl,_⟩:=h;rfl
def wm (H:Hp) (dr:Addr) (ws:List (List Nat)) (os:List Od):Prop:= ∃wt ot:Addr,H dr=some (.tup [.ref wt, .ref ot])/\H wt=some (.tup (ba ws))/\H ot=some (.tup (kr os))/\ ∀o∈os,wj H o
theorem wm.ts {H H':Hp} {dr:Addr} {ws:List (List Nat)} {os:List Od} (h:wm H dr ws os) (s:bF H H'):wm H' dr ws os:=by
 obtain ⟨wt,ot,h1,h2,h3,h4⟩:=h
 exact ⟨wt,ot,s _ _ h1,s _ _ h2,s _ _ h3,fun o ho=>(h4 o ho).ts s⟩
theorem wm.same {H H':Hp} {dr:Addr} {ws:List (List Nat)} {os:List Od} (h:wm H dr ws os) (s:ah H H'):wm H' dr ws os:=h.ts (bF.of s)
def Ey (y t:List Nat) (P:List (List Nat)->List (List (Nat×Nat))->Prop) (R:Nat->Prop):Prop:=AO (fZ y (bY 10 t)) (P (fZ y (bY 10 t))) R (fZ y (bY 10 t)).length (bh y) ((bY 10 t).drop (fZ y (bY 10 t)).length) []
def iC (_:PySem.W.Frag) (c:Addr):Sp:=fun vs H Q E=> ∃(y t:List Nat),vs=[.str (S y), .str (S t)]/\Ex y/\jy t/\
 Ey y t (fun ws os=> ∀dr jB H',wm H' dr ws jB->gC jB=os->ah H H'->Q (.ref dr) H') fun k=> ∀d H',H' d=some (tU d [("row", .int (k:Nat))])->ah H H'->E (.ref c) (some d) H'
theorem lS {K:PySem.W.Frag} {c:Addr} {vs:List V} {H:Hp} {Q:VK} {E:XK} (h:iC K c vs H Q E):vs.length=2:=by obtain ⟨p,_,rfl,_⟩:=h;rfl
def oU (_:PySem.W.Frag):Sp:=fun vs H Q _=> ∃x:List Nat,vs=[.str (S x)]/\jy x/\
 ((∃p,x=stx p/\ ∀t H',H' t=some (.tup [.int (p.1:Nat), .int (p.2:Nat)])->ah H H'->Q (.ref t) H')\/((∀p,x≠stx p)/\ ∀H',ah H H'->Q .cK H'))
theorem vz {K:PySem.W.Frag} {vs:List V} {H:Hp} {Q:VK} {E:XK} (h:oU K vs H Q E):vs.length=1:=by obtain ⟨_,rfl,_⟩:=h;rfl
noncomputable def Lu (ws:List (List Nat)) (os:List (List (Nat×Nat))):PyData:= .tuple [.str (S xF), .tuple [.tuple (gD ws), .tuple (os.map fun ns=>PyData.tuple (ns.map jW))]]
noncomputable def TZ (k:Nat):PyData:= .list [.str (S mv), .int (k:Nat)]
def vA (_:PySem.W.Frag):Sp:=fun vs H Q _=> ∃(y t:List Nat),vs=[.str (S y), .str (S t)]/\Ex y/\jy t/\
 Ey y t (fun ws os=> ∀dr jB H',wm H' dr ws jB->gC jB=os->ah H H'->Q (.ref dr) H') fun k=> ∀p H',H' p=some (.lst [.str (S mv), .int (k:Nat)])->ah H H'->Q (.ref p) H'
theorem AS {K:PySem.W.Frag} {vs:List V} {H:Hp} {Q:VK} {E:XK} (h:vA K vs H Q E):vs.length=2:=by obtain ⟨_,_,rfl,_⟩:=h;rfl
def Q0 (H:Hp) (Q:VK) (y t:List Nat):Prop:=Ey y t (fun ws os=> ∀p dr jB H',H' p=some (.tup [.str (S xF), .ref dr])->wm H' dr ws jB->gC jB=os->ah H H'->Q (.ref p) H') fun k=> ∀p H',H' p=some (.lst [.str (S mv), .int (k:Nat)])->ah H H'->Q (.ref p) H'
def vB (_:PySem.W.Frag):Sp:=fun vs H Q _=> ∃(y t:List Nat),vs=[.str (S y), .str (S t)]/\Ex y/\jy t/\Q0 H Q y t
theorem AU {K:PySem.W.Frag} {vs:List V} {H:Hp} {Q:VK} {E:XK} (h:vB K vs H Q E):vs.length=2:=by obtain ⟨_,_,rfl,_⟩:=h;rfl
def oV (_:PySem.W.Frag):Sp:=fun vs H Q _=> ∃(y t:List Nat),vs=[.str (S y), .str (S t)]/\Ex y/\jy t/\Q0 H Q y t
theorem vC {K:PySem.W.Frag} {vs:List V} {H:Hp} {Q:VK} {E:XK} (h:oV K vs H Q E):vs.length=2:=by obtain ⟨_,_,rfl,_⟩:=h;rfl
theorem oW {ws:List (List Nat)} {P P':List (List (Nat×Nat))->Prop} {R R':Nat->Prop} (hP: ∀os,P os->P' os) (hR: ∀k,R k->R' k): ∀{bs:List Nat} {rs:List (List Nat)} {k:Nat} {acc:List (List (Nat×Nat))},AO ws P R k bs rs acc->AO ws P' R' k bs rs acc
 | [],[],_,_,h=>hP _ h
 | [],_::_,_,_,h=>hR _ h
 | _::_,[],_,_,h=>hR _ h
 | _::_,_::_,_,_, .inl ⟨ps,ho,h⟩=> .inl ⟨ps,ho,oW hP hR h⟩
 | _::_,_::_,_,_, .inr ⟨ho,h⟩=> .inr ⟨ho,hR _ h⟩
noncomputable def OQ (c:Nat):Bool:=decide (c∈[48,49,50,51,52,53,54,55,56,57])
theorem Gk: ∀k,k<10->OQ (48+k)=true:=by decide
theorem vD (c:Nat):OQ c=true↔48<=c/\c<=57:=⟨fun h=>(by decide: ∀x∈[48,49,50,51,52,53,54,55,56,57],48<=x/\x<=57) c (of_decide_eq_true h),fun h=>by have:=Gk (c - 48) (by omega);rwa [Nat.add_sub_cancel' h.1]at this⟩
theorem tI {y w:List Nat}:w.filter (fun c=>!decide (c∈y))=[]↔ ∀c∈w,c∈y:=by
 rw[List.filter_eq_nil_iff]
 simp
theorem Lv {l:List Nat} (h0:l≠[]) (h1:l.filter (fun c=>!decide (c∈[48,49,50,51,52,53,54,55,56,57]))=[]) (h2: ¬(l[0]? =some 48/\1<l.length)):Cn l:=by
 refine ⟨fun c hc=>(vD c).mp (decide_eq_true (tI.mp h1 c hc)),h0,fun z=>?_⟩
 have:=Qbq.mpr h0
 by_cases g:1<l.length
 ·exact absurd ⟨z,g⟩ h2
 ·omega
theorem Dt {l:List Nat} (h:l=[]\/l.filter (fun c=>!decide (c∈[48,49,50,51,52,53,54,55,56,57]))≠[]\/(l[0]? =some 48/\1<l.length)): ¬Cn l:=fun z=>by
 rcases h with g | g | g
 ·exact z.2.1 g
 ·exact g (tI.mpr fun c hc=>of_decide_eq_true ((vD c).mpr (z.1 c hc)))
 ·have:=z.2.2 g.1;omega
theorem AV {a b:List Nat} {p:Nat×Nat} (ha:46∉a) (h:a++46::b=stx p):a=dg p.1/\b=dg p.2:=by
 have e:=congrArg (bY 46) h
 unfold stx at e h
 rw[gm _ ha,gm _ (qV (by omega)),ik (qV (by omega))]at e
 have e1:=(Qbv e).1
 subst e1
 exact ⟨rfl,(Qbv (List.append_cancel_left h)).2⟩
theorem OR {x:List Nat} (h:46∈x): ∃a b,x=a++46::b/\46∉a/\x.idxOf 46=a.length:=by
 induction x with
 | nil=>cases h
 | cons c x ih=>
  by_cases e:c=46
  ·subst e
   exact ⟨[],x,rfl,Qam,by simp⟩
  ·obtain ⟨a,b,e1,e2,e3⟩:=ih ((XB.mp h).resolve_left (fun z=>e z.symm))
   refine ⟨c::a,b,by rw[e1];rfl,fun z=>(XB.mp z).elim (fun g=>e g.symm) e2,?_⟩
   have g:(c==46)=false:=by simpa using e
   rw[List.idxOf_cons,e3,g]
   rfl
def wq (H:Hp):List V->List (List Nat)->Prop
 | [],[]=>True
 | v::vs,x::xs=>((∃(p:Nat×Nat) (t:Addr),x=stx p/\v= .ref t/\H t=some (.tup [.int (p.1:Nat), .int (p.2:Nat)]))\/((∀p,x≠stx p)/\v= .cK))/\wq H vs xs
 | _,_=>False
theorem wq.ts {H H':Hp} (s:bF H H'): ∀{vs:List V} {xs:List (List Nat)},wq H vs xs->wq H' vs xs
 | [],[],_=>trivial
 | _::_,_::_,⟨.inl ⟨p,t,a,b,c⟩,h⟩=>⟨.inl ⟨p,t,a,b,s _ _ c⟩,wq.ts s h⟩
 | _::_,_::_,⟨.inr g,h⟩=>⟨.inr g,wq.ts s h⟩
theorem wq.snoc {H:Hp} {v:V} {x:List Nat}: ∀{vs:List V} {xs:List (List Nat)},wq H vs xs->((∃(p:Nat×Nat) (t:Addr),x=stx p/\v= .ref t/\H t=some (.tup [.int (p.1:Nat), .int (p.2:Nat)]))\/((∀p,x≠stx p)/\v= .cK))->wq H (vs++[v]) (xs++[x])
 | [],[],_,g=>⟨g,trivial⟩
 | _::_,_::_,⟨a,h⟩,g=>⟨a,wq.snoc h g⟩
structure Pn where
 t:Addr
 p:Nat×Nat
noncomputable def BB (qs:List Pn):List V:=qs.map fun q=>V.ref q.t
noncomputable def vE (qs:List Pn):List (Nat×Nat):=qs.map fun q=>q.p
def Gm (H:Hp) (q:Pn):Prop:=H q.t=some (.tup [.int (q.p.1:Nat), .int (q.p.2:Nat)])
theorem wq.or {K:PySem.W.Frag} {H:Hp}: ∀{vs:List V} {xs:List (List Nat)},wq H vs xs->(∃qs:List Pn,vs=BB qs/\xs=(vE qs).map stx/\ ∀q∈qs,Gm H q)\/((∀ps:List (Nat×Nat),xs≠ps.map stx)/\ ∃ds,gz K H vs ds/\PyData.canLayAll0 ds=true/\(ds.any fun d=>PyData.eqv d .none)=true)
 | [],[],_=> .inl ⟨[],rfl,rfl,fun _ h=>absurd h Qam⟩
 | v::vs,x::xs,⟨g,h⟩=>by
  have full: ∀{vs:List V} {xs:List (List Nat)},wq H vs xs-> ∃ds,gz K H vs ds/\PyData.canLayAll0 ds=true:=by
   intro vs
   induction vs with
   | nil=>intro xs h;cases xs with
    | nil=>exact ⟨[], .nil,rfl⟩
    | cons _ _=>cases h
   | cons v vs ih=>intro xs h;cases xs with
    | nil=>cases h
    | cons x xs=>
     obtain ⟨ds,r,l⟩:=ih h.2
     rcases h.1 with ⟨p,t,_,rfl,ht⟩ | ⟨_,rfl⟩
     ·exact ⟨jW p::ds, .cons (.tup (cU.of ht) (.cons (.int _) (.cons (.int _) .nil))) r,by show (PyData.canLay0 (jW p)&&_)=true;rw[l];rfl⟩
     ·exact ⟨.none::ds, .cons .cK r,by show (PyData.canLay0 .none&&_)=true;rw[l];rfl⟩
  rcases g with ⟨p,t,rfl,rfl,ht⟩ | ⟨hn,rfl⟩
  ·rcases wq.or (K:=K) h with ⟨qs,rfl,rfl,hq⟩ | ⟨hn,ds,r,l,a⟩
   ·exact .inl ⟨⟨t,p⟩::qs,rfl,rfl,fun q El=>(XB.mp El).elim (fun e=>by rw[e];exact ht) (hq q)⟩
   ·refine .inr ⟨fun ps e=>?_,jW p::ds, .cons (.tup (cU.of ht) (.cons (.int _) (.cons (.int _) .nil))) r,by show (PyData.canLay0 (jW p)&&_)=true;rw[l];rfl,by rw[Qcp,a,Qdo]⟩
    cases ps with
    | nil=>cases e
    | cons q ps=>exact hn ps (Qbv e).2
  ·obtain ⟨ds,r,l⟩:=full h
   refine .inr ⟨fun ps e=>?_, .none::ds, .cons .cK r,by show (PyData.canLay0 .none&&_)=true;rw[l];rfl,by rw[Qcp];rfl⟩
   cases ps with
   | nil=>cases e
   | cons q ps=>exact hn q (Qbv e).1
theorem tJ {K:PySem.W.Frag} {H:Hp}: ∀{qs:List Pn},(∀q∈qs,Gm H q)->gz K H (BB qs) ((vE qs).map jW)
 | [],_=> .nil
 | q::qs,h=> .cons (.tup (cU.of (h q ZC)) (.cons (.int _) (.cons (.int _) .nil))) (tJ fun r hr=>h r (Zz _ hr))
theorem m7: ∀l:List (Nat×Nat),PyData.canLayAll0 (l.map jW)=true
 | []=>rfl
 | p::l=>by show (PyData.canLay0 (jW p)&&PyData.canLayAll0 (l.map jW))=true;rw[m7 l];rfl
theorem zo: ∀l:List (Nat×Nat),PyData.depthAll (l.map jW)<=1
 | []=>Qaq _
 | p::l=>by
  have:=zo l
  show max (PyData.depth (jW p)) (PyData.depthAll (l.map jW))<=1
  exact Nat.max_le.mpr ⟨XA _,this⟩
theorem zq: ∀l:List (Nat×Nat),((l.map jW).any fun d=>PyData.eqv d .none)=false
 | []=>rfl
 | p::l=>by rw[ZD,Qcp,zq l];rfl
noncomputable def pl (p:Nat×Nat):List Int:=[(p.1:Int),(p.2:Int)]
theorem xI {K:PySem.W.Frag} {H:Hp}: ∀{qs:List Pn},(∀q∈qs,Gm H q)->xa K H 1 (BB qs) ((vE qs).map pl)
 | [],_=>trivial
 | q::qs,h=>⟨⟨q.t,rfl,cU.of (h q ZC),rfl⟩,xI fun r hr=>h r (Zz _ hr)⟩
theorem Lw (p q:Nat×Nat):eZ (pl p) (pl q)=eJ (pz p) (pz q):=by
 unfold pl pz eJ
 simp only[eZ]
 by_cases h1:(p.1:Int)=q.1
 ·simp[h1]
  intro h
  omega
 ·by_cases h2:(p.1:Int)<q.1<;>simp[h1,h2]
theorem Gn: ∀a b:List (Nat×Nat),PyData.eqvAll (a.map jW) (b.map jW)=decide (a=b):=fun a b=>by
 have e: ∀l:List (Nat×Nat),l.map jW=(l.map pz).map Gi:=fun l=>by rw[Qbs];rfl
 rw[e,e,zc]
 by_cases h:a=b
 ·rw[h,decide_eq_true rfl,decide_eq_true rfl]
 ·rw[decide_eq_false h,decide_eq_false fun z=>h ?_]
  exact List.map_inj_right (fun p q g=>Prod.ext (by have:=congrArg Prod.fst g;exact Qek this) (by have:=congrArg Prod.snd g;exact Qek this)) |>.mp z
theorem Gp {qs:List Pn} {ys:List V} (h:ys.Perm (BB qs)): ∃xJ:List Pn,ys=BB xJ/\xJ.Perm qs:=oP h
theorem Du {a b:List (Nat×Nat)} (h:a.Perm b) (ha:a.Pairwise fun x y=>eJ (pz y) (pz x)=false) (hb:b.Pairwise fun x y=>eJ (pz y) (pz x)=false):a=b:=by
 have e:=zd (h.map pz) (Qb2.mpr ha) (Qb2.mpr hb)
 exact List.map_inj_right (fun p q g=>Prod.ext (by have:=congrArg Prod.fst g;exact Qek this) (by have:=congrArg Prod.snd g;exact Qek this)) |>.mp e
theorem Dv {ws:List (List Nat)} {P:List (List (Nat×Nat))->Prop} {R:Nat->Prop} {v r:List Nat} (hr:r=cw++32::v): ∀{bs:List Nat} {rs:List (List Nat)} {k:Nat} {acc:List (List (Nat×Nat))},AO ws P R k bs (r::rs) acc->R k
 | [],_,_,_,h=>h
 | _::_,_,_,_, .inr h=>h.2
 | _::_,_,_,_, .inl ⟨_,ho,_⟩=>by
  exfalso
  have:=ho.1
  rw[hr,gm v (by decide)]at this
  exact absurd (Qbv this).1 (by decide)
theorem AW {r:List Nat} (h:(decide (0+[99,111,114,100,32].length<=r.length)&&decide ((r.drop 0).take [99,111,114,100,32].length=[99,111,114,100,32]))=true):r=cw++32::r.drop 5:=by
 have h2:=of_decide_eq_true (Bool.and_eq_true_iff.mp h).2
 have:=Qan 5 r
 rw[Qbz]at h2
 rw[show r.take 5=[99,111,114,100,32] from h2]at this
 exact this.symm
noncomputable def i6 (ws:List (List Nat)):Nat:=(ws.map List.length).sum
theorem AX (ws:List (List Nat)) (w:List Nat):i6 (ws++[w])=i6 ws+w.length:=by unfold i6;rw[Qar,Qdr];simp
def qX (_:PySem.W.Frag):Sp:=fun vs H Q _=> ∃(b:Addr) (y:List Nat),vs=[.ref b, .str (S y)]/\bG H b/\y≠[]/\y.length<=8/\ ∀(t:Addr) (ws:List (List Nat)) (H':Hp),H t=none->t≠b->H' t=some (.tup (ba ws))->AE y ws->ws.length<=3->i6 ws<=16->bG H' b->aI b H H'->Q (.ref t) H'
theorem xK {K:PySem.W.Frag} {vs:List V} {H:Hp} {Q:VK} {E:XK} (h:qX K vs H Q E):vs.length=2:=by obtain ⟨c,_,rfl,_⟩:=h;rfl
theorem jY (c:Nat): ∀ps:List (List Nat),(bI c ps).length<=bL ps - 1
 | []=>XA _
 | [p]=>by show p.length<=((p.length+0)+1) - 1;omega
 | p::q::r=>by
  have ih:=jY c (q::r)
  have e:(bI c (p::q::r)).length=p.length+((bI c (q::r)).length+1):=by
   show (p++c::bI c (q::r)).length=_
   rw[JQ,Zy]
  have e2:bL (p::q::r)=p.length+1+bL (q::r):=by
   unfold bL
   rw[ZD,Qaz,Zy]
   omega
  have e3:1<=bL (q::r):=by unfold bL;rw[Zy];omega
  omega
theorem fG (a b:List (List Nat)):bL (a++b)=bL a+bL b:=by
 unfold bL
 rw[Qar,Qdr,JQ]
 omega
theorem qY (a:List Nat):bL [a]=a.length+1:=by show (a.length+0)+1=_;omega
theorem jf (l:List (List Nat)) (k:Nat):bL (l.take k)+bL (l.drop k)=bL l:=by rw[<-fG,Qan]
theorem vF (l:List (List Nat)) (k:Nat):bL (l.take k)+bL (l.drop (k+1))<=bL l:=by
 have h:=jf l k
 have h2:=jf (l.drop k) 1
 rw[List.drop_drop]at h2
 omega
theorem lT {l:List (List Nat)} {p:List Nat} (h:p∈l):p.length+1<=bL l:=by
 obtain ⟨a,b,rfl⟩:=List.append_of_mem h
 rw[fG,show p::b=[p]++b from rfl,fG,qY]
 omega
theorem gS: ∀{l:List (List Nat)} {k:Nat} {a:List Nat} (v:List Nat),l[k]? =some a->bL (l.set k v)+a.length=bL l+v.length
 | [],_,_,_,h=>by cases h
 | x::l,0,a,v,h=>by
  cases h
  rw[List.set_cons_zero]
  unfold bL
  rw[ZD,ZD,Qaz,Qaz,Zy,Zy]
  omega
 | x::l,k+1,a,v,h=>by
  have ih:=gS v (show l[k]? =some a from h)
  rw[List.set_cons_succ]
  unfold bL at ih ⊢
  rw[ZD,ZD,Qaz,Qaz,Zy,Zy]
  omega
def C8 (z:List Nat):Prop:= ∀c∈z,c<128
theorem C8.app {a b:List Nat} (h:C8 a) (g:C8 b):C8 (a++b):=fun c hc=>(Qaa.mp hc).elim (h c) (g c)
def R8 (m:Nat) (l:List (List Nat)):Prop:=(∀r∈l,C8 r)/\bL l<=m
theorem C8.bI {k:Nat} (hk:k<128): ∀{l:List (List Nat)},(∀r∈l,C8 r)->C8 (bI k l)
 | [],_=>fun c hc=>by cases hc
 | [p],h=>h p (.head _)
 | p::q::r,h=>by
  have ih:=C8.bI hk (l:=q::r) (fun z hz=>h z (.tail _ hz))
  show C8 (p++k::L2.bI k (q::r))
  exact (h p (.head _)).app fun c hc=>by
   rcases XB.mp hc with g | g
   ·rw[g];exact hk
   ·exact ih c g
theorem Dw {zs:List (List Nat)} {k m:Nat} (hk:k<zs.length) (h: ∀z∈zs,C8 z/\z.length<=m): ∃z,lZ (ba zs) (k:Int)=some (V.str (S z))/\C8 z/\z.length<=m:=
 ⟨zs[k],bf (sS hk),h _ (Qa4 hk)⟩
theorem OS {l:List (List Nat)} {k j:Nat} {a b:List Nat} (hk:l[k]? =some a) (hj:l[j]? =some b):bL ((l.set k b).set j a)=bL l:=by
 have h1:=gS b hk
 have h2:(l.set k b)[j]? =some b:=by
  rw[List.getElem?_set]
  by_cases e:k=j
  ·rw[if_pos e,if_pos (Xy.mp hk).1]
  ·rw[if_neg e];exact hj
 have h3:=gS a h2
 omega
theorem C8.set {l:List (List Nat)} {k:Nat} {v:List Nat} (h: ∀r∈l,C8 r) (hv:C8 v): ∀r∈l.set k v,C8 r:=fun r hr=>by
 rcases List.mem_or_eq_of_mem_set hr with g | g
 ·exact h r g
 ·rw[g];exact hv
theorem fc (a b:List (List Nat)):ba a++ba b=ba (a++b):=by unfold ba;rw[Qar]
theorem kE (ws:List (List Nat)) (c:Nat) (w:List Nat):(ba ws).set c (.str (S w))=ba (ws.set c w):=by unfold ba;rw[List.map_set]
theorem gU (l:List (List Nat)) (k:Nat):j8 (ba l) none (some (k:Int))=ba (l.take k):=by rw[vn,ow]
theorem ir (l:List (List Nat)) (k:Nat):j8 (ba l) (some (k:Int)) none=ba (l.drop k):=by rw[vn,fL]
theorem oX (l:List (List Nat)) (k:Nat):j8 (ba l) (some ((k:Int)+1)) none=ba (l.drop (k+1)):=ir l (k+1)
theorem gW {ws:List (List Nat)} {i:Nat} {w:List Nat} (h:ws[i]? =some w):(ba ws)[i]? =some (V.str (S w)):=by unfold ba;rw[Qau,h];rfl
theorem kH {n k:Nat} (h:k<n):ET n (k:Int)=some k:=by unfold ET;rw[if_pos (by omega),if_pos (by omega)];rfl
theorem Ih {l:List (List Nat)} (h:l.length<=402) (k:Nat):(ba (l.take k)).length+(ba (l.drop (k+1))).length<=sizeLine:=by rw[ay,ay,Qab,Qat];exact Qa1 (show _<=1000 by omega) (by decide)
theorem Dx {l:List (List Nat)} (h:l.length<=402) (k:Nat) (v:V):(ba (l.take k)).length+[v].length<=sizeLine:=by rw[ay,Qab];exact Qa1 (show min k l.length+1<=1000 by omega) (by decide)
theorem Dy {l:List (List Nat)} (h:l.length<=402) (k:Nat) (v:V):(ba (l.take k)++[v]).length+(ba (l.drop k)).length<=sizeLine:=by rw[JQ,ay,ay,Qab,Qat];exact Qa1 (show min k l.length+1+(l.length - k)<=1000 by omega) (by decide)
theorem R8.less {l:List (List Nat)} {m:Nat} (k:Nat) (h: ∀r∈l,C8 r) (hm:bL l<=m):R8 m (l.take k++l.drop (k+1)):=
 ⟨fun r hr=>(Qaa.mp hr).elim (fun g=>h r (Qba g)) (fun g=>h r (Qbg g)),by rw[fG];exact Qa1 (vF l k) hm⟩
theorem R8.put {l:List (List Nat)} {m:Nat} (k:Nat) {a:List Nat} (h: ∀r∈l,C8 r) (ha:C8 a) (hm:bL l+a.length+1<=m):R8 m (l.take k++[a]++l.drop k):=
 ⟨fun r hr=>by
  rcases Qaa.mp hr with g | g
  ·rcases Qaa.mp g with g | g
   ·exact h r (Qba g)
   ·rw[QB.mp g];exact ha
  ·exact h r (Qbg g),by
  have:=jf l k
  rw[fG,fG,qY]
  omega⟩
theorem R8.to {l:List (List Nat)} {m:Nat} (k:Nat) (h: ∀r∈l,C8 r) (hm:bL l<=m):R8 m (l.take k):=⟨fun r hr=>h r (Qba hr),by have:=jf l k;omega⟩
noncomputable def Gq:Stmt->List Stmt
 | .If _ _ b _=>b
 | _=>[]
def jM (_:PySem.W.Frag):Sp:=fun vs H Q _=> ∃(b:Addr) (y t:List Nat),vs=[.ref b, .str (S y), .str (S t)]/\bG H b/\(∀c∈y,c<128)/\y≠[]/\y.length<=8/\(∀c∈t,c<128)/\t.length<=400/\ ∀(t':List Nat) H',(∀c∈t',c<128)->t'.length<=2*t.length+14->bG H' b->aI b H H'->Q (.str (S t')) H'
theorem oY {K:PySem.W.Frag} {vs:List V} {H:Hp} {Q:VK} {E:XK} (h:jM K vs H Q E):vs.length=3:=by obtain ⟨_,_,_,rfl,_⟩:=h;rfl
theorem vG {α:Type} (q:α->Bool): ∀l:List α,(l.filter q).length+(l.filter fun x=>!q x).length=l.length
 | []=>rfl
 | x::l=>by
  have ih:=vG q l
  rw[List.filter_cons,List.filter_cons,Zy]
  cases q x
  ·rw[if_neg (by decide),if_pos (by decide),Zy];omega
  ·rw[if_pos rfl,if_neg (by decide),Zy];omega
theorem OT {α:Type} (p:Nat->α->Bool): ∀(bs:List Nat) (l:List α),(bs.Pairwise fun a b=> ∀x,p a x=true->p b x=false)->(bs.map fun b=>(l.filter (p b)).length).sum<=l.length
 | [],_,_=>Qaq _
 | b::bs,l,h=>by
  obtain ⟨h1,h2⟩:=Qdt.mp h
  have ih:=OT p bs (l.filter fun x=>!p b x) h2
  have e:(bs.map fun c=>((l.filter fun x=>!p b x).filter (p c)).length)=bs.map fun c=>(l.filter (p c)).length:=by
   refine Qcm fun c hc=>?_
   rw[List.filter_filter]
   congr 1
   refine Qes fun x _=>?_
   cases e1:p b x
   ·simp
   ·rw[h1 c hc x e1];rfl
  rw[e]at ih
  rw[ZD,Qaz]
  have:=vG (p b) l
  omega
theorem vH {α:Type} (f g:α->Nat): ∀l:List α,(l.map fun x=>f x+g x).sum=(l.map f).sum+(l.map g).sum
 | []=>rfl
 | x::l=>by rw[ZD,ZD,ZD,Qaz,Qaz,Qaz,vH f g l];omega
theorem Gr {a b:Nat} (ha:a∈aH) (hb:b∈aH) (h:a≠b) (x:Nat) (hx:AB a x=true):AB b x=false:=by
 have key: ∀a∈aH, ∀b∈aH,a≠b->a≠eV b/\eV a≠b/\eV a≠eV b:=by decide+kernel
 obtain ⟨k1,k2,k3⟩:=key a ha b hb h
 unfold AB at hx ⊢
 rw[Bool.or_eq_true]at hx
 rcases hx with g | g
 ·rw[of_decide_eq_true g,decide_eq_false h,decide_eq_false k1];rfl
 ·rw[of_decide_eq_true g,decide_eq_false k2,decide_eq_false k3];rfl
theorem zr {y:List Nat} (hy:Yd y) (ws:List (List Nat)): ∀n,n<=ws.length->((bh y).map fun b=>(aK b ws n).length).sum<=((ws.take n).map List.length).sum
 | 0,_=>by
  have e:((bh y).map fun b=>(aK b ws 0).length)=(bh y).map fun _=>0:=rfl
  rw[e]
  generalize bh y=l
  induction l with
  | nil=>exact XA _
  | cons _ l ih=>rw[ZD,Qaz,Qcn];exact ih
 | n+1,h=>by
  have ih:=zr hy ws n (by omega)
  have hn:ws[n]? =some ws[n]:=Mn (by omega)
  have e:((bh y).map fun b=>(aK b ws (n+1)).length)=(bh y).map fun b=>(aK b ws n).length+((List.range ws[n].length).filter fun i=>AB b (ws[n].getD i 0)).length:=by
   refine Qcm fun b _=>?_
   rw[cY hn,JQ]
   unfold du
   rw[kb]
  rw[e,vH,Qdm,hn,Qar,Qdr]
  have nd:(bh y).Nodup:=(dc y).nodup_iff.mpr (hy.nd.filter _)
  have c:=OT (fun b i=>AB b (ws[n].getD i 0)) (bh y) (List.range ws[n].length) (List.Pairwise.imp_of_mem (fun {a b} ha hb h x hx=>Gr (ze hy.lt a ha) (ze hy.lt b hb) h _ hx) nd)
  rw[Qdy]at c
  show _<=_+[ws[n].length].sum
  rw[List.sum_singleton]
  omega
theorem vI (g:Nat->Nat): ∀(bs:List Nat) (os:List (List (Nat×Nat))),(∀(j:Nat) (o:List (Nat×Nat)) (b:Nat),os[j]? =some o->bs[j]? =some b->(b_ b o).length<=7+5*g b)->((List.zipWith b_ bs os).map List.length).sum<=7*bs.length+5*(bs.map g).sum
 | [],_,_=>Qaq _
 | b::bs,[],_=>Qaq _
 | b::bs,o::os,h=>by
  have ih:=vI g bs os fun j o' b' h1 h2=>h (j+1) o' b' h1 h2
  have h0:=h 0 o b rfl rfl
  rw[List.zipWith_cons_cons,ZD,Qaz,ZD,Qaz,Zy]
  omega
theorem Dz: ∀n,n<3->(dg n).length=1:=by decide+kernel
theorem Gs: ∀n,n<16->(dg n).length<=2:=by decide+kernel
theorem qZ: ∀ws:List (List Nat),((ws.map gr).map List.length).sum<=6*ws.length+i6 ws
 | []=>Qaq _
 | w::ws=>by
  have ih:=qZ ws
  have e:(gr w).length<=6+w.length:=by
   show (cw++32::eG w).length<=_
   unfold eG cw
   split<;>simp<;>omega
  unfold i6 at ih ⊢
  rw[ZD,ZD,Qaz,ZD,Qaz,Zy]
  omega
theorem Told.T3 {y:List Nat} {ws:List (List Nat)} {os:List (List (Nat×Nat))} (h:Told y ws os) (h3:ws.length<=3) (Q1:i6 ws<=16):(textOf y ws os).length<=149:=by
 have h1:=i_ 10 (rowsOf y ws os)
 have h2:=oJ (ws:=ws) h.ol
 have h4:=h.bl
 have h5:=qZ ws
 have hb:=h.ol
 have EI: ∀(j:Nat) (o:List (Nat×Nat)) (b:Nat),os[j]? =some o->(bh y)[j]? =some b->(b_ b o).length<=7+5*(aK b ws ws.length).length:=fun j o b e1 e2=>by
  have pm:=h.pm j o b e1 e2
  have j1:=i_ 32 (fj b o)
  have hs: ∀x∈o.map stx,x.length<=4:=fun x hx=>by
   obtain ⟨p,hp,rfl⟩:=Qa5.mp hx
   have lB:=pm.mem_iff.mp hp
   have l1:=oE p lB
   have l2:p.2<16:=by
    unfold aK at lB
    obtain ⟨c,hc,lB⟩:=Qd2.mp lB
    unfold du at lB
    obtain ⟨i,hi,rfl⟩:=Qa5.mp lB
    have h1:=Qc1.mp hc
    have h2:=Qc1.mp (Qbb.mp hi).1
    have h3:(ws.getD c []).length<=12:=by
     rw[Qca,Mn h1]
     exact (h.wo.all _ (Qa4 h1)).2
    show i<16
    omega
   have d1:=Dz p.1 (by omega)
   have d2:=Gs p.2 l2
   unfold stx
   rw[JQ,Zy]
   omega
  have j2:=ip hs
  rw[kb,pm.length_eq]at j2
  have j3:((fj b o).map List.length).sum=5+((o.map stx).map List.length).sum:=by
   unfold fj
   rw[ZD,ZD,Qaz,Qaz]
   show 4+(1+_)=_
   omega
  have j4:(fj b o).length=o.length+2:=by unfold fj;simp
  rw[pm.length_eq]at j4
  unfold b_
  omega
 have h6:=vI (fun b=>(aK b ws ws.length).length) (bh y) os EI
 have h7:=zr h.yd ws ws.length (XA _)
 rw[Qbh]at h7
 have h7':((bh y).map fun b=>(aK b ws ws.length).length).sum<=i6 ws:=h7
 have h8:((rowsOf y ws os).map List.length).sum=((ws.map gr).map List.length).sum+((List.zipWith b_ (bh y) os).map List.length).sum:=by unfold rowsOf;rw[Qar,Qdr]
 unfold textOf
 omega
theorem AY {y w:List Nat} (hy: ∀c∈y,Lt c) (hw: ∀c∈w,c∈y):dG y (gr w)=some w:=by
 have e:gr w=cw++32::eG w:=rfl
 rw[e,vt (fun z=>(oH _ (hy _ z).mem).1 rfl)]
 unfold eG
 by_cases h:w=[]
 ·rw[if_pos h,if_pos rfl,h]
 ·rw[if_neg h,if_neg (fun z=>(oH _ (hy 45 (hw 45 (by rw[z];simp))).mem).2.2 rfl),if_pos ⟨h,sZ hw⟩]
theorem AZ {y:List Nat} {b:Nat} {o:List (Nat×Nat)}:dG y (b_ b o)=none:=vv fun v e=>by
 have h0:(b_ b o)[0]? =some 98:=rfl
 rw[e]at h0
 exact absurd h0 (by show some 99≠some 98;decide)
theorem vJ {y:List Nat} (hy: ∀c∈y,Lt c) {rs:List (List Nat)} (hr:fZ y rs=[]): ∀{ws:List (List Nat)},(∀w∈ws, ∀c∈w,c∈y)->fZ y (ws.map gr++rs)=ws
 | [],_=>hr
 | w::ws,h=>by
  rw[ZD,Qc8,oN (AY hy (h w ZC)),vJ hy hr fun u hu=>h u (Zz _ hu)]
theorem Gu {y bs:List Nat} {os:List (List (Nat×Nat))}:fZ y (List.zipWith b_ bs os)=[]:=by
 cases bs with
 | nil=>rfl
 | cons b bs=>cases os with
  | nil=>rfl
  | cons o os=>rw[List.zipWith_cons_cons];exact kA AZ
theorem vK {ws:List (List Nat)} {P:List (List (Nat×Nat))->Prop} {R:Nat->Prop}: ∀{bs:List Nat} {os acc:List (List (Nat×Nat))} {k:Nat},os.length=bs.length->(∀(j:Nat) (o:List (Nat×Nat)) (b:Nat),os[j]? =some o->bs[j]? =some b->mw ws b (b_ b o) o)->P (acc++os)->AO ws P R k bs (List.zipWith b_ bs os) acc
 | [],[],acc,_,_,_,h=>by rw[Qal]at h;exact h
 | [],_::_,_,_,e,_,_=>by cases e
 | _::_,[],_,_,e,_,_=>by cases e
 | b::bs,o::os,acc,k,e,ho,h=> .inl ⟨o,ho 0 o b rfl rfl,vK (by simpa using e) (fun j o' b' h1 h2=>ho (j+1) o' b' h1 h2) (by rw[Xz];exact h)⟩
theorem Told.rd8 {y:List Nat} {ws:List (List Nat)} {os:List (List (Nat×Nat))} (h:Told y ws os) {P:List (List Nat)->List (List (Nat×Nat))->Prop} {R:Nat->Prop} (hP:P ws os):Ey y (textOf y ws os) P R:=by
 unfold Ey
 rw[h.bY]
 have ew:fZ y (rowsOf y ws os)=ws:=vJ h.yd.lt Gu fun w hw=>(h.wo.all w hw).1
 rw[ew]
 have ed:(rowsOf y ws os).drop ws.length=List.zipWith b_ (bh y) os:=by
  unfold rowsOf
  have:ws.length=(ws.map gr).length:=by rw[kb]
  rw[this,Qc3 (XA _),Qd4,Qcl]
 rw[ed]
 exact vK h.ol (fun j o b e1 e2=>⟨AH (h.blt (Qay e2)) (h.sm e1 e2),h.pm j o b e1 e2⟩) hP
noncomputable def pQ (os:List (List (Nat×Nat))):Nat:=(os.map List.length).sum
theorem A0 (p:Nat×Nat):3<=(stx p).length:=by
 have h1:=Qbq.mpr (zh p.1)
 have h2:=Qbq.mpr (zh p.2)
 unfold stx
 rw[JQ,Zy]
 omega
theorem zt: ∀ps:List (Nat×Nat),3*ps.length<=((ps.map stx).map List.length).sum
 | []=>XA _
 | p::ps=>by
  have:=zt ps
  have:=A0 p
  rw[ZD,ZD,Qaz,Zy]
  omega
theorem mw.len {ws:List (List Nat)} {b:Nat} {row:List Nat} {ps:List (Nat×Nat)} (h:mw ws b row ps):4*ps.length<=row.length:=by
 have e:=je 32 row
 rw[h.1]at e
 unfold bL at e
 have:=zt ps
 simp only[ZD,Qaz,Zy]at e
 rw[kb]at e
 have:cN.length=4:=rfl
 omega
theorem zu {ws:List (List Nat)}: ∀(bs:List Nat) (rs:List (List Nat)) (k:Nat) (acc:List (List (Nat×Nat))),(∃jB,(∀P R,P (acc++jB)->AO ws P R k bs rs acc)/\4*pQ jB<=(rs.map List.length).sum/\jB.length<=bs.length/\ ∀o∈jB, ∃b,o.Perm (aK b ws ws.length))\/ ∃j,j<=k+bs.length/\ ∀P R,R j->AO ws P R k bs rs acc
 | [],[],_,acc=> .inl ⟨[],fun _ _ h=>by rw[Qal]at h;exact h,Qaq _,Qaq _,fun _ h=>absurd h Qam⟩
 | [],_::_,k,_=> .inr ⟨k,by omega,fun _ _ h=>h⟩
 | _::_,[],k,_=> .inr ⟨k,by omega,fun _ _ h=>h⟩
 | b::bs,r::rs,k,acc=>by
  by_cases h: ∃ps,mw ws b r ps
  ·obtain ⟨ps,kL⟩:=h
   rcases zu bs rs (k+1) (acc++[ps]) with ⟨os,g,g1,g2,g3⟩ | ⟨j,hj,g⟩
   ·refine .inl ⟨ps::os,fun P R hP=> .inl ⟨ps,kL,g P R (by rw[Xz];exact hP)⟩,?_,by rw[Zy,Zy];omega,fun o ho=>?_⟩
    ·have:=kL.len
     unfold pQ at g1 ⊢
     rw[ZD,Qaz,ZD,Qaz]
     omega
    ·rcases XB.mp ho with e | e
     ·rw[e];exact ⟨b,kL.2⟩
     ·exact g3 o e
   ·exact .inr ⟨j,by rw[Zy];omega,fun P R hR=> .inl ⟨ps,kL,g P R hR⟩⟩
  ·exact .inr ⟨k,by omega,fun P R hR=> .inr ⟨fun ps kL=>h ⟨ps,kL⟩,hR⟩⟩
theorem q0: ∀(l:List Nat) (n:Nat),(l.drop n).sum<=l.sum
 | [],n=>by rw[List.drop_nil];exact XA _
 | a::l,0=>XA _
 | a::l,n+1=>by
  have:=q0 l n
  rw[List.drop_succ_cons,Qaz]
  omega
theorem Lx {y t:List Nat} (hy:Ex y) (ht:jy t):(∃os,(∀P R,P (fZ y (bY 10 t)) os->Ey y t P R)/\pQ os<=160/\os.length<=8/\ ∀o∈os, ∃b,o.Perm (aK b (fZ y (bY 10 t)) (fZ y (bY 10 t)).length))\/ ∃j,j<=720/\ ∀P R,R j->Ey y t P R:=by
 have hw:=tG hy ht
 have hb:=s_ y
 have YC:=hy.2
 rcases zu (ws:=fZ y (bY 10 t)) (bh y) ((bY 10 t).drop (fZ y (bY 10 t)).length) (fZ y (bY 10 t)).length [] with ⟨os,g,g1,g2,g3⟩ | ⟨j,hj,g⟩
 ·refine .inl ⟨os,fun P R h=>g (P (fZ y (bY 10 t))) R h,?_,by omega,g3⟩
  have h1:=je 10 t
  unfold bL at h1
  have h2:=q0 ((bY 10 t).map List.length) (fZ y (bY 10 t)).length
  rw[<-Qd0]at h2
  have h3:=(dH (c:=10) t).2
  have h4:=ht.2
  have h5:1<=(bY 10 t).length:=by
   obtain ⟨q,qs,e⟩:=eK 10 t
   rw[e,Zy]
   omega
  omega
 ·exact .inr ⟨j,by have:=hw.iT;omega,fun P R h=>g (P (fZ y (bY 10 t))) R h⟩
theorem vL {k:Nat}: ∀{ws:List (List Nat)},(∀w∈ws, ∀c∈w,c<128)->lA k (i6 ws+ws.length) (gD ws)
 | [],_=> .nil
 | w::ws,h=> .cons (a:=w.length) (b:=i6 ws+ws.length) (.str (h w ZC) (XA _)) (vL fun u hu=>h u (Zz _ hu)) (by unfold i6;rw[ZD,Qaz,Zy];omega)
theorem Gv {k:Nat} {ps:List (Nat×Nat)} (h: ∀p∈ps,p.1<1000/\p.2<1000):lA (k+1) (90*ps.length) (ps.map jW):=by
 refine .all (a:=89) (fun x hx=>?_) (by rw[kb];omega)
 obtain ⟨p,hp,rfl⟩:=Qa5.mp hx
 have ok:=h p hp
 have b1:((p.1:Nat):Int).natAbs<10 ^ 12:=by omega
 have b2:((p.2:Nat):Int).natAbs<10 ^ 12:=by omega
 exact .tup (.cons (a:=40) (b:=41) (.int b1 (by decide)) (.cons (a:=40) (b:=0) (.int b2 (by decide)) .nil (by decide)) (by decide))
theorem zw {k:Nat}: ∀{os:List (List (Nat×Nat))},(∀o∈os, ∀p∈o,p.1<1000/\p.2<1000)->lA (k+2) (90*pQ os+os.length) (os.map fun ns=>PyData.tuple (ns.map jW))
 | [],_=> .nil
 | o::os,h=> .cons (a:=90*o.length) (b:=90*pQ os+os.length) (.tup (Gv (h o ZC))) (zw fun u hu=>h u (Zz _ hu)) (by unfold pQ;rw[ZD,Qaz,Zy];omega)
theorem A1 {ws:List (List Nat)} (hw:Ls ws) {b:Nat}: ∀p∈aK b ws ws.length,p.1<1000/\p.2<1000:=fun p hp=>by
 unfold aK at hp
 obtain ⟨c,hc,hp⟩:=Qd2.mp hp
 unfold du at hp
 obtain ⟨i,hi,rfl⟩:=Qa5.mp hp
 have h1:=Qc1.mp hc
 have h2:=Qc1.mp (Qbb.mp hi).1
 have h3:(ws.getD c []).length<=700:=by
  rw[Qca,Mn h1]
  exact (hw.all _ (Qa4 h1)).2
 have:=hw.iT
 exact ⟨by show c<1000;omega,by show i<1000;omega⟩
theorem DA {ws:List (List Nat)} {os:List (List (Nat×Nat))} (hw:Ls ws) (h1:pQ os<=160) (h2:os.length<=8) (h3: ∀o∈os, ∃b,o.Perm (aK b ws ws.length)):rV 40 100000 (Lu ws os):=by
 have hp: ∀o∈os, ∀p∈o,p.1<1000/\p.2<1000:=fun o ho p hp=>by
  obtain ⟨b,pm⟩:=h3 o ho
  exact A1 hw p (pm.mem_iff.mp hp)
 have s1:=vL (k:=37) (ws:=ws) fun w hw' c hc=>((hw.all w hw').1 c hc).lt
 have s2:=zw (k:=35) hp
 have t1:i6 ws<=700:=hw.YB
 have t2:=hw.iT
 refine .tup (.cons (a:=4) (b:=99000) (.str (by decide) (by decide)) (.cons (a:=98000) (b:=0) (.tup (.cons (a:=i6 ws+ws.length) (b:=90*pQ os+os.length+1) (.tup s1) (.cons (a:=90*pQ os+os.length) (b:=0) (.tup s2) .nil (by omega)) (by omega))) .nil (by decide)) (by decide))
theorem Ly {k:Nat} (h:k<=720):rV 40 100000 (TZ k):=
 .lst (.cons (a:=7) (b:=41) (.str (by decide) (by decide)) (.cons (a:=40) (b:=0) (.int (by omega) (by decide)) .nil (by decide)) (by decide))
theorem xM {K:PySem.W.Frag} {H:Hp} {p dr:Addr} {ws:List (List Nat)} {os:List Od} (h:H p=some (.tup [.str (S xF), .ref dr])) (hd:wm H dr ws os):nJ K H (.ref p) (Lu ws (gC os)):=by
 obtain ⟨wt,ot,h1,h2,h3,h4⟩:=hd
 have ho: ∀{os:List Od},(∀o∈os,wj H o)->gz K H (kr os) ((gC os).map fun ns=>PyData.tuple (ns.map jW)):=by
  intro os
  induction os with
  | nil=>intro _;exact .nil
  | cons o os ih=>intro h;exact .cons (.tup (cU.of (h o ZC).1) (oG (h o ZC).2)) (ih fun q hq=>h q (Zz _ hq))
 exact .tup (cU.of h) (.cons (.str _) (.cons (.tup (cU.of h1) (.cons (.tup (cU.of h2) (dF _)) (.cons (.tup (cU.of h3) (ho h4)) .nil))) .nil))
theorem Lz {K:PySem.W.Frag} {H:Hp} {p:Addr} {k:Nat} (h:H p=some (.lst [.str (S mv), .int (k:Nat)])):nJ K H (.ref p) (TZ k):= .lst (aN.of h) (.cons (.str _) (.cons (.int _) .nil))
theorem Gw (K:PySem.W.Frag) {y t:List Nat} (hy:Ex y) (ht:jy t): ∃D,rV 40 100000 D/\ ∀{H:Hp} {Q:VK},(∀v H',nJ K H' v D->ah H H'->Q v H')->Q0 H Q y t:=by
 rcases Lx hy ht with ⟨os,g,g1,g2,g3⟩ | ⟨j,hj,g⟩
 ·exact ⟨Lu (fZ y (bY 10 t)) os,DA (tG hy ht) g1 g2 g3,fun {H Q} q=>g _ _ fun p dr jB H' h1 h2 h3 s=>q _ _ (by rw[<-h3];exact xM h1 h2) s⟩
 ·exact ⟨TZ j,Ly hj,fun {H Q} q=>g _ _ fun p H' h s=>q _ _ (Lz h) s⟩
theorem Told.bdw {y:List Nat} {ws:List (List Nat)} {os:List (List (Nat×Nat))} (h:Told y ws os) (Q1:i6 ws<=16):Ls ws:=⟨by have:=h.wo.iT;omega,fun w hw=>⟨h.wl w hw,by have:=(h.wo.all w hw).2;omega⟩,by have:i6 ws=(ws.map List.length).sum:=rfl;omega⟩
theorem Told.YD {y:List Nat} {ws:List (List Nat)} {os:List (List (Nat×Nat))} (h:Told y ws os) {o:List (Nat×Nat)} (ho:o∈os): ∃b,o.Perm (aK b ws ws.length):=by
 obtain ⟨j,hj,e⟩:=Qei ho
 have hb:j<(bh y).length:=by rw[<-h.ol];exact hj
 exact ⟨(bh y)[j],h.pm j o _ (by rw[Mn hj,e]) (Mn hb)⟩
theorem vM {α:Type} {k:Nat}: ∀{ps:List (List α)},(∀p∈ps,p.length<=k)->(ps.map List.length).sum<=k*ps.length
 | [],_=>Qaq _
 | p::ps,h=>by
  have h1:=h p ZC
  have h2:=vM fun q hq=>h q (Zz _ hq)
  rw[ZD,Qaz,Zy,Nat.mul_succ]
  omega
theorem Told.txc {y:List Nat} {ws:List (List Nat)} {os:List (List (Nat×Nat))} (h:Told y ws os): ∀c∈textOf y ws os,c<128:=by
 have kk: ∀{w:List Nat},(w.all fun c=>decide (c<128))=true->C8 w:=fun h c hc=>of_decide_eq_true (Qcf.mp h c hc)
 refine C8.bI (by decide) fun r hr=>?_
 rcases Qaa.mp hr with g | g
 ·obtain ⟨w,hw,rfl⟩:=Qa5.mp g
  refine C8.bI (by decide) fun r hr=>?_
  rcases XB.mp hr with rfl | hr
  ·exact kk (by decide)
  rw[QB.mp hr]
  unfold eG
  by_cases e:w=[]
  ·rw[if_pos e];exact kk (by decide)
  ·rw[if_neg e];exact fun c hc=>(h.wl w hw c hc).lt
 ·obtain ⟨j,b,o,e1,e2,rfl⟩:=Dl g
  refine C8.bI (by decide) fun r hr=>?_
  rcases XB.mp hr with rfl | hr
  ·exact kk (by decide)
  rcases XB.mp hr with rfl | hr
  ·exact fun c hc=>by rw[QB.mp hc];exact (h.blt (Qay e2)).lt
  obtain ⟨p,hp,rfl⟩:=Qa5.mp hr
  exact zj p
theorem Told.sm8 {y:List Nat} {ws:List (List Nat)} {os:List (List (Nat×Nat))} (h:Told y ws os) (Q1:i6 ws<=16):rV 40 100000 (Lu ws os):=by
 have hl:=h.bl.2
 refine DA (h.bdw Q1) ?_ (by omega) fun o ho=>h.YD ho
 have hs: ∀o∈os,o.length<=16:=fun o ho=>by
  obtain ⟨b,pm⟩:=h.YD ho
  have:=jX b ws ws.length (XA _)
  rw[Qbh]at this
  rw[pm.length_eq]
  exact Qa1 this Q1
 have:=vM hs
 unfold pQ
 omega
theorem vN: ∀os:List (List (Nat×Nat)),PyData.hasDictAll (os.map fun ns=>PyData.tuple (ns.map jW))=false
 | []=>rfl
 | o::os=>by
  show (PyData.hasDictAll (o.map jW)||PyData.hasDictAll (os.map fun ns=>PyData.tuple (ns.map jW)))=false
  rw[vj o,vN os];rfl
theorem DB (ws:List (List Nat)) (os:List (List (Nat×Nat))):(Lu ws os).hasDict=false:=by
 show (false||((PyData.hasDictAll (gD ws)||(PyData.hasDictAll (os.map fun ns=>PyData.tuple (ns.map jW))||false))||false))=false
 rw[vh ws,vN os];rfl
theorem LA {H:Hp} {dr:Addr} {ws:List (List Nat)} {os:List Od} (h:xy H dr ws os):wm H dr ws os:=by
 obtain ⟨⟨wt,ot,h1,h2,h3⟩,h4⟩:=h
 exact ⟨wt,ot,h1,h2,h3,fun o ho=>⟨(h4 o ho).tp,(h4 o ho).pr⟩⟩
theorem A2 (L:Int) (h0:0<=L): ∃m:Nat,(if (if L<10 then L else 10)>6 then (if L<10 then L else 10) else 6)=(m:Int)/\6<=m/\m<=10:=by
 by_cases h:L<10
 ·rw[if_pos h]
  by_cases g:L>6
  ·rw[if_pos g];exact ⟨L.toNat,by omega,by omega,by omega⟩
  ·rw[if_neg g];exact ⟨6,rfl,by omega,by omega⟩
 ·rw[if_neg h,if_pos (by omega)];exact ⟨10,rfl,by omega,by omega⟩
theorem T4 {HA:Hp} {X:List Nat->Hp->Prop} {G:Prop} (f:(∀t H6,jy t->ah HA H6->X t H6)->G) (x: ∀t H6,jy t->ah HA H6->X t H6):G:=f x
theorem zx {c f d:Nat} {l:List Nat} (h:d∈rp c f l):d∈l\/d=f:=by
 unfold rp at h
 obtain ⟨e,he,z⟩:=Qa5.mp h
 by_cases g:e=c
 ·rw[if_pos g]at z;exact .inr z.symm
 ·rw[if_neg g]at z;exact .inl (by rw[<-z];exact he)
local macro_rules | `(tactic| walk_at "rd") => `(tactic| repeat (first
 | refine ⟨_,rfl,?_⟩
 | refine ⟨_,_,rfl,rfl,?_⟩
 | refine ⟨rfl,?_⟩
 | refine And.intro (by first | decide | omega | assumption | exact Nat.le_of_ble_eq_true rfl | exact .inl ⟨by decide,by decide⟩ | exact .inr ⟨by decide,by decide⟩ | exact ⟨by decide,by decide⟩ | exact ⟨by omega,by omega⟩) ?_))
local macro_rules | `(tactic| walk_at "wk") => `(tactic| repeat (first
 | refine ⟨_,rfl,?_⟩
 | refine ⟨_,_,rfl,rfl,?_⟩
 | refine ⟨_,_,_,rfl,rfl,by first | assumption | omega,by assumption,?_⟩
 | refine ⟨rfl,?_⟩
 | refine And.intro (by first | decide | omega | assumption | exact Nat.le_of_ble_eq_true rfl | exact .inl ⟨by decide,by decide⟩ | exact .inr ⟨by decide,by decide⟩ | exact ⟨by decide,by decide⟩ | exact ⟨by omega,by omega⟩) ?_))
local macro_rules | `(tactic| walk_at "bd") => `(tactic| first | assumption | exact aaj _ | exact apl (by walk_at "bd") (by walk_at "bd"))
local macro_rules | `(tactic| walk_at "ln") => `(tactic| repeat (first
 | refine ⟨_,rfl,?_⟩
 | refine ⟨_,_,rfl,rfl,?_⟩
 | refine ⟨rfl,?_⟩
 | refine And.intro (by first | assumption | decide | exact szl (by walk_at "bd") (by walk_at "bd") (by decide) | omega | (simp only[JQ,Zy,Qcd,kb];omega)) ?_))
noncomputable def top (i:Nat):Stmt:=PySem.Challenge.pw_mustmeet_k18_texts_of_no_drawing.main.body.getD i (.Pass ⟨0,0,0,0⟩)
noncomputable abbrev cA:Stmt:=top 16
noncomputable abbrev jg:Stmt:=top 17
noncomputable abbrev de:Stmt:=top 19
noncomputable abbrev cQ:Stmt:=top 24
noncomputable abbrev dS:Stmt:=top 25
noncomputable abbrev df:Stmt:=top 26
noncomputable abbrev dh:Stmt:=top 27
noncomputable abbrev cB:Stmt:=top 28
noncomputable abbrev lU:Stmt:=top 30
noncomputable abbrev jh:Stmt:=top 31
noncomputable abbrev gX:Stmt:=top 32
noncomputable abbrev jj:Stmt:=top 33
noncomputable abbrev jk:Stmt:=top 34
noncomputable abbrev gY:Stmt:=top 35
noncomputable abbrev gZ:Stmt:=top 36
noncomputable abbrev eM:Stmt:=top 37
noncomputable abbrev g6:Stmt:=top 38
noncomputable abbrev eN:Stmt:=top 39
noncomputable abbrev jl:Stmt:=top 40
noncomputable abbrev jm:Stmt:=top 41
noncomputable abbrev aC:Stmt:=top 42
noncomputable abbrev fH:Stmt:=top 43
noncomputable abbrev jn:Stmt:=top 44
noncomputable abbrev jo:Stmt:=top 45
noncomputable abbrev fI:Stmt:=top 46
noncomputable abbrev q8:Stmt:=top 47
structure cG (K:PySem.W.Frag) (mg:Str->Option Value) (x:Str) (st:Stmt) (ps:List Str) (f:Addr) (fd:FuncData):Prop where
 fn:B1 K x x st f fd
 mg:mg x=some (.ref f)
 bd:Binds K fd ps []
noncomputable abbrev eO:Stmt:=inC (top 5) 0
structure Txt (K:PySem.W.Frag) (mg:Str->Option Value) (f0 f1 f2 f3 f4 f5 f6 f7 f8 f9 Gx Ii Ij Ik Gy Il Im Io Ip Iq q9 Ir Iu Iv Iw Iy aq aS fo eA cf eB dj fq eE eF cJ dk dq ft dI:Addr) (d0 d1 d2 d3 d4 d5 d6 d7 d8 d9 OU Q2 Q3 Q4 OV Q5 Q6 Q7 Q8 Q9 Q_ Ra Rb Rc Rf Rg i7:FuncData):Prop where
 F0:cG K mg "foreign_sign" cA ["yard","text"] f0 d0
 F1:cG K mg "bands" jg ["yard"] f1 d1
 F2:cG K mg "strands_in" de ["words","band"] f2 d2
 F3:cG K mg "strand_text" cQ ["strand"] f3 d3
 F4:cG K mg "read_cord" dS ["yard","row"] f4 d4
 F5:cG K mg "read_words" df ["yard","rows"] f5 d5
 F6:cG K mg "read_order" dh ["words","band","row"] f6 d6
 F7:cG K mg "read_drawing" cB ["yard","text"] f7 d7
 F8:cG K mg "_law_box" lU ["_law_script","_law_k"] f8 d8
 F9:cG K mg "_law_take" jh ["_law_box_here","_law_many"] f9 d9
 wu:cG K mg "_law_other" gX ["_law_letter"] Gx OU
 LB:cG K mg "_law_yard" jj ["_law_box_here","_law_few","_law_top"] Ii Q2
 LC:cG K mg "_law_word" jk ["_law_box_here","_law_yard_here","_law_top"] Ij Q3
 LD:cG K mg "_law_order" gY ["_law_box_here","_law_things"] Ik Q4
 wx:cG K mg "_law_bands" gZ ["_law_yard_here"] Gy OV
 LG:cG K mg "_law_drawing" eM ["_law_box_here","_law_yard_here","_law_words_here"] Il Q5
 LH:cG K mg "_law_words" g6 ["_law_box_here","_law_yard_here"] Im Q6
 LI:cG K mg "_law_strands" eN ["_law_words_here","_law_band"] Io Q7
 LJ:cG K mg "_law_text" jl ["_law_yard_here","_law_drawing_here"] Ip Q8
 LK:cG K mg "_law_sign" jm ["_law_box_here","_law_yard_here"] Iq Q9
 Ez:cG K mg "_law_otherwise" aC ["_law_box_here","_law_yard_here","_law_text_here"] q9 Q_
 LL:cG K mg "_law_strand" fH ["_law_text_here"] Ir Ra
 LM:cG K mg "_law_read" jn ["_law_yard_here","_law_text_here"] Iu Rb
 A3:cG K mg "_law_told" jo ["_law_yard_here","_law_text_here"] Iv Rc
 EA:cG K mg "_law_wanted" fI ["_law_yard_here","_law_text_here"] Iw Rf
 Rh:cG K mg "law" q8 ["_law_script"] Iy Rg
 oZ:mg "NoText"=some (.ref aq)
 mC:mg "MeetError"=some (.ref aS)
 Gz:mg "NoCut"=some (.ref fo)
 DC:mg "NoDeed"=some (.ref eA)
 vO:mg "NoDrawing"=some (.ref cf)
 DD:mg "NoName"=some (.ref eB)
 A4:mg "NoPaper"=some (.ref dj)
 GA:mg "NoRow"=some (.ref fq)
 DE:mg "NoWord"=some (.ref eE)
 DF:mg "NoYard"=some (.ref eF)
 xN:mg "NotApart"=some (.ref cJ)
 A5:mg "NotLone"=some (.ref dk)
 A6:mg "TooLong"=some (.ref dq)
 GB:mg "Twice"=some (.ref ft)
 dJ:XC K aq
 r_NoText:PySem.W.mroIn K aq (.ref aS)=some true
 vP:XC K aS
 vQ:Hx K aq dI
 DG:B1 K "__init__" "NoText.__init__" eO dI i7
 vR:Binds K i7 ["self","row"] []
 n_NoText_row:wI K aq "row"
 xb:Hy K aS
 k_NoText_NoCut:PySem.W.kitOne K (.ref aq) (.ref fo)=some false
 k_NoText_NoDeed:PySem.W.kitOne K (.ref aq) (.ref eA)=some false
 k_NoText_NoDrawing:PySem.W.kitOne K (.ref aq) (.ref cf)=some false
 k_NoText_NoName:PySem.W.kitOne K (.ref aq) (.ref eB)=some false
 k_NoText_NoPaper:PySem.W.kitOne K (.ref aq) (.ref dj)=some false
 k_NoText_NoRow:PySem.W.kitOne K (.ref aq) (.ref fq)=some false
 k_NoText_NoWord:PySem.W.kitOne K (.ref aq) (.ref eE)=some false
 k_NoText_NoYard:PySem.W.kitOne K (.ref aq) (.ref eF)=some false
 k_NoText_NotApart:PySem.W.kitOne K (.ref aq) (.ref cJ)=some false
 k_NoText_NotLone:PySem.W.kitOne K (.ref aq) (.ref dk)=some false
 k_NoText_TooLong:PySem.W.kitOne K (.ref aq) (.ref dq)=some false
 k_NoText_Twice:PySem.W.kitOne K (.ref aq) (.ref ft)=some false
 k_NoText_NoText:PySem.W.kitOne K (.ref aq) (.ref aq)=some true
 k_NoText_ValueError:PySem.W.kitOne K (.ref aq) (.type "ValueError")=some true
 z_ValueError:mg "ValueError"=none
 z_enumerate:mg "enumerate"=none
 z_int:mg "int"=none
 z_isinstance:mg "isinstance"=none
 z_len:mg "len"=none
 z_list:mg "list"=none
 z_max:mg "max"=none
 z_min:mg "min"=none
 z_range:mg "range"=none
 z_repr:mg "repr"=none
 z_sorted:mg "sorted"=none
 z_str:mg "str"=none
 z_tuple:mg "tuple"=none
 z_zip:mg "zip"=none
 g_CORD: ∃t,mg "CORD"=some (.str (S [99,111,114,100]) t)
 g_NO_LETTERS: ∃t,mg "NO_LETTERS"=some (.str (S [45]) t)
 g_BAND: ∃t,mg "BAND"=some (.str (S [98,97,110,100]) t)
theorem fh:aW ["yard","text","at","sign"] ["yard","text"] (ai cA):=⟨rfl,rfl,rfl,by decide+kernel,rfl,by decide+kernel,by decide+kernel⟩
theorem DH:aW ["yard"] ["yard"] (ai jg):=⟨rfl,rfl,rfl,by decide+kernel,rfl,by decide+kernel,by decide+kernel⟩
theorem cR:aW ["words","band","found","cord","word","place","letter"] ["words","band"] (ai de):=⟨rfl,rfl,rfl,by decide+kernel,rfl,by decide+kernel,by decide+kernel⟩
theorem fP:aW ["strand","cord","place"] ["strand"] (ai cQ):=⟨rfl,rfl,rfl,by decide+kernel,rfl,by decide+kernel,by decide+kernel⟩
theorem kI:aW ["yard","row","parts"] ["yard","row"] (ai dS):=⟨rfl,rfl,rfl,by decide+kernel,rfl,by decide+kernel,by decide+kernel⟩
theorem eX:aW ["yard","rows","words","row","word"] ["yard","rows"] (ai df):=⟨rfl,rfl,rfl,by decide+kernel,rfl,by decide+kernel,by decide+kernel⟩
theorem eY:aW ["words","band","row","strands","strand","parts"] ["words","band","row"] (ai dh):=⟨rfl,rfl,rfl,by decide+kernel,rfl,by decide+kernel,by decide+kernel⟩
theorem bJ:aW ["yard","text","rows","words","orders","row","band","order"] ["yard","text"] (ai cB):=⟨rfl,rfl,rfl,by decide+kernel,rfl,by decide+kernel,by decide+kernel⟩
theorem kJ:aW ["_law_script","_law_k","_law_cell","_law_seed"] ["_law_script","_law_k"] (ai lU):=⟨rfl,rfl,rfl,by decide+kernel,rfl,by decide+kernel,by decide+kernel⟩
theorem o4:aW ["_law_box_here","_law_many","_law_digit","_law_one"] ["_law_box_here","_law_many"] (ai jh):=⟨rfl,rfl,rfl,by decide+kernel,rfl,by decide+kernel,by decide+kernel⟩
theorem lV:aW ["_law_letter","_law_small","_law_capital"] ["_law_letter"] (ai gX):=⟨rfl,rfl,rfl,by decide+kernel,rfl,by decide+kernel,by decide+kernel⟩
theorem fe:aW ["_law_box_here","_law_few","_law_top","_law_left","_law_ends","_law_k","_law_letter","_law_found"] ["_law_box_here","_law_few","_law_top"] (ai jj):=⟨rfl,rfl,rfl,by decide+kernel,rfl,by decide+kernel,by decide+kernel⟩
theorem DI:aW ["_law_box_here","_law_yard_here","_law_top"] ["_law_box_here","_law_yard_here","_law_top"] (ai jk):=⟨rfl,rfl,rfl,by decide+kernel,rfl,by decide+kernel,by decide+kernel⟩
theorem lW:aW ["_law_box_here","_law_things","_law_left","_law_found"] ["_law_box_here","_law_things"] (ai gY):=⟨rfl,rfl,rfl,by decide+kernel,rfl,by decide+kernel,by decide+kernel⟩
theorem A7:aW ["_law_yard_here"] ["_law_yard_here"] (ai gZ):=⟨rfl,rfl,rfl,by decide+kernel,rfl,by decide+kernel,by decide+kernel⟩
theorem dU:aW ["_law_box_here","_law_yard_here","_law_words_here","_law_orders","_law_band","_law_some","_law_c","_law_word_here"] ["_law_box_here","_law_yard_here","_law_words_here"] (ai eM):=⟨rfl,rfl,rfl,by decide+kernel,rfl,by decide+kernel,by decide+kernel⟩
theorem fJ:aW ["_law_box_here","_law_yard_here","_law_left","_law_found","_law_k","_law_word_here"] ["_law_box_here","_law_yard_here"] (ai g6):=⟨rfl,rfl,rfl,by decide+kernel,rfl,by decide+kernel,by decide+kernel⟩
theorem gu:aW ["_law_words_here","_law_band","_law_found","_law_c","_law_word_here"] ["_law_words_here","_law_band"] (ai eN):=⟨rfl,rfl,rfl,by decide+kernel,rfl,by decide+kernel,by decide+kernel⟩
theorem cZ:aW ["_law_yard_here","_law_drawing_here","_law_words_here","_law_orders","_law_rows","_law_word_here","_law_band","_law_order_here","_law_row","_law_c","_law_i"] ["_law_yard_here","_law_drawing_here"] (ai jl):=⟨rfl,rfl,rfl,by decide+kernel,rfl,by decide+kernel,by decide+kernel⟩
theorem o5:aW ["_law_box_here","_law_yard_here","_law_signs","_law_letters"] ["_law_box_here","_law_yard_here"] (ai jm):=⟨rfl,rfl,rfl,by decide+kernel,rfl,by decide+kernel,by decide+kernel⟩
theorem aG:aW ["_law_box_here","_law_yard_here","_law_text_here","_law_form","_law_at","_law_sign_here","_law_some","_law_rows","_law_k","_law_j","_law_one","_law_other_here","_law_words_here","_law_i"] ["_law_box_here","_law_yard_here","_law_text_here"] (ai aC):=⟨rfl,rfl,rfl,by decide+kernel,rfl,by decide+kernel,by decide+kernel⟩
theorem fQ:aW ["_law_text_here","_law_at","_law_one","_law_other_here","_law_part","_law_bad"] ["_law_text_here"] (ai fH):=⟨rfl,rfl,rfl,by decide+kernel,rfl,by decide+kernel,by decide+kernel⟩
theorem c_:aW ["_law_yard_here","_law_text_here","_law_rows","_law_words_here","_law_word_here","_law_bad","_law_orders","_law_k","_law_band","_law_at","_law_parts","_law_order_here"] ["_law_yard_here","_law_text_here"] (ai jn):=⟨rfl,rfl,rfl,by decide+kernel,rfl,by decide+kernel,by decide+kernel⟩
theorem ff:aW ["_law_yard_here","_law_text_here","_law_found","_law_caught","e","_law_others","_law_more"] ["_law_yard_here","_law_text_here"] (ai jo):=⟨rfl,rfl,rfl,by decide+kernel,rfl,by decide+kernel,by decide+kernel⟩
theorem o6:aW ["_law_yard_here","_law_text_here","_law_due"] ["_law_yard_here","_law_text_here"] (ai fI):=⟨rfl,rfl,rfl,by decide+kernel,rfl,by decide+kernel,by decide+kernel⟩
theorem fR:aW ["_law_script","_law_box_here","_law_yard_here","_law_drawing_here","_law_good","_law_names","_law_band","_law_fresh","_law_other_here","_law_k","_law_twice","_law_bad"] ["_law_script"] (ai q8):=⟨rfl,rfl,rfl,by decide+kernel,rfl,by decide+kernel,by decide+kernel⟩
section
variable {P:Program} {w:World} {K:PySem.W.Frag} {mg:Str->Option Value} {base:Heap} {f0 f1 f2 f3 f4 f5 f6 f7 f8 f9 Gx Ii Ij Ik Gy Il Im Io Ip Iq q9 Ir Iu Iv Iw Iy aq aS fo eA cf eB dj fq eE eF cJ dk dq ft dI:Addr} {d0 d1 d2 d3 d4 d5 d6 d7 d8 d9 OU Q2 Q3 Q4 OV Q5 Q6 Q7 Q8 Q9 Q_ Ra Rb Rc Rf Rg i7:FuncData}
variable (T:Txt K mg f0 f1 f2 f3 f4 f5 f6 f7 f8 f9 Gx Ii Ij Ik Gy Il Im Io Ip Iq q9 Ir Iu Iv Iw Iy aq aS fo eA cf eB dj fq eE eF cJ dk dq ft dI d0 d1 d2 d3 d4 d5 d6 d7 d8 d9 OU Q2 Q3 Q4 OV Q5 Q6 Q7 Q8 Q9 Q_ Ra Rb Rc Rf Rg i7)
include T
theorem xP:ck P w K mg base fU 1 Ir Ra ["_law_text_here"] (oU K):=by
 refine T.LL.fn.ok fQ (fun vs H Q E h=>vz h) (fun cdv A outer s H vs Q E hr h=>?_)
 refine ⟨_,(ag (ax (i:=1) fQ.nd rfl (Or.inl rfl) (bD K rfl Qas PySem.F.slot_str_find PySem.F.type_str_find B7 (pv 0) (aa (bq [46] (by decide+kernel)) ae)))
   (ag (BM (i:=2) (j:=3) rfl fQ.nd rfl rfl (by decide) rfl rfl (aa (a_ rN (pv 0) bA (bC (pv 1))) (aa (a_ rN (pv 0) (bC (aF bQ (pv 1) au)) bA) ae)) rfl)
   (ag (cW PassesOwn.never rfl (rU K rfl (dz (aa (pv 2) (aa (pv 3) ae)))) (aP (i:=4) fQ.nd rfl (Or.inl rfl)) (ag (nI (i:=5) ["_law_sign_here"] [none] fQ.nd rfl (Or.inl rfl) (rQ (pv 4)) trivial (fun _ _ _ _=>(aP (i:=0) (by decide+kernel:List.Nodup (["_law_sign_here"]:List Str)) rfl (Or.inl rfl))) (fun _ _ _ _=>(nz (aE rP (pv 0) (bq [48,49,50,51,52,53,54,55,56,57] (by decide+kernel)) (by with_unfolding_all rfl)))) (fun _ _ _ _=>(pv 0)))
   (ag (bU (PW.pt (jz (aE qc (pv 1) au (aT _)) (jz (aE iO (pv 4) (bq [] (by decide+kernel)) (aT _)) (kQ (aE (jT K rfl hr) (pv 5) (bE ae) (aT _)))))) (aj (aR dW)) bu)
   (aj (bU (PW.pt (wB (aE iO (bH B6 (pv 4) au (fun _ _=>rfl)) (bq [48] (by decide+kernel)) (aT _)) (rn (aE qe (az fv rfl T.z_len Qap (aa (pv 4) ae)) au (aT _))))) (aj (aR dW)) bu)))))
   (aj (aR (dz (aa (bo qP rfl T.z_int boot_int (aa (pv 2) ae)) (aa (bo qP rfl T.z_int boot_int (aa (pv 3) ae)) ae)))))))),?_⟩
 obtain ⟨x,rfl,tK,q⟩:=h
 have hs:(2000000:Nat)<sizeLine:=by decide
 have wc:=tK.2
 have LN: ∀(l:List Nat),(∀c∈l,c<128)-> ∀u∈l.map (fun c=>[c]), ∀c∈u,c<128:=fun l hl u hu c hc=>by
  obtain ⟨d,hd,rfl⟩:=Qa5.mp hu
  rw[QB.mp hc]
  exact hl d hd
 have lay0: ∀u∈([]:List (List Nat)), ∀c∈u,c<128:=fun _ h=>absurd h Qam
 by_cases Ri:46∈x
 ·obtain ⟨a,b,e1,e2,e3⟩:=OR Ri
  have fW:a.length<=640:=by rw[e1,JQ]at wc;omega
  have Rj:b.length<=640:=by rw[e1,JQ,Zy]at wc;omega
  have ha8: ∀c∈a,c<128:=fun c hc=>tK.1 c (by rw[e1];exact Qbr _ hc)
  have BC: ∀c∈b,c<128:=fun c hc=>tK.1 c (by rw[e1];exact Qag _ (Zz _ hc))
  have OW:cut x none (some (a.length:Int))=a:=by rw[ow,e1,Qbm (XA _),Qbh]
  have MA:cut x (some ((a.length:Int)+1)) none=b:=by
   have g:((a.length:Int)+1)=((a.length+1:Nat):Int):=by omega
   rw[g,fL,e1]
   simp
  have yes:Cn a->Cn b-> ∀t H',H' t=some (.tup [.int (PySem.NumText.digitsVal a:Nat), .int (PySem.NumText.digitsVal b:Nat)])->ah H H'->Q (.ref t) H':=fun ca cb=>by
   have ex:x=stx (PySem.NumText.digitsVal a,PySem.NumText.digitsVal b):=by
    unfold stx
    rw[Ie ca,Ie cb]
    exact e1
   rcases q with ⟨p,ep,q⟩ | ⟨q,_⟩
   ·have:=oM (ep.symm.trans ex)
    subst this
    exact q
   ·exact absurd ex (q _)
  have no: ¬Cn a\/ ¬Cn b-> ∀H',ah H H'->Q .cK H':=fun hn=>by
   rcases q with ⟨p,ep,_⟩ | ⟨_,q⟩
   ·exfalso
    have:=AV e2 (e1.symm.trans ep)
    rcases hn with g | g
    ·exact g (by rw[this.1];exact Ig _)
    ·exact g (by rw[this.2];exact Ig _)
   ·exact q
  clear q
  refine ⟨_,rfl,rfl,x,46,rfl,rfl,?_⟩
  rw[if_pos Ri,e3]
  refine ⟨_,rfl,_,rfl,_,rfl,x,rfl,by omega,?_⟩
  rw[OW]
  refine ⟨_,rfl,_,rfl,_,_,rfl,rfl,_,rfl,x,rfl,by omega,?_⟩
  rw[MA]
  refine ⟨_,_,rfl,_,rfl,_,rfl,by show 2<=sizeLine;decide,fun t nt=>?_⟩
  have ht:=af (H:=H) (a:=t) (o:=HO.tup [.str (S a), .str (S b)])
  have s1:=ah.upd (o:=HO.tup [.str (S a), .str (S b)]) nt
  generalize upd H t (.tup [.str (S a), .str (S b)])=H1 at ht s1 ⊢
  refine ⟨t,rfl,⟨_,cU.of ht⟩,?_⟩
  refine mP (K:=K) (a:=t) (xs:=ba [a,b]) (fun i σ H'=> ∃pv bv:Option V,σ=[some (.str (S x)),some (.int a.length),some (.str (S a)),some (.str (S b)),pv,bv]/\(∀l∈[a,b].take i,Cn l)/\ah H1 H')
   ⟨none,none,rfl,fun _ h=>absurd h Qam,ah.refl _⟩ (fun i σ H' _ ⟨_,_,_,_,s⟩=>cU.of (s _ _ ht)) ?_ ?_
  ·rintro i v σ H2 hv ⟨pv,bv,rfl,Rk,s2⟩
   obtain ⟨w,hw,rfl⟩:=kz hv
   have OX:w=a\/w=b:=by
    have:=Qay hw
    simpa using this
   have v_:w.length<=640:=by rcases OX with g | g<;>rw[g]<;>assumption
   have Iz: ∀c∈w,c<128:=by rcases OX with g | g<;>rw[g]<;>assumption
   have now: ¬Cn w-> ∀H',ah H H'->Q .cK H':=fun g=>no (by rcases OX with z | z<;>rw[z]at g<;>simp[g])
   refine ⟨_,rfl,w,rfl,?_⟩
   refine gH (xs:=bX w) (fun i acc H'=>ah H2 H'/\acc=bX ((w.take i).filter fun c=>!decide (c∈[48,49,50,51,52,53,54,55,56,57]))) (by rw[aU];omega) ⟨ah.refl _,rfl⟩ ?_ ?_
   ·rintro k u acc H3 Nx hk hu fW ⟨s3,rfl⟩ nx
    obtain ⟨c,hc,rfl⟩:=eQ hu
    have e:=fb (p:=fun c=>!decide (c∈[48,49,50,51,52,53,54,55,56,57])) hc
    refine ⟨trivial,?_⟩
    refine ⟨_,rfl,c,_,rfl,rfl,_,rfl,?_⟩
    refine cn (fun z=>?_) (fun z=>?_)
    ·rw[if_pos z]at e
     exact ⟨_,rfl,nx _ _ (by simpa using fW) ⟨s3,by rw[e, <-gP]⟩⟩
    ·rw[if_neg z,Qal]at e
     exact nx _ _ (Qcj fW) ⟨s3,by rw[e]⟩
   rintro acc H3 D fW ⟨s3,rfl⟩ hD
   rw[aU,Qbh]
   generalize A8:(w.filter fun c=>!decide (c∈[48,49,50,51,52,53,54,55,56,57]))=bad
   have LO: ∀c∈bad,c<128:=fun c hc=>Iz c (by rw[<-A8]at hc;exact (Qbb.mp hc).1)
   have IB:=af (H:=H3) (a:=D) (o:=HO.lst (bX bad))
   have s4:=ah.upd (o:=HO.lst (bX bad)) hD
   generalize upd H3 D (.lst (bX bad))=H4 at IB s4 ⊢
   have GC:=s3.trans s4
   have DJ:=s1.trans (s2.trans GC)
   refine ⟨_,rfl,_,_,rfl,rfl,_,rfl,mI (decide_eq_false (by omega)) ?_⟩
   refine ⟨_,rfl,w,[],rfl,rfl,_,rfl,cn (fun z=>?_) (fun z=>?_)⟩
   ·exact now (Dt (.inl (of_decide_eq_true z))) _ DJ
   have NG:w≠[]:=fun g=>z (decide_eq_true g)
   refine ⟨_,rfl,by show 0<=sizeLine;decide,fun p5 n5=>?_⟩
   have s5:=ah.upd (o:=HO.lst []) n5
   have o7:=af (H:=H4) (a:=p5) (o:=HO.lst [])
   generalize upd H4 p5 (.lst [])=H5 at s5 o7 ⊢
   have T5:bX bad=ba (bad.map fun c=>[c]):=by unfold bX ba;rw[Qbs];rfl
   refine ⟨.list (gD (bad.map fun c=>[c])), .list (gD []), .lst (aN.of (by rw[<-T5];exact s5 _ _ IB)) (dF _), .lst (aN.of o7) .nil,⟨eh (LN bad LO),eh lay0⟩,by show PyData.depthAll (gD _)+1<=60;rw[fF];decide,?_⟩
   have ev:PyData.eqv (.list (gD (bad.map fun c=>[c]))) (.list (gD []))=decide (bad.map (fun c=>[c])=[]):=gR _ _
   rw[ev]
   have xQ:=DJ.trans s5
   refine ⟨_,rfl,cn (fun z=>?_) (fun z=>?_)⟩
   ·refine now (Dt (.inr (.inl fun g=>?_))) _ xQ
    rw[A8]at g
    rw[g]at z
    exact absurd z (by decide)
   have OY:bad=[]:=by
    by_cases g:bad=[]
    ·exact g
    ·exact absurd (by rw[decide_eq_false (by simpa using g)];rfl) z
   obtain ⟨c,u,rfl⟩: ∃c u,w=c::u:=by
    cases w with
    | nil=>exact absurd rfl NG
    | cons c u=>exact ⟨c,u,rfl⟩
   refine ⟨_,rfl,c::u,0,c,rfl,rfl,by omega,bf (xs:=c::u) (j:=0) rfl,[c],[48],rfl,rfl,_,rfl,?_⟩
   have fin: ¬((c::u)[0]? =some 48/\1<(c::u).length)-> ∃pv bv:Option V,[some (V.str (S x)),some (.int a.length),some (.str (S a)),some (.str (S b)),some (.str (S (c::u))),some (.ref D)]=[some (V.str (S x)),some (.int a.length),some (.str (S a)),some (.str (S b)),pv,bv]/\(∀l∈[a,b].take (i+1),Cn l)/\ah H1 H5:=fun g=>by
    refine ⟨_,_,rfl,fun l hl=>?_,s2.trans (GC.trans s5)⟩
    rw[<-take_snoc hw]at hl
    rcases Qaa.mp hl with z | z
    ·exact Rk l z
    ·rw[QB.mp z]
     exact Lv NG (A8.trans OY) g
   refine cn (fun z=>?_) (fun z=>?_)
   ·have hc:c=48:=by simpa using z
    refine ⟨_,rfl,c::u,rfl,by omega,_,_,rfl,rfl,_,rfl,cn (fun z=>?_) (fun z=>?_)⟩
    ·have:=of_decide_eq_true z
     exact now (Dt (.inr (.inr ⟨by rw[hc];rfl,by omega⟩))) _ xQ
    ·refine fin fun g=>z (decide_eq_true ?_)
     have:=g.2
     omega
   ·refine fin fun g=>z ?_
    have:=Qae g.1
    rw[this]
    rfl
  ·rintro σ H2 ⟨pv,bv,rfl,Rk,s2⟩
   have ca:=Rk a (by show a∈[a,b];simp)
   have cb:=Rk b (by show b∈[a,b];simp)
   refine ⟨_,rfl,a,rfl,ca.1,ca.2.1,fW,_,rfl,b,rfl,cb.1,cb.2.1,Rj,by show 2<=sizeLine;decide,fun t2 n2=>?_⟩
   exact yes ca cb t2 _ af ((s1.trans s2).trans (ah.upd n2))
 ·have no: ∀H',ah H H'->Q .cK H':=by
   rcases q with ⟨p,ep,_⟩ | ⟨_,q⟩
   ·exfalso
    apply Ri
    rw[ep]
    unfold stx
    simp
   ·exact q
  clear q
  refine ⟨_,rfl,rfl,x,46,rfl,rfl,?_⟩
  rw[if_neg Ri]
  have cl1:=mV x none (some (-1))
  refine ⟨_,rfl,_,rfl,_,rfl,x,rfl,by omega,?_⟩
  generalize cut x none (some (-1))=w at cl1 ⊢
  refine ⟨_,rfl,_,rfl,_,_,rfl,rfl,_,rfl,x,rfl,by omega,?_⟩
  generalize cut x (some (-1+1)) none=w2
  refine ⟨_,_,rfl,_,rfl,_,rfl,by show 2<=sizeLine;decide,fun t nt=>?_⟩
  have ht:=af (H:=H) (a:=t) (o:=HO.tup [.str (S w), .str (S w2)])
  have s1:=ah.upd (o:=HO.tup [.str (S w), .str (S w2)]) nt
  generalize upd H t (.tup [.str (S w), .str (S w2)])=H1 at ht s1 ⊢
  refine ⟨t,rfl,⟨_,cU.of ht⟩,?_⟩
  refine mP (K:=K) (a:=t) (xs:=ba [w,w2]) (fun i σ H'=>i=0/\σ=[some (.str (S x)),some (.int (-1)),some (.str (S w)),some (.str (S w2)),none,none]/\H'=H1)
   ⟨rfl,rfl,rfl⟩ (fun i σ H' _ ⟨_,_,e⟩=>by rw[e];exact cU.of ht) ?_ ?_
  ·rintro i v σ H2 hv ⟨rfl,rfl,rfl⟩
   have ev:v= .str (S w):=(Qae hv).symm
   subst ev
   refine ⟨_,rfl,w,rfl,?_⟩
   refine gH (xs:=bX w) (fun i acc H'=>ah H2 H'/\acc=bX ((w.take i).filter fun c=>!decide (c∈[48,49,50,51,52,53,54,55,56,57]))) (by rw[aU];omega) ⟨ah.refl _,rfl⟩ ?_ ?_
   ·rintro k u acc H3 Nx hk hu fW ⟨s3,rfl⟩ nx
    obtain ⟨c,hc,rfl⟩:=eQ hu
    have e:=fb (p:=fun c=>!decide (c∈[48,49,50,51,52,53,54,55,56,57])) hc
    refine ⟨trivial,?_⟩
    refine ⟨_,rfl,c,_,rfl,rfl,_,rfl,?_⟩
    refine cn (fun z=>?_) (fun z=>?_)
    ·rw[if_pos z]at e
     exact ⟨_,rfl,nx _ _ (by simpa using fW) ⟨s3,by rw[e, <-gP]⟩⟩
    ·rw[if_neg z,Qal]at e
     exact nx _ _ (Qcj fW) ⟨s3,by rw[e]⟩
   rintro acc H3 D fW ⟨s3,rfl⟩ hD
   refine ⟨_,rfl,_,_,rfl,rfl,_,rfl,ou (decide_eq_true (by decide)) ?_⟩
   exact no _ ((s1.trans s3).trans (ah.upd hD))
  ·rintro σ H2 ⟨e,_⟩
   cases e
theorem o8:ck P w K mg base fU 1 f3 d3 ["strand"] (i5 K):=by
 refine T.F3.fn.ok fP (fun vs H Q E h=>mJ h) (fun cdv A outer s H vs Q E hr h=>?_)
 refine ⟨_,(ag (ax (i:=1) fP.nd rfl (Or.inl rfl) (bH (yB K rfl) (pv 0) au (fun _ _=>rfl)))
   (ag (ax (i:=2) fP.nd rfl (Or.inl rfl) (bH (yB K rfl) (pv 0) au (fun _ _=>rfl)))
   (aj (aR (FE 46 (by decide+kernel) (pv 1) (pv 2)))))),?_⟩
 obtain ⟨p,rfl,hp,q⟩:=h
 have QC:=hp.cz
 have Yb:=hp.iz
 have TJ:(dg p.c).length<=3:=zk _ QC
 have Yp:(dg p.i).length<=3:=zk _ Yb
 refine ⟨_,rfl,p.t,_,0,_,rfl,rfl,cU.of hp.tp,rfl,?_⟩
 refine ⟨_,rfl,p.t,_,1,_,rfl,rfl,cU.of hp.tp,rfl,?_⟩
 exact ⟨_,rfl,p.c,rfl,by omega,by omega,_,rfl,p.i,rfl,by omega,by omega,q⟩
theorem mK:ck P w K mg base fU 1 f0 d0 ["yard","text"] (iB K):=by
 refine T.F0.fn.ok fh (fun vs H Q E h=>lQ h) (fun cdv A outer s H vs Q E hr h=>?_)
 refine ⟨_,(ag (cW PassesOwn.never rfl (kg rfl T.z_enumerate (aa (pv 1) ae)) (dN (n:=2) K rfl rfl (bb (aP (i:=2) fh.nd rfl (Or.inl rfl)) (bb (aP (i:=3) fh.nd rfl (Or.inl rfl)) dM))) (aj (bU (aE rP (pv 3) (pv 0) (by with_unfolding_all rfl)) (aj (aR (pv 2))) bu)))
   (aj (aR dW))),?_⟩
 obtain ⟨y,w,rfl,q⟩:=h
 refine ⟨_,rfl,w,rfl,?_⟩
 refine uq (fun i σ H'=> ∃av sv:Option V,σ=[some (.str (S y)),some (.str (S w)),av,sv]/\(∀d∈w.take i,d∈y)/\ah H H') ⟨none,none,rfl,fun _ h=>by simp at h,ah.refl H⟩ ?_ ?_
 ·rintro i c σ H1 T hc ⟨av,sv,rfl,hy,s1⟩ nT
  refine ⟨T,_,rfl,cU.of af,rfl,_,_,rfl,_,_,rfl,rfl,?_⟩
  refine ⟨_,rfl,_,rfl,c,y,rfl,rfl,_,rfl,cn (fun z=>?_) (fun z=>?_)⟩
  ·have hn:c∉y:=by simpa using z
   refine ⟨_,rfl,?_⟩
   rw[Dh hc hn hy]at q
   exact q _ (s1.trans (ah.upd nT))
  ·have hn:c∈y:=by simpa using z
   refine ⟨_,_,rfl,fun d hd=>?_,s1.trans (ah.upd nT)⟩
   rw[Qdm,hc]at hd
   rcases Qaa.mp hd with g | g
   ·exact hy d g
   ·rw[QB.mp g];exact hn
 ·rintro σ H1 ⟨av,sv,rfl,hy,s1⟩
  rw[sZ (y:=y) (l:=w) (by rw[Qbh]at hy;exact hy)]at q
  exact q _ s1
theorem tL:ck P w K mg base fU 2 f4 d4 ["yard","row"] (kC K):=by
 have o9:=mK (P:=P) (w:=w) (base:=base) T
 refine T.F4.fn.ok kI (fun vs H Q E h=>pP h) (fun cdv A outer s H vs Q E hr h=>?_)
 refine ⟨_,(ag (ax (i:=2) kI.nd rfl (Or.inl rfl) (bD K rfl Qas Qb8 Qb7 (fA 32) (pv 1) (aa (bq [32] (by decide+kernel)) ae)))
   (ag (bU (PW.pt (jz (aE J0 (az (aw K rfl) rfl T.z_len Qap (aa (pv 2) ae)) au (aT _)) (jz (aE rS (bH (aO K rfl) (pv 2) au (fun _ _=>rfl)) (Cf [99,111,114,100] rfl T.g_CORD) (aT _)) (kQ (aE iO (bH (aO K rfl) (pv 2) au (fun _ _=>rfl)) (bq [] (by decide+kernel)) (aT _)))))) (aj (aR dW)) bu)
   (ag (bU (aE iO (bH (aO K rfl) (pv 2) au (fun _ _=>rfl)) (Cf [45] rfl T.g_NO_LETTERS) (aT _)) (aj (aR (bq [] (by decide+kernel)))) bu)
   (ag (bU (aE EM (aB o9 (hr.mono (by decide)) rfl T.F0.mg T.F0.fn.kp T.F0.bd .nil aX (aa (pv 0) (aa (bH (aO K rfl) (pv 2) au (fun _ _=>rfl)) ae))) dW (aT _)) (aj (aR dW)) bu)
   (aj (aR (bH (aO K rfl) (pv 2) au (fun _ _=>rfl)))))))),?_⟩
 obtain ⟨y,row,rfl,hl,q⟩:=h
 have hs:(2000000:Nat)<sizeLine:=by decide
 refine ⟨_,rfl,rfl,_,rfl,rfl,by omega,fun p np=>?_⟩
 unfold dG at q
 have GD:=(dH (c:=32) row).2
 generalize bY 32 row=cD at q GD ⊢
 have hp:upd H p (.lst (cD.map fun l=>V.str (S l))) p=some (.lst (ba cD)):=af
 have s1:=ah.upd (o:= .lst (cD.map fun l=>V.str (S l))) np
 generalize upd H p (.lst (cD.map fun l=>V.str (S l)))=H1 at hp s1 ⊢
 refine ⟨_,rfl,p,_,rfl, .inl (aN.of hp),_,_,rfl,rfl,_,rfl,cn (fun e=>?_) (fun e=>?_)⟩
 ·have hn:cD.length≠2:=fun z=>by rw[ay,z]at e;exact absurd e (by decide)
  rw[Dq hn]at q
  exact q _ s1
 ·have hn:cD.length=2:=by
   by_cases z:cD.length=2
   ·exact z
   ·exfalso
    apply e
    rw[ay]
    simp
    omega
  obtain ⟨a,w,rfl⟩: ∃a w,cD=[a,w]:=by
   match cD,hn with
   | [a,w],_=>exact ⟨a,w,rfl⟩
  rw[AN]at q
  ·skip
   refine ⟨_,rfl,p,_,0,_,rfl,rfl,aN.of hp,rfl,_,_,rfl,rfl,_,rfl,cn (fun e=>?_) (fun e=>?_)⟩
   ·have ha:a≠cw:=fun z=>by rw[z]at e;exact absurd e (by decide)
    have q':=q
    simp only[ha,false_and,if_false]at q'
    exact q' _ s1
   ·have ha:a=cw:=by
     by_cases z:a=cw
     ·exact z
     ·exact absurd (by simpa [cw]using z) e
    refine ⟨_,rfl,p,_,1,_,rfl,rfl,aN.of hp,rfl,_,_,rfl,rfl,_,rfl,cn (fun e2=>?_) (fun e2=>?_)⟩
    ·have hw:w=[]:=by simpa using e2
     have q':=q
     simp only[hw,ne_eq,not_true_eq_false,and_false,if_false]at q'
     exact q' _ s1
    ·have hw:w≠[]:=by simpa using e2
     have q2:=q
     simp only[ha,hw,ne_eq,not_false_eq_true,and_true,if_true]at q2
     refine ⟨_,rfl,p,_,1,_,rfl,rfl,aN.of hp,rfl,_,_,rfl,rfl,_,rfl,cn (fun e3=>?_) (fun e3=>?_)⟩
     ·have h3:w=[45]:=of_decide_eq_true e3
      simp only[h3,if_true]at q2
      exact q2 _ s1
     ·have h3:w≠[45]:=fun z=>e3 (decide_eq_true z)
      simp only[h3,if_false]at q2
      refine ⟨_,rfl,_,rfl,p,_,1,_,rfl,rfl,aN.of hp,rfl,y,w,rfl,fun H2 s2=>?_⟩
      cases ef:sW y w with
      | none=>
       rw[ef]at q2
       refine ⟨rfl,_,rfl,mI rfl ?_⟩
       exact ⟨_,rfl,p,_,1,_,rfl,rfl,aN.of (s2 _ _ hp),rfl,q2 _ (s1.trans s2)⟩
      | some i=>
       rw[ef]at q2
       refine ⟨rfl,_,rfl,ou rfl ?_⟩
       exact q2 _ (s1.trans s2)
theorem pR:ck P w K mg base fU 3 f5 d5 ["yard","rows"] (jK K):=by
 have vS:=tL (P:=P) (w:=w) (base:=base) T
 refine T.F5.fn.ok eX (fun vs H Q E h=>oR h) (fun cdv A outer s H vs Q E hr h=>?_)
 refine ⟨_,(ag (ax (i:=2) eX.nd rfl (Or.inl rfl) (bE ae))
   (ag (cW PassesOwn.never rfl (iP K rfl (pv 1)) (aP (i:=3) eX.nd rfl (Or.inl rfl)) (ag (ax (i:=4) eX.nd rfl (Or.inl rfl) (aB vS (hr.mono (by decide)) rfl T.F4.mg T.F4.fn.kp T.F4.bd .nil aX (aa (pv 0) (aa (pv 3) ae))))
   (ag (bU (aE wG (pv 4) dW (aT _)) (aj BL) bu)
   (aj (da (bD K rfl Qa3 Qbl Qbk cO (pv 2) (aa (pv 4) ae)))))))
   (aj (aR (bo (bz K rfl) rfl T.z_tuple boot_tuple (aa (pv 2) ae)))))),?_⟩
 obtain ⟨y,p,rs,rfl,hp,xR,hrz,q⟩:=h
 have hs:(2000000:Nat)<sizeLine:=by decide
 refine ⟨by show 0<=sizeLine;decide,fun p1 n1=>?_⟩
 have Ep:p≠p1:=ak hp n1
 refine ⟨_,rfl,p,rfl,⟨_,aN.of (ah.upd n1 _ _ hp)⟩,?_⟩
 refine nh (K:=K) (a:=p) (xs:=ba rs) (fun i σ H'=> ∃(rv wv:Option V) (ws:List (List Nat)),σ=[some (.str (S y)),some (.ref p),some (.ref p1),rv,wv]/\ws.length=i/\fZ y rs=ws++fZ y (rs.drop i)/\H' p1=some (.lst (ba ws))/\H' p=some (.lst (ba rs))/\aI p1 H H')
  ⟨none,none,[],rfl,rfl,rfl,af,ah.upd n1 _ _ hp,aI.of (ah.upd n1)⟩ (fun i σ H' _ ⟨_,_,_,_,_,_,_,h,_⟩=>aN.of h) ?_ ?_
 ·rintro i x σ H2 hx ⟨rv,wv,ws,rfl,hi,pS,eL,ij,s2⟩
  obtain ⟨r,T6,rfl⟩:=kz hx
  have E_:=(Xy.mp T6).1
  have DK:=hrz r (Qay T6)
  rw[Qa7 E_,(Xy.mp T6).2]at pS
  refine ⟨_,rfl,_,rfl,y,r,rfl,DK,fun H3 s3=>?_⟩
  cases ec:dG y r with
  | some w=>
   have LP:fZ y rs=ws++w::fZ y (rs.drop (i+1)):=by rw[oN ec]at pS;exact pS
   refine ⟨_,rfl,rfl,_,rfl,mI rfl ?_⟩
   refine ⟨_,rfl, .inl ⟨rfl,_,aN.of (s3 _ _ eL)⟩,_,rfl,p1,_,_,rfl,rfl,s3 _ _ eL,by rw[ay];omega,?_⟩
   refine ⟨_,_,ws++[w],rfl,by rw[JQ,hi];rfl,by rw[LP,Xz];rfl,by rw[af];exact congrArg (fun x=>some (HO.lst x)) (i4 ws w),by rw[ao Ep];exact s3 _ _ ij,fun c o e z=>by rw[ao z];exact s3 _ _ (s2 c o e z)⟩
  | none=>
   have LP:fZ y rs=ws:=by rw[kA ec]at pS;exact pS.trans (Qal _)
   refine ⟨_,rfl,rfl,_,rfl,ou rfl ?_⟩
   refine ⟨_,rfl,p1,_,rfl, .inl ⟨aN.of (s3 _ _ eL),fun t nt=>?_⟩⟩
   have sH:ah H H3:=fun c o e=>s3 _ _ (s2 c o e (ak e n1))
   exact q t _ (sH.free nt) (by rw[LP];exact af) (sH.trans (ah.upd nt))
 ·rintro σ H2 ⟨rv,wv,ws,rfl,hi,pS,eL,ij,s2⟩
  have e0:fZ y (rs.drop (ba rs).length)=[]:=by rw[ay,Qd4];rfl
  rw[e0,Qal]at pS
  refine ⟨_,rfl,p1,_,rfl, .inl ⟨aN.of eL,fun t nt=>?_⟩⟩
  have sH:ah H H2:=fun c o e=>s2 c o e (ak e n1)
  exact q t _ (sH.free nt) (by rw[pS];exact af) (sH.trans (ah.upd nt))
theorem DL:ck P w K mg base fU 1 f1 d1 ["yard"] (vg K):=by
 refine T.F1.fn.ok DH (fun vs H Q E h=>AA h) (fun cdv A outer s H vs Q E hr h=>?_)
 refine ⟨_,(aj (aR (bD K rfl Qas Qc6 Qc5 (uk K rfl) (bq [] (by decide+kernel)) (aa (az (ki K rfl) rfl T.z_sorted boot_sorted (aa (iN ["letter"] [none] (rQ (pv 0)) trivial (fun _ _ _ _=>(aP (i:=0) (by decide+kernel:List.Nodup (["letter"]:List Str)) rfl (Or.inl rfl))) (fun _ _ _ _=>(nz (iI (yD K rfl Qas PySem.F.slot_str_islower PySem.F.type_str_islower wX (pv 0))))) (fun _ _ _ _=>(pv 0))) ae)) ae)))),?_⟩
 obtain ⟨l,rfl,hl,hz,q⟩:=h
 have hs:(1000:Nat)<sizeLine:=by decide
 refine ⟨rfl,_,rfl,l,rfl,?_⟩
 refine gH (xs:=bX l) (fun i acc H'=>ah H H'/\acc=bX ((l.take i).filter cM)) (by rw[aU];omega) ⟨ah.refl H,rfl⟩ ?_ ?_
 ·rintro i x acc H1 Nx hi hx fW ⟨s1,rfl⟩ nx
  obtain ⟨c,hc,rfl⟩:=eQ hx
  have e:=fb (p:=cM) hc
  refine ⟨trivial,?_⟩
  refine ⟨_,rfl,rfl,c,rfl,rfl,hl c (Qay hc),_,rfl,?_⟩
  refine cn (fun z=>?_) (fun z=>?_)
  ·rw[if_pos z]at e
   exact ⟨_,rfl,nx _ _ (by simpa using fW) ⟨s1,by rw[e, <-gP]⟩⟩
  ·rw[if_neg z,Qal]at e
   exact nx _ _ (Qcj fW) ⟨s1,by rw[e]⟩
 ·rintro acc H1 D fW ⟨s1,rfl⟩ hD
  rw[ve,jd]
  have Mz:(l.filter cM).length<=l.length:=Qcr _ _
  refine ⟨D,(l.filter cM).map fun c=>[c],rfl,aN.of af,by rw[kb];omega,fun p ls hp lK wy=>?_⟩
  obtain ⟨l',rfl,pl⟩:=yG lK
  have Ee:=pl.length_eq
  refine ⟨p,l'.map fun c=>[c],rfl,rfl,aN.of af,by rw[Lk];omega,?_⟩
  rw[Dc]
  exact q l' _ pl (yH wy) ((s1.trans (ah.upd hD)).trans (ah.upd hp))
theorem pU:ck P w K mg base fU 1 f2 d2 ["words","band"] (jJ K):=by
 refine T.F2.fn.ok cR (fun vs H Q E h=>oQ h) (fun cdv A outer s H vs Q E hr h=>?_)
 refine ⟨_,(ag (ax (i:=2) cR.nd rfl (Or.inl rfl) (bE ae))
   (ag (cW PassesOwn.never rfl (uv K rfl rfl T.z_enumerate (aa (pv 0) ae)) (dN (n:=2) K rfl rfl (bb (aP (i:=3) cR.nd rfl (Or.inl rfl)) (bb (aP (i:=4) cR.nd rfl (Or.inl rfl)) dM))) (aj (cW PassesOwn.never rfl (kg rfl T.z_enumerate (aa (pv 4) ae)) (dN (n:=2) K rfl rfl (bb (aP (i:=5) cR.nd rfl (Or.inl rfl)) (bb (aP (i:=6) cR.nd rfl (Or.inl rfl)) dM))) (aj (bU (aE iO (yD K rfl Qas PySem.F.slot_str_lower PySem.F.type_str_lower B8 (pv 6)) (pv 1) (aT _)) (aj (da (bD K rfl Qa3 Qbl Qbk cO (pv 2) (aa (dz (aa (pv 3) (aa (pv 5) ae))) ae)))) bu)))))
   (aj (aR (pv 2))))),?_⟩
 obtain ⟨wt,ws,band,rfl,pA,hf,hw,hb,q⟩:=h
 have hs:(2000000:Nat)<sizeLine:=by decide
 walk_at "wk"
 intro p1 n1
 refine ⟨_,rfl,wt,rfl,⟨_,cU.of ((ah.upd n1) _ _ pA)⟩,?_⟩
 refine qD (K:=K) (a:=wt) (xs:=ba ws) (fun j σ H'=> ∃(ps:List Pr) (cv wv pv lv:Option V),σ=[some (.ref wt),some (.str (S [band])),some (.ref p1),cv,wv,pv,lv]/\H' p1=some (.lst (iF ps))/\(∀p∈ps,gQ H' p)/\ps.map Pr.pair=aK band ws j/\ps.length<=700*j/\ah H H')
  ⟨[],none,none,none,none,rfl,af,fun _ h=>absurd h Qam,rfl,Qaq _,ah.upd n1⟩ (fun j σ H' _ ⟨_,_,_,_,_,_,_,_,_,_,h⟩=>cU.of (h _ _ pA)) ?_ ?_
 ·rintro j x σ H1 T hx ⟨ps,cv,wv,pv,lv,rfl,hp,kL,iE,fu,s1⟩ nT
  have hj:j<ws.length:=by
   have:=(Xy.mp hx).1
   rwa [ay]at this
  rw[sS hj]at hx
  cases hx
  have IC:ws[j]? =some ws[j]:=Mn hj
  obtain ⟨v_,MB⟩:=hw _ (Qa4 hj)
  generalize ws[j]=w at IC v_ MB ⊢
  refine ⟨T,_,rfl,cU.of af,rfl,_,_,rfl,_,_,rfl,rfl,?_⟩
  have sT:=ah.upd (o:= .tup [.int j, .str (S w)]) nT
  refine ⟨_,rfl,w,rfl,?_⟩
  refine uq (l:=w) (fun m σ H'=> ∃(us:List Pr) (pv lv:Option V),σ=[some (.ref wt),some (.str (S [band])),some (.ref p1),some (.int j),some (.str (S w)),pv,lv]/\H' p1=some (.lst (iF us))/\(∀p∈us,gQ H' p)/\us.map Pr.pair=aK band ws j++du band j w m/\us.length<=700*j+m/\ah H H')
   ⟨ps,pv,lv,rfl,sT _ _ hp,fun p lB=>(kL p lB).same sT,by rw[iE];show _=_++[];rw[Qal],by omega,s1.trans sT⟩ ?_ ?_
  ·rintro m l σ H2 T2 hm ⟨us,pv2,lv2,rfl,ij,Rl,Rm,hul,s2⟩ OZ
   have YE:m<w.length:=(Xy.mp hm).1
   have T7:=v_ l (Qay hm)
   have es:=jV (band:=band) (c:=j) hm
   have Rn:=ah.upd (o:= .tup [.int m, .str (S [l])]) OZ
   refine ⟨T2,_,rfl,cU.of af,rfl,_,_,rfl,_,_,rfl,rfl,?_⟩
   refine ⟨_,rfl,rfl,l,rfl,rfl,T7.lt,_,rfl,[PyProof.Rows.lo1 l],[band],rfl,rfl,_,rfl,?_⟩
   have ev:decide ([PyProof.Rows.lo1 l]=[band])=AB band l:=by rw[<-Lo hb T7];simp
   rw[ev]
   have LQ:=Rn _ _ ij
   refine cn (fun z=>?_) (fun z=>?_)
   ·rw[if_pos z]at es
    refine ⟨_,rfl, .inl ⟨rfl,_,aN.of LQ⟩,_,rfl,_,rfl,by show 2<=sizeLine;decide,fun t nt=>?_⟩
    have kM:=(ah.upd (o:= .tup [.int j, .int m]) nt) _ _ LQ
    have s3:=Rn.trans (ah.upd (o:= .tup [.int j, .int m]) nt)
    refine ⟨p1,_,_,rfl,rfl,kM,by rw[gp];omega,?_⟩
    refine ⟨us++[⟨t,j,m⟩],_,_,rfl,by rw[af];exact congrArg (fun x=>some (HO.lst x)) (kq us ⟨t,j,m⟩),fun p lB=>?_,by rw[Qar,Rm,es,Xz];rfl,by rw[JQ];show us.length+1<=_;omega,fun a o ea=>by rw[ao (ak ea n1)];exact s3 _ _ (s2 a o ea)⟩
    rcases Qaa.mp lB with g | g
    ·exact ((Rl p g).same s3).ts (bF.pH kM)
    ·have e2:=QB.mp g
     subst e2
     exact gQ.ts (H:=upd (upd H2 T2 (.tup [.int m, .str (S [l])])) t (.tup [.int j, .int m])) ⟨af,by show j<1000;omega,by show m<1000;omega⟩ (bF.pH kM)
   ·rw[if_neg z,Qal]at es
    exact ⟨us,_,_,rfl,LQ,fun p lB=>(Rl p lB).same Rn,by rw[Rm,es],by omega,s2.trans Rn⟩
  ·rintro σ H2 ⟨us,pv2,lv2,rfl,ij,Rl,Rm,hul,s2⟩
   exact ⟨us,_,_,_,_,rfl,ij,Rl,by rw[Rm,cY IC],by omega,s2⟩
 ·rintro σ H1 ⟨ps,cv,wv,pv,lv,rfl,hp,kL,iE,fu,s1⟩
  rw[ay]at iE
  exact ⟨_,rfl,q p1 ps H1 n1 hp kL iE s1⟩
theorem pV:ck P w K mg base fU 2 f6 d6 ["words","band","row"] (jL K):=by
 have tM:=pU (P:=P) (w:=w) (base:=base) T
 have pW:=o8 (P:=P) (w:=w) (base:=base) T
 refine T.F6.fn.ok eY (fun vs H Q E h=>oS h) (fun cdv A outer s H vs Q E hr h=>?_)
 refine ⟨_,(ag (ax (i:=3) eY.nd rfl (Or.inr rfl) Cs)
   (ag (cW PassesOwn.never rfl (iP K rfl (aB tM (hr.mono (by decide)) rfl T.F2.mg T.F2.fn.kp T.F2.bd .nil aX (aa (pv 0) (aa (pv 1) ae)))) (aP (i:=4) eY.nd rfl (Or.inl rfl)) (aj (Ff (Hk hr) (pv 3) (aB pW (hr.mono (by decide)) rfl T.F3.mg T.F3.fn.kp T.F3.bd .nil aX (aa (pv 4) ae)) (pv 4) rfl)))
   (ag (ax (i:=5) eY.nd rfl (Or.inl rfl) (bD K rfl Qas Qb8 Qb7 (fA 32) (pv 2) (aa (bq [32] (by decide+kernel)) ae)))
   (ag (bU (PW.pt (jz (aE (jT K rfl hr) (a_ (gI K rfl) (pv 5) bA (bC au)) (bE (aa (Cf [98,97,110,100] rfl T.g_BAND) (aa (pv 1) ae))) (aT _)) (kQ (aE (jT K rfl hr) (az (pM K rfl) rfl T.z_sorted boot_sorted (aa (a_ (gI K rfl) (pv 5) (bC au) bA) ae)) (az (pN rfl) rfl T.z_sorted boot_sorted (aa (pv 3) ae)) (aT _))))) (aj (aR dW)) bu)
   (aj (aR (bo (bz K rfl) rfl T.z_tuple boot_tuple (aa (iN ["part","strands"] [none,some 3] (iP K rfl (a_ (gI K rfl) (pv 5) (bC au) bA)) ⟨⟨rfl,rfl,by first | exact .inl rfl | exact .inr rfl⟩,trivial⟩ (fun _ _ _ _=>(aP (i:=0) (by decide+kernel:List.Nodup (["part","strands"]:List Str)) rfl (Or.inl rfl))) (fun _ _ _ _=>wR) (fun _ _ _ _=>(Fe (Hk hr) (pv 1) (pv 0) (fun _ _=>rfl)))) ae)))))))),?_⟩
 obtain ⟨wt,ws,b,row,rfl,pA,hw,hb,tK,q⟩:=h
 have hs:(2000000:Nat)<sizeLine:=by decide
 have O0:Lt b:= .inl hb
 have GD:=hw.str b
 intro d nd
 have sd:=ah.upd (o:=HO.dK []) nd
 refine ⟨_,rfl,_,rfl,wt,ws,b,rfl,sd _ _ pA,hw.iT,hw.all,hb,fun qa ss H2 nq hq BD iE s2=>?_⟩
 have hd2:H2 d=some (.dK []):=s2 _ _ af
 have YF:qa≠d:=fun z=>by rw[z,af]at nq;cases nq
 have aak:ss.length<=700:=by have:=congrArg List.length iE;rw[kb]at this;omega
 have FQ:(ss.map Pr.pair).Nodup:=by rw[iE];exact AK _ _ _
 refine ⟨qa,rfl,⟨_,aN.of hq⟩,?_⟩
 refine nh (K:=K) (a:=qa) (xs:=iF ss) (fun i σ H'=> ∃sv:Option V,σ=[some (.ref wt),some (.str (S [b])),some (.str (S row)),some (.ref d),sv,none]/\H' d=some (.dK (Dm (ss.take i)))/\aI d H2 H')
  ⟨none,rfl,hd2,aI.refl _ _⟩ (fun i σ H' _ ⟨_,_,_,s3⟩=>aN.of (s3 _ _ hq YF)) ?_ ?_
 ·rintro i x σ H3 hx ⟨sv,rfl,BE,s3⟩
  obtain ⟨p,hp,rfl⟩:=Df hx
  have hm:=Qay hp
  have hi:=(Xy.mp hp).1
  have zy:p.t≠d:=fun z=>by have:=(BD p hm).tp;rw[z,hd2]at this;cases this
  have T8:p.pair∉(ss.take i).map Pr.pair:=fun z=>by
   have e:(ss.map Pr.pair)[i]? =some p.pair:=by rw[Qau,hp];rfl
   rw[Qdz]at z
   have h1:=(Xy.mp e)
   obtain ⟨j,hj,e2⟩:=Qei z
   rw[Qab]at hj
   rw[List.getElem_take]at e2
   have:=(List.getElem_inj FQ).mp (e2.trans h1.2.symm)
   omega
  refine ⟨_,rfl,_,rfl,_,rfl,p,rfl,⟨s3 _ _ (BD p hm).tp zy,(BD p hm).cz,(BD p hm).iz⟩,d,_,rfl,Cq.k (k:=sk p.pair) BE (by unfold Dm;rw[kb,Qab];omega),?_⟩
  refine ⟨_,rfl,?_,fun c o e z=>by rw[ao z];exact s3 c o e z⟩
  rw[af,Ck _ (AQ T8), <-take_snoc hp]
  unfold Dm
  rw[Qar]
  rfl
 rintro σ H3 ⟨sv,rfl,BE,s3⟩
 rw[gp,Qbh]at BE
 have T9: ∀p∈ss,gQ H3 p:=fun p hm=>⟨s3 _ _ (BD p hm).tp (fun z=>by have:=(BD p hm).tp;rw[z,hd2]at this;cases this),(BD p hm).cz,(BD p hm).iz⟩
 have tX:ah H H3:=fun c o e=>s3 _ _ (s2 _ _ (sd c o e)) (ak e nd)
 clear s3 hd2 BD hq nq s2 YF
 have xR:=tK.2
 refine ⟨_,rfl,rfl,_,rfl,rfl,by omega,fun p5 n5=>?_⟩
 have fu:=dH (c:=32) row
 have zy: ∀l∈bY 32 row, ∀c∈l,c<128:=fun l hl c hc=>tK.1 c (eW hl c hc).1
 have Mt:(∃ps:List (Nat×Nat),(bY 32 row=cN::[b]::ps.map stx/\ps.Perm (aK b ws ws.length))/\ ∀(o:Od) H',wj H' o->o.ps.map Pr.pair=ps->ah H H'->Q (.ref o.o) H')\/((∀ps:List (Nat×Nat), ¬(bY 32 row=cN::[b]::ps.map stx/\ps.Perm (aK b ws ws.length)))/\ ∀H',ah H H'->Q .cK H'):=q
 clear q
 generalize bY 32 row=cD at Mt fu zy ⊢
 have o7:upd H3 p5 (.lst (cD.map fun l=>V.str (S l))) p5=some (.lst (ba cD)):=af
 have s5:=ah.upd (o:= .lst (cD.map fun l=>V.str (S l))) n5
 generalize upd H3 p5 (.lst (cD.map fun l=>V.str (S l)))=H5 at o7 s5 ⊢
 have OW:j8 (ba cD) none (some 2)=ba (cD.take 2):=by
  have:=ow (ba cD) 2
  rw[show ((2:Nat):Int)=2 from rfl]at this
  show cut (ba cD) none (some 2)=_
  rw[this]
  unfold ba
  rw[Qdz]
 have MA:j8 (ba cD) (some 2) none=ba (cD.drop 2):=by
  have:=fL (ba cD) 2
  rw[show ((2:Nat):Int)=2 from rfl]at this
  show cut (ba cD) (some 2) none=_
  rw[this]
  unfold ba
  rw[Qd0]
 have YG:(cD.drop 2).length<=700:=by rw[Qat];omega
 refine ⟨_,rfl,_,rfl,p5,_,rfl,aN.of o7,fun p6 n6=>?_⟩
 rw[OW]
 have s6:=ah.upd (o:= .lst (ba (cD.take 2))) n6
 have wz:upd H5 p6 (.lst (ba (cD.take 2))) p6=some (.lst (ba (cD.take 2))):=af
 generalize upd H5 p6 (.lst (ba (cD.take 2)))=H6 at s6 wz ⊢
 refine ⟨_,rfl,by show 2<=sizeLine;decide,fun p7 n7=>?_⟩
 have s7:=ah.upd (o:= .lst [V.str (S [98,97,110,100]),V.str (S [b])]) n7
 have IE:upd H6 p7 (.lst [V.str (S [98,97,110,100]),V.str (S [b])]) p7=some (.lst (ba [cN,[b]])):=af
 generalize upd H6 p7 (.lst [V.str (S [98,97,110,100]),V.str (S [b])])=H7 at s7 IE ⊢
 have LR: ∀l∈[cN,[b]], ∀c∈l,c<128:=fun l hl c hc=>by
  rcases XB.mp hl with g | g
  ·rw[g]at hc;revert c hc;decide
  ·rw[QB.mp g]at hc;rw[QB.mp hc];exact O0.lt
 have lay0: ∀l∈cD.take 2, ∀c∈l,c<128:=fun l hl=>zy l (Qba hl)
 refine ⟨.list (gD (cD.take 2)), .list (gD [cN,[b]]), .lst (aN.of (s7 _ _ wz)) (dF _), .lst (aN.of IE) (dF _),⟨eh lay0,eh LR⟩,by show PyData.depthAll (gD (cD.take 2))+1<=60;rw[fF];decide,?_⟩
 have T_:PyData.eqv (.list (gD (cD.take 2))) (.list (gD [cN,[b]]))=decide (cD.take 2=[cN,[b]]):=gR _ _
 rw[T_]
 have YH:ah H3 H7:=(s5.trans s6).trans s7
 refine ⟨_,rfl,cn (fun e=>?_) (fun e=>?_)⟩
 ·have hn:cD.take 2≠[cN,[b]]:=fun z=>by rw[decide_eq_true z]at e;exact absurd e (by decide)
  rcases Mt with ⟨ps,⟨g,_⟩,_⟩ | ⟨_,q⟩
  ·exact absurd (by rw[g];rfl) hn
  ·exact q _ (tX.trans YH)
 have h2:cD.take 2=[cN,[b]]:=by
  by_cases z:cD.take 2=[cN,[b]]
  ·exact z
  ·exact absurd (by rw[decide_eq_false z];rfl) e
 have A9:cD=cN::[b]::cD.drop 2:=by
  have:=Qan 2 cD
  rw[h2]at this
  exact this.symm
 have O1:=s7 _ _ (s6 _ _ o7)
 refine ⟨_,rfl,_,rfl,p5,_,rfl,aN.of O1,fun p8 n8=>?_⟩
 rw[MA]
 refine ⟨p8,cD.drop 2,rfl, .inl (aN.of af),by omega,fun p9 ms n9 O2 pw9=>?_⟩
 have s9:=(ah.upd (o:= .lst (ba (cD.drop 2))) n8).trans (ah.upd (o:= .lst (ms.map fun l=>V.str (S l))) n9)
 have II:upd (upd H7 p8 (.lst (ba (cD.drop 2)))) p9 (.lst (ms.map fun l=>V.str (S l))) p9=some (.lst (ba ms)):=af
 generalize upd (upd H7 p8 (.lst (ba (cD.drop 2)))) p9 (.lst (ms.map fun l=>V.str (S l)))=H9 at s9 II ⊢
 have Ua:ah H3 H9:=YH.trans s9
 refine ⟨_,rfl,d,Dm ss,(ss.map Pr.pair).map stx,rfl,Ua _ _ BE,Dn ss,by rw[kb,kb];omega,fun Mx ns n10 DM Ub=>?_⟩
 have DN:=ah.upd (o:= .lst (ns.map fun l=>V.str (S l))) n10
 have GF:upd H9 Mx (.lst (ns.map fun l=>V.str (S l))) Mx=some (.lst (ba ns)):=af
 generalize upd H9 Mx (.lst (ns.map fun l=>V.str (S l)))=MC at DN GF ⊢
 have LS: ∀l∈ms, ∀c∈l,c<128:=fun l hl=>zy l (Qbg (O2.mem_iff.mp hl))
 have Uc: ∀l∈ns, ∀c∈l,c<128:=fun l hl=>by
  obtain ⟨p,hp,rfl⟩:=Qa5.mp (DM.mem_iff.mp hl)
  exact zj p
 refine ⟨.list (gD ms), .list (gD ns), .lst (aN.of (DN _ _ II)) (dF _), .lst (aN.of GF) (dF _),⟨eh LS,eh Uc⟩,by show PyData.depthAll (gD ms)+1<=60;rw[fF];decide,?_⟩
 have Ud:PyData.eqv (.list (gD ms)) (.list (gD ns))=decide (ms=ns):=gR _ _
 rw[Ud]
 refine ⟨_,rfl,cn (fun e=>?_) (fun e=>?_)⟩
 ·have hn:ms≠ns:=fun z=>by rw[decide_eq_true z]at e;exact absurd e (by decide)
  rcases Mt with ⟨ps,⟨g,pg⟩,_⟩ | ⟨_,q⟩
  ·refine absurd (vp O2 (DM.trans ?_) pw9 Ub) hn
   rw[g,iE]
   exact (pg.map stx).symm
  ·exact q _ (tX.trans (Ua.trans DN))
 have emn:ms=ns:=by
  by_cases z:ms=ns
  ·exact z
  ·exact absurd (by rw[decide_eq_false z];rfl) e
 have pmd:(cD.drop 2).Perm ((aK b ws ws.length).map stx):=by rw[<-iE];exact O2.symm.trans (by rw[emn];exact DM)
 obtain ⟨ps,kL,lK⟩:=oP pmd
 obtain ⟨vT,⟨g,_⟩,q⟩:=Mt.resolve_right fun z=>z.1 ps ⟨by rw[<-kL];exact A9,lK⟩
 have O3:vT=ps:=by
  rw[A9,kL]at g
  exact (map_inj (Qbv (Qbv g).2).2).symm
 subst O3
 have O4:=DN _ _ (s9 _ _ O1)
 refine ⟨_,rfl,_,rfl,p5,_,rfl,aN.of O4,fun HZ n11=>?_⟩
 rw[MA,kL]
 rw[kL,kb]at YG
 have DO:=ah.upd (o:= .lst (ba (vT.map stx))) n11
 have LU:upd MC HZ (.lst (ba (vT.map stx))) HZ=some (.lst (ba (vT.map stx))):=af
 generalize upd MC HZ (.lst (ba (vT.map stx)))=IK at DO LU ⊢
 have YI:ah H3 IK:=(Ua.trans DN).trans DO
 refine ⟨HZ,rfl,⟨_,aN.of LU⟩,?_⟩
 refine qA (K:=K) (a:=HZ) (xs:=ba (vT.map stx)) (fun i acc H'=>H'=IK/\ ∃qs:List Pr,acc=iF qs/\qs.map Pr.pair=vT.take i/\ ∀r∈qs,r∈ss) (by rw[ay,kb];omega) (fun i acc H' h=>by rw[h.1];exact aN.of LU) ⟨rfl,[],rfl,rfl,fun _ h=>absurd h Qam⟩ ?_ ?_
 ·rintro i x acc Ro Nx hi hx fW ⟨rfl,qs,rfl,IL,Ue⟩ nx
  obtain ⟨l,hl,rfl⟩:=kz hx
  rw[Qau]at hl
  cases e:vT[i]? with
  | none=>rw[e]at hl;cases hl
  | some p=>
   rw[e]at hl;cases hl
   have Ep:=Qay e
   obtain ⟨r,hr,e1,e2⟩:=AR (l:=ss) (p:=p) (by rw[iE];exact lK.mem_iff.mp Ep)
   refine ⟨⟨rfl,trivial⟩,sR ?_⟩
   refine ⟨_,rfl,_,rfl,d,_,rfl,by rw[<-e2];exact Aa.k (k:=sk p) (YI _ _ BE),?_⟩
   refine nx _ _ (by simpa using fW) ⟨rfl,qs++[r],kq qs r,by rw[Qar,IL, <-take_snoc e,ZD,Qdn,e1],fun z hz=>?_⟩
   rcases Qaa.mp hz with g | g
   ·exact Ue z g
   ·rw[QB.mp g];exact hr
 rintro acc Ro D fW ⟨rfl,qs,rfl,IL,Ue⟩ hD
 rw[ay,kb,Qbh]at IL
 refine ⟨D,_,rfl, .inl ⟨aN.of af,fun t nt=>?_⟩⟩
 have sE:=(YI.trans (ah.upd (o:= .lst (iF qs)) hD)).trans (ah.upd (o:= .tup (iF qs)) nt)
 exact q ⟨t,qs⟩ _ ⟨af,fun r hr=>(T9 r (Ue r hr)).same sE⟩ IL (tX.trans sE)
omit T in theorem vU:aW ["self","row"] ["self","row"] (ai eO):=⟨rfl,rfl,rfl,by decide+kernel,rfl,by decide+kernel,by decide+kernel⟩
theorem vV:ck P w K mg base fU 1 dI i7 ["self","row"] (yR aq "row"):=by
 refine T.DG.ok vU (fun vs H Q E h=>KP h) (fun cdv A outer s H vs Q E hr h=>?_)
 refine ⟨_,(ag (da (CH T.xb rfl T.mC (aa (pv 0) (aa (pv 1) ae)))) (aj (Fu (pv 0) (pv 1) rfl))),?_⟩
 obtain ⟨e,v,rfl,he,q⟩:=h
 exact ⟨_,rfl,_,rfl,e,aq,none,[v],rfl,by show 1<=sizeLine;decide,he,T.dJ,_,rfl,_,rfl,e,aq,rfl,T.dJ,T.n_NoText_row, .inl ⟨he,q⟩⟩
theorem mL:ck P w K mg base (NT P w K) 4 f7 d7 ["yard","text"] (iC K aq):=by
 have tN:=pR (P:=P) (w:=w) (base:=base) T
 have GG:=DL (P:=P) (w:=w) (base:=base) T
 have tO:=pV (P:=P) (w:=w) (base:=base) T
 have o_:=vV (P:=P) (w:=w) (base:=base) T
 refine T.F7.fn.Z7 bJ (fun vs H Q E h=>lS h) (fun cdv A outer s H vs Q E hr h=>?_)
 refine ⟨_,(ag (ax (i:=2) bJ.nd rfl (Or.inl rfl) (bD K rfl Qas Qb8 Qb7 (fA 10) (pv 1) (aa (bq [10] (by decide+kernel)) ae)))
   (ag (ax (i:=3) bJ.nd rfl (Or.inl rfl) (aB tN (hr.mono (by decide)) rfl T.F5.mg T.F5.fn.kp T.F5.bd .nil aX (aa (pv 0) (aa (pv 2) ae))))
   (ag (ax (i:=4) bJ.nd rfl (Or.inl rfl) (bE ae))
   (ag (ax (i:=5) bJ.nd rfl (Or.inl rfl) (az (aw K rfl) rfl T.z_len Qap (aa (pv 3) ae)))
   (ag (cW (PassesOwn.leaving) rfl (rQ (aB GG (hr.mono (by decide)) rfl T.F1.mg T.F1.fn.kp T.F1.bd .nil aX (aa (pv 0) ae))) (aP (i:=6) bJ.nd rfl (Or.inl rfl)) (ag (ax (i:=7) bJ.nd rfl (Or.inl rfl) (BJ (aE qc (pv 5) (az (aw K rfl) rfl T.z_len Qap (aa (pv 2) ae)) (aT _)) (aB tO (hr.mono (by decide)) rfl T.F6.mg T.F6.fn.kp T.F6.bd .nil aX (aa (pv 3) (aa (pv 6) (aa (bH (aO K rfl) (pv 2) (pv 5) (fun _ _=>rfl)) ae)))) dW))
   (ag (bU (aE wG (pv 7) dW (aT _)) (aj (qK K H rfl rfl hr.hd CA (uH T.vQ o_ (hr.mono (by decide)) rfl T.oZ T.vR (aa (pv 5) ae)))) bu)
   (ag (da (bD K rfl Qa3 Qbl Qbk cO (pv 4) (aa (pv 7) ae)))
   (aj (Jr (i:=5) bJ.nd rfl (Or.inl rfl) au Js))))))
   (ag (bU (aE qc (pv 5) (az (aw K rfl) rfl T.z_len Qap (aa (pv 2) ae)) (aT _)) (aj (qK K H rfl rfl hr.hd CA (uH T.vQ o_ (hr.mono (by decide)) rfl T.oZ T.vR (aa (pv 5) ae)))) bu)
   (aj (aR (dz (aa (pv 3) (aa (bo (bz K rfl) rfl T.z_tuple boot_tuple (aa (pv 4) ae)) ae))))))))))),?_⟩
 have T0:=T
 obtain ⟨y,t,rfl,hy,tK,q⟩:=h
 have hs:(2000000:Nat)<sizeLine:=by decide
 have hw:=tG hy tK
 have O5:=tK.2
 have YC:=hy.2
 have xR:=dH (c:=10) t
 have LV: ∀r∈bY 10 t,jy r:=fun r hr=>⟨fun c hc=>tK.1 c (eW hr c hc).1,by have:=xR.1 r hr;omega⟩
 have hbm:=s_ y
 refine ⟨_,rfl,rfl,_,rfl,rfl,by omega,fun p1 n1=>?_⟩
 unfold Ey at q
 generalize bY 10 t=rows at hw xR LV q ⊢
 have eL:upd H p1 (.lst (rows.map fun l=>V.str (S l))) p1=some (.lst (ba rows)):=af
 have s1:=ah.upd (o:= .lst (rows.map fun l=>V.str (S l))) n1
 generalize upd H p1 (.lst (rows.map fun l=>V.str (S l)))=H1 at eL s1 ⊢
 refine ⟨_,rfl,_,rfl,y,p1,rows,rfl,eL,by omega,fun r hr=>(LV r hr).2,fun wt H2 Ug pA s2=>?_⟩
 generalize fZ y rows=ws at hw pA q
 refine ⟨by show 0<=sizeLine;decide,fun p3 n3=>?_⟩
 have kM:upd H2 p3 (.lst []) p3=some (.lst (kr [])):=af
 have s3:=ah.upd (o:= .lst []) n3
 have MD:H p3=none:=(s1.trans s2).free n3
 have O6:p1≠p3:=ak (s2 _ _ eL) n3
 have Uh:wt≠p3:=ak pA n3
 have LW:=s3 _ _ pA
 have xS:=s3 _ _ (s2 _ _ eL)
 have tX:ah H (upd H2 p3 (.lst [])):=(s1.trans s2).trans s3
 generalize upd H2 p3 (.lst [])=H3 at kM tX LW xS ⊢
 refine ⟨_,rfl,wt,_,rfl, .inr (cU.of LW),?_⟩
 rw[ay]
 refine ⟨_,rfl,y,rfl,OH hy.1,by omega,fun l' H4 Ee wy s4=>⟨l',rfl,?_⟩⟩
 have el:=ko Ee wy
 subst el
 change AO ws (fun os=> ∀dr jB H',wm H' dr ws jB->gC jB=os->ah H H'->Q (.ref dr) H') _ _ _ _ _ at q
 generalize hP:(fun os=> ∀dr jB H',wm H' dr ws jB->gC jB=os->ah H H'->Q (.ref dr) H')=P at q
 generalize hR:(fun k:Nat=> ∀d H',H' d=some (tU d [("row", .int (k:Nat))])->ah H H'->E (.ref aq) (some d) H')=R at q
 refine E8 (xs:=bX (bh y)) (fun i σ H'=> ∃(od:List Od) (bv ov:Option V),σ=[some (.str (S y)),some (.str (S t)),some (.ref p1),some (.ref wt),some (.ref p3),some (.int ((ws.length+i:Nat):Int)),bv,ov]/\H' p3=some (.lst (kr od))/\od.length=i/\AO ws P R (ws.length+i) ((bh y).drop i) (rows.drop (ws.length+i)) (gC od)/\(∀o∈od,wj H' o)/\H' p1=some (.lst (ba rows))/\H' wt=some (.tup (ba ws))/\aI p3 H H')
  ⟨[],none,none,rfl,s4 _ _ kM,rfl,q,fun _ h=>absurd h Qam,s4 _ _ xS,s4 _ _ LW,aI.of (tX.trans s4)⟩ ?_ ?_
 ·rintro i x σ H5 hx ⟨od,bv,ov,rfl,o7,A_,jD,bg,zA,Rp,s5⟩
  obtain ⟨b,hb,rfl⟩:=eQ hx
  have hi:=(Xy.mp hb).1
  have Rq:=ze hy.1 b (Qay hb)
  have LX:ah H H5:=fun c o e=>s5 c o e (ak e MD)
  rw[Qa7 hi,(Xy.mp hb).2]at jD
  refine ⟨_,rfl,_,rfl,p1,_,rfl, .inl (aN.of zA),_,_,rfl,rfl,_,rfl,cn (fun e=>?_) (fun e=>?_)⟩
  ·have bW:ws.length+i<rows.length:=by
    have:=of_decide_eq_true e
    rw[ay]at this
    omega
   have DP:rows[ws.length+i]? =some rows[ws.length+i]:=Mn bW
   rw[Qa7 bW]at jD
   have DK:=LV _ (Qa4 bW)
   generalize rows[ws.length+i]=row at DP jD DK
   refine ⟨_,rfl,_,rfl,_,rfl,_,rfl,p1,_,_,_,rfl,rfl,aN.of zA,bf (by unfold ba;rw[Qau,DP];rfl),?_⟩
   refine ⟨wt,ws,b,row,rfl,Rp,hw,Rq,DK,?_⟩
   rcases jD with ⟨ps,ho,jD⟩ | ⟨ho,vW⟩
   ·refine .inl ⟨ps,ho,fun o H6 Ui iE s6=>?_⟩
    refine ⟨_,rfl,rfl,_,rfl,mI rfl ?_⟩
    have wz:=s6 _ _ o7
    refine ⟨_,rfl, .inl ⟨rfl,_,aN.of wz⟩,_,rfl,p3,_,_,rfl,rfl,wz,by rw[gq];omega,?_⟩
    have ts:bF H6 (upd H6 p3 (.lst (kr od++[.ref o.o]))):=bF.pH wz
    refine ⟨_,rfl,_,_,rfl,rfl,?_⟩
    refine ⟨od++[o],some (.str (S [b])),some (.ref o.o),?_,by rw[af,oB],by rw[JQ,A_];rfl,?_,fun z hz=>?_,by rw[ao O6];exact s6 _ _ zA,by rw[ao Uh];exact s6 _ _ Rp,fun c u e w=>by rw[ao w];exact s6 _ _ (s5 c u e w)⟩
    ·have:((ws.length+i:Nat):Int)+1=((ws.length+(i+1):Nat):Int):=by omega
     show [_,_,_,_,_,some (V.int (((ws.length+i:Nat):Int)+1)),_,_]=_
     rw[this]
    ·have eo:gC (od++[o])=gC od++[ps]:=by
      unfold gC
      rw[Qar,ZD,Qdn,iE]
     rw[eo]
     exact jD
    ·rcases Qaa.mp hz with g | g
     ·exact ((bg z g).same s6).ts ts
     ·rw[QB.mp g];exact Ui.ts ts
   ·refine .inr ⟨ho,fun H6 s6=>?_⟩
    refine ⟨_,rfl,rfl,_,rfl,ou rfl ?_⟩
    have IM:=LX.trans s6
    rw[<-hR]at vW
    exact ⟨_,rfl,nQ T0.dJ IM fun d2 H2 hd2 s2=>vW d2 _ hd2 (IM.trans s2)⟩
  ·have O7:rows.length<=ws.length+i:=by
    have h1: ¬_:=fun z=>e (decide_eq_true z)
    rw[ay]at h1
    omega
   rw[Qbu O7]at jD
   have vW:R (ws.length+i):=jD
   rw[<-hR]at vW
   refine ⟨_,rfl,rfl,_,rfl,ou rfl ?_⟩
   exact ⟨_,rfl,nQ T0.dJ LX fun d2 H2 hd2 s2=>vW d2 _ hd2 (LX.trans s2)⟩
 ·rintro σ H5 ⟨od,bv,ov,rfl,o7,A_,jD,bg,zA,Rp,s5⟩
  have LX:ah H H5:=fun c o e=>s5 c o e (ak e MD)
  rw[aU]at*
  rw[Qd4]at jD
  refine ⟨_,rfl,_,rfl,p1,_,rfl, .inl (aN.of zA),_,_,rfl,rfl,_,rfl,cn (fun e=>?_) (fun e=>?_)⟩
  ·have bW:ws.length+(bh y).length<rows.length:=by
    have:=of_decide_eq_true e
    rw[ay]at this
    omega
   rw[Qa7 bW]at jD
   have vW:R (ws.length+(bh y).length):=jD
   rw[<-hR]at vW
   exact ⟨_,rfl,nQ T0.dJ LX fun d2 H2 hd2 s2=>vW d2 _ hd2 (LX.trans s2)⟩
  ·have O7:rows.length<=ws.length+(bh y).length:=by
    have h1: ¬_:=fun z=>e (decide_eq_true z)
    rw[ay]at h1
    omega
   rw[Qbu O7]at jD
   have O8:P (gC od):=jD
   rw[<-hP]at O8
   refine ⟨_,rfl,_,rfl,p3,_,rfl, .inl ⟨aN.of o7,fun t6 n6=>⟨by show 2<=sizeLine;decide,fun t7 n7=>?_⟩⟩⟩
   have BF:=(ah.upd (o:= .tup (kr od)) n6).trans (ah.upd (o:= .tup [.ref wt, .ref t6]) n7)
   have h67:t6≠t7:=fun z=>by rw[<-z,af]at n7;cases n7
   exact O8 t7 od _ ⟨wt,t6,af,BF _ _ Rp,by rw[ao h67,af],fun o ho=>(bg o ho).same BF⟩ rfl (LX.trans BF)
theorem DQ:ck P w K mg base fU 5 Iv Rc ["_law_yard_here","_law_text_here"] (vB K):=by
 have ph:=mL (P:=P) (w:=w) (base:=base) T
 refine T.A3.fn.ok ff (fun vs H Q E h=>AU h) (fun cdv A outer s H vs Q E hr h=>?_)
 refine ⟨_,(ag (ax (i:=2) ff.nd rfl (Or.inl rfl) dW)
   (ag (ax (i:=3) ff.nd rfl (Or.inl rfl) dW)
   (ag (KH (n:=4) T.vP rfl T.mC ff.nd rfl rfl rfl rfl rfl (fun pn W E hth kL=>(aj (ax (i:=2) ff.nd rfl (Or.inl rfl) (CD ph (hr.mono (by decide)) rfl T.F7.mg T.F7.fn.kp T.F7.bd .nil kL (aa (pv 0) (aa (pv 1) ae)))))) (fun ev=>(aj (ax (i:=3) ff.nd rfl (Or.inl rfl) (pv 4)))))
   (ag (bU (aE wG (pv 3) dW (aT _)) (aj (aR (dz (aa (bq [116,111,108,100] (by decide+kernel)) (aa (pv 2) ae))))) bu)
   (ag (ax (i:=5) ff.nd rfl (Or.inl rfl) (az (qI K rfl) rfl T.z_isinstance boot_isinstance (aa (pv 3) (aa (dz (aa (cT (v:= .ref fo) rfl T.Gz rfl) (aa (cT (v:= .ref eA) rfl T.DC rfl) (aa (cT (v:= .ref cf) rfl T.vO rfl) (aa (cT (v:= .ref eB) rfl T.DD rfl) (aa (cT (v:= .ref dj) rfl T.A4 rfl) (aa (cT (v:= .ref fq) rfl T.GA rfl) (aa (cT (v:= .ref eE) rfl T.DE rfl) (aa (cT (v:= .ref eF) rfl T.DF rfl) ae))))))))) ae))))
   (ag (ax (i:=6) ff.nd rfl (Or.inl rfl) (az (qI K rfl) rfl T.z_isinstance boot_isinstance (aa (pv 3) (aa (dz (aa (cT (v:= .ref cJ) rfl T.xN rfl) (aa (cT (v:= .ref dk) rfl T.A5 rfl) (aa (cT (v:= .ref dq) rfl T.A6 rfl) (aa (cT (v:= .ref ft) rfl T.GB rfl) ae))))) ae))))
   (ag (bU (PW.pt (jz (BI (iI (az (uJ K rfl) rfl T.z_isinstance boot_isinstance (aa (pv 3) (aa (cT (v:= .ref aq) rfl T.oZ rfl) ae))))) (jz (iI (pv 5)) (jz (iI (pv 6)) (kQ (BI (iI (az (uJ K rfl) rfl T.z_isinstance boot_isinstance (aa (pv 3) (aa (ye (v:= .ty "ValueError") rfl T.z_ValueError FC rfl) ae)))))))))) (aj (aR (bq [101,108,115,101] (by decide+kernel)))) bu)
   (aj (aR (bE (aa (bq [114,101,102,117,115,101,100] (by decide+kernel)) (aa (CM K rfl (pv 3) rfl) ae)))))))))))),?_⟩
 obtain ⟨y,t,rfl,hy,ht,q⟩:=h
 walk_at "rd"
 refine ⟨y,t,rfl,hy,ht,oW (fun os q1 dr jB H3 BE eo s3=>?_) (fun k q2 d H3 BE s3=>?_) q⟩
 ·walk_at "rd"
  exact fun p np=>q1 p dr jB _ af (BE.same (ah.upd np)) eo (s3.trans (ah.upd np))
 ·refine ⟨aq,rfl,T.r_NoText,fun d' z=>⟨_,by cases z;exact BE⟩,fun x nx=>?_⟩
  have sx:=ah.upd (o:=dA false x aq (some d)) nx
  have hx:upd H3 x (dA false x aq (some d)) x=some (dA false x aq (some d)):=af
  have GH:=sx _ _ BE
  have s4:=s3.trans sx
  generalize upd H3 x (dA false x aq (some d))=H4 at s4 hx GH ⊢
  walk_at "rd"
  intro p np
  have sp:=ah.upd (o:= .tup [.ref fo, .ref eA, .ref cf, .ref eB, .ref dj, .ref fq, .ref eE, .ref eF]) np
  refine ⟨x,_,_,_,p,_,_,false,rfl,sp _ _ hx,fun d' z=>⟨_,by cases z;exact sp _ _ GH⟩,T.dJ,af,rfl,lC (fun z hz=>?_),?_⟩
  ·rcases XB.mp hz with rfl | hz
   ·exact T.k_NoText_NoCut
   rcases XB.mp hz with rfl | hz
   ·exact T.k_NoText_NoDeed
   rcases XB.mp hz with rfl | hz
   ·exact T.k_NoText_NoDrawing
   rcases XB.mp hz with rfl | hz
   ·exact T.k_NoText_NoName
   rcases XB.mp hz with rfl | hz
   ·exact T.k_NoText_NoPaper
   rcases XB.mp hz with rfl | hz
   ·exact T.k_NoText_NoRow
   rcases XB.mp hz with rfl | hz
   ·exact T.k_NoText_NoWord
   rcases XB.mp hz with rfl | hz
   ·exact T.k_NoText_NoYard
   cases hz
  walk_at "rd"
  intro p2 BG
  have GI:=sp.trans (ah.upd (o:= .tup [.ref cJ, .ref dk, .ref dq, .ref ft]) BG)
  refine ⟨x,_,_,_,p2,_,_,false,rfl,GI _ _ hx,fun d' z=>⟨_,by cases z;exact GI _ _ GH⟩,T.dJ,af,rfl,lC (fun z hz=>?_),?_⟩
  ·rcases XB.mp hz with rfl | hz
   ·exact T.k_NoText_NotApart
   rcases XB.mp hz with rfl | hz
   ·exact T.k_NoText_NotLone
   rcases XB.mp hz with rfl | hz
   ·exact T.k_NoText_TooLong
   rcases XB.mp hz with rfl | hz
   ·exact T.k_NoText_Twice
   cases hz
  walk_at "rd"
  refine ⟨x,_,_,_,_,_,true,rfl,GI _ _ hx,fun d' z=>⟨_,by cases z;exact GI _ _ GH⟩,T.dJ,rfl,T.k_NoText_NoText,?_⟩
  walk_at "rd"
  refine ⟨x,_,_,_,_,_,true,rfl,GI _ _ hx,fun d' z=>⟨_,by cases z;exact GI _ _ GH⟩,T.dJ,rfl,T.k_NoText_ValueError,?_⟩
  walk_at "rd"
  refine ⟨x,_,_,d,_,_,rfl,GI _ _ hx,T.dJ,T.n_NoText_row,GI _ _ GH,rfl,?_⟩
  walk_at "rd"
  intro p3 np3
  exact q2 p3 _ af (s4.trans (GI.trans (ah.upd np3)))
theorem pj:ml P w K mg base 1 Gy OV ["_law_yard_here"] (lP K) (fun s u s'=>FU (s.toks+1) u s'):=by
 refine T.wx.fn.Ye A7 (fun vs H Q E h=>xx h) ⟨_,_,rfl,rfl⟩ (fun cdv A outer s H vs Q E hr h=>?_)
 refine ⟨_,(og (j:=0) ["_law_letter"] [none] rfl T.z_sorted (C6 (i:=0) rfl (Or.inl rfl)) trivial (by decide+kernel) rfl (fun _ _ _ _=>Ld (i:=0) [97,98,99,100,101,102,103,104,105,106,107,108,109,110,111,112,113,114,115,116,117,118,119,120,121,122] (by decide+kernel) rfl (Or.inl rfl))),?_⟩
 obtain ⟨y,rfl,hz,q⟩:=h
 have hs:(1000:Nat)<sizeLine:=by decide
 refine ⟨_,rfl,y,rfl,?_⟩
 refine gH (xs:=bX y) (fun i acc H'=>ah H H'/\acc=bX ((y.take i).filter fun c=>decide (c∈aH))) (by rw[aU];omega) ⟨ah.refl H,rfl⟩ ?_ ?_
 ·rintro i x acc H1 Nx hi hx fW ⟨s1,rfl⟩ nx
  obtain ⟨c,hc,rfl⟩:=eQ hx
  have e:=fb (p:=fun c=>decide (c∈aH)) hc
  refine ⟨trivial,?_⟩
  refine ⟨_,rfl,c,aH,rfl,rfl,_,rfl,?_⟩
  refine cn (fun z=>?_) (fun z=>?_)
  ·rw[if_pos z]at e
   exact ⟨_,rfl,nx _ _ (by simpa using fW) ⟨s1,by rw[e, <-gP]⟩⟩
  ·rw[if_neg z,Qal]at e
   exact nx _ _ (Qcj fW) ⟨s1,by rw[e]⟩
 ·rintro acc H1 D fW ⟨s1,rfl⟩ hD
  rw[ve,jd]
  have Mz:(y.filter fun c=>decide (c∈aH)).length<=y.length:=Qcr _ _
  refine ⟨D,(y.filter fun c=>decide (c∈aH)).map fun c=>[c],rfl,aN.of af,by rw[kb];omega,fun p ls hp lK wy=>?_⟩
  obtain ⟨l',rfl,pl⟩:=yG lK
  refine q p l' _ (ah.free (ah.trans s1 (ah.upd hD)) hp) (by rw[af, <-jd]) pl (yH wy) ((s1.trans (ah.upd hD)).trans (ah.upd hp))
theorem jq:ck P w K mg base fU 1 Gy OV ["_law_yard_here"] (lP K):=(pj T).fn
theorem pk:ml P w K mg base 1 Gx OU ["_law_letter"] (lN K) (fun s u s'=>Tk (s.toks+1) s'.toks u):=by
 refine T.wu.fn.Ye lV (fun vs H Q E h=>xv h) ⟨_,_,rfl,rfl⟩ (fun cdv A outer s H vs Q E hr h=>?_)
 refine ⟨_,(uW (i:=1) lV.nd rfl (Or.inl rfl) (bq [97,98,99,100,101,102,103,104,105,106,107,108,109,110,111,112,113,114,115,116,117,118,119,120,121,122] (by decide+kernel)) (uW (i:=2) lV.nd rfl (Or.inl rfl) (bq [65,66,67,68,69,70,71,72,73,74,75,76,77,78,79,80,81,82,83,84,85,86,87,88,89,90] (by decide+kernel)) (FN (aE JW (pv 0) (pv 1) (by with_unfolding_all rfl)) (oa (pv 2) (bD K rfl Qas PySem.F.slot_str_index PySem.F.type_str_index qy (pv 1) (aa (pv 0) ae)) (fun _ _=>rfl)) (oa (pv 1) (bD K rfl Qas PySem.F.slot_str_index PySem.F.type_str_index qy (pv 2) (aa (pv 0) ae)) (fun _ _=>rfl))))),?_⟩
 obtain ⟨c,rfl,hc,q⟩:=h
 refine ⟨_,rfl,_,rfl,c,aH,rfl,rfl,_,rfl,cn (fun e=>?_) (fun e=>?_)⟩
 ·have hm:c∈aH:=of_decide_eq_true e
  exact ⟨_,rfl,_,rfl,rfl,_,rfl,aH,c,rfl,rfl,hm,jx,_,eV c,rfl,rfl,by decide,uZ c hm,q⟩
 ·have hm:c∈jx:=hc.resolve_left fun z=>e (decide_eq_true z)
  exact ⟨_,rfl,_,rfl,rfl,_,rfl,jx,c,rfl,rfl,hm,aH,_,eV c,rfl,rfl,by decide,Au c hm,q⟩
theorem jr:ck P w K mg base fU 1 Gx OU ["_law_letter"] (lN K):=(pk T).fn
theorem vX:ck P w K mg base fU 2 Io Q7 ["_law_words_here","_law_band"] (mz K):=by
 have g7:=jr (P:=P) (w:=w) (base:=base) T
 refine T.LI.fn.ok gu (fun vs H Q E h=>tH h) (fun cdv A outer s H vs Q E hr h=>?_)
 refine ⟨_,(ag (ax (i:=2) gu.nd rfl (Or.inl rfl) (bE ae))
   (ag (cW PassesOwn.never rfl (uw K rfl rfl T.z_enumerate (aa (pv 0) ae)) (dN (n:=2) K rfl rfl (bb (aP (i:=3) gu.nd rfl (Or.inr rfl)) (bb (aP (i:=4) gu.nd rfl (Or.inl rfl)) dM))) (aj (da (bD K rfl Qa3 PySem.F.slot_list_extend PySem.F.type_list_extend qo (pv 2) (aa (iN ["_law_i","_law_letter","_law_c","_law_band"] [none,none,some 3,some 1] (kg rfl T.z_enumerate (aa (pv 4) ae)) ⟨⟨rfl,rfl,by first | exact .inl rfl | exact .inr rfl⟩,⟨⟨rfl,rfl,by first | exact .inl rfl | exact .inr rfl⟩,trivial⟩⟩ (fun _ _ _ _=>(dN (n:=2) K rfl rfl (bb (aP (i:=0) (by decide+kernel:List.Nodup (["_law_i","_law_letter","_law_c","_law_band"]:List Str)) rfl (Or.inl rfl)) (bb (aP (i:=1) (by decide+kernel:List.Nodup (["_law_i","_law_letter","_law_c","_law_band"]:List Str)) rfl (Or.inl rfl)) dM)))) (fun _ _ _ _=>(nz (aE (Cc K rfl) (pv 1) (dz (aa (pv 3) (aa (aB g7 (hr.mono (by decide)) rfl T.wu.mg T.wu.fn.kp T.wu.bd .nil aX (aa (pv 3) ae)) ae))) (by with_unfolding_all rfl)))) (fun _ _ _ _=>(dz (aa (pv 2) (aa (pv 0) ae))))) ae)))))
   (aj (aR (pv 2))))),?_⟩
 obtain ⟨wt,ws,band,rfl,pA,hf,hw,hb,q⟩:=h
 have hs:(2000000:Nat)<sizeLine:=by decide
 have LY:Lt band:= .inl hb
 walk_at "wk"
 intro p3 n3
 refine ⟨_,rfl,wt,rfl,⟨_,aN.of ((ah.upd n3) _ _ pA)⟩,?_⟩
 refine qE (K:=K) (a:=wt) (xs:=ba ws) (fun j σ H'=> ∃(ps:List Pr) (cv wv:Option V),σ=[some (.ref wt),some (.str (S [band])),some (.ref p3),cv,wv]/\H' p3=some (.lst (iF ps))/\(∀p∈ps,gQ H' p)/\ps.map Pr.pair=aK band ws j/\ps.length<=700*j/\ah H H')
  ⟨[],none,none,rfl,af,fun _ h=>absurd h Qam,rfl,Qaq _,ah.upd n3⟩ (fun j σ H' _ ⟨_,_,_,_,_,_,_,_,h⟩=>aN.of (h _ _ pA)) ?_ ?_
 ·rintro j x σ H3 T LZ ⟨ps,Uj,Uk,rfl,kM,kL,iE,fu,s3⟩ nT
  have hj:j<ws.length:=by
   have:=(Xy.mp LZ).1
   rwa [ay]at this
  rw[sS hj]at LZ
  cases LZ
  have IC:ws[j]? =some ws[j]:=Mn hj
  obtain ⟨Ul,MB⟩:=hw _ (Qa4 hj)
  generalize ws[j]=w at IC Ul MB ⊢
  refine ⟨T,_,rfl,cU.of af,rfl,_,_,rfl,_,_,rfl,rfl,?_⟩
  have O9:=ah.upd (o:= .tup [.int j, .str (S w)]) nT
  have DR:=O9 _ _ kM
  refine ⟨_,rfl, .inl ⟨rfl,_,aN.of DR⟩,_,rfl,w,rfl,?_⟩
  refine qF (l:=w) (fun m acc H'=>ah (upd H3 T (.tup [.int j, .str (S w)])) H'/\ ∃vs:List Pr,acc=iF vs/\(∀p∈vs,gQ H' p)/\vs.map Pr.pair=du band j w m/\vs.length<=m) (by omega) ⟨ah.refl _,[],rfl,fun _ h=>absurd h Qam,rfl,XA _⟩ ?_ ?_
  ·rintro m l acc H4 T2 Nx hm fW ⟨s4,vs,rfl,GJ,GK,Rr⟩ OZ nx
   have YE:m<w.length:=(Xy.mp hm).1
   have es:=jV (band:=band) (c:=j) hm
   rw[show AB band l=(decide (l=band)||decide (l=eV band)) from rfl]at es
   refine ⟨T2,_,rfl,cU.of af,rfl,_,_,rfl,_,_,rfl,rfl,?_⟩
   refine ⟨⟨rfl,rfl,trivial⟩,?_⟩
   have Um:=ah.upd (o:= .tup [.int m, .str (S [l])]) OZ
   refine ⟨_,rfl,_,rfl,_,rfl,band,rfl,LY,by show 2<=sizeLine;decide,fun t nt=>?_⟩
   refine ⟨t,_,rfl, .inr (cU.of af),rfl,rfl,_,rfl,?_⟩
   have DS:=Um.trans (ah.upd (o:= .tup [.str (S [band]), .str (S [eV band])]) nt)
   generalize upd (upd H4 T2 (.tup [.int m, .str (S [l])])) t (.tup [.str (S [band]), .str (S [eV band])])=H5 at DS ⊢
   show if Ml (.str (S [l])) [.str (S [band]), .str (S [eV band])]=true then _ else _
   rw[yI]
   refine cn (fun z=>?_) (fun z=>?_)
   ·rw[if_pos z]at es
    refine ⟨_,rfl,_,rfl,by show 2<=sizeLine;decide,fun t2 O_=>?_⟩
    refine nx _ _ (by simpa using fW) ⟨(s4.trans DS).trans (ah.upd O_),vs++[⟨t2,j,m⟩],kq vs ⟨t2,j,m⟩,fun p hp=>?_,by rw[Qar,GK,es];rfl,by rw[JQ];show vs.length+1<=_;omega⟩
    rcases Qaa.mp hp with g | g
    ·exact (GJ p g).same (DS.trans (ah.upd O_))
    ·have e2:=QB.mp g
     subst e2
     exact ⟨af,by show j<1000;omega,by show m<1000;omega⟩
   ·rw[if_neg z,Qal]at es
    exact nx _ _ (Qcj fW) ⟨s4.trans DS,vs,rfl,fun p hp=>(GJ p hp).same DS,by rw[es];exact GK,by omega⟩
  ·rintro acc H4 D fW ⟨s4,vs,rfl,GJ,GK,Rr⟩ hD
   have DT:=s4 _ _ DR
   refine ⟨p3,D,_,_,rfl,rfl,(ah.upd hD) _ _ DT,af,by rw[gp,gp];omega,?_⟩
   rw[za]
   have Pa:ah H3 (upd H4 D (.lst (iF vs))):=(O9.trans s4).trans (ah.upd hD)
   have DU:=(ah.upd (o:= .lst (iF vs)) hD) _ _ DT
   refine ⟨ps++vs,_,_,rfl,af,fun p hp=>?_,by rw[Qar,iE,GK,cY IC],by rw[JQ];omega,fun a o ea=>by rw[ao (ak ea n3)];exact Pa _ _ (s3 a o ea)⟩
   rcases Qaa.mp hp with g | g
   ·exact ((kL p g).same Pa).ts (bF.pH DU)
   ·exact ((GJ p g).same (ah.upd hD)).ts (bF.pH DU)
 ·rintro σ H3 ⟨ps,Uj,Uk,rfl,kM,kL,iE,fu,s3⟩
  rw[ay]at iE
  exact ⟨_,rfl,q p3 ps H3 n3 kM kL iE s3⟩
theorem DV:ck P w K mg base fU 3 Iu Rb ["_law_yard_here","_law_text_here"] (vA K):=by
 have g8:=jq (P:=P) (w:=w) (base:=base) T
 have Ba:=xP (P:=P) (w:=w) (base:=base) T
 have xU:=vX (P:=P) (w:=w) (base:=base) T
 refine T.LM.fn.ok c_ (fun vs H Q E h=>AS h) (fun cdv A outer s H vs Q E hr h=>?_)
 refine ⟨_,(ag (ax (i:=2) c_.nd rfl (Or.inl rfl) (bD K rfl Qas Qb8 Qb7 (fA 10) (pv 1) (aa (bq [10] (by decide+kernel)) ae)))
   (ag (ax (i:=3) c_.nd rfl (Or.inl rfl) (bE ae))
   (ag (lp PassesOwn.never (PW.pt (wB (aE qc (az (aw K rfl) rfl T.z_len Qap (aa (pv 3) ae)) (az (aw K rfl) rfl T.z_len Qap (aa (pv 2) ae)) (aT _)) (rn (iI (bD K rfl Qas PySem.F.slot_str_startswith PySem.F.type_str_startswith Ar (bH (aO K rfl) (pv 2) (az (aw K rfl) rfl T.z_len Qap (aa (pv 3) ae)) (fun _ _=>rfl)) (aa (bq [99,111,114,100,32] (by decide+kernel)) ae)))))) (ag (ax (i:=4) c_.nd rfl (Or.inl rfl) (a_ rN (bH (aO K rfl) (pv 2) (az (aw K rfl) rfl T.z_len Qap (aa (pv 3) ae)) (fun _ _=>rfl)) (bC au) bA))
   (ag (nI (i:=5) ["_law_sign_here","_law_yard_here"] [none,some 0] c_.nd rfl (Or.inl rfl) (rQ (pv 4)) ⟨⟨rfl,rfl,by first | exact .inl rfl | exact .inr rfl⟩,trivial⟩ (fun _ _ _ _=>(aP (i:=0) (by decide+kernel:List.Nodup (["_law_sign_here","_law_yard_here"]:List Str)) rfl (Or.inl rfl))) (fun _ _ _ _=>(nz (aE rP (pv 0) (pv 1) (by with_unfolding_all rfl)))) (fun _ _ _ _=>(pv 0)))
   (ag (bU (PW.pt (wB (aE rS (pv 4) (bq [45] (by decide+kernel)) (aT _)) (rn (PW.pt (jz (aE iO (pv 4) (bq [] (by decide+kernel)) (aT _)) (kQ (aE (jT K rfl hr) (pv 5) (bE ae) (aT _)))))))) (aj (aR (bE (aa (bq [114,101,102,117,115,101,100] (by decide+kernel)) (aa (az (aw K rfl) rfl T.z_len Qap (aa (pv 3) ae)) ae))))) bu)
   (aj (da (bD K rfl Qa3 Qbl Qbk cO (pv 3) (aa (bH (aO K rfl) (bE (aa (pv 4) (aa (bq [] (by decide+kernel)) ae))) (bo la rfl T.z_int boot_int (aa (mR iO (pv 4) (bq [45] (by decide+kernel)) (aT _)) ae)) (fun _ _=>rfl)) ae))))))))
   (ag (ax (i:=6) c_.nd rfl (Or.inl rfl) (bE ae))
   (ag (cW PassesOwn.never rfl (uw K rfl rfl T.z_enumerate (aa (aB g8 (hr.mono (by decide)) rfl T.wx.mg T.wx.fn.kp T.wx.bd .nil aX (aa (pv 0) ae)) ae)) (dN (n:=2) K rfl rfl (bb (aP (i:=7) c_.nd rfl (Or.inl rfl)) (bb (aP (i:=8) c_.nd rfl (Or.inl rfl)) dM))) (ag (ax (i:=9) c_.nd rfl (Or.inl rfl) (aF bQ (az (aw K rfl) rfl T.z_len Qap (aa (pv 3) ae)) (pv 7)))
   (ag (bU (aE lq (pv 9) (az (aw K rfl) rfl T.z_len Qap (aa (pv 2) ae)) (aT _)) (aj (aR (bE (aa (bq [114,101,102,117,115,101,100] (by decide+kernel)) (aa (pv 9) ae))))) bu)
   (ag (ax (i:=10) c_.nd rfl (Or.inl rfl) (bD K rfl Qas Qb8 Qb7 (fA 32) (bH (aO K rfl) (pv 2) (pv 9) (fun _ _=>rfl)) (aa (bq [32] (by decide+kernel)) ae)))
   (ag (nI (i:=11) ["_law_part"] [none] c_.nd rfl (Or.inl rfl) (iP K rfl (a_ (gI K rfl) (pv 10) (bC au) bA)) trivial (fun _ _ _ _=>(aP (i:=0) (by decide+kernel:List.Nodup (["_law_part"]:List Str)) rfl (Or.inl rfl))) (fun _ _ _ _=>wR) (fun _ _ _ _=>(aB Ba (hr.mono (by decide)) rfl T.LL.mg T.LL.fn.kp T.LL.bd .nil aX (aa (pv 0) ae))))
   (ag (bU (PW.pt (jz (aE (jT K rfl hr) (a_ (gI K rfl) (pv 10) bA (bC au)) (bE (aa (bq [98,97,110,100] (by decide+kernel)) (aa (pv 8) ae))) (aT _)) (kQ (aE (Ko K rfl hr) dW (pv 11) (by with_unfolding_all rfl))))) (aj (aR (bE (aa (bq [114,101,102,117,115,101,100] (by decide+kernel)) (aa (pv 9) ae))))) bu)
   (ag (bU (aE (jT K rfl hr) (az (sN K rfl) rfl T.z_sorted boot_sorted (aa (pv 11) ae)) (aB xU (hr.mono (by decide)) rfl T.LI.mg T.LI.fn.kp T.LI.bd .nil aX (aa (pv 3) (aa (pv 8) ae))) (aT _)) (aj (aR (bE (aa (bq [114,101,102,117,115,101,100] (by decide+kernel)) (aa (pv 9) ae))))) bu)
   (aj (da (bD K rfl Qa3 Qbl Qbk cO (pv 6) (aa (bo (bz K rfl) rfl T.z_tuple boot_tuple (aa (pv 11) ae)) ae)))))))))))
   (ag (bU (aE qe (az (aw K rfl) rfl T.z_len Qap (aa (pv 2) ae)) (aF bQ (az (aw K rfl) rfl T.z_len Qap (aa (pv 3) ae)) (az (aw K rfl) rfl T.z_len Qap (aa (pv 6) ae))) (aT _)) (aj (aR (bE (aa (bq [114,101,102,117,115,101,100] (by decide+kernel)) (aa (aF bQ (az (aw K rfl) rfl T.z_len Qap (aa (pv 3) ae)) (az (aw K rfl) rfl T.z_len Qap (aa (pv 6) ae))) ae))))) bu)
   (aj (aR (dz (aa (bo (bz K rfl) rfl T.z_tuple boot_tuple (aa (pv 3) ae)) (aa (bo (bz K rfl) rfl T.z_tuple boot_tuple (aa (pv 6) ae)) ae))))))))))),?_⟩
 obtain ⟨y,t,rfl,hy,tK,q⟩:=h
 have hs:(2000000:Nat)<sizeLine:=by decide
 have Rt:=tG hy tK
 have O5:=tK.2
 have YC:=hy.2
 have xR:=dH (c:=10) t
 have LV: ∀r∈bY 10 t,jy r:=fun r hr=>⟨fun c hc=>tK.1 c (eW hr c hc).1,by have:=xR.1 r hr;omega⟩
 have hbm:=s_ y
 have v_:=tF (y:=y) (bY 10 t)
 have Uo:32∉y:=fun z=>(oH _ (hy.1 _ z).mem).1 rfl
 have LN: ∀(l:List Nat),(∀c∈l,c<128)-> ∀u∈l.map (fun c=>[c]), ∀c∈u,c<128:=fun l hl u hu c hc=>by
  obtain ⟨d,hd,rfl⟩:=Qa5.mp hu
  rw[QB.mp hc]
  exact hl d hd
 have lay0: ∀u∈([]:List (List Nat)), ∀c∈u,c<128:=fun _ h=>absurd h Qam
 refine ⟨_,rfl,rfl,_,rfl,rfl,by omega,fun p1 n1=>?_⟩
 unfold Ey at q
 generalize bY 10 t=rows at Rt xR LV v_ q ⊢
 have eL:upd H p1 (.lst (rows.map fun l=>V.str (S l))) p1=some (.lst (ba rows)):=af
 have s1:=ah.upd (o:= .lst (rows.map fun l=>V.str (S l))) n1
 generalize upd H p1 (.lst (rows.map fun l=>V.str (S l)))=H1 at eL s1 ⊢
 refine ⟨by show 0<=sizeLine;decide,fun p2 n2=>?_⟩
 have ME:H p2=none:=s1.free n2
 have YJ:p1≠p2:=ak eL n2
 refine ⟨fun m σ H'=> ∃(wv bv:Option V) (cE:List (List Nat)),σ=[some (.str (S y)),some (.str (S t)),some (.ref p1),some (.ref p2),wv,bv,none,none,none,none,none,none]/\m=rows.length - cE.length/\cE.length<=rows.length/\fZ y rows=cE++fZ y (rows.drop cE.length)/\H' p2=some (.lst (ba cE))/\H' p1=some (.lst (ba rows))/\ah H H',⟨_,none,none,[],rfl,rfl,Qaq _,rfl,af,by rw[ao YJ];exact eL,s1.trans (ah.upd n2)⟩,?_⟩
 rintro m σ H2 ⟨wv,bv,cE,rfl,hm,hwr,pS,tP,tQ,s2⟩
 by_cases zB: ∃v,rows[cE.length]? =some (cw++32::v)
 ·obtain ⟨v,hv⟩:=zB
  have bW:=(Xy.mp hv).1
  have BA:lZ (ba rows) ((cE.length:Nat):Int)=some (.str (S (cw++32::v))):=bf (by unfold ba;rw[Qau,hv];rfl)
  have DK:=LV _ (Qay hv)
  have IQ:rows.drop cE.length=(cw++32::v)::rows.drop (cE.length+1):=by rw[Qa7 bW,(Xy.mp hv).2]
  have Pb:=DK.2
  have Rr:v.length+5<=640:=by rw[JQ,Zy]at Pb;have:4+(v.length+1)<=640:=Pb;omega
  refine ⟨_,rfl,p2,_,rfl, .inl (aN.of tP),_,rfl,p1,_,rfl, .inl (aN.of tQ),_,_,rfl,rfl,_,rfl,ou (decide_eq_true (by rw[ay,ay];omega)) ?_⟩
  have Pc:lZ (ba rows) (((ba cE).length:Nat):Int)=some (.str (S (cw++32::v))):=by rw[ay];exact BA
  refine ⟨_,rfl,_,rfl,p2,_,rfl, .inl (aN.of tP),p1,_,_,_,rfl,rfl,aN.of tQ,Pc,rfl,_,_,rfl,rfl,_,rfl,ou ?_ ?_⟩
  ·refine Bool.and_eq_true_iff.mpr ⟨decide_eq_true ?_,decide_eq_true rfl⟩
   rw[JQ,Zy]
   show 5<=4+(v.length+1)
   omega
  refine ⟨_,rfl,_,rfl,p2,_,rfl, .inl (aN.of tP),p1,_,_,_,rfl,rfl,aN.of tQ,Pc,_,rfl,_,rfl,by omega,?_⟩
  have Up:cut (cw++32::v) (some 5) none=v:=by
   have:=fL (cw++32::v) 5
   rw[show ((5:Nat):Int)=5 from rfl]at this
   rw[this]
   rfl
  rw[Up]
  refine ⟨_,rfl,v,rfl,?_⟩
  refine gH (xs:=bX v) (fun i acc H'=>ah H2 H'/\acc=bX ((v.take i).filter fun c=>!decide (c∈y))) (by rw[aU];omega) ⟨ah.refl _,rfl⟩ ?_ ?_
  ·rintro k u acc H3 Nx hk hu fW ⟨s3,rfl⟩ nx
   obtain ⟨c,hc,rfl⟩:=eQ hu
   have e:=fb (p:=fun c=>!decide (c∈y)) hc
   refine ⟨⟨rfl,trivial⟩,?_⟩
   refine ⟨_,rfl,_,rfl,c,_,rfl,rfl,_,rfl,?_⟩
   refine cn (fun z=>?_) (fun z=>?_)
   ·rw[if_pos z]at e
    exact ⟨_,rfl,nx _ _ (by simpa using fW) ⟨s3,by rw[e, <-gP]⟩⟩
   ·rw[if_neg z,Qal]at e
    exact nx _ _ (Qcj fW) ⟨s3,by rw[e]⟩
  rintro acc H3 D fW ⟨s3,rfl⟩ hD
  rw[aU,Qbh]
  generalize A8:(v.filter fun c=>!decide (c∈y))=bad
  have hv8: ∀c∈v,c<128:=fun c hc=>DK.1 c (Qag _ (Zz _ hc))
  have LO: ∀c∈bad,c<128:=fun c hc=>hv8 c (by rw[<-A8]at hc;exact (Qbb.mp hc).1)
  have IB:=af (H:=H3) (a:=D) (o:=HO.lst (bX bad))
  have s4:=ah.upd (o:=HO.lst (bX bad)) hD
  generalize upd H3 D (.lst (bX bad))=H4 at IB s4 ⊢
  have GC:=s3.trans s4
  have DJ:=s2.trans GC
  have vY:=GC _ _ tP
  have tR:=GC _ _ tQ
  have Pd:=vt (y:=y) (v:=v) Uo
  rw[IQ]at pS
  have xV:dG y (cw++32::v)=none-> ∀p H',H' p=some (.lst [.str (S mv), .int (cE.length:Nat)])->ah H H'->Q (.ref p) H':=fun hn=>by
   rw[kA hn,Qal]at pS
   rw[pS,IQ]at q
   exact Dv rfl q
  have go: ∀(w:List Nat) (H5:Hp) (wv bv:Option V),dG y (cw++32::v)=some w->H5 p2=some (.lst (ba cE))->H5 p1=some (.lst (ba rows))->ah H H5-> ∃m',m'<m/\ ∃(wv' bv':Option V) (Pe:List (List Nat)),[some (V.str (S y)),some (.str (S t)),some (.ref p1),some (.ref p2),wv,bv,none,none,none,none,none,none]=[some (.str (S y)),some (.str (S t)),some (.ref p1),some (.ref p2),wv',bv',none,none,none,none,none,none]/\m'=rows.length - Pe.length/\Pe.length<=rows.length/\fZ y rows=Pe++fZ y (rows.drop Pe.length)/\upd H5 p2 (.lst (ba cE++[.str (S w)])) p2=some (.lst (ba Pe))/\upd H5 p2 (.lst (ba cE++[.str (S w)])) p1=some (.lst (ba rows))/\ah H (upd H5 p2 (.lst (ba cE++[.str (S w)]))):=fun w H5 wv bv hc g2 g1 sg=>by
   have hl1:(cE++[w]).length=cE.length+1:=by rw[JQ];rfl
   refine ⟨rows.length - (cE++[w]).length,by omega,wv,bv,cE++[w],rfl,rfl,by omega,?_,by rw[af];exact congrArg (fun x=>some (HO.lst x)) (i4 cE w),by rw[ao YJ];exact g1,fun c o e=>by rw[ao (ak e ME)];exact sg c o e⟩
   rw[pS,oN hc,hl1,Xz]
   rfl
  by_cases Bb:v=[45]
  ·refine ⟨_,rfl,v,[45],rfl,rfl,_,rfl,mI (by rw[decide_eq_true Bb];decide) ?_⟩
   refine ⟨_,rfl, .inl ⟨rfl,_,aN.of vY⟩,_,rfl,by show 2<=sizeLine;decide,fun pl GL=>?_⟩
   refine ⟨_,rfl,v,[45],rfl,rfl, .inr ⟨_,rfl,pl,_,_, .str (S []),rfl,rfl,aN.of af,?_,p2,_,_,rfl,rfl,(ah.upd GL) _ _ vY,by rw[ay];omega,?_⟩⟩
   ·rw[decide_eq_true Bb]
    exact bf (xs:=[V.str (S v),V.str (S [])]) (j:=1) rfl
   ·exact go [] _ _ _ (by rw[Pd,if_pos Bb]) ((ah.upd GL) _ _ vY) ((ah.upd GL) _ _ tR) (DJ.trans (ah.upd GL))
  ·refine ⟨_,rfl,v,[45],rfl,rfl,_,rfl,ou (by rw[decide_eq_false Bb];rfl) ?_⟩
   rw[if_neg Bb]at Pd
   refine ⟨_,rfl,v,[],rfl,rfl,_,rfl,cn (fun z=>?_) (fun z=>?_)⟩
   ·have Uq:v=[]:=of_decide_eq_true z
    refine ⟨_,rfl,p2,_,rfl, .inl (aN.of vY),by show 2<=sizeLine;decide,fun pr Bc=>?_⟩
    refine xV (by rw[Pd,if_neg fun g=>g.1 Uq]) pr _ ?_ (DJ.trans (ah.upd Bc))
    rw[af,ay]
    rfl
   ·have Uq:v≠[]:=fun g=>z (decide_eq_true g)
    refine ⟨_,rfl,by show 0<=sizeLine;decide,fun p5 n5=>?_⟩
    have s5:=ah.upd (o:=HO.lst []) n5
    have o7:=af (H:=H4) (a:=p5) (o:=HO.lst [])
    generalize upd H4 p5 (.lst [])=H5 at s5 o7 ⊢
    have T5:bX bad=ba (bad.map fun c=>[c]):=by unfold bX ba;rw[Qbs];rfl
    refine ⟨.list (gD (bad.map fun c=>[c])), .list (gD []), .lst (aN.of (by rw[<-T5];exact s5 _ _ IB)) (dF _), .lst (aN.of o7) .nil,⟨eh (LN bad LO),eh lay0⟩,by show PyData.depthAll (gD _)+1<=60;rw[fF];decide,?_⟩
    have ev:PyData.eqv (.list (gD (bad.map fun c=>[c]))) (.list (gD []))=decide (bad.map (fun c=>[c])=[]):=gR _ _
    rw[ev]
    have xQ:=DJ.trans s5
    have GN:=s5 _ _ vY
    have Ur:=s5 _ _ tR
    have YK:sW y v=none↔bad=[]:=by
     rw[<-A8,tI]
     exact ⟨Gh,sZ⟩
    refine ⟨_,rfl,cn (fun z=>?_) (fun z=>?_)⟩
    ·have OY:bad≠[]:=fun g=>by rw[g]at z;exact absurd z (by decide)
     refine ⟨_,rfl,p2,_,rfl, .inl (aN.of GN),by show 2<=sizeLine;decide,fun pr Bc=>?_⟩
     refine xV (by rw[Pd,if_neg fun g=>OY (YK.mp g.2)]) pr _ ?_ (xQ.trans (ah.upd Bc))
     rw[af,ay]
     rfl
    ·have OY:bad=[]:=by
      by_cases g:bad=[]
      ·exact g
      ·exact absurd (by rw[decide_eq_false (by simpa using g)];rfl) z
     refine ⟨_,rfl, .inl ⟨rfl,_,aN.of GN⟩,_,rfl,by show 2<=sizeLine;decide,fun pl GL=>?_⟩
     refine ⟨_,rfl,v,[45],rfl,rfl, .inr ⟨_,rfl,pl,_,_, .str (S v),rfl,rfl,aN.of af,?_,p2,_,_,rfl,rfl,(ah.upd GL) _ _ GN,by rw[ay];omega,?_⟩⟩
     ·rw[decide_eq_false Bb]
      exact bf (xs:=[V.str (S v),V.str (S [])]) (j:=0) rfl
     ·exact go v _ _ _ (by rw[Pd,if_pos ⟨Uq,YK.mpr OY⟩]) ((ah.upd GL) _ _ GN) ((ah.upd GL) _ _ Ur) (xQ.trans (ah.upd GL))
 ·have Pf:fZ y rows=cE:=by
   by_cases bW:cE.length<rows.length
   ·rw[Qa7 bW,kA (vv fun v e=>zB ⟨v,by rw[<-e];exact Mn bW⟩),Qal]at pS
    exact pS
   ·rw[Qbu (by omega)]at pS
    exact pS.trans (Qal _)
  rw[Pf]at Rt v_ q
  clear pS Pf hm
  apply TY (H5:=H2)
  ·intro key
   by_cases bW:cE.length<rows.length
   ·have BA:lZ (ba rows) (((ba cE).length:Nat):Int)=some (.str (S rows[cE.length])):=by rw[ay];exact bf (by unfold ba;rw[Qau,Mn bW];rfl)
    refine ⟨_,rfl,p2,_,rfl, .inl (aN.of tP),_,rfl,p1,_,rfl, .inl (aN.of tQ),_,_,rfl,rfl,_,rfl,ou (decide_eq_true (by rw[ay,ay];omega)) ?_⟩
    refine ⟨_,rfl,_,rfl,p2,_,rfl, .inl (aN.of tP),p1,_,_,_,rfl,rfl,aN.of tQ,BA,rfl,_,_,rfl,rfl,_,rfl,mI (Qev.mpr fun z=>zB ⟨_,(Mn bW).trans (congrArg some (AW z))⟩) ?_⟩
    exact key _ (ah.refl _)
   ·refine ⟨_,rfl,p2,_,rfl, .inl (aN.of tP),_,rfl,p1,_,rfl, .inl (aN.of tQ),_,_,rfl,rfl,_,rfl,mI (Qev.mpr fun z=>?_) ?_⟩
    ·have:=of_decide_eq_true z
     rw[ay,ay]at this
     omega
    ·exact key _ (ah.refl _)
  intro H3 s3
  have Pg:=s3 _ _ tP
  have xS:=s3 _ _ tQ
  have tX:=s2.trans s3
  clear tP tQ s2 s3 zB
  refine ⟨by show 0<=sizeLine;decide,fun p3 n3=>?_⟩
  have MD:H p3=none:=tX.free n3
  have O6:p1≠p3:=ak xS n3
  have h23:p2≠p3:=ak Pg n3
  have kM:=af (H:=H3) (a:=p3) (o:=HO.lst [])
  have Us:=ah.upd (o:=HO.lst []) n3
  have vY:=Us _ _ Pg
  have tR:=Us _ _ xS
  have DJ:=tX.trans Us
  generalize upd H3 p3 (.lst [])=H4 at kM vY tR DJ ⊢
  refine ⟨_,rfl,y,rfl,by omega,fun qb l' H5 nq GO Ee wy s5=>?_⟩
  have el:=ko (by rw[fN hy.1]at Ee;exact Ee) wy
  subst el
  have Oz:qb≠p3:=fun z=>by rw[z,kM]at nq;cases nq
  change AO cE (fun os=> ∀dr jB H',wm H' dr cE jB->gC jB=os->ah H H'->Q (.ref dr) H') _ _ _ _ _ at q
  generalize hP:(fun os=> ∀dr jB H',wm H' dr cE jB->gC jB=os->ah H H'->Q (.ref dr) H')=P at q
  generalize hR:(fun k:Nat=> ∀p H',H' p=some (.lst [.str (S mv), .int (k:Nat)])->ah H H'->Q (.ref p) H')=R at q
  refine ⟨qb,rfl,⟨_,aN.of GO⟩,?_⟩
  refine qE (K:=K) (a:=qb) (xs:=bX (bh y)) (fun i σ H'=> ∃(od:List Od) (kv bd av pv ov:Option V),σ=[some (.str (S y)),some (.str (S t)),some (.ref p1),some (.ref p2),wv,bv,some (.ref p3),kv,bd,av,pv,ov]/\H' p3=some (.lst (kr od))/\od.length=i/\cE.length+i<=rows.length/\AO cE P R (cE.length+i) ((bh y).drop i) (rows.drop (cE.length+i)) (gC od)/\(∀o∈od,wj H' o)/\H' p1=some (.lst (ba rows))/\H' p2=some (.lst (ba cE))/\H' qb=some (.lst (bX (bh y)))/\ah H H')
   ⟨[],none,none,none,none,none,rfl,s5 _ _ kM,rfl,hwr,q,fun _ h=>absurd h Qam,s5 _ _ tR,s5 _ _ vY,GO,DJ.trans s5⟩ (fun i σ H' _ ⟨_,_,_,_,_,_,_,_,_,_,_,_,_,_,h,_⟩=>aN.of h) ?_ ?_
  ·rintro i x σ H6 T hx ⟨od,kv,bd,av,pv,ov,rfl,Be,A_,hle,jD,bg,GP,Bf,L0,s6⟩ nT
   obtain ⟨b,hb,rfl⟩:=eQ hx
   have hi:=(Xy.mp hb).1
   have Rq:=ze hy.1 b (Qay hb)
   have O0:Lt b:= .inl Rq
   rw[Qa7 hi,(Xy.mp hb).2]at jD
   refine ⟨T,_,rfl,cU.of af,rfl,_,_,rfl,_,_,rfl,rfl,?_⟩
   have sT:=ah.upd (o:= .tup [.int i, .str (S [b])]) nT
   generalize upd H6 T (.tup [.int i, .str (S [b])])=H7 at sT ⊢
   have Ph:=sT _ _ Be
   have GQ:=sT _ _ GP
   have L3:=sT _ _ Bf
   have Pj:=sT _ _ L0
   have s7:=s6.trans sT
   have Pk: ∀o∈od,wj H7 o:=fun o ho=>(bg o ho).same sT
   clear Be GP Bf L0 s6 bg sT nT
   have e9:(((ba cE).length:Nat):Int)+(i:Int)=((cE.length+i:Nat):Int):=by rw[ay];omega
   refine ⟨_,rfl,p2,_,rfl, .inl (aN.of L3),_,rfl,_,_,rfl,rfl,?_⟩
   have xV:R (cE.length+i)-> ∀p H',H' p=some (.lst [.str (S mv), .int ((((ba cE).length:Nat):Int)+(i:Int))])->ah H H'->Q (.ref p) H':=fun h=>by rw[<-hR]at h;rw[e9];exact h
   refine ⟨_,rfl,_,rfl,p1,_,rfl, .inl (aN.of GQ),_,_,rfl,rfl,_,rfl,cn (fun e=>?_) (fun e=>?_)⟩
   ·have heq:cE.length+i=rows.length:=by
     have:=of_decide_eq_true e
     rw[ay,ay]at this
     omega
    have hd0:rows.drop (cE.length+i)=[]:=Qbu (by omega)
    rw[hd0]at jD
    exact ⟨_,rfl,by show 2<=sizeLine;decide,fun pr Bc=>xV jD pr _ af (s7.trans (ah.upd Bc))⟩
   have bW:cE.length+i<rows.length:=by
    have h1: ¬((((ba cE).length:Nat):Int)+(i:Int)=(((ba rows).length:Nat):Int)):=fun z=>e (decide_eq_true z)
    rw[ay,ay]at h1
    omega
   have DP:rows[cE.length+i]? =some rows[cE.length+i]:=Mn bW
   rw[Qa7 bW]at jD
   have DK:=LV _ (Qa4 bW)
   generalize rows[cE.length+i]=row at DP jD DK
   have aal:=DK.2
   have BA:lZ (ba rows) ((((ba cE).length:Nat):Int)+(i:Int))=some (.str (S row)):=by rw[e9];exact bf (by unfold ba;rw[Qau,DP];rfl)
   refine ⟨_,rfl,_,rfl,p1,_,_, .str (S row),rfl,rfl,aN.of GQ,BA,rfl,row,rfl,rfl,by omega,fun p5 n5=>?_⟩
   have fu:=dH (c:=32) row
   have zy: ∀l∈bY 32 row,jy l:=fun l hl=>⟨fun c hc=>DK.1 c (eW hl c hc).1,by have:=fu.1 l hl;omega⟩
   have DW:(∃ps:List (Nat×Nat),(bY 32 row=cN::[b]::ps.map stx/\ps.Perm (aK b cE cE.length))/\AO cE P R (cE.length+i+1) ((bh y).drop (i+1)) (rows.drop (cE.length+i+1)) (gC od++[ps]))\/((∀ps:List (Nat×Nat), ¬(bY 32 row=cN::[b]::ps.map stx/\ps.Perm (aK b cE cE.length)))/\R (cE.length+i)):=jD
   clear jD
   generalize bY 32 row=cD at DW fu zy ⊢
   have o7:upd H7 p5 (.lst (cD.map fun l=>V.str (S l))) p5=some (.lst (ba cD)):=af
   have BF:=ah.upd (o:= .lst (cD.map fun l=>V.str (S l))) n5
   generalize upd H7 p5 (.lst (cD.map fun l=>V.str (S l)))=H8 at o7 BF ⊢
   have Pl:=BF _ _ Ph
   have Pm:=BF _ _ GQ
   have Po:=BF _ _ L3
   have Pp:=BF _ _ Pj
   have s8:=s7.trans BF
   have Pq: ∀o∈od,wj H8 o:=fun o ho=>(Pk o ho).same BF
   clear Ph GQ L3 Pj s7 Pk BF n5
   have OW:j8 (ba cD) none (some 2)=ba (cD.take 2):=by
    have:=ow (ba cD) 2
    rw[show ((2:Nat):Int)=2 from rfl]at this
    show cut (ba cD) none (some 2)=_
    rw[this]
    unfold ba
    rw[Qdz]
   have MA:j8 (ba cD) (some 2) none=ba (cD.drop 2):=by
    have:=fL (ba cD) 2
    rw[show ((2:Nat):Int)=2 from rfl]at this
    show cut (ba cD) (some 2) none=_
    rw[this]
    unfold ba
    rw[Qd0]
   refine ⟨_,rfl,_,rfl,p5,_,rfl,aN.of o7,fun p6 n6=>?_⟩
   rw[MA]
   have wz:=af (H:=H8) (a:=p6) (o:=HO.lst (ba (cD.drop 2)))
   have Ut:=ah.upd (o:=HO.lst (ba (cD.drop 2))) n6
   generalize upd H8 p6 (.lst (ba (cD.drop 2)))=H9 at wz Ut ⊢
   refine ⟨p6,rfl,⟨_,aN.of wz⟩,?_⟩
   have YG:(cD.drop 2).length<=700:=by rw[Qat];omega
   refine qA (K:=K) (a:=p6) (xs:=ba (cD.drop 2)) (fun k acc H'=>ah H9 H'/\wq H' acc ((cD.drop 2).take k)) (by rw[ay];omega) (fun k acc H' h=>aN.of (h.1 _ _ wz)) ⟨ah.refl _,trivial⟩ ?_ ?_
   ·rintro k x acc MC Nx hk hx fW ⟨DN,GD⟩ nx
    obtain ⟨l,hl,rfl⟩:=kz hx
    have uP:=zy l (Qbg (Qay hl))
    refine ⟨trivial,sR ?_⟩
    refine ⟨_,rfl,l,rfl,uP,?_⟩
    by_cases EI: ∃p,l=stx p
    ·obtain ⟨p,hp⟩:=EI
     refine .inl ⟨p,hp,fun t2 IK IS DO=>?_⟩
     refine nx _ _ (by simpa using fW) ⟨DN.trans DO,?_⟩
     rw[<-take_snoc hl]
     exact (GD.ts (bF.of DO)).snoc (.inl ⟨p,t2,hp,rfl,IS⟩)
    ·refine .inr ⟨fun p hp=>EI ⟨p,hp⟩,fun IK DO=>?_⟩
     refine nx _ _ (by simpa using fW) ⟨DN.trans DO,?_⟩
     rw[<-take_snoc hl]
     exact (GD.ts (bF.of DO)).snoc (.inr ⟨fun p hp=>EI ⟨p,hp⟩,rfl⟩)
   rintro vs MC D fW ⟨DN,GD⟩ hD
   rw[ay,Qbh]at GD
   have IB:=af (H:=MC) (a:=D) (o:=HO.lst vs)
   have sD:=ah.upd (o:=HO.lst vs) hD
   generalize upd MC D (.lst vs)=IK at IB sD ⊢
   have vZ:=(Ut.trans DN).trans sD
   have Uu:=GD.ts (bF.of sD)
   have Pu:=vZ _ _ Pl
   have Pw:=vZ _ _ Pm
   have IU:=vZ _ _ Po
   have Px:=vZ _ _ Pp
   have Py:=vZ _ _ o7
   have DO:=s8.trans vZ
   have Pz: ∀o∈od,wj IK o:=fun o ho=>(Pq o ho).same vZ
   clear Pl Pm Po Pp o7 s8 Pq vZ GD sD DN Ut wz n6
   refine ⟨_,rfl,_,rfl,p5,_,rfl,aN.of Py,fun p7 n7=>?_⟩
   rw[OW]
   have IE:=af (H:=IK) (a:=p7) (o:=HO.lst (ba (cD.take 2)))
   have YL:=ah.upd (o:=HO.lst (ba (cD.take 2))) n7
   generalize upd IK p7 (.lst (ba (cD.take 2)))=Ro at IE YL ⊢
   refine ⟨_,rfl,by show 2<=sizeLine;decide,fun p8 n8=>?_⟩
   have Uv:=ah.upd (o:= .lst [V.str (S [98,97,110,100]),V.str (S [b])]) n8
   have EB:upd Ro p8 (.lst [V.str (S [98,97,110,100]),V.str (S [b])]) p8=some (.lst (ba [cN,[b]])):=af
   generalize upd Ro p8 (.lst [V.str (S [98,97,110,100]),V.str (S [b])])=Uw at Uv EB ⊢
   have LR: ∀l∈[cN,[b]], ∀c∈l,c<128:=fun l hl c hc=>by
    rcases XB.mp hl with g | g
    ·rw[g]at hc;revert c hc;decide
    ·rw[QB.mp g]at hc;rw[QB.mp hc];exact O0.lt
   have LS: ∀l∈cD.take 2, ∀c∈l,c<128:=fun l hl=>(zy l (Qba hl)).1
   refine ⟨.list (gD (cD.take 2)), .list (gD [cN,[b]]), .lst (aN.of (Uv _ _ IE)) (dF _), .lst (aN.of EB) (dF _),⟨eh LS,eh LR⟩,by show PyData.depthAll (gD (cD.take 2))+1<=60;rw[fF];decide,?_⟩
   have T_:PyData.eqv (.list (gD (cD.take 2))) (.list (gD [cN,[b]]))=decide (cD.take 2=[cN,[b]]):=gR _ _
   rw[T_]
   have v3:=YL.trans Uv
   have L4:=DO.trans v3
   refine ⟨_,rfl,cn (fun e=>?_) (fun e=>?_)⟩
   ·have hn:cD.take 2≠[cN,[b]]:=fun z=>by rw[decide_eq_true z]at e;exact absurd e (by decide)
    rcases DW with ⟨ps,⟨g,_⟩,_⟩ | ⟨_,vW⟩
    ·exact absurd (by rw[g];rfl) hn
    ·exact ⟨_,rfl,by show 2<=sizeLine;decide,fun pr Bc=>xV vW pr _ af (L4.trans (ah.upd Bc))⟩
   have h2:cD.take 2=[cN,[b]]:=by
    by_cases z:cD.take 2=[cN,[b]]
    ·exact z
    ·exact absurd (by rw[decide_eq_false z];rfl) e
   have A9:cD=cN::[b]::cD.drop 2:=by
    have:=Qan 2 cD
    rw[h2]at this
    exact this.symm
   have zC:=v3 _ _ IB
   have PC:=Uu.ts (bF.of v3)
   rcases wq.or (K:=K) PC with ⟨qs,rfl,IL,Ru⟩ | ⟨hno,ds,hds,Nf,Ux⟩
   rotate_left
   ·refine ⟨_,rfl, .none,ds, .cK, .lst (aN.of zC) hds,⟨rfl,Nf⟩,by decide,_,rfl,ou Ux ?_⟩
    rcases DW with ⟨ps,⟨g,_⟩,_⟩ | ⟨_,vW⟩
    ·exact absurd (by rw[g];rfl) (hno ps)
    ·exact ⟨_,rfl,by show 2<=sizeLine;decide,fun pr Bc=>xV vW pr _ af (L4.trans (ah.upd Bc))⟩
   refine ⟨_,rfl, .none,_, .cK, .lst (aN.of zC) (tJ Ru),⟨rfl,m7 _⟩,by decide,_,rfl,mI (zq _) ?_⟩
   refine ⟨_,rfl,D,_,_,1,rfl, .inl (aN.of zC),xI Ru,fun p9 wg n9 hpy hys=>?_⟩
   obtain ⟨xJ,rfl,QZ⟩:=Gp hpy
   have PD: ∀q∈xJ,Gm Uw q:=fun q hq=>Ru q (QZ.mem_iff.mp hq)
   have IV:=hys _ (xI PD)
   have II:=af (H:=Uw) (a:=p9) (o:=HO.lst (BB xJ))
   have Uy:=ah.upd (o:=HO.lst (BB xJ)) n9
   generalize upd Uw p9 (.lst (BB xJ))=H14 at II Uy ⊢
   have PH:=v3.trans Uy
   refine ⟨_,rfl,_,rfl,p2,cE,b,rfl,PH _ _ IU,Rt.iT,Rt.all,Rq,fun pq ss YM npq Uz BD iE QG=>?_⟩
   have v5:=Uy.trans QG
   refine ⟨.list ((vE xJ).map jW), .list ((aK b cE cE.length).map jW), .lst (aN.of (QG _ _ II)) (tJ fun q hq=>v5 _ _ (PD q hq)), .lst (aN.of Uz) (by rw[<-iE];exact oG BD),⟨m7 _,m7 _⟩,by show PyData.depthAll _+1<=60;have:=zo (vE xJ);omega,?_⟩
   have Ud:PyData.eqv (.list ((vE xJ).map jW)) (.list ((aK b cE cE.length).map jW))=decide (vE xJ=aK b cE cE.length):=Gn _ _
   rw[Ud]
   have Ep:(vE xJ).Perm (vE qs):=QZ.map _
   have UA:=L4.trans v5
   refine ⟨_,rfl,cn (fun e=>?_) (fun e=>?_)⟩
   ·have hn:vE xJ≠aK b cE cE.length:=fun z=>by rw[decide_eq_true z]at e;exact absurd e (by decide)
    rcases DW with ⟨ps,⟨g,pg⟩,_⟩ | ⟨_,vW⟩
    ·exfalso
     have O3:ps=vE qs:=by
      rw[A9,IL]at g
      exact (map_inj (Qbv (Qbv g).2).2).symm
     subst O3
     refine hn (Du (Ep.trans pg) ?_ (mq b cE cE.length (XA _)))
     rw[Qb2]at IV
     exact IV.imp fun {x y} h=>by rw[<-Lw];exact h
    ·exact ⟨_,rfl,by show 2<=sizeLine;decide,fun pr Bc=>xV vW pr _ af (UA.trans (ah.upd Bc))⟩
   have heq:vE xJ=aK b cE cE.length:=by
    by_cases z:vE xJ=aK b cE cE.length
    ·exact z
    ·exact absurd (by rw[decide_eq_false z];rfl) e
   have lK:(vE qs).Perm (aK b cE cE.length):=by rw[<-heq];exact Ep.symm
   obtain ⟨ps,⟨g,_⟩,UB⟩:=DW.resolve_right fun z=>z.1 (vE qs) ⟨by rw[<-IL];exact A9,lK⟩
   have O3:ps=vE qs:=by
    rw[A9,IL]at g
    exact (map_inj (Qbv (Qbv g).2).2).symm
   subst O3
   have IW:=v3.trans v5
   have UC:=v5 _ _ zC
   have IX:=IW _ _ Pu
   refine ⟨_,rfl, .inl ⟨rfl,_,aN.of IX⟩,_,rfl,D,_,rfl, .inl ⟨aN.of UC,fun tq ntq=>?_⟩⟩
   have Rv:=ah.upd (o:=HO.tup (BB qs)) ntq
   have YN:=af (H:=YM) (a:=tq) (o:=HO.tup (BB qs))
   have DZ:=Rv _ _ IX
   have q_:=IW.trans Rv
   generalize upd YM tq (.tup (BB qs))=UD at Rv YN DZ q_ ⊢
   refine ⟨p3,_,_,rfl,rfl,DZ,by rw[gq];omega,?_⟩
   have ts:bF UD (upd UD p3 (.lst (kr od++[.ref tq]))):=bF.pH DZ
   have ho:wj UD ⟨tq,qs.map fun q=>⟨q.t,q.p.1,q.p.2⟩⟩:=by
    refine ⟨by rw[YN];unfold BB iF;rw[Qbs];rfl,fun p hp=>?_⟩
    obtain ⟨q,hq,rfl⟩:=Qa5.mp hp
    have hm:q.p∈ss.map Pr.pair:=by rw[iE];exact lK.mem_iff.mp (Qa5.mpr ⟨q,hq,rfl⟩)
    obtain ⟨r,hr,er⟩:=Qa5.mp hm
    have YO:=BD r hr
    refine ⟨Rv _ _ (v5 _ _ (Ru q hq)),?_,?_⟩
    ·show q.p.1<1000
     rw[<-er];exact YO.cz
    ·show q.p.2<1000
     rw[<-er];exact YO.iz
   refine ⟨od++[⟨tq,qs.map fun q=>⟨q.t,q.p.1,q.p.2⟩⟩],_,_,_,_,_,rfl,by rw[af, <-oB],by rw[JQ,A_];rfl,by omega,?_,fun z hz=>?_,by rw[ao O6];exact q_ _ _ Pw,by rw[ao h23];exact q_ _ _ IU,by rw[ao Oz];exact q_ _ _ Px,fun c u e=>by rw[ao (ak e MD)];exact q_ _ _ (DO c u e)⟩
   ·have eo:gC (od++[⟨tq,qs.map fun q=>⟨q.t,q.p.1,q.p.2⟩⟩])=gC od++[vE qs]:=by
     unfold gC
     rw[Qar,ZD,Qdn,Qbs]
     rfl
    rw[eo]
    exact UB
   ·rcases Qaa.mp hz with g | g
    ·exact ((Pz z g).same q_).ts ts
    ·rw[QB.mp g];exact ho.ts ts
  ·rintro σ H6 ⟨od,kv,bd,av,pv,ov,rfl,Be,A_,hle,jD,bg,GP,Bf,L0,s6⟩
   rw[aU]at*
   rw[Qd4]at jD
   refine ⟨_,rfl,p1,_,rfl, .inl (aN.of GP),_,rfl,p2,_,rfl, .inl (aN.of Bf),_,rfl,p3,_,rfl, .inl (aN.of Be),_,_,rfl,rfl,_,_,rfl,rfl,_,rfl,cn (fun e=>?_) (fun e=>?_)⟩
   ·have bW:cE.length+(bh y).length<rows.length:=by
     have:=of_decide_eq_true e
     rw[ay,ay,gq]at this
     omega
    rw[Qa7 bW]at jD
    have vW:R (cE.length+(bh y).length):=jD
    rw[<-hR]at vW
    refine ⟨_,rfl,p2,_,rfl, .inl (aN.of Bf),_,rfl,p3,_,rfl, .inl (aN.of Be),_,_,rfl,rfl,by show 2<=sizeLine;decide,fun pr Bc=>vW pr _ ?_ (s6.trans (ah.upd Bc))⟩
    have:(((ba cE).length:Nat):Int)+(((kr od).length:Nat):Int)=((cE.length+(bh y).length:Nat):Int):=by rw[ay,gq,A_];omega
    rw[af]
    show some (HO.lst [V.str (S mv),V.int ((((ba cE).length:Nat):Int)+(((kr od).length:Nat):Int))])=_
    rw[this]
   ·have O7:rows.length<=cE.length+(bh y).length:=by
     have h1: ¬((((ba cE).length:Nat):Int)+(((kr od).length:Nat):Int)<(((ba rows).length:Nat):Int)):=fun z=>e (decide_eq_true z)
     rw[ay,ay,gq]at h1
     omega
    rw[Qbu O7]at jD
    have O8:P (gC od):=jD
    rw[<-hP]at O8
    refine ⟨_,rfl,p2,_,rfl, .inl ⟨aN.of Bf,fun t6 n6=>?_⟩⟩
    have sA:=ah.upd (o:= .tup (ba cE)) n6
    have YQ:=af (H:=H6) (a:=t6) (o:=HO.tup (ba cE))
    generalize upd H6 t6 (.tup (ba cE))=H7 at sA YQ ⊢
    refine ⟨_,rfl,p3,_,rfl, .inl ⟨aN.of (sA _ _ Be),fun t7 n7=>?_⟩⟩
    have sB:=ah.upd (o:= .tup (kr od)) n7
    have YR:=af (H:=H7) (a:=t7) (o:=HO.tup (kr od))
    generalize upd H7 t7 (.tup (kr od))=H8 at sB YR ⊢
    refine ⟨by show 2<=sizeLine;decide,fun t8 n8=>?_⟩
    have sC:=ah.upd (o:= .tup [.ref t6, .ref t7]) n8
    exact O8 t8 od _ ⟨t6,t7,af,sC _ _ (sB _ _ YQ),sC _ _ YR,fun o ho=>(bg o ho).same ((sA.trans sB).trans sC)⟩ rfl (s6.trans ((sA.trans sB).trans sC))
theorem xW:ck P w K mg base fU 4 Iw Rf ["_law_yard_here","_law_text_here"] (oV K):=by
 have GR:=DV (P:=P) (w:=w) (base:=base) T
 refine T.EA.fn.ok o6 (fun vs H Q E h=>vC h) (fun cdv A outer s H vs Q E hr h=>?_)
 refine ⟨_,(ag (ax (i:=2) o6.nd rfl (Or.inl rfl) (aB GR (hr.mono (by decide)) rfl T.LM.mg T.LM.fn.kp T.LM.bd .nil aX (aa (pv 0) (aa (pv 1) ae))))
   (ag (bU (iI (az (si K rfl) rfl T.z_isinstance boot_isinstance (aa (pv 2) (aa (ye (v:= .ty "list") rfl T.z_list boot_list rfl) ae)))) (aj (aR (pv 2))) bu)
   (aj (aR (dz (aa (bq [116,111,108,100] (by decide+kernel)) (aa (pv 2) ae))))))),?_⟩
 obtain ⟨y,t,rfl,hy,ht,q⟩:=h
 refine ⟨_,rfl,_,rfl,y,t,rfl,hy,ht,oW (fun os q dr jB H1 hd eo s1=>?_) (fun k q p H1 hp s1=>?_) q⟩
 ·obtain ⟨wt,ot,Ew,_⟩:=id hd
  refine ⟨_,rfl,_,rfl, .inr (.inl ⟨dr,_,rfl,Ew,?_⟩)⟩
  refine ⟨_,rfl,mI rfl ?_⟩
  exact ⟨_,rfl,by show 2<=sizeLine;decide,fun p np=>q p dr jB _ af (hd.same (ah.upd np)) eo (s1.trans (ah.upd np))⟩
 ·refine ⟨_,rfl,_,rfl, .inl ⟨p,_,rfl,hp,?_⟩⟩
  refine ⟨_,rfl,ou rfl ?_⟩
  exact ⟨_,rfl,q p H1 hp s1⟩
theorem cC:ck P w K mg base fU 1 f9 d9 ["_law_box_here","_law_many"] (u_ K):=by
 refine T.F9.fn.ok o4 (fun vs H Q E h=>Av h) (fun cdv A outer s H vs Q E hr h=>?_)
 refine ⟨_,(ag (bU (aE qe (bH (aO K rfl) (pv 0) au (fun _ _=>rfl)) au (aT _)) (ag (ax (i:=2) o4.nd rfl (Or.inl rfl) (aF ic (bH (aO K rfl) (pv 0) au (fun _ _=>rfl)) (pv 1)))
   (ag (kU (aF mQ (bH (aO K rfl) (pv 0) au (fun _ _=>rfl)) (pv 1)) (kS (pv 0) au set_list))
   (aj (aR (pv 2))))) bu)
   (ag (ax (i:=3) o4.nd rfl (Or.inl rfl) (aF ic (aF k_ (bH (aO K rfl) (pv 0) au (fun _ _=>rfl)) au) au))
   (ag (kU (aF bQ (aF ic (aF bQ (aF k_ (pv 3) au) au) au) au) (kS (pv 0) au set_list))
   (aj (aR (aF ic (aF mQ (aF bQ (aF k_ (pv 3) au) (bH (aO K rfl) (pv 0) au (fun _ _=>rfl))) au) (pv 1))))))),?_⟩
 obtain ⟨b,m,rfl,⟨x,y,hb⟩,h1,h2,q⟩:=h
 have fin: ∀(r x' y':Int),0<=r->r<m->Q (.int r) (upd H b (.lst [.int x', .int y'])):=fun r x' y' h3 h4=>by
  have e:r=((r.toNat:Nat):Int):=by omega
  rw[e]
  exact q r.toNat _ (by omega) ⟨x',y',af⟩ (aI.upd b H _)
 refine ⟨_,rfl,b,_,0,_,rfl,rfl,aN.of hb,rfl,_,_,rfl,rfl,_,rfl,cn (fun e=>?_) (fun e=>?_)⟩
 ·refine ⟨_,rfl,b,_,0,_,rfl,rfl,aN.of hb,rfl,_,rfl,_,_,rfl,rfl,(by omega:0<m),?_⟩
  refine ⟨_,rfl,b,_,0,_,rfl,rfl,aN.of hb,rfl,_,rfl,_,_,rfl,rfl,⟨by omega,by omega⟩,_,rfl,b,_,0,0,rfl,rfl,hb,rfl,_,rfl,?_⟩
  exact fin (x%m) (x / m) y (Qe2 _ (by omega)) (Qeo _ (by omega))
 ·refine ⟨_,rfl,b,_,1,_,rfl,rfl,aN.of hb,rfl,_,_,rfl,rfl, .inr ⟨by decide,by decide⟩,_,_,rfl,rfl,(by decide:(0:Int)<2147483647),?_⟩
  refine ⟨_,rfl,_,_,rfl,rfl, .inr ⟨by decide,by decide⟩,_,_,rfl,rfl,_,_,rfl,rfl,(by decide:(0:Int)<2147483629),_,_,rfl,rfl,_,rfl,b,_,1,1,rfl,rfl,hb,rfl,?_⟩
  refine ⟨_,rfl,_,_,rfl,rfl, .inr ⟨by decide,by decide⟩,_,rfl,b,_,1,_,rfl,rfl,aN.of af,rfl,_,_,rfl,rfl,_,_,rfl,rfl,⟨by decide,by decide⟩,_,rfl,_,_,rfl,rfl,(by omega:0<m),?_⟩
  exact fin _ _ _ (Qe2 _ (by omega)) (Qeo _ (by omega))
theorem fS:ck P w K mg base fU 2 Iq Q9 ["_law_box_here","_law_yard_here"] (vm K):=by
 have aV:=cC (P:=P) (w:=w) (base:=base) T
 refine T.LK.fn.ok o5 (fun vs H Q E h=>AG h) (fun cdv A outer s H vs Q E hr h=>?_)
 refine ⟨_,(ag (ax (i:=2) o5.nd rfl (Or.inl rfl) (bq [32,33,34,35,36,38,39,40,41,42,43,44,45,46,47,48,49,50,51,52,53,54,55,56,57,58,59,60,61,62,63,64,91,92,93,94,95,96,123,124,125,126,10] (by decide+kernel)))
   (ag (ax (i:=3) o5.nd rfl (Or.inl rfl) (bq [97,98,99,100,101,102,103,104,105,106,107,108,109,110,111,112,113,114,115,116,117,118,119,120,121,122,65,66,67,68,69,70,71,72,73,74,75,76,77,78,79,80,81,82,83,84,85,86,87,88,89,90] (by decide+kernel)))
   (aj (aR (bH B6 (aF bR (aF bR (aF bR (pv 2) (pv 3)) (pv 1)) (bq [32,48,49,46,10] (by decide+kernel))) (aB aV (hr.mono (by decide)) rfl T.F9.mg T.F9.fn.kp T.F9.bd .nil aX (aa (pv 0) (aa (aF bQ (aF bQ (az fv rfl T.z_len Qap (aa (pv 2) ae)) au) (az fv rfl T.z_len Qap (aa (pv 1) ae))) ae))) (fun _ _=>rfl)))))),?_⟩
 obtain ⟨b,y,rfl,hb,hy,hz,q⟩:=h
 have hs:(100000:Nat)<sizeLine:=by decide
 have key: ∀(sg lt:List Nat),sg=[32,33,34,35,36,38,39,40,41,42,43,44,45,46,47,48,49,50,51,52,53,54,55,56,57,58,59,60,61,62,63,64,91,92,93,94,95,96,123,124,125,126,10]->lt=aH++jx-> ∀(r2:Nat) (H2:Hp),(r2:Int)<((sg.length:Nat):Int)+57+((y.length:Nat):Int)->bG H2 b->aI b H H2->yA (.str (S (sg++lt++y++[32,48,49,46,10]))) (.int r2) H2 Q:=fun sg lt e1 e2 r2 H2 YS gc s2=>by
  have hl:(sg++lt++y++[32,48,49,46,10]).length=43+52+y.length+5:=by rw[JQ,JQ,JQ,e1,e2];rfl
  have h43:sg.length=43:=by rw[e1];rfl
  have hc: ∀c∈sg++lt++y++[32,48,49,46,10],c<128:=fun c hc=>by
   rcases Qaa.mp hc with g | g
   ·rcases Qaa.mp g with g | g
    ·rcases Qaa.mp g with g | g
     ·rw[e1]at g
      exact (by decide: ∀c∈[32,33,34,35,36,38,39,40,41,42,43,44,45,46,47,48,49,50,51,52,53,54,55,56,57,58,59,60,61,62,63,64,91,92,93,94,95,96,123,124,125,126,10],c<128) c g
     ·rw[e2]at g
      exact (by decide: ∀c∈aH++jx,c<128) c g
    ·exact hy c g
   ·exact (by decide: ∀c∈[32,48,49,46,10],c<128) c g
  have HH:r2<(sg++lt++y++[32,48,49,46,10]).length:=by omega
  exact ⟨_,r2,(sg++lt++y++[32,48,49,46,10])[r2],rfl,rfl,by omega,bf (Mn HH),q _ H2 (hc _ (Qa4 HH)) gc s2⟩
 refine ⟨_,rfl,_,rfl,_,_,rfl,rfl,by decide,_,rfl,_,_,rfl,rfl,by rw[JQ];show 43+52+y.length<=sizeLine;omega,?_⟩
 refine ⟨_,_,rfl,rfl,by rw[JQ,JQ];show 43+52+y.length+5<=sizeLine;omega,?_⟩
 refine ⟨_,rfl,_,rfl,_,rfl,by decide,_,_,rfl,rfl,_,rfl,y,rfl,by omega,_,_,rfl,rfl,b,43+57+y.length,by rfl,hb,by omega,by omega,fun r2 H2 YS gc s2=>?_⟩
 exact key _ _ rfl rfl r2 H2 (by show (r2:Int)<((43:Nat):Int)+57+((y.length:Nat):Int);omega) gc s2
noncomputable def g9 {cdv:Value} {A:Around} {outer:List Env} {s:Shared} {H:Hp} {E:XK} (hr:cj 2 (A.deeper (envOfC "_law_otherwise" (ai aC) s.heap.objs.size q9 cdv))):{ t:TS // kN (jv fU P w K mg base ["_law_box_here","_law_yard_here","_law_text_here","_law_form","_law_at","_law_sign_here","_law_some","_law_rows","_law_k","_law_j","_law_one","_law_other_here","_law_words_here","_law_i"] "_law_otherwise" (ai aC) q9 cdv A outer s H E).BK (List.drop 4 (Gq (((Gq (((Gq (((aJ aC)).getD 6 (.Pass ⟨0,0,0,0⟩)))).getD 0 (.Pass ⟨0,0,0,0⟩)))).getD 0 (.Pass ⟨0,0,0,0⟩)))) t }:=by
 have aV:=cC (P:=P) (w:=w) (base:=base) T
 have iu:=fS (P:=P) (w:=w) (base:=base) T
 exact ⟨_,(@ag _ _ _ _ _ (@bU _ _ _ _ _ _ _ _ (@aE _ _ _ _ _ _ _ _ lq (pv 3) au (aT _)) (@ag _ _ _ _ _ (@ax _ _ 6 _ _ _ _ aG.nd rfl (Or.inl rfl) (@eT _ _ _ _ (@aa _ _ _ _ _ (@aF _ _ _ _ _ _ _ _ eU (@a_ _ _ _ _ _ _ _ _ _ _ (cq K rfl) (pv 12) bA (@bC _ _ _ (pv 13))) (@a_ _ _ _ _ _ _ _ _ _ _ (cq K rfl) (pv 12) (@bC _ _ _ (@aF _ _ _ _ _ _ _ _ bQ (pv 13) au)) bA)) (@aa _ _ _ _ _ (@aF _ _ _ _ _ _ _ _ eU (@aF _ _ _ _ _ _ _ _ eU (@a_ _ _ _ _ _ _ _ _ _ _ (cq K rfl) (pv 12) bA (@bC _ _ _ (pv 13))) (@eT _ _ _ _ (@aa _ _ _ _ _ (@bH _ _ _ _ _ _ _ (aO K rfl) (pv 12) (pv 13) (fun _ _=>rfl)) ae rfl))) (@a_ _ _ _ _ _ _ _ _ _ _ (cq K rfl) (pv 12) (@bC _ _ _ (pv 13)) bA)) ae rfl) rfl)) rfl (by first | exact .inl rfl | exact .inr rfl | assumption)) (@aj _ _ _ (@ax _ _ 12 _ _ _ _ aG.nd rfl (Or.inl rfl) (@bH _ _ _ _ _ _ _ (aO K rfl) (pv 6) (@aB _ _ _ _ _ _ _ _ _ _ _ _ _ _ _ _ aV (hr.mono (by decide)) rfl T.F9.mg T.F9.fn.kp T.F9.bd .nil aX (@aa _ _ _ _ _ (pv 0) (@aa _ _ _ _ _ au ae rfl) rfl) (by decide) rfl rfl) (fun _ _=>rfl)) rfl (by first | exact .inl rfl | exact .inr rfl | assumption)))) (@aj _ _ _ (@kU _ _ _ _ _ _ (pv 11) (@kS _ _ _ _ _ _ _ (pv 12) (pv 13) set_list (by intro _;rfl)) rfl rfl rfl))) (@aj _ _ _ (@kU _ _ _ _ _ _ (@bD _ _ _ _ _ _ _ _ _ _ _ _ K rfl Qas Qc6 Qc5 (nU K 32 rfl) (bq [32] (by decide+kernel)) (@aa _ _ _ _ _ (pv 12) ae rfl) rfl rfl rfl rfl rfl) (@kS _ _ _ _ _ _ _ (pv 7) (pv 8) set_list (by intro _;rfl)) rfl rfl rfl)))⟩
noncomputable def g_ {cdv:Value} {A:Around} {outer:List Env} {s:Shared} {H:Hp} {E:XK} (hr:cj 2 (A.deeper (envOfC "_law_otherwise" (ai aC) s.heap.objs.size q9 cdv))):{ t:TS // kN (jv fU P w K mg base ["_law_box_here","_law_yard_here","_law_text_here","_law_form","_law_at","_law_sign_here","_law_some","_law_rows","_law_k","_law_j","_law_one","_law_other_here","_law_words_here","_law_i"] "_law_otherwise" (ai aC) q9 cdv A outer s H E).BK (Gq (((Gq (((Gq (((aJ aC)).getD 6 (.Pass ⟨0,0,0,0⟩)))).getD 0 (.Pass ⟨0,0,0,0⟩)))).getD 0 (.Pass ⟨0,0,0,0⟩))) t }:=by
 have aV:=cC (P:=P) (w:=w) (base:=base) T
 have iu:=fS (P:=P) (w:=w) (base:=base) T
 exact ⟨_,(@ag _ _ _ _ _ (@ax _ _ 12 _ _ _ _ aG.nd rfl (Or.inl rfl) (@bD _ _ _ _ _ _ _ _ _ _ _ _ K rfl Qas Qb8 Qb7 (oq 32) (@bH _ _ _ _ _ _ _ (aO K rfl) (pv 7) (pv 8) (fun _ _=>rfl)) (@aa _ _ _ _ _ (bq [32] (by decide+kernel)) ae rfl) rfl rfl rfl rfl rfl) rfl (by first | exact .inl rfl | exact .inr rfl | assumption)) (@ag _ _ _ _ _ (@ax _ _ 13 _ _ _ _ aG.nd rfl (Or.inl rfl) (@aB _ _ _ _ _ _ _ _ _ _ _ _ _ _ _ _ aV (hr.mono (by decide)) rfl T.F9.mg T.F9.fn.kp T.F9.bd .nil aX (@aa _ _ _ _ _ (pv 0) (@aa _ _ _ _ _ (@az _ _ _ _ _ _ _ _ _ (aw K rfl) rfl T.z_len Qap (@aa _ _ _ _ _ (pv 12) ae rfl) (by decide) (by decide) rfl rfl) ae rfl) rfl) (by decide) rfl rfl) rfl (by first | exact .inl rfl | exact .inr rfl | assumption)) (@ag _ _ _ _ _ (@ax _ _ 6 _ _ _ _ aG.nd rfl (Or.inl rfl) (@eT _ _ _ _ (@aa _ _ _ _ _ (bq [48,46,48] (by decide+kernel)) (@aa _ _ _ _ _ (bq [48,48,46,48] (by decide+kernel)) (@aa _ _ _ _ _ (bq [48,46,48,48] (by decide+kernel)) (@aa _ _ _ _ _ (bq [49,46,48] (by decide+kernel)) (@aa _ _ _ _ _ (bq [48,46] (by decide+kernel)) (@aa _ _ _ _ _ (bq [46,48] (by decide+kernel)) (@aa _ _ _ _ _ (bq [48] (by decide+kernel)) (@aa _ _ _ _ _ (bq [45,49,46,48] (by decide+kernel)) (@aa _ _ _ _ _ (bq [43,48,46,48] (by decide+kernel)) (@aa _ _ _ _ _ (bq [48,46,48,46,48] (by decide+kernel)) (@aa _ _ _ _ _ (bq [] (by decide+kernel)) (@aa _ _ _ _ _ (bq [45] (by decide+kernel)) (@aa _ _ _ _ _ (@aF _ _ _ _ _ _ _ _ bR (@bH _ _ _ _ _ _ _ (aO K rfl) (pv 12) (pv 13) (fun _ _=>rfl)) (bq [48] (by decide+kernel))) ae rfl) rfl) rfl) rfl) rfl) rfl) rfl) rfl) rfl) rfl) rfl) rfl) rfl)) rfl (by first | exact .inl rfl | exact .inr rfl | assumption)) (@ag _ _ _ _ _ (@ax _ _ 11 _ _ _ _ aG.nd rfl (Or.inl rfl) (@bH _ _ _ _ _ _ _ (aO K rfl) (pv 6) (@aB _ _ _ _ _ _ _ _ _ _ _ _ _ _ _ _ aV (hr.mono (by decide)) rfl T.F9.mg T.F9.fn.kp T.F9.bd .nil aX (@aa _ _ _ _ _ (pv 0) (@aa _ _ _ _ _ au ae rfl) rfl) (by decide) rfl rfl) (fun _ _=>rfl)) rfl (by first | exact .inl rfl | exact .inr rfl | assumption)) (@Subtype.property _ _ (g9 T hr))))))⟩
noncomputable def hJ {cdv:Value} {A:Around} {outer:List Env} {s:Shared} {H:Hp} {E:XK} (hr:cj 2 (A.deeper (envOfC "_law_otherwise" (ai aC) s.heap.objs.size q9 cdv))):{ t:TS // kN (jv fU P w K mg base ["_law_box_here","_law_yard_here","_law_text_here","_law_form","_law_at","_law_sign_here","_law_some","_law_rows","_law_k","_law_j","_law_one","_law_other_here","_law_words_here","_law_i"] "_law_otherwise" (ai aC) q9 cdv A outer s H E).BK (Gq (((Gq (((aJ aC)).getD 6 (.Pass ⟨0,0,0,0⟩)))).getD 0 (.Pass ⟨0,0,0,0⟩))) t }:=by
 have aV:=cC (P:=P) (w:=w) (base:=base) T
 have iu:=fS (P:=P) (w:=w) (base:=base) T
 exact ⟨_,(@aj _ _ _ (@bU _ _ _ _ _ _ _ _ (@aE _ _ _ _ _ _ _ _ lq (pv 3) au (aT _)) (@ag _ _ _ _ _ (@ax _ _ 6 _ _ _ _ aG.nd rfl (Or.inl rfl) (@eT _ _ _ _ (@aa _ _ _ _ _ (bq [] (by decide+kernel)) (@aa _ _ _ _ _ (bq [99,111,114,100] (by decide+kernel)) (@aa _ _ _ _ _ (bq [99,111,114,100,32] (by decide+kernel)) (@aa _ _ _ _ _ (bq [98,97,110,100] (by decide+kernel)) (@aa _ _ _ _ _ (bq [99,111,114,100,32,45] (by decide+kernel)) (@aa _ _ _ _ _ (bq [99,111,114,100,32,45,45] (by decide+kernel)) ae rfl) rfl) rfl) rfl) rfl) rfl)) rfl (by first | exact .inl rfl | exact .inr rfl | assumption)) (@ag _ _ _ _ _ (@ax _ _ 6 _ _ _ _ aG.nd rfl (Or.inl rfl) (@aF _ _ _ _ _ _ _ _ eU (pv 6) (@eT _ _ _ _ (@aa _ _ _ _ _ (@aF _ _ _ _ _ _ _ _ bR (bq [98,97,110,100,32] (by decide+kernel)) (@bH _ _ _ _ _ _ _ B6 (pv 1) au (fun _ _=>rfl))) (@aa _ _ _ _ _ (@aF _ _ _ _ _ _ _ _ bR (bq [99,111,114,100,115,32] (by decide+kernel)) (@bH _ _ _ _ _ _ _ B6 (pv 1) au (fun _ _=>rfl))) (@aa _ _ _ _ _ (@aF _ _ _ _ _ _ _ _ bR (bq [99,111,114,100,32] (by decide+kernel)) (pv 1)) ae rfl) rfl) rfl))) rfl (by first | exact .inl rfl | exact .inr rfl | assumption)) (@aj _ _ _ (@ax _ _ 7 _ _ _ _ aG.nd rfl (Or.inl rfl) (@aF _ _ _ _ _ _ _ _ eU (@aF _ _ _ _ _ _ _ _ eU (@a_ _ _ _ _ _ _ _ _ _ _ (cq K rfl) (pv 7) bA (@bC _ _ _ (@aF _ _ _ _ _ _ _ _ bQ (pv 8) (@aF _ _ _ _ _ _ _ _ mQ (pv 9) au)))) (@eT _ _ _ _ (@aa _ _ _ _ _ (@bH _ _ _ _ _ _ _ (aO K rfl) (pv 6) (@aB _ _ _ _ _ _ _ _ _ _ _ _ _ _ _ _ aV (hr.mono (by decide)) rfl T.F9.mg T.F9.fn.kp T.F9.bd .nil aX (@aa _ _ _ _ _ (pv 0) (@aa _ _ _ _ _ au ae rfl) rfl) (by decide) rfl rfl) (fun _ _=>rfl)) ae rfl))) (@a_ _ _ _ _ _ _ _ _ _ _ (cq K rfl) (pv 7) (@bC _ _ _ (@aF _ _ _ _ _ _ _ _ bQ (pv 8) (@aF _ _ _ _ _ _ _ _ mQ (pv 9) au))) bA)) rfl (by first | exact .inl rfl | exact .inr rfl | assumption))))) (@Subtype.property _ _ (g_ T hr))))⟩
noncomputable def hU {cdv:Value} {A:Around} {outer:List Env} {s:Shared} {H:Hp} {E:XK} (hr:cj 2 (A.deeper (envOfC "_law_otherwise" (ai aC) s.heap.objs.size q9 cdv))):{ t:TS // kN (jv fU P w K mg base ["_law_box_here","_law_yard_here","_law_text_here","_law_form","_law_at","_law_sign_here","_law_some","_law_rows","_law_k","_law_j","_law_one","_law_other_here","_law_words_here","_law_i"] "_law_otherwise" (ai aC) q9 cdv A outer s H E).BK (Gq (((aJ aC)).getD 6 (.Pass ⟨0,0,0,0⟩))) t }:=by
 have aV:=cC (P:=P) (w:=w) (base:=base) T
 have iu:=fS (P:=P) (w:=w) (base:=base) T
 exact ⟨_,(@aj _ _ _ (@bU _ _ _ _ _ _ _ _ (@aE _ _ _ _ _ _ _ _ lq (pv 3) au (aT _)) (@ag _ _ _ _ _ (@BM _ _ 10 11 _ _ _ _ _ _ _ _ _ _ _ rfl aG.nd rfl rfl (by decide) rfl rfl (@aa _ _ _ _ _ (@bH _ _ _ _ _ _ _ (aO K rfl) (pv 7) (pv 8) (fun _ _=>rfl)) (@aa _ _ _ _ _ (@bH _ _ _ _ _ _ _ (aO K rfl) (pv 7) (pv 9) (fun _ _=>rfl)) ae rfl) rfl) rfl rfl) (@aj _ _ _ (@kU _ _ _ _ _ _ (@Gb _ _ _ _ _ (@aa _ _ _ _ _ (pv 11) (@aa _ _ _ _ _ (pv 10) ae rfl) rfl)) (@dN _ K rfl _ _ _ 2 _ rfl (@bb _ _ _ _ _ (@kS _ _ _ _ _ _ _ (pv 7) (pv 8) set_list (by intro _;rfl)) (@bb _ _ _ _ _ (@kS _ _ _ _ _ _ _ (pv 7) (pv 9) set_list (by intro _;rfl)) dM rfl) rfl) rfl rfl) rfl rfl rfl))) (@Subtype.property _ _ (hJ T hr))))⟩
noncomputable def hV {cdv:Value} {A:Around} {outer:List Env} {s:Shared} {H:Hp} {E:XK} (hr:cj 2 (A.deeper (envOfC "_law_otherwise" (ai aC) s.heap.objs.size q9 cdv))):{ t:TS // kN (jv fU P w K mg base ["_law_box_here","_law_yard_here","_law_text_here","_law_form","_law_at","_law_sign_here","_law_some","_law_rows","_law_k","_law_j","_law_one","_law_other_here","_law_words_here","_law_i"] "_law_otherwise" (ai aC) q9 cdv A outer s H E).BK (List.drop 3 (List.drop 3 (aJ aC))) t }:=by
 have aV:=cC (P:=P) (w:=w) (base:=base) T
 have iu:=fS (P:=P) (w:=w) (base:=base) T
 exact ⟨_,(@Fg _ _ _ _ _ (@bU _ _ _ _ _ _ _ _ (@aE _ _ _ _ _ _ _ _ lq (pv 3) au (aT _)) (@ag _ _ _ _ _ (@ax _ _ 6 _ _ _ _ aG.nd rfl (Or.inl rfl) (@eT _ _ _ _ (@aa _ _ _ _ _ (@aF _ _ _ _ _ _ _ _ eU (@a_ _ _ _ _ _ _ _ _ _ _ (cq K rfl) (pv 7) bA (@bC _ _ _ (pv 8))) (@a_ _ _ _ _ _ _ _ _ _ _ (cq K rfl) (pv 7) (@bC _ _ _ (@aF _ _ _ _ _ _ _ _ bQ (pv 8) au)) bA)) (@aa _ _ _ _ _ (@aF _ _ _ _ _ _ _ _ eU (@aF _ _ _ _ _ _ _ _ eU (@a_ _ _ _ _ _ _ _ _ _ _ (cq K rfl) (pv 7) bA (@bC _ _ _ (pv 8))) (@eT _ _ _ _ (@aa _ _ _ _ _ (@bH _ _ _ _ _ _ _ (aO K rfl) (pv 7) (pv 8) (fun _ _=>rfl)) ae rfl))) (@a_ _ _ _ _ _ _ _ _ _ _ (cq K rfl) (pv 7) (@bC _ _ _ (pv 8)) bA)) (@aa _ _ _ _ _ (@a_ _ _ _ _ _ _ _ _ _ _ (cq K rfl) (pv 7) bA (@bC _ _ _ (pv 8))) ae rfl) rfl) rfl)) rfl (by first | exact .inl rfl | exact .inr rfl | assumption)) (@aj _ _ _ (@ax _ _ 7 _ _ _ _ aG.nd rfl (Or.inl rfl) (@bH _ _ _ _ _ _ _ (aO K rfl) (pv 6) (@aB _ _ _ _ _ _ _ _ _ _ _ _ _ _ _ _ aV (hr.mono (by decide)) rfl T.F9.mg T.F9.fn.kp T.F9.bd .nil aX (@aa _ _ _ _ _ (pv 0) (@aa _ _ _ _ _ au ae rfl) rfl) (by decide) rfl rfl) (fun _ _=>rfl)) rfl (by first | exact .inl rfl | exact .inr rfl | assumption)))) (@Subtype.property _ _ (hU T hr))) (@aj _ _ _ (@aR _ _ _ _ (@bD _ _ _ _ _ _ _ _ _ _ _ _ K rfl Qas Qc6 Qc5 (nU K 10 rfl) (bq [10] (by decide+kernel)) (@aa _ _ _ _ _ (pv 7) ae rfl) rfl rfl rfl rfl rfl))))⟩
noncomputable def iD {cdv:Value} {A:Around} {outer:List Env} {s:Shared} {H:Hp} {E:XK} (hr:cj 2 (A.deeper (envOfC "_law_otherwise" (ai aC) s.heap.objs.size q9 cdv))):{ t:TS // kN (jv fU P w K mg base ["_law_box_here","_law_yard_here","_law_text_here","_law_form","_law_at","_law_sign_here","_law_some","_law_rows","_law_k","_law_j","_law_one","_law_other_here","_law_words_here","_law_i"] "_law_otherwise" (ai aC) q9 cdv A outer s H E).BK (List.drop 3 (aJ aC)) t }:=by
 have aV:=cC (P:=P) (w:=w) (base:=base) T
 have iu:=fS (P:=P) (w:=w) (base:=base) T
 exact ⟨_,(@ag _ _ _ _ _ (@ax _ _ 7 _ _ _ _ aG.nd rfl (Or.inl rfl) (@bD _ _ _ _ _ _ _ _ _ _ _ _ K rfl Qas Qb8 Qb7 (oq 10) (pv 2) (@aa _ _ _ _ _ (bq [10] (by decide+kernel)) ae rfl) rfl rfl rfl rfl rfl) rfl (by first | exact .inl rfl | exact .inr rfl | assumption)) (@ag _ _ _ _ _ (@ax _ _ 8 _ _ _ _ aG.nd rfl (Or.inl rfl) (@aB _ _ _ _ _ _ _ _ _ _ _ _ _ _ _ _ aV (hr.mono (by decide)) rfl T.F9.mg T.F9.fn.kp T.F9.bd .nil aX (@aa _ _ _ _ _ (pv 0) (@aa _ _ _ _ _ (@az _ _ _ _ _ _ _ _ _ (aw K rfl) rfl T.z_len Qap (@aa _ _ _ _ _ (pv 7) ae rfl) (by decide) (by decide) rfl rfl) ae rfl) rfl) (by decide) rfl rfl) rfl (by first | exact .inl rfl | exact .inr rfl | assumption)) (@ag _ _ _ _ _ (@ax _ _ 9 _ _ _ _ aG.nd rfl (Or.inl rfl) (@aB _ _ _ _ _ _ _ _ _ _ _ _ _ _ _ _ aV (hr.mono (by decide)) rfl T.F9.mg T.F9.fn.kp T.F9.bd .nil aX (@aa _ _ _ _ _ (pv 0) (@aa _ _ _ _ _ (@az _ _ _ _ _ _ _ _ _ (aw K rfl) rfl T.z_len Qap (@aa _ _ _ _ _ (pv 7) ae rfl) (by decide) (by decide) rfl rfl) ae rfl) rfl) (by decide) rfl rfl) rfl (by first | exact .inl rfl | exact .inr rfl | assumption)) (@Subtype.property _ _ (hV T hr)))))⟩
theorem pX:ck P w K mg base fU 3 q9 Q_ ["_law_box_here","_law_yard_here","_law_text_here"] (jM K):=by
 have aV:=cC (P:=P) (w:=w) (base:=base) T
 have iu:=fS (P:=P) (w:=w) (base:=base) T
 refine T.Ez.fn.ok aG (fun vs H Q E h=>oY h) (fun cdv A outer s H vs Q E hr h=>?_)
 refine ⟨_,(@ag _ _ _ _ _ (@ax _ _ 3 _ _ _ _ aG.nd rfl (Or.inl rfl) (@aB _ _ _ _ _ _ _ _ _ _ _ _ _ _ _ _ aV (hr.mono (by decide)) rfl T.F9.mg T.F9.fn.kp T.F9.bd .nil aX (@aa _ _ _ _ _ (pv 0) (@aa _ _ _ _ _ au ae rfl) rfl) (by decide) rfl rfl) rfl (by first | exact .inl rfl | exact .inr rfl | assumption)) (@ag _ _ _ _ _ (@ax _ _ 4 _ _ _ _ aG.nd rfl (Or.inl rfl) (@aB _ _ _ _ _ _ _ _ _ _ _ _ _ _ _ _ aV (hr.mono (by decide)) rfl T.F9.mg T.F9.fn.kp T.F9.bd .nil aX (@aa _ _ _ _ _ (pv 0) (@aa _ _ _ _ _ (@aF _ _ _ _ _ _ _ _ bQ (@az _ _ _ _ _ _ _ _ _ fv rfl T.z_len Qap (@aa _ _ _ _ _ (pv 2) ae rfl) (by decide) (by decide) rfl rfl) au) ae rfl) rfl) (by decide) rfl rfl) rfl (by first | exact .inl rfl | exact .inr rfl | assumption)) (@ag _ _ _ _ _ (@bU _ _ _ _ _ _ _ _ (@aE _ _ _ _ _ _ _ _ qc (pv 3) au (aT _)) (@ag _ _ _ _ _ (@ax _ _ 5 _ _ _ _ aG.nd rfl (Or.inl rfl) (@aB _ _ _ _ _ _ _ _ _ _ _ _ _ _ _ _ iu (hr.mono (by decide)) rfl T.LK.mg T.LK.fn.kp T.LK.bd .nil aX (@aa _ _ _ _ _ (pv 0) (@aa _ _ _ _ _ (pv 1) ae rfl) rfl) (by decide) rfl rfl) rfl (by first | exact .inl rfl | exact .inr rfl | assumption)) (@ag _ _ _ _ _ (@ax _ _ 6 _ _ _ _ aG.nd rfl (Or.inl rfl) (@eT _ _ _ _ (@aa _ _ _ _ _ (@aF _ _ _ _ _ _ _ _ bR (@aF _ _ _ _ _ _ _ _ bR (@a_ _ _ _ _ _ _ _ _ _ _ rN (pv 2) bA (@bC _ _ _ (pv 4))) (pv 5)) (@a_ _ _ _ _ _ _ _ _ _ _ rN (pv 2) (@bC _ _ _ (pv 4)) bA)) (@aa _ _ _ _ _ (@aF _ _ _ _ _ _ _ _ bR (@aF _ _ _ _ _ _ _ _ bR (@a_ _ _ _ _ _ _ _ _ _ _ rN (pv 2) bA (@bC _ _ _ (pv 4))) (pv 5)) (@a_ _ _ _ _ _ _ _ _ _ _ rN (pv 2) (@bC _ _ _ (@aF _ _ _ _ _ _ _ _ bQ (pv 4) au)) bA)) ae rfl) rfl)) rfl (by first | exact .inl rfl | exact .inr rfl | assumption)) (@aj _ _ _ (@aR _ _ _ _ (@bH _ _ _ _ _ _ _ (aO K rfl) (@aF _ _ _ _ _ _ _ _ eU (pv 6) (@eT _ _ _ _ (@aa _ _ _ _ _ (@aF _ _ _ _ _ _ _ _ bR (@a_ _ _ _ _ _ _ _ _ _ _ rN (pv 2) bA (@bC _ _ _ (pv 4))) (@a_ _ _ _ _ _ _ _ _ _ _ rN (pv 2) (@bC _ _ _ (@aF _ _ _ _ _ _ _ _ bQ (pv 4) au)) bA)) ae rfl))) (pv 3) (fun _ _=>rfl)))))) bu) (@Subtype.property _ _ (iD T hr))))),?_⟩
 obtain ⟨b,y,t,rfl,hb,hy,L5,hyz,ht,O5,q⟩:=h
 have hs:(2000000:Nat)<sizeLine:=by decide
 refine ⟨_,rfl,b,8,rfl,hb,by decide,by decide,fun fm H1 Rw As s1=>?_⟩
 refine ⟨_,rfl,_,rfl,t,rfl,by omega,_,_,rfl,rfl,b,_,rfl,As,by omega,by omega,fun at_ H2 BA gc s2=>?_⟩
 have zD:=s1.trans s2
 clear s1 s2 As
 refine ⟨_,rfl,_,_,rfl,rfl,_,rfl,cn (fun z=>?_) (fun z=>?_)⟩
 ·refine ⟨_,rfl,_,rfl,b,y,rfl,gc,hy,hyz,fun x H3 hx mD s3=>?_⟩
  have tX:=zD.trans s3
  clear zD s3 gc
  have e1:=ow t at_
  have e2:=fL t at_
  have e3:cut t (some ((at_:Int)+1)) none=t.drop (at_+1):=fL t (at_+1)
  have ct:C8 t:=ht
  have c1:C8 (t.take at_):=fun c hc=>ht c (Qba hc)
  have c2:C8 (t.drop at_):=fun c hc=>ht c (Qbg hc)
  have c3:C8 (t.drop (at_+1)):=fun c hc=>ht c (Qbg hc)
  have cx:C8 [x]:=fun c hc=>by rw[QB.mp hc];exact hx
  have YT:fm<3:=by have:=of_decide_eq_true z;omega
  obtain ⟨u,hu,cu,lu⟩:=Dw (zs:=[t.take at_++[x]++t.drop at_,t.take at_++[x]++t.drop (at_+1),t.take at_++t.drop (at_+1)]) (k:=fm) (m:=2*t.length+14) YT (fun z hz=>by
   rcases XB.mp hz with rfl | hz
   ·exact ⟨(c1.app cx).app c2,by simp only[JQ,Qab,Qat,Zy,Qcd];omega⟩
   rcases XB.mp hz with rfl | hz
   ·exact ⟨(c1.app cx).app c3,by simp only[JQ,Qab,Qat,Zy,Qcd];omega⟩
   rw[QB.mp hz]
   exact ⟨c1.app c3,by simp only[JQ,Qab,Qat];omega⟩)
  have l1:(cut t none (some (at_:Int))).length<=400:=Qa1 (mV _ _ _) O5
  have l2:(cut t (some (at_:Int)) none).length<=400:=Qa1 (mV _ _ _) O5
  have l3:(cut t (some ((at_:Int)+1)) none).length<=400:=Qa1 (mV _ _ _) O5
  have l0:t.length<=sizeLine:=by omega
  have lx:[x].length=1:=rfl
  walk_at "ln"
  refine fun p1 H4 n1 eL t1=>?_
  rw[e1,e2,e3]at eL
  refine ⟨_,rfl,?_⟩
  walk_at "ln"
  refine fun p2 H5 n2 ij t2=>?_
  rw[e1,e3]at ij
  refine ⟨p1,p2,_,_,rfl,rfl,t2 _ _ eL,ij,by show 2+1<=sizeLine;decide,fun p3 H6 n3 kM t3=>?_⟩
  exact ⟨_,rfl,p3,_,_,_,rfl,rfl,aN.of kM,hu,q u _ cu lu (((mD.same t1).same t2).same t3) (((tX.after t1).after t2).after t3)⟩
 have YT:3<=fm:=by
  rcases Nat.lt_or_ge fm 3 with g | g
  ·exact absurd (decide_eq_true (by omega)) z
  ·exact g
 clear z BA
 change (iD T hr).val _ [some (.ref b),some (.str (S y)),some (.str (S t)),some (.int fm),some (.int at_),none,none,none,none,none,none,none,none,none] H2
 refine ⟨_,rfl,rfl,_,rfl,rfl,by omega,fun p1 H3 n1 eL t1=>?_⟩
 have D3: ∀r∈bY 10 t,C8 r:=fun r hr c hc=>ht c (eW hr c hc).1
 have xR:=je 10 t
 have hlen:=(dH (c:=10) t).2
 have PJ:1<=(bY 10 t).length:=by obtain ⟨p,ps,e⟩:=eK 10 t;rw[e];exact Qcz (Qaq _)
 replace eL:H3 p1=some (.lst (ba (bY 10 t))):=eL
 generalize bY 10 t=rows at eL D3 xR hlen PJ
 have v7:rows.length<=402:=by omega
 have b1:p1≠b:=gc.ne n1
 have f1:H p1=none:=zD.none n1 b1
 have mD:=gc.same t1
 have tX:=zD.after t1
 clear t1 zD gc n1
 refine ⟨_,rfl,_,rfl,p1,_,rfl, .inl (aN.of eL),b,_,rfl,mD,by rw[ay];omega,by rw[ay];omega,fun k H4 hk zE s4=>?_⟩
 rw[ay]at hk
 have ij:=s4 _ _ eL b1
 refine ⟨_,rfl,_,rfl,p1,_,rfl, .inl (aN.of ij),b,_,rfl,zE,by rw[ay];omega,by rw[ay];omega,fun j H5 hj IZ s5=>?_⟩
 rw[ay]at hj
 have hp:=s5 _ _ ij b1
 have xQ:=(tX.trans s4).trans s5
 clear eL ij mD zE tX s4 s5
 have Rx:k<rows.length:=by omega
 have PK:j<rows.length:=by omega
 have gk:rows[k]? =some rows[k]:=Mn Rx
 have gj:rows[j]? =some rows[j]:=Mn PK
 have mk:=Qa4 Rx
 have mj:=Qa4 PK
 generalize rows[k]=rk at gk mk
 generalize rows[j]=rj at gj mj
 have lk:=lT mk
 have lj:=lT mj
 change (hV T hr).val _ [some (.ref b),some (.str (S y)),some (.str (S t)),some (.int fm),some (.int at_),none,none,some (.ref p1),some (.int k),some (.int j),none,none,none,none] H5
 refine ⟨fun σ' H'=> ∃p l,σ'[7]? =some (some (.ref p))/\H' p=some (.lst (ba l))/\R8 (2*t.length+15) l/\bG H' b/\aI b H H',?_,?_⟩
 rotate_left
 ·rintro σ' H' ⟨p,l,e7,lB,hl,FV,s'⟩
  have PK:=jY 10 l
  have ug:=hl.2
  exact ⟨rfl,_,e7,p,l,rfl,rfl,aN.of lB,by show bL l<=_;omega,q _ _ (C8.bI (by decide) hl.1) (by omega) FV s'⟩
 refine ⟨_,rfl,_,_,rfl,rfl,_,rfl,cn (fun z=>?_) (fun z=>?_)⟩
 ·-- rows left out,twice,cut
  refine ⟨_,rfl,_,rfl,_,rfl,p1,_,rfl,aN.of hp,fun a1 H6 m1 L6 t1=>?_⟩
  rw[gU]at L6
  refine ⟨_,rfl,_,rfl,_,_,rfl,rfl,_,rfl,p1,_,rfl,aN.of (t1 _ _ hp),fun a2 H7 m2 L7 t2=>?_⟩
  rw[oX]at L7
  refine ⟨a1,a2,_,_,rfl,rfl,t2 _ _ L6,L7,Ih v7 _,fun a3 H8 m3 PL t3=>?_⟩
  rw[fc]at PL
  have x8:=(t1.trans t2).trans t3
  have EB:=x8 _ _ hp
  have BC:=IZ.same x8
  have UE:a3≠b:=(IZ.same (t1.trans t2)).ne m3
  clear L6 L7 t2 m1 m2
  refine ⟨_,rfl,_,rfl,_,rfl,p1,_,rfl,aN.of EB,fun c1 H9 n1 PM u1=>?_⟩
  rw[gU]at PM
  refine ⟨_,rfl,_,rfl,p1,_,_,_,rfl,rfl,aN.of (u1 _ _ EB),bf (gW gk),by show 1<=sizeLine;decide,fun c2 HA n2 UG u2=>?_⟩
  refine ⟨c1,c2,_,_,rfl,rfl,u2 _ _ PM,UG,Dx v7 _ _,fun c3 HB n3 UH u3=>?_⟩
  have x9:=(u1.trans u2).trans u3
  refine ⟨_,rfl,_,rfl,_,rfl,p1,_,rfl,aN.of (x9 _ _ EB),fun c4 HC n4 PN u4=>?_⟩
  rw[ir]at PN
  refine ⟨c3,c4,_,_,rfl,rfl,u4 _ _ UH,PN,Dy v7 _ _,fun c5 HD n5 L8 u5=>?_⟩
  have I_:=(x9.trans u4).trans u5
  replace L8:HD c5=some (.lst (ba (rows.take k++[rk]++rows.drop k))):=by rw[L8, <-fc, <-fc];rfl
  have GF:=I_ _ _ EB
  have L9:=I_ _ _ PL
  have Bg:=BC.same I_
  have UI:c5≠b:=(BC.same (x9.trans u4)).ne n5
  refine ⟨_,rfl,_,rfl,_,rfl,p1,_,rfl,aN.of GF,fun d1 HE n6 PQ u6=>?_⟩
  rw[gU]at PQ
  have UJ:d1≠b:=Bg.ne n6
  refine ⟨by show 3<=sizeLine;decide,fun pl HF n7 fu u7=>?_⟩
  have UK:pl≠b:=(Bg.same u6).ne n7
  have Ry:=u6.trans u7
  have hbF:=Bg.same Ry
  have sF:=((xQ.after x8).after I_).after Ry
  refine ⟨_,rfl,_,rfl,b,3,rfl,hbF,by decide,by decide,fun r HG hr hbG sG=>?_⟩
  obtain ⟨pr,lr,mU,UL,UM,Mu⟩: ∃(pr:Addr) (lr:List (List Nat)),lZ [V.ref a3,V.ref c5,V.ref d1] ((r:Nat):Int)=some (V.ref pr)/\HF pr=some (.lst (ba lr))/\pr≠b/\R8 (2*t.length+15) lr:=by
   rcases (by omega:r=0\/r=1\/r=2) with rfl | rfl | rfl
   ·exact ⟨a3,_,bf (j:=0) rfl,Ry _ _ L9,UE,R8.less k D3 (by omega)⟩
   ·exact ⟨c5,_,bf (j:=1) rfl,Ry _ _ L8,UI,R8.put k D3 (D3 _ mk) (by omega)⟩
   ·exact ⟨d1,_,bf (j:=2) rfl,u7 _ _ PQ,UJ,R8.to k D3 (by omega)⟩
  exact ⟨pl,_,_,_,rfl,rfl,aN.of (sG _ _ fu UK),mU,pr,lr,rfl,sG _ _ UL UM,Mu,hbG,sF.trans sG⟩
 change (hU T hr).val _ [some (.ref b),some (.str (S y)),some (.str (S t)),some (.int fm),some (.int at_),none,none,some (.ref p1),some (.int k),some (.int j),none,none,none,none] H5
 refine ⟨_,rfl,_,_,rfl,rfl,_,rfl,cn (fun z=>?_) (fun z=>?_)⟩
 ·-- two rows MF
  refine ⟨_,rfl,_,rfl,p1,_,_,_,rfl,rfl,aN.of hp,bf (gW gk),_,rfl,_,rfl,p1,_,_,_,rfl,rfl,aN.of hp,bf (gW gj),_,_,rfl,?_⟩
  refine ⟨_,rfl,_,rfl,by show 2<=sizeLine;decide,fun pt H6 n6 zy t6=>?_⟩
  have wz:=t6 _ _ hp
  have Rz:=IZ.same t6
  refine ⟨pt,_,rfl,cU.of zy,rfl,_,_,rfl,_,rfl,_,rfl,p1,_,_,k,rfl,rfl,wz,kH (by rw[ay];exact Rx),?_⟩
  rw[kE]
  refine ⟨_,_,rfl,_,rfl,_,rfl,p1,_,_,j,rfl,rfl,af,kH (by rw[ay,Qde];exact PK),?_⟩
  rw[kE,xZ]
  exact ⟨rfl,p1,_,rfl,af,⟨C8.set (C8.set D3 (D3 _ mj)) (D3 _ mk),by rw[OS gk gj];omega⟩,Rz.cS b1,(xQ.after t6).cS f1⟩
 change (hJ T hr).val _ [some (.ref b),some (.str (S y)),some (.str (S t)),some (.int fm),some (.int at_),none,none,some (.ref p1),some (.int k),some (.int j),none,none,none,none] H5
 refine ⟨_,rfl,_,_,rfl,rfl,_,rfl,cn (fun z=>?_) (fun z=>?_)⟩
 ·-- a row put in
  obtain ⟨c0,y',rfl⟩:=List.exists_cons_of_ne_nil L5
  have h0:lZ (c0::y') 0=some c0:=bf (j:=0) rfl
  refine ⟨by show 6<=sizeLine;decide,fun q1 H6 n6 RA t6=>?_⟩
  refine ⟨_,rfl,_,rfl,_,_,c0,rfl,rfl,by omega,h0,_,_,rfl,rfl,by show 5+1<=sizeLine;decide,_,rfl,_,_,c0,rfl,rfl,by omega,h0,_,_,rfl,rfl,by show 6+1<=sizeLine;decide,_,rfl,_,_,rfl,rfl,by show 5+_<=sizeLine;omega,by show 3<=sizeLine;decide,fun q2 H7 n7 hq2 t7=>?_⟩
  refine ⟨q1,q2,_,_,rfl,rfl,t7 _ _ RA,hq2,by show 6+3<=sizeLine;decide,fun q3 H8 n8 Oz t8=>?_⟩
  have x8:=(t6.trans t7).trans t8
  have EB:=x8 _ _ hp
  have BC:=IZ.same x8
  have bq3:q3≠b:=(IZ.same (t6.trans t7)).ne n8
  have YU:(k:Int)+(j:Int) / 2=((k+j / 2:Nat):Int):=by omega
  refine ⟨_,rfl,_,rfl,_,rfl,_,_,rfl,rfl,⟨by decide,by decide⟩,_,_,rfl,rfl,_,rfl,p1,_,rfl,aN.of EB,fun d1 H9 n9 PQ t9=>?_⟩
  rw[YU,gU]at PQ
  have PR:=BC.same t9
  have UJ:d1≠b:=BC.ne n9
  refine ⟨_,rfl,_,rfl,b,9,rfl,PR,by decide,by decide,fun r HA hrr hbA sA=>?_⟩
  have cy:C8 (c0::y'):=hy
  have cc:C8 [c0]:=fun c hc=>by rw[QB.mp hc];exact hy c0 (.head _)
  have kk: ∀{w:List Nat},(w.all fun c=>decide (c<128))=true->C8 w:=fun h c hc=>of_decide_eq_true (Qcf.mp h c hc)
  obtain ⟨u,hu,cu,lu⟩:=Dw (zs:=[[],[99,111,114,100],[99,111,114,100,32],[98,97,110,100],[99,111,114,100,32,45],[99,111,114,100,32,45,45],[98,97,110,100,32]++[c0],[99,111,114,100,115,32]++[c0],[99,111,114,100,32]++c0::y']) (k:=r) (m:=13) (by show r<9;omega) (fun z hz=>by
   rcases XB.mp hz with rfl | hz
   ·exact ⟨kk (by decide),by decide⟩
   rcases XB.mp hz with rfl | hz
   ·exact ⟨kk (by decide),by decide⟩
   rcases XB.mp hz with rfl | hz
   ·exact ⟨kk (by decide),by decide⟩
   rcases XB.mp hz with rfl | hz
   ·exact ⟨kk (by decide),by decide⟩
   rcases XB.mp hz with rfl | hz
   ·exact ⟨kk (by decide),by decide⟩
   rcases XB.mp hz with rfl | hz
   ·exact ⟨kk (by decide),by decide⟩
   rcases XB.mp hz with rfl | hz
   ·exact ⟨(kk (by decide)).app cc,by show 5+1<=13;decide⟩
   rcases XB.mp hz with rfl | hz
   ·exact ⟨(kk (by decide)).app cc,by show 6+1<=13;decide⟩
   rw[QB.mp hz]
   exact ⟨(kk (by decide)).app cy,by rw[JQ];show 5+_<=13;omega⟩)
  refine ⟨q3,_,_,_,rfl,rfl,aN.of (sA _ _ (t9 _ _ Oz) bq3),hu,by show 1<=sizeLine;decide,fun d2 HB nB hd2 tB=>?_⟩
  refine ⟨d1,d2,_,_,rfl,rfl,tB _ _ (sA _ _ PQ UJ),hd2,Dx v7 _ _,fun d3 HC nC BE tC=>?_⟩
  have hpC:=tC _ _ (tB _ _ (sA _ _ (t9 _ _ EB) b1))
  refine ⟨_,rfl,_,rfl,_,rfl,_,_,rfl,rfl,⟨by decide,by decide⟩,_,_,rfl,rfl,_,rfl,p1,_,rfl,aN.of hpC,fun d4 HD nD GH tD=>?_⟩
  rw[YU,ir]at GH
  refine ⟨d3,d4,_,_,rfl,rfl,tD _ _ BE,GH,Dy v7 _ _,fun d5 HE nE hd5 tE=>?_⟩
  have xE:=((tB.trans tC).trans tD).trans tE
  exact ⟨d5,_,rfl,by rw[hd5, <-fc, <-fc];rfl,R8.put (k+j / 2) D3 cu (by omega),hbA.same xE,(((xQ.after x8).after t9).trans sA).after xE⟩
 change (g_ T hr).val _ [some (.ref b),some (.str (S y)),some (.str (S t)),some (.int fm),some (.int at_),none,none,some (.ref p1),some (.int k),some (.int j),none,none,none,none] H5
 refine ⟨_,rfl,_,rfl,p1,_,_,_,rfl,rfl,aN.of hp,bf (gW gk),rfl,rk,rfl,rfl,by omega,fun pw H6 n6 wy t6=>?_⟩
 have Iz: ∀r∈bY 32 rk,C8 r:=fun r hr c hc=>D3 _ mk c (eW hr c hc).1
 have v_:=je 32 rk
 have hwn:=(dH (c:=32) rk).2
 have UN:1<=(bY 32 rk).length:=by obtain ⟨p,ps,e⟩:=eK 32 rk;rw[e];exact Qcz (Qaq _)
 replace wy:H6 pw=some (.lst (ba (bY 32 rk))):=wy
 generalize bY 32 rk=words at wy Iz v_ hwn UN
 have D4:words.length<=402:=by omega
 have bw:pw≠b:=IZ.ne n6
 have fw:H pw=none:=xQ.none n6 bw
 have p1w:p1≠pw:=ak hp n6
 have wz:=t6 _ _ hp
 have Rz:=IZ.same t6
 have IM:=xQ.after t6
 clear t6 n6 hp IZ xQ
 refine ⟨_,rfl,_,rfl,pw,_,rfl, .inl (aN.of wy),b,_,rfl,Rz,by rw[ay];omega,by rw[ay];omega,fun i H7 hi UO s7=>?_⟩
 rw[ay]at hi
 have IE:=s7 _ _ wz b1
 have L_:=s7 _ _ wy bw
 have YV:=IM.trans s7
 clear wz wy IM s7 Rz
 have E_:i<words.length:=by omega
 have gi:words[i]? =some words[i]:=Mn E_
 have mi:=Qa4 E_
 generalize words[i]=wi at gi mi
 have li:=lT mi
 refine ⟨_,rfl,_,rfl,pw,_,_,_,rfl,rfl,aN.of L_,bf (gW gi),_,_,rfl,rfl,by show wi.length+1<=sizeLine;omega,by show 13<=sizeLine;decide,fun q1 H8 n8 RA t8=>?_⟩
 have bq1:q1≠b:=UO.ne n8
 have BC:=UO.same t8
 refine ⟨_,rfl,_,rfl,b,13,rfl,BC,by decide,by decide,fun r H9 hrr PR s9=>?_⟩
 have kk: ∀{w:List Nat},(w.all fun c=>decide (c<128))=true->C8 w:=fun h c hc=>of_decide_eq_true (Qcf.mp h c hc)
 obtain ⟨u,hu,cu,lu⟩:=Dw (zs:=[[48,46,48],[48,48,46,48],[48,46,48,48],[49,46,48],[48,46],[46,48],[48],[45,49,46,48],[43,48,46,48],[48,46,48,46,48],[],[45],wi++[48]]) (k:=r) (m:=wi.length+5) (by show r<13;omega) (fun z hz=>by
  rcases Qaa.mp (show z∈[[48,46,48],[48,48,46,48],[48,46,48,48],[49,46,48],[48,46],[46,48],[48],[45,49,46,48],[43,48,46,48],[48,46,48,46,48],[],[45]]++[wi++[48]] from hz) with g | g
  ·have h1:=(by decide: ∀z∈[[48,46,48],[48,48,46,48],[48,46,48,48],[49,46,48],[48,46],[46,48],[48],[45,49,46,48],[43,48,46,48],[48,46,48,46,48],[],[45]],(z.all fun c=>decide (c<128))=true/\z.length<=5) z g
   exact ⟨kk h1.1,by omega⟩
  ·rw[QB.mp g]
   exact ⟨(Iz _ mi).app (kk (by decide)),by rw[JQ];show _+1<=_;omega⟩)
 refine ⟨q1,_,_,_,rfl,rfl,aN.of (s9 _ _ RA bq1),hu,?_⟩
 have II:=s9 _ _ (t8 _ _ IE) b1
 have GS:=s9 _ _ (t8 _ _ L_) bw
 have PU:=(YV.after t8).trans s9
 clear IE L_ YV t8 s9 UO BC RA n8 hu
 change (g9 (P:=P) (w:=w) (base:=base) (cdv:=cdv) (A:=A) (outer:=outer) (s:=s) (H:=H) (E:=E) T hr).val _ [some (.ref b),some (.str (S y)),some (.str (S t)),some (.int fm),some (.int at_),none,some (.ref q1),some (.ref p1),some (.int k),some (.int j),none,some (.str (S u)),some (.ref pw),some (.int i)] H9
 have fin: ∀(p:Addr) (Ja:List (List Nat)) (D:Ends) (σ':L2.St) (H':Hp),(∀σ2 H2,(∃p l,σ2[7]? =some (some (V.ref p))/\H2 p=some (.lst (ba l))/\R8 (2*t.length+15) l/\bG H2 b/\aI b H H2)->D.nx σ2 H2)->σ'[7]? =some (some (.ref p1))->σ'[8]? =some (some (.int k))->σ'[12]? =some (some (.ref p))->H' p=some (.lst (ba Ja))->(∀r∈Ja,C8 r)->bL Ja<=2*rk.length+6->H' p1=some (.lst (ba rows))->bG H' b->aI b H H'->zL (Sa K "str" (CO K 32) (tC (.str (S [32]))) (BS (kP 12) JC)) (MR (kP 7) (kP 8) Hi) D σ' H':=by
  intro p Ja D σ' H' hD e7 e8 e12 lB hc hl eL FV s'
  have PK:=jY 32 Ja
  have UP:=gS (bI 32 Ja) gk
  refine ⟨rfl,_,e12,p,Ja,rfl,rfl,aN.of lB,by show bL Ja<=_;omega,_,e7,_,e8,p1,_,_,k,rfl,rfl,eL,kH (by rw[ay];exact Rx),?_⟩
  rw[kE]
  exact hD _ _ ⟨p1,_,e7,af,⟨C8.set D3 (C8.bI (by decide) hc),by omega⟩,FV.cS b1,s'.cS f1⟩
 refine ⟨_,rfl,_,_,rfl,rfl,_,rfl,cn (fun z=>?_) (fun z=>?_)⟩
 ·refine ⟨_,rfl,_,rfl,_,rfl,pw,_,rfl,aN.of GS,fun a1 HA m1 L6 t1=>?_⟩
  rw[gU]at L6
  refine ⟨_,rfl,_,rfl,_,_,rfl,rfl,_,rfl,pw,_,rfl,aN.of (t1 _ _ GS),fun a2 HB m2 L7 t2=>?_⟩
  rw[oX]at L7
  refine ⟨a1,a2,_,_,rfl,rfl,t2 _ _ L6,L7,Ih D4 _,fun a3 HC m3 PL t3=>?_⟩
  rw[fc]at PL
  have UE:a3≠b:=(PR.same (t1.trans t2)).ne m3
  have x8:=(t1.trans t2).trans t3
  have Ma:=x8 _ _ GS
  have BC:=PR.same x8
  clear L6 L7 t1 t2 m1 m2
  refine ⟨_,rfl,_,rfl,_,rfl,pw,_,rfl,aN.of Ma,fun c1 HD n1 PM u1=>?_⟩
  rw[gU]at PM
  refine ⟨_,rfl,_,rfl,pw,_,_,_,rfl,rfl,aN.of (u1 _ _ Ma),bf (gW gi),by show 1<=sizeLine;decide,fun c2 HE n2 UG u2=>?_⟩
  refine ⟨c1,c2,_,_,rfl,rfl,u2 _ _ PM,UG,Dx D4 _ _,fun c3 HF n3 UH u3=>?_⟩
  have x9:=(u1.trans u2).trans u3
  refine ⟨_,rfl,_,rfl,_,rfl,pw,_,rfl,aN.of (x9 _ _ Ma),fun c4 HG n4 PN u4=>?_⟩
  rw[ir]at PN
  refine ⟨c3,c4,_,_,rfl,rfl,u4 _ _ UH,PN,Dy D4 _ _,fun c5 HI n5 L8 u5=>?_⟩
  have I_:=(x9.trans u4).trans u5
  replace L8:HI c5=some (.lst (ba (words.take i++[wi]++words.drop i))):=by rw[L8, <-fc, <-fc];rfl
  have UI:c5≠b:=(BC.same (x9.trans u4)).ne n5
  have L9:=I_ _ _ PL
  have Bg:=BC.same I_
  refine ⟨by show 2<=sizeLine;decide,fun pl HJ n7 fu u7=>?_⟩
  have UK:pl≠b:=Bg.ne n7
  have PV:=(x8.trans I_).trans u7
  have hbJ:=Bg.same u7
  refine ⟨_,rfl,_,rfl,b,2,rfl,hbJ,by decide,by decide,fun r HK hr hbK sK=>?_⟩
  obtain ⟨pr,lr,mU,UL,UM,Mu⟩: ∃(pr:Addr) (lr:List (List Nat)),lZ [V.ref a3,V.ref c5] ((r:Nat):Int)=some (V.ref pr)/\HJ pr=some (.lst (ba lr))/\pr≠b/\R8 (2*rk.length+6) lr:=by
   rcases (by omega:r=0\/r=1) with rfl | rfl
   ·exact ⟨a3,_,bf (j:=0) rfl,u7 _ _ L9,UE,R8.less i Iz (by omega)⟩
   ·exact ⟨c5,_,bf (j:=1) rfl,u7 _ _ L8,UI,R8.put i Iz (Iz _ mi) (by omega)⟩
  refine ⟨pl,_,_,_,rfl,rfl,aN.of (sK _ _ fu UK),mU,?_⟩
  exact fin pr lr _ _ _ (fun _ _ h=>h) rfl rfl rfl (sK _ _ UL UM) Mu.1 Mu.2 (sK _ _ (PV _ _ II) b1) hbK ((PU.after PV).trans sK)
 ·refine ⟨_,rfl,_,rfl,_,rfl,pw,_,_,i,rfl,rfl,GS,kH (by rw[ay];exact E_),?_⟩
  rw[kE]
  have UP:=gS u gi
  exact fin pw (words.set i u) _ _ _ (fun _ _ h=>h) rfl rfl rfl af (C8.set Iz cu) (by omega) (by rw[ao p1w];exact II) (PR.cS bw) (PU.cS fw)
theorem GU:ck P w K mg base fU 1 f8 d8 ["_law_script","_law_k"] (y9 K):=by
 refine T.F8.fn.ok kJ (fun vs H Q E h=>C_ h) (fun cdv A outer s H vs Q E hr h=>?_)
 refine ⟨_,(ag (ax (i:=2) kJ.nd rfl (Or.inl rfl) (aF bQ (aF k_ au (pv 1)) au))
   (ag (bU (aE qc (pv 1) (az (aw K rfl) rfl T.z_len Qap (aa (pv 0) ae)) (aT _)) (aj (ax (i:=2) kJ.nd rfl (Or.inl rfl) (bH (aO K rfl) (pv 0) (pv 1) (fun _ _=>rfl)))) (aj (bU (aE qe (az (aw K rfl) rfl T.z_len Qap (aa (pv 0) ae)) au (aT _)) (aj (ax (i:=2) kJ.nd rfl (Or.inl rfl) (aF bQ (pv 2) (aF k_ (aF ic (bH (aO K rfl) (pv 0) (aF ic (pv 1) (az (aw K rfl) rfl T.z_len Qap (aa (pv 0) ae))) (fun _ _=>rfl)) au) au)))) bu)))
   (ag (ax (i:=3) kJ.nd rfl (Or.inl rfl) (aF ic (aF BP (aF bQ (aF bQ (aF ic (pv 2) au) (aF k_ au (pv 1))) au) au) au))
   (aj (aR (bE (aa (bH (aO K rfl) (bE (aa au (aa (pv 2) ae))) (bo la rfl T.z_int boot_int (aa (mR MZ (pv 2) (aF BP au au) (aT _)) ae)) (fun _ _=>rfl)) (aa (aF bQ (aF ic (pv 3) au) au) ae)))))))),?_⟩
 obtain ⟨a,ns,k,rfl,hS,hk,q⟩:=h
 have hp:(0:Int)<2147483629:=by decide
 walk_at "rd"
 refine ⟨a,_,rfl, .inl hS,?_⟩
 walk_at "rd"
 refine cn (fun e=>?_) (fun e=>?_)
 ·have e':(k:Int)<((ns.map V.int).length:Nat):=of_decide_eq_true e
  rw[kb]at e'
  obtain ⟨z,hz⟩:=y_ (ns:=ns) (i:=k) (by omega)
  walk_at "rd"
  refine ⟨a,_,k,_,rfl,rfl,hS,bf hz,?_⟩
  walk_at "rd"
  refine fun p1 n1=>?_
  walk_at "rd"
  refine .inr ⟨_,rfl,?_⟩
  obtain ⟨y,hy⟩:=xw _ z
  refine ⟨p1,_,_,_,rfl,rfl,aN.of af,hy,?_⟩
  walk_at "rd"
  exact fun p2 n2=>q p2 _ (ah.free (ah.upd n1) n2) ⟨_,_,af⟩ ((ah.upd n1).trans (ah.upd n2))
 ·walk_at "rd"
  refine ⟨a,_,rfl, .inl hS,?_⟩
  walk_at "rd"
  refine cn (fun e2=>?_) (fun e2=>?_)
  ·have e':(0:Int)<((ns.map V.int).length:Nat):=of_decide_eq_true e2
   have hl:(0:Int)<(ns.length:Int):=by rw[kb]at e';exact e'
   have m1:0<=(k:Int)%(ns.length:Int):=Qe2 _ (by omega)
   have m2:(k:Int)%(ns.length:Int)<(ns.length:Int):=Qeo _ hl
   obtain ⟨z,hz⟩:=y_ (ns:=ns) (i:=((k:Int)%(ns.length:Int)).toNat) (by omega)
   have C2:lZ (ns.map V.int) ((k:Int)%((ns.map V.int).length:Nat))=some (V.int z):=by
    have:=bf hz
    rw[Int.toNat_of_nonneg m1]at this
    rw[kb]
    exact this
   walk_at "rd"
   refine ⟨a,_,rfl, .inl hS,?_⟩
   walk_at "rd"
   refine ⟨a,_,_,_,rfl,rfl,hS,C2,?_⟩
   walk_at "rd"
   refine fun p1 n1=>?_
   walk_at "rd"
   refine .inr ⟨_,rfl,?_⟩
   obtain ⟨y,hy⟩:=xw _ _
   refine ⟨p1,_,_,_,rfl,rfl,aN.of af,hy,?_⟩
   walk_at "rd"
   exact fun p2 n2=>q p2 _ (ah.free (ah.upd n1) n2) ⟨_,_,af⟩ ((ah.upd n1).trans (ah.upd n2))
  ·walk_at "rd"
   refine fun p1 n1=>?_
   walk_at "rd"
   refine .inr ⟨_,rfl,?_⟩
   obtain ⟨y,hy⟩:=xw _ _
   refine ⟨p1,_,_,_,rfl,rfl,aN.of af,hy,?_⟩
   walk_at "rd"
   exact fun p2 n2=>q p2 _ (ah.free (ah.upd n1) n2) ⟨_,_,af⟩ ((ah.upd n1).trans (ah.upd n2))
theorem Bh:ck P w K mg base fU 2 Ik Q4 ["_law_box_here","_law_things"] (qT K):=by
 have aV:=cC (P:=P) (w:=w) (base:=base) T
 refine T.LD.fn.ok lW (fun vs H Q E h=>xA h) (fun cdv A outer s H vs Q E hr h=>?_)
 refine ⟨_,(ag (ax (i:=2) lW.nd rfl (Or.inl rfl) (bo (rW K rfl rfl) rfl T.z_list boot_list (aa (pv 1) ae)))
   (ag (ax (i:=3) lW.nd rfl (Or.inl rfl) (bE ae))
   (ag (lp PassesOwn.never (aE qe (az (aw K rfl) rfl T.z_len Qap (aa (pv 2) ae)) au (aT _)) (aj (da (bD K rfl Qa3 Qbl Qbk cO (pv 3) (aa (bD K rfl Qa3 Qed Qec nr (pv 2) (aa (aB aV (hr.mono (by decide)) rfl T.F9.mg T.F9.fn.kp T.F9.bd .nil aX (aa (pv 0) (aa (az (aw K rfl) rfl T.z_len Qap (aa (pv 2) ae)) ae))) ae)) ae)))))
   (aj (aR (pv 3)))))),?_⟩
 obtain ⟨b,x,ys,rfl,hb,hx,hz,q⟩:=h
 have hs:(100000:Nat)<sizeLine:=by decide
 rcases hx with ⟨p,rfl,hp⟩ | ⟨l,rfl,rfl⟩
 ·refine ⟨_,rfl, .inr ⟨p,_,rfl,hp,fun p1 n1=>?_⟩⟩
  walk_at "wk"
  intro p2 n2
  have s1:ah H (upd (upd H p1 (.lst ys)) p2 (.lst [])):=(ah.upd n1).trans (ah.upd n2)
  have v8:p1≠b:=hb.ne n1
  have BG:H p2=none:=ah.free (ah.upd n1) n2
  have Bi:p2≠b:=hb.ne BG
  have y7:p1≠p2:=fun z=>by rw[<-z,af]at n2;cases n2
  refine ⟨fun m σ H'=> ∃F E':List V,σ=[some (.ref b),some (.ref p),some (.ref p1),some (.ref p2)]/\m=E'.length/\(F++E').Perm ys/\H' p1=some (.lst E')/\H' p2=some (.lst F)/\bG H' b/\aI b H H',⟨_,[],ys,rfl,rfl,Qcq _,by rw[ao y7,af],af,hb.same s1,aI.of s1⟩,?_⟩
  rintro m σ H3 ⟨F,E',rfl,rfl,lK,eL,ij,mD,s4⟩
  have hlen:=lK.length_eq
  rw[JQ]at hlen
  walk_at "wk"
  refine ⟨p1,_,rfl, .inl (aN.of eL),_,_,rfl,rfl,_,rfl,cn (fun e=>?_) (fun e=>?_)⟩
  ·have e':(0:Int)<(E'.length:Nat):=of_decide_eq_true e
   refine ⟨_,rfl, .inl ⟨rfl,_,aN.of ij⟩,_,rfl, .inl ⟨rfl,_,aN.of eL⟩,?_⟩
   walk_at "wk"
   refine ⟨p1,_,rfl, .inl (aN.of eL),b,_,rfl,mD,by omega,by omega,fun r H4 EC zE s5=>?_⟩
   have zA:r<E'.length:=by omega
   refine ⟨p1,_,_,r,_,rfl,rfl,s5 _ _ eL v8,by omega,by omega,by rw[seqIndex_of (by omega) (by omega),Qcx],Mn zA,?_⟩
   have iE:=fK (Mn zA)
   have fu:=iE.length_eq
   rw[Zy]at fu
   refine ⟨p2,_,_,rfl,rfl,by rw[ao (Ne.symm y7)];exact s5 _ _ ij Bi,by omega,?_⟩
   refine ⟨(E'.eraseIdx r).length,by omega,F++[E'[r]],E'.eraseIdx r,rfl,rfl,?_,by rw[ao y7,af],af,(zE.cS v8).cS Bi,((s4.trans s5).cS n1).cS BG⟩
   rw[Xz]
   exact (Qbi F iE).trans lK
  ·have e':E'=[]:=by
    cases E' with
    | nil=>rfl
    | cons c r=>exact absurd (decide_eq_true (by show (0:Int)<((r.length+1:Nat):Int);omega)) e
   subst e'
   rw[Qal]at lK
   exact ⟨_,rfl,q p2 F H3 BG Bi ij lK mD s4⟩
 ·rw[aU]at hz
  refine ⟨_,rfl, .inl ⟨l,rfl,by omega,fun p1 n1=>?_⟩⟩
  rw[<-aU l]at hz
  generalize bX l=ys at*
  walk_at "wk"
  intro p2 n2
  have s1:ah H (upd (upd H p1 (.lst ys)) p2 (.lst [])):=(ah.upd n1).trans (ah.upd n2)
  have v8:p1≠b:=hb.ne n1
  have BG:H p2=none:=ah.free (ah.upd n1) n2
  have Bi:p2≠b:=hb.ne BG
  have y7:p1≠p2:=fun z=>by rw[<-z,af]at n2;cases n2
  refine ⟨fun m σ H'=> ∃F E':List V,σ=[some (.ref b),some (.str (S l)),some (.ref p1),some (.ref p2)]/\m=E'.length/\(F++E').Perm ys/\H' p1=some (.lst E')/\H' p2=some (.lst F)/\bG H' b/\aI b H H',⟨_,[],ys,rfl,rfl,Qcq _,by rw[ao y7,af],af,hb.same s1,aI.of s1⟩,?_⟩
  rintro m σ H3 ⟨F,E',rfl,rfl,lK,eL,ij,mD,s4⟩
  have hlen:=lK.length_eq
  rw[JQ]at hlen
  walk_at "wk"
  refine ⟨p1,_,rfl, .inl (aN.of eL),_,_,rfl,rfl,_,rfl,cn (fun e=>?_) (fun e=>?_)⟩
  ·have e':(0:Int)<(E'.length:Nat):=of_decide_eq_true e
   refine ⟨_,rfl, .inl ⟨rfl,_,aN.of ij⟩,_,rfl, .inl ⟨rfl,_,aN.of eL⟩,?_⟩
   walk_at "wk"
   refine ⟨p1,_,rfl, .inl (aN.of eL),b,_,rfl,mD,by omega,by omega,fun r H4 EC zE s5=>?_⟩
   have zA:r<E'.length:=by omega
   refine ⟨p1,_,_,r,_,rfl,rfl,s5 _ _ eL v8,by omega,by omega,by rw[seqIndex_of (by omega) (by omega),Qcx],Mn zA,?_⟩
   have iE:=fK (Mn zA)
   have fu:=iE.length_eq
   rw[Zy]at fu
   refine ⟨p2,_,_,rfl,rfl,by rw[ao (Ne.symm y7)];exact s5 _ _ ij Bi,by omega,?_⟩
   refine ⟨(E'.eraseIdx r).length,by omega,F++[E'[r]],E'.eraseIdx r,rfl,rfl,?_,by rw[ao y7,af],af,(zE.cS v8).cS Bi,((s4.trans s5).cS n1).cS BG⟩
   rw[Xz]
   exact (Qbi F iE).trans lK
  ·have e':E'=[]:=by
    cases E' with
    | nil=>rfl
    | cons c r=>exact absurd (decide_eq_true (by show (0:Int)<((r.length+1:Nat):Int);omega)) e
   subst e'
   rw[Qal]at lK
   exact ⟨_,rfl,q p2 F H3 BG Bi ij lK mD s4⟩
theorem v9:ck P w K mg base fU 3 Il Q5 ["_law_box_here","_law_yard_here","_law_words_here"] (mn K):=by
 have g8:=jq (P:=P) (w:=w) (base:=base) T
 have g7:=jr (P:=P) (w:=w) (base:=base) T
 have D5:=Bh (P:=P) (w:=w) (base:=base) T
 refine T.LG.fn.ok dU (fun vs H Q E h=>sV h) (fun cdv A outer s H vs Q E hr h=>?_)
 refine ⟨_,(ag (ax (i:=3) dU.nd rfl (Or.inl rfl) (bE ae))
   (ag (cW PassesOwn.never rfl (iP K rfl (aB g8 (hr.mono (by decide)) rfl T.wx.mg T.wx.fn.kp T.wx.bd .nil aX (aa (pv 1) ae))) (aP (i:=4) dU.nd rfl (Or.inr rfl)) (ag (ax (i:=5) dU.nd rfl (Or.inl rfl) (bE ae))
   (ag (cW PassesOwn.never rfl (uv K rfl rfl T.z_enumerate (aa (pv 2) ae)) (dN (n:=2) K rfl rfl (bb (aP (i:=6) dU.nd rfl (Or.inr rfl)) (bb (aP (i:=7) dU.nd rfl (Or.inl rfl)) dM))) (aj (da (bD K rfl Qa3 PySem.F.slot_list_extend PySem.F.type_list_extend qo (pv 5) (aa (iN ["_law_i","_law_letter","_law_c","_law_band"] [none,none,some 6,some 4] (kg rfl T.z_enumerate (aa (pv 7) ae)) ⟨⟨rfl,rfl,by first | exact .inl rfl | exact .inr rfl⟩,⟨⟨rfl,rfl,by first | exact .inl rfl | exact .inr rfl⟩,trivial⟩⟩ (fun _ _ _ _=>(dN (n:=2) K rfl rfl (bb (aP (i:=0) (by decide+kernel:List.Nodup (["_law_i","_law_letter","_law_c","_law_band"]:List Str)) rfl (Or.inl rfl)) (bb (aP (i:=1) (by decide+kernel:List.Nodup (["_law_i","_law_letter","_law_c","_law_band"]:List Str)) rfl (Or.inl rfl)) dM)))) (fun _ _ _ _=>(nz (aE (Cc K rfl) (pv 1) (dz (aa (pv 3) (aa (aB g7 (hr.mono (by decide)) rfl T.wu.mg T.wu.fn.kp T.wu.bd .nil aX (aa (pv 3) ae)) ae))) (by with_unfolding_all rfl)))) (fun _ _ _ _=>(dz (aa (pv 2) (aa (pv 0) ae))))) ae)))))
   (aj (da (bD K rfl Qa3 Qbl Qbk cO (pv 3) (aa (bo (bz K rfl) rfl T.z_tuple boot_tuple (aa (aB D5 (hr.mono (by decide)) rfl T.LD.mg T.LD.fn.kp T.LD.bd .nil aX (aa (pv 0) (aa (pv 5) ae))) ae)) ae)))))))
   (aj (aR (dz (aa (bo (bz K rfl) rfl T.z_tuple boot_tuple (aa (pv 2) ae)) (aa (bo (bz K rfl) rfl T.z_tuple boot_tuple (aa (pv 3) ae)) ae))))))),?_⟩
 obtain ⟨b,y,wt,ws,rfl,hb,hy,hz,YW,pA,hw,q⟩:=h
 have hs:(100000:Nat)<sizeLine:=by decide
 have hwf:=hw.iT
 walk_at "wk"
 intro p1 n1
 have v8:p1≠b:=hb.ne n1
 have h1w:p1≠wt:=Ne.symm (ak pA n1)
 refine ⟨_,rfl,y,rfl,by omega,fun p2 l2 H1 n2 ij ug UQ s1=>?_⟩
 rw[fN hy.lt]at ug
 have el:=ko ug UQ
 subst el
 have n20:H p2=none:=ah.free (ah.upd n1) n2
 have Bi:p2≠b:=hb.ne n20
 have y7:p1≠p2:=fun z=>by rw[<-z,af]at n2;cases n2
 have PX:ah H H1:=(ah.upd n1).trans s1
 have eL:H1 p1=some (.lst []):=s1 _ _ af
 have Rj:=oA hy
 refine ⟨p2,rfl,⟨_,aN.of ij⟩,?_⟩
 refine nh (K:=K) (a:=p2) (xs:=bX (bh y)) (fun i σ H'=> ∃(os:List Od) (bv sv cv wv:Option V),σ=[some (.ref b),some (.str (S y)),some (.ref wt),some (.ref p1),bv,sv,cv,wv]/\H' p1=some (.lst (kr os))/\H' p2=some (.lst (bX (bh y)))/\os.length=i/\(∀o∈os,sU H' o)/\(∀(j:Nat) (o:Od) (c:Nat),os[j]? =some o->(bh y)[j]? =some c->(o.ps.map Pr.pair).Perm (aK c ws ws.length))/\bG H' b/\aI b H H')
  ⟨[],none,none,none,none,rfl,eL,ij,rfl,fun _ h=>absurd h Qam,fun j o c h=>by simp at h,hb.same PX,aI.of PX⟩ (fun i σ H' _ ⟨_,_,_,_,_,_,_,h,_⟩=>aN.of h) ?_ ?_
 ·rintro i x σ H2 hx ⟨os,bv,sv,cv,wv,rfl,eL,ij,FJ,Fw,PY,gc,s2⟩
  obtain ⟨band,D6,rfl⟩:=eQ hx
  have hi:i<(bh y).length:=(Xy.mp D6).1
  have LY:Lt band:=hy.lt band (Qbb.mp ((dc y).mem_iff.mp (Qay D6))).1
  walk_at "wk"
  intro p3 n3
  have D7:=s2 _ _ pA YW
  refine ⟨_,rfl,wt,rfl,⟨_,cU.of ((ah.upd n3) _ _ D7)⟩,?_⟩
  refine qD (K:=K) (a:=wt) (xs:=ba ws) (fun j σ H'=> ∃(ps:List Pr) (cv wv:Option V),σ=[some (.ref b),some (.str (S y)),some (.ref wt),some (.ref p1),some (.str (S [band])),some (.ref p3),cv,wv]/\H' p3=some (.lst (iF ps))/\(∀p∈ps,gQ H' p)/\ps.map Pr.pair=aK band ws j/\ps.length<=12*j/\ah H2 H')
   ⟨[],cv,wv,rfl,af,fun _ h=>absurd h Qam,rfl,Qaq _,ah.upd n3⟩ (fun j σ H' _ ⟨_,_,_,_,_,_,_,_,h⟩=>cU.of (h _ _ D7)) ?_ ?_
  ·rintro j x σ H3 T LZ ⟨ps,Uj,Uk,rfl,kM,kL,iE,fu,s3⟩ nT
   have hj:j<ws.length:=by
    have:=(Xy.mp LZ).1
    rwa [ay]at this
   rw[sS hj]at LZ
   cases LZ
   have IC:ws[j]? =some ws[j]:=Mn hj
   obtain ⟨Ul,MB⟩:=hw.all _ (Qa4 hj)
   generalize ws[j]=w at IC Ul MB ⊢
   refine ⟨T,_,rfl,cU.of af,rfl,_,_,rfl,_,_,rfl,rfl,?_⟩
   have O9:=ah.upd (o:= .tup [.int j, .str (S w)]) nT
   have DR:=O9 _ _ kM
   refine ⟨_,rfl, .inl ⟨rfl,_,aN.of DR⟩,_,rfl,w,rfl,?_⟩
   refine qF (l:=w) (fun m acc H'=>ah (upd H3 T (.tup [.int j, .str (S w)])) H'/\ ∃vs:List Pr,acc=iF vs/\(∀p∈vs,gQ H' p)/\vs.map Pr.pair=du band j w m/\vs.length<=m) (by omega) ⟨ah.refl _,[],rfl,fun _ h=>absurd h Qam,rfl,XA _⟩ ?_ ?_
   ·rintro m l acc H4 T2 Nx hm fW ⟨s4,vs,rfl,GJ,GK,Rr⟩ OZ nx
    have YE:m<w.length:=(Xy.mp hm).1
    have es:=jV (band:=band) (c:=j) hm
    rw[show AB band l=(decide (l=band)||decide (l=eV band)) from rfl]at es
    refine ⟨T2,_,rfl,cU.of af,rfl,_,_,rfl,_,_,rfl,rfl,?_⟩
    refine ⟨⟨rfl,rfl,trivial⟩,?_⟩
    have Um:=ah.upd (o:= .tup [.int m, .str (S [l])]) OZ
    refine ⟨_,rfl,_,rfl,_,rfl,band,rfl,LY,by show 2<=sizeLine;decide,fun t nt=>?_⟩
    refine ⟨t,_,rfl, .inr (cU.of af),rfl,rfl,_,rfl,?_⟩
    have DS:=Um.trans (ah.upd (o:= .tup [.str (S [band]), .str (S [eV band])]) nt)
    generalize upd (upd H4 T2 (.tup [.int m, .str (S [l])])) t (.tup [.str (S [band]), .str (S [eV band])])=H5 at DS ⊢
    show if Ml (.str (S [l])) [.str (S [band]), .str (S [eV band])]=true then _ else _
    rw[yI]
    refine cn (fun z=>?_) (fun z=>?_)
    ·rw[if_pos z]at es
     refine ⟨_,rfl,_,rfl,by show 2<=sizeLine;decide,fun t2 O_=>?_⟩
     refine nx _ _ (by simpa using fW) ⟨(s4.trans DS).trans (ah.upd O_),vs++[⟨t2,j,m⟩],kq vs ⟨t2,j,m⟩,fun p hp=>?_,by rw[Qar,GK,es];rfl,by rw[JQ];show vs.length+1<=_;omega⟩
     rcases Qaa.mp hp with g | g
     ·exact (GJ p g).same (DS.trans (ah.upd O_))
     ·have e2:=QB.mp g
      subst e2
      exact ⟨af,by show j<1000;omega,by show m<1000;omega⟩
    ·rw[if_neg z,Qal]at es
     exact nx _ _ (Qcj fW) ⟨s4.trans DS,vs,rfl,fun p hp=>(GJ p hp).same DS,by rw[es];exact GK,by omega⟩
   ·rintro acc H4 D fW ⟨s4,vs,rfl,GJ,GK,Rr⟩ hD
    have DT:=s4 _ _ DR
    refine ⟨p3,D,_,_,rfl,rfl,(ah.upd hD) _ _ DT,af,by rw[gp,gp];omega,?_⟩
    rw[za]
    have Pa:ah H3 (upd H4 D (.lst (iF vs))):=(O9.trans s4).trans (ah.upd hD)
    have DU:=(ah.upd (o:= .lst (iF vs)) hD) _ _ DT
    have MD:H2 p3=none:=n3
    refine ⟨ps++vs,_,_,rfl,af,fun p hp=>?_,by rw[Qar,iE,GK,cY IC],by rw[JQ];omega,fun a o ea=>by rw[ao (ak ea MD)];exact Pa _ _ (s3 a o ea)⟩
    rcases Qaa.mp hp with g | g
    ·exact ((kL p g).same Pa).ts (bF.pH DU)
    ·exact ((GJ p g).same (ah.upd hD)).ts (bF.pH DU)
  ·rintro σ H3 ⟨ps,Uj,Uk,rfl,kM,kL,iE,fu,s3⟩
   rw[ay]at iE fu
   have mD:=gc.same s3
   have b3:p3≠b:=gc.ne n3
   have xS:=s3 _ _ eL
   refine ⟨_,rfl, .inl ⟨rfl,_,aN.of xS⟩,?_⟩
   refine ⟨_,rfl,_,rfl,b, .ref p3,iF ps,rfl,mD, .inl ⟨p3,rfl, .inl (aN.of kM)⟩,by rw[gp];omega,fun qa ys H4 nq qb hq jE zE s4=>?_⟩
   obtain ⟨vT,e1,e2⟩:=xC (f:=fun p:Pr=>V.ref p.t) jE ps rfl
   have e3:ys=iF vT:=e1
   subst e3
   have UR:=bF.box mD s4
   refine ⟨qa,_,rfl, .inl ⟨aN.of hq,fun t nt=>?_⟩⟩
   have US:aI b H2 (upd H4 t (.tup (iF vT))):=((aI.of s3).trans s4).after (ah.upd nt)
   have tR:=US _ _ eL v8
   have UT:bF H4 (upd H4 t (.tup (iF vT))):=bF.cS nt
   refine ⟨p1,_,_,rfl,rfl,tR,by rw[gq];omega,?_⟩
   have YX:=(UR.trans UT).trans (bF.pH (o:= .lst (kr os++[.ref t])) tR)
   have z9: ∀p∈vT,p∈ps:=fun p hp=>e2.mem_iff.mp hp
   have hlen:=e2.length_eq
   refine ⟨os++[⟨t,vT⟩],_,_,_,_,rfl,by rw[af];exact congrArg (fun x=>some (HO.lst x)) (oB os ⟨t,vT⟩),by rw[ao (Ne.symm y7)];exact US _ _ ij Bi,by simp[FJ],fun o ho=>?_,fun j o c hj hc=>?_,?_,?_⟩
   ·rcases Qaa.mp ho with g | g
    ·exact ((Fw o g).same s3).ts YX
    ·have eo:=QB.mp g
     subst eo
     refine ⟨?_,fun p hp=>(kL p (z9 p hp)).ts YX,by show vT.length<=100;omega⟩
     exact (bF.pH (o:= .lst (kr os++[.ref t])) tR) _ _ af
   ·by_cases bW:j<os.length
    ·rw[Qbd bW]at hj
     exact PY j o c hj hc
    ·have KY:j=os.length:=by
      have:=(Xy.mp hj).1
      rw[JQ]at this
      have:j<os.length+1:=this
      omega
     subst KY
     rw[Qax (XA _),Qdi]at hj
     have eo:(⟨t,vT⟩:Od)=o:=by simpa using hj
     rw[FJ,D6]at hc
     have ec:band=c:=Qae hc
     subst eo
     subst ec
     exact (e2.map Pr.pair).trans (by rw[iE])
   ·exact ((zE.same (ah.upd nt)).cS v8)
   ·exact (s2.trans US).cS n1
 ·rintro σ H2 ⟨os,bv,sv,cv,wv,rfl,eL,ij,FJ,Fw,PY,gc,s2⟩
  rw[aU]at FJ
  have D7:=s2 _ _ pA YW
  refine ⟨_,rfl,wt,_,rfl, .inr ⟨cU.of D7,?_⟩⟩
  refine ⟨_,rfl,p1,_,rfl, .inl ⟨aN.of eL,fun t nt=>?_⟩⟩
  refine ⟨by show 2<=sizeLine;decide,fun dr UU=>?_⟩
  have PZ:H t=none:=s2.none nt (gc.ne nt)
  have sA:ah H2 (upd (upd H2 t (.tup (kr os))) dr (.tup [.ref wt, .ref t])):=(ah.upd nt).trans (ah.upd UU)
  have htd:t≠dr:=fun z=>by rw[<-z,af]at UU;cases UU
  refine q dr os _ ⟨⟨wt,t,af,sA _ _ D7,by rw[ao htd,af]⟩,fun o ho=>(Fw o ho).same sA⟩ ⟨FJ,PY⟩ (gc.same sA) (s2.after sA)
theorem D8:ck P w K mg base fU 2 Ip Q8 ["_law_yard_here","_law_drawing_here"] (vo K):=by
 have g8:=jq (P:=P) (w:=w) (base:=base) T
 refine T.LJ.fn.ok cZ (fun vs H Q E h=>AL h) (fun cdv A outer s H vs Q E hr h=>?_)
 refine ⟨_,(ag (kU (pv 1) (dN (n:=2) K rfl rfl (bb (aP (i:=2) cZ.nd rfl (Or.inl rfl)) (bb (aP (i:=3) cZ.nd rfl (Or.inl rfl)) dM))))
   (ag (ax (i:=4) cZ.nd rfl (Or.inl rfl) (bE ae))
   (ag (cW PassesOwn.never rfl (rU K rfl (pv 2)) (aP (i:=5) cZ.nd rfl (Or.inl rfl)) (aj (da (bD K rfl Qa3 Qbl Qbk cO (pv 4) (aa (aF bR (bq [99,111,114,100,32] (by decide+kernel)) (bH (aO K rfl) (bE (aa (pv 5) (aa (bq [45] (by decide+kernel)) ae))) (bo la rfl T.z_int boot_int (aa (mR iO (pv 5) (bq [] (by decide+kernel)) (aT _)) ae)) (fun _ _=>rfl))) ae)))))
   (ag (cW PassesOwn.never rfl (Cv K rfl rfl T.z_zip (aa (aB g8 (hr.mono (by decide)) rfl T.wx.mg T.wx.fn.kp T.wx.bd .nil aX (aa (pv 0) ae)) (aa (pv 3) ae))) (dN (n:=2) K rfl rfl (bb (aP (i:=6) cZ.nd rfl (Or.inl rfl)) (bb (aP (i:=7) cZ.nd rfl (Or.inl rfl)) dM))) (ag (ax (i:=8) cZ.nd rfl (Or.inl rfl) (aF bR (bq [98,97,110,100,32] (by decide+kernel)) (pv 6)))
   (ag (cW PassesOwn.never rfl (rU K rfl (pv 7)) (dN (n:=2) K rfl rfl (bb (aP (i:=9) cZ.nd rfl (Or.inl rfl)) (bb (aP (i:=10) cZ.nd rfl (Or.inl rfl)) dM))) (aj (ax (i:=8) cZ.nd rfl (Or.inl rfl) (aF bR (aF bR (aF bR (aF bR (pv 8) (bq [32] (by decide+kernel))) (bo qM rfl T.z_str boot_str (aa (pv 9) ae))) (bq [46] (by decide+kernel))) (bo qM rfl T.z_str boot_str (aa (pv 10) ae))))))
   (aj (da (bD K rfl Qa3 Qbl Qbk cO (pv 4) (aa (pv 8) ae)))))))
   (aj (aR (bD K rfl Qas Qc6 Qc5 (nU K 10 rfl) (bq [10] (by decide+kernel)) (aa (pv 4) ae)))))))),?_⟩
 obtain ⟨y,dr,ws,os,rfl,hd,ht,q⟩:=h
 have hs:(2000000:Nat)<sizeLine:=by decide
 obtain ⟨⟨wt,ot,Ew,pA,YY⟩,Fw⟩:=hd
 have BW:=ht.wo.iT
 have FJ:os.length=(bh y).length:=by have:=ht.ol;rwa [ku]at this
 have Rj:=ht.bl
 rw[ku]at Rj
 refine ⟨_,rfl,dr,_,rfl,cU.of Ew,rfl,_,_,rfl,_,_,rfl,rfl,?_⟩
 refine ⟨by show 0<=sizeLine;decide,fun p2 n2=>?_⟩
 have ME:H p2=none:=n2
 refine ⟨_,rfl,wt,rfl,⟨_,cU.of (ah.upd n2 _ _ pA)⟩,?_⟩
 refine mP (K:=K) (a:=wt) (xs:=ba ws) (fun i σ H'=> ∃wv:Option V,σ=[some (.str (S y)),some (.ref dr),some (.ref wt),some (.ref ot),some (.ref p2),wv,none,none,none,none,none]/\H' p2=some (.lst (ba ((ws.take i).map gr)))/\aI p2 H H')
  ⟨none,rfl,af,aI.of (ah.upd n2)⟩ (fun i σ H' _ ⟨_,_,_,s⟩=>cU.of (s _ _ pA (ak pA ME))) ?_ ?_
 ·rintro i x σ H3 hx ⟨wv,rfl,kM,s3⟩
  obtain ⟨w,hw,rfl⟩:=kz hx
  have v_:=(ht.wo.all w (Qay hw)).2
  have SU:(eG w).length<=12:=by unfold eG;split<;>first | omega | simp
  refine ⟨_,rfl, .inl ⟨rfl,_,aN.of kM⟩,?_⟩
  refine ⟨_,rfl,by show 2<=sizeLine;decide,fun p4 n4=>?_⟩
  refine ⟨_,rfl,w,[],rfl,rfl, .inr ⟨_,rfl,?_⟩⟩
  refine ⟨p4,_,_,_,rfl,rfl,aN.of af,AM w,?_⟩
  refine ⟨[99,111,114,100,32],eG w,rfl,rfl,by show 5+_<=_;omega,?_⟩
  have h24:p2≠p4:=ak kM n4
  refine ⟨p2,_,_,rfl,rfl,by rw[ao h24];exact kM,by rw[ay,kb,Qab];omega,?_⟩
  refine ⟨_,rfl,?_,fun c o e z=>by rw[ao z];exact ah.upd n4 _ _ (s3 c o e z)⟩
  rw[af]
  have ec:[99,111,114,100,32]++eG w=gr w:=rfl
  rw[ec,i4, <-take_snoc hw,Qar]
  rfl
 rintro σ H3 ⟨wv,rfl,kM,s3⟩
 rw[ay,Qbh]at kM
 refine ⟨_,rfl,y,rfl,by have:=ht.y8;omega,fun qb l' H4 nq GO Ee wy s4=>?_⟩
 have el:=ko (by rw[fN ht.yd.lt]at Ee;exact Ee) wy
 subst el
 have GV:H4 ot=some (.tup (kr os)):=s4 _ _ (s3 _ _ YY (ak YY ME))
 have DT:=s4 _ _ kM
 have hqp:qb≠p2:=fun z=>by rw[z,kM]at nq;cases nq
 refine ⟨_,rfl,qb,ot,rfl,⟨_,aN.of GO⟩,⟨_,cU.of GV⟩,?_⟩
 have DJ:aI p2 H H4:=s3.trans (aI.of s4)
 have hzl:(List.zipWith b_ (bh y) (gC os)).length=os.length:=by rw[Qeh,ku];omega
 refine Fi (Sq1:=NM K qb) (Sq2:=NL K ot) (xs:=bX (bh y)) (ys:=kr os) (fun i σ H'=> ∃wv bv ov rv cv iv:Option V,σ=[some (.str (S y)),some (.ref dr),some (.ref wt),some (.ref ot),some (.ref p2),wv,bv,ov,rv,cv,iv]/\H' p2=some (.lst (ba (ws.map gr++(List.zipWith b_ (bh y) (gC os)).take i)))/\aI p2 H H'/\aI p2 H4 H')
  (by rw[aU,gq,FJ]) ⟨wv,none,none,none,none,none,rfl,by simpa using DT,DJ,aI.refl _ _⟩ (fun i σ H' _ ⟨_,_,_,_,_,_,_,_,_,s⟩=>⟨aN.of (s _ _ GO hqp),cU.of (s _ _ GV (fun z=>by rw[z,DT]at GV;cases GV))⟩) ?_ ?_
 ·rintro i x z σ H5 T hx hz ⟨wv,bv,ov,rv,cv,iv,rfl,o7,s5,s45⟩ nT
  obtain ⟨b,hb,rfl⟩:=eQ hx
  have hi:i<os.length:=by have:=(Xy.mp hz).1;rwa [gq]at this
  have ho:os[i]? =some os[i]:=Mn hi
  have C2:=Ln ho
  rw[hz]at C2
  cases C2
  have YZ:=Qa4 hi
  have eo:=Lr ho
  have O0:=ht.blt (Qay hb)
  generalize os[i]=o at YZ eo
  refine ⟨T,_,rfl,cU.of af,rfl,_,_,rfl,_,_,rfl,rfl,?_⟩
  have sT:=ah.upd (o:= .tup [.str (S [b]), .ref o.o]) nT
  have UW:=sT _ _ o7
  have UX:aI p2 H (upd H5 T (.tup [.str (S [b]), .ref o.o])):=s5.trans (aI.of sT)
  have P0:aI p2 H4 (upd H5 T (.tup [.str (S [b]), .ref o.o])):=s45.trans (aI.of sT)
  generalize upd H5 T (.tup [.str (S [b]), .ref o.o])=H6 at UW UX P0 ⊢
  have ts:bF H H6:=fun c xs e=>UX c _ e (ak e ME)
  have La:=(Fw _ YZ).ts ts
  have P4: ∀p∈o.ps,Ib p.pair:=fun p hp=>ht.sm eo hb _ (Qa5.mpr ⟨p,hp,rfl⟩)
  have hfw:=La.fw
  refine ⟨_,rfl,[98,97,110,100,32],[b],rfl,rfl,by show 5+1<=_;omega,?_⟩
  refine ⟨_,rfl,o.o,rfl,⟨_,cU.of La.tp⟩,?_⟩
  refine mP (K:=K) (a:=o.o) (xs:=iF o.ps) (fun j σ H'=>H'=H6/\ ∃cv iv:Option V,σ=[some (.str (S y)),some (.ref dr),some (.ref wt),some (.ref ot),some (.ref p2),wv,some (.str (S [b])),some (.ref o.o),some (.str (S (b_ b ((o.ps.take j).map Pr.pair)))),cv,iv])
   ⟨rfl,cv,iv,rfl⟩ (fun j σ H' _ h=>by rw[h.1];exact cU.of La.tp) ?_ ?_
  ·rintro j x σ H7 hx ⟨rfl,cv,iv,rfl⟩
   obtain ⟨p,hp,rfl⟩:=Df hx
   have hm:=Qay hp
   have hpk:=La.pr p hm
   obtain ⟨g1,g2⟩:=P4 p hm
   have g1':p.c<30:=g1
   have N8:p.i<30:=g2
   have d1:(dg p.c).length<=3:=(tm _ g1).2.2.2
   have d2:(dg p.i).length<=3:=(tm _ g2).2.2.2
   have xR:=qU (b:=b) (ps:=(o.ps.take j).map Pr.pair) O0 (fun r hr=>by
    obtain ⟨r',HH,rfl⟩:=Qa5.mp hr
    exact P4 r' (Qba HH)) (by rw[kb,Qab];omega)
   refine ⟨p.t,_,rfl,cU.of hpk.tp,rfl,_,_,rfl,_,_,rfl,rfl,?_⟩
   refine ⟨_,rfl,_,[32],rfl,rfl,by show _+1<=_;omega,?_⟩
   refine ⟨_,rfl,p.c,rfl,by omega,_,_,rfl,rfl,by rw[JQ];show _+1+_<=_;omega,?_⟩
   refine ⟨_,[46],rfl,rfl,by rw[JQ,JQ];show _+1+_+1<=_;omega,?_⟩
   refine ⟨_,rfl,p.i,rfl,by omega,_,_,rfl,rfl,by rw[JQ,JQ,JQ];show _+1+_+1+_<=_;omega,?_⟩
   refine ⟨rfl,some (.int p.c),some (.int p.i),?_⟩
   have er:b_ b ((o.ps.take (j+1)).map Pr.pair)=(((b_ b ((o.ps.take j).map Pr.pair)++[32])++dg p.c)++[46])++dg p.i:=by
    rw[<-take_snoc hp,Qar]
    exact xG
   rw[er]
   rfl
  ·rintro σ H7 ⟨rfl,cv,iv,rfl⟩
   rw[gp,Qbh]
   refine ⟨_,rfl, .inl ⟨rfl,_,aN.of UW⟩,_,rfl,p2,_,_,rfl,rfl,UW,by rw[ay,JQ,kb,Qab];omega,?_⟩
   refine ⟨_,_,_,_,_,_,rfl,?_,fun c o e w=>by rw[ao w];exact UX c o e w,fun c o e w=>by rw[ao w];exact P0 c o e w⟩
   have ez:(List.zipWith b_ (bh y) (gC os))[i]? =some (b_ b (o.ps.map Pr.pair)):=by rw[List.getElem?_zipWith,hb,eo]
   rw[af,i4,Xz,take_snoc ez]
 ·rintro σ H5 ⟨wv,bv,ov,rv,cv,iv,rfl,o7,s5,_⟩
  have UY:(List.zipWith b_ (bh y) (gC os)).length=(bX (bh y)).length:=by rw[hzl,aU];omega
  rw[<-UY,Qbh]at o7
  have aam:=ip (ps:=rowsOf y ws (gC os)) fun x hx=>(ht.rows x hx).2
  have xR:=oJ (ws:=ws) ht.ol
  rw[ku]at xR
  refine ⟨rfl,_,rfl,p2,rowsOf y ws (gC os),rfl,rfl,aN.of o7,by omega,?_⟩
  exact q _ fun c o e=>s5 c o e (ak e ME)
theorem D9:ck P w K mg base fU 2 Ij Q3 ["_law_box_here","_law_yard_here","_law_top"] (vd K):=by
 have aV:=cC (P:=P) (w:=w) (base:=base) T
 refine T.LC.fn.ok DI (fun vs H Q E h=>Ax h) (fun cdv A outer s H vs Q E hr h=>?_)
 refine ⟨_,(aj (aR (bD K rfl Qas Qc6 Qc5 (uk K rfl) (bq [] (by decide+kernel)) (aa (iN ["_law_k","_law_yard_here","_law_box_here"] [none,some 1,some 0] (kX rfl T.z_range (aa (aB aV (hr.mono (by decide)) rfl T.F9.mg T.F9.fn.kp T.F9.bd .nil aX (aa (pv 0) (aa (aF bQ (pv 2) au) ae))) ae)) ⟨⟨rfl,rfl,by first | exact .inl rfl | exact .inr rfl⟩,⟨⟨rfl,rfl,by first | exact .inl rfl | exact .inr rfl⟩,trivial⟩⟩ (fun _ _ _ _=>(aP (i:=0) (by decide+kernel:List.Nodup (["_law_k","_law_yard_here","_law_box_here"]:List Str)) rfl (Or.inl rfl))) (fun _ _ _ _=>wR) (fun _ _ _ _=>(bH B6 (pv 1) (aB aV (hr.mono (by decide)) rfl T.F9.mg T.F9.fn.kp T.F9.bd .nil aX (aa (pv 2) (aa (az fv rfl T.z_len Qap (aa (pv 1) ae)) ae))) (fun _ _=>rfl)))) ae)))),?_⟩
 obtain ⟨b,y,top,rfl,hb,hy,hyl,ht,q⟩:=h
 have hs:(100000:Nat)<sizeLine:=by decide
 walk_at "rd"
 refine ⟨b,_,rfl,hb,by omega,by omega,fun n H1 hn As s1=>?_⟩
 walk_at "rd"
 refine Cb (fun i acc H'=>bG H' b/\aI b H H'/\ ∃l:List Nat,acc=bX l/\l.length=i/\ ∀c∈l,c∈y) (by simp;omega) ⟨As,s1,[],rfl,rfl,by simp⟩ ?_ ?_
 ·rintro i acc H2 Nx hi hl ⟨gc,s2,l,rfl,ug,hm⟩ nx
  have CK:0<y.length:=Qbq.mpr hy
  refine ⟨⟨rfl,rfl,trivial⟩,sR ?_⟩
  walk_at "rd"
  refine ⟨b,_,rfl,gc,by omega,by omega,fun r H3 UZ mD s3=>?_⟩
  have EC:r<y.length:=by omega
  refine ⟨y,_,y[r],rfl,rfl,by omega,bf (Mn EC),?_⟩
  refine nx _ _ (by simpa using hl) ⟨mD,s2.trans s3,l++[y[r]],gP _ _,by simp[ug],fun c hc=>?_⟩
  rcases Qaa.mp hc with z | z
  ·exact hm c z
  ·rw[QB.mp z];exact Qa4 EC
 ·rintro acc H2 D hl ⟨gc,s2,l,rfl,ug,hm⟩ hD
  have XR:l.length<=top:=by simp at ug;omega
  refine ⟨D,l.map fun c=>[c],rfl,rfl,aN.of ?_,?_,?_⟩
  ·rw[af, <-jd]
  ·rw[Lk];omega
  ·rw[Dc]
   exact q l _ hm XR (gc.same (ah.upd hD)) (s2.trans (aI.of (ah.upd hD)))
theorem Bj:ck P w K mg base fU 3 Im Q6 ["_law_box_here","_law_yard_here"] (qX K):=by
 have aV:=cC (P:=P) (w:=w) (base:=base) T
 have GW:=D9 (P:=P) (w:=w) (base:=base) T
 refine T.LH.fn.ok fJ (fun vs H Q E h=>xK h) (fun cdv A outer s H vs Q E hr h=>?_)
 refine ⟨_,(ag (ax (i:=2) fJ.nd rfl (Or.inl rfl) au)
   (ag (ax (i:=3) fJ.nd rfl (Or.inl rfl) (bE ae))
   (ag (cW PassesOwn.never rfl (kX rfl T.z_range (aa (aB aV (hr.mono (by decide)) rfl T.F9.mg T.F9.fn.kp T.F9.bd .nil aX (aa (pv 0) (aa au ae))) ae)) (aP (i:=4) fJ.nd rfl (Or.inl rfl)) (ag (ax (i:=5) fJ.nd rfl (Or.inl rfl) (aB GW (hr.mono (by decide)) rfl T.LC.mg T.LC.fn.kp T.LC.bd .nil aX (aa (pv 0) (aa (pv 1) (aa (az (qf rfl) rfl T.z_min boot_min (aa (pv 2) (aa (bH (aO K rfl) (bE (aa au (aa au (aa au ae)))) (aB aV (hr.mono (by decide)) rfl T.F9.mg T.F9.fn.kp T.F9.bd .nil aX (aa (pv 0) (aa au ae))) (fun _ _=>rfl)) ae))) ae)))))
   (ag (ax (i:=2) fJ.nd rfl (Or.inl rfl) (aF BO (pv 2) (az fv rfl T.z_len Qap (aa (pv 5) ae))))
   (aj (da (bD K rfl Qa3 Qbl Qbk cO (pv 3) (aa (pv 5) ae)))))))
   (aj (aR (bo (bz K rfl) rfl T.z_tuple boot_tuple (aa (pv 3) ae))))))),?_⟩
 obtain ⟨b,y,rfl,hb,L5,hz,q⟩:=h
 have hs:(100000:Nat)<sizeLine:=by decide
 walk_at "wk"
 intro p1 n1
 have v8:p1≠b:=hb.ne n1
 walk_at "wk"
 refine ⟨b,4,rfl,hb.same (ah.upd n1),by decide,by decide,fun n H1 hn As s1=>?_⟩
 walk_at "wk"
 refine kZ (fun i σ H'=> ∃(ws:List (List Nat)) (lf:Nat) (kv wv:Option V),σ=[some (.ref b),some (.str (S y)),some (.int lf),some (.ref p1),kv,wv]/\H' p1=some (.lst (ba ws))/\ws.length=i/\(∀w∈ws,(∀c∈w,c∈y)/\w.length<=12)/\lf+i6 ws=16/\bG H' b/\aI b H H')
  ⟨[],16,none,none,rfl,s1 _ _ af v8,rfl,fun _ h=>absurd h Qam,rfl,As,(aI.of (ah.upd n1)).trans s1⟩ ?_ ?_
 ·rintro i σ H2 hi ⟨ws,lf,kv,wv,rfl,eL,v_,hw,Mb,gc,s2⟩
  have hi5:i<4:=by omega
  refine ⟨_,rfl,_,rfl,_,rfl,by decide,fun p2 n2=>?_⟩
  have Bi:p2≠b:=gc.ne n2
  refine ⟨_,rfl,b,3,rfl,gc.same (ah.upd n2),by decide,by decide,fun r H3 UZ mD s3=>?_⟩
  obtain ⟨v,hv,U0⟩: ∃v:Nat,lZ [V.int 3,V.int 6,V.int 12] ((r:Nat):Int)=some (V.int v)/\v<=12:=by
   have h3:r=0\/r=1\/r=2:=by omega
   rcases h3 with rfl | rfl | rfl
   ·exact ⟨3,bf (xs:=[V.int 3,V.int 6,V.int 12]) (j:=0) rfl,by decide⟩
   ·exact ⟨6,bf (xs:=[V.int 3,V.int 6,V.int 12]) (j:=1) rfl,by decide⟩
   ·exact ⟨12,bf (xs:=[V.int 3,V.int 6,V.int 12]) (j:=2) rfl,by decide⟩
  refine ⟨p2,_,_,_,rfl,rfl,aN.of (s3 _ _ af Bi),hv,_,_,rfl,?_⟩
  obtain ⟨top,ht,U1,IS⟩: ∃top:Nat,(if (v:Int)<(lf:Int) then (v:Int) else (lf:Int))=(top:Int)/\top<=lf/\top<=12:=by
   split
   ·exact ⟨v,rfl,by omega,U0⟩
   ·exact ⟨lf,rfl,XA _,by omega⟩
  rw[ht]
  refine ⟨b,y,top,rfl,mD,L5,by omega,by omega,fun w H4 OX MB zE s4=>?_⟩
  have GC:aI b H2 H4:=((aI.of (ah.upd n2)).trans s3).trans s4
  have DT:=GC _ _ eL v8
  refine ⟨_,rfl,_,rfl,w,rfl,by omega,_,_,rfl,rfl,?_⟩
  refine ⟨_,rfl, .inl ⟨rfl,_,aN.of DT⟩,_,rfl,p1,_,_,rfl,rfl,DT,by rw[ay];omega,?_⟩
  rw[i4]
  have elf:((lf:Int) - (w.length:Int))=((lf - w.length:Nat):Int):=by omega
  refine ⟨ws++[w],lf - w.length,_,_,by rw[<-elf];rfl,af,by simp[v_],fun u hu=>?_,by rw[AX];omega,zE.cS v8,(s2.trans GC).cS n1⟩
  rcases Qaa.mp hu with z | z
  ·exact hw u z
  ·rw[QB.mp z];exact ⟨OX,by omega⟩
 ·rintro σ H2 ⟨ws,lf,kv,wv,rfl,eL,v_,hw,Mb,gc,s2⟩
  refine ⟨_,rfl,p1,_,rfl, .inl ⟨aN.of eL,fun t nt=>?_⟩⟩
  have PZ:H t=none:=s2.none nt (gc.ne nt)
  exact q t ws _ PZ (hb.ne PZ) af ⟨by omega,hw⟩ (by omega) (by omega) (gc.cS (hb.ne PZ)) (s2.cS PZ)
theorem D_:ck P w K mg base fU 2 Ii Q2 ["_law_box_here","_law_few","_law_top"] (va K):=by
 have aV:=cC (P:=P) (w:=w) (base:=base) T
 have g7:=jr (P:=P) (w:=w) (base:=base) T
 refine T.LB.fn.ok fe (fun vs H Q E h=>Aw h) (fun cdv A outer s H vs Q E hr h=>?_)
 refine ⟨_,(ag (ax (i:=3) fe.nd rfl (Or.inl rfl) (bo (nF rfl) rfl T.z_list boot_list (aa (bq [97,98,99,100,101,102,103,104,105,106,107,108,109,110,111,112,113,114,115,116,117,118,119,120,121,122] (by decide+kernel)) ae)))
   (ag (ax (i:=4) fe.nd rfl (Or.inl rfl) (bE ae))
   (ag (cW PassesOwn.never rfl (kX rfl T.z_range (aa (aF bQ (pv 1) (aB aV (hr.mono (by decide)) rfl T.F9.mg T.F9.fn.kp T.F9.bd .nil aX (aa (pv 0) (aa (aF bQ (aF BO (pv 2) (pv 1)) au) ae)))) ae)) (aP (i:=5) fe.nd rfl (Or.inl rfl)) (ag (ax (i:=6) fe.nd rfl (Or.inl rfl) (bD K rfl Qa3 Qed Qec nr (pv 3) (aa (aB aV (hr.mono (by decide)) rfl T.F9.mg T.F9.fn.kp T.F9.bd .nil aX (aa (pv 0) (aa (az (aw K rfl) rfl T.z_len Qap (aa (pv 3) ae)) ae))) ae)))
   (aj (ax (i:=4) fe.nd rfl (Or.inl rfl) (aF BZ (pv 4) (bE (aa (pv 6) (aa (aB g7 (hr.mono (by decide)) rfl T.wu.mg T.wu.fn.kp T.wu.bd .nil aX (aa (pv 6) ae)) ae))))))))
   (ag (ax (i:=7) fe.nd rfl (Or.inl rfl) (bq [] (by decide+kernel)))
   (ag (lp PassesOwn.never (aE qe (az (aw K rfl) rfl T.z_len Qap (aa (pv 4) ae)) au (aT _)) (aj (ax (i:=7) fe.nd rfl (Or.inl rfl) (aF bR (pv 7) (bD K rfl Qa3 Qed Qec nr (pv 4) (aa (aB aV (hr.mono (by decide)) rfl T.F9.mg T.F9.fn.kp T.F9.bd .nil aX (aa (pv 0) (aa (az (aw K rfl) rfl T.z_len Qap (aa (pv 4) ae)) ae))) ae))))))
   (aj (aR (pv 7)))))))),?_⟩
 obtain ⟨b,iT,top,rfl,hb,h1,h2,h3,q⟩:=h
 have hs:(100000:Nat)<sizeLine:=by decide
 walk_at "rd"
 intro p1 n1
 walk_at "rd"
 intro p2 n2
 have s1:ah H (upd (upd H p1 (.lst (bX aH))) p2 (.lst [])):=(ah.upd n1).trans (ah.upd n2)
 have v8:p1≠b:=hb.ne n1
 have BG:H p2=none:=ah.free (ah.upd n1) n2
 have Bi:p2≠b:=hb.ne BG
 have y7:p1≠p2:=fun z=>by rw[<-z,af]at n2;cases n2
 walk_at "rd"
 refine ⟨b,_,rfl,hb.same s1,by omega,by omega,fun n H1 hn As s2=>?_⟩
 walk_at "rd"
 refine kZ (fun i σ H'=> ∃(pe:Addr) (L E:List Nat) (kv lv:Option V),σ=[some (.ref b),some (.int iT),some (.int top),some (.ref p1),some (.ref pe),kv,lv,none]/\Ll i L E/\H' p1=some (.lst (bX L))/\H' pe=some (.lst (bX E))/\p1≠pe/\H pe=none/\bG H' b/\aI b H H')
  ⟨p2,aH,[],none,none,rfl,Ll.start,s2 _ _ (by rw[ao y7,af];rfl) v8,s2 _ _ af Bi,y7,BG,As,(aI.of s1).trans s2⟩ ?_ ?_
 ·rintro i σ H2 hi ⟨pe,L,E,kv,lv,rfl,yw,eL,iE,Y0,RB,gc,s3⟩
  have KZ:i<26:=by simp at hi;omega
  have T7:=yw.ll
  have RC:=yw.el
  refine ⟨_,rfl, .inl ⟨rfl,_,aN.of eL⟩,?_⟩
  walk_at "rd"
  refine ⟨p1,_,rfl, .inl (aN.of eL),b,_,rfl,gc,by rw[aU];omega,by rw[aU];omega,fun r H3 UZ mD s4=>?_⟩
  rw[aU]at UZ
  have EC:r<L.length:=by omega
  have U2:=s4 _ _ eL v8
  have U3:=s4 _ _ iE (hb.ne RB)
  refine ⟨p1,_,_,r,_,rfl,rfl,U2,by omega,by omega,by rw[aU,seqIndex_of (by omega) (by omega),Qcx],Dd EC,?_⟩
  rw[qQ]
  have bW:Lt L[r]:= .inl (yw.sm _ (Qa4 EC))
  have P5:(upd H3 p1 (.lst (bX (L.eraseIdx r)))) pe=some (.lst (bX E)):=by rw[ao (Ne.symm Y0)];exact U3
  walk_at "rd"
  intro p3 n3
  have e3:pe≠p3:=ak P5 n3
  refine ⟨pe,p3,_,_,rfl,rfl,by rw[ao e3];exact P5,af,by rw[aU];show E.length+2<=_;omega,fun p4 n4=>?_⟩
  have Y1:H p3=none:=((s3.trans s4).cS n1).none n3 (mD.cS v8 |>.ne n3)
  have Jb:=(mD.cS (o:= .lst (bX (L.eraseIdx r))) v8).cS (o:= .lst [V.str (S [L[r]]),V.str (S [eV L[r]])]) (hb.ne Y1)
  have Y2:=((s3.trans s4).cS (o:= .lst (bX (L.eraseIdx r))) n1).cS (o:= .lst [V.str (S [L[r]]),V.str (S [eV L[r]])]) Y1
  have U4:H p4=none:=Y2.none n4 (Jb.ne n4)
  have Y3:p1≠p4:=fun z=>by rw[<-z]at n4;by_cases z3:p1=p3<;>simp[upd,z3]at n4
  have O6:p1≠p3:=fun z=>by rw[<-z,af]at n3;cases n3
  refine ⟨p4,L.eraseIdx r,E++[L[r],eV L[r]],_,_,rfl,yw.turn KZ EC,by rw[ao Y3,ao O6,af],?_,Y3,U4,Jb.cS (hb.ne U4),Y2.cS U4⟩
  rw[af, <-Gg]
  rfl
 ·rintro σ H2 ⟨pe,L,E,kv,lv,rfl,yw,eL,iE,Y0,RB,gc,s3⟩
  have RC:=yw.el
  have Eb:=hb.ne RB
  walk_at "rd"
  refine ⟨fun m σ H'=> ∃F E':List Nat,σ=[some (.ref b),some (.int iT),some (.int top),some (.ref p1),some (.ref pe),kv,lv,some (.str (S F))]/\m=E'.length/\(F++E').Perm E/\H' pe=some (.lst (bX E'))/\bG H' b/\aI b H H',⟨_,[],E,rfl,rfl,Qcq _,iE,gc,s3⟩,?_⟩
  rintro m σ H3 ⟨F,E',rfl,rfl,lK,GX,mD,s4⟩
  have hlen:=lK.length_eq
  rw[JQ]at hlen
  have Mm:(iT:Int)+n<=9:=by omega
  have aan:E.length<=100:=by rw[RC];omega
  walk_at "rd"
  refine ⟨pe,_,rfl, .inl (aN.of GX),_,_,rfl,rfl,_,rfl,cn (fun e=>?_) (fun e=>?_)⟩
  ·have e':(0:Int)<((bX E').length:Nat):=of_decide_eq_true e
   rw[aU]at e'
   refine ⟨_,rfl,_,rfl, .inl ⟨rfl,_,aN.of GX⟩,?_⟩
   walk_at "rd"
   refine ⟨pe,_,rfl, .inl (aN.of GX),b,_,rfl,mD,by rw[aU];omega,by rw[aU];omega,fun r H4 EC zE s5=>?_⟩
   rw[aU]at EC
   have zA:r<E'.length:=by omega
   refine ⟨pe,_,_,r,_,rfl,rfl,s5 _ _ GX Eb,by omega,by omega,by rw[aU,seqIndex_of (by omega) (by omega),Qcx],Dd zA,?_⟩
   rw[qQ]
   have hp:=fK (Mn zA)
   have fu:=hp.length_eq
   rw[Zy]at fu
   refine ⟨F,_,rfl,rfl,by show F.length+1<=_;omega,(E'.eraseIdx r).length,by omega,F++[E'[r]],E'.eraseIdx r,rfl,rfl,?_,af,zE.cS Eb,(s4.trans s5).cS RB⟩
   rw[Xz]
   exact (Qbi F hp).trans lK
  ·have e':E'=[]:=by
    cases E' with
    | nil=>rfl
    | cons c r=>exact absurd (decide_eq_true (by rw[aU];show (0:Int)<((r.length+1:Nat):Int);omega)) e
   subst e'
   rw[Qal]at lK
   have ug:=lK.length_eq
   refine ⟨_,rfl,q F H3 (yw.yd.perm lK.symm) ?_ ?_ mD s4⟩
   ·rw[ug,RC];omega
   ·rw[ug,RC];omega
theorem Mc:ck P w K mg base fU 6 Iy Rg ["_law_script"] (lh K):=by
 have xX:=GU (P:=P) (w:=w) (base:=base) T
 have GY:=D_ (P:=P) (w:=w) (base:=base) T
 have xY:=v9 (P:=P) (w:=w) (base:=base) T
 have Ea:=Bj (P:=P) (w:=w) (base:=base) T
 have GZ:=D8 (P:=P) (w:=w) (base:=base) T
 have aV:=cC (P:=P) (w:=w) (base:=base) T
 have g8:=jq (P:=P) (w:=w) (base:=base) T
 have g7:=jr (P:=P) (w:=w) (base:=base) T
 have tS:=DQ (P:=P) (w:=w) (base:=base) T
 have rg:=xW (P:=P) (w:=w) (base:=base) T
 have kK:=pX (P:=P) (w:=w) (base:=base) T
 have Bk:=pj (P:=P) (w:=w) (base:=base) T
 have Bl:=pk (P:=P) (w:=w) (base:=base) T
 refine T.Rh.fn.ok fR (fun vs H Q E h=>Gf h) (fun cdv A outer s H vs Q E hr h=>?_)
 refine ⟨_,(@ag _ _ _ _ _ (@ax _ _ 1 _ _ _ _ fR.nd rfl (Or.inl rfl) (@aB _ _ _ _ _ _ _ _ _ _ _ _ _ _ _ _ xX (hr.mono (by decide)) rfl T.F8.mg T.F8.fn.kp T.F8.bd .nil aX (@aa _ _ _ _ _ (pv 0) (@aa _ _ _ _ _ au ae rfl) rfl) (by decide) rfl rfl) rfl (by first | exact .inl rfl | exact .inr rfl | assumption)) (@ag _ _ _ _ _ (@ax _ _ 2 _ _ _ _ fR.nd rfl (Or.inr rfl) (@aB _ _ _ _ _ _ _ _ _ _ _ _ _ _ _ _ GY (hr.mono (by decide)) rfl T.LB.mg T.LB.fn.kp T.LB.bd .nil aX (@aa _ _ _ _ _ (pv 1) (@aa _ _ _ _ _ au (@aa _ _ _ _ _ au ae rfl) rfl) rfl) (by decide) rfl rfl) rfl (by first | exact .inl rfl | exact .inr rfl | assumption)) (@ag _ _ _ _ _ (@ax _ _ 3 _ _ _ _ fR.nd rfl (Or.inl rfl) (@aB _ _ _ _ _ _ _ _ _ _ _ _ _ _ _ _ xY (hr.mono (by decide)) rfl T.LG.mg T.LG.fn.kp T.LG.bd .nil aX (@aa _ _ _ _ _ (@aB _ _ _ _ _ _ _ _ _ _ _ _ _ _ _ _ xX (hr.mono (by decide)) rfl T.F8.mg T.F8.fn.kp T.F8.bd .nil aX (@aa _ _ _ _ _ (pv 0) (@aa _ _ _ _ _ au ae rfl) rfl) (by decide) rfl rfl) (@aa _ _ _ _ _ (pv 2) (@aa _ _ _ _ _ (@aB _ _ _ _ _ _ _ _ _ _ _ _ _ _ _ _ Ea (hr.mono (by decide)) rfl T.LH.mg T.LH.fn.kp T.LH.bd .nil aX (@aa _ _ _ _ _ (pv 1) (@aa _ _ _ _ _ (pv 2) ae rfl) rfl) (by decide) rfl rfl) ae rfl) rfl) rfl) (by decide) rfl rfl) rfl (by first | exact .inl rfl | exact .inr rfl | assumption)) (@ag _ _ _ _ _ (@ax _ _ 4 _ _ _ _ fR.nd rfl (Or.inl rfl) (@aB _ _ _ _ _ _ _ _ _ _ _ _ _ _ _ _ GZ (hr.mono (by decide)) rfl T.LJ.mg T.LJ.fn.kp T.LJ.bd .nil aX (@aa _ _ _ _ _ (pv 2) (@aa _ _ _ _ _ (pv 3) ae rfl) rfl) (by decide) rfl rfl) rfl (by first | exact .inl rfl | exact .inr rfl | assumption)) (@F_ _ _ _ _ _ _ _ _ _ _ _ _ _ _ _ _ _ _ _ _ _ _ _ _ _ _ _ _ _ _ _ 0 _ _ _ _ _ _ _ _ ["_law_letter","_law_yard_here"] [none,some 2] _ _ _ _ _ _ _ _ _ _ _ _ _ _ _ _ _ _ _ _ _ _ _ _ _ _ _ _ _ _ _ _ Bk aV Bl (hr.mono (by decide)) (hr.mono (by decide)) (hr.mono (by decide)) rfl rfl rfl T.wx.mg T.F9.mg T.wu.mg T.wx.fn.kp T.F9.fn.kp T.wu.fn.kp T.wx.bd T.F9.bd T.wu.bd fR.nd rfl rfl rfl rfl rfl rfl (by first | exact Or.inl rfl | exact Or.inr (Or.inl rfl) | exact Or.inr (Or.inr rfl)) (by first | exact Or.inl rfl | exact Or.inr (Or.inl rfl) | exact Or.inr (Or.inr rfl)) rfl rfl rfl rfl (by first | exact .inl rfl | exact .inr rfl) (by first | exact .inl rfl | exact .inr rfl) (by first | exact .inl rfl | exact .inr rfl) (by first | exact .inl rfl | exact .inr rfl) (@aB _ _ _ _ _ _ _ _ _ _ _ _ _ _ _ _ aV (hr.mono (by decide)) rfl T.F9.mg T.F9.fn.kp T.F9.bd .nil aX (@aa _ _ _ _ _ (pv 1) (@aa _ _ _ _ _ (@az _ _ _ _ _ _ _ _ _ (aw K rfl) rfl T.z_len Qap (@aa _ _ _ _ _ (pv 5) ae rfl) (by decide) (by decide) rfl rfl) ae rfl) rfl) (by decide) rfl rfl) (fun _ _=>rfl) (fun _ _=>rfl) (Aq [97,98,99,100,101,102,103,104,105,106,107,108,109,110,111,112,113,114,115,116,117,118,119,120,121,122] (by decide+kernel)) ⟨⟨rfl,rfl,by first | exact .inl rfl | exact .inr rfl⟩,trivial⟩ (by decide+kernel) rfl (fun _ _ _ _=>FR (i:=0) (j:=1) rfl (Or.inl rfl) rfl (by first | exact Or.inl rfl | exact Or.inr (Or.inl rfl) | exact Or.inr (Or.inr rfl))) rfl (by intro _ _ _ _;rfl) rfl rfl (by intro _;rfl) (by decide) (by decide) (by decide) (by decide) rfl rfl (by decide) (@ag _ _ _ _ _ (@bU _ _ _ _ _ _ _ _ (@aE _ _ _ _ _ _ _ _ rS (@az _ _ _ _ _ _ _ _ _ (ig K rfl hr) rfl T.z_repr boot_repr (@aa _ _ _ _ _ (@aB _ _ _ _ _ _ _ _ _ _ _ _ _ _ _ _ tS (hr.mono (by decide)) rfl T.A3.mg T.A3.fn.kp T.A3.bd .nil aX (@aa _ _ _ _ _ (pv 8) (@aa _ _ _ _ _ (pv 4) ae rfl) rfl) (by decide) rfl rfl) ae rfl) (by decide) (by decide) rfl rfl) (@az _ _ _ _ _ _ _ _ _ (ig K rfl hr) rfl T.z_repr boot_repr (@aa _ _ _ _ _ (@aB _ _ _ _ _ _ _ _ _ _ _ _ _ _ _ _ rg (hr.mono (by decide)) rfl T.EA.mg T.EA.fn.kp T.EA.bd .nil aX (@aa _ _ _ _ _ (pv 8) (@aa _ _ _ _ _ (pv 4) ae rfl) rfl) (by decide) rfl rfl) ae rfl) (by decide) (by decide) rfl rfl) (aT _)) (@aj _ _ _ (@aR _ _ _ _ yc)) bu) (@ag _ _ _ _ _ (@cW _ _ _ _ _ _ _ _ PassesOwn.never rfl (@zN _ _ _ _ _ _ _ rfl T.z_range (@aa _ _ _ _ _ au (@aa _ _ _ _ _ (@az _ _ _ _ _ _ _ _ _ (zQ rfl) rfl T.z_max boot_max (@aa _ _ _ _ _ au (@aa _ _ _ _ _ (@az _ _ _ _ _ _ _ _ _ (qf rfl) rfl T.z_min boot_min (@aa _ _ _ _ _ au (@aa _ _ _ _ _ (@az _ _ _ _ _ _ _ _ _ (aw K rfl) rfl T.z_len Qap (@aa _ _ _ _ _ (pv 0) ae rfl) (by decide) (by decide) rfl rfl) ae rfl) rfl) (by decide) (by decide) rfl rfl) ae rfl) rfl) (by decide) (by decide) rfl rfl) ae rfl) rfl) rfl rfl) (@aP _ _ 9 _ fR.nd rfl (Or.inl rfl) (by first | exact .inl rfl | exact .inr rfl | assumption)) (@ag _ _ _ _ _ (@ax _ _ 1 _ _ _ _ fR.nd rfl (Or.inl rfl) (@aB _ _ _ _ _ _ _ _ _ _ _ _ _ _ _ _ xX (hr.mono (by decide)) rfl T.F8.mg T.F8.fn.kp T.F8.bd .nil aX (@aa _ _ _ _ _ (pv 0) (@aa _ _ _ _ _ (pv 9) ae rfl) rfl) (by decide) rfl rfl) rfl (by first | exact .inl rfl | exact .inr rfl | assumption)) (@ag _ _ _ _ _ (@ax _ _ 10 _ _ _ _ fR.nd rfl (Or.inl rfl) (@mR _ _ _ _ _ _ _ _ lq (@aB _ _ _ _ _ _ _ _ _ _ _ _ _ _ _ _ aV (hr.mono (by decide)) rfl T.F9.mg T.F9.fn.kp T.F9.bd .nil aX (@aa _ _ _ _ _ (pv 1) (@aa _ _ _ _ _ au ae rfl) rfl) (by decide) rfl rfl) au (aT _)) rfl (by first | exact .inl rfl | exact .inr rfl | assumption)) (@ag _ _ _ _ _ (@ax _ _ 11 _ _ _ _ fR.nd rfl (Or.inl rfl) (@aB _ _ _ _ _ _ _ _ _ _ _ _ _ _ _ _ kK (hr.mono (by decide)) rfl T.Ez.mg T.Ez.fn.kp T.Ez.bd .nil aX (@aa _ _ _ _ _ (pv 1) (@aa _ _ _ _ _ (pv 2) (@aa _ _ _ _ _ (pv 4) ae rfl) rfl) rfl) (by decide) rfl rfl) rfl (by first | exact .inl rfl | exact .inr rfl | assumption)) (@ag _ _ _ _ _ (@bU _ _ _ _ _ _ _ _ (@iI _ _ _ (pv 10) (by intro _;rfl)) (@aj _ _ _ (@ax _ _ 11 _ _ _ _ fR.nd rfl (Or.inl rfl) (@aB _ _ _ _ _ _ _ _ _ _ _ _ _ _ _ _ kK (hr.mono (by decide)) rfl T.Ez.mg T.Ez.fn.kp T.Ez.bd .nil aX (@aa _ _ _ _ _ (pv 1) (@aa _ _ _ _ _ (pv 2) (@aa _ _ _ _ _ (pv 11) ae rfl) rfl) rfl) (by decide) rfl rfl) rfl (by first | exact .inl rfl | exact .inr rfl | assumption))) bu) (@ag _ _ _ _ _ (@bU _ _ _ _ _ _ _ _ (@aE _ _ _ _ _ _ _ _ rS (@az _ _ _ _ _ _ _ _ _ (ig K rfl hr) rfl T.z_repr boot_repr (@aa _ _ _ _ _ (@aB _ _ _ _ _ _ _ _ _ _ _ _ _ _ _ _ tS (hr.mono (by decide)) rfl T.A3.mg T.A3.fn.kp T.A3.bd .nil aX (@aa _ _ _ _ _ (pv 2) (@aa _ _ _ _ _ (pv 11) ae rfl) rfl) (by decide) rfl rfl) ae rfl) (by decide) (by decide) rfl rfl) (@az _ _ _ _ _ _ _ _ _ (ig K rfl hr) rfl T.z_repr boot_repr (@aa _ _ _ _ _ (@aB _ _ _ _ _ _ _ _ _ _ _ _ _ _ _ _ rg (hr.mono (by decide)) rfl T.EA.mg T.EA.fn.kp T.EA.bd .nil aX (@aa _ _ _ _ _ (pv 2) (@aa _ _ _ _ _ (pv 11) ae rfl) rfl) (by decide) rfl rfl) ae rfl) (by decide) (by decide) rfl rfl) (aT _)) (@aj _ _ _ (@aR _ _ _ _ yc)) bu) (@aj _ _ _ (@bU _ _ _ _ _ _ _ _ (@aE _ _ _ _ _ _ _ _ (jT K rfl hr) (@aB _ _ _ _ _ _ _ _ _ _ _ _ _ _ _ _ tS (hr.mono (by decide)) rfl T.A3.mg T.A3.fn.kp T.A3.bd .nil aX (@aa _ _ _ _ _ (pv 2) (@aa _ _ _ _ _ (pv 4) ae rfl) rfl) (by decide) rfl rfl) (@dz _ _ _ _ _ (@aa _ _ _ _ _ (bq [116,111,108,100] (by decide+kernel)) (@aa _ _ _ _ _ (pv 3) ae rfl) rfl)) (aT _)) (@aj _ _ _ (@aR _ _ _ _ yc)) bu))))))) (by intro _;rfl)) (@aj _ _ _ (@aR _ _ _ _ yc))))))))),?_⟩
 obtain ⟨a,ns,rfl,hS,hl,q⟩:=h
 have hs:(100000:Nat)<sizeLine:=by decide
 refine ⟨_,rfl,a,ns,0,rfl,hS,by decide,fun b H1 nb bx s1=>?_⟩
 refine ⟨_,rfl,b,1,4,rfl,bx,by decide,by decide,by decide,fun y H2 hy Y4 P6 U5 s2=>?_⟩
 have L5:y≠[]:=fun z=>by rw[z]at Y4;simp at Y4
 have zD:ah H H2:=aI.same nb s1 s2
 refine ⟨_,rfl,a,ns,1,rfl,zD.seq hS,by decide,fun b2 H3 U6 Jb s3=>?_⟩
 have Hj:b2≠b:=U5.ne U6
 refine ⟨_,rfl,_,rfl,_,rfl,b,y,rfl,U5.same s3,L5,by omega,fun wt ws H4 Ug wtb pA pS hw3 P7 Y5 s4=>?_⟩
 have P8:bG H4 b2:=by obtain ⟨u,v,e⟩:=Jb;exact ⟨u,v,s4 _ _ e Hj⟩
 refine ⟨b2,y,wt,ws,rfl,P8,hy,by omega,Jb.ne Ug,pA,pS,fun dr os H5 Ew PY bx5 s5=>?_⟩
 have P9:H b2=none:=zD.free U6
 have xQ:ah H H5:=fun c o e=>s5 c o (s4 c o (s3 c o (zD c o e)) (ak e nb)) (ak e P9)
 have Y6:bG H5 b:=by obtain ⟨u,v,e⟩:=Y5;exact ⟨u,v,s5 _ _ e (Ne.symm Hj)⟩
 have ht:Told y ws (gC os):=Told.of hy (by omega) (by omega) pS PY
 refine ⟨_,rfl,_,rfl,y,dr,ws,os,rfl,Ew,ht,fun H6 s6=>?_⟩
 have IM:=xQ.trans s6
 have RD:=Y6.same s6
 have Y7:=LA (Ew.same s6)
 have hlen:=ht.T3 hw3 P7
 have U7:=ht.sm8 P7
 have jD: ∀{P:List (List Nat)->List (List (Nat×Nat))->Prop} {R:Nat->Prop},P ws (gC os)->Ey y (textOf y ws (gC os)) P R:=fun hP=>ht.rd8 hP
 have U8: ∀c∈textOf y ws (gC os),c<128:=ht.txc
 generalize textOf y ws (gC os)=t at hlen jD U8
 clear bx U5 Jb Y5 P8 bx5 Y6 s1 s2 s3 s4 s5 zD xQ s6 pA Ug U6 Ew Hj P9 wtb
 have hev:=oA hy
 have tK:jy t:=⟨U8,by omega⟩
 have RE:Ex y:=⟨hy.lt,by omega⟩
 -- RF yard
 refine ⟨.ref b,y,rfl,rfl,by omega,y,rfl,by omega,fun qq l2 H7 nq hq ug UQ s7=>?_⟩
 rw[fN hy.lt]at ug
 have el:=ko ug UQ
 subst el
 have GO:qq≠b:=RD.ne nq
 refine ⟨qq,bh y,rfl,hq,by omega,fun o=>?_⟩
 have As:=(RD.same s7).cS (o:=HO.j6 o (.lst (bX (bh y)))) GO
 have PX:=(aI.of (b:=b) s7).cS (o:=HO.j6 o (.lst (bX (bh y)))) nq
 refine ⟨_,rfl,_,rfl,qq,_,rfl, .inl (.inl (.inr ⟨o,af⟩)),b,_,rfl,As,by rw[aU];omega,by rw[aU];omega,fun r H8 hr gc s8=>?_⟩
 rw[aU]at hr
 have xR:r<(bh y).length:=by omega
 have RG:=Qa4 xR
 have U9:(bh y)[r]? =some (bh y)[r]:=Mn xR
 generalize (bh y)[r]=c at RG U9
 have Y8:=vk hy RG
 have HW:c∈y:=(Qbb.mp ((dc y).mem_iff.mp RG)).1
 refine ⟨(r:Nat),c,rfl,s8 _ _ af GO,bf U9,by omega,?_⟩
 have zD:=PX.trans s8
 refine ⟨_,rfl,?_⟩
 refine gH (xs:=bX aH) (fun i acc H'=>H'=H8/\acc=bX ((aH.take i).filter fun d=>!decide (d∈y))) (by rw[aU];decide) ⟨rfl,rfl⟩ ?_ ?_
 ·rintro i x acc H3 Nx hi hx fW ⟨rfl,rfl⟩ nx
  obtain ⟨d,hd,rfl⟩:=eQ hx
  refine ⟨⟨rfl,trivial⟩,?_⟩
  refine ⟨_,rfl,_,rfl,d,y,rfl,rfl,_,rfl,cn (fun v=>?_) (fun v=>?_)⟩
  ·refine ⟨_,rfl,nx _ _ (by simpa using fW) ⟨rfl,?_⟩⟩
   rw[List.take_succ,hd,Qdu]
   show _=bX (_++List.filter _ [d])
   rw[Qck (by simpa using v)]
   unfold bX
   rw[Qar]
   rfl
  ·refine nx _ _ (Qcj fW) ⟨rfl,?_⟩
   rw[List.take_succ,hd,Qdu]
   show _=bX (_++List.filter _ [d])
   rw[Qc2 (by simpa using v)]
   simp
 ·rintro acc H3 D fW ⟨rfl,rfl⟩ hD
  rw[aU,Qbh]
  have ny:22<=(aH.filter fun d=>!decide (d∈y)).length:=by
   have h1:(aH.filter fun d=>decide (d∈y)).length<=(bh y).length:=(show (aH.filter fun d=>decide (d∈y)).Nodup from List.Pairwise.filter _ qR).length_le_of_subset fun d hd=>by
    obtain ⟨g1,g2⟩:=Qbb.mp hd
    exact (dc y).mem_iff.mpr (Qbb.mpr ⟨of_decide_eq_true g2,(cI d g1).1⟩)
   have h2:=List.length_eq_countP_add_countP (l:=aH) fun d=>decide (d∈y)
   rw[List.countP_eq_length_filter,List.countP_eq_length_filter]at h2
   have h3:aH.length=26:=by decide
   have h4:(aH.filter fun d=>decide (¬decide (d∈y)=true))=aH.filter fun d=>!decide (d∈y):=Qes fun d _=>by simp
   rw[h4]at h2
   omega
  have Mz:(aH.filter fun d=>!decide (d∈y)).length<=26:=Qcr _ _
  have Rw: ∀f∈aH.filter (fun d=>!decide (d∈y)),f∈aH/\f∉y:=fun f hf=>by
   have:=Qbb.mp hf
   exact ⟨this.1,by simpa using this.2⟩
  generalize aH.filter (fun d=>!decide (d∈y))=fr at ny Mz Rw ⊢
  refine ⟨D,fr,rfl,af,by omega,fun o2=>?_⟩
  have RH:D≠b:=gc.ne hD
  rw[xZ]
  have mD:=gc.cS (o:=HO.j6 o2 (.lst (bX fr))) RH
  have tX:=zD.cS (o:=HO.j6 o2 (.lst (bX fr))) (zD.none hD RH)
  refine ⟨b,22,rfl,mD,by decide,by decide,fun r2 H4 YS zE s4=>?_⟩
  have P_:r2<fr.length:=by omega
  have U_:fr[r2]? =some fr[r2]:=Mn P_
  obtain ⟨Oy,Va⟩:=Rw _ (Qa4 P_)
  generalize fr[r2]=f at U_ Oy Va
  have OA:c≠f:=fun z=>Va (by rw[<-z];exact HW)
  have Vb:Lt c:= .inl Y8
  have Mb:Lt f:= .inl Oy
  refine ⟨(r2:Nat),f,rfl,s4 _ _ af RH,bf U_,by omega,OA,c,rfl,Vb,eV c,rfl,f,rfl,Mb,eV f,rfl,fun z=>OA ?_,?_⟩
  ·rw[<-gn Vb,z,gn Mb]
  have P6:Ex (rp (eV c) (eV f) (rp c f y)):=⟨fun d hd=>by
   rcases zx hd with h | h
   ·rcases zx h with h | h
    ·exact hy.lt d h
    ·rw[h];exact Mb
   ·rw[h];exact Mb.eV,by rw[xt,xt];omega⟩
  generalize rp (eV c) (eV f) (rp c f y)=y2 at P6
  have PU:ah H H4:=aI.same nb IM (tX.trans s4)
  have Y9:wm H4 dr ws os:=Y7.ts (bF.box RD (tX.trans s4))
  clear As gc mD zE PX zD tX s4 s7 s8 Y7 IM hq RD hD RH fW
  generalize hσ:some (V.ref qq)=vq
  generalize some (V.str (S [c]))=vc
  generalize some (V.str (S [f]))=vf
  clear hσ GO nq RG U9 Y8 HW U_ Oy Va OA Vb Mb Rw ny Mz
  have cmp: ∀{y' t':List Nat} (_:Ex y') (_:jy t'), ∃D,rV 40 100000 D/\ ∀{H:Hp} {Q:VK},(∀v H',nJ K H' v D->ah H H'->Q v H')->Q0 H Q y' t':=fun h1 h2=>Gw K h1 h2
  obtain ⟨D0,Md,Vc⟩:=cmp P6 tK
  refine ⟨_,rfl,_,rfl,y2,t,rfl,P6,tK,Vc fun v HA hv sA=>?_⟩
  refine ⟨_,_,rfl,hv,Md,?_⟩
  refine ⟨_,rfl,_,rfl,y2,t,rfl,P6,tK,Vc fun v2 HB RI sB=>?_⟩
  refine ⟨_,_,rfl,RI,Md,?_⟩
  generalize RT D0=X1
  refine ⟨X1,X1,rfl,rfl,_,rfl,mI (by simp) ?_⟩
  have Y_:=PU.trans (sA.trans sB)
  have hdB:=Y9.same (sA.trans sB)
  clear hv RI Vc Md PU Y9 sA sB
  refine ⟨_,rfl,a,_,rfl, .inl (Y_.seq hS),?_⟩
  refine ⟨_,_,rfl,_,_,rfl,?_⟩
  obtain ⟨M,hM,hM1,hM2⟩:=A2 ((ns.map V.int).length:Int) (by omega)
  rw[hM]
  refine ⟨2,(M:Int),rfl,⟨by decide,by decide,by omega,by omega⟩,?_⟩
  refine kZ (fun i σ H'=> ∃(bv kv tv dv:Option V),σ=[some (.ref a),bv,some (.str (S y)),some (.ref dr),some (.str (S t)),vq,vc,vf,some (.str (S y2)),kv,tv,dv]/\ah HB H') ⟨_,_,_,_,rfl,ah.refl _⟩ ?_ ?_
  ·rintro i σ HC hi ⟨bv,kv,tv,dv,rfl,sC⟩
   have hk:((2:Int)+(i:Int))=((2+i:Nat):Int):=by omega
   refine ⟨_,rfl,_,rfl,a,ns,2+i,by rw[<-hk];rfl,(Y_.trans sC).seq hS,by omega,fun b3 HD' Za Jb sD=>?_⟩
   refine ⟨_,rfl,b3,3,rfl,Jb,by decide,by decide,fun r HE hr bxE sE=>?_⟩
   refine ⟨_,_,rfl,rfl,?_⟩
   have Jc: ∀c∈y,c<128:=fun c hc=>(hy.lt c hc).lt
   refine ⟨_,rfl,_,rfl,_,rfl,b3,y,t,rfl,bxE,Jc,L5,by omega,U8,by omega,fun t1 HF U1 aao bxF sF=>?_⟩
   have Zb:=sE.trans sF
   apply T4 (HA:=HC)
   ·intro key
    refine ⟨_,rfl,_,rfl,cn (fun z=>?_) (fun z=>?_)⟩
    ·refine ⟨_,rfl,_,rfl,_,rfl,b3,y,t1,rfl,bxF,Jc,L5,by omega,U1,by omega,fun t2 HG IS aap bxG sG=>?_⟩
     exact key t2 HG ⟨IS,by omega⟩ (aI.same Za sD (Zb.trans sG))
    ·exact key t1 HF ⟨U1,by omega⟩ (aI.same Za sD Zb)
   ·intro t2 HG IS sCG
    obtain ⟨D1,Qa,QN⟩:=cmp RE IS
    refine ⟨_,rfl,_,rfl,y,t2,rfl,RE,IS,QN fun v HI hv sI=>?_⟩
    refine ⟨_,_,rfl,hv,Qa,?_⟩
    refine ⟨_,rfl,_,rfl,y,t2,rfl,RE,IS,QN fun v2 HJ RI sJ=>?_⟩
    refine ⟨_,_,rfl,RI,Qa,?_⟩
    generalize RT D1=X2
    refine ⟨X2,X2,rfl,rfl,_,rfl,mI (by simp) ?_⟩
    have Zc:=((sC.trans sCG).trans sI).trans sJ
    refine ⟨_,rfl,_,rfl,y,t,rfl,RE,tK,jD fun p dr2 os2 HK h1 h2 h3 sK=>?_⟩
    refine ⟨_,rfl,by show 2<=sizeLine;decide,fun pt nt=>?_⟩
    have tt:=ah.upd (o:=HO.tup [V.str (S [116,111,108,100]),V.ref dr]) nt
    have zy:=af (H:=HK) (a:=pt) (o:=HO.tup [V.str (S [116,111,108,100]),V.ref dr])
    generalize upd HK pt (HO.tup [V.str (S [116,111,108,100]),V.ref dr])=HL at tt zy ⊢
    have hdL:=hdB.same ((Zc.trans sK).trans tt)
    refine ⟨Lu ws (gC os2),Lu ws (gC os),xM (tt _ _ h1) (h2.same tt),xM zy hdL,?_⟩
    rw[h3]
    refine ⟨⟨U7.ly,U7.ly⟩,Qa1 U7.dp (by decide),_,rfl,mI (by rw[eqv_refl _ (DB _ _)];rfl) ?_⟩
    exact ⟨_,_,_,_,rfl,(Zc.trans sK).trans tt⟩
  ·rintro σ HC ⟨bv,kv,tv,dv,rfl,sC⟩
   exact q _
end
theorem eP {M:List Value->Prop} (h:M []): ∀us:List Value,us.length=0->M us
 | [],_=>h
theorem bP {M:List Value->Prop} {n:Nat} (h: ∀(a:Value) (us:List Value),us.length=n->M (a::us)): ∀us:List Value,us.length=n+1->M us
 | a::us,e=>h a us (Nat.succ.inj e)
theorem all_mk {l:PySem.W.OpenLaw} {w:World} {K:PySem.W.Frag} {h:Heap} {mg:Str->Option Value} {fa f0 f1 f2 f3 f4 f5 f6 f7 f8 f9 Gx Ii Ij Ik Gy Il Im Io Ip Iq q9 Ir Iu Iv Iw Iy aq aS fo eA cf eB dj fq eE eF cJ dk dq ft dI:Addr} (X:K.In h) (G:h.Ns mainGlobals mg) (hfa:mg "law"=some (.ref fa))
  {G0 pY G1:Tok}
  {od0 an0 od1 an1 od2 an2 od3 an3 od4 an4 od5 an5 od6 an6 od7 an7 od8 an8 od9 an9 Vd Ve Vf Vg Vh Vi Vj Vk Vl Vm Vn Vo Vp Vq Vr Vs Vt Vu Vv Vw Vx Vy Vz VA VC VD VE VF VG VH VI VJ Bm Bn:Option Addr} {sl0 sl1 Ek sl3 sl4 sl5 sl6 sl7 sl8 sl9 VL VM VN VO VP VQ VR VS VT VU VV VW VX VY VZ V0 Bo:Array (Option Value)} {oc0 kV0 dc0 pm0 Zd ct0 oc1 kV1 dc1 pm1 Ze ct1 oc2 kV2 dc2 pm2 Zf ct2 oc3 kV3 dc3 pm3 Zg ct3 oc4 kV4 dc4 pm4 Zh ct4 oc5 kV5 dc5 pm5 Zi ct5 oc6 kV6 dc6 pm6 Zj ct6 oc7 kV7 dc7 pm7 Zk ct7 oc8 kV8 dc8 pm8 Zl ct8 oc9 kV9 dc9 O2 Zm ct9 V1 V2 V3 DM Qb V4 V5 V6 V7 V8 Qc V9 V_ Wa Wb Wc Qd Wd We Wf Wg Wh Qe Wi Wj Wl Wm Wn Qf Wo Wq Wr Ws Wt Qg Wu Wv Ww Wx Wy Qh Wz WA WB WC WD Qi WE WG WH WI WJ Qj WK WL WM WN WO Qk WQ WR WS WT WU Ql WV WW WX WY WZ Qm W0 W3 W4 W5 W6 Qn W7 W8 W9 W_ Xa Qo Xb Xc Xd Xe Xf Qp Xg Xh Xi Xj Xk Qq Xl Bp Bq Br Bs rh Bt:Value}
  (a0:PySem.W.nsIn K mainGlobals "foreign_sign"=some (some (.ref f0)))
  (l0:K.lookup f0=some ⟨oc0,od0, .func (PySem.W.fnOf "foreign_sign" "foreign_sign" (aY cA) (aJ cA) (ai cA) .none kV0 dc0 pm0 an0 Zd ct0),sl0⟩)
  (c0:PySem.W.codeIn K Zd "foreign_sign"=true)
  (k0:PySem.W.keepIn K (.ref f0)=true)
  (a1:PySem.W.nsIn K mainGlobals "bands"=some (some (.ref f1)))
  (l1:K.lookup f1=some ⟨oc1,od1, .func (PySem.W.fnOf "bands" "bands" (aY jg) (aJ jg) (ai jg) .none kV1 dc1 pm1 an1 Ze ct1),sl1⟩)
  (c1:PySem.W.codeIn K Ze "bands"=true)
  (k1:PySem.W.keepIn K (.ref f1)=true)
  (a2:PySem.W.nsIn K mainGlobals "strands_in"=some (some (.ref f2)))
  (l2:K.lookup f2=some ⟨oc2,od2, .func (PySem.W.fnOf "strands_in" "strands_in" (aY de) (aJ de) (ai de) .none kV2 dc2 pm2 an2 Zf ct2),Ek⟩)
  (c2:PySem.W.codeIn K Zf "strands_in"=true)
  (k2:PySem.W.keepIn K (.ref f2)=true)
  (a3:PySem.W.nsIn K mainGlobals "strand_text"=some (some (.ref f3)))
  (l3:K.lookup f3=some ⟨oc3,od3, .func (PySem.W.fnOf "strand_text" "strand_text" (aY cQ) (aJ cQ) (ai cQ) .none kV3 dc3 pm3 an3 Zg ct3),sl3⟩)
  (c3:PySem.W.codeIn K Zg "strand_text"=true)
  (k3:PySem.W.keepIn K (.ref f3)=true)
  (a4:PySem.W.nsIn K mainGlobals "read_cord"=some (some (.ref f4)))
  (l4:K.lookup f4=some ⟨oc4,od4, .func (PySem.W.fnOf "read_cord" "read_cord" (aY dS) (aJ dS) (ai dS) .none kV4 dc4 pm4 an4 Zh ct4),sl4⟩)
  (c4:PySem.W.codeIn K Zh "read_cord"=true)
  (k4:PySem.W.keepIn K (.ref f4)=true)
  (a5:PySem.W.nsIn K mainGlobals "read_words"=some (some (.ref f5)))
  (l5:K.lookup f5=some ⟨oc5,od5, .func (PySem.W.fnOf "read_words" "read_words" (aY df) (aJ df) (ai df) .none kV5 dc5 pm5 an5 Zi ct5),sl5⟩)
  (c5:PySem.W.codeIn K Zi "read_words"=true)
  (k5:PySem.W.keepIn K (.ref f5)=true)
  (a6:PySem.W.nsIn K mainGlobals "read_order"=some (some (.ref f6)))
  (l6:K.lookup f6=some ⟨oc6,od6, .func (PySem.W.fnOf "read_order" "read_order" (aY dh) (aJ dh) (ai dh) .none kV6 dc6 pm6 an6 Zj ct6),sl6⟩)
  (c6:PySem.W.codeIn K Zj "read_order"=true)
  (k6:PySem.W.keepIn K (.ref f6)=true)
  (a7:PySem.W.nsIn K mainGlobals "read_drawing"=some (some (.ref f7)))
  (l7:K.lookup f7=some ⟨oc7,od7, .func (PySem.W.fnOf "read_drawing" "read_drawing" (aY cB) (aJ cB) (ai cB) .none kV7 dc7 pm7 an7 Zk ct7),sl7⟩)
  (c7:PySem.W.codeIn K Zk "read_drawing"=true)
  (k7:PySem.W.keepIn K (.ref f7)=true)
  (a8:PySem.W.nsIn K mainGlobals "_law_box"=some (some (.ref f8)))
  (l8:K.lookup f8=some ⟨oc8,od8, .func (PySem.W.fnOf "_law_box" "_law_box" (aY lU) (aJ lU) (ai lU) .none kV8 dc8 pm8 an8 Zl ct8),sl8⟩)
  (c8:PySem.W.codeIn K Zl "_law_box"=true)
  (k8:PySem.W.keepIn K (.ref f8)=true)
  (a9:PySem.W.nsIn K mainGlobals "_law_take"=some (some (.ref f9)))
  (l9:K.lookup f9=some ⟨oc9,od9, .func (PySem.W.fnOf "_law_take" "_law_take" (aY jh) (aJ jh) (ai jh) .none kV9 dc9 O2 an9 Zm ct9),sl9⟩)
  (c9:PySem.W.codeIn K Zm "_law_take"=true)
  (k9:PySem.W.keepIn K (.ref f9)=true)
  (a10:PySem.W.nsIn K mainGlobals "_law_other"=some (some (.ref Gx)))
  (l10:K.lookup Gx=some ⟨V1,Vd, .func (PySem.W.fnOf "_law_other" "_law_other" (aY gX) (aJ gX) (ai gX) .none V2 V3 DM Ve Qb V4),VL⟩)
  (c10:PySem.W.codeIn K Qb "_law_other"=true)
  (k10:PySem.W.keepIn K (.ref Gx)=true)
  (a11:PySem.W.nsIn K mainGlobals "_law_yard"=some (some (.ref Ii)))
  (l11:K.lookup Ii=some ⟨V5,Vf, .func (PySem.W.fnOf "_law_yard" "_law_yard" (aY jj) (aJ jj) (ai jj) .none V6 V7 V8 Vg Qc V9),VM⟩)
  (c11:PySem.W.codeIn K Qc "_law_yard"=true)
  (k11:PySem.W.keepIn K (.ref Ii)=true)
  (a12:PySem.W.nsIn K mainGlobals "_law_word"=some (some (.ref Ij)))
  (l12:K.lookup Ij=some ⟨V_,Vh, .func (PySem.W.fnOf "_law_word" "_law_word" (aY jk) (aJ jk) (ai jk) .none Wa Wb Wc Vi Qd Wd),VN⟩)
  (c12:PySem.W.codeIn K Qd "_law_word"=true)
  (k12:PySem.W.keepIn K (.ref Ij)=true)
  (a13:PySem.W.nsIn K mainGlobals "_law_order"=some (some (.ref Ik)))
  (l13:K.lookup Ik=some ⟨We,Vj, .func (PySem.W.fnOf "_law_order" "_law_order" (aY gY) (aJ gY) (ai gY) .none Wf Wg Wh Vk Qe Wi),VO⟩)
  (c13:PySem.W.codeIn K Qe "_law_order"=true)
  (k13:PySem.W.keepIn K (.ref Ik)=true)
  (a14:PySem.W.nsIn K mainGlobals "_law_bands"=some (some (.ref Gy)))
  (l14:K.lookup Gy=some ⟨Wj,Vl, .func (PySem.W.fnOf "_law_bands" "_law_bands" (aY gZ) (aJ gZ) (ai gZ) .none Wl Wm Wn Vm Qf Wo),VP⟩)
  (c14:PySem.W.codeIn K Qf "_law_bands"=true)
  (k14:PySem.W.keepIn K (.ref Gy)=true)
  (a15:PySem.W.nsIn K mainGlobals "_law_drawing"=some (some (.ref Il)))
  (l15:K.lookup Il=some ⟨Wq,Vn, .func (PySem.W.fnOf "_law_drawing" "_law_drawing" (aY eM) (aJ eM) (ai eM) .none Wr Ws Wt Vo Qg Wu),VQ⟩)
  (c15:PySem.W.codeIn K Qg "_law_drawing"=true)
  (k15:PySem.W.keepIn K (.ref Il)=true)
  (a16:PySem.W.nsIn K mainGlobals "_law_words"=some (some (.ref Im)))
  (l16:K.lookup Im=some ⟨Wv,Vp, .func (PySem.W.fnOf "_law_words" "_law_words" (aY g6) (aJ g6) (ai g6) .none Ww Wx Wy Vq Qh Wz),VR⟩)
  (c16:PySem.W.codeIn K Qh "_law_words"=true)
  (k16:PySem.W.keepIn K (.ref Im)=true)
  (a17:PySem.W.nsIn K mainGlobals "_law_strands"=some (some (.ref Io)))
  (l17:K.lookup Io=some ⟨WA,Vr, .func (PySem.W.fnOf "_law_strands" "_law_strands" (aY eN) (aJ eN) (ai eN) .none WB WC WD Vs Qi WE),VS⟩)
  (c17:PySem.W.codeIn K Qi "_law_strands"=true)
  (k17:PySem.W.keepIn K (.ref Io)=true)
  (a18:PySem.W.nsIn K mainGlobals "_law_text"=some (some (.ref Ip)))
  (l18:K.lookup Ip=some ⟨WG,Vt, .func (PySem.W.fnOf "_law_text" "_law_text" (aY jl) (aJ jl) (ai jl) .none WH WI WJ Vu Qj WK),VT⟩)
  (c18:PySem.W.codeIn K Qj "_law_text"=true)
  (k18:PySem.W.keepIn K (.ref Ip)=true)
  (a19:PySem.W.nsIn K mainGlobals "_law_sign"=some (some (.ref Iq)))
  (l19:K.lookup Iq=some ⟨WL,Vv, .func (PySem.W.fnOf "_law_sign" "_law_sign" (aY jm) (aJ jm) (ai jm) .none WM WN WO Vw Qk WQ),VU⟩)
  (c19:PySem.W.codeIn K Qk "_law_sign"=true)
  (k19:PySem.W.keepIn K (.ref Iq)=true)
  (a20:PySem.W.nsIn K mainGlobals "_law_otherwise"=some (some (.ref q9)))
  (l20:K.lookup q9=some ⟨WR,Vx, .func (PySem.W.fnOf "_law_otherwise" "_law_otherwise" (aY aC) (aJ aC) (ai aC) .none WS WT WU Vy Ql WV),VV⟩)
  (c20:PySem.W.codeIn K Ql "_law_otherwise"=true)
  (k20:PySem.W.keepIn K (.ref q9)=true)
  (a21:PySem.W.nsIn K mainGlobals "_law_strand"=some (some (.ref Ir)))
  (l21:K.lookup Ir=some ⟨WW,Vz, .func (PySem.W.fnOf "_law_strand" "_law_strand" (aY fH) (aJ fH) (ai fH) .none WX WY WZ VA Qm W0),VW⟩)
  (c21:PySem.W.codeIn K Qm "_law_strand"=true)
  (k21:PySem.W.keepIn K (.ref Ir)=true)
  (a22:PySem.W.nsIn K mainGlobals "_law_read"=some (some (.ref Iu)))
  (l22:K.lookup Iu=some ⟨W3,VC, .func (PySem.W.fnOf "_law_read" "_law_read" (aY jn) (aJ jn) (ai jn) .none W4 W5 W6 VD Qn W7),VX⟩)
  (c22:PySem.W.codeIn K Qn "_law_read"=true)
  (k22:PySem.W.keepIn K (.ref Iu)=true)
  (a23:PySem.W.nsIn K mainGlobals "_law_told"=some (some (.ref Iv)))
  (l23:K.lookup Iv=some ⟨W8,VE, .func (PySem.W.fnOf "_law_told" "_law_told" (aY jo) (aJ jo) (ai jo) .none W9 W_ Xa VF Qo Xb),VY⟩)
  (c23:PySem.W.codeIn K Qo "_law_told"=true)
  (k23:PySem.W.keepIn K (.ref Iv)=true)
  (a24:PySem.W.nsIn K mainGlobals "_law_wanted"=some (some (.ref Iw)))
  (l24:K.lookup Iw=some ⟨Xc,VG, .func (PySem.W.fnOf "_law_wanted" "_law_wanted" (aY fI) (aJ fI) (ai fI) .none Xd Xe Xf VH Qp Xg),VZ⟩)
  (c24:PySem.W.codeIn K Qp "_law_wanted"=true)
  (k24:PySem.W.keepIn K (.ref Iw)=true)
  (a25:PySem.W.nsIn K mainGlobals "law"=some (some (.ref Iy)))
  (l25:K.lookup Iy=some ⟨Xh,VI, .func (PySem.W.fnOf "law" "law" (aY q8) (aJ q8) (ai q8) .none Xi Xj Xk VJ Qq Xl),V0⟩)
  (c25:PySem.W.codeIn K Qq "law"=true)
  (k25:PySem.W.keepIn K (.ref Iy)=true)
  (q_NoText:PySem.W.nsIn K mainGlobals "NoText"=some (some (.ref aq)))
  (q_MeetError:PySem.W.nsIn K mainGlobals "MeetError"=some (some (.ref aS)))
  (q_NoCut:PySem.W.nsIn K mainGlobals "NoCut"=some (some (.ref fo)))
  (q_NoDeed:PySem.W.nsIn K mainGlobals "NoDeed"=some (some (.ref eA)))
  (q_NoDrawing:PySem.W.nsIn K mainGlobals "NoDrawing"=some (some (.ref cf)))
  (q_NoName:PySem.W.nsIn K mainGlobals "NoName"=some (some (.ref eB)))
  (q_NoPaper:PySem.W.nsIn K mainGlobals "NoPaper"=some (some (.ref dj)))
  (q_NoRow:PySem.W.nsIn K mainGlobals "NoRow"=some (some (.ref fq)))
  (q_NoWord:PySem.W.nsIn K mainGlobals "NoWord"=some (some (.ref eE)))
  (q_NoYard:PySem.W.nsIn K mainGlobals "NoYard"=some (some (.ref eF)))
  (q_NotApart:PySem.W.nsIn K mainGlobals "NotApart"=some (some (.ref cJ)))
  (q_NotLone:PySem.W.nsIn K mainGlobals "NotLone"=some (some (.ref dk)))
  (q_TooLong:PySem.W.nsIn K mainGlobals "TooLong"=some (some (.ref dq)))
  (q_Twice:PySem.W.nsIn K mainGlobals "Twice"=some (some (.ref ft)))
  (xis_NoText:NN K aq=true)
  (xga_NoText:PySem.W.findIn K (.ref aq) "__getattribute__"=some (some (.builtin "BaseException.__getattribute__")))
  (xgh_NoText:PySem.W.findIn K (.ref aq) "__getattr__"=some none)
  (xsa_NoText:PySem.W.findIn K (.ref aq) "__setattr__"=some (some (.builtin "object.__setattr__")))
  (xcl_NoText:PySem.W.findIn K (.ref aq) "__class__"=some (some (.builtin "object.__class__")))
  (xcg_NoText:PySem.W.specialIn K (.builtin "object.__class__") "__get__"=some (some (.builtin "getset_descriptor.__get__")))
  (xct_NoText:PySem.W.takesIn K (.builtin "object.__class__")=some true)
  (xob_NoText:PySem.W.mroIn K aq (.type "object")=some true)
  (xkp_NoText:PySem.W.keepIn K (.ref aq)=true)
  (r_NoText:PySem.W.mroIn K aq (.ref aS)=some true)
  (xis_MeetError:NN K aS=true)
  (xga_MeetError:PySem.W.findIn K (.ref aS) "__getattribute__"=some (some (.builtin "BaseException.__getattribute__")))
  (xgh_MeetError:PySem.W.findIn K (.ref aS) "__getattr__"=some none)
  (xsa_MeetError:PySem.W.findIn K (.ref aS) "__setattr__"=some (some (.builtin "object.__setattr__")))
  (xcl_MeetError:PySem.W.findIn K (.ref aS) "__class__"=some (some (.builtin "object.__class__")))
  (xcg_MeetError:PySem.W.specialIn K (.builtin "object.__class__") "__get__"=some (some (.builtin "getset_descriptor.__get__")))
  (xct_MeetError:PySem.W.takesIn K (.builtin "object.__class__")=some true)
  (xob_MeetError:PySem.W.mroIn K aS (.type "object")=some true)
  (xkp_MeetError:PySem.W.keepIn K (.ref aS)=true)
  (qi_NoText:PySem.W.findIn K (.ref aq) "__init__"=some (some (.ref dI)))
  (fi_NoText:PySem.W.isFn K (.ref dI)=true)
  (li_NoText:K.lookup dI=some ⟨Bp,Bm, .func (PySem.W.fnOf "__init__" "NoText.__init__" (aY eO) (aJ eO) (ai eO) .none Bq Br Bs Bn rh Bt),Bo⟩)
  (ci_NoText:PySem.W.codeIn K rh "NoText.__init__"=true)
  (ki_NoText:PySem.W.keepIn K (.ref dI)=true)
  (n_NoText_row:PySem.W.findIn K (.ref aq) "row"=some none)
  (xbr:PySem.W.readsIn K aS (.type "type")=true)
  (xbg:PySem.W.specialIn K (.ref aS) "__getattribute__"=some (some (.builtin "type.__getattribute__")))
  (xbf:PySem.W.findCls K (.ref aS) (.type "type") "__init__"=some (.val (.builtin "ValueError.__init__")))
  (k_NoText_NoCut:PySem.W.kitOne K (.ref aq) (.ref fo)=some false)
  (k_NoText_NoDeed:PySem.W.kitOne K (.ref aq) (.ref eA)=some false)
  (k_NoText_NoDrawing:PySem.W.kitOne K (.ref aq) (.ref cf)=some false)
  (k_NoText_NoName:PySem.W.kitOne K (.ref aq) (.ref eB)=some false)
  (k_NoText_NoPaper:PySem.W.kitOne K (.ref aq) (.ref dj)=some false)
  (k_NoText_NoRow:PySem.W.kitOne K (.ref aq) (.ref fq)=some false)
  (k_NoText_NoWord:PySem.W.kitOne K (.ref aq) (.ref eE)=some false)
  (k_NoText_NoYard:PySem.W.kitOne K (.ref aq) (.ref eF)=some false)
  (k_NoText_NotApart:PySem.W.kitOne K (.ref aq) (.ref cJ)=some false)
  (k_NoText_NotLone:PySem.W.kitOne K (.ref aq) (.ref dk)=some false)
  (k_NoText_TooLong:PySem.W.kitOne K (.ref aq) (.ref dq)=some false)
  (k_NoText_Twice:PySem.W.kitOne K (.ref aq) (.ref ft)=some false)
  (k_NoText_NoText:PySem.W.kitOne K (.ref aq) (.ref aq)=some true)
  (k_NoText_ValueError:PySem.W.kitOne K (.ref aq) (.type "ValueError")=some true)
  (g_CORD:PySem.W.nsIn K mainGlobals "CORD"=some (some (.str (S [99,111,114,100]) G0)))
  (g_NO_LETTERS:PySem.W.nsIn K mainGlobals "NO_LETTERS"=some (some (.str (S [45]) pY)))
  (g_BAND:PySem.W.nsIn K mainGlobals "BAND"=some (some (.str (S [98,97,110,100]) G1)))
  (z_ValueError:PySem.W.nsIn K mainGlobals "ValueError"=some none)
  (z_enumerate:PySem.W.nsIn K mainGlobals "enumerate"=some none)
  (z_int:PySem.W.nsIn K mainGlobals "int"=some none)
  (z_isinstance:PySem.W.nsIn K mainGlobals "isinstance"=some none)
  (z_len:PySem.W.nsIn K mainGlobals "len"=some none)
  (z_list:PySem.W.nsIn K mainGlobals "list"=some none)
  (z_max:PySem.W.nsIn K mainGlobals "max"=some none)
  (z_min:PySem.W.nsIn K mainGlobals "min"=some none)
  (z_range:PySem.W.nsIn K mainGlobals "range"=some none)
  (z_repr:PySem.W.nsIn K mainGlobals "repr"=some none)
  (z_sorted:PySem.W.nsIn K mainGlobals "sorted"=some none)
  (z_str:PySem.W.nsIn K mainGlobals "str"=some none)
  (z_tuple:PySem.W.nsIn K mainGlobals "tuple"=some none)
  (z_zip:PySem.W.nsIn K mainGlobals "zip"=some none):
  ∃fd:FuncData,(∀(s:Shared) (v:Value),BindsTo s fd ⟨[v],[]⟩ [("_law_script",v)])/\ ∀base:Heap,K.In base->base.Ns mainGlobals mg->ck l.prog w K mg base fU 6 fa fd ["_law_script"] (lh K):=by
 have e:=hfa.symm.trans (Qah X G a25)
 cases e
 have F0:=bM (st:=cA) l0 c0 k0
 have b0:=F0.binds (ps:=["yard","text"]) fun _ _ _ _ _ _=>bP fun _=>bP fun _=>eP rfl
 have F1:=bM (st:=jg) l1 c1 k1
 have b1:=F1.binds (ps:=["yard"]) fun _ _ _ _ _ _=>bP fun _=>eP rfl
 have F2:=bM (st:=de) l2 c2 k2
 have b2:=F2.binds (ps:=["words","band"]) fun _ _ _ _ _ _=>bP fun _=>bP fun _=>eP rfl
 have F3:=bM (st:=cQ) l3 c3 k3
 have b3:=F3.binds (ps:=["strand"]) fun _ _ _ _ _ _=>bP fun _=>eP rfl
 have F4:=bM (st:=dS) l4 c4 k4
 have b4:=F4.binds (ps:=["yard","row"]) fun _ _ _ _ _ _=>bP fun _=>bP fun _=>eP rfl
 have F5:=bM (st:=df) l5 c5 k5
 have b5:=F5.binds (ps:=["yard","rows"]) fun _ _ _ _ _ _=>bP fun _=>bP fun _=>eP rfl
 have F6:=bM (st:=dh) l6 c6 k6
 have b6:=F6.binds (ps:=["words","band","row"]) fun _ _ _ _ _ _=>bP fun _=>bP fun _=>bP fun _=>eP rfl
 have F7:=bM (st:=cB) l7 c7 k7
 have b7:=F7.binds (ps:=["yard","text"]) fun _ _ _ _ _ _=>bP fun _=>bP fun _=>eP rfl
 have F8:=bM (st:=lU) l8 c8 k8
 have b8:=F8.binds (ps:=["_law_script","_law_k"]) fun _ _ _ _ _ _=>bP fun _=>bP fun _=>eP rfl
 have F9:=bM (st:=jh) l9 c9 k9
 have b9:=F9.binds (ps:=["_law_box_here","_law_many"]) fun _ _ _ _ _ _=>bP fun _=>bP fun _=>eP rfl
 have wu:=bM (st:=gX) l10 c10 k10
 have b10:=wu.binds (ps:=["_law_letter"]) fun _ _ _ _ _ _=>bP fun _=>eP rfl
 have LB:=bM (st:=jj) l11 c11 k11
 have b11:=LB.binds (ps:=["_law_box_here","_law_few","_law_top"]) fun _ _ _ _ _ _=>bP fun _=>bP fun _=>bP fun _=>eP rfl
 have LC:=bM (st:=jk) l12 c12 k12
 have b12:=LC.binds (ps:=["_law_box_here","_law_yard_here","_law_top"]) fun _ _ _ _ _ _=>bP fun _=>bP fun _=>bP fun _=>eP rfl
 have LD:=bM (st:=gY) l13 c13 k13
 have b13:=LD.binds (ps:=["_law_box_here","_law_things"]) fun _ _ _ _ _ _=>bP fun _=>bP fun _=>eP rfl
 have wx:=bM (st:=gZ) l14 c14 k14
 have b14:=wx.binds (ps:=["_law_yard_here"]) fun _ _ _ _ _ _=>bP fun _=>eP rfl
 have LG:=bM (st:=eM) l15 c15 k15
 have b15:=LG.binds (ps:=["_law_box_here","_law_yard_here","_law_words_here"]) fun _ _ _ _ _ _=>bP fun _=>bP fun _=>bP fun _=>eP rfl
 have LH:=bM (st:=g6) l16 c16 k16
 have b16:=LH.binds (ps:=["_law_box_here","_law_yard_here"]) fun _ _ _ _ _ _=>bP fun _=>bP fun _=>eP rfl
 have LI:=bM (st:=eN) l17 c17 k17
 have b17:=LI.binds (ps:=["_law_words_here","_law_band"]) fun _ _ _ _ _ _=>bP fun _=>bP fun _=>eP rfl
 have LJ:=bM (st:=jl) l18 c18 k18
 have b18:=LJ.binds (ps:=["_law_yard_here","_law_drawing_here"]) fun _ _ _ _ _ _=>bP fun _=>bP fun _=>eP rfl
 have LK:=bM (st:=jm) l19 c19 k19
 have b19:=LK.binds (ps:=["_law_box_here","_law_yard_here"]) fun _ _ _ _ _ _=>bP fun _=>bP fun _=>eP rfl
 have Ez:=bM (st:=aC) l20 c20 k20
 have b20:=Ez.binds (ps:=["_law_box_here","_law_yard_here","_law_text_here"]) fun _ _ _ _ _ _=>bP fun _=>bP fun _=>bP fun _=>eP rfl
 have LL:=bM (st:=fH) l21 c21 k21
 have b21:=LL.binds (ps:=["_law_text_here"]) fun _ _ _ _ _ _=>bP fun _=>eP rfl
 have LM:=bM (st:=jn) l22 c22 k22
 have b22:=LM.binds (ps:=["_law_yard_here","_law_text_here"]) fun _ _ _ _ _ _=>bP fun _=>bP fun _=>eP rfl
 have A3:=bM (st:=jo) l23 c23 k23
 have b23:=A3.binds (ps:=["_law_yard_here","_law_text_here"]) fun _ _ _ _ _ _=>bP fun _=>bP fun _=>eP rfl
 have EA:=bM (st:=fI) l24 c24 k24
 have b24:=EA.binds (ps:=["_law_yard_here","_law_text_here"]) fun _ _ _ _ _ _=>bP fun _=>bP fun _=>eP rfl
 have Rh:=bM (st:=q8) l25 c25 k25
 have b25:=Rh.binds (ps:=["_law_script"]) fun _ _ _ _ _ _=>bP fun _=>eP rfl
 have rl:=bM (st:=eO) li_NoText ci_NoText ki_NoText
 have Bu:=rl.binds (ps:=["self","row"]) fun _ _ _ _ _ _=>bP fun _=>bP fun _=>eP rfl
 have T:Txt K mg _ _ _ _ _ _ _ _ _ _ _ _ _ _ _ _ _ _ _ _ _ _ _ _ _ _ _ _ _ _ _ _ _ _ _ _ _ _ _ _ _ _ _ _ _ _ _ _ _ _ _ _ _ _ _ _ _ _ _ _ _ _ _ _ _ _ _ _:=⟨⟨F0,Qah X G a0,b0⟩,⟨F1,Qah X G a1,b1⟩,⟨F2,Qah X G a2,b2⟩,⟨F3,Qah X G a3,b3⟩,⟨F4,Qah X G a4,b4⟩,⟨F5,Qah X G a5,b5⟩,⟨F6,Qah X G a6,b6⟩,⟨F7,Qah X G a7,b7⟩,⟨F8,Qah X G a8,b8⟩,⟨F9,Qah X G a9,b9⟩,⟨wu,Qah X G a10,b10⟩,⟨LB,Qah X G a11,b11⟩,⟨LC,Qah X G a12,b12⟩,⟨LD,Qah X G a13,b13⟩,⟨wx,Qah X G a14,b14⟩,⟨LG,Qah X G a15,b15⟩,⟨LH,Qah X G a16,b16⟩,⟨LI,Qah X G a17,b17⟩,⟨LJ,Qah X G a18,b18⟩,⟨LK,Qah X G a19,b19⟩,⟨Ez,Qah X G a20,b20⟩,⟨LL,Qah X G a21,b21⟩,⟨LM,Qah X G a22,b22⟩,⟨A3,Qah X G a23,b23⟩,⟨EA,Qah X G a24,b24⟩,⟨Rh,Qah X G a25,b25⟩,Qah X G q_NoText,Qah X G q_MeetError,Qah X G q_NoCut,Qah X G q_NoDeed,Qah X G q_NoDrawing,Qah X G q_NoName,Qah X G q_NoPaper,Qah X G q_NoRow,Qah X G q_NoWord,Qah X G q_NoYard,Qah X G q_NotApart,Qah X G q_NotLone,Qah X G q_TooLong,Qah X G q_Twice,⟨xis_NoText,xga_NoText,xgh_NoText,xsa_NoText,xcl_NoText,xcg_NoText,xct_NoText,xob_NoText,xkp_NoText⟩,r_NoText,⟨xis_MeetError,xga_MeetError,xgh_MeetError,xsa_MeetError,xcl_MeetError,xcg_MeetError,xct_MeetError,xob_MeetError,xkp_MeetError⟩,⟨⟨xis_NoText,xga_NoText,xgh_NoText,xsa_NoText,xcl_NoText,xcg_NoText,xct_NoText,xob_NoText,xkp_NoText⟩,qi_NoText,fi_NoText⟩,rl,Bu,n_NoText_row,⟨xbr,xbg,xbf⟩,k_NoText_NoCut,k_NoText_NoDeed,k_NoText_NoDrawing,k_NoText_NoName,k_NoText_NoPaper,k_NoText_NoRow,k_NoText_NoWord,k_NoText_NoYard,k_NoText_NotApart,k_NoText_NotLone,k_NoText_TooLong,k_NoText_Twice,k_NoText_NoText,k_NoText_ValueError,Qbj X G z_ValueError,Qbj X G z_enumerate,Qbj X G z_int,Qbj X G z_isinstance,Qbj X G z_len,Qbj X G z_list,Qbj X G z_max,Qbj X G z_min,Qbj X G z_range,Qbj X G z_repr,Qbj X G z_sorted,Qbj X G z_str,Qbj X G z_tuple,Qbj X G z_zip,⟨_,Qah X G g_CORD⟩,⟨_,Qah X G g_NO_LETTERS⟩,⟨_,Qah X G g_BAND⟩⟩
 exact ⟨_,fun s v=> .of_eq rfl,fun base _ _=>Mc T⟩
theorem walk {l:PySem.W.OpenLaw} {q:Program} {loose:List Str} {XP:(Str->Option Value)->Heap->Prop} {YP:World->Heap->Prop} {d:DefRec} {K:Params->PySem.W.Frag} (hn:l.most=some 63) (Nd:d.params.defaults=[])
  (hY: ∀(w:World) (h:Heap),YP w h->(K w.params).In h)
  (F: ∀(w:World) (mg:Str->Option Value) (fa:Addr) (h:Heap),(K w.params).In h->h.Ns mainGlobals mg->mg d.name=some (.ref fa)->
   ∃fd:FuncData,(∀(s:Shared) (u:Value),BindsTo s fd ⟨[u],[]⟩ [("_law_script",u)])/\ ∀base:Heap,(K w.params).In base->base.Ns mainGlobals mg->ck l.prog w (K w.params) mg base fU 6 fa fd ["_law_script"] (lh (K w.params))):
  PySem.W.WalkO q loose XP YP l.row.toRowW d [] (fun f vs=>PySem.call f vs):=
 L2.yv (n:=63) (k:=6) (x:="_law_script") (CX:=fun _=>fU) (sp:=fun w=>lh (K w.params)) hn (by decide) Nd ⟨rfl,by decide,by decide,rfl⟩ hY F (fun _ _ a ns hl _ hS=>⟨a,ns,rfl,hS,hl,fun _=>rfl⟩) fun _ _ _ _ _ z=>z
end My
namespace PySem.W.Fast
def tw1001337498489879355:=Nat
def tw10052137603203614828:=Nat
def tw10111808120255391085:=Nat
def tw10117970446156014962:=Nat
def tw10142123570734097627:=Nat
def tw10184196807185578248:=Nat
def tw10193087046797386346:=Nat
def tw10256002878601774591:=Nat
def tw10262598838586987102:=Nat
def tw1035316629584748524:=Nat
def tw10603171173481665883:=Nat
def tw10694629349290419353:=Nat
def tw10752678434832837720:=Nat
def tw10843484004662565481:=Nat
def tw10873593139142543654:=Nat
def tw11145526669667271675:=Nat
def tw11147945756965149230:=Nat
def tw11166371661225668935:=Nat
def tw11184973783036884346:=Nat
def tw11236327356710815879:=Nat
def tw11253016963365679952:=Nat
def tw11266650153807515822:=Nat
def tw11305240575441967724:=Nat
def tw1136808141746827012:=Nat
def tw11397619003877982600:=Nat
def tw11533237267180961146:=Nat
def tw11603425926399846153:=Nat
def tw11605871671338412999:=Nat
def tw11775577010704859641:=Nat
def tw11793509089438013810:=Nat
def tw11798843677903443638:=Nat
def tw11832158241519471631:=Nat
def tw11832384228964333503:=Nat
def tw11876379269394158265:=Nat
def tw12077136883649003358:=Nat
def tw12080333123823425951:=Nat
def tw12176184294552543482:=Nat
def tw12190892729703374690:=Nat
def tw12205756460734906866:=Nat
def tw12252337775310984490:=Nat
def tw12262469982706799699:=Nat
def tw12298291892234849414:=Nat
def tw12464893870492450345:=Nat
def tw12498976376533579743:=Nat
def tw12547140761516091565:=Nat
def tw12561648158868101109:=Nat
def tw12650833773723214100:=Nat
def tw12705624652163007023:=Nat
def tw12728517829633116596:=Nat
def tw12813289849540480883:=Nat
def tw12827343646245947671:=Nat
def tw12841753272501097393:=Nat
def tw12856214428136844843:=Nat
def tw12897650118131870941:=Nat
def tw12920655403969951664:=Nat
def tw12952488570798835918:=Nat
def tw13039122508118907110:=Nat
def tw13050186543861459222:=Nat
def tw13185430537877406083:=Nat
def tw13221812676446008509:=Nat
def tw13228145251379185700:=Nat
def tw13290092369602982741:=Nat
def tw13291477557495108806:=Nat
def tw13300210663973909340:=Nat
def tw13383605528097979666:=Nat
def tw13423828769308101456:=Nat
def tw13425679129683775506:=Nat
def tw13443190034350855515:=Nat
def tw13559854469769884414:=Nat
def tw13607761372879302539:=Nat
def tw13668099014396077565:=Nat
def tw13668306727000372805:=Nat
def tw13735626192119058693:=Nat
def tw13793196383246875257:=Nat
def tw1382180589631821844:=Nat
def tw13839283960347702604:=Nat
def tw1386422639100263013:=Nat
def tw13895810123970341619:=Nat
def tw13954633778386734291:=Nat
def tw14011732627014852584:=Nat
def tw14037553790619431149:=Nat
def tw14038392682820169734:=Nat
def tw14065700782500788178:=Nat
def tw14106024568649779472:=Nat
def tw14108268074616152980:=Nat
def tw14199482417329798602:=Nat
def tw14292826686758339007:=Nat
def tw14303685335181141595:=Nat
def tw14378159686216215327:=Nat
def tw1440174113888548886:=Nat
def tw14431594417292466155:=Nat
def tw14475108826560524815:=Nat
def tw1450207408028878229:=Nat
def tw14554714927636731610:=Nat
def tw14646805576455345469:=Nat
def tw14858662670755262330:=Nat
def tw14890588068229481687:=Nat
def tw14920108489236059847:=Nat
def tw15028121140431225299:=Nat
def tw15042795919514334265:=Nat
def tw15048319785239367082:=Nat
def tw15100385746148434220:=Nat
def tw15116875139644644055:=Nat
def tw15122550199232199043:=Nat
def tw15131322436711840490:=Nat
def tw15197316577565761715:=Nat
def tw15254417120682977219:=Nat
def tw15284441120948844964:=Nat
def tw15289539488484543630:=Nat
def tw15299203303955725721:=Nat
def tw15391328887421399739:=Nat
def tw1542641671278904291:=Nat
def tw1553389995563930153:=Nat
def tw15661617887487396962:=Nat
def tw15694761272595848740:=Nat
def tw15722664259623564072:=Nat
def tw15954092709030329739:=Nat
def tw1607033599187431147:=Nat
def tw16203338521259896822:=Nat
def tw16207195179776829895:=Nat
def tw16214316282517733233:=Nat
def tw16375095356714018795:=Nat
def tw16376093580340470353:=Nat
def tw1639550410517520604:=Nat
def tw16500740906306110120:=Nat
def tw16511978654432758214:=Nat
def tw16524638468099787906:=Nat
def tw16623592781715978371:=Nat
def tw16674656331121466922:=Nat
def tw16758384486121947933:=Nat
def tw16855527035413100548:=Nat
def tw16907198310931649790:=Nat
def tw16914286547743292539:=Nat
def tw1692753179021271048:=Nat
def tw1702820469651970704:=Nat
def tw17042909108243313207:=Nat
def tw17051289486812561956:=Nat
def tw17081883956493733838:=Nat
def tw17141977362466892940:=Nat
def tw17143705567773956873:=Nat
def tw17164947421930717193:=Nat
def tw17172433590279034186:=Nat
def tw17176734141846203299:=Nat
def tw1721309763596627353:=Nat
def tw17266330740038204178:=Nat
def tw17314762484481079261:=Nat
def tw17318763832733094934:=Nat
def tw17379725403583923304:=Nat
def tw17414344648053314000:=Nat
def tw17460528698922963290:=Nat
def tw17493649923047569298:=Nat
def tw17563563875045906893:=Nat
def tw17581853465796107751:=Nat
def tw17646093990965284337:=Nat
def tw17663917572719925244:=Nat
def tw17708757852009238685:=Nat
def tw17748584499622863530:=Nat
def tw17752043027676017572:=Nat
def tw17778057040385886117:=Nat
def tw17779470756294874791:=Nat
def tw17876641799697312651:=Nat
def tw17897223296176459556:=Nat
def tw17934493086921645396:=Nat
def tw17943386699104728756:=Nat
def tw17944313703438872518:=Nat
def tw17971745014277706636:=Nat
def tw18166721519449243257:=Nat
def tw1818194239619407078:=Nat
def tw18305716034623180549:=Nat
def tw18331041317564774014:=Nat
def tw18377229184652173718:=Nat
def tw18406380427732498312:=Nat
def tw18421752763007775998:=Nat
def tw2008464885244190390:=Nat
def tw202024302595419720:=Nat
def tw2022181540899786171:=Nat
def tw2080872129490662240:=Nat
def tw2096165317697718846:=Nat
def tw2158134945721877890:=Nat
def tw2218296519829899403:=Nat
def tw2236945407770857549:=Nat
def tw2264817985854530222:=Nat
def tw2312837160219114946:=Nat
def tw2334021791182518517:=Nat
def tw2352149948998297338:=Nat
def tw2367588303894020395:=Nat
def tw2385084984799715659:=Nat
def tw2409704271743774464:=Nat
def tw2413085244872670692:=Nat
def tw2470490691090995337:=Nat
def tw2492205110800476119:=Nat
def tw2495780398551670331:=Nat
def tw2523361192761432669:=Nat
def tw2529867616291202523:=Nat
def tw2590725123205932652:=Nat
def tw2629026340033336263:=Nat
def tw2799117843024313748:=Nat
def tw2814749222237084472:=Nat
def tw2866398308006625977:=Nat
def tw2924388668815806644:=Nat
def tw3013357595231820934:=Nat
def tw3025072116956065200:=Nat
def tw3059580668665650354:=Nat
def tw312230138684725317:=Nat
def tw331169069217217610:=Nat
def tw3340720625948957765:=Nat
def tw3350583315901325588:=Nat
def tw3418087528646774796:=Nat
def tw3420271089524050904:=Nat
def tw3433864307042010378:=Nat
def tw3440258591793464313:=Nat
def tw3673646951474100770:=Nat
def tw3685880316791929224:=Nat
def tw3787163229076250373:=Nat
def tw3793047526450303734:=Nat
def tw3923098203318177405:=Nat
def tw416185383688932321:=Nat
def tw41993171641743609:=Nat
def tw4213017126014623230:=Nat
def tw4247612511513736000:=Nat
def tw4273408157621382468:=Nat
def tw4343671684329456751:=Nat
def tw4371189783197866312:=Nat
def tw4413599849668943676:=Nat
def tw4477523405650585411:=Nat
def tw4528726860858442250:=Nat
def tw4555846208020318155:=Nat
def tw4730752678187172692:=Nat
def tw4777116323960019669:=Nat
def tw4841398797445120252:=Nat
def tw4965128661148515072:=Nat
def tw5046087118543099384:=Nat
def tw5076150274111651185:=Nat
def tw5147743596795773949:=Nat
def tw5157275674608839405:=Nat
def tw5158244969215251067:=Nat
def tw5239390902678407528:=Nat
def tw5242823955982790162:=Nat
def tw5329418564002165851:=Nat
def tw548347756776014637:=Nat
def tw5484489820184397894:=Nat
def tw548754522067150454:=Nat
def tw5515405434926002580:=Nat
def tw5609365802770035799:=Nat
def tw5714280674944388273:=Nat
def tw5802828740315365723:=Nat
def tw5852261164804509235:=Nat
def tw5878983656790621511:=Nat
def tw5980048784921864858:=Nat
def tw6048487754146409671:=Nat
def tw6194706589572699412:=Nat
def tw6472555053678507942:=Nat
def tw6526176128875328276:=Nat
def tw6603191340551860411:=Nat
def tw6649127008635549753:=Nat
def tw6695042902046144825:=Nat
def tw6731862100209764531:=Nat
def tw6812731213634551847:=Nat
def tw6825678859695245248:=Nat
def tw682893367718638127:=Nat
def tw6895564973547197032:=Nat
def tw7044705086519193750:=Nat
def tw7055378182560515873:=Nat
def tw7121343763483232898:=Nat
def tw7183503260133555123:=Nat
def tw718872459819833186:=Nat
def tw7189159495742762311:=Nat
def tw7257466751933078471:=Nat
def tw7340921214611921588:=Nat
def tw7359413284004512414:=Nat
def tw7474840180456588411:=Nat
def tw7481054691895554012:=Nat
def tw776560581513807809:=Nat
def tw7769211988474318669:=Nat
def tw7840252741001294450:=Nat
def tw7874602401774708522:=Nat
def tw796369030677522854:=Nat
def tw817122453024825576:=Nat
def tw8173437368258889084:=Nat
def tw8177185196408969460:=Nat
def tw8180956616597800760:=Nat
def tw818916761436993793:=Nat
def tw8268673990339691366:=Nat
def tw8580024332285116191:=Nat
def tw8586410586182614231:=Nat
def tw8630941929098009944:=Nat
def tw8639109638097109500:=Nat
def tw8644043349990133318:=Nat
def tw8763289798127945146:=Nat
def tw8817230485610065043:=Nat
def tw885881634897907227:=Nat
def tw886041958125184010:=Nat
def tw8887730373706565849:=Nat
def tw8910912064048854461:=Nat
def tw8938052981690150276:=Nat
def tw912708130450208384:=Nat
def tw9127189172251338978:=Nat
def tw9155610438481363079:=Nat
def tw9219541699619053678:=Nat
def tw9250566343330035466:=Nat
def tw9259442542993675425:=Nat
def tw9345500613374329389:=Nat
def tw9367829688415438765:=Nat
def tw9387442441057693671:=Nat
def tw9404848255812984821:=Nat
def tw941182930457334860:=Nat
def tw9516248761302159283:=Nat
def tw9680167213135758286:=Nat
def tw9748501992155707280:=Nat
def tw978959316263760363:=Nat
def tw989562720161476957:=Nat
end PySem.W.Fast
open PySem PySem.W PyProof.Rows
set_option maxRecDepth 100000 in
set_option maxHeartbeats 0 in
theorem PySem.Challenge.cw_mustmeet_k18_texts_of_no_drawing_holds : PySem.Challenge.rw_mustmeet_k18_texts_of_no_drawing.Holds := by
 w_on;o_law;k_head;(case hw=>w_witness2)
 k_fill
 refine My.walk (l:=PySem.Challenge.rw_mustmeet_k18_texts_of_no_drawing) rfl rfl (fun w h Y=>PySem.W.kIn_of Y) ?F
 case F=>
  intro w mg fa h KX G hmg
  refine' My.all_mk KX G hmg ?a0 ?l0 ?c0 ?k0 ?a1 ?l1 ?c1 ?k1 ?a2 ?l2 ?c2 ?k2 ?a3 ?l3 ?c3 ?k3 ?a4 ?l4 ?c4 ?k4 ?a5 ?l5 ?c5 ?k5 ?a6 ?l6 ?c6 ?k6 ?a7 ?l7 ?c7 ?k7 ?a8 ?l8 ?c8 ?k8 ?a9 ?l9 ?c9 ?k9 ?a10 ?l10 ?c10 ?k10 ?a11 ?l11 ?c11 ?k11 ?a12 ?l12 ?c12 ?k12 ?a13 ?l13 ?c13 ?k13 ?a14 ?l14 ?c14 ?k14 ?a15 ?l15 ?c15 ?k15 ?a16 ?l16 ?c16 ?k16 ?a17 ?l17 ?c17 ?k17 ?a18 ?l18 ?c18 ?k18 ?a19 ?l19 ?c19 ?k19 ?a20 ?l20 ?c20 ?k20 ?a21 ?l21 ?c21 ?k21 ?a22 ?l22 ?c22 ?k22 ?a23 ?l23 ?c23 ?k23 ?a24 ?l24 ?c24 ?k24 ?a25 ?l25 ?c25 ?k25 ?q_NoText ?q_MeetError ?q_NoCut ?q_NoDeed ?q_NoDrawing ?q_NoName ?q_NoPaper ?q_NoRow ?q_NoWord ?q_NoYard ?q_NotApart ?q_NotLone ?q_TooLong ?q_Twice ?xis_NoText ?xga_NoText ?xgh_NoText ?xsa_NoText ?xcl_NoText ?xcg_NoText ?xct_NoText ?xob_NoText ?xkp_NoText ?r_NoText ?xis_MeetError ?xga_MeetError ?xgh_MeetError ?xsa_MeetError ?xcl_MeetError ?xcg_MeetError ?xct_MeetError ?xob_MeetError ?xkp_MeetError ?qi_NoText ?fi_NoText ?li_NoText ?ci_NoText ?ki_NoText ?n_NoText_row ?xbr ?xbg ?xbf ?k_NoText_NoCut ?k_NoText_NoDeed ?k_NoText_NoDrawing ?k_NoText_NoName ?k_NoText_NoPaper ?k_NoText_NoRow ?k_NoText_NoWord ?k_NoText_NoYard ?k_NoText_NotApart ?k_NoText_NotLone ?k_NoText_TooLong ?k_NoText_Twice ?k_NoText_NoText ?k_NoText_ValueError ?g_CORD ?g_NO_LETTERS ?g_BAND ?z_ValueError ?z_enumerate ?z_int ?z_isinstance ?z_len ?z_list ?z_max ?z_min ?z_range ?z_repr ?z_sorted ?z_str ?z_tuple ?z_zip
  case a0|l0|c0|k0|a1|l1|c1|k1|a2|l2|c2|k2|a3|l3|c3|k3|a4|l4|c4|k4|a5|l5|c5|k5|a6|l6|c6|k6|a7|l7|c7|k7|a8|l8|c8|k8|a9|l9|c9|k9|a10|l10|c10|k10|a11|l11|c11|k11|a12|l12|c12|k12|a13|l13|c13|k13|a14|l14|c14|k14|a15|l15|c15|k15|a16|l16|c16|k16|a17|l17|c17|k17|a18|l18|c18|k18|a19|l19|c19|k19|a20|l20|c20|k20|a21|l21|c21|k21|a22|l22|c22|k22|a23|l23|c23|k23|a24|l24|c24|k24|a25|l25|c25|k25|q_NoText|q_MeetError|q_NoCut|q_NoDeed|q_NoDrawing|q_NoName|q_NoPaper|q_NoRow|q_NoWord|q_NoYard|q_NotApart|q_NotLone|q_TooLong|q_Twice=>k_is
  (case xis_NoText=>kernel_rfl)
  case xga_NoText|xgh_NoText|xsa_NoText|xcl_NoText|xcg_NoText|xct_NoText|xob_NoText|xkp_NoText|r_NoText=>k_is
  (case xis_MeetError=>kernel_rfl)
  case xga_MeetError|xgh_MeetError|xsa_MeetError|xcl_MeetError|xcg_MeetError|xct_MeetError|xob_MeetError|xkp_MeetError|qi_NoText|fi_NoText|li_NoText|ci_NoText|ki_NoText|n_NoText_row|xbr|xbg|xbf=>k_is
  (case k_NoText_NoCut=>kernel_rfl)
  (case k_NoText_NoDeed=>kernel_rfl)
  (case k_NoText_NoDrawing=>kernel_rfl)
  (case k_NoText_NoName=>kernel_rfl)
  (case k_NoText_NoPaper=>kernel_rfl)
  (case k_NoText_NoRow=>kernel_rfl)
  (case k_NoText_NoWord=>kernel_rfl)
  (case k_NoText_NoYard=>kernel_rfl)
  (case k_NoText_NotApart=>kernel_rfl)
  (case k_NoText_NotLone=>kernel_rfl)
  (case k_NoText_TooLong=>kernel_rfl)
  (case k_NoText_Twice=>kernel_rfl)
  (case k_NoText_NoText=>kernel_rfl)
  (case k_NoText_ValueError=>kernel_rfl)
  case g_CORD|g_NO_LETTERS|g_BAND|z_ValueError|z_enumerate|z_int|z_isinstance|z_len|z_list|z_max|z_min|z_range|z_repr|z_sorted|z_str|z_tuple|z_zip=>k_is
