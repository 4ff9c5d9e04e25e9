import PyProof.Rows.All
import Wide.All
import OpenK.AllK
import Wide.FinOn
import Lean
import PyProof.EqAt
import PyProof.EqKinds
import PyProof.TupleCall
import PySem.Challenge.RW_mustmeet_k33_taut_drawings
set_option maxHeartbeats 4000000
set_option Elab.async false
set_option linter.all false
set_option maxRecDepth 100000
set_option hygiene false
local macro_rules|`(tactic|walk_at"a")=>`(tactic|intro pins s σ H x y v u Q I rx ry h)
local macro_rules|`(tactic|walk_at"b")=>`(tactic|intro X hP hw hK hc i pins s σ H E I hf st hg)
local macro_rules|`(tactic|walk_at"c")=>`(tactic|have s0: ∀(w:List Nat) (i:Int),sq w i 0=rd w i:=fun w i=>by unfold sq;rw[show i+0=i by lia])
local macro_rules|`(tactic|walk_at"d")=>`(tactic|obtain ⟨f0,f1,f2,f3,f4,f5⟩:=hf it (by simp))
local macro_rules|`(tactic|walk_at"e")=>`(tactic|intro pins s σ H xs us Q I r h)
local macro_rules|`(tactic|walk_at"f")=>`(tactic|obtain ⟨t,rfl⟩:=rx)
local macro_rules|`(tactic|walk_at"g")=>`(tactic|intro pins s σ H Q I h)
local macro_rules|`(tactic|walk_at"h")=>`(tactic|refine ⟨fun i m σ H=>m=xs.length - i/\i<=xs.length/\Pv i σ H,⟨xs.length,by simp,Qaa _,h0⟩,?_⟩)
local macro_rules|`(tactic|walk_at"i")=>`(tactic|refine bp (fun z=>?_) (fun z=>?_))
local macro_rules|`(tactic|walk_at"j")=>`(tactic|have b0: ∀(w:List Nat) (i:Int),bq w i 0=aB (rd w i):=fun w i=>by unfold bq;rw[show i - 0=i by lia])
local macro_rules|`(tactic|walk_at"k")=>`(tactic|have aX:=cV (P:=P) (w:=w) (base:=base) T)
local macro_rules|`(tactic|walk_at"l")=>`(tactic|refine wpAny_bind (wpAny_callSpecial?_slot (name:=Str.ofString "__next__") hi.typeIs F.slot_tuple_iterator_next (wpAny_call_entry F.slot_tuple_iterator_next hi.typeIs F.entry_tuple_iterator_next ?_ (F.args_tuple_iterator_next_1 _))))
local macro_rules|`(tactic|walk_at"m")=>`(tactic|refine Call_ (fR I hg hm boot_enumerate (Qbh (cy (ha pos pins s σ H _ I h) fun us s1 ⟨vs,H1,I1,r1,q1⟩=>?_) hs rfl)))
local macro_rules|`(tactic|walk_at"n")=>`(tactic|refine wpAny_bind (wpAny_pure ?_))
local macro_rules|`(tactic|walk_at"o")=>`(tactic|have N6: ∀y∈scope.names,y.2= .free-> ∃c,X.env.cells.lookup y.1=some c:=fun y hy e=>I.ok.has y.1 (HL y hy e))
local macro_rules|`(tactic|walk_at"p")=>`(tactic|have W:=WalksT.enumerateD D e Ax (by simp;exact ⟨Ax,Ne.symm QT⟩) (by simp))
local macro_rules|`(tactic|walk_at"q")=>`(tactic|refine wpAny_bind (wpAny_of_eq (a:=()) (by first | rfl | kernel_rfl) ?_))
local macro_rules|`(tactic|walk_at"r")=>`(tactic|refine ⟨T,_,rfl,bE.of ag,rfl,_,_,rfl,_,_,rfl,rfl,?_⟩)
local macro_rules|`(tactic|walk_at"s")=>`(tactic|simp only[Qb0,Qa4,if_false])
local macro_rules|`(tactic|walk_at"t")=>`(tactic|refine wpAny_bind (PySem.W.kat_kind (s:={ s with heap:=H2 }) (T:= .type "int") k1 (by lia) (fun v hv=>by obtain ⟨i,t,rfl⟩:=k3 v hv;exact PySem.W.Looks.of_pure rfl) (by rfl) ?_))
local macro_rules|`(tactic|walk_at"u")=>`(tactic|exact fun p2 n2=>q p2 _ (ao.free (ao.upd n1) n2) ⟨_,_,ag⟩ ((ao.upd n1).trans (ao.upd n2)))
local macro_rules|`(tactic|walk_at"v")=>`(tactic|refine wpAny_bind (wpAny_field ho hd (x:=rawInt (i:Int)) rfl ?_))
local macro_rules|`(tactic|walk_at"x")=>`(tactic|obtain ⟨u,rfl,ru⟩:=vals1 r)
local macro_rules|`(tactic|walk_at"y")=>`(tactic|rw[show its.toArray.any (vO x)=its.any (vO x) by simp,kF r fs])
local macro_rules|`(tactic|walk_at"z")=>`(tactic|obtain ⟨z,its,n,r,hl,e⟩:=I.tZ hH)
local macro_rules|`(tactic|walk_at"A")=>`(tactic|intro pins s σ H D I h)
local macro_rules|`(tactic|walk_at"B")=>`(tactic|refine wpAny_bind (wpAny_of_eq (a:=(Value.ref it,[])) rfl ?_))
local macro_rules|`(tactic|walk_at"C")=>`(tactic|have bU:=g8 (P:=P) (w:=w) (base:=base) T)
local macro_rules|`(tactic|walk_at"D")=>`(tactic|have kK: ∀{x:Str} {c:Addr},(iQ X.env scope.names []).lookup x=some c->X.env.cells.lookup x=some c:=fun {x c} e=>lY scope.names [] (fun y d q=>by simp at q) e)
local macro_rules|`(tactic|walk_at"E")=>`(tactic|have e1:=h.KC (a:=(aB (f (-1)),a)) (b:=(aB (g (-1)),a')) (c:=(f 0,b)) (by simp) (by simp) (by simp) (by show aB _=aB _;rw[z1]) (b9 ya (hf.bP 0) (Ne.symm r1)))
local macro_rules|`(tactic|walk_at"F")=>`(tactic|intro pins s σ H x xs v us Q I rx rv h)
local macro_rules|`(tactic|walk_at"G")=>`(tactic|intro pins s σ H x vs v us Q I rx rv h)
local macro_rules|`(tactic|walk_at"H")=>`(tactic|exact I1.nF (Sq _) (I1.bZ.fresh (Sq _)))
local macro_rules|`(tactic|walk_at"I")=>`(tactic|refine ⟨_,rfl,_,rfl,_,rfl,_,rfl,_,rfl,_,rfl,_,_,rfl,rfl,w,_,rfl,hw.ne,by lia,_,rfl,_,rfl,y,_,_,_,rfl,hy.nd,hw.rd _,gy m,hy.cl _ (hw.rd _),by lia,?_⟩)
local macro_rules|`(tactic|walk_at"J")=>`(tactic|refine wpAny_bind (seqEpoch_at Q6 rfl (wpAny_bind (wpAny_newTuple (wpAny_bind (wpAny_newList (wpAny_holding ?_) (Qaa _))) (by show vs.length<=_;lia)))))
local macro_rules|`(tactic|walk_at"K")=>`(tactic|refine ⟨_,rfl,_,rfl,_,rfl,_,rfl,_,rfl,w,_,rfl,hw.ne,by lia,y,_,_,_,rfl,hy.nd,hy.cl _ (hw.rd _),by rw[<-JV];exact hy.cl _ (gy _),hw.rd _,by lia,?_⟩)
local macro_rules|`(tactic|walk_at"L")=>`(tactic|exact ⟨o,e,fun v z=>by rw[d]at z;cases z⟩)
local macro_rules|`(tactic|walk_at"M")=>`(tactic|rw[show ee f v ((k,x)::r)=(if k=f then (k,v)::r else (k,x)::ee f v r) from rfl])
local macro_rules|`(tactic|walk_at"N")=>`(tactic|refine W.go elts k pos i T { s with heap:=h',toks:=tk } _ _ vX fun h2 vY yN=>?_)
local macro_rules|`(tactic|walk_at"O")=>`(tactic|show Ev lt n (if false=true then _ else _) _)
local macro_rules|`(tactic|walk_at"P")=>`(tactic|show wpAny _ A.in1 (pyNext (.ref I) >>= fun r=>_) _ _ s)
local macro_rules|`(tactic|walk_at"Q")=>`(tactic|obtain ⟨e1,Q6⟩: ∃e1,(s.heap.update a (Obj.mapSeq fun _=> #[])).get? a=some (seqObj "list" #[] e1):=⟨_,get?_update_seq ho (fun _=> #[])⟩)
local macro_rules|`(tactic|walk_at"R")=>`(tactic|have hlen:(cut y (some ((y.idxOf a:Nat):Int)) none).length+(cut y none (some ((y.idxOf a:Nat):Int))).length<=sizeLine:=by rw[cX,fq,Qat,Qak];lia)
local macro_rules|`(tactic|walk_at"S")=>`(tactic|show Ev lt n (if true=true then _ else _) _)
local macro_rules|`(tactic|walk_at"T")=>`(tactic|rw[show (0:Int)=bV w.length v.length (fun _ _=>0) by unfold bV;rw[show (fun _:Int=>sm v.length fun _=>0)=fun _=>0 from funext fun _=>dk _,dk]])
local macro_rules|`(tactic|walk_at"U")=>`(tactic|refine wpAny_bind (m:=checkCount "sorted" 1 1 _) (wpAny_pure (wpAny_bind (wpAny_collect_seq tp hT ho hc hd (fun h1 k1=>?_) (by rw[XR];lia)))))
local macro_rules|`(tactic|walk_at"V")=>`(tactic|have Ab:cut y (some ((y.idxOf a:Nat):Int)) none++cut y none (some ((y.idxOf a:Nat):Int))=y.drop (y.idxOf a)++y.take (y.idxOf a):=by rw[cX,fq])
local macro_rules|`(tactic|walk_at"W")=>`(tactic|refine wpAny_bind ?_)
local macro_rules|`(tactic|walk_at"X")=>`(tactic|refine wpAny_bind (wpAny_setField ho hd (by simp) ?_))
local macro_rules|`(tactic|walk_at"Y")=>`(tactic|intro value slice pins s σ H x y v u Q I rx ry h hs)
local macro_rules|`(tactic|walk_at"Z")=>`(tactic|refine ⟨_,rfl,_,rfl,_,_,rfl,rfl,_,rfl,bp (fun z2=>?_) (fun z2=>?_)⟩)
local macro_rules|`(tactic|walk_at"0")=>`(tactic|have e2:=h.same (a:=(aB (f (-1)),a)) (b:=(g 0,b')) (c:=(f 0,b)) (by simp) (by simp) (by simp) z0.symm (b9 ya (hf.bP 0) (Ne.symm r1)))
local macro_rules|`(tactic|walk_at"1")=>`(tactic|refine wpAny_pure ?_)
local macro_rules|`(tactic|walk_at"2")=>`(tactic|obtain ⟨t',rfl⟩:=ry)
local macro_rules|`(tactic|walk_at"3")=>`(tactic|intro pins s σ H R I h)
local macro_rules|`(tactic|walk_at"4")=>`(tactic|have hm: ∀e∈y,e∈y.drop (y.idxOf a)++y.take (y.idxOf a):=fun e he=>List.perm_append_comm.mem_iff.mp (by rw[Qbn];exact he))
local macro_rules|`(tactic|walk_at"5")=>`(tactic|refine wpAny_bind (wpAny_rule ?_))
local macro_rules|`(tactic|walk_at"6")=>`(tactic|refine wpAny_bind (m:=firstArgMember _ _) (wpAny_of_eq (a:=Value.none) (by first | rfl | (simp only[firstArgMember];rfl)) ?_))
local macro_rules|`(tactic|walk_at"7")=>`(tactic|obtain ⟨a,b,rfl,rfl,q⟩:=h)
local macro_rules|`(tactic|walk_at"8")=>`(tactic|show iQ env r (if (k==NameKind.free)=true then (match env.cells.lookup n with | some a=>(n,a)::acc | none=>acc) else acc)=_)
local macro_rules|`(tactic|walk_at"9")=>`(tactic|refine W.done s _ _ ?_ fun h' tk hk=>⟨rfl,I.ud (t':=tk) hk hf⟩)
open List renaming getElem?_eq_getElem→LJ,getElem?_eq_some_iff→LK,length_map→V6,length_append→V7,mem_singleton→V8,length_pos_iff→V9,map_append→XN,getD_eq_getElem?_getD→XO,size_toArray→XR,mem_cons_self→XS,mem_cons_of_mem→kb,mem_of_getElem?→Qab,idxOf_lt_length_of_mem→Qad,not_mem_nil→Qae,mem_append→Qaf,mem_cons→Qah,getElem?_map→Qaj,length_take→Qak,length_cons→Qar,length_drop→Qat,take_of_length_le→Qau,mem_map→Qav,append_nil→Qaw,mem_append_right→Qax,getElem_mem→Qay,length_reverse→Qaz,mem_range→Qa3,mem_filter→Qa5,map_cons→Qa7,getElem?_append_left→Qa9,take_length→Qbb,lookup_cons→Qbe,range_succ→Qbf,pairwise_map→Qbg,flatMap_append→Qbi,getElem?_append_right→Qbj,filter_cons_of_pos→Qbk,filter_cons_of_neg→Qbl,take_append_drop→Qbn,map_map→Qbt,getElem_idxOf→Qbu,mem_of_mem_take→Qbx,mem_flatMap→Qby,length_eq_zero_iff→Qbz,nodup_cons→Qb2,rel_of_pairwise_cons→Qb3,getElem?_drop→Qb5,length_range→Qb8,append_assoc→Qb9,drop_of_length_le→Qca,all_eq_true→Qcd,pairwise_cons→Qce,filter_append→Qcf,getElem?_reverse→Qcj,getElem?_eq_none→Qck,pairwise_iff_getElem→Qcl,getLast?_eq_getElem?→Qcm,drop_eq_getElem_cons→Qcn,mem_append_left→Qct,getElem?_take→Qcx,flatMap_singleton→Qcy,length_filter_le→Qc1,flatten_cons→Qc2,flatMap_cons→Qc3,pairwise_append→Qc4,map_reverse→Qc7,getElem_map→Qc8,map_congr_left→Qdc,getElem_of_mem→Qdd,pairwise_singleton→Qdm,eraseIdx_cons_succ→Qdn,take_add_one→Qdp,nodup_append→Qdq,lt_irrefl→Qdr,drop_eq_nil_of_le→Qds,mem_of_mem_drop→Qd2,forIn_cons→Qd4,foldl_cons→Qd5,idxOf_append→Qef,map_take→Qej,any_cons→Qek,mem_reverse→Qel,ext_getElem→Qem,pairwise_lt_range→Qeq,head?_eq_getElem?→Qer,find?_cons→Qet,filter_map→Qeu,length_singleton→Qex,cons_lt_cons_iff→Qey,dropLast_concat→Qe1,replicate_succ→Qe4,filterMap_cons→Qe5,filter_congr→Qfg,ext_getElem?→Qfh,nodup_range→Qfn,flatMap_nil→Qfo,sum_append→Qfs,of_mem_zip→Qft
open PySem.Heap renaming get?_push_of_some→N5,lt_size→Qag,get?_push_size→Qal,get?_update_other→Qa6,get?_update_self→Qbv,size_push→Qd3
open Nat renaming le_refl→Sq,zero_le→Qaa,lt_of_lt_of_le→Qap,ne_of_lt→Qaq,le_trans→Qa8,lt_of_le_of_lt→Qbc,lt_irrefl→Qbd,succ_le_succ→Qbw,mul_comm→Qb6,le_succ→Qb7,mod_eq_of_lt→Qcb,lt_succ_self→Qcc,not_lt_zero→Qco,min_eq_left→Qcp,lt_succ_of_lt→Qcr,le_succ_of_le→Qcs,le_of_lt→Qcw,min_eq_right→Qc6,div_add_mod→Qdi,pos_of_ne_zero→Qdk,mod_lt→Qdl,mul_le_mul_right→Qd1,succ_mul→Qd6,lt_or_gt_of_ne→Qea,zero_add→Qeo,lt_asymm→Qep,mod_add_div→Qes,le_of_ble_eq_true→Qev,div_lt_iff_lt_mul→Qew,add_assoc→Qe7,mod_eq_sub_mod→Qe9,sub_self→Qfc,ne_of_gt→Qfd,lt_trans→Qfe,add_comm→Qff,succ_ne_self→Qfl,le_add_right→Qfm,le_antisymm→Qfq,div_le_self→Qfr
open Int renaming toNat_natCast→XQ,emod_eq_of_lt→Qas,natCast_add→Qba,emod_lt_of_pos→Qbm,emod_nonneg→Qbo,add_mul_emod_self_left→Qcg,zero_add→Qcu,ofNat_lt→Qcz,add_emod_right→Qc0,emod_emod_of_dvd→Qc5,add_zero→Qc9,emod_add_emod→Qdt,natCast_emod→Qdx,natCast_ediv→Qdy,sub_zero→Qd7,sub_emod→Qd8,natCast_nonneg→Qeb,emod_add_mul_ediv→Qez,dvd_refl→Qfi,natCast_mul→Qfu
open PySem renaming boot_len→Qac,mem_of_lookup→Qda
open Bool renaming false_ne_true→Qai,false_eq_true→Qa4,and_eq_true→Qbr,not_true→Qb0,eq_iff_iff→Qdj,not_eq_true→Qdz,or_false→Qd0,not_false→Qec,and_eq_false_iff→Qe0,or_eq_false_iff→Qe3,decide_and→Qfv
open PySem.F renaming plainAttrs_list→Qam,plainAttrs_str→Qao,type_list_append→Qa0,slot_list_append→Qa1,type_str_index→Qbp,slot_str_index→Qbq,plain_max_loop→Qb1,called_set→Qb4,type_str_join→Qch,slot_str_join→Qci,type_list_extend→Qdf,slot_list_extend→Qdg,type_list_pop→Qdu,slot_list_pop→Qdv,type_str_islower→Qeh,slot_str_islower→Qei,entry_max_loop→Qen
open Option.some renaming inj→Qan
open PySem.W renaming mg_none_of→Qa2,kia_one→Qbs,kasC_bind→Qcq,callWith_K→Qd9,kasC_pure→Qee,mg_of→Qe6,kasC_cons→Qfb,kat_cons→Qfj,kasC_get→Qfk,kat_yes→Qfp
open PyProof.Rows renaming callWith_type1→Qbh
open Array renaming toList_inj→Qcv,length_toList→Qde,getElem?_toList→Qdw,getElem?_eq_getElem→Qed,forIn_toList→Qfa
open PyProof.Rows.F renaming plain_set_update_loop→Qdb
open List.Pairwise renaming imp_of_mem→Qdh
open Option renaming map_eq_some_iff→Qdo
open PySem.Heap.SameBut renaming update→Qeg
open List.Perm renaming refl→Qe2
open Int.ofNat renaming inj→Qe8
namespace L2
open PySem PySem.Spec PyProof.Rows
abbrev Key:=Sum Int Str
noncomputable def rz:Key->Value->Bool
 | .inl k,v=>Value.isInt k v
 | .inr x,v=>Value.isStrOf x v
noncomputable def Tw (w:World):Key->Int
 | .inl k=>hashInt k
 | .inr x=>hashStr w x
theorem cj: ∀{k:Key} {v:Value},rz k v=true->(∃i t,k=Sum.inl i/\v=Value.int i t)\/(∃x t,k=Sum.inr x/\v=Value.str x t)
 | .inl i,v,h=>by
  obtain ⟨t,e⟩:=Value.isInt_shape (k:=i) (v:=v) h
  exact .inl ⟨i,t,rfl,e⟩
 | .inr x,v,h=>by
  obtain ⟨t,e⟩:=Value.isStrOf_shape (x:=x) (v:=v) h
  exact .inr ⟨x,t,rfl,e⟩
theorem BL (i:Int) (t:Tok):rz (.inl i) (.int i t)=true:=by simp[rz,Value.isInt]
theorem BM (x:Str) (t:Tok):rz (.inr x) (.str x t)=true:=by simp[rz,Value.isStrOf]
theorem K3 (a b:Int):decide ((Sum.inl a:Key)=Sum.inl b)=(a==b):=by
 by_cases e:a=b
 ·subst e;simp
 ·have h: ¬(Sum.inl a:Key)=Sum.inl b:=fun q=>e (Sum.inl.inj q)
  rw[decide_eq_false h]
  exact (beq_eq_false_iff_ne.mpr e).symm
theorem K4 (a b:Str):decide ((Sum.inr a:Key)=Sum.inr b)=decide (a=b):=by
 by_cases e:a=b
 ·subst e;simp
 ·have h: ¬(Sum.inr a:Key)=Sum.inr b:=fun q=>e (Sum.inr.inj q)
  rw[decide_eq_false h,decide_eq_false e]
theorem K5 (a:Int) (b:Str):decide ((Sum.inl a:Key)=Sum.inr b)=false:=decide_eq_false (fun q=>nomatch q)
theorem K6 (a:Str) (b:Int):decide ((Sum.inr a:Key)=Sum.inl b)=false:=decide_eq_false (fun q=>nomatch q)
noncomputable def cB (prog:Program) (w:World):PySem.KeyKind prog w Key where
 is:=rz
 hash:=Tw w
 inj:=fun v a b ha hb=>by
  rcases cj ha with ⟨i,t,rfl,rfl⟩ | ⟨x,t,rfl,rfl⟩
  ·rcases cj hb with ⟨j,u,rfl,e⟩ | ⟨y,u,rfl,e⟩
   ·injection e with e1 _;rw[e1]
   ·exact nomatch e
  ·rcases cj hb with ⟨j,u,rfl,e⟩ | ⟨y,u,rfl,e⟩
   ·exact nomatch e
   ·injection e with e1 _;rw[e1]
 byValue:=fun k v h=>by
  rcases cj h with ⟨i,t,rfl,rfl⟩ | ⟨x,t,rfl,rfl⟩<;>rfl
 pyHash:=fun hv h=>by
  rcases cj hv with ⟨i,t,rfl,rfl⟩ | ⟨x,t,rfl,rfl⟩
  ·exact wpAny_pyHash_int h
  ·exact wpAny_pyHash_str h
 eqBool:=fun hu hv h=>by
  rcases cj hu with ⟨i,t,rfl,rfl⟩ | ⟨x,t,rfl,rfl⟩
  ·rcases cj hv with ⟨j,u,rfl,rfl⟩ | ⟨y,u,rfl,rfl⟩
   ·rw[K3]at h;exact wpAny_eqBool_int h
   ·rw[K5]at h;exact SeqAt.EqAt.int_str i t y u _ _ _ _ h
  ·rcases cj hv with ⟨j,u,rfl,rfl⟩ | ⟨y,u,rfl,rfl⟩
   ·rw[K6]at h;exact SeqAt.EqAt.str_int x t j u _ _ _ _ h
   ·rw[K4]at h;exact wpAny_eqBool_str h
 «strs» :=fun k x t v h=>by
  rcases cj h with ⟨i,u,rfl,e⟩ | ⟨y,u,rfl,e⟩
  ·exact nomatch e
  ·injection e with e1 _
   subst e1
   cases v<;>rfl
theorem vF (prog:Program) (w:World) (i:Int) (t:Tok):(cB prog w).is (.inl i) (.int i t)=true:=BL i t
theorem vG (prog:Program) (w:World) (x:Str) (t:Tok):(cB prog w).is (.inr x) (.str x t)=true:=BM x t
inductive V where
 | dY | bl (b:Bool) | int (i:Int) | str (x:Str) | Ai (b:Array UInt8) | K7 (b:UInt64) | ref (a:Addr) | ty (n:String)
 deriving DecidableEq
def RelV:V->Value->Prop
 | .dY,u=>u=Value.none
 | .bl b,u=>u=Value.bool b
 | .int i,u=> ∃t,u=Value.int i t
 | .str x,u=> ∃t,u=Value.str x t
 | .Ai b,u=> ∃t,u=Value.bytes b t
 | .K7 b,u=> ∃t,u=Value.float b t
 | .ref a,u=>u=Value.ref a
 | .ty n,u=>u=Value.type n
abbrev Vals:List V->List Value->Prop:=Paired RelV
theorem Vals.length {xs:List V} {us:List Value} (r:Vals xs us):xs.length=us.length:=Paired.length r
theorem Vals.get: ∀{xs:List V} {us:List Value} {i:Nat} {x:V},Vals xs us->xs[i]? =some x-> ∃u,us[i]? =some u/\RelV x u
 | _,_,_,_, .nil,e=>by simp at e
 | _,_,0,_, .cons r _,e=>by simp at e;subst e;exact ⟨_,rfl,r⟩
 | _,_,i+1,x, .cons _ t,e=>by
  obtain ⟨u,h1,h2⟩:=Vals.get (i:=i) (x:=x) t (by simpa using e)
  exact ⟨u,by simpa using h1,h2⟩
theorem Vals.set {x:V} {u:Value} (r:RelV x u): ∀{xs:List V} {us:List Value} (i:Nat),Vals xs us->Vals (xs.set i x) (us.set i u)
 | _,_,_, .nil=> .nil
 | _,_,0, .cons _ t=> .cons r t
 | _,_,i+1, .cons q t=> .cons q (Vals.set r i t)
theorem Vals.append: ∀{xs ys:List V} {us ws:List Value},Vals xs us->Vals ys ws->Vals (xs++ys) (us++ws)
 | _,_,_,_, .nil,s=>s
 | _,_,_,_, .cons r t,s=> .cons r (Vals.append t s)
theorem Vals.take: ∀{xs:List V} {us:List Value} (n:Nat),Vals xs us->Vals (xs.take n) (us.take n)
 | _,_,0,_=> .nil
 | _,_,_+1, .nil=> .nil
 | _,_,n+1, .cons r t=> .cons r (Vals.take n t)
theorem Vals.drop: ∀{xs:List V} {us:List Value} (n:Nat),Vals xs us->Vals (xs.drop n) (us.drop n)
 | _,_,0,r=>r
 | _,_,_+1, .nil=> .nil
 | _,_,n+1, .cons _ t=>Vals.drop n t
def x9:Option V->Option Value->Prop
 | some v,some u=>RelV v u
 | none,none=>True
 | _,_=>False
def KV {κ:Type}:List (κ×V)->List (κ×Value)->Prop:=Paired fun (p:κ×V) (q:κ×Value)=>p.1=q.1/\RelV p.2 q.2
noncomputable def kV:Key->V
 | .inl i=> .int i
 | .inr x=> .str x
inductive HO where
  | lst (xs:List V)
  | tup (xs:List V)
  | dK (eL:List (Key×V)) | dT (eL:List (List Key×V))
  | set (S:Int->Bool) (n:Nat)
  | ins (C dx:Addr) (fs:List (Str×V))
  | own (x:Addr)
  | xd (fs:List (Str×V))
  | met (f x:Addr)
  | Tx (lo hi:Int)
  | Aj (o:Obj) (u:HO)
  | K8 (ps:Array Value)
  | ext (φ:Heap->Prop)
abbrev Hp:=Addr->Option HO
noncomputable def upd (H:Hp) (a:Addr) (o:HO):Hp:=fun b=>if b=a then some o else H b
theorem ag {H:Hp} {a:Addr} {o:HO}:upd H a o a=some o:=by unfold upd;rw[if_pos rfl]
theorem az {H:Hp} {a b:Addr} {o:HO} (h:b≠a):upd H a o b=H b:=by unfold upd;rw[if_neg h]
theorem ax {H:Hp} {a b:Addr} {o:HO} (h:H a=some o) (h':H b=none):a≠b:=by
 intro e;subst e;rw[h]at h';cases h'
section
variable (P:Program) (w:World)
def cH (H:Hp) (h:Heap) (a:Addr):HO->Prop
 | .lst xs=>xs.length<=sizeLine/\ ∃(its:List Value) (n:Nat),Vals xs its/\h.get? a=some { cls:= .type "list",data:= .seq its.toArray n }
 | .tup xs=>xs.length<=sizeLine/\ ∃its:List Value,Vals xs its/\IsTup h a its.toArray
 | .dK eL=>eL.length<=sizeLine/\(a==sysModules)=false/\ ∃vs,KV eL vs/\h.DictOf (cB P w) a vs
 | .dT eL=>eL.length<=sizeLine/\(a==sysModules)=false/\ ∃xs:List (List Key×Addr×Value),
   Paired (fun (p:List Key×V) (q:List Key×Addr×Value)=>p.1=q.1/\H q.2.1=some (.tup (p.1.map kV))/\RelV p.2 q.2.2) eL xs/\
   ∃o es ep,h.get? a=some o/\o.ExactDict/\o.data= .dict es ep/\es.toList=xs.map (entryOfKey (tupleKind (cB P w)))/\(xs.map (·.1)).Nodup
 | .set S n=>h.SetOf (intKind P w) a S n
 | .ins C dx fs=>H dx=some (.own a)/\fs.length<=1000/\dx≠a/\h.get? a=some (PySem.W.instObj C dx)/\
   ∃mA,h.Ns1 dx mA/\(∀f,x9 (fs.lookup f) (mA f))/\PySem.Within mA (fs.map (·.1))
 | .own _=> ∃o,h.get? a=some o
 | .xd fs=> ∃mA,h.Ns1 a mA/\ ∀f,x9 (fs.lookup f) (mA f)
 | .Tx lo hi=> ∃t u v,h.get? a=some { cls:= .type "range",data:= .fields #[.int lo t, .int hi u, .int 1 v] }
 | .Aj o u=>h.get? a=some o/\cH H h a u
 | .K8 ps=>h.get? a=some { cls:= .none,data:= .fields ps }
 | .met f x=>h.get? a=some (PySem.W.methodObj (.ref f) (.ref x))
 | .ext φ=>φ h/\(∃o,h.get? a=some o)/\ ∀h1 h2:Heap,φ h1->(∀o,h1.get? a=some o->h2.get? a=some o)->φ h2
def lQ (H:Hp) (h:Heap):Prop:= ∀a o,H a=some o->cH P w H h a o
end
section
variable {P:Program} {w:World} {H H':Hp} {h h':Heap} {a:Addr} {o:HO}
theorem cH.lt (x:cH P w H h a o):a<h.objs.size:=by
 cases o with
 | lst xs=>obtain ⟨_,_,_,_,e⟩:=x;exact Qag e
 | tup xs=>obtain ⟨_,_,_,p⟩:=x;exact p.lt
 | dK eL=>obtain ⟨_,_,_,_,o,_,_,e,_⟩:=x;exact Qag e
 | dT eL=>obtain ⟨_,_,_,_,o,_,_,e,_⟩:=x;exact Qag e
 | set S n=>obtain ⟨o,_,_,_,e,_⟩:=x;exact Qag e
 | ins C dx fs=>obtain ⟨_,_,_,e,_⟩:=x;exact Qag e
 | own y=>obtain ⟨_,e⟩:=x;exact Qag e
 | xd fs=>obtain ⟨_,⟨_,_,_,e,_⟩,_⟩:=x;exact Qag e
 | Tx lo hi=>obtain ⟨_,_,_,e⟩:=x;exact Qag e
 | Aj ob u=>obtain ⟨e,_⟩:=x;exact Qag e
 | K8 ps=>exact Qag (show h.get? a=some _ from x)
 | met f y=>exact Qag (show h.get? a=some _ from x)
 | ext φ=>obtain ⟨_,⟨_,e⟩,_⟩:=x;exact Qag e
theorem Paired.PM {α β:Type} {F G:α->β->Prop}: ∀{l₁:List α} {l₂:List β},Paired F l₁ l₂->(∀a b,F a b->G a b)->Paired G l₁ l₂
 | _,_, .nil,_=> .nil
 | _,_, .cons r t,f=> .cons (f _ _ r) (Paired.PM t f)
theorem cH.vH (x:cH P w H h a o) (k: ∀b u,(b=a\/H b=some (.own a))->h.get? b=some u->h'.get? b=some u)
  (ho: ∀b,H b=some (.own a)->H' b=some (.own a)) (ht: ∀b xs,H b=some (.tup xs)->H' b=some (.tup xs)):cH P w H' h' a o:=by
 induction o with
 | lst xs=>obtain ⟨z,its,n,r,e⟩:=x;exact ⟨z,its,n,r,k _ _ (.inl rfl) e⟩
 | tup xs=>obtain ⟨z,its,r,ob,e,c⟩:=x;exact ⟨z,its,r,ob,k _ _ (.inl rfl) e,c⟩
 | dK eL=>obtain ⟨z,y,vs,r,ob,es,ep,e,c⟩:=x;exact ⟨z,y,vs,r,ob,es,ep,k _ _ (.inl rfl) e,c⟩
 | dT eL=>
  obtain ⟨z,y,xs,r,ob,es,ep,e,c⟩:=x
  exact ⟨z,y,xs,Paired.PM r fun p q z=>⟨z.1,ht _ _ z.2.1,z.2.2⟩,ob,es,ep,k _ _ (.inl rfl) e,c⟩
 | set S n=>obtain ⟨ob,es,ep,t,e,c⟩:=x;exact ⟨ob,es,ep,t,k _ _ (.inl rfl) e,c⟩
 | ins C dx fs=>
  obtain ⟨d,z,ne,e,mA,⟨od,es,ep,e2,c⟩,r⟩:=x
  exact ⟨ho _ d,z,ne,k _ _ (.inl rfl) e,mA,⟨od,es,ep,k _ _ (.inr d) e2,c⟩,r⟩
 | own y=>obtain ⟨ob,e⟩:=x;exact ⟨ob,k _ _ (.inl rfl) e⟩
 | xd fs=>obtain ⟨mA,⟨od,es,ep,e,c⟩,r⟩:=x;exact ⟨mA,⟨od,es,ep,k _ _ (.inl rfl) e,c⟩,r⟩
 | Tx lo hi=>obtain ⟨t,u,v,e⟩:=x;exact ⟨t,u,v,k _ _ (.inl rfl) e⟩
 | Aj ob u ih=>obtain ⟨e,q⟩:=x;exact ⟨k _ _ (.inl rfl) e,ih q⟩
 | K8 ps=>
  have e:h.get? a=some { cls:= .none,data:= .fields ps }:=x
  show h'.get? a=some { cls:= .none,data:= .fields ps }
  exact k a _ (.inl rfl) e
 | met f y=>
  have e:h.get? a=some (PySem.W.methodObj (.ref f) (.ref y)):=x
  show h'.get? a=some (PySem.W.methodObj (.ref f) (.ref y))
  exact k a _ (.inl rfl) e
 | ext φ=>obtain ⟨p,⟨o,e⟩,st⟩:=x;exact ⟨st _ _ p fun o q=>k _ _ (.inl rfl) q,⟨o,k _ _ (.inl rfl) e⟩,st⟩
theorem lQ.lt (x:lQ P w H h) (e:H a=some o):a<h.objs.size:=(x a o e).lt
theorem lQ.fresh (x:lQ P w H h) (e:h.objs.size<=a):H a=none:=by
 cases q:H a with
 | none=>rfl
 | some u=>exact absurd (Qap (x.lt q) e) (Qbd _)
theorem lQ.kept (x:lQ P w H h) (k: ∀b u,h.get? b=some u->h'.get? b=some u):lQ P w H h':=fun a o e=>
 (x a o e).vH (fun b u _ q=>k b u q) (fun _ q=>q) fun _ _ q=>q
theorem lQ.laid (x:lQ P w H h) (k: ∀b u,h.get? b=some u->h'.get? b=some u) (hp:h.objs.size<=a) (new:cH P w (upd H a o) h' a o):lQ P w (upd H a o) h':=fun b u e=>by
 have hn:=x.fresh hp
 by_cases hb:b=a
 ·subst hb;rw[ag]at e;cases e;exact new
 ·rw[az hb]at e
  exact (x b u e).vH (fun c v _ q=>k c v q) (fun c q=>by rw[az (ax q hn)];exact q) fun c xs q=>by rw[az (ax q hn)];exact q
end
def Rd (H:Hp) (a:Addr) (u:HO):Prop:=H a=some u\/ ∃o,H a=some (.Aj o u)
theorem Rd.ok {P:Program} {w:World} {H:Hp} {h:Heap} {a:Addr} {u:HO} (r:Rd H a u) (x:lQ P w H h):cH P w H h a u:=by
 rcases r with r | ⟨o,r⟩
 ·exact x a u r
 ·obtain ⟨_,q⟩:=x a _ r
  exact q
def R_:Option HO->Prop
 | some (.lst _)=>True
 | some (.dK _)=>True
 | some (.dT _)=>True
 | some (.set _ _)=>True
 | some (.ins _ _ _)=>True
 | some (.ext _)=>True
 | _=>False
section
variable {P:Program} {w:World} {H:Hp} {h h':Heap} {x e:Addr} {o':HO}
theorem lQ.write (ok:lQ P w H h) (mu:R_ (H x)) (he:e=x\/H e=some (.own x)) (k: ∀b u,b≠e->h.get? b=some u->h'.get? b=some u) (NW: ∃u,h'.get? e=some u)
  (new:cH P w (upd H x o') h' x o'):lQ P w (upd H x o') h':=fun b u q=>by
 have PN: ∀c y,H c=some (.own y)->c≠x:=fun c y r z=>by subst z;rw[r]at mu;exact mu
 have Tz: ∀c xs,H c=some (.tup xs)->c≠x:=fun c xs r z=>by subst z;rw[r]at mu;exact mu
 by_cases hb:b=x
 ·subst hb;rw[ag]at q;cases q;exact new
 ·rw[az hb]at q
  by_cases GX:b=e
  ·have q':H b=some (.own x):=by
    rcases he with z | z
    ·exact absurd (GX.trans z) hb
    ·rw[GX];exact z
   rw[q]at q';cases q'
   obtain ⟨v,hv⟩:=NW
   exact ⟨v,by rw[GX];exact hv⟩
  ·refine (ok b u q).vH (fun c v hc r=>k c v ?_ r) (fun c r=>by rw[az (PN c b r)];exact r) fun c xs r=>by rw[az (Tz c xs r)];exact r
   rcases hc with rfl | hc
   ·exact GX
   ·rintro rfl
    rcases he with z | z
    ·exact PN c b hc z
    ·rw[hc]at z;cases z;exact hb rfl
end
structure Un (fs ex:List Addr) (H H':Hp) (h h':Heap):Prop where
 keep: ∀b o,h.get? b=some o->H b=none->b∉fs->b∉ex->h'.get? b=some o
 slot: ∀b o,h.get? b=some o->H b=none->b∈fs->b∉ex-> ∃sl,h'.get? b=some { o with slots:=sl }
 free: ∀b o,h.get? b=some o->H b=none->b∉ex->H' b=none
 there: ∀b o,h.get? b=some o->b∉ex-> ∃o',h'.get? b=some o'
 jR: ∀b xs,H b=some (.tup xs)->H' b=some (.tup xs)
 oF: ∀b o u,H b=some (.Aj o u)->H' b=some (.Aj o u)
 tJ: ∀b ps,H b=some (.K8 ps)-> ∃more,H' b=some (.K8 (ps++more))
section
variable {fs Xt ex ex':List Addr} {H H1 H2:Hp} {h h1 h2 h':Heap} {a x e:Addr} {o:HO}
theorem Un.any (u:Un fs ex H H1 h h1) {b:Addr} {ob:Obj} (q:h.get? b=some ob) (n:H b=none) (hx:b∉ex): ∃sl,h1.get? b=some { ob with slots:=sl }:=by
 by_cases hb:b∈fs
 ·exact u.slot b ob q n hb hx
 ·exact ⟨ob.slots,u.keep b ob q n hb hx⟩
theorem Un.kept (k: ∀b u,h.get? b=some u->h'.get? b=some u):Un fs ex H H h h':=
 ⟨fun b ob q _ _ _=>k b ob q,fun b ob q _ _ _=>⟨ob.slots,k b ob q⟩,fun _ _ _ n _=>n,fun b ob q _=>⟨ob,k b ob q⟩,fun _ _ q=>q,fun _ _ _ q=>q,fun _ ps q=>⟨#[],by rw[q];simp⟩⟩
theorem Un.refl:Un fs ex H H h h:=Un.kept fun _ _ q=>q
theorem Un.laid (k: ∀b u,h.get? b=some u->h'.get? b=some u) (hp:h.objs.size<=a) (hn:H a=none):Un fs ex H (upd H a o) h h' where
 keep:=fun b u q _ _ _=>k b u q
 slot:=fun b u q _ _ _=>⟨u.slots,k b u q⟩
 free:=fun b u q n _=>by rw[az (Qaq (Qap (Qag q) hp))];exact n
 there:=fun b u q _=>⟨u,k b u q⟩
 jR:=fun b xs q=>by rw[az (ax q hn)];exact q
 oF:=fun b u xs q=>by rw[az (ax q hn)];exact q
 tJ:=fun b ps q=>⟨#[],by rw[az (ax q hn),q];simp⟩
theorem Un.write (mu:R_ (H x)) (he:e=x\/H e=some (.own x)) (k: ∀b u,b≠e->h.get? b=some u->h'.get? b=some u) (NW: ∃u,h'.get? e=some u):Un fs ex H (upd H x o) h h':=by
 have hx: ∀b,H b=none->b≠x:=fun b n z=>by subst z;rw[n]at mu;exact mu
 have hb: ∀b,H b=none->b≠e:=fun b n z=>by
  subst z
  rcases he with r | r
  ·exact hx b n r
  ·rw[n]at r;cases r
 have hm: ∀b u,H b=some u-> ¬R_ (some u)->b≠x:=fun b u q nm z=>by subst z;rw[q]at mu;exact nm mu
 refine ⟨fun b u q n _ _=>k b u (hb b n) q,fun b u q n _ _=>⟨u.slots,k b u (hb b n) q⟩,fun b u q n _=>by rw[az (hx b n)];exact n,fun b u q _=>?_,
  fun b xs q=>by rw[az (hm b _ q fun z=>z)];exact q,fun b u xs q=>by rw[az (hm b _ q fun z=>z)];exact q,fun b ps q=>⟨#[],by rw[az (hm b _ q fun z=>z),q];simp⟩⟩
 by_cases GX:b=e
 ·subst GX;exact NW
 ·exact ⟨u,k b u GX q⟩
end
noncomputable def Sa (h:Heap) (H:Hp):List Addr:=(List.range h.objs.size).filter fun a=>(H a).isSome
noncomputable def tK (h:Heap) (H:Hp):Heap:=PySem.W.hideAll h (Sa h H)
theorem BN (h:Heap) (H:Hp):(tK h H).objs.size=h.objs.size:=PySem.W.hideAll_size _ _
theorem DQ {h:Heap} {H:Hp} {b:Addr} {o:Obj} (e:h.get? b=some o) (n:H b=none):(tK h H).get? b=some o:=
 PySem.W.hideAll_get _ e fun hm=>by
  have q:(H b).isSome=true:=(Qa5.mp hm).2
  rw[n]at q;simp at q
theorem Hn {h:Heap} {H:Hp} {b:Addr} {o:Obj} (e:(tK h H).get? b=some o):h.get? b=some o/\H b=none:=by
 have e':h.get? b=some o:=PySem.W.of_hideAll (Sa h H) e
 refine ⟨e',?_⟩
 cases q:H b with
 | none=>rfl
 | some x=>
  have hm:b∈Sa h H:=Qa5.mpr ⟨Qa3.mpr (Qag e'),by simp[q]⟩
  have z:(tK h H).get? b=none:=PySem.W.hideAll_none (Sa h H) hm
  rw[z]at e;cases e
structure Mod (K:PySem.W.Frag) (mg:Str->Option Value) (base:Heap):Prop where
 NX:K.In base
 glob:base.Ns mainGlobals mg
 blt: ∃mb,base.Ns builtinsNs mb/\ ∀x:Str,x≠"__name__"->mb x=bootBuiltins x
 nolimit:base.NoLimit
structure Cx where
 prog:Program
 w:World
 K:PySem.W.Frag
 mg:Str->Option Value
 base:Heap
 A:Around
 N:List Str
 s₀:Shared
 H₀:Hp
 env:Env
 outer:List Env
 stack:List Env
 ex:List Addr
 fn:Str->Bool
 calm:Bool
 pn:List (Addr×Obj)
 xe:Value->Shared->Prop
noncomputable def Ak (l:List Env):List Addr:=l.filterMap (·.frame)
noncomputable abbrev Cx.fs (X:Cx):List Addr:=Ak X.outer
def PQ (sc:Scope) (x:Str):Prop:=sc.names.lookup x=some .local\/sc.names.lookup x=some .cell\/sc.names.lookup x=some .free
def Loc (sc:Scope) (x:Str):Prop:=sc.names.lookup x=some .local\/sc.names.lookup x=some .cell
def Look (env:Env) (h:Heap) (m:Str->Option Value) (x:Str) (u:Value):Prop:=
 (env.kindOf x=some .local/\m x=some u)\/((env.kindOf x=some .cell\/env.kindOf x=some .free)/\ ∃c,env.cells.lookup x=some c/\h.IsCell c (some u))
structure Cx.Ok (X:Cx):Prop where
 mod:Mod X.K X.mg X.base
 kind:X.env.scope.kind= .function
 glob:X.env.globals=mainGlobals
 blt:X.env.builtins=builtinsNs
 above:X.s₀.heap.objs.size<=X.env.locals
 inj: ∀x y c,X.env.cells.lookup x=some c->X.env.cells.lookup y=some c->x=y
 has: ∀x,(X.env.kindOf x=some .cell\/X.env.kindOf x=some .free)-> ∃c,X.env.cells.lookup x=some c
 PR: ∀x c,X.fn x=true->X.env.cells.lookup x=some c->X.s₀.heap.objs.size<=c
 hd:X.calm=true->X.A.handled=none
 frames:X.A.frames=some X.stack
 Sb:X.stack=X.outer\/(X.stack=X.env::X.outer/\X.env.frame=some X.env.locals)
 VT: ∀b∈X.ex,b≠X.env.locals/\ ∀x c,X.env.cells.lookup x=some c->c≠b
 bs: ∀b o,X.base.get? b=some o->X.s₀.heap.get? b=some o/\X.H₀ b=none
 Ho:X.base.objs.size<=X.s₀.heap.objs.size
 DR: ∀b o,X.base.get? b=some o->b∉X.ex
 Hq: ∀b∈X.ex,b∉X.fs
 nB:X.s₀.heap.FunFrames X.base X.outer
 K9: ∀b∈X.fs,X.H₀ b=none
structure Inv (X:Cx) (pins:List (Addr×Obj)) (σ:List (Option V)) (H:Hp) (s:Shared):Prop where
 ok:X.Ok
 os:s.os=X.s₀.os
 bare:AllBare s.gens
 base:Un X.fs X.ex X.H₀ H X.s₀.heap s.heap
 loc: ∃m,s.heap.Ns X.env.locals m/\ ∀(i:Nat) (x:Str) (v:V),X.N[i]? =some x->σ[i]? =some (some v)->PQ X.env.scope x-> ∃u,RelV v u/\Look X.env s.heap m x u
 cell: ∀x c,X.env.cells.lookup x=some c-> ∃v,s.heap.IsCell c v
 free:H X.env.locals=none
 iW: ∀x c,X.env.cells.lookup x=some c->H c=none
 pin: ∀p∈X.pn++pins,s.heap.get? p.1=some p.2/\H p.1=none/\p.1≠X.env.locals/\p.1∉X.fs/\ ∀v,p.2.data≠ .cell v
 bZ:lQ X.prog X.w H s.heap
 len:σ.length=X.N.length
section
variable {X:Cx} {pins:List (Addr×Obj)} {σ:List (Option V)} {H H':Hp} {s:Shared} {h':Heap}
theorem Cx.Ok.TB (ok:X.Ok) {b:Addr} {o:Obj} (e:X.base.get? b=some o):b∉X.fs:=fun hb=>by
 have:=(ok.nB.mem hb).1
 rw[e]at this;cases this
theorem Inv.bs (I:Inv X pins σ H s): ∀b o,X.base.get? b=some o->s.heap.get? b=some o/\H b=none:=fun b o e=>
 ⟨I.base.keep b o (I.ok.bs b o e).1 (I.ok.bs b o e).2 (I.ok.TB e) (I.ok.DR b o e),I.base.free b o (I.ok.bs b o e).1 (I.ok.bs b o e).2 (I.ok.DR b o e)⟩
theorem Inv.bk (I:Inv X pins σ H s): ∀b o,X.base.get? b=some o->s.heap.get? b=some o:=fun b o e=>(I.bs b o e).1
theorem Inv.mod (I:Inv X pins σ H s):Mod X.K X.mg X.base:=I.ok.mod
theorem Inv.nZ (I:Inv X pins σ H s):X.K.In s.heap:=I.ok.mod.NX.keeps I.bk
theorem Inv.lt (I:Inv X pins σ H s):X.env.locals<s.heap.objs.size:=let ⟨_,hn,_⟩:=I.loc;hn.lt
theorem Inv.sz (I:Inv X pins σ H s):X.s₀.heap.objs.size<=s.heap.objs.size:=Qa8 I.ok.above (Qcw I.lt)
theorem Inv.K_ (I:Inv X pins σ H s) {a:Addr} (h:s.heap.objs.size<=a):a∉X.fs:=fun hb=>by
 obtain ⟨_,o,ho,_⟩:=I.ok.nB.mem hb
 exact absurd (Qap (Qag ho) (Qa8 I.sz h)) (Qbd _)
theorem Inv.La (I:Inv X pins σ H s): ∀x c,X.env.cells.lookup x=some c->c≠X.env.locals:=fun x c e z=>by
 obtain ⟨v,o,ho,hd⟩:=I.cell x c e
 obtain ⟨m,⟨o',es,ep,xP,BO,_⟩,_⟩:=I.loc
 rw[z,xP]at ho;cases ho;rw[BO]at hd;cases hd
theorem Inv.nB (I:Inv X pins σ H s):s.heap.FunFrames X.base X.outer:=by
 have all: ∀(l:List Env),(∀b∈Ak l,b∈X.fs)->X.s₀.heap.FunFrames X.base l->s.heap.FunFrames X.base l:=by
  intro l
  induction l with
  | nil=>intro _ _;trivial
  | cons env r ih=>
   intro hs hl
   obtain ⟨hk,⟨L,o,hf,hn,ho,hd⟩,hr⟩:=hl
   have hL:L∈X.fs:=hs L (by unfold Ak;rw[Qe5,hf];exact XS)
   obtain ⟨sl,e⟩:=I.base.slot L o ho (I.ok.K9 L hL) hL fun z=>I.ok.Hq L z hL
   exact ⟨hk,⟨L,_,hf,hn,e,hd⟩,ih (fun b hb=>hs b (by unfold Ak;rw[Qe5,hf];exact kb _ hb)) hr⟩
 exact all X.outer (fun _ hb=>hb) I.ok.nB
theorem Inv.stack (I:Inv X pins σ H s):s.heap.FunFrames X.base X.stack:=by
 rcases I.ok.Sb with e | ⟨e,hf⟩
 ·rw[e];exact I.nB
 ·rw[e]
  obtain ⟨m,hn,_⟩:=I.loc
  refine .cons (by rw[I.ok.kind];decide) hf hn ?_ I.nB
  exact Heap.get?_none_of_le (Qa8 I.ok.Ho I.ok.above)
theorem Inv.oG (I:Inv X pins σ H s): ∀b∈Ak X.stack,b∈X.env.locals::X.fs:=fun b hb=>by
 rcases I.ok.Sb with e | ⟨e,hf⟩
 ·rw[e]at hb;exact kb _ hb
 ·rw[e]at hb
  unfold Ak at hb
  rw[Qe5,hf]at hb
  exact hb
theorem Inv.Al (I:Inv X pins σ H s): ∀b∈Ak X.stack,H b=none:=fun b hb=>by
 rcases Qah.mp (I.oG b hb) with e | hb
 ·rw[e];exact I.free
 ·obtain ⟨_,o,ho,_⟩:=I.ok.nB.mem hb
  exact I.base.free b o ho (I.ok.K9 b hb) fun z=>I.ok.Hq b z hb
theorem Inv.step {g':Array GenState} {t':Nat} {d':Drawn} {ch:List Addr} (I:Inv X pins σ H s)
  (GY: ∀b∈ch,(b∈X.ex\/X.s₀.heap.objs.size<=b)/\b≠X.env.locals/\(∀x c,X.env.cells.lookup x=some c->c≠b)/\ ∀p∈X.pn++pins,p.1≠b)
  (keep: ∀b o,b≠X.env.locals->b∉X.fs->b∉ch->s.heap.get? b=some o->H b=none->h'.get? b=some o)
  (slot: ∀b o,b≠X.env.locals->b∈X.fs->b∉ch->s.heap.get? b=some o->H b=none-> ∃sl,h'.get? b=some { o with slots:=sl }) (free: ∀b o,b∉ch->s.heap.get? b=some o->H b=none->H' b=none)
  (there: ∀b o,b∉ch->s.heap.get? b=some o-> ∃o',h'.get? b=some o')
  (jR: ∀b xs,H b=some (.tup xs)->H' b=some (.tup xs)) (oF: ∀b o u,H b=some (.Aj o u)->H' b=some (.Aj o u)) (tJ: ∀b ps,H b=some (.K8 ps)-> ∃more,H' b=some (.K8 (ps++more)))
  (ns: ∀m,s.heap.Ns X.env.locals m->h'.Ns X.env.locals m) (bZ:lQ X.prog X.w H' h') (hg:AllBare g'):
  Inv X pins σ H' { s with heap:=h',gens:=g',drawn:=d',toks:=t' }:=by
 have VU: ∀b o,X.s₀.heap.get? b=some o->b≠X.env.locals:=fun b o e=>Qaq (Qap (Qag e) I.ok.above)
 have Lb: ∀b o,X.s₀.heap.get? b=some o->b∉X.ex->b∉ch:=fun b o e hx hb=>by
  rcases (GY b hb).1 with z | z
  ·exact hx z
  ·exact absurd (Qap (Qag e) z) (Qbd _)
 have cellK: ∀x c,X.env.cells.lookup x=some c-> ∀v,s.heap.IsCell c v->h'.IsCell c v:=fun x c e v ⟨o,ho,hd⟩=>by
  have PU:c∉ch:=fun z=>(GY c z).2.2.1 x c e rfl
  by_cases hc:c∈X.fs
  ·obtain ⟨sl,q⟩:=slot c o (I.La x c e) hc PU ho (I.iW x c e)
   exact ⟨_,q,hd⟩
  ·exact ⟨o,keep c o (I.La x c e) hc PU ho (I.iW x c e),hd⟩
 refine ⟨I.ok,I.os,hg,⟨fun b o e n hb hx=>?_,fun b o e n hb hx=>?_,fun b o e n hx=>?_,fun b o e hx=>?_,fun b xs e=>jR b xs (I.base.jR b xs e),fun b o xs e=>oF b o xs (I.base.oF b o xs e),fun b ps e=>?_⟩,?_,fun x c e=>?_,?_,fun x c e=>?_,fun p hp=>?_,bZ,I.len⟩
 ·exact keep b o (VU b o e) hb (Lb b o e hx) (I.base.keep b o e n hb hx) (I.base.free b o e n hx)
 ·obtain ⟨sl,e1⟩:=I.base.slot b o e n hb hx
  obtain ⟨Xu,e2⟩:=slot b _ (VU b o e) hb (Lb b o e hx) e1 (I.base.free b o e n hx)
  exact ⟨Xu,e2⟩
 ·obtain ⟨o',e1⟩:=I.base.there b o e hx
  exact free b o' (Lb b o e hx) e1 (I.base.free b o e n hx)
 ·obtain ⟨o',e1⟩:=I.base.there b o e hx
  exact there b o' (Lb b o e hx) e1
 ·obtain ⟨m1,e1⟩:=I.base.tJ b ps e
  obtain ⟨m2,e2⟩:=tJ b _ e1
  exact ⟨m1++m2,by rw[e2,Array.append_assoc]⟩
 ·obtain ⟨m,hn,hl⟩:=I.loc
  refine ⟨m,ns m hn,fun i x v e1 e2 e3=>?_⟩
  obtain ⟨u,r,l⟩:=hl i x v e1 e2 e3
  refine ⟨u,r,?_⟩
  rcases l with l | ⟨k,c,e,z⟩
  ·exact .inl l
  ·exact .inr ⟨k,c,e,cellK x c e _ z⟩
 ·obtain ⟨v,z⟩:=I.cell x c e
  exact ⟨v,cellK x c e v z⟩
 ·obtain ⟨m,⟨o,_,_,ho,_⟩,_⟩:=I.loc
  exact free _ o (fun z=>(GY _ z).2.1 rfl) ho I.free
 ·obtain ⟨v,o,ho,hd⟩:=I.cell x c e
  exact free c o (fun z=>(GY c z).2.2.1 x c e rfl) ho (I.iW x c e)
 ·obtain ⟨e,n,ne,nf,d⟩:=I.pin p hp
  have PU:p.1∉ch:=fun z=>(GY p.1 z).2.2.2 p hp rfl
  exact ⟨keep p.1 p.2 ne nf PU e n,free p.1 p.2 PU e n,ne,nf,d⟩
theorem Inv.un {t':Nat} (I:Inv X pins σ H s) (u:Un X.fs [] H H' s.heap h') (bZ:lQ X.prog X.w H' h'):Inv X pins σ H' { s with heap:=h',toks:=t' }:=by
 obtain ⟨m,⟨o,es,ep,ho,r⟩,_⟩:=id I.loc
 obtain ⟨sl,hL⟩:=u.any ho I.free (by simp)
 exact I.step (g':=s.gens) (d':=s.drawn) (ch:=[]) (fun _ z=>nomatch z) (fun b o _ hb _ e n=>u.keep b o e n hb (by simp)) (fun b o _ hb _ e n=>u.slot b o e n hb (by simp)) (fun b o _ e n=>u.free b o e n (by simp)) (fun b o _ e=>u.there b o e (by simp)) u.jR u.oF u.tJ (fun m' hm=>by
  obtain ⟨o',PV,Lc,xP,r'⟩:=hm
  rw[ho]at xP;cases xP
  exact ⟨_,PV,Lc,hL,r'⟩) bZ I.bare
theorem Inv.call {g':Array GenState} {t':Nat} {d':Drawn} {ch:List Addr} (I:Inv X pins σ H s) (u:Un (Ak X.stack) ch H H' s.heap h') (bZ:lQ X.prog X.w H' h') (hg:AllBare g')
  (GY: ∀b∈ch,(b∈X.ex\/X.s₀.heap.objs.size<=b)/\b≠X.env.locals/\(∀x c,X.env.cells.lookup x=some c->c≠b)/\ ∀p∈X.pn++pins,p.1≠b):
  Inv X pins σ H' { s with heap:=h',gens:=g',drawn:=d',toks:=t' }:=by
 obtain ⟨m,⟨o,es,ep,ho,r⟩,_⟩:=id I.loc
 obtain ⟨sl,hL⟩:=u.any ho I.free fun z=>(GY _ z).2.1 rfl
 exact I.step (ch:=ch) GY (fun b o hL hb hc e n=>u.keep b o e n (fun z=>(Qah.mp (I.oG b z)).elim hL hb) hc) (fun b o _ _ hc e n=>u.any e n hc) (fun b o hc e n=>u.free b o e n hc) (fun b o hc e=>u.there b o e hc) u.jR u.oF u.tJ (fun m' hm=>by
  obtain ⟨o',PV,Lc,xP,r'⟩:=hm
  rw[ho]at xP;cases xP
  exact ⟨_,PV,Lc,hL,r'⟩) bZ hg
theorem Inv.turned {t':Nat} {it:Addr} (I:Inv X pins σ H s) (k: ∀b o,b≠it->s.heap.get? b=some o->h'.get? b=some o) (hn:H it=none) (hL:it≠X.env.locals)
  (h1:it∈X.ex\/X.s₀.heap.objs.size<=it) (h2: ∀x c,X.env.cells.lookup x=some c->c≠it) (h3: ∀p∈X.pn++pins,p.1≠it):Inv X pins σ H { s with heap:=h',toks:=t' }:=by
 have J6: ∀b u,H b=some u->b≠it:=fun b u e z=>by rw[z,hn]at e;cases e
 refine I.step (g':=s.gens) (d':=s.drawn) (ch:=[it]) (fun b hb=>?_) (fun b o _ _ hc e _=>k b o (fun z=>hc (by simp[z])) e) (fun b o _ _ hc e _=>⟨o.slots,k b o (fun z=>hc (by simp[z])) e⟩) (fun _ _ _ _ n=>n)
  (fun b o hc e=>⟨o,k b o (fun z=>hc (by simp[z])) e⟩) (fun _ _ e=>e) (fun _ _ _ e=>e) (fun b ps e=>⟨#[],by rw[e];simp⟩) (fun m hm=>?_) (fun b u e=>?_) I.bare
 ·have e:b=it:=by simpa using hb
  subst e
  exact ⟨h1,hL,h2,h3⟩
 ·obtain ⟨o,es,ep,ho,r⟩:=hm
  exact ⟨o,es,ep,k _ o (Ne.symm hL) ho,r⟩
 ·refine (I.bZ b u e).vH (fun c v hc q=>k c v ?_ q) (fun _ q=>q) fun _ _ q=>q
  rcases hc with z | z
  ·rw[z];exact J6 b u e
  ·exact J6 c _ z
theorem Inv.tok (I:Inv X pins σ H s) (t:Nat):Inv X pins σ H { s with toks:=t }:=I.un (h':=s.heap) (t':=t) Un.refl I.bZ
theorem Inv.kept {t':Nat} (I:Inv X pins σ H s) (k: ∀b u,s.heap.get? b=some u->h'.get? b=some u):Inv X pins σ H { s with heap:=h',toks:=t' }:=I.un (Un.kept k) (I.bZ.kept k)
theorem Inv.laid {a:Addr} {o:HO} {t':Nat} (I:Inv X pins σ H s) (k: ∀b u,s.heap.get? b=some u->h'.get? b=some u) (hp:s.heap.objs.size<=a) (new:cH X.prog X.w (upd H a o) h' a o):
  Inv X pins σ (upd H a o) { s with heap:=h',toks:=t' }:=I.un (Un.laid k hp (I.bZ.fresh hp)) (I.bZ.laid k hp new)
theorem Inv.write {x e:Addr} {o:HO} {t':Nat} (I:Inv X pins σ H s) (mu:R_ (H x)) (he:e=x\/H e=some (.own x)) (k: ∀b u,b≠e->s.heap.get? b=some u->h'.get? b=some u) (NW: ∃u,h'.get? e=some u)
  (new:cH X.prog X.w (upd H x o) h' x o):Inv X pins σ (upd H x o) { s with heap:=h',toks:=t' }:=I.un (Un.write mu he k NW) (I.bZ.write mu he k NW new)
theorem Inv.weak {σ':List (Option V)} (I:Inv X pins σ H s) (hl:σ'.length=σ.length) (w: ∀(i:Nat) v,σ'[i]? =some (some v)->σ[i]? =some (some v)):Inv X pins σ' H s:=
 ⟨I.ok,I.os,I.bare,I.base,let ⟨m,hn,x_⟩:=I.loc;⟨m,hn,fun i x v e1 e2 e3=>x_ i x v e1 (w i v e2) e3⟩,I.cell,I.free,I.iW,I.pin,I.bZ,hl.trans I.len⟩
theorem Inv.kC {Am:List (Addr×Obj)} (I:Inv X pins σ H s) (h: ∀p∈Am,s.heap.get? p.1=some p.2/\H p.1=none/\p.1≠X.env.locals/\p.1∉X.fs/\ ∀v,p.2.data≠ .cell v):Inv X Am σ H s:=
 ⟨I.ok,I.os,I.bare,I.base,I.loc,I.cell,I.free,I.iW,fun p hp=>(Qaf.mp hp).elim (fun z=>I.pin p (Qct _ z)) (h p),I.bZ,I.len⟩
theorem vI {N:List Str} (hN:N.Nodup) {i j:Nat} {x:Str} (a:N[i]? =some x) (b:N[j]? =some x):i=j:=by
 obtain ⟨h1,e1⟩:=LK.mp a
 obtain ⟨h2,e2⟩:=LK.mp b
 exact (List.getElem_inj hN).mp (e1.trans e2.symm)
theorem BP {M:Model} {A:Around} {E:Value->Shared->Prop} {i:Nat} {x:Str} {v:V} {u:Value} {Q:Unit->Shared->Prop} (I:Inv X pins σ H s) (hN:X.N.Nodup) (hi:X.N[i]? =some x) (hx:Loc X.env.scope x) (r:RelV v u)
  (h: ∀s',Inv X pins (σ.set i (some v)) H s'->(∃a,Heap.SameBut a s.heap s'.heap/\(a=X.env.locals\/X.env.cells.lookup x=some a))->Q () s') (hf:X.fn x=true\/X.env.scope.names.lookup x=some .local:=by first | exact .inl rfl | exact .inr rfl | assumption):wpAny M A (storeName X.env x u) Q E s:=by
 obtain ⟨m,hn,hl⟩:=id I.loc
 have TC:(X.env.scope.kind== .class||(X.env.scope.kind== .module&&X.env.locals != X.env.globals))=false:=by rw[I.ok.kind];rfl
 have VV:i<σ.length:=by rw[I.len];exact (LK.mp hi).1
 have La:=I.La
 have tracked: ∀{a:Addr} {h':Heap},(∃o,s.heap.get? a=some o/\H a=none)->Heap.SameBut a s.heap h'->lQ X.prog X.w H h':=fun {a h'} ha hs b ob e=>by
  obtain ⟨_,_,J9⟩:=ha
  refine (I.bZ b ob e).vH (fun c w' hc q=>(hs.2 c ?_).trans q) (fun _ q=>q) fun _ _ q=>q
  rintro rfl
  rcases hc with rfl | hc
  ·rw[J9]at e;cases e
  ·rw[J9]at hc;cases hc
 rcases hx with hk | hk
 ·refine wpAny_storeName_local hk hn (fun h' Se hs=>?_) TC
  obtain ⟨oL,_,_,Hr,_⟩:=id hn
  refine h _ ⟨I.ok,I.os,I.bare,⟨fun b o e n hb hx=>?_,fun b o e n hb hx=>?_,I.base.free,fun b o e hx=>?_,I.base.jR,I.base.oF,I.base.tJ⟩,⟨_,Se,fun j y v' e1 e2 e3=>?_⟩,fun y c e=>?_,I.free,I.iW,fun p hp=>?_,tracked ⟨oL,Hr,I.free⟩ hs,by simpa using I.len⟩ ⟨_,hs, .inl rfl⟩
  ·exact (hs.2 b (Qaq (Qap (Qag e) I.ok.above))).trans (I.base.keep b o e n hb hx)
  ·obtain ⟨sl,e1⟩:=I.base.slot b o e n hb hx
   exact ⟨sl,(hs.2 b (Qaq (Qap (Qag e) I.ok.above))).trans e1⟩
  ·obtain ⟨o',e1⟩:=I.base.there b o e hx
   exact ⟨o',(hs.2 b (Qaq (Qap (Qag e) I.ok.above))).trans e1⟩
  ·by_cases hj:j=i
   ·subst hj
    rw[hi]at e1;cases e1
    rw[List.getElem?_set_self VV]at e2
    cases e2
    exact ⟨u,r, .inl ⟨hk,by simp⟩⟩
   ·rw[List.getElem?_set_ne (Ne.symm hj)]at e2
    obtain ⟨u',r',q⟩:=hl j y v' e1 e2 e3
    refine ⟨u',r',?_⟩
    rcases q with ⟨k,e⟩ | ⟨k,c,e,z⟩
    ·refine .inl ⟨k,?_⟩
     have:y≠x:=fun e=>hj (vI hN e1 (e▸hi))
     simp[this,e]
    ·exact .inr ⟨k,c,e,z.sameBut hs (La y c e)⟩
  ·obtain ⟨w',z⟩:=I.cell y c e
   exact ⟨w',z.sameBut hs (La y c e)⟩
  ·obtain ⟨e,n,ne,nf,d⟩:=I.pin p hp
   exact ⟨(hs.2 p.1 ne).trans e,n,ne,nf,d⟩
 ·have TF:X.fn x=true:=by
   rcases hf with z | z
   ·exact z
   ·rw[z]at hk;cases hk
  obtain ⟨c,hc⟩:=I.ok.has x (.inl hk)
  obtain ⟨w',z⟩:=I.cell x c hc
  refine wpAny_storeName_cell I.ok.kind hk hc z (fun h' qO hs=>?_)
  obtain ⟨oc,VW,TH⟩:=id z
  refine h { s with heap:=h' } ⟨I.ok,I.os,I.bare,⟨fun b o e n hb hx=>?_,fun b o e n hb hx=>?_,I.base.free,fun b o e hx=>?_,I.base.jR,I.base.oF,I.base.tJ⟩,⟨m,hn.sameBut hs (Ne.symm (La x c hc)),fun j y v' e1 e2 e3=>?_⟩,fun y c' e=>?_,I.free,I.iW,fun p hp=>?_,tracked ⟨oc,VW,I.iW x c hc⟩ hs,by simpa using I.len⟩ ⟨c,hs, .inr hc⟩
  ·exact (hs.2 b (Qaq (Qap (Qag e) (I.ok.PR x c TF hc)))).trans (I.base.keep b o e n hb hx)
  ·obtain ⟨sl,e1⟩:=I.base.slot b o e n hb hx
   exact ⟨sl,(hs.2 b (Qaq (Qap (Qag e) (I.ok.PR x c TF hc)))).trans e1⟩
  ·obtain ⟨o',e1⟩:=I.base.there b o e hx
   exact ⟨o',(hs.2 b (Qaq (Qap (Qag e) (I.ok.PR x c TF hc)))).trans e1⟩
  ·by_cases hj:j=i
   ·subst hj
    rw[hi]at e1;cases e1
    rw[List.getElem?_set_self VV]at e2
    cases e2
    exact ⟨u,r, .inr ⟨.inl hk,c,hc,qO⟩⟩
   ·rw[List.getElem?_set_ne (Ne.symm hj)]at e2
    obtain ⟨u',r',q⟩:=hl j y v' e1 e2 e3
    refine ⟨u',r',?_⟩
    rcases q with q | ⟨k,c',e,z'⟩
    ·exact .inl q
    ·refine .inr ⟨k,c',e,z'.sameBut hs ?_⟩
     rintro rfl
     exact hj (vI hN e1 (I.ok.inj _ _ _ e hc▸hi))
  ·by_cases NY:c'=c
   ·subst NY;exact ⟨_,qO⟩
   ·obtain ⟨w2,z2⟩:=I.cell y c' e
    exact ⟨w2,z2.sameBut hs NY⟩
  ·obtain ⟨e,n,ne,nf,d⟩:=I.pin p hp
   refine ⟨(hs.2 p.1 ?_).trans e,n,ne,nf,d⟩
   intro q
   rw[q,VW]at e
   have q':oc=p.2:=Qan e
   exact d w' (by rw[<-q'];exact TH)
theorem gO {M:Model} {A:Around} {E:Value->Shared->Prop} {i:Nat} {x:Str} {v:V} {u:Value} {Q:Unit->Shared->Prop} (I:Inv X pins σ H s) (hN:X.N.Nodup) (hi:X.N[i]? =some x) (hx:Loc X.env.scope x) (r:RelV v u)
  (h: ∀s',Inv X pins (σ.set i (some v)) H s'->Q () s') (hf:X.fn x=true\/X.env.scope.names.lookup x=some .local:=by first | exact .inl rfl | exact .inr rfl | assumption):wpAny M A (storeName X.env x u) Q E s:=
 BP I hN hi hx r (fun s' I' _=>h s' I') hf
theorem Inv.PX {s':Shared} {ch:List Addr} (I:Inv X pins σ H s) (ho:s'.os=s.os) (u:Un (Ak X.stack) ch H H' s.heap s'.heap) (bZ:lQ X.prog X.w H' s'.heap) (hg:AllBare s'.gens)
  (GY: ∀b∈ch,(b∈X.ex\/X.s₀.heap.objs.size<=b)/\b≠X.env.locals/\(∀x c,X.env.cells.lookup x=some c->c≠b)/\ ∀p∈X.pn++pins,p.1≠b):Inv X pins σ H' s':=by
 obtain ⟨h',g',d',t',o'⟩:=s'
 have e:o'=s.os:=ho
 subst e
 exact I.call (g':=g') (t':=t') (d':=d') u bZ hg GY
end
abbrev XK:=Value->Option Addr->Hp->Prop
abbrev St:=List (Option V)
abbrev VK:=V->Hp->Prop
abbrev TE:=St->Hp->VK->Prop
abbrev TT:=St->Hp->(Bool->Hp->Prop)->Prop
abbrev TA:=St->Hp->(List V->Hp->Prop)->Prop
structure Ends where
 nx:St->Hp->Prop
 rt:VK
 bk:St->Hp->Prop:=fun _ _=>False
 ct:St->Hp->Prop:=fun _ _=>False
abbrev TS:=Ends->St->Hp->Prop
def EP (X:Cx) (pins:List (Addr×Obj)) (σ:St) (Q:VK) (u:Value) (s':Shared):Prop:= ∃v H',Inv X pins σ H' s'/\RelV v u/\Q v H'
def TP (X:Cx) (pins:List (Addr×Obj)) (σ:St) (Q:Bool->Hp->Prop) (b:Bool) (s':Shared):Prop:= ∃H',Inv X pins σ H' s'/\Q b H'
def AP (X:Cx) (pins:List (Addr×Obj)) (σ:St) (Q:List V->Hp->Prop) (us:List Value) (s':Shared):Prop:= ∃vs H',Inv X pins σ H' s'/\Vals vs us/\Q vs H'
def SP (X:Cx) (pins:List (Addr×Obj)) (D:Ends) (f:Flow) (s':Shared):Prop:=
 match f with
 | .next=> ∃σ' H',Inv X pins σ' H' s'/\D.nx σ' H'
 | .brk=> ∃σ' H',Inv X pins σ' H' s'/\D.bk σ' H'
 | .cont=> ∃σ' H',Inv X pins σ' H' s'/\D.ct σ' H'
 | .ret u=> ∃v σ' H',Inv X pins σ' H' s'/\RelV v u/\D.rt v H'
def PE (X:Cx) (e:Expr) (t:TE):Prop:=
 ∀(pins:List (Addr×Obj)) (s:Shared) (σ:St) (H:Hp) (Q:VK),Inv X pins σ H s->t σ H Q->wpAny (model X.prog X.w) X.A (eval e X.env) (EP X pins σ Q) X.xe s
def PT (X:Cx) (e:Expr) (t:TT):Prop:=
 ∀(pins:List (Addr×Obj)) (s:Shared) (σ:St) (H:Hp) (Q:Bool->Hp->Prop),Inv X pins σ H s->t σ H Q->wpAny (model X.prog X.w) X.A (isTrue e X.env (eval e X.env)) (TP X pins σ Q) X.xe s
def PW (X:Cx) (e:Expr) (t:TT):Prop:=
 ∀(whole:Sem Value) (pins:List (Addr×Obj)) (s:Shared) (σ:St) (H:Hp) (Q:Bool->Hp->Prop),Inv X pins σ H s->t σ H Q->wpAny (model X.prog X.w) X.A (isTrue e X.env whole) (TP X pins σ Q) X.xe s
theorem PW.pt {X:Cx} {e:Expr} {t:TT} (h:PW X e t):PT X e t:=h _
def PA (X:Cx) (es:List Expr) (t:TA):Prop:=
 ∀(pos:Pos) (pins:List (Addr×Obj)) (s:Shared) (σ:St) (H:Hp) (Q:List V->Hp->Prop),Inv X pins σ H s->t σ H Q->wpAny (model X.prog X.w) X.A (spliced (backTo pos (starEach es X.env))) (AP X pins σ Q) X.xe s
def PS (X:Cx) (st:Stmt) (t:TS):Prop:=
 ∀(pins:List (Addr×Obj)) (s:Shared) (σ:St) (H:Hp) (D:Ends),Inv X pins σ H s->t D σ H->wpAny (model X.prog X.w) X.A (exec st X.env) (SP X pins D) X.xe s
def yf (X:Cx) (st:List Stmt) (t:TS):Prop:=
 ∀(pins:List (Addr×Obj)) (s:Shared) (σ:St) (H:Hp) (D:Ends),Inv X pins σ H s->t D σ H->wpAny (model X.prog X.w) X.A (execs st X.env) (SP X pins D) X.xe s
theorem cy {α:Type} {t:Sem α} {Q Q':α->Shared->Prop} {M:Model} {A:Around} {E:Value->Shared->Prop} {s:Shared} (h:wpAny M A t Q E s) (hQ: ∀a s,Q a s->Q' a s):wpAny M A t Q' E s:=wpAny_mono h hQ fun _ _ x=>x
section
variable {X:Cx}
def Ld (i:Nat):TE:=fun σ H Q=> ∃v,σ[i]? =some (some v)/\Q v H
def tC (v:V):TE:=fun _ H Q=>Q v H
theorem Le {i:Nat} {x:Str} {pos:Pos} (hN:X.N[i]? =some x) (hv:PQ X.env.scope x) (hd:(x==("__debug__":Str))=false:=by decide) (oH:(x==("__classdict__":Str))=false:=by decide):PE X (.Name x pos) (Ld i):=by
 walk_at"g"
 obtain ⟨v,e,h⟩:=h
 obtain ⟨m,hn,hl⟩:=I.loc
 obtain ⟨u,r,l⟩:=hl i x v hN e hv
 have fin:EP X pins σ Q u s:=⟨v,H,I,r,h⟩
 rcases l with ⟨hk,hm⟩ | ⟨hk,c,hc,gP⟩
 ·exact wpAny_Name (wpAny_loadName_local I.ok.kind hk hn hm fin) hd
 ·rcases hk with hk | hk
  ·exact wpAny_Name (wpAny_loadName_cell I.ok.kind hk hc gP fin) hd
  ·exact wpAny_Name (wpAny_loadName_free I.ok.kind hk hc gP fin oH) hd
theorem ai {i j pos}:PE X (.Constant (.int i) j pos) (tC (.int i)):=fun _ _ _ H _ I h=>wpAny_Constant_int ⟨.int i,H,I.tok _,⟨_,rfl⟩,h⟩
theorem rA {b j pos}:PE X (.Constant (.bool b) j pos) (tC (.bl b)):=fun _ _ _ H _ I h=>Constant_bool ⟨.bl b,H,I,rfl,h⟩
theorem Lf {x j pos}:PE X (.Constant (.str x) j pos) (tC (.str x)):=fun _ _ _ H _ I h=>Calls.Constant_str ⟨.str x,H,I.tok _,⟨_,rfl⟩,h⟩
def Gl (X:Cx) (x:Str):Prop:=X.env.kindOf x=some .globalImplicit
theorem tL {E:Value->Shared->Prop} {pins:List (Addr×Obj)} {s:Shared} {σ:St} {H:Hp} {x:Str} {u:Value} {pos:Pos} {Q:Value->Shared->Prop} (I:Inv X pins σ H s) (hg:Gl X x) (hm:X.mg x=some u) (h:Q u s)
  (hd:(x==("__debug__":Str))=false:=by decide):wpAny (model X.prog X.w) X.A (eval (.Name x pos) X.env) Q E s:=
 Calls.Name_function_global I.ok.kind hg (Calls.loadGlobal_global (by rw[I.ok.glob];exact I.mod.glob.keeps I.bk) hm h) hd
theorem fR {E:Value->Shared->Prop} {pins:List (Addr×Obj)} {s:Shared} {σ:St} {H:Hp} {x:Str} {u:Value} {pos:Pos} {Q:Value->Shared->Prop} (I:Inv X pins σ H s) (hg:Gl X x) (hm:X.mg x=none) (hv:bootBuiltins x=some u) (h:Q u s)
  (hn:x≠"__name__":=by decide) (hd:(x==("__debug__":Str))=false:=by decide):wpAny (model X.prog X.w) X.A (eval (.Name x pos) X.env) Q E s:=by
 obtain ⟨mb,h1,h2⟩:=I.mod.blt
 exact Calls.Name_function_global I.ok.kind hg (Calls.loadGlobal_builtin (by rw[I.ok.glob];exact I.mod.glob.keeps I.bk) hm (by rw[I.ok.blt];exact h1.keeps I.bk) ((h2 x hn).trans hv) h) hd
theorem An {x:Str} {v:V} {u:Value} {pos:Pos} (hg:Gl X x) (hm:X.mg x=some u) (r:RelV v u) (hd:(x==("__debug__":Str))=false:=by decide):PE X (.Name x pos) (tC v):=
 fun _ _ _ H _ I h=>tL I hg hm ⟨v,H,I,r,h⟩ hd
theorem tM {x:Str} {v:V} {u:Value} {pos:Pos} (hg:Gl X x) (hm:X.mg x=none) (hv:bootBuiltins x=some u) (r:RelV v u) (hn:x≠"__name__":=by decide) (hd:(x==("__debug__":Str))=false:=by decide):PE X (.Name x pos) (tC v):=
 fun _ _ _ H _ I h=>fR I hg hm hv ⟨v,H,I,r,h⟩ hn hd
variable {a b:Expr} {ta tb:TE} {pos:Pos}
def tB (t:TE):TT:=fun σ H Q=>t σ H fun x H1=> ∃c,x= .bl c/\Q c H1
theorem eM {e:Expr} {t:TE} (h:PE X e t) (he: ∀whole,isTrue e X.env whole=(do let v <-whole;standAt e.pos;holding [v] (truthy v)):=by intro _;rfl):PT X e (tB t):=by
 intro pins s σ H Q I hw
 refine isTrue_plain (cy (h pins s σ H _ I hw) fun v s1 ⟨x,H1,I1,r1,q1⟩=>?_) (he _)
 obtain ⟨d,rfl,q⟩:=q1
 cases r1
 exact wpAny_truthy_bool ⟨H1,I1,q⟩
variable {tA Sf:TT} {rest:List Expr}
def TJ (t u:TT):TT:=fun σ H Q=>t σ H fun c H1=>if c=true then u σ H1 Q else Q false H1
def Xv (t u:TT):TT:=fun σ H Q=>t σ H fun c H1=>if c=true then Q true H1 else u σ H1 Q
def TK (t:TT):TT:=fun σ H Q=>t σ H fun c H1=>Q (!c) H1
theorem dF (ha:PT X a tA):PW X (.BoolOp .And [a] pos) tA:=by
 intro wh pins s σ H Q I h
 refine isTrue_and (cy (ha pins s σ H Q I h) fun c s1 e=>?_)
 cases c with
 | true=>exact isTrue_and_nil e
 | false=>exact e
theorem tN (ha:PT X a tA):PW X (.BoolOp .Or [a] pos) tA:=by
 intro wh pins s σ H Q I h
 refine isTrue_or (cy (ha pins s σ H Q I h) fun c s1 e=>?_)
 cases c with
 | false=>exact isTrue_or_nil e
 | true=>exact e
theorem eN (ha:PT X a tA) (hb:PW X (.BoolOp .And (b::rest) pos) Sf):PW X (.BoolOp .And (a::b::rest) pos) (TJ tA Sf):=by
 intro wh pins s σ H Q I h
 refine isTrue_and (cy (ha pins s σ H _ I h) fun c s1 ⟨H1,I1,q1⟩=>?_)
 cases c with
 | true=>exact hb wh pins s1 σ H1 Q I1 q1
 | false=>exact ⟨H1,I1,q1⟩
theorem rB (ha:PT X a tA) (hb:PW X (.BoolOp .Or (b::rest) pos) Sf):PW X (.BoolOp .Or (a::b::rest) pos) (Xv tA Sf):=by
 intro wh pins s σ H Q I h
 refine isTrue_or (cy (ha pins s σ H _ I h) fun c s1 ⟨H1,I1,q1⟩=>?_)
 cases c with
 | true=>exact ⟨H1,I1,q1⟩
 | false=>exact hb wh pins s1 σ H1 Q I1 q1
theorem yg (ha:PT X a tA):PT X (.UnaryOp .Not a pos) (TK tA):=by
 walk_at"g"
 exact isTrue_not (ha pins s σ H (fun c H1=>Q (!c) H1) I h)
def PY (ta tb:TE):TE:=fun σ H Q=>ta σ H fun x H1=> ∃c,x= .bl c/\if c=true then tb σ H1 Q else Q (.bl false) H1
theorem Lg {op} {t:TE} (h:PE X a t):PE X (.BoolOp op [a] pos) t:=fun pins s σ H Q I hw=>BoolOp_one (h pins s σ H Q I hw)
theorem Lh (ha:PE X a ta) (hb:PE X (.BoolOp .And (b::rest) pos) tb):PE X (.BoolOp .And (a::b::rest) pos) (PY ta tb):=by
 walk_at"g"
 refine BoolOp_and (cy (ha pins s σ H _ I h) fun v s1 ⟨x,H1,I1,r1,q1⟩=>?_)
 obtain ⟨c,rfl,q1⟩:=q1
 cases r1
 refine wpAny_truthy_bool ?_
 cases c with
 | true=>exact hb pins s1 σ H1 Q I1 q1
 | false=>exact ⟨.bl false,H1,I1,rfl,q1⟩
end
def aZ (K:PySem.W.Frag) (H:Hp) (a:Addr) (xs:List V):Prop:=
 Rd H a (.lst xs)\/
  ∃(o:Obj) (its:Array Value) (n:Nat),K.lookup a=some o/\o.cls= .type "list"/\o.dict=none/\o.data= .seq its n/\its.size<=sizeLine/\Vals xs its.toList
def bE (K:PySem.W.Frag) (H:Hp) (a:Addr) (xs:List V):Prop:=
 Rd H a (.tup xs)\/
  ∃(o:Obj) (its:Array Value) (n:Nat),K.lookup a=some o/\o.cls= .type "tuple"/\o.data= .seq its n/\its.size<=sizeLine/\Vals xs its.toList
noncomputable def TL:Value->Option V
 | .none=>some .dY
 | .bool b=>some (.bl b)
 | .int i _=>some (.int i)
 | .str x _=>some (.str x)
 | .bytes b _=>some (.Ai b)
 | .float b _=>some (.K7 b)
 | .ref a=>some (.ref a)
 | .type n=>some (.ty n)
 | _=>none
theorem RelV.abs {x:V} {u:Value} (r:RelV x u):TL u=some x:=by
 cases x with
 | dY=>cases r;rfl
 | bl _=>cases r;rfl
 | int _=>obtain ⟨t,rfl⟩:=r;rfl
 | str _=>obtain ⟨t,rfl⟩:=r;rfl
 | Ai _=>obtain ⟨t,rfl⟩:=r;rfl
 | K7 _=>obtain ⟨t,rfl⟩:=r;rfl
 | ref _=>cases r;rfl
 | ty _=>cases r;rfl
theorem RelV.inj {x y:V} {u:Value} (r:RelV x u) (q:RelV y u):x=y:=Qan (r.abs.symm.trans q.abs)
theorem Vals.inj: ∀{xs ys:List V} {us:List Value},Vals xs us->Vals ys us->xs=ys
 | _,_,_, .nil, .nil=>rfl
 | _,_,_, .cons r t, .cons r' t'=>by rw[r.inj r',Vals.inj t t']
section
variable {X:Cx} {pins:List (Addr×Obj)} {σ:St} {H:Hp} {s:Shared} {a:Addr} {xs ys:List V}
theorem aZ.of {K:PySem.W.Frag} (h:H a=some (.lst xs)):aZ K H a xs:= .inl (.inl h)
theorem bE.of {K:PySem.W.Frag} (h:H a=some (.tup xs)):bE K H a xs:= .inl (.inl h)
theorem Inv.list (I:Inv X pins σ H s) (h:aZ X.K H a xs): ∃its:List Value,Vals xs its/\PlainL s.heap a its.toArray/\xs.length<=sizeLine:=by
 rcases h with h | ⟨o,its,n,hk,hc,hd,hs,hz,r⟩
 ·obtain ⟨z,its,n,r,e⟩:=h.ok I.bZ
  exact ⟨its,r,⟨_,n,e,rfl,rfl,rfl⟩,z⟩
 ·refine ⟨its.toList,r,⟨o,n,I.nZ a o hk,hc,hd,by simpa using hs⟩,?_⟩
  have e:=r.length
  simp only[Qde]at e
  lia
theorem Inv.tuple (I:Inv X pins σ H s) (h:bE X.K H a xs): ∃its:List Value,Vals xs its/\IsTup s.heap a its.toArray/\xs.length<=sizeLine:=by
 rcases h with h | ⟨o,its,n,hk,hc,hs,hz,r⟩
 ·obtain ⟨z,its,r,p⟩:=h.ok I.bZ
  exact ⟨its,r,p,z⟩
 ·refine ⟨its.toList,r,⟨o,I.nZ a o hk,hc,n,by simpa using hs⟩,?_⟩
  have e:=r.length
  simp only[Qde]at e
  lia
theorem Inv.vJ (I:Inv X pins σ H s) (h:aZ X.K H a xs) (h':aZ X.K H a ys):xs=ys:=by
 obtain ⟨its,r,⟨o,n,e,_,_,d⟩,_⟩:=I.list h
 obtain ⟨its',r',⟨o',n',e',_,_,d'⟩,_⟩:=I.list h'
 rw[e]at e';cases e'
 rw[d]at d'
 injection d' with d1 _
 have:its=its':=by simpa using congrArg Array.toList d1
 subst this
 exact r.inj r'
theorem Inv.lT (I:Inv X pins σ H s) (h:bE X.K H a xs) (h':bE X.K H a ys):xs=ys:=by
 obtain ⟨its,r,⟨o,e,_,n,d⟩,_⟩:=I.tuple h
 obtain ⟨its',r',⟨o',e',_,n',d'⟩,_⟩:=I.tuple h'
 rw[e]at e';cases e'
 rw[d]at d'
 injection d' with d1 _
 have:its=its':=by simpa using congrArg Array.toList d1
 subst this
 exact r.inj r'
end
noncomputable abbrev Cx.qP (X:Cx) (E:Value->Shared->Prop):Cx:={ X with xe:=E }
noncomputable abbrev Cx.Sg (X:Cx):Cx:=X.qP fun _ _=>False
theorem Cx.Ok.qP {X:Cx} (ok:X.Ok) (E:Value->Shared->Prop):(X.qP E).Ok:=
 ⟨ok.mod,ok.kind,ok.glob,ok.blt,ok.above,ok.inj,ok.has,ok.PR,ok.hd,ok.frames,ok.Sb,ok.VT,ok.bs,ok.Ho,ok.DR,ok.Hq,ok.nB,ok.K9⟩
theorem Cx.Ok.iX {X:Cx} {E:Value->Shared->Prop} (ok:(X.qP E).Ok):X.Ok:=
 ⟨ok.mod,ok.kind,ok.glob,ok.blt,ok.above,ok.inj,ok.has,ok.PR,ok.hd,ok.frames,ok.Sb,ok.VT,ok.bs,ok.Ho,ok.DR,ok.Hq,ok.nB,ok.K9⟩
section
variable {X:Cx} {pins:List (Addr×Obj)} {σ:St} {H:Hp} {s:Shared} {E:Value->Shared->Prop}
theorem Inv.qP (I:Inv X pins σ H s) (E:Value->Shared->Prop):Inv (X.qP E) pins σ H s:=⟨I.ok.qP E,I.os,I.bare,I.base,I.loc,I.cell,I.free,I.iW,I.pin,I.bZ,I.len⟩
theorem Inv.iX (I:Inv (X.qP E) pins σ H s):Inv X pins σ H s:=⟨I.ok.iX,I.os,I.bare,I.base,I.loc,I.cell,I.free,I.iW,I.pin,I.bZ,I.len⟩
theorem SP.iX {D:Ends} {f:Flow} {s':Shared} (h:SP (X.qP E) pins D f s'):SP X pins D f s':=by
 cases f with
 | next=>obtain ⟨σ',H',I,q⟩:=h;exact ⟨σ',H',I.iX,q⟩
 | brk=>obtain ⟨σ',H',I,q⟩:=h;exact ⟨σ',H',I.iX,q⟩
 | cont=>obtain ⟨σ',H',I,q⟩:=h;exact ⟨σ',H',I.iX,q⟩
 | ret u=>obtain ⟨v,σ',H',I,r,q⟩:=h;exact ⟨v,σ',H',I.iX,r,q⟩
theorem yf.Sg {st:List Stmt} {t:TS} (h:yf X.Sg st t):yf X st t:=fun pins s σ H D I hw=>
 wpAny_mono (h pins s σ H D (I.qP _) hw) (fun _ _ q=>q.iX) fun _ _ z=>False.elim z
end
section
variable {X:Cx} {st:Stmt} {rest:List Stmt} {t u:TS} {e:Expr} {te:TE} {pos:Pos}
def PZ:TS:=fun D σ H=>D.nx σ H
def yh (t u:TS):TS:=fun D σ H=>t { D with nx:=u D } σ H
theorem aV:yf X [] PZ:=fun _ _ σ H _ I h=>wpAny_execs_nil ⟨σ,H,I,h⟩
theorem ah (h1:PS X st t) (h2:yf X rest u):yf X (st::rest) (yh t u):=by
 walk_at"A"
 refine wpAny_execs_cons (cy (h1 pins s σ H { D with nx:=u D } I h) fun f s1 q=>?_)
 cases f with
 | next=>
  obtain ⟨σ',H',I',q⟩:=q
  exact h2 pins s1 σ' H' D I' q
 | ret v=>exact q
 | brk=>exact q
 | cont=>exact q
theorem aj (h1:PS X st t):yf X [st] t:=by
 walk_at"A"
 refine wpAny_execs_cons (cy (h1 pins s σ H D I h) fun f s1 q=>?_)
 cases f with
 | next=>exact wpAny_execs_nil q
 | ret v=>exact q
 | brk=>exact q
 | cont=>exact q
theorem Inv.quiet {pins:List (Addr×Obj)} {σ:St} {H:Hp} {s:Shared} (I:Inv X pins σ H s):interactive X.env=false:=by simp[interactive,I.ok.kind]
def P0 (te:TE):TS:=fun D σ H=>te σ H fun _ H1=>D.nx σ H1
theorem bY (he:PE X e te) (hs:swapsWith e none pos.line X.env=pure false:=by rfl):PS X (.Expr e pos) (P0 te):=by
 walk_at"A"
 exact wpAny_Expr_any (cy (he pins s σ H _ I h) fun v s1 ⟨x,H1,I1,r1,q1⟩=>⟨σ,H1,I1,q1⟩) I.quiet hs
def TM (te:TE):TS:=fun D σ H=>te σ H D.rt
theorem aF (he:PE X e te):PS X (.Return (some e) pos) (TM te):=by
 walk_at"A"
 exact wpAny_Return_some (cy (he pins s σ H _ I h) fun v s1 ⟨x,H1,I1,r1,q1⟩=>⟨x,σ,H1,I1,r1,q1⟩)
def TN (c:TT) (t u:TS):TS:=fun D σ H=>c σ H fun b H1=>if b=true then t D σ H1 else u D σ H1
theorem bC {c:Expr} {a b:List Stmt} {tc:TT} (hc:PT X c tc) (ha:yf X a t) (hb:yf X b u):PS X (.If c a b pos) (TN tc t u):=by
 walk_at"A"
 refine wpAny_If (cy (hc pins s σ H _ I h) fun d s1 ⟨H1,I1,q1⟩=>?_)
 cases d with
 | true=>exact ha pins s1 σ H1 D I1 q1
 | false=>exact hb pins s1 σ H1 D I1 q1
end
abbrev TG:=V->St->Hp->(St->Hp->Prop)->Prop
abbrev J_:=List V->St->Hp->(St->Hp->Prop)->Prop
def PG (X:Cx) (target:Expr) (t:TG):Prop:=
 ∀(pins:List (Addr×Obj)) (s:Shared) (σ:St) (H:Hp) (v:V) (u:Value) (Q:St->Hp->Prop),Inv X pins σ H s->RelV v u->t v σ H Q->
  wpAny (model X.prog X.w) X.A (assign target X.env u) (fun _ s'=> ∃σ' H',Inv X pins σ' H' s'/\Q σ' H') X.xe s
def P4 (X:Cx) (ts:List Expr) (t:J_):Prop:=
 ∀(pins:List (Addr×Obj)) (s:Shared) (σ:St) (H:Hp) (vs:List V) (us:List Value) (Q:St->Hp->Prop),Inv X pins σ H s->Vals vs us->t vs σ H Q->
  wpAny (model X.prog X.w) X.A (assignInOrder ((assignEach ts X.env).map (·.2)) us) (fun _ s'=> ∃σ' H',Inv X pins σ' H' s'/\Q σ' H') X.xe s
abbrev Li:=V->V->V->Hp->(Hp->Prop)->Prop
def P5 (X:Cx) (t:Li):Prop:=
 ∀(pins:List (Addr×Obj)) (s:Shared) (σ:St) (H:Hp) (o i v:V) (ov iv u:Value) (Q:Hp->Prop),Inv X pins σ H s->RelV o ov->RelV i iv->RelV v u->t o i v H Q->
  wpAny (model X.prog X.w) X.A (setItem ov iv u) (fun _ s'=> ∃H',Inv X pins σ H' s'/\Q H') X.xe s
abbrev Sh:=V->V->Hp->VK->Prop
def P6 (X:Cx) (op:Operator) (t:Sh):Prop:=
 ∀(pins:List (Addr×Obj)) (s:Shared) (σ:St) (H:Hp) (x y:V) (v u:Value) (Q:VK),Inv X pins σ H s->RelV x v->RelV y u->t x y H Q->
  wpAny (model X.prog X.w) X.A (inplaceOp op v u) (EP X pins σ Q) X.xe s
section
variable {X:Cx} {pos:Pos}
def rC (i:Nat):TG:=fun v σ H Q=>Q (σ.set i (some v)) H
theorem aC {i:Nat} {x:Str} (hN:X.N.Nodup) (hi:X.N[i]? =some x) (hx:Loc X.env.scope x) (hf:X.fn x=true\/X.env.scope.names.lookup x=some .local:=by first | exact .inl rfl | exact .inr rfl | assumption):PG X (.Name x pos) (rC i):=by
 intro pins s σ H v u Q I r h
 exact wpAny_assign_Name (gO I hN hi hx r (fun s' I'=>⟨_,H,I',h⟩) hf)
def TQ:J_:=fun vs σ H Q=>vs=[]/\Q σ H
def P7 (t:TG) (u:J_):J_:=fun vs σ H Q=> ∃v r,vs=v::r/\t v σ H fun σ' H'=>u r σ' H' Q
theorem cJ:P4 X [] TQ:=by
 intro pins s σ H vs us Q I r h
 obtain ⟨e,h⟩:=h
 subst e
 cases r
 exact assignInOrder_nil ⟨σ,H,I,h⟩
theorem aP {e:Expr} {es:List Expr} {t:TG} {u:J_} (h1:PG X e t) (h2:P4 X es u)
  (hs:(assignEach (e::es) X.env).map (·.2)=assign e X.env::(assignEach es X.env).map (·.2):=by rfl):P4 X (e::es) (P7 t u):=by
 intro pins s σ H vs us Q I r h
 obtain ⟨v,vr,e1,h⟩:=h
 subst e1
 cases r with
 | cons r rr=>
  rw[hs]
  refine assignInOrder_cons (cy (h1 pins s σ H _ _ _ I r h) fun _ s1 ⟨σ1,H1,I1,q1⟩=>?_)
  exact h2 pins s1 σ1 H1 _ _ Q I1 rr q1
def P8 (K:PySem.W.Frag) (n:Nat) (t:J_):TG:=fun v σ H Q=> ∃a xs,v= .ref a/\bE K H a xs/\xs.length=n/\t xs σ H Q
theorem Lj {es:List Expr} {k:Nat} {t:J_} {n:Nat} (hc:X.calm=true) (h:P4 X es t)
  (hn:(assignEach es X.env).length=n:=by rfl) (nC:(assignEach es X.env).findIdx? (·.1)=none:=by rfl):PG X (.Tuple es k pos) (P8 X.K n t):=by
 intro pins s σ H v u Q I r hw
 obtain ⟨a,xs,e1,hq,hl,hw⟩:=hw
 subst e1
 cases r
 obtain ⟨its,rv,ht,hz⟩:=I.tuple hq
 refine assign_Tuple_tuple (I.ok.hd hc) ht (by simp[hn, <-hl,rv.length]) nC fun h' hx=>?_
 have I1:Inv X pins σ H { s with heap:=h' }:=I.kept (t':=s.toks) fun b o e=>hx b o (Qaq (Qag e)) e
 exact h pins _ σ H xs _ Q I1 (by simpa using rv) hw
def TR (to ti:TE) (t:Li):TG:=fun v σ H Q=>to σ H fun o H1=>ti σ H1 fun i H2=>t o i v H2 fun H3=>Q σ H3
theorem DS {o i:Expr} {to ti:TE} {t:Li} (ho:PE X o to) (hi:PE X i ti) (hs:P5 X t)
  (ha: ∀v,assign (.Subscript o i pos) X.env v=(do
   let ov <-holding [v] (eval o X.env)
   let iv <-holding [v,ov] (eval i X.env)
   standAt pos
   holding [v,ov,iv] (setItem ov iv v)
   release [v,ov,iv] []):=by intro _;rfl):PG X (.Subscript o i pos) (TR to ti t):=by
 intro pins s σ H v u Q I r h
 rw[ha]
 refine wpAny_bind (wpAny_holding (cy (ho pins s σ H _ I h) fun ov s1 ⟨x,H1,I1,r1,q1⟩=>?_))
 refine wpAny_bind (wpAny_holding (cy (hi pins s1 σ H1 _ I1 q1) fun iv s2 ⟨y,H2,I2,r2,q2⟩=>?_))
 refine wpAny_bind (wpAny_standAt (wpAny_bind (wpAny_holding (cy (hs pins s2 σ H2 x y v ov iv u _ I2 r1 r2 r q2) fun _ s3 ⟨H3,I3,q3⟩=>?_))))
 exact wpAny_release ⟨σ,H3,I3,q3⟩
def Hs (te:TE) (g:TG):TS:=fun D σ H=>te σ H fun x H1=>g x σ H1 D.nx
theorem oI {tg e:Expr} {te:TE} {g:TG} (he:PE X e te) (hg:PG X tg g) (hs:swapsWithSole [tg] e pos.line X.env=pure false:=by rfl) (hw:swappedStores [tg] e X.env=pure none:=by rfl)
  (h1:(assignEach [tg] X.env).map (·.2)=[assign tg X.env]:=by rfl):PS X (.Assign [tg] e pos) (Hs te g):=by
 walk_at"A"
 refine wpAny_Assign_stores (cy (he pins s σ H _ I h) fun v s1 ⟨x,H1,I1,r1,q1⟩=>?_) hs hw
 rw[h1]
 exact cy (hg pins s1 σ H1 x v _ I1 r1 q1) fun _ s2 q=>q
theorem aq {i:Nat} {x:Str} {e:Expr} {te:TE} {pos':Pos} (hN:X.N.Nodup) (hi:X.N[i]? =some x) (hx:Loc X.env.scope x) (he:PE X e te) (hs:swapsWith e (some (.Name x pos')) pos.line X.env=pure false:=by rfl) (hf:X.fn x=true\/X.env.scope.names.lookup x=some .local:=by first | exact .inl rfl | exact .inr rfl | assumption):
  PS X (.Assign [.Name x pos'] e pos) (Hs te (rC i)):=by
 walk_at"A"
 refine wpAny_Assign_Name (cy (he pins s σ H _ I h) fun v s1 ⟨y,H1,I1,r1,q1⟩=>?_) hs
 exact gO I1 hN hi hx r1 (fun s2 I2=>⟨_,H1,I2,q1⟩) hf
def TU (i j:Nat) (ta:TA):TS:=fun D σ H=>ta σ H fun vs H1=> ∃v w,vs=[v,w]/\D.nx ((σ.set i (some v)).set j (some w)) H1
theorem yi {i j:Nat} {x y:Str} {a b:Expr} {ta:TA} {px py pt:Pos} {kt k2 TV} (hc:X.calm=true) (hN:X.N.Nodup) (hi:X.N[i]? =some x) (hj:X.N[j]? =some y) (yj:i≠j)
  (hx:X.env.scope.names.lookup x=some .local) (hy:X.env.scope.names.lookup y=some .local) (ha:PA X [a,b] ta)
  (hw:swappedStores [.Tuple [.Name x px, .Name y py] kt pt] (.Tuple [a,b] k2 TV) X.env=pure (some [x,y]))
  (hs:swapsWithSole [.Tuple [.Name x px, .Name y py] kt pt] (.Tuple [a,b] k2 TV) pos.line X.env=pure false:=by rfl):
  PS X (.Assign [.Tuple [.Name x px, .Name y py] kt pt] (.Tuple [a,b] k2 TV) pos) (TU i j ta):=by
 walk_at"A"
 rw[exec_Assign_arm]
 refine wpAny_bind (wpAny_standAt ?_)
 rw[hs]
 walk_at"n"
 rw[if_neg (by decide)]
 refine wpAny_bind (Tuple_ (cy (ha _ pins s σ H _ I h) fun us s1 ⟨vs,H1,I1,r1,q1⟩=>?_))
 obtain ⟨v,w,e1,q1⟩:=q1
 subst e1
 obtain ⟨u1,u2,rfl,rv,BQ⟩: ∃u1 u2,us=[u1,u2]/\RelV v u1/\RelV w u2:=by
  cases r1 with
  | cons p q=>
   cases q with
   | cons p' q'=>
    cases q'
    exact ⟨_,_,rfl,p,p'⟩
 refine wpAny_newObj_type ?_ (by show 2<=sizeLine;decide)
 have I2:Inv X pins σ H1 { s1 with heap:=s1.heap.push { cls:= .type "tuple",data:= .seq [u1,u2].toArray } }:=I1.kept (t':=s1.toks) fun b o e=>N5 _ e
 rw[hw]
 walk_at"n"
 show wpAny (model X.prog X.w) X.A (do rule "assign.swapped-stores";let items <-unpackItems (.ref s1.heap.objs.size) 2 none;assignInOrder [fun v=>bindName X.env y v,fun v=>bindName X.env x v] items.reverse;pure Flow.next) _ _ _
 refine wpAny_bind (wpAny_rule (wpAny_bind (unpackItems_tuple (items:= #[u1,u2]) (I.ok.hd hc) (IsTup.new s1.heap _) fun h' NZ=>?_)))
 have I3:=I2.kept (h':=h') (t':=s1.toks) fun b o e=>NZ b o (Qaq (Qag e)) e
 show wpAny _ _ (assignInOrder [fun v=>bindName X.env y v,fun v=>bindName X.env x v] [u2,u1] >>= fun _=>pure Flow.next) _ _ _
 refine wpAny_bind (assignInOrder_cons (wpAny_bindName (gO I3 hN hj (.inl hy) BQ (fun s2 I4=>?_) (.inr hy))))
 refine assignInOrder_cons (wpAny_bindName (gO I4 hN hi (.inl hx) rv (fun s3 I5=>assignInOrder_nil (wpAny_pure ?_)) (.inr hx)))
 rw[List.set_comm _ _ (Ne.symm yj)]at I5
 exact ⟨_,H1,I5,q1⟩
def TX (i:Nat) (te:TE) (ti:Sh):TS:=fun D σ H=> ∃x,σ[i]? =some (some x)/\te σ H fun y H1=>ti x y H1 fun z H2=>D.nx (σ.set i (some z)) H2
theorem lU {i:Nat} {x:Str} {e:Expr} {te:TE} {op:Operator} {ti:Sh} {pos':Pos} (hN:X.N.Nodup) (hi:X.N[i]? =some x) (hx:Loc X.env.scope x) (he:PE X e te) (ho:P6 X op ti) (hf:X.fn x=true\/X.env.scope.names.lookup x=some .local:=by first | exact .inl rfl | exact .inr rfl | assumption):
  PS X (.AugAssign (.Name x pos') op e pos) (TX i te ti):=by
 walk_at"A"
 obtain ⟨v,e1,h⟩:=h
 obtain ⟨m,hn,hl⟩:=I.loc
 have Xw:PQ X.env.scope x:=by rcases hx with k | k;exact .inl k;exact .inr (.inl k)
 obtain ⟨u,r,l⟩:=hl i x v hi e1 Xw
 refine wpAny_AugAssign_Name ?_
 have go:wpAny (model X.prog X.w) X.A (eval e X.env) (fun w s₂=>wpAny (model X.prog X.w) X.A (inplaceOp op u w) (fun r s₃=>wpAny (model X.prog X.w) X.A (storeName X.env x r) (fun _=>SP X pins D .next) X.xe s₃) X.xe s₂) X.xe s:=by
  refine cy (he pins s σ H _ I h) fun w s1 ⟨y,H1,I1,r1,q1⟩=>?_
  refine cy (ho pins s1 σ H1 v y u w _ I1 r r1 q1) fun z s2 ⟨zv,H2,I2,r2,q2⟩=>?_
  exact gO I2 hN hi hx r2 (fun s3 I3=>⟨_,H2,I3,q2⟩) hf
 rcases l with ⟨hk,hm⟩ | ⟨hk,c,hc,gP⟩
 ·exact wpAny_loadName_local I.ok.kind hk hn hm go
 ·rcases hk with hk | hk
  ·exact wpAny_loadName_cell I.ok.kind hk hc gP go
  ·rcases hx with k | k
   ·have:X.env.scope.names.lookup x=some .free:=hk
    rw[k]at this;cases this
   ·have:X.env.scope.names.lookup x=some .free:=hk
    rw[k]at this;cases this
def VX (f:Int->Int->Int):Sh:=fun x y H Q=> ∃i j,x= .int i/\y= .int j/\Q (.int (f i j)) H
theorem yk:P6 X .Add (VX fun i j=>i+j):=by
 intro pins s σ H x y v u Q I r1 r2 h
 obtain ⟨i,j,e1,e2,q⟩:=h
 subst e1;subst e2
 obtain ⟨t,rfl⟩:=r1
 obtain ⟨t',rfl⟩:=r2
 exact iadd_int ⟨.int _,H,I.tok _,⟨_,rfl⟩,q⟩
theorem Lk:P6 X .Sub (VX fun i j=>i - j):=by
 intro pins s σ H x y v u Q I r1 r2 h
 obtain ⟨i,j,e1,e2,q⟩:=h
 subst e1;subst e2
 obtain ⟨t,rfl⟩:=r1
 obtain ⟨t',rfl⟩:=r2
 exact isub_int ⟨.int _,H,I.tok _,⟨_,rfl⟩,q⟩
end
structure It where
 go:Nat->Hp->Prop
 DT:Nat->Hp->V->Hp->Prop
 stop:Nat->Hp->Prop
def nE (X:Cx) (pins:List (Addr×Obj)) (H:Hp) (b:Addr):Prop:=
 H b=none/\b≠X.env.locals/\b∉X.fs/\(b∈X.ex\/X.s₀.heap.objs.size<=b)/\(∀x c,X.env.cells.lookup x=some c->c≠b)/\ ∀p∈X.pn++pins,p.1≠b
theorem Inv.nF {X:Cx} {pins:List (Addr×Obj)} {σ:St} {H H':Hp} {s:Shared} {b:Addr} (I:Inv X pins σ H s) (hb:s.heap.objs.size<=b) (hn:H' b=none):nE X pins H' b:=by
 refine ⟨hn,Qfd (Qap I.lt hb),I.K_ hb, .inr (Qa8 I.sz hb),fun x c e z=>?_,fun p hp z=>?_⟩
 ·obtain ⟨v,q⟩:=I.cell x c e
  exact absurd (Qap q.lt (by rw[z];exact hb)) (Qbd _)
 ·exact absurd (Qap (Qag (I.pin p hp).1) (by rw[z];exact hb)) (Qbd _)
structure Turn (P:Program) (w:World) (K:PySem.W.Frag) (tg:Expr) (J:It) (fp:List Addr) (it:Addr) (tn:Nat->Heap->Prop):Prop where
 mem:it∈fp
 obj: ∀i h,tn i h-> ∀b∈fp, ∃o,h.get? b=some o/\ ∀v,o.data≠ .cell v
 keep: ∀i h h',tn i h->(∀b∈fp, ∀o,h.get? b=some o->h'.get? b=some o)->tn i h'
 item: ∀(X:Cx),X.prog=P->X.w=w->X.K=K->X.calm=true-> ∀(i:Nat) (pins:List (Addr×Obj)) (s:Shared) (σ:St) (H:Hp) (E:Value->Shared->Prop),Inv X pins σ H s->(∀b∈fp,nE X pins H b)->tn i s.heap->J.go i H->
  wpAny (model P w) X.A (pyNext (.ref it)) (fun r s1=> ∃u,r=some u/\
   wpAny (model P w) X.A (letOwnedTupleGo tg (.ref it) u) (fun _ s2=> ∃x H',Inv X pins σ H' s2/\RelV x u/\J.DT i H x H'/\tn (i+1) s2.heap/\ ∀b∈fp,H' b=none) E s1) E s
 done: ∀(X:Cx),X.prog=P->X.w=w->X.K=K->X.calm=true-> ∀(i:Nat) (pins:List (Addr×Obj)) (s:Shared) (σ:St) (H:Hp) (E:Value->Shared->Prop),Inv X pins σ H s->(∀b∈fp,nE X pins H b)->tn i s.heap->J.stop i H->
  wpAny (model P w) X.A (pyNext (.ref it)) (fun r s1=>r=none/\Inv X pins σ H s1) E s
 self: ∀(A:Around) (i:Nat) (s:Shared) (Q:Value->Shared->Prop) (E:Value->Shared->Prop),tn i s.heap->Q (.ref it) s->wpAny (model P w) A (pyIter (.ref it)) Q E s
abbrev TI:=St->Hp->(It->Hp->Prop)->Prop
def VY (X:Cx) (pins:List (Addr×Obj)) (σ:St) (tg:Expr) (R:It->Hp->Prop) (TY:Value) (s2:Shared):Prop:=
 ∃(it:Addr) (fp:List Addr) (tn:Nat->Heap->Prop) (J:It) (H':Hp),TY= .ref it/\Inv X pins σ H' s2/\Turn X.prog X.w X.K tg J fp it tn/\tn 0 s2.heap/\(∀b∈fp,nE X pins H' b)/\R J H'
def PI (X:Cx) (tg iter:Expr) (wi:TI):Prop:=
 ∀(pins:List (Addr×Obj)) (s:Shared) (σ:St) (H:Hp) (R:It->Hp->Prop),Inv X pins σ H s->wi σ H R->
  wpAny (model X.prog X.w) X.A (eval iter X.env) (fun v s1=>wpAny (model X.prog X.w) X.A (pyIter v) (VY X pins σ tg R) X.xe s1) X.xe s
theorem rD {M:Model} {A:Around} {E:Value->Shared->Prop} {s:Shared} {tg:Expr} {it:Addr} {u:Value} {o:Obj} {n:String} {vs:Array Value} {Q:Unit->Shared->Prop} (ho:s.heap.get? it=some o) (hc:o.cls= .type n) (hd:o.data= .fields vs)
  (hn:["enumerate","zip","dict_itemiterator","dict_reverseitemiterator","odict_iterator","itertools.zip_longest","itertools.pairwise"].contains n=false) (hQ:Q () s):wpAny M A (letOwnedTupleGo tg (.ref it) u) Q E s:=by
 unfold letOwnedTupleGo
 cases tg<;>first
  | exact wpAny_pure hQ
  |(cases u<;>first
    | exact wpAny_pure hQ
    |(refine wpAny_bind (wpAny_load ho ?_)
      rw[hc,hd]
      show wpAny M A (if (["enumerate","zip","dict_itemiterator","dict_reverseitemiterator","odict_iterator","itertools.zip_longest","itertools.pairwise"].contains n&&vs[0]? ==some (rawInt _))=true then _ else _) Q E s
      rw[if_neg (by intro h;rw[hn,Bool.false_and]at h;cases h)]
      exact wpAny_pure hQ))
noncomputable def N3 (K:PySem.W.Frag) (a:Addr):It:=
 ⟨fun i H=> ∃xs x,aZ K H a xs/\xs[i]? =some x,fun i H x H'=>H'=H/\ ∀xs,aZ K H a xs->xs[i]? =some x,fun i H=> ∃xs,aZ K H a xs/\xs.length<=i⟩
noncomputable def TZ (K:PySem.W.Frag) (a:Addr):It:=
 ⟨fun i H=> ∃xs x,bE K H a xs/\xs[i]? =some x,fun i H x H'=>H'=H/\ ∀xs,bE K H a xs->xs[i]? =some x,fun i H=> ∃xs,bE K H a xs/\xs.length<=i⟩
noncomputable def Ka (lo:Int) (n:Nat):It:=⟨fun i _=>i<n,fun i H x H'=>H'=H/\x= .int (lo+i),fun i _=>n<=i⟩
theorem BR {P:Program} {w:World} {K:PySem.W.Frag} {tg:Expr} (a it:Addr):Turn P w K tg (N3 K a) [it] it (fun i h=>h.IsListIter it a i) where
 mem:=by simp
 obj:=fun i h st b hb=>by
  have e:b=it:=by simpa using hb
  subst e
  obtain ⟨o,e,c,d⟩:=st
  walk_at"L"
 keep:=fun i h h' st k=>st.at fun o e=>k it (by simp) o e
 item:=by
  walk_at"b"
  subst hP hw hK
  obtain ⟨xs,x,hq,hx⟩:=hg
  obtain ⟨its,rv,p,hz⟩:=I.list hq
  obtain ⟨u,hu,ru⟩:=rv.get hx
  walk_at"d"
  refine wpAny_pyNext_list_item st p.isList (x:=u) (by simpa using hu) fun h' iO sb=>?_
  have I1:Inv X pins σ H { s with heap:=h' }:=I.turned (t':=s.toks) (fun b o hb e=>(sb.2 b hb).trans e) f0 f1 f3 f4 f5
  obtain ⟨o,e,c,d⟩:=id iO
  exact ⟨u,rfl,rD (s:={ s with heap:=h' }) e c d (by decide) ⟨x,H,I1,ru,⟨rfl,fun ys hy=>by rw[I.vJ hy hq];exact hx⟩,iO,fun b hb=>(hf b hb).1⟩⟩
 done:=by
  walk_at"b"
  subst hP hw hK
  obtain ⟨xs,hq,hx⟩:=hg
  obtain ⟨its,rv,p,hz⟩:=I.list hq
  walk_at"d"
  have hl:=rv.length
  exact wpAny_pyNext_list_end (I.ok.hd hc) st p.isList (by simp;lia) fun h' eb=>⟨rfl,I.turned (t':=s.toks) (fun b o hb e=>eb b o hb e) f0 f1 f3 f4 f5⟩
 self:=fun _ _ _ _ _ st h=>wpAny_pyIter_listiter st h
theorem yl {P:Program} {w:World} {K:PySem.W.Frag} {tg:Expr} (a it:Addr):Turn P w K tg (TZ K a) [it] it (fun i h=>h.IsTupleIter it a i) where
 mem:=by simp
 obj:=fun i h st b hb=>by
  have e:b=it:=by simpa using hb
  subst e
  obtain ⟨o,e,c,d⟩:=st
  walk_at"L"
 keep:=fun i h h' st k=>st.at fun o e=>k it (by simp) o e
 item:=by
  walk_at"b"
  subst hP hw hK
  obtain ⟨xs,x,hq,hx⟩:=hg
  obtain ⟨its,rv,p,hz⟩:=I.tuple hq
  obtain ⟨u,hu,ru⟩:=rv.get hx
  walk_at"d"
  refine wpAny_pyNext_tuple_item st (show s.heap.IsTuple a its.toArray from p) (x:=u) (by simpa using hu) fun h' iO sb=>?_
  have I1:Inv X pins σ H { s with heap:=h' }:=I.turned (t':=s.toks) (fun b o hb e=>(sb.2 b hb).trans e) f0 f1 f3 f4 f5
  obtain ⟨o,e,c,d⟩:=id iO
  exact ⟨u,rfl,rD (s:={ s with heap:=h' }) e c d (by decide) ⟨x,H,I1,ru,⟨rfl,fun ys hy=>by rw[I.lT hy hq];exact hx⟩,iO,fun b hb=>(hf b hb).1⟩⟩
 done:=by
  walk_at"b"
  subst hP hw hK
  obtain ⟨xs,hq,hx⟩:=hg
  obtain ⟨its,rv,p,hz⟩:=I.tuple hq
  walk_at"d"
  have hl:=rv.length
  exact wpAny_pyNext_tuple_end (I.ok.hd hc) st (show s.heap.IsTuple a its.toArray from p) (by simp;lia) fun h' eb=>⟨rfl,I.turned (t':=s.toks) (fun b o hb e=>eb b o hb e) f0 f1 f3 f4 f5⟩
 self:=fun _ _ _ _ _ st h=>wpAny_pyIter_tupleiter st h
theorem ym {P:Program} {w:World} {K:PySem.W.Frag} {tg:Expr} (it:Addr) (lo:Int) (n:Nat):Turn P w K tg (Ka lo n) [it] it (fun i h=>IsRangeIter h it (lo+(i:Nat)*1) ((n:Int) - (i:Nat)) 1) where
 mem:=by simp
 obj:=fun i h st b hb=>by
  have e:b=it:=by simpa using hb
  subst e
  exact ⟨_,st,fun v z=>by
   have z':Data.fields _=Data.cell v:=z
   cases z'⟩
 keep:=fun i h h' st k=>k it (by simp) _ st
 item:=by
  walk_at"b"
  subst hP hw hK
  walk_at"d"
  have W:=Walks.range (prog:=X.prog) (w:=X.w) (I.ok.hd hc) it lo 1 n
  refine W.item i s _ _ hg st fun v h' tk hv iO kk=>?_
  obtain ⟨t,rfl⟩:=hv
  have I1:Inv X pins σ H { s with heap:=h',toks:=tk }:=I.turned (fun b o hb e=>kk b o (by simpa using hb) e) f0 f1 f3 f4 f5
  refine ⟨_,rfl,rD (s:={ s with heap:=h',toks:=tk }) (n:="range_iterator") iO rfl rfl (by decide) ⟨.int (lo+i),H,I1,⟨t,?_⟩,⟨rfl,rfl⟩,iO,fun b hb=>(hf b hb).1⟩⟩
  rw[Int.mul_one]
 done:=by
  walk_at"b"
  subst hP hw hK
  walk_at"d"
  exact wpAny_pyNext_range_end (I.ok.hd hc) st (by have:n<=i:=hg;lia) fun h' eb=>⟨rfl,I.turned (t':=s.toks) (fun b o hb e=>eb b o hb e) f0 f1 f3 f4 f5⟩
 self:=fun _ _ _ _ _ st h=>wpAny_pyIter_rangeiter st h
section
variable {X:Cx} {tg:Expr}
def Kb (K:PySem.W.Frag) (tl:TE):TI:=fun σ H R=>tl σ H fun x H1=> ∃a,x= .ref a/\(∃xs,aZ K H1 a xs)/\R (N3 K a) H1
def P9 (K:PySem.W.Frag) (tl:TE):TI:=fun σ H R=>tl σ H fun x H1=> ∃a,x= .ref a/\(∃xs,bE K H1 a xs)/\R (TZ K a) H1
theorem Ht {l:Expr} {tl:TE} (hl:PE X l tl):PI X tg l (Kb X.K tl):=by
 walk_at"3"
 refine cy (hl pins s σ H _ I h) fun v s1 ⟨x,H1,I1,r1,q1⟩=>?_
 obtain ⟨a,e,⟨xs,hq⟩,q⟩:=q1
 subst e
 cases r1
 obtain ⟨its,rv,p,hz⟩:=I1.list hq
 refine wpAny_pyIter_list p.isList ?_
 refine ⟨s1.heap.objs.size,[s1.heap.objs.size],_,_,H1,rfl,I1.kept (t':=s1.toks) fun b o e=>N5 _ e,BR a _,⟨_,Qal _ rfl,rfl,rfl⟩,fun b hb=>?_,q⟩
 have e:b=s1.heap.objs.size:=by simpa using hb
 subst e
 walk_at"H"
theorem Ll {l:Expr} {tl:TE} (hl:PE X l tl):PI X tg l (P9 X.K tl):=by
 walk_at"3"
 refine cy (hl pins s σ H _ I h) fun v s1 ⟨x,H1,I1,r1,q1⟩=>?_
 obtain ⟨a,e,⟨xs,hq⟩,q⟩:=q1
 subst e
 cases r1
 obtain ⟨its,rv,p,hz⟩:=I1.tuple hq
 refine wpAny_pyIter_tuple (show s1.heap.IsTuple a its.toArray from p) ?_
 refine ⟨s1.heap.objs.size,[s1.heap.objs.size],_,_,H1,rfl,I1.kept (t':=s1.toks) fun b o e=>N5 _ e,yl a _,⟨_,Qal _ rfl,rfl,rfl⟩,fun b hb=>?_,q⟩
 have e:b=s1.heap.objs.size:=by simpa using hb
 subst e
 walk_at"H"
theorem vK {pins:List (Addr×Obj)} {σ:St} {H:Hp} {s:Shared} {R:It->Hp->Prop} {E:Value->Shared->Prop} {lo hi:Int} {t u v:Tok} {tk:Nat} (I:Inv X pins σ H s) (h1: -(2 ^ 62)<=lo) (h2:lo<2 ^ 62) (h3: -(2 ^ 62)<=hi) (h4:hi<2 ^ 62)
  (q:R (Ka lo (hi - lo).toNat) H):wpAny (model X.prog X.w) X.A (pyIter (.ref s.heap.objs.size)) (VY X pins σ tg R) E { s with heap:=s.heap.push { cls:= .type "range",data:= .fields #[.int lo t, .int hi u, .int 1 v] },toks:=tk }:=by
 refine wpAny_pyIter_range (IsRange.new ..) (small_one h1 h2 h3 h4) ?_
 have I1:Inv X pins σ H { s with heap:=s.heap.push { cls:= .type "range",data:= .fields #[.int lo t, .int hi u, .int 1 v] },toks:=tk }:=I.kept fun b o e=>N5 _ e
 refine ⟨(s.heap.push { cls:= .type "range",data:= .fields #[.int lo t, .int hi u, .int 1 v] }).objs.size,[(s.heap.push { cls:= .type "range",data:= .fields #[.int lo t, .int hi u, .int 1 v] }).objs.size],_,_,H,rfl,
  I1.kept (t':=tk) fun b o e=>N5 _ e,ym _ lo (hi - lo).toNat,?_,fun b hb=>?_,q⟩
 ·have e1:lo+((0:Nat):Int)*1=lo:=by simp
  have e2:(((hi - lo).toNat:Nat):Int) - ((0:Nat):Int)=Builtin.Range.rangeSize lo hi 1:=by rw[rangeSize_one];split<;>lia
  show IsRangeIter _ _ (lo+((0:Nat):Int)*1) ((((hi - lo).toNat:Nat):Int) - ((0:Nat):Int)) 1
  rw[e1,e2]
  exact Qal _ rfl
 ·have e:b=(s.heap.push { cls:= .type "range",data:= .fields #[.int lo t, .int hi u, .int 1 v] }).objs.size:=by simpa using hb
  subst e
  walk_at"H"
def P_ (ta:TA):TI:=fun σ H R=>ta σ H fun vs H1=> ∃j:Int,vs=[.int j]/\ -(2 ^ 62)<=j/\j<2 ^ 62/\R (Ka 0 j.toNat) H1
def Qa (ta:TA):TI:=fun σ H R=>ta σ H fun vs H1=> ∃i j:Int,vs=[.int i, .int j]/\(-(2 ^ 62)<=i/\i<2 ^ 62/\ -(2 ^ 62)<=j/\j<2 ^ 62)/\R (Ka i (j - i).toNat) H1
theorem fP {a:Expr} {ta:TA} {p pos:Pos} (hg:Gl X "range") (hm:X.mg "range"=none) (ha:PA X [a] ta) (hs:starEach [a] X.env=[(false,eval a X.env)]:=by rfl):PI X tg (.Call (.Name "range" p) [a] [] pos) (P_ ta):=by
 walk_at"3"
 refine Call_ (fR I hg hm boot_range (Qbh (cy (ha pos pins s σ H _ I h) fun us s1 ⟨vs,H1,I1,r1,q1⟩=>?_) hs rfl))
 obtain ⟨j,e,q1,q2,q⟩:=q1
 subst e
 cases r1 with
 | cons r rr=>
  cases rr
  obtain ⟨t,rfl⟩:=r
  exact call_range_1 (vK I1 (by lia) (by lia) q1 q2 (by simpa using q))
theorem lV {a b:Expr} {ta:TA} {p pos:Pos} (hg:Gl X "range") (hm:X.mg "range"=none) (ha:PA X [a,b] ta) (hs:starEach [a,b] X.env=[(false,eval a X.env),(false,eval b X.env)]:=by rfl) (Qb:starEach [b] X.env=[(false,eval b X.env)]:=by rfl):
  PI X tg (.Call (.Name "range" p) [a,b] [] pos) (Qa ta):=by
 walk_at"3"
 refine Call_ (fR I hg hm boot_range (Qbh (cy (ha pos pins s σ H _ I h) fun us s1 ⟨vs,H1,I1,r1,q1⟩=>?_) (by rw[hs,Qb]) (by rw[Qb];rfl)))
 obtain ⟨i,j,e,⟨q1,q2,q3,q4⟩,q⟩:=q1
 subst e
 cases r1 with
 | cons r rr=>
  cases rr with
  | cons r' rr=>
   cases rr
   obtain ⟨t,rfl⟩:=r
   obtain ⟨t',rfl⟩:=r'
   exact call_range_2 (vK I1 q1 q2 q3 q4 q)
def T1 (wi:TI) (g:TG) (tb:TS):TS:=fun D σ H=>wi σ H fun J H1=> ∃W:Nat->Nat->St->Hp->Prop,(∃m,W 0 m σ H1)/\ ∀i m σ H,W i m σ H->
 (J.stop i H/\D.nx σ H)\/(J.go i H/\ ∃N:St->Hp->Prop,(∀σ' H',N σ' H'-> ∃m',m'<m/\W (i+1) m' σ' H')/\ ∀x H',J.DT i H x H'->g x σ H' fun σ2 H2=>tb { D with nx:=N,ct:=N,bk:=D.nx } σ2 H2)
noncomputable def oJ (fp:List Addr) (h:Heap):List (Addr×Obj):=fp.filterMap fun b=>(h.get? b).map fun o=>(b,o)
theorem hX {fp:List Addr} {h:Heap} {b:Addr} {o:Obj} (hb:b∈fp) (e:h.get? b=some o):(b,o)∈oJ fp h:=List.mem_filterMap.mpr ⟨b,hb,by rw[e];rfl⟩
theorem BS {fp:List Addr} {h:Heap} {p:Addr×Obj} (hp:p∈oJ fp h):p.1∈fp/\h.get? p.1=some p.2:=by
 obtain ⟨b,hb,e⟩:=List.mem_filterMap.mp hp
 cases q:h.get? b with
 | none=>rw[q]at e;cases e
 | some o=>
  rw[q]at e
  have e':(b,o)=p:=Qan e
  subst e'
  exact ⟨hb,q⟩
theorem Inv.pinned {pins:List (Addr×Obj)} {σ:St} {H:Hp} {s:Shared} {fp:List Addr} (I:Inv X pins σ H s) (hf: ∀b∈fp,nE X pins H b) (ho: ∀b∈fp, ∃o,s.heap.get? b=some o/\ ∀v,o.data≠ .cell v):Inv X (pins++oJ fp s.heap) σ H s:=
 I.kC fun p hp=>(Qaf.mp hp).elim (fun z=>I.pin p (Qax _ z)) fun z=>by
  obtain ⟨hb,e⟩:=BS z
  obtain ⟨f0,f1,f2,_⟩:=hf p.1 hb
  obtain ⟨o,e',d⟩:=ho p.1 hb
  rw[e]at e';cases e'
  exact ⟨e,f0,f1,f2,d⟩
theorem Inv.iY {pins pl:List (Addr×Obj)} {σ:St} {H:Hp} {s:Shared} (I:Inv X (pins++pl) σ H s):Inv X pins σ H s:=I.kC fun p hp=>I.pin p (Qax _ (Qct _ hp))
theorem cD {iter:Expr} {body:List Stmt} {wi:TI} {g:TG} {tb:TS} {pos:Pos} (hp:PassesOwn (model X.prog X.w) X.A X.env X.xe) (hc:X.calm=true) (hi:PI X tg iter wi) (hg:PG X tg g) (hb:yf X body tb)
  (hs: ∀x,foldedSetIterable iter X.env x=pure x:=by intro _;rfl):PS X (.For tg iter body [] pos) (T1 wi g tb):=by
 walk_at"A"
 refine wpAny_For (cy (hi pins s σ H _ I h) fun v s1 h1=>cy h1 fun TY s2 h2=>?_) hs
 obtain ⟨it,fp,tn,J,H2,e,I2,T,tP,f2,W,⟨m0,w0⟩,turn⟩:=h2
 subst e
 -- Xx stays true of GZ Lm objects through GZ loop
 have Ln: ∀{H':Hp},(∀b∈fp,H' b=none)-> ∀b∈fp,nE X pins H' b:=fun hn b hb=>⟨hn b hb,(f2 b hb).2⟩
 refine codeAny_forLoop_any (fun n s'=> ∃i σ' H',Inv X pins σ' H' s'/\tn i s'.heap/\(∀b∈fp,H' b=none)/\W i n σ' H') ?_ m0 ⟨0,σ,H2,I2,tP,fun b hb=>(f2 b hb).1,w0⟩
 rintro n s3 ⟨i,σ3,H3,I3,Lo,Qc,w3⟩
 rcases turn i n σ3 H3 w3 with ⟨stop,qn⟩ | ⟨go,N,hN,step⟩
 ·refine wpAny_passesOwn hp (cy (T.done X rfl rfl rfl hc i pins s3 σ3 H3 X.xe I3 (Ln Qc) Lo stop) fun r s4 ⟨hr,I4⟩=>?_)
  subst hr
  exact wpAny_execs_nil ⟨σ3,H3,I4,qn⟩
 ·refine wpAny_passesOwn hp (cy (T.item X rfl rfl rfl hc i pins s3 σ3 H3 X.xe I3 (Ln Qc) Lo go) fun r s4 ⟨u,hr,h4⟩=>?_)
  subst hr
  refine wpAny_passesOwn hp (cy h4 fun _ s5 ⟨x,H5,I5,r5,y5,G0,T3⟩=>?_)
  have T4:=I5.pinned (Ln T3) (T.obj _ _ G0)
  refine wpAny_passesOwn hp (cy (hg _ s5 σ3 H5 x u _ T4 r5 (step x H5 y5)) fun _ s6 ⟨σ6,H6,I6,q6⟩=>?_)
  refine wpAny_passesOwn hp (cy (hb _ s6 σ6 H6 _ I6 q6) fun f s7 q7=>?_)
  have again: ∀{σ7:St} {H7:Hp},Inv X (pins++oJ fp s5.heap) σ7 H7 s7->N σ7 H7-> ∃m,m<n/\ ∃i σ' H',Inv X pins σ' H' s7/\tn i s7.heap/\(∀b∈fp,H' b=none)/\W i m σ' H':=fun {σ7 H7} I7 n7=>by
   obtain ⟨m',hm,w7⟩:=hN σ7 H7 n7
   refine ⟨m',hm,i+1,σ7,H7,I7.iY,T.keep _ _ _ G0 fun b hb o e=>(I7.pin (b,o) (Qax _ (Qax _ (hX hb e)))).1,fun b hb=>?_,w7⟩
   obtain ⟨o,e,d⟩:=T.obj _ _ G0 b hb
   exact (I7.pin (b,o) (Qax _ (Qax _ (hX hb e)))).2.1
  cases f with
  | next=>obtain ⟨σ7,H7,I7,n7⟩:=q7;exact again I7 n7
  | cont=>obtain ⟨σ7,H7,I7,n7⟩:=q7;exact again I7 n7
  | brk=>obtain ⟨σ7,H7,I7,q7⟩:=q7;exact ⟨σ7,H7,I7.iY,q7⟩
  | ret v=>obtain ⟨x7,σ7,H7,I7,r7,q7⟩:=q7;exact ⟨x7,σ7,H7,I7.iY,r7,q7⟩
end
theorem kD {K:PySem.W.Frag} {a:Addr} {xs:List V} {g:TG} {tb:TS} {D:Ends} {σ:St} {H:Hp} (Pv:Nat->St->Hp->Prop) (h0:Pv 0 σ H) (hl: ∀i σ H,i<=xs.length->Pv i σ H->aZ K H a xs)
  (hs: ∀i x σ H,xs[i]? =some x->Pv i σ H->g x σ H fun σ2 H2=>tb { D with nx:=Pv (i+1),ct:=Pv (i+1),bk:=D.nx } σ2 H2) (hd: ∀σ H,Pv xs.length σ H->D.nx σ H):
  ∃W:Nat->Nat->St->Hp->Prop,(∃m,W 0 m σ H)/\ ∀i m σ H,W i m σ H->
   ((N3 K a).stop i H/\D.nx σ H)\/((N3 K a).go i H/\ ∃N:St->Hp->Prop,(∀σ' H',N σ' H'-> ∃m',m'<m/\W (i+1) m' σ' H')/\ ∀x H',(N3 K a).DT i H x H'->g x σ H' fun σ2 H2=>tb { D with nx:=N,ct:=N,bk:=D.nx } σ2 H2):=by
 walk_at"h"
 rintro i m σ H ⟨rfl,hi,p⟩
 have q:=hl i σ H hi p
 by_cases cE:i<xs.length
 ·refine .inr ⟨⟨xs,xs[i],q,by simp[cE]⟩,Pv (i+1),fun σ' H' p'=>⟨xs.length - (i+1),by lia,rfl,cE,p'⟩,fun x H' y=>?_⟩
  obtain ⟨e,y⟩:=y
  subst e
  exact hs i x σ _ (y xs q) p
 ·have e:i=xs.length:=by lia
  subst e
  exact .inl ⟨⟨xs,q,Sq _⟩,hd σ H p⟩
theorem eO {lo:Int} {n:Nat} {g:TG} {tb:TS} {D:Ends} {σ:St} {H:Hp} (Pv:Nat->St->Hp->Prop) (h0:Pv 0 σ H)
  (hs: ∀i σ H,i<n->Pv i σ H->g (.int (lo+i)) σ H fun σ2 H2=>tb { D with nx:=Pv (i+1),ct:=Pv (i+1),bk:=D.nx } σ2 H2) (hd: ∀σ H,Pv n σ H->D.nx σ H):
  ∃W:Nat->Nat->St->Hp->Prop,(∃m,W 0 m σ H)/\ ∀i m σ H,W i m σ H->
   ((Ka lo n).stop i H/\D.nx σ H)\/((Ka lo n).go i H/\ ∃N:St->Hp->Prop,(∀σ' H',N σ' H'-> ∃m',m'<m/\W (i+1) m' σ' H')/\ ∀x H',(Ka lo n).DT i H x H'->g x σ H' fun σ2 H2=>tb { D with nx:=N,ct:=N,bk:=D.nx } σ2 H2):=by
 refine ⟨fun i m σ H=>m=n - i/\i<=n/\Pv i σ H,⟨n,by simp,Qaa _,h0⟩,?_⟩
 rintro i m σ H ⟨rfl,hi,p⟩
 by_cases cE:i<n
 ·refine .inr ⟨cE,Pv (i+1),fun σ' H' p'=>⟨n - (i+1),by lia,rfl,cE,p'⟩,fun x H' y=>?_⟩
  obtain ⟨e,y⟩:=y
  subst e y
  exact hs i σ _ cE p
 ·have e:i=n:=by lia
  subst e
  exact .inl ⟨Sq _,hd σ H p⟩
abbrev R2:=V->V->Hp->VK->Prop
def gQ (X:Cx) (f:Value->Value->Sem Value) (r:R2):Prop:=
 ∀(pins:List (Addr×Obj)) (s:Shared) (σ:St) (H:Hp) (x y:V) (v u:Value) (Q:VK),Inv X pins σ H s->RelV x v->RelV y u->r x y H Q->
  wpAny (model X.prog X.w) X.A (f v u) (EP X pins σ Q) X.xe s
def T6 (X:Cx) (f:Value->Sem Value) (r:V->Hp->VK->Prop):Prop:=
 ∀(pins:List (Addr×Obj)) (s:Shared) (σ:St) (H:Hp) (x:V) (v:Value) (Q:VK),Inv X pins σ H s->RelV x v->r x H Q->
  wpAny (model X.prog X.w) X.A (f v) (EP X pins σ Q) X.xe s
def cQ (X:Cx) (f:Value) (r:List V->Hp->VK->Prop):Prop:=
 ∀(pins:List (Addr×Obj)) (s:Shared) (σ:St) (H:Hp) (xs:List V) (us:List Value) (Q:VK),Inv X pins σ H s->Vals xs us->r xs H Q->
  wpAny (model X.prog X.w) X.A (call f us) (EP X pins σ Q) X.xe s
def T7 (X:Cx) (r:V->Hp->(Bool->Hp->Prop)->Prop):Prop:=
 ∀(pins:List (Addr×Obj)) (s:Shared) (σ:St) (H:Hp) (x:V) (v:Value) (Q:Bool->Hp->Prop),Inv X pins σ H s->RelV x v->r x H Q->
  wpAny (model X.prog X.w) X.A (truthy v) (TP X pins σ Q) X.xe s
def Si (r:R2) (ta tb:TE):TE:=fun σ H Q=>ta σ H fun x H1=>tb σ H1 fun y H2=>r x y H2 Q
def Xy (r:V->Hp->VK->Prop) (ta:TE):TE:=fun σ H Q=>ta σ H fun x H1=>r x H1 Q
def rI (C:Int->Int->Prop) (g:Int->Int->V):R2:=fun x y H Q=> ∃i j,x= .int i/\y= .int j/\C i j/\Q (g i j) H
def G5 (g:Int->Int->V):R2:=fun x y H Q=> ∃i j,x= .int i/\y= .int j/\Q (g i j) H
def rU (g:Int->V):V->Hp->VK->Prop:=fun x H Q=> ∃i,x= .int i/\Q (g i) H
section
variable {X:Cx} {a b c:Expr} {ta tb tc:TE} {pos:Pos}
theorem Lp (ha:PE X a ta) (hb:PE X b tb) {pins:List (Addr×Obj)} {s:Shared} {σ:St} {H:Hp} {R:V->V->Hp->Prop} (I:Inv X pins σ H s)
  (h:ta σ H fun x H1=>tb σ H1 fun y H2=>R x y H2) {Q:Value->Shared->Prop} {f:Value->Value->Sem Value}
  (hf: ∀v u s2 x y H2,Inv X pins σ H2 s2->RelV x v->RelV y u->R x y H2->wpAny (model X.prog X.w) X.A (f v u) Q X.xe s2):
  wpAny (model X.prog X.w) X.A (eval a X.env) (fun v s₁=>wpAny (model X.prog X.w) X.A (eval b X.env) (fun u s₂=>wpAny (model X.prog X.w) X.A (f v u) Q X.xe s₂) X.xe s₁) X.xe s:=by
 refine cy (ha pins s σ H _ I h) fun v s1 ⟨x,H1,I1,r1,q1⟩=>?_
 refine cy (hb pins s1 σ H1 _ I1 q1) fun u s2 ⟨y,H2,I2,r2,q2⟩=>?_
 exact hf v u s2 x y H2 I2 r1 r2 q2
theorem av {op:Operator} {r:R2} (ho:gQ X (binaryOp op) r) (ha:PE X a ta) (hb:PE X b tb):PE X (.BinOp a op b pos) (Si r ta tb):=by
 walk_at"g"
 exact wpAny_BinOp (Lp ha hb I h fun v u s2 x y H2 I2 rx ry q=>ho pins s2 σ H2 x y v u Q I2 rx ry q)
theorem gi {op:UnaryOp} {r:V->Hp->VK->Prop} (ho:T6 X (unaryOp op) r) (ha:PE X a ta):PE X (.UnaryOp op a pos) (Xy r ta):=by
 walk_at"g"
 exact UnaryOp_ (cy (ha pins s σ H _ I h) fun v s1 ⟨x,H1,I1,r1,q1⟩=>ho pins s1 σ H1 x v Q I1 r1 q1)
theorem Sj {f:Value->Value->Sem Value} {C:Int->Int->Prop} {g:Int->Int->Int}
  (rule: ∀(i j:Int) (t u:Tok) (s:Shared) (Q:Value->Shared->Prop) (E:Value->Shared->Prop),C i j->Q (.int (g i j) s.toks) { s with toks:=s.toks+1 }->wpAny (model X.prog X.w) X.A (f (.int i t) (.int j u)) Q E s):
  gQ X f (rI C fun i j=> .int (g i j)):=by
 walk_at"a"
 obtain ⟨i,j,rfl,rfl,hc,q⟩:=h
 walk_at"f"
 walk_at"2"
 exact rule i j t t' s _ _ hc ⟨.int (g i j),H,I.tok _,⟨_,rfl⟩,q⟩
theorem Qd {f:Value->Value->Sem Value} {g:Int->Int->Int}
  (rule: ∀(i j:Int) (t u:Tok) (s:Shared) (Q:Value->Shared->Prop) (E:Value->Shared->Prop),Q (.int (g i j) s.toks) { s with toks:=s.toks+1 }->wpAny (model X.prog X.w) X.A (f (.int i t) (.int j u)) Q E s):
  gQ X f (G5 fun i j=> .int (g i j)):=by
 walk_at"a"
 obtain ⟨i,j,rfl,rfl,q⟩:=h
 walk_at"f"
 walk_at"2"
 exact rule i j t t' s _ _ ⟨.int (g i j),H,I.tok _,⟨_,rfl⟩,q⟩
theorem Hu {f:Value->Value->Sem Value} {g:Int->Int->Bool}
  (rule: ∀(i j:Int) (t u:Tok) (s:Shared) (Q:Value->Shared->Prop) (E:Value->Shared->Prop),Q (.bool (g i j)) s->wpAny (model X.prog X.w) X.A (f (.int i t) (.int j u)) Q E s):
  gQ X f (G5 fun i j=> .bl (g i j)):=by
 walk_at"a"
 obtain ⟨i,j,rfl,rfl,q⟩:=h
 walk_at"f"
 walk_at"2"
 exact rule i j t t' s _ _ ⟨.bl (g i j),H,I,rfl,q⟩
def T8 (i j:Int):Prop:=0<j/\j<1073741824
def T9 (i j:Int):Prop:=0<=j/\j<=1000000/\i.natAbs<2 ^ 64
def Hv (i j:Int):Prop:=(-(2 ^ 64)<i/\i<2 ^ 64)\/(-(2 ^ 64)<j/\j<2 ^ 64)
theorem Hv.ok {i j:Int} (h:Hv i j):IntMulOk i j:=by
 rcases h with ⟨h1,h2⟩ | ⟨h1,h2⟩
 ·exact .of_left (intBits_le_64 h1 h2)
 ·exact .of_right (intBits_le_64 h1 h2)
theorem aW:gQ X (binaryOp .Add) (G5 fun i j=> .int (i+j)):=Qd fun _ _ _ _ _ _ _ q=>add_int q
theorem b6:gQ X (binaryOp .Sub) (G5 fun i j=> .int (i - j)):=Qd fun _ _ _ _ _ _ _ q=>sub_int q
theorem iZ:gQ X (binaryOp .Mult) (rI Hv fun i j=> .int (i*j)):=Sj fun _ _ _ _ _ _ _ hc q=>mul_int q hc.ok
theorem dv:gQ X (binaryOp .Mod) (rI (fun _ j=>0<j) fun i j=> .int (i%j)):=Sj fun i j _ _ _ _ _ hc q=>by
 have h1:(0:Int)<j:=hc
 exact mod_int' (by lia) (by rw[Int.fmod_eq_emod_of_nonneg i (by lia)];exact q)
theorem DU:gQ X (binaryOp .Pow) (rI T9 fun i j=> .int (i ^ j.toNat)):=Sj fun _ _ _ _ _ _ _ hc q=>pow_int_small hc.1 hc.2.1 hc.2.2 q
theorem Xz {f:Value->Sem Value} {g:Int->Int}
  (rule: ∀(i:Int) (t:Tok) (s:Shared) (Q:Value->Shared->Prop) (E:Value->Shared->Prop),Q (.int (g i) s.toks) { s with toks:=s.toks+1 }->wpAny (model X.prog X.w) X.A (f (.int i t)) Q E s):
  T6 X f (rU fun i=> .int (g i)):=by
 intro pins s σ H x v Q I rx h
 obtain ⟨i,rfl,q⟩:=h
 walk_at"f"
 exact rule i t s _ _ ⟨.int (g i),H,I.tok _,⟨_,rfl⟩,q⟩
theorem dZ:T6 X (unaryOp .USub) (rU fun i=> .int (-i)):=Xz fun _ _ _ _ _ q=>neg_int q
end
noncomputable def Qe:V->V->Bool
 | .dY, .dY=>true | .dY, .int _=>true | .int _, .dY=>true | .dY, .bl _=>true | .bl _, .dY=>true | .dY, .str _=>true | .str _, .dY=>true
 | .int _, .int _=>true | .bl _, .bl _=>true | .str _, .str _=>true | .Ai _, .Ai _=>true
 | .int _, .str _=>true | .str _, .int _=>true | .bl _, .str _=>true | .str _, .bl _=>true
 | _,_=>false
def XA:R2:=fun x y H Q=>Qe x y=true/\Q (.bl (decide (x=y))) H
def XB:R2:=fun x y H Q=>Qe x y=true/\Q (.bl (!decide (x=y))) H
theorem Ao {i j:Int}:decide (V.int i=V.int j)=(i==j):=by
 rw[Qdj]
 simp
theorem DV {i j:Bool}:decide (V.bl i=V.bl j)=(i==j):=by
 rw[Qdj]
 simp
theorem Ap {i j:Str}:decide (V.str i=V.str j)=(i==j):=by
 rw[Qdj]
 simp
theorem Aq {i j:Array UInt8}:decide (V.Ai i=V.Ai j)=(i.toList==j.toList):=by
 rw[Qdj]
 cases i
 cases j
 simp
section
variable {X:Cx} {a b c:Expr} {ta tb tc:TE} {pos:Pos}
theorem br {pins:List (Addr×Obj)} {σ:St} {H:Hp} {s:Shared} {Q:VK} {k k':Bool} (I:Inv X pins σ H s) (q:Q (.bl k) H) (e:k=k'):EP X pins σ Q (.bool k') s:=by
 subst e
 exact ⟨.bl k,H,I,rfl,q⟩
theorem DW:gQ X (compareOp .Eq) XA:=by
 walk_at"a"
 obtain ⟨hs,q⟩:=h
 cases x with
 | dY=>
  cases rx
  cases y with
  | dY=>cases ry;exact PySem.EqNone.eq_none_none (br I q (by simp))
  | bl j=>cases ry;exact PySem.EqNone.eq_none_bool (br I q (by simp))
  | int j=>obtain ⟨t',rfl⟩:=ry;exact PySem.EqNone.eq_none_int (br I q (by simp))
  | str j=>obtain ⟨t',rfl⟩:=ry;exact PySem.EqNone.eq_none_str (br I q (by simp))
  | _=>exact absurd (show false=true from hs) Qai
 | bl i=>
  cases rx
  cases y with
  | dY=>cases ry;exact PySem.EqNone.eq_bool_none (br I q (by simp))
  | bl j=>cases ry;exact eq_bool (br I q DV)
  | str j=>obtain ⟨t',rfl⟩:=ry;exact PySem.EqMixed.eq_bool_str (br I q (by simp))
  | _=>exact absurd (show false=true from hs) Qai
 | int i=>
  walk_at"f"
  cases y with
  | dY=>cases ry;exact PySem.EqNone.eq_int_none (br I q (by simp))
  | int j=>obtain ⟨t',rfl⟩:=ry;exact eq_int (br I q Ao)
  | str j=>obtain ⟨t',rfl⟩:=ry;exact PySem.EqMixed.eq_int_str (br I q (by simp))
  | _=>exact absurd (show false=true from hs) Qai
 | str i=>
  walk_at"f"
  cases y with
  | dY=>cases ry;exact PySem.EqNone.eq_str_none (br I q (by simp))
  | bl j=>cases ry;exact PySem.EqMixed.eq_str_bool (br I q (by simp))
  | int j=>obtain ⟨t',rfl⟩:=ry;exact PySem.EqMixed.eq_str_int (br I q (by simp))
  | str j=>obtain ⟨t',rfl⟩:=ry;exact eq_str (br I q Ap)
  | _=>exact absurd (show false=true from hs) Qai
 | Ai i=>
  walk_at"f"
  cases y with
  | Ai j=>obtain ⟨t',rfl⟩:=ry;exact PySem.W.eq_bytes (br I q Aq)
  | _=>exact absurd (show false=true from hs) Qai
 | _=>cases y<;>exact absurd (show false=true from hs) Qai
theorem DX:gQ X (compareOp .NotEq) XB:=by
 walk_at"a"
 obtain ⟨hs,q⟩:=h
 cases x with
 | dY=>
  cases rx
  cases y with
  | dY=>cases ry;exact PySem.EqNone.ne_none_none (br I q (by simp))
  | bl j=>cases ry;exact PySem.EqNone.ne_none_bool (br I q (by simp))
  | int j=>obtain ⟨t',rfl⟩:=ry;exact PySem.EqNone.ne_none_int (br I q (by simp))
  | str j=>obtain ⟨t',rfl⟩:=ry;exact PySem.EqNone.ne_none_str (br I q (by simp))
  | _=>exact absurd (show false=true from hs) Qai
 | bl i=>
  cases rx
  cases y with
  | dY=>cases ry;exact PySem.EqNone.ne_bool_none (br I q (by simp))
  | bl j=>cases ry;exact ne_bool (br I q (congrArg not DV))
  | str j=>obtain ⟨t',rfl⟩:=ry;exact PySem.EqMixed.ne_bool_str (br I q (by simp))
  | _=>exact absurd (show false=true from hs) Qai
 | int i=>
  walk_at"f"
  cases y with
  | dY=>cases ry;exact PySem.EqNone.ne_int_none (br I q (by simp))
  | int j=>obtain ⟨t',rfl⟩:=ry;exact ne_int (br I q (congrArg not Ao))
  | str j=>obtain ⟨t',rfl⟩:=ry;exact PySem.EqMixed.ne_int_str (br I q (by simp))
  | _=>exact absurd (show false=true from hs) Qai
 | str i=>
  walk_at"f"
  cases y with
  | dY=>cases ry;exact PySem.EqNone.ne_str_none (br I q (by simp))
  | bl j=>cases ry;exact PySem.EqMixed.ne_str_bool (br I q (by simp))
  | int j=>obtain ⟨t',rfl⟩:=ry;exact PySem.EqMixed.ne_str_int (br I q (by simp))
  | str j=>obtain ⟨t',rfl⟩:=ry;exact ne_str (br I q (congrArg not Ap))
  | _=>exact absurd (show false=true from hs) Qai
 | Ai i=>
  walk_at"f"
  cases y with
  | Ai j=>obtain ⟨t',rfl⟩:=ry;exact PySem.W.ne_bytes (br I q (congrArg not Aq))
  | _=>exact absurd (show false=true from hs) Qai
 | _=>cases y<;>exact absurd (show false=true from hs) Qai
theorem gj:gQ X (compareOp .Lt) (G5 fun i j=> .bl (decide (i<j))):=Hu fun _ _ _ _ _ _ _ q=>lt_int q
theorem Kc:gQ X (compareOp .LtE) (G5 fun i j=> .bl (decide (i<=j))):=Hu fun _ _ _ _ _ _ _ q=>le_int q
theorem kE:gQ X (compareOp .Gt) (G5 fun i j=> .bl (decide (j<i))):=Hu fun _ _ _ _ _ _ _ q=>gt_int q
theorem DY:gQ X (compareOp .GtE) (G5 fun i j=> .bl (decide (j<=i))):=Hu fun _ _ _ _ _ _ _ q=>ge_int q
theorem BU:gQ X (compareOp .Lt) (fun x y H Q=> ∃i j,x= .str i/\y= .str j/\Q (.bl (decide (i.cps.toList<j.cps.toList))) H):=by
 walk_at"a"
 obtain ⟨i,j,rfl,rfl,q⟩:=h
 walk_at"f"
 walk_at"2"
 exact lt_str (br I q rfl)
theorem BV:gQ X (compareOp .In) (fun x y H Q=> ∃i j,x= .str i/\y= .str j/\Q (.bl (!(Builtin.Str.occurrences j i 0 j.length 1).isEmpty)) H):=by
 walk_at"a"
 obtain ⟨i,j,rfl,rfl,q⟩:=h
 walk_at"f"
 walk_at"2"
 exact in_str (br I q rfl)
theorem aE (b:Expr) {op:CmpOp} (h:op≠ .In:=by decide) (h2:op≠ .NotIn:=by decide):behindInMarks op b=false:=by
 have e1:(op==CmpOp.In)=false:=by cases op<;>first | rfl | exact absurd rfl h
 have e2:(op==CmpOp.NotIn)=false:=by cases op<;>first | rfl | exact absurd rfl h2
 cases b<;>simp[behindInMarks,e1,e2]
theorem d_ {op:CmpOp} {r:R2} (ho:gQ X (compareOp op) r) (ha:PE X a ta) (hb:PE X b tb) (hm:behindInMarks op b=false):PE X (.Compare a [op] [b] pos) (Si r ta tb):=by
 walk_at"g"
 exact wpAny_Compare1 (Lp ha hb I h fun v u s2 x y H2 I2 rx ry q=>ho pins s2 σ H2 x y v u Q I2 rx ry q) hm
def Qf (t:TE):TT:=fun σ H Q=>t σ H fun x H'=> ∃k,x= .bl k/\Q k H'
theorem aD {op:CmpOp} {r:R2} (ho:gQ X (compareOp op) r) (ha:PE X a ta) (hb:PE X b tb) (hm:behindInMarks op b=false):PT X (.Compare a [op] [b] pos) (Qf (Si r ta tb)):=by
 walk_at"g"
 refine wpAny_isTrue_Compare1 (cy (ha pins s σ H _ I h) fun v s1 ⟨x,H1,I1,r1,q1⟩=>cy (hb pins s1 σ H1 _ I1 q1) fun u s2 ⟨y,H2,I2,r2,q2⟩=>
  cy (ho pins s2 σ H2 x y v u _ I2 r1 r2 q2) fun c s3 ⟨z,H3,I3,r3,k,e,q3⟩=>?_) hm
 subst e
 cases r3
 exact wpAny_truthy_bool ⟨H3,I3,q3⟩
def Lq (r r':R2) (ta tb tc:TE):TE:=fun σ H Q=>ta σ H fun x H1=>tb σ H1 fun y H2=>r x y H2 fun z H3=> ∃k,z= .bl k/\
 (if k=true then tc σ H3 fun w' H4=>r' y w' H4 Q else Q (.bl false) H3)
theorem vL {op T_:CmpOp} {r r':R2} (ho:gQ X (compareOp op) r) (xP:gQ X (compareOp T_) r') (ha:PE X a ta) (hb:PE X b tb) (hc:PE X c tc)
  (hm:lastMarks [op,T_] [b,c]=false:=by with_unfolding_all rfl):PE X (.Compare a [op,T_] [b,c] pos) (Lq r r' ta tb tc):=by
 walk_at"g"
 refine Compare_chain (cy (ha pins s σ H _ I h) fun v s1 ⟨x,H1,I1,r1,q1⟩=>chain_link (cy (hb pins s1 σ H1 _ I1 q1) fun u s2 ⟨y,H2,I2,r2,q2⟩=>
  cy (ho pins s2 σ H2 x y v u _ I2 r1 r2 q2) fun d s3 ⟨z,H3,I3,r3,k,e,q3⟩=>?_)) hm
 subst e
 cases r3
 refine wpAny_truthy_bool ?_
 cases k with
 | false=>exact ite_ff ⟨.bl false,H3,I3,rfl,q3⟩
 | true=>exact ite_tt (chain_last (cy (hc pins s3 σ H3 _ I3 q3) fun w' s4 ⟨z',H4,I4,r4,q4⟩=>xP pins s4 σ H4 y z' u w' Q I4 r2 r4 q4))
def Ua (K:PySem.W.Frag) (x:V) (H:Hp) (k:Bool):Prop:=
 match x with
 | .dY=>k=false
 | .bl b=>k=b
 | .int i=>k=(i != 0)
 | .str y=>y.length<=sizeLine/\k=((y.length:Int) != 0)
 | .Ai y=>y.size<=sizeLine/\k=((y.size:Int) != 0)
 | .ref p=>(∃xs,aZ K H p xs/\k=!xs.isEmpty)\/(∃xs,bE K H p xs/\k=!xs.isEmpty)\/ ∃eL,H p=some (.dK eL)/\k=!eL.isEmpty
 | _=>False
theorem yn {κ:Type} {eL:List (κ×V)} {vs:List (κ×Value)} (r:KV eL vs):(!vs.isEmpty)=!eL.isEmpty:=by
 cases r<;>rfl
theorem oK {xs:List V} {its:List Value} (r:Vals xs its):(!its.toArray.isEmpty)=!xs.isEmpty:=by
 cases r<;>simp
theorem eP:(sizeLine:Nat)<2 ^ 63:=by rw[sizeLine_eq];decide
theorem Lr:T7 X (fun x H Q=> ∃k,Ua X.K x H k/\Q k H):=by
 intro pins s σ H x v Q I rx h
 obtain ⟨k,e,q⟩:=h
 have hl:=eP
 have hs:sizeLine=16777216:=sizeLine_eq
 cases x with
 | dY=>
  cases rx
  have e':k=false:=e
  subst e'
  exact truthy_none ⟨H,I,q⟩
 | bl b=>
  cases rx
  have e':k=b:=e
  subst e'
  exact wpAny_truthy_bool ⟨H,I,q⟩
 | int i=>
  walk_at"f"
  have e':k=(i != 0):=e
  subst e'
  exact PySem.P.truthy_int ⟨H,I,q⟩
 | str y=>
  walk_at"f"
  obtain ⟨hy,e'⟩:y.length<=sizeLine/\k=((y.length:Int) != 0):=e
  subst e'
  exact PySem.P.truthy_str (by lia) ⟨H,I.tok _,q⟩
 | Ai y=>
  walk_at"f"
  obtain ⟨hy,e'⟩:y.size<=sizeLine/\k=((y.size:Int) != 0):=e
  subst e'
  exact PySem.W.truthy_bytes (by lia) ⟨H,I.tok _,q⟩
 | ref p=>
  cases rx
  have e':(∃xs,aZ X.K H p xs/\k=!xs.isEmpty)\/(∃xs,bE X.K H p xs/\k=!xs.isEmpty)\/ ∃eL,H p=some (.dK eL)/\k=!eL.isEmpty:=e
  rcases e' with ⟨xs,hx,e'⟩ | ⟨xs,hx,e'⟩ | ⟨eL,hx,e'⟩
  ·subst e'
   obtain ⟨its,r,pl,hz⟩:=I.list hx
   have hlen:=r.length
   exact wpAny_truthy_list pl.isList (by simp only[XR];lia) ⟨H,I.tok _,by rw[oK r];exact q⟩
  ·subst e'
   obtain ⟨its,r,pl,hz⟩:=I.tuple hx
   have hlen:=r.length
   exact truthy_tuple pl (by simp only[XR];lia) ⟨H,I.tok _,by rw[oK r];exact q⟩
  ·subst e'
   obtain ⟨hz,hS,vs,r,m⟩:eL.length<=sizeLine/\(p==sysModules)=false/\ ∃vs,KV eL vs/\s.heap.DictOf (cB X.prog X.w) p vs:=I.bZ p _ hx
   have hlen:eL.length=vs.length:=Paired.length r
   exact wpAny_truthy_dict hS m (by lia) ⟨H,I.tok _,by rw[yn r];exact q⟩
 | _=>exact (show False from e).elim
theorem yo:gQ X (binaryOp .Add) (fun x y H Q=> ∃i j,x= .str i/\y= .str j/\i.length+j.length<=sizeLine/\Q (.str (i++j)) H):=by
 walk_at"a"
 obtain ⟨i,j,rfl,rfl,hz,q⟩:=h
 walk_at"f"
 walk_at"2"
 exact add_str (fun t' tk=>⟨.str (i++j),H,I.tok _,⟨_,rfl⟩,q⟩) hz
theorem vals1 {x:V} {us:List Value} (r:Vals [x] us): ∃u,us=[u]/\RelV x u:=by
 cases r with
 | cons r1 r2=>cases r2;exact ⟨_,rfl,r1⟩
theorem vals2 {x y:V} {us:List Value} (r:Vals [x,y] us): ∃u w',us=[u,w']/\RelV x u/\RelV y w':=by
 cases r with
 | cons r1 r2=>
  cases r2 with
  | cons r3 r4=>cases r4;exact ⟨_,_,rfl,r1,r3⟩
theorem BW (hc:X.calm=true):cQ X (.builtin "max") (fun xs H Q=> ∃i j,xs=[.int i, .int j]/\Q (.int (if j>i then j else i)) H):=by
 walk_at"e"
 obtain ⟨i,j,rfl,q⟩:=h
 obtain ⟨u,w',rfl,⟨t,rfl⟩,⟨t',rfl⟩⟩:=vals2 r
 refine max_two_ints (I.ok.hd hc) fun h' tk k=>⟨_,H,I.kept k,?_,q⟩
 by_cases hj:j>i
 ·rw[if_pos hj,if_pos hj];exact ⟨_,rfl⟩
 ·rw[if_neg hj,if_neg hj];exact ⟨_,rfl⟩
theorem BX (hc:X.calm=true):cQ X (.builtin "min") (fun xs H Q=> ∃i j,xs=[.int i, .int j]/\Q (.int (if j<i then j else i)) H):=by
 walk_at"e"
 obtain ⟨i,j,rfl,q⟩:=h
 obtain ⟨u,w',rfl,⟨t,rfl⟩,⟨t',rfl⟩⟩:=vals2 r
 refine min_two_ints (I.ok.hd hc) fun h' tk k=>⟨_,H,I.kept k,?_,q⟩
 by_cases hj:j<i
 ·rw[if_pos hj,if_pos hj];exact ⟨_,rfl⟩
 ·rw[if_neg hj,if_neg hj];exact ⟨_,rfl⟩
theorem rE:cQ X (.type "int") (fun xs H Q=>(∃i,xs=[.int i]/\Q (.int i) H)\/ ∃k,xs=[.bl k]/\Q (.int (if k then 1 else 0)) H):=by
 walk_at"e"
 rcases h with ⟨i,rfl,q⟩ | ⟨k,rfl,q⟩
 ·obtain ⟨u,rfl,t,rfl⟩:=vals1 r
  exact call_int_int ⟨.int i,H,I,⟨_,rfl⟩,q⟩
 ·obtain ⟨u,rfl,r1⟩:=vals1 r
  cases r1
  exact call_int_bool ⟨.int (if k then 1 else 0),H,I.tok _,⟨_,rfl⟩,q⟩
theorem tQ:cQ X (.type "str") (fun xs H Q=> ∃i,xs=[.int i]/\i.natAbs.log2<1920/\Q (.str (toString i)) H):=by
 walk_at"e"
 obtain ⟨i,rfl,hz,q⟩:=h
 obtain ⟨u,rfl,t,rfl⟩:=vals1 r
 exact PySem.P.str_of_int hz ⟨.str _,H,I.tok _,⟨_,rfl⟩,q⟩
end
structure BY (h:Heap) (x dx C:Addr) (mA:Str->Option Value):Prop where
 obj:h.get? x=some (PySem.W.instObj C dx)
 ns:h.Ns1 dx mA
 ne:dx≠x
theorem BZ {h:Heap} {dx:Addr} {mA:Str->Option Value} (n:h.Ns1 dx mA): ∃od,h.get? dx=some od/\ ∀name,PySem.W.lookIn name od=some (mA name):=by
 obtain ⟨o,es,ep,ho,hd,hk,_,hm⟩:=n
 refine ⟨o,ho,fun name=>?_⟩
 have e:=hm name
 unfold nsFind findBy at e
 rw[<-Array.find?_toList]at e
 unfold PySem.W.lookIn
 rw[hd]
 dsimp only
 split
 ·rename_i y q
  rw[q]at e
  exact congrArg some e
 ·rename_i q
  rw[q]at e
  have a:es.toList.any (·.refKey)=false:=by
   rw[List.any_eq_false]
   intro y hy
   obtain ⟨z,t,Ub⟩:=hk y (Array.mem_toList_iff.mp hy)
   simp[DictEntry.refKey,Ub]
  have a': ¬es.toList.any (·.refKey)=true:=by rw[a];exact Qai
  rw[if_neg a']
  exact congrArg some e
theorem BY.look {h:Heap} {x dx C:Addr} {mA:Str->Option Value} (I:BY h x dx C mA): ∃od,PySem.W.InstAt h x (PySem.W.instObj C dx) C (some od)/\ ∀name,PySem.W.lookIn name od=some (mA name):=
 let ⟨od,ho,hl⟩:=BZ I.ns
 ⟨od,⟨I.obj,rfl,rfl,ho⟩,hl⟩
section
variable {prog:Program} {w:World} {A:Around} {E:Value->Shared->Prop} {s:Shared} {K:PySem.W.Frag} {x dx C f:Addr} {mA:Str->Option Value} {name:Str} {v:Value}
theorem get_map {expr:Bool} {Q:Value->Shared->Prop} (X:K.In s.heap) (I:BY s.heap x dx C mA) (hg:PySem.W.plainGet K C name=true) (hh:PySem.W.hasDictIn K C=true)
  (ha:PySem.W.findIn K (.ref C) name=some none) (hv:mA name=some v) (XC:PySem.W.handedIn v=true) (h:Q v { s with toks:=s.toks+1 }):
  wpAny (model prog w) A (getAttr (.ref x) name expr) Q E s:=by
 obtain ⟨od,J,hl⟩:=I.look
 exact PySem.W.get_value X J (PySem.W.plainGet_of hg).1 (PySem.W.findObj_own hh ha rfl (by rw[hl,hv])) XC h
theorem Hw {ns:List Str} {Q:Unit->Shared->Prop} (X:K.In s.heap) (I:BY s.heap x dx C mA)
  (hs:PySem.W.findIn K (.ref C) "__setattr__"=some (some (.builtin "object.__setattr__"))) (hp:PySem.W.plainOver K C=true) (ht:PySem.W.takerIn K C name=some none) (hh:PySem.W.hasDictIn K C=true)
  (hw:PySem.Within mA ns) (hsz:ns.length<=sizeLine)
  (h: ∀h',BY h' x dx C (fun y=>if y=name then some v else mA y)->Heap.SameBut dx s.heap h'->Q () { s with heap:=h',toks:=s.toks+2 }):
  wpAny (model prog w) A (setAttr (.ref x) name v) Q E s:=by
 obtain ⟨od,J,hl⟩:=I.look
 refine PySem.W.set_plain X J hs (PySem.W.osa_open (s:={ s with toks:=s.toks+1 }) (r:=none) X J hp ht fun b=>?_)
 obtain ⟨cd,hc,BO⟩:=PySem.W.any_some hh
 have hx:s.heap.get? x=some ⟨.ref C,some dx, .plain, #[]⟩:=I.obj
 refine wpAny_bind (wpAny_pure (wpAny_bind (wpAny_bind (wpAny_loadPart hx (wpAny_bind (PySem.W.Looks.here (s:={ s with toks:=s.toks+1 }) (PySem.W.looks_clsIn X hc) ?_))))))
 rw[BO]
 refine wpAny_pure (a:=some dx) (wpAny_bind (wpAny_pure (wpAny_bind ?_)))
 refine wpAny_nsSet1 (s:={ s with toks:=s.toks+1 }) I.ns fun h' vM Qb=>?_
 obtain ⟨oD,esD,epD,XD,XE,XF⟩:=vM.count (PySem.Within.cons name v hw)
 refine wpAny_bind (wpAny_lookBehind XD (by rw[XE];exact pastItsLine_dict (Qa8 XF (by rw[Qar];lia))) ?_)
 exact wpAny_pure (h _ ⟨(Qb.2 _ (Ne.symm I.ne)).trans I.obj,vM,I.ne⟩ Qb)
theorem DZ {R:Result->Shared->Prop} {vs:List Value} {kw:List (Str×Value)} (X:K.In s.heap) (hm:PySem.W.makesIn K C=true)
  (hi:PySem.W.findIn K (.ref C) "__init__"=some (some (.ref f))) (hf:PySem.W.typeIn K (.ref f)=some (.type "function"))
  (h:codeAny (model prog w) (A.under (.builtin "type.__call__" ⟨.ref C::vs,kw⟩)) (.call (.ref f) ⟨.ref (s.heap.objs.size+1)::vs,kw⟩) (PySem.W.InitBack (s.heap.objs.size+1) R)
   { s with heap:=(s.heap.push PySem.W.emptyDict).push (PySem.W.instObj C s.heap.objs.size) }):
  codeAny (model prog w) A (.call (.ref C) ⟨vs,kw⟩) R s:=by
 obtain ⟨hh,g,d,t,os⟩:=s
 exact PySem.W.make_core (PySem.W.makes_of X hm) (PySem.W.looks_findIn X hi) (fun self=>PySem.W.bind_fn X self hf) (.inl rfl) h
end
noncomputable def ee (f:Str) (v:V):List (Str×V)->List (Str×V)
 | []=>[(f,v)]
 |(g,x)::r=>if g=f then (g,v)::r else (g,x)::ee f v r
theorem aJ (f g:Str) (v:V): ∀fs:List (Str×V),(ee f v fs).lookup g=if g=f then some v else fs.lookup g
 | []=>by
  show List.lookup g [(f,v)]=_
  by_cases h:g=f
  ·have hb:(g==f)=true:=beq_iff_eq.mpr h
   simp only[List.lookup,hb,if_pos h]
  ·have hb:(g==f)=false:=beq_eq_false_iff_ne.mpr h
   simp only[List.lookup,hb,if_neg h]
 |(k,x)::r=>by
  have ih:=aJ f g v r
  walk_at"M"
  by_cases hk:k=f
  ·rw[if_pos hk]
   by_cases h:g=k
   ·have hb:(g==k)=true:=beq_iff_eq.mpr h
    simp only[List.lookup,hb,if_pos (h.trans hk)]
   ·have hb:(g==k)=false:=beq_eq_false_iff_ne.mpr h
    simp only[List.lookup,hb,if_neg (fun e:g=f=>h (e.trans hk.symm))]
  ·rw[if_neg hk]
   by_cases h:g=k
   ·have hb:(g==k)=true:=beq_iff_eq.mpr h
    simp only[List.lookup,hb,if_neg (fun e:g=f=>hk (h.symm.trans e))]
   ·have hb:(g==k)=false:=beq_eq_false_iff_ne.mpr h
    simp only[List.lookup,hb]
    exact ih
theorem lW (f:Str) (v:V): ∀fs:List (Str×V),f∈(ee f v fs).map (·.1)/\ ∀g,g∈fs.map (·.1)->g∈(ee f v fs).map (·.1)
 | []=>⟨by simp[ee],fun g h=>by simp at h⟩
 |(k,x)::r=>by
  obtain ⟨i1,i2⟩:=lW f v r
  walk_at"M"
  by_cases hk:k=f
  ·rw[if_pos hk]
   subst hk
   exact ⟨by simp,fun g h=>by simpa using h⟩
  ·rw[if_neg hk]
   refine ⟨?_,fun g h=>?_⟩
   ·rw[Qa7]
    exact kb _ i1
   ·rw[Qa7]at h ⊢
    rcases Qah.mp h with e | e
    ·exact Qah.mpr (.inl e)
    ·exact kb _ (i2 g e)
theorem m5 (f:Str) (v:V): ∀fs:List (Str×V),(ee f v fs).length<=fs.length+1
 | []=>by simp[ee]
 |(k,x)::r=>by
  have ih:=m5 f v r
  walk_at"M"
  by_cases hk:k=f
  ·rw[if_pos hk,Qar,Qar];lia
  ·rw[if_neg hk,Qar,Qar];lia
theorem x9.some_of {v:V} {o:Option Value} (r:x9 (some v) o): ∃u,o=some u/\RelV v u:=by
 cases o with
 | none=>exact (show False from r).elim
 | some u=>exact ⟨u,rfl,r⟩
theorem B2 {v:V} {u:Value} (r:RelV v u):PySem.W.handedIn u=true:=by
 cases v with
 | dY=>cases (show u=Value.none from r);rfl
 | bl b=>cases (show u=Value.bool b from r);rfl
 | int i=>obtain ⟨t,e⟩:=(show ∃t,u=Value.int i t from r);cases e;rfl
 | str x=>obtain ⟨t,e⟩:=(show ∃t,u=Value.str x t from r);cases e;rfl
 | Ai b=>obtain ⟨t,e⟩:=(show ∃t,u=Value.bytes b t from r);cases e;rfl
 | K7 b=>obtain ⟨t,e⟩:=(show ∃t,u=Value.float b t from r);cases e;rfl
 | ref a=>cases (show u=Value.ref a from r);rfl
 | ty n=>cases (show u=Value.type n from r);rfl
section
variable {P:Program} {w:World} {H H':Hp} {h h':Heap} {a C dx:Addr} {fs Xt:List (Str×V)}
theorem tR (bZ:lQ P w H h) (e:H a=some (.ins C dx fs)): ∃mA,BY h a dx C mA/\(∀f,x9 (fs.lookup f) (mA f))/\PySem.Within mA (fs.map (·.1))/\fs.length<=1000/\H dx=some (.own a):=by
 obtain ⟨d,z,ne,ob,mA,n,r,q⟩:=(show cH P w H h a (.ins C dx fs) from bZ a _ e)
 exact ⟨mA,⟨ob,n,ne⟩,r,q,z,d⟩
end
structure Hx (K:PySem.W.Frag) (C:Addr):Prop where
 pg:PySem.W.plainGet K C Str.empty=true
 hd:PySem.W.hasDictIn K C=true
 po:PySem.W.plainOver K C=true
 sa:PySem.W.findIn K (.ref C) "__setattr__"=some (some (.builtin "object.__setattr__"))
theorem Hx.get {K:PySem.W.Frag} {C:Addr} (c:Hx K C) (f:Str):PySem.W.plainGet K C f=true:=c.pg
def eh (K:PySem.W.Frag) (C:Addr) (f:Str):Prop:=PySem.W.findIn K (.ref C) f=some none
theorem eh.Qg {K:PySem.W.Frag} {C:Addr} {f:Str} (n:eh K C f):PySem.W.takerIn K C f=some none:=by
 unfold PySem.W.takerIn
 rw[show PySem.W.findIn K (.ref C) f=some none from n]
 rfl
section
variable {X:Cx} {pins:List (Addr×Obj)} {σ:St} {H:Hp} {s:Shared} {a C dx:Addr} {fs:List (Str×V)} {f:Str} {v:V} {A:Around} {E:Value->Shared->Prop}
theorem yp {b:Bool} {Q:Value->Shared->Prop} (I:Inv X pins σ H s) (e:H a=some (.ins C dx fs)) (c:Hx X.K C) (n:eh X.K C f) (l:fs.lookup f=some v)
  (h: ∀u s',Inv X pins σ H s'->RelV v u->Q u s'):wpAny (model X.prog X.w) A (getAttr (.ref a) f b) Q E s:=by
 obtain ⟨mA,O,r,_,_,_⟩:=tR I.bZ e
 obtain ⟨u,hu,ru⟩:=x9.some_of (v:=v) (o:=mA f) (by rw[<-l];exact r f)
 exact get_map I.nZ O (c.get f) c.hd n hu (B2 ru) (h u _ (I.tok _) ru)
theorem yq {y:V} {u:Value} {Q:Unit->Shared->Prop} (I:Inv X pins σ H s) (e:H a=some (.ins C dx fs)) (c:Hx X.K C) (n:eh X.K C f) (hl:fs.length<1000) (ry:RelV y u)
  (h: ∀s',Inv X pins σ (upd H a (.ins C dx (ee f y fs))) s'->Q () s'):wpAny (model X.prog X.w) A (setAttr (.ref a) f u) Q E s:=by
 obtain ⟨mA,O,r,wi,_,ho⟩:=tR I.bZ e
 have hz:(fs.map (·.1)).length<=sizeLine:=by rw[V6,sizeLine_eq];lia
 refine Hw I.nZ O c.sa c.po n.Qg c.hd wi hz fun h' O' sb=>h _ ?_
 have hd: ∃o,h'.get? dx=some o:=let ⟨o,_,_,e',_⟩:=O'.ns;⟨o,e'⟩
 refine I.write (x:=a) (e:=dx) (by rw[e];exact True.intro) (.inr ho) (fun b q hb z=>(sb.2 b hb).trans z) hd ?_
 refine ⟨by rw[az O.ne];exact ho,?_,O.ne,O'.obj,_,O'.ns,fun g=>?_,fun g hg=>?_⟩
 ·have:=m5 f y fs;lia
 ·show x9 ((ee f y fs).lookup g) (if g=f then some u else mA g)
  rw[aJ]
  by_cases q:g=f
  ·rw[if_pos q,if_pos q];exact ry
  ·rw[if_neg q,if_neg q];exact r g
 ·by_cases q:g=f
  ·rw[q];exact (lW f y fs).1
  ·refine (lW f y fs).2 g (wi g fun z=>hg ?_)
   show (if g=f then some u else mA g)=none
   rw[if_neg q];exact z
theorem Inv.made (I:Inv X pins σ H s):Inv X pins σ (upd (upd H s.heap.objs.size (.own (s.heap.objs.size+1))) (s.heap.objs.size+1) (.ins C s.heap.objs.size []))
  { s with heap:=(s.heap.push PySem.W.emptyDict).push (PySem.W.instObj C s.heap.objs.size) }:=by
 have e1:(s.heap.push PySem.W.emptyDict).get? s.heap.objs.size=some PySem.W.emptyDict:=Qal s.heap rfl
 have e2:((s.heap.push PySem.W.emptyDict).push (PySem.W.instObj C s.heap.objs.size)).get? (s.heap.objs.size+1)=some (PySem.W.instObj C s.heap.objs.size):=by
  have:=Qal (s.heap.push PySem.W.emptyDict) (o:=PySem.W.instObj C s.heap.objs.size) rfl
  rwa [Qd3]at this
 have e3:(s.heap.push PySem.W.emptyDict).Ns s.heap.objs.size (fun _=>none):=⟨PySem.W.emptyDict, #[],_,e1,rfl,(fun e he=>absurd he (by simp)),fun _=>rfl⟩
 have I1:=I.laid (a:=s.heap.objs.size) (o:= .own (s.heap.objs.size+1)) (h':=s.heap.push PySem.W.emptyDict) (t':=s.toks) (fun b u q=>N5 _ q) (Sq _) ⟨_,e1⟩
 refine I1.laid (a:=s.heap.objs.size+1) (o:= .ins C s.heap.objs.size []) (t':=s.toks) (fun b u q=>N5 _ q) (Nat.le_of_eq (Qd3 _ _)) ?_
 have ne:s.heap.objs.size≠s.heap.objs.size+1:=Qaq (Qcc _)
 refine ⟨by rw[az ne,ag],Qaa _,ne,e2,fun _=>none,(Heap.Ns1.of_empty e3).at fun o q=>N5 _ q,fun _=>True.intro,fun y hy=>absurd rfl hy⟩
theorem Hy {prog:Program} {w:World} {env:Env} {e:Expr} {f:Str} {pos:Pos} {s:Shared} {Q:Value->Shared->Prop} (hb:attributeBase e f env (eval e env)=eval e env)
  (h:wpAny (model prog w) A (eval e env) (fun o s₁=>wpAny (model prog w) A (getAttr o f true) Q E s₁) E s):wpAny (model prog w) A (eval (.Attribute e f pos) env) Q E s:=
 Attribute_any_ h (by rw[arm_eval_Attribute,hb])
end
def Qh (K:PySem.W.Frag) (ta:TE) (f:Str):TE:=fun σ H Q=>ta σ H fun x H1=> ∃a C dx fs v,x= .ref a/\H1 a=some (.ins C dx fs)/\Hx K C/\eh K C f/\fs.lookup f=some v/\Q v H1
def Uc (K:PySem.W.Frag) (ta tv:TE) (f:Str):TS:=fun D σ H=>tv σ H fun y H1=>ta σ H1 fun x H2=> ∃a C dx fs,x= .ref a/\H2 a=some (.ins C dx fs)/\Hx K C/\eh K C f/\fs.length<1000/\
 D.nx σ (upd H2 a (.ins C dx (ee f y fs)))
section
variable {X:Cx} {o e value:Expr} {f:Str} {pos pos' Qi:Pos} {ta tv:TE}
theorem Ls (he:PE X e ta) (hb:attributeBase e f X.env (eval e X.env)=eval e X.env):PE X (.Attribute e f pos) (Qh X.K ta f):=by
 walk_at"g"
 refine Hy hb (cy (he pins s σ H _ I h) fun u s1 ⟨x,H1,I1,rx,a,C,dx,fs,v,ex,ea,c,n,l,q⟩=>?_)
 subst ex
 obtain rfl:u=Value.ref a:=rx
 exact yp I1 ea c n l fun u' s2 I2 ru=>⟨v,H1,I2,ru,q⟩
theorem i0 (ha:PE X o ta) (hv:PE X value tv) (hs:swapsWith value (some (.Attribute o f pos')) pos.line X.env=pure false):PS X (.Assign [.Attribute o f pos'] value pos) (Uc X.K ta tv f):=by
 walk_at"A"
 refine plainObj_wpAny_Assign_Attribute (cy (hv pins s σ H _ I h) fun u s1 ⟨y,H1,I1,ry,q⟩=>cy (ha pins s1 σ H1 _ I1 q) fun ov s2 ⟨x,H2,I2,rx,a,C,dx,fs,ex,ea,c,n,l,q2⟩=>?_) hs
 subst ex
 obtain rfl:ov=Value.ref a:=rx
 exact yq I2 ea c n l ry fun s3 I3=>⟨σ,_,I3,q2⟩
end
section
variable {X:Cx} {pins:List (Addr×Obj)} {σ:St} {H:Hp} {s:Shared} {A:Around} {E:Value->Shared->Prop} {Q:Value->Shared->Prop} {c:Value} {b:Bool}
inductive nG (K:PySem.W.Frag) (H:Hp):V->Value->Prop where
 | dY:nG K H .dY (.type "NoneType")
 | bl (x:Bool):nG K H (.bl x) (.type "bool")
 | int (i:Int):nG K H (.int i) (.type "int")
 | str (x:Str):nG K H (.str x) (.type "str")
 | K7 (x:UInt64):nG K H (.K7 x) (.type "float")
 | lst {a:Addr} {xs:List V} (e:H a=some (.lst xs)):nG K H (.ref a) (.type "list")
 | Aj {a:Addr} {o:Obj} {xs:List V} (e:H a=some (.Aj o (.lst xs))):nG K H (.ref a) (.type "list")
 | tup {a:Addr} {xs:List V} (e:H a=some (.tup xs)):nG K H (.ref a) (.type "tuple")
 | dK {a:Addr} {eL:List (Key×V)} (e:H a=some (.dK eL)):nG K H (.ref a) (.type "dict")
 | dT {a:Addr} {eL:List (List Key×V)} (e:H a=some (.dT eL)):nG K H (.ref a) (.type "dict")
 | ins {a C dx:Addr} {fs:List (Str×V)} (e:H a=some (.ins C dx fs)) (cl:Hx K C) (ha:PySem.W.findIn K (.ref C) "__class__"=some (some (.builtin "object.__class__")))
   (hn:PySem.W.specialIn K (.builtin "object.__class__") "__get__"=some (some (.builtin "getset_descriptor.__get__"))) (VZ:PySem.W.takesIn K (.builtin "object.__class__")=some true)
   (hm:PySem.W.mroIn K C (.type "object")=some true):nG K H (.ref a) (.ref C)
theorem B3 {x:V} {u t:Value} (I:Inv X pins σ H s) (rx:RelV x u) (ty:nG X.K H x t) (e:PySem.W.kitOne X.K t c=some b) (h: ∀tk,Q (.bool b) { s with toks:=tk }):
  wpAny (model X.prog X.w) A (call (.builtin "isinstance") [u,c]) Q E s:=by
 cases ty with
 | dY=>cases (show u=Value.none from rx);exact Qbs PySem.W.kitx_none I.nZ True.intro e (fun z=>nomatch z) h
 | bl y=>cases (show u=Value.bool y from rx);exact Qbs PySem.W.kitx_bool I.nZ True.intro e (fun z=>nomatch z) h
 | int i=>obtain ⟨t,q⟩:=(show ∃t,u=Value.int i t from rx);cases q;exact Qbs PySem.W.kitx_int I.nZ True.intro e (fun z=>nomatch z) h
 | str y=>obtain ⟨t,q⟩:=(show ∃t,u=Value.str y t from rx);cases q;exact Qbs PySem.W.kitx_str I.nZ True.intro e (fun z=>nomatch z) h
 | K7 y=>obtain ⟨t,q⟩:=(show ∃t,u=Value.float y t from rx);cases q;exact Qbs PySem.W.kitx_float I.nZ True.intro e (fun z=>nomatch z) h
 | @lst a xs ea=>
  cases (show u=Value.ref a from rx)
  obtain ⟨_,_,n,_,h1⟩:=(show cH X.prog X.w H s.heap a (.lst xs) from I.bZ a _ ea)
  exact Qbs PySem.W.kitx_list I.nZ ⟨_,h1,rfl⟩ e (fun z=>nomatch z) h
 | @Aj a ob xs ea=>
  cases (show u=Value.ref a from rx)
  obtain ⟨_,_,_,n,_,h1⟩:=(show cH X.prog X.w H s.heap a (.Aj ob (.lst xs)) from I.bZ a _ ea)
  exact Qbs PySem.W.kitx_list I.nZ ⟨_,h1,rfl⟩ e (fun z=>nomatch z) h
 | @tup a xs ea=>
  cases (show u=Value.ref a from rx)
  obtain ⟨_,_,_,p⟩:=(show cH X.prog X.w H s.heap a (.tup xs) from I.bZ a _ ea)
  obtain ⟨o,h1,h2,_⟩:=p
  exact Qbs PySem.W.kitx_tuple I.nZ ⟨o,h1,h2⟩ e (fun z=>nomatch z) h
 | @dK a eL ea=>
  cases (show u=Value.ref a from rx)
  obtain ⟨_,_,vs,_,p⟩:=(show cH X.prog X.w H s.heap a (.dK eL) from I.bZ a _ ea)
  obtain ⟨o,es,ep,h1,h2,_⟩:=p
  exact Qbs PySem.W.kitx_dict I.nZ ⟨o,h1,h2.1⟩ e (fun z=>nomatch z) h
 | @dT a eL ea=>
  cases (show u=Value.ref a from rx)
  obtain ⟨_,_,xs,_,o,es,ep,h1,h2,_⟩:=(show cH X.prog X.w H s.heap a (.dT eL) from I.bZ a _ ea)
  exact Qbs PySem.W.kitx_dict I.nZ ⟨o,h1,h2.1⟩ e (fun z=>nomatch z) h
 | @ins a C dx fs ea cl ha hn VZ hm=>
  cases (show u=Value.ref a from rx)
  obtain ⟨mA,O,_⟩:=tR I.bZ ea
  obtain ⟨od,J,_⟩:=O.look
  exact Qbs (PySem.W.kitx_own (cl.get _) cl.hd ha hn VZ hm) I.nZ J e (fun z=>nomatch z) h
end
structure ez (k:Nat) (A:Around):Prop where
 hd:A.handled=none
 dp:A.depth+3*k+5<recursionLimit
 un:A.units+16*k+200<cLine
 gd:A.guards=some []
theorem ez.mono {j k:Nat} {A:Around} (r:ez k A) (h:j<=k):ez j A:=⟨r.hd,by have:=r.dp;lia,by have:=r.un;lia,r.gd⟩
theorem ez.deeper {k:Nat} {A:Around} (r:ez (k+1) A) (env:Env):ez k (A.deeper env):=
 ⟨r.hd,by have:=r.dp;show A.depth+1+3*k+5<_;lia,by have:=r.un;show A.units+3+16*k+200<_;lia,r.gd⟩
theorem yr {A:Around} {C:Addr} {us:List Value} {kw:List (Str×Value)}:(A.under (.builtin "type.__call__" ⟨.ref C::us,kw⟩)).depth=A.depth+1:=by
 first | rfl | simp[Around.under,Code.weight,Code.isCreation,Code.isGuard,Code.isCaller,Code.frames,Code.isFrame,guardIds]
theorem yt {A:Around} {C:Addr} {us:List Value} {kw:List (Str×Value)}:(A.under (.builtin "type.__call__" ⟨.ref C::us,kw⟩)).units=A.units+1:=by
 first | rfl | simp[Around.under,Code.cUnits,Code.frames,Code.isFrame]
theorem ez.make {k:Nat} {A:Around} (r:ez (k+1) A) (C:Addr) (us:List Value) (kw:List (Str×Value)):ez k (A.under (.builtin "type.__call__" ⟨.ref C::us,kw⟩)):=
 ⟨r.hd,by have:=r.dp;rw[yr];lia,by have:=r.un;rw[yt];lia,by first | exact r.gd | (simpa [Around.under,Code.guards,Code.isGuard,pushGuards,guardIds]using r.gd)⟩
theorem ez.depth {k:Nat} {A:Around} (r:ez k A):A.depth<recursionLimit:=by have:=r.dp;lia
theorem ez.units {k:Nat} {A:Around} (r:ez k A):A.units+64<cLine:=by have:=r.un;lia
def Ud:TA:=fun _ H Q=>Q [] H
def Qj (ta:TE) (tr:TA):TA:=fun σ H Q=>ta σ H fun x H1=>tr σ H1 fun xs H2=>Q (x::xs) H2
section
variable {X:Cx} {e:Expr} {es:List Expr} {te:TE} {t:TA} {pos:Pos}
theorem ae:PA X [] Ud:=fun _ _ _ _ H Q I h=>Calls.spliced_nil ⟨[],H,I, .nil,h⟩
theorem aa (ha:PE X e te) (hr:PA X es t) (hs:starEach (e::es) X.env=(false,eval e X.env)::starEach es X.env:=by rfl):PA X (e::es) (Qj te t):=by
 intro pos pins s σ H Q I h
 rw[hs]
 show wpAny _ _ (spliced ((false,eval e X.env)::backTo pos (starEach es X.env))) _ _ s
 refine Calls.spliced_cons (cy (ha pins s σ H _ I h) fun u s1 ⟨x,H1,I1,r1,q1⟩=>?_)
 exact cy (hr pos pins s1 σ H1 _ I1 q1) fun us s2 ⟨xs,H2,I2,r2,q2⟩=>⟨x::xs,H2,I2, .cons r1 r2,q2⟩
def Ue (t:TA):TE:=fun σ H Q=>t σ H fun xs H1=>xs.length<=sizeLine/\ ∀p,H1 p=none->Q (.ref p) (upd H1 p (.tup xs))
def Ug (t:TA):TE:=fun σ H Q=>t σ H fun xs H1=>xs.length<=sizeLine/\ ∀p,H1 p=none->Q (.ref p) (upd H1 p (.lst xs))
theorem bc {x1} (h:PA X es t):PE X (.Tuple es x1 pos) (Ue t):=by
 intro pins s σ H Q I hq
 refine wpAny_Tuple_spliced (cy (h pos pins s σ H _ I hq) fun us s1 ⟨xs,H1,I1,r,z,q⟩=>⟨by rw[<-r.length];exact z,?_⟩)
 have hf:H1 s1.heap.objs.size=none:=I1.bZ.fresh (Sq _)
 refine ⟨.ref s1.heap.objs.size,upd H1 s1.heap.objs.size (.tup xs),I1.laid (t':=s1.toks) (fun b u e=>N5 _ e) (Sq _) ?_,rfl,q _ hf⟩
 exact ⟨z,us,r,⟨_,Qal _ rfl,rfl,_,rfl⟩⟩
theorem cu (h:PA X es t):PE X (.List es pos) (Ug t):=by
 intro pins s σ H Q I hq
 refine wpAny_List_spliced (cy (h pos pins s σ H _ I hq) fun us s1 ⟨xs,H1,I1,r,z,q⟩=>⟨by rw[<-r.length];exact z,?_⟩)
 have hf:H1 s1.heap.objs.size=none:=I1.bZ.fresh (Sq _)
 refine ⟨.ref s1.heap.objs.size,upd H1 s1.heap.objs.size (.lst xs),I1.laid (t':=s1.toks) (fun b u e=>N5 _ e) (Sq _) ?_,rfl,q _ hf⟩
 exact ⟨z,us,0,r,Qal _ rfl⟩
end
abbrev Sp:=List V->Hp->VK->XK->Prop
abbrev B4:=List Env->Hp->Shared->XK->Value->Shared->Prop
structure yu (P:Program) (w:World) (K:PySem.W.Frag) (mg:Str->Option Value) (base:Heap) (A:Around) (outer:List Env) (s:Shared) (H:Hp):Prop where
 frames:A.frames=some outer
 mod:Mod K mg base
 bs: ∀b o,base.get? b=some o->s.heap.get? b=some o/\H b=none
 Ho:base.objs.size<=s.heap.objs.size
 nB:s.heap.FunFrames base outer
 K9: ∀b∈Ak outer,H b=none
 bZ:lQ P w H s.heap
 bare:AllBare s.gens
def CE (outer:List Env) (P:Program) (w:World) (H:Hp) (s:Shared) (Q:VK) (u:Value) (s':Shared):Prop:=
 ∃v H',s'.os=s.os/\AllBare s'.gens/\Un (Ak outer) [] H H' s.heap s'.heap/\lQ P w H' s'.heap/\RelV v u/\Q v H'
def CR (CX:B4) (outer:List Env) (P:Program) (w:World) (H:Hp) (s:Shared) (Q:VK) (E:XK) (r:Result) (s':Shared):Prop:=
 match r with
 | .ok (.ret u)=>CE outer P w H s Q u s'
 | .ok _=>False
 | .error e=>CX outer H s E e s'
structure bF (P:Program) (w:World) (K:PySem.W.Frag) (mg:Str->Option Value) (base:Heap) (CX:B4) (k:Nat) (f:Addr) (fd:FuncData) (ps:List Str) (sp:Sp):Prop where
 len: ∀vs H Q E,sp vs H Q E->vs.length=ps.length
 run: ∀(A:Around) (outer:List Env) (s:Shared) (H:Hp) (args:Args) (us:List Value) (vs:List V) (Q:VK) (E:XK),ez k A->yu P w K mg base A outer s H->BindsTo s fd args (ps.zip us)->Vals vs us->sp vs H Q E->
  codeAny (model P w) A (.call (.ref f) args) (CR CX outer P w H s Q E) s
theorem yu.make {P:Program} {w:World} {K:PySem.W.Frag} {mg:Str->Option Value} {base:Heap} {A:Around} {outer:List Env} {s:Shared} {H:Hp} (e:yu P w K mg base A outer s H) (C:Addr) (us:List Value) (kw:List (Str×Value)):
  yu P w K mg base (A.under (.builtin "type.__call__" ⟨.ref C::us,kw⟩)) outer s H:=⟨by first | exact e.frames | (simpa [Around.under,Code.envs,Code.isFrame,pushEnvs]using e.frames),e.mod,e.bs,e.Ho,e.nB,e.K9,e.bZ,e.bare⟩
section
variable {X:Cx} {pins:List (Addr×Obj)} {σ:St} {H:Hp} {s s':Shared}
theorem Inv.Qk (I:Inv X pins σ H s):yu X.prog X.w X.K X.mg X.base X.A X.stack s H:=
 ⟨I.ok.frames,I.ok.mod,I.bs,Qa8 I.ok.Ho I.sz,I.stack,I.Al,I.bZ,I.bare⟩
theorem Inv.after {Q:VK} {u:Value} (I:Inv X pins σ H s) (h:CE X.stack X.prog X.w H s Q u s'):EP X pins σ Q u s':=by
 obtain ⟨v,H',os,bare,un,bZ,r,q⟩:=h
 obtain ⟨hh,g,d,t,G6⟩:=s'
 obtain rfl:G6=s.os:=os
 exact ⟨v,H',I.call (h':=hh) (g':=g) (d':=d) (t':=t) (ch:=[]) un bZ bare (fun b z=>absurd z (by simp)),r,q⟩
end
def Ql (sp:Sp) (dvs:List V) (E:XK) (t:TA):TE:=fun σ H Q=>t σ H fun vs H1=>sp (vs++dvs) H1 Q E
def Qm (C:Addr) (sp:Sp) (dvs:List V) (E:XK) (t:TA):TE:=fun σ H Q=>t σ H fun vs H1=> ∀x dx,H1 x=none->H1 dx=none->dx≠x->
 sp (.ref x::(vs++dvs)) (upd (upd H1 dx (.own x)) x (.ins C dx [])) (fun v H2=>v= .dY/\Q (.ref x) H2) E
def Binds (K:PySem.W.Frag) (fd:FuncData) (ps:List Str) (ds:List Value):Prop:=
 ∀(s:Shared) (us:List Value),K.In s.heap->(us++ds).length=ps.length->BindsTo s fd ⟨us,[]⟩ (ps.zip (us++ds))
theorem Binds.all {K:PySem.W.Frag} {fd:FuncData} {ps:List Str} (h: ∀us:List Value,us.length=ps.length->bindArgs fd ⟨us,[]⟩=pure (ps.zip us)):Binds K fd ps []:=fun s us _ hl=>by
 rw[Qaw]at hl ⊢
 exact .of_eq (h us hl)
def Passes (CX:B4) (X:Cx) (E:XK):Prop:= ∀(pins:List (Addr×Obj)) (σ:St) (H:Hp) (s:Shared) (e:Value) (s':Shared),Inv X pins σ H s->CX X.stack H s E e s'->X.xe e s'
section
variable {X:Cx} {CX:B4} {k:Nat} {f C:Addr} {fd:FuncData} {ps:List Str} {sp:Sp} {dvs:List V} {ds:List Value} {E:XK} {x m:Str} {p pos apos:Pos} {e o:Expr} {es:List Expr} {ta:TE} {t:TA}
theorem yv {pins:List (Addr×Obj)} {σ:St} {H:Hp} {s:Shared} {Q:VK} {us:List Value} {vs:List V} (F:bF X.prog X.w X.K X.mg X.base CX k f fd ps sp) (hr:ez k X.A) (hb:Binds X.K fd ps ds) (hd:Vals dvs ds) (hx:Passes CX X E)
  (I:Inv X pins σ H s) (r:Vals vs us) (h:sp (vs++dvs) H Q E):wpAny (model X.prog X.w) X.A (call (.ref f) us) (EP X pins σ Q) X.xe s:=by
 have r2:Vals (vs++dvs) (us++ds):=r.append hd
 have hl:(us++ds).length=ps.length:=by rw[<-r2.length];exact F.len _ _ _ _ h
 refine wpAny_call (codeAny_mono (F.run X.A X.stack s H ⟨us,[]⟩ (us++ds) (vs++dvs) Q E hr I.Qk (hb s us I.nZ hl) r2 h) fun r s' hq=>?_)
 cases r with
 | error e=>exact hx pins σ H s e s' I hq
 | ok fl=>
  cases fl with
  | ret u=>exact I.after hq
  | next=>exact False.elim hq
  | brk=>exact False.elim hq
  | cont=>exact False.elim hq
theorem ak (F:bF X.prog X.w X.K X.mg X.base CX k f fd ps sp) (hr:ez k X.A) (hg:Gl X x) (hm:X.mg x=some (.ref f)) (hk:PySem.W.keepIn X.K (.ref f)=true) (hb:Binds X.K fd ps ds) (hd:Vals dvs ds) (hx:Passes CX X E)
  (ha:PA X (e::es) t) (Hz:(x==("__debug__":Str))=false:=by decide) (he:starEach (e::es) X.env=(false,eval e X.env)::starEach es X.env:=by rfl) (iT:(backTo pos (starEach es X.env)).any (·.1)=false:=by rfl):
  PE X (.Call (.Name x p) (e::es) [] pos) (Ql sp dvs E t):=by
 walk_at"g"
 refine wpAny_Call_Name_kw (tL I hg hm ?_ Hz)
 refine Qd9 (h₀:=X.base) I.ok.mod.NX hk (cy (ha pos pins s σ H _ I h) fun us s1 ⟨vs,H1,I1,r,q⟩=>⟨I1.nZ,?_⟩) he iT
 exact yv F hr hb hd hx I1 r q
structure Mk (K:PySem.W.Frag) (C f:Addr):Prop where
 makes:PySem.W.makesIn K C=true
 init:PySem.W.findIn K (.ref C) "__init__"=some (some (.ref f))
 fn:PySem.W.isFn K (.ref f)=true
 kp:PySem.W.keepIn K (.ref C)=true
theorem D0 {pins:List (Addr×Obj)} {σ:St} {H:Hp} {s:Shared} {Q:VK} {us:List Value} {vs:List V} (M:Mk X.K C f) (F:bF X.prog X.w X.K X.mg X.base CX k f fd ps sp) (hr:ez (k+1) X.A) (hb:Binds X.K fd ps ds) (hd:Vals dvs ds)
  (hx:Passes CX X E) (I:Inv X pins σ H s) (r:Vals vs us)
  (h: ∀x dx,H x=none->H dx=none->dx≠x->sp (.ref x::(vs++dvs)) (upd (upd H dx (.own x)) x (.ins C dx [])) (fun v H2=>v= .dY/\Q (.ref x) H2) E):
  wpAny (model X.prog X.w) X.A (call (.ref C) us) (EP X pins σ Q) X.xe s:=by
 have hq:=h (s.heap.objs.size+1) s.heap.objs.size (I.bZ.fresh (Qb7 _)) (I.bZ.fresh (Sq _)) (Qaq (Qcc _))
 have I2:=Inv.made (C:=C) I
 have r2:Vals (V.ref (s.heap.objs.size+1)::(vs++dvs)) (Value.ref (s.heap.objs.size+1)::(us++ds)):= .cons rfl (r.append hd)
 have hl:(Value.ref (s.heap.objs.size+1)::us++ds).length=ps.length:=by
  have e:=r2.length
  rw[F.len _ _ _ _ hq]at e
  exact e.symm
 refine wpAny_call (DZ (f:=f) I.nZ M.makes M.init (beq_iff_eq.mp M.fn) (codeAny_mono (F.run _ X.stack _ _ ⟨Value.ref (s.heap.objs.size+1)::us,[]⟩ (Value.ref (s.heap.objs.size+1)::(us++ds)) _ _ E (hr.make C us [])
  (I2.Qk.make C us []) (hb _ (Value.ref (s.heap.objs.size+1)::us) I2.nZ hl) r2 hq) fun r s' N4=>?_))
 cases r with
 | error e=>exact hx pins σ _ _ e s' I2 N4
 | ok fl=>
  cases fl with
  | ret u=>
   obtain ⟨v,H',I3,rv,ev,q3⟩:=I2.after N4
   subst ev
   exact ⟨rv,⟨V.ref (s.heap.objs.size+1),H',I3,rfl,q3⟩⟩
  | next=>exact False.elim N4
  | brk=>exact False.elim N4
  | cont=>exact False.elim N4
theorem n6 (M:Mk X.K C f) (F:bF X.prog X.w X.K X.mg X.base CX k f fd ps sp) (hr:ez (k+1) X.A) (hg:Gl X x) (hm:X.mg x=some (.ref C)) (hb:Binds X.K fd ps ds) (hd:Vals dvs ds) (hx:Passes CX X E)
  (ha:PA X (e::es) t) (Hz:(x==("__debug__":Str))=false:=by decide) (he:starEach (e::es) X.env=(false,eval e X.env)::starEach es X.env:=by rfl) (iT:(backTo pos (starEach es X.env)).any (·.1)=false:=by rfl):
  PE X (.Call (.Name x p) (e::es) [] pos) (Qm C sp dvs E t):=by
 walk_at"g"
 refine wpAny_Call_Name_kw (tL I hg hm ?_ Hz)
 refine Qd9 (h₀:=X.base) I.ok.mod.NX M.kp (cy (ha pos pins s σ H _ I h) fun us s1 ⟨vs,H1,I1,r,q⟩=>⟨I1.nZ,?_⟩) he iT
 exact D0 M F hr hb hd hx I1 r q
end
structure aG (N P:List Str) (sc:Scope):Prop where
 kind:sc.kind= .function
 co:sc.isCoroutine=false
 gen:sc.isGenerator=false
 nd:N.Nodup
 pre:N.take P.length=P
 par: ∀x∈P,sc.names.lookup x=some .local\/sc.names.lookup x=some .cell
 Lu: ∀y∈sc.names,y.2≠ .free
theorem rF {kindOf:Str->Option NameKind} {x:Str}: ∀{binds:List (Str×Value)} {m:Str->Option Value},(∀v,(x,v)∉binds)->bindL kindOf binds m x=m x
 | [],_,_=>rfl
 |(n,v)::r,m,h=>by
  unfold bindL
  rw[rF fun w hw=>h w (kb _ hw)]
  split
  ·have:x≠n:=by rintro rfl;exact h v XS
   simp[this]
  ·rfl
theorem rG {kindOf:Str->Option NameKind} {x:Str}: ∀{binds:List (Str×Value)} {m:Str->Option Value},(∀v,(x,v)∉binds)->bindC kindOf binds m x=m x
 | [],_,_=>rfl
 |(n,v)::r,m,h=>by
  unfold bindC
  rw[rG fun w hw=>h w (kb _ hw)]
  split
  ·rfl
  ·have:x≠n:=by rintro rfl;exact h v XS
   simp[this]
theorem rH {kindOf:Str->Option NameKind} {x:Str} {v:Value}: ∀{P:List Str} {vs:List Value} {i:Nat} {m:Str->Option Value},P.Nodup->P[i]? =some x->vs[i]? =some v->kindOf x=some .local->
  bindL kindOf (P.zip vs) m x=some v
 | [],_,_,_,_,h,_,_=>by simp at h
 | _::_,[],_,_,_,_,h,_=>by simp at h
 | p::P,w::vs,0,m,nd,h1,h2,hk=>by
  simp at h1 h2;subst h1;subst h2
  show bindL kindOf ((p,w)::P.zip vs) m p=_
  unfold bindL
  rw[rF fun v hv=>(Qb2.mp nd).1 (Qft hv).1,if_pos hk]
  simp
 | p::P,w::vs,i+1,m,nd,h1,h2,hk=>by
  show bindL kindOf ((p,w)::P.zip vs) m x=_
  unfold bindL
  exact rH (i:=i) (Qb2.mp nd).2 (by simpa using h1) (by simpa using h2) hk
theorem rJ {kindOf:Str->Option NameKind} {x:Str} {v:Value}: ∀{P:List Str} {vs:List Value} {i:Nat} {m:Str->Option Value},P.Nodup->P[i]? =some x->vs[i]? =some v->kindOf x≠some .local->
  bindC kindOf (P.zip vs) m x=some v
 | [],_,_,_,_,h,_,_=>by simp at h
 | _::_,[],_,_,_,_,h,_=>by simp at h
 | p::P,w::vs,0,m,nd,h1,h2,hk=>by
  simp at h1 h2;subst h1;subst h2
  show bindC kindOf ((p,w)::P.zip vs) m p=_
  unfold bindC
  rw[rG fun v hv=>(Qb2.mp nd).1 (Qft hv).1,if_neg hk]
  simp
 | p::P,w::vs,i+1,m,nd,h1,h2,hk=>by
  show bindC kindOf ((p,w)::P.zip vs) m x=_
  unfold bindC
  exact rJ (i:=i) (Qb2.mp nd).2 (by simpa using h1) (by simpa using h2) hk
noncomputable def start (N:List Str) (vs:List V):St:=vs.map some++List.replicate (N.length - vs.length) none
noncomputable def B5 (CX:B4) (P:Program) (w:World) (K:PySem.W.Frag) (mg:Str->Option Value) (base:Heap) (N:List Str) (qual:Str) (scope:Scope) (f:Addr) (cd:Value) (A:Around) (outer:List Env) (s:Shared) (H:Hp) (E:XK):Cx where
 prog:=P
 w:=w
 K:=K
 mg:=mg
 base:=base
 A:=A.deeper (envOfC qual scope s.heap.objs.size f cd)
 N:=N
 s₀:=s
 H₀:=H
 env:=envOfC qual scope s.heap.objs.size f cd
 outer:=outer
 stack:=envOfC qual scope s.heap.objs.size f cd::outer
 ex:=[]
 calm:=true
 fn:=fun _=>true
 pn:=[]
 xe:=fun e s'=>wpAny (model P w) (A.deeper (envOfC qual scope s.heap.objs.size f cd)) (leaving (envOfC qual scope s.heap.objs.size f cd) e) (fun _ HB=>CX outer H s E e HB) (fun e' HB=>CX outer H s E e' HB) s'
theorem vN {sc:Scope} {n:Nat} {x:Str} (h:sc.names.lookup x=some .cell): ∃c,(cellsFrom n sc.names []).lookup x=some c:=by
 have q:=PySem.W.cellsFrom_some sc.names n [] (.inl h)
 exact Option.isSome_iff_exists.mp q
theorem B6 {CX:B4} {P:Program} {w:World} {K:PySem.W.Frag} {mg:Str->Option Value} {base:Heap} {N ps:List Str} {qual:Str} {scope:Scope} {f:Addr} {cd:Value} {A:Around} {outer:List Env} {s s1:Shared} {H:Hp} {E:XK} {us:List Value} {vs:List V}
  (S:aG N ps scope) (hd:A.handled=none) (e0:yu P w K mg base A outer s H) (hl:vs.length=ps.length) (r:Vals vs us)
  (x:InCallC s s.heap.objs.size (bindL (envOfC qual scope s.heap.objs.size f cd).kindOf (ps.zip us) fun _=>none) (cellsFrom (s.heap.objs.size+1) scope.names []) (bindC (envOfC qual scope s.heap.objs.size f cd).kindOf (ps.zip us) fun _=>none) s1):
  Inv (B5 CX P w K mg base N qual scope f cd A outer s H E) [] (start N vs) H s1:=by
 have iT:ps.length<=N.length:=by have:=congrArg List.length S.pre;rw[Qak]at this;lia
 obtain ⟨h1,tk,rfl,hk⟩:=x.done
 have Qn: ∀b:Addr,b∉(B5 CX P w K mg base N qual scope f cd A outer s H E).ex:=fun b z=>absurd (show b∈([]:List Addr) from z) (by simp)
 refine ⟨⟨e0.mod,S.kind,rfl,rfl,Sq _,fun y z c h1 h2=>?_,fun y hy=>?_,fun y c _ h=>?_,fun _=>hd,Around.frames_deeper e0.frames, .inr ⟨rfl,rfl⟩,fun b z=>absurd z (Qn b),e0.bs,e0.Ho,fun b _ _=>Qn b,fun b z=>absurd z (Qn b),e0.nB,e0.K9⟩,
  rfl,e0.bare,Un.kept hk,⟨_,x.toInCall.ns,fun i y v h1 h2 h3=>?_⟩,fun y c h=>⟨_,x.cell y c h⟩,e0.bZ.fresh (Sq _),fun y c h=>?_,fun p hp=>absurd (show p∈([]:List (Addr×Obj)) from hp) (by simp),e0.bZ.kept hk,?_⟩
 ·exact name_of_addr x.apart (Qda h1) (Qda h2)
 ·have hy:scope.names.lookup y=some .cell\/scope.names.lookup y=some .free:=hy
  rcases hy with hy | hy
  ·exact vN hy
  ·exact absurd rfl (S.Lu _ (Qda hy))
 ·exact Qcw (x.above y c (Qda h))
 ·have hi:i<vs.length:=by
   unfold start at h2
   by_cases hi:i<vs.length
   ·exact hi
   ·rw[Qbj (by simpa using hi)]at h2
    rw[List.getElem?_replicate]at h2
    split at h2<;>cases h2
  have ha:vs[i]? =some v:=by
   unfold start at h2
   rw[Qa9 (by simpa using hi),Qaj]at h2
   cases e:vs[i]? with
   | none=>rw[e]at h2;cases h2
   | some a=>rw[e]at h2;cases h2;rfl
  obtain ⟨u,hu,rv⟩:=r.get ha
  have hp:ps[i]? =some y:=by
   rw[<-S.pre,List.getElem?_take_of_lt (by lia)];exact h1
  have V0:ps.Nodup:=by rw[<-S.pre];exact S.nd.sublist (List.take_sublist _ _)
  refine ⟨u,rv,?_⟩
  rcases S.par y (Qab hp) with k | k
  ·exact .inl ⟨k,rH V0 hp hu k⟩
  ·obtain ⟨c,e⟩:=vN (n:=s.heap.objs.size+1) k
   refine .inr ⟨.inl k,c,e,?_⟩
   have q:=x.cell y c e
   rw[rJ V0 hp hu (by show scope.names.lookup y≠_;rw[k];decide)]at q
   exact q
 ·exact e0.bZ.fresh (Qcw (x.above y c (Qda h)))
 ·unfold start
  show _=N.length
  rw[V7,V6,List.length_replicate]
  lia
theorem Qo {CX:B4} {P:Program} {w:World} {K:PySem.W.Frag} {mg:Str->Option Value} {base:Heap} {k:Nat} {f:Addr} {name qual:Str} {params:Arguments} {body:List Stmt} {scope:Scope} {dV kV doc pm cP ct oc:Value} {an od:Option Addr}
  {G7:Array (Option Value)} {N ps:List Str} {sp:Sp} (lk:K.lookup f=some ⟨oc,od, .func (PySem.W.fnOf name qual params body scope dV kV doc pm an cP ct),G7⟩) (oH:PySem.W.codeIn K cP qual=true) (S:aG N ps scope)
  (len: ∀vs H Q E,sp vs H Q E->vs.length=ps.length)
  (D1: ∀(A:Around) (outer:List Env) (s:Shared) (H:Hp) (vs:List V) (Q:VK) (E:XK),ez k (A.deeper (envOfC qual scope s.heap.objs.size f cP))->sp vs H Q E->
   ∃t,yf (B5 CX P w K mg base N qual scope f cP A outer s H E) body t/\t { nx:=fun _ H'=>Q .dY H',rt:=Q } (start N vs) H):
  bF P w K mg base CX (k+1) f (PySem.W.fnOf name qual params body scope dV kV doc pm an cP ct) ps sp:=by
 refine ⟨len,fun A outer s H args us vs Q E hr e0 hb r Kd=>?_⟩
 have hl:=len _ _ _ _ Kd
 have KX:K.In s.heap:=e0.mod.NX.keeps fun b o e=>(e0.bs b o e).1
 have lim:s.heap.NoLimit:=e0.mod.nolimit.keeps fun b o e=>(e0.bs b o e).1
 have iJ: ∀y∈ps.zip us,scope.names.lookup y.1=some .local\/(scope.names.lookup y.1=some .cell/\((cellsFrom (s.heap.objs.size+1) scope.names []).lookup y.1).isSome=true):=fun ⟨n,v⟩ hy=>by
  rcases S.par n (Qft hy).1 with q | q
  ·exact .inl q
  ·exact .inr ⟨q,PySem.W.cellsFrom_some _ _ _ (.inl q)⟩
 refine codeAny_call_function hr.depth (KX _ _ lk) rfl S.co S.gen rfl (PySem.W.codeRec_of KX oH) (hb _ _ _ _ ?_)
 refine wpAny_newFunctionEnv_cells S.kind iJ fun env he s1 x=>?_
 subst he
 refine ⟨lim.keeps x.toInCall.keep,codeAny_func ?_⟩
 obtain ⟨t,ht,hq⟩:=D1 A outer s H vs Q E (hr.deeper _) Kd
 have I:Inv (B5 CX P w K mg base N qual scope f cP A outer s H E) [] (start N vs) H s1:=B6 S hr.hd e0 hl r x
 refine wpAny_mono (ht [] s1 (start N vs) H _ I hq) (fun fl s' hs=>?_) fun e s' hs=>hs
 have fin: ∀{σ':St} {H':Hp} {v:V} {u:Value},Inv (B5 CX P w K mg base N qual scope f cP A outer s H E) [] σ' H' s'->RelV v u->Q v H'->CE outer P w H s Q u s':=
  fun {σ' H' v u} J rv q=>⟨v,H',J.os,J.bare,J.base,J.bZ,rv,q⟩
 cases fl with
 | ret u=>
  obtain ⟨v,σ',H',J,rv,q⟩:=hs
  exact fin J rv q
 | next=>
  obtain ⟨σ',H',J,q⟩:=hs
  exact fin (v:=V.dY) (u:=Value.none) J rfl q
 | brk=>
  obtain ⟨_,_,_,q⟩:=hs
  exact False.elim q
 | cont=>
  obtain ⟨_,_,_,q⟩:=hs
  exact False.elim q
section
variable {X:Cx} {x:Str} {p pos:Pos} {e:Expr} {es:List Expr} {t:TA} {id T:String} {r:List V->Hp->VK->Prop}
def V1 (r:List V->Hp->VK->Prop) (t:TA):TE:=fun σ H Q=>t σ H fun vs H1=>r vs H1 Q
theorem ar (hc:cQ X (.builtin id) r) (hg:Gl X x) (hm:X.mg x=none) (hv:bootBuiltins x=some (.builtin id)) (ha:PA X (e::es) t) (hn:x≠"__name__":=by decide) (Hz:(x==("__debug__":Str))=false:=by decide)
  (he:starEach (e::es) X.env=(false,eval e X.env)::starEach es X.env:=by rfl) (iT:(backTo pos (starEach es X.env)).any (·.1)=false:=by rfl):PE X (.Call (.Name x p) (e::es) [] pos) (V1 r t):=by
 walk_at"g"
 refine wpAny_Call_Name_kw (fR I hg hm hv ?_ hn Hz)
 exact PyProof.Rows.callWith_builtin1 (cy (ha pos pins s σ H _ I h) fun us s1 ⟨vs,H1,I1,r1,q1⟩=>hc pins s1 σ H1 vs us Q I1 r1 q1) he iT
theorem cF (hc:cQ X (.type T) r) (hg:Gl X x) (hm:X.mg x=none) (hv:bootBuiltins x=some (.type T)) (ha:PA X (e::es) t) (hn:x≠"__name__":=by decide) (Hz:(x==("__debug__":Str))=false:=by decide)
  (he:starEach (e::es) X.env=(false,eval e X.env)::starEach es X.env:=by rfl) (iT:(backTo pos (starEach es X.env)).any (·.1)=false:=by rfl):PE X (.Call (.Name x p) (e::es) [] pos) (V1 r t):=by
 walk_at"g"
 refine wpAny_Call_Name_kw (fR I hg hm hv ?_ hn Hz)
 exact Qbh (cy (ha pos pins s σ H _ I h) fun us s1 ⟨vs,H1,I1,r1,q1⟩=>hc pins s1 σ H1 vs us Q I1 r1 q1) he iT
end
end L2
namespace HT
open PySem PyProof.Rows
section
variable {prog:Program} {w:World} {A:Around} {E:Value->Shared->Prop} {s:Shared}
noncomputable def hU (n d:Nat):Option Int->Nat
 | none=>d
 | some v=>if v<0 then (v+(n:Int)).toNat else min v.toNat n
theorem i3 (n d:Nat):hU n d none=d:=rfl
theorem gk (n d k:Nat):hU n d (some (k:Int))=min k n:=by
 show (if (k:Int)<0 then ((k:Int)+(n:Int)).toNat else min (k:Int).toNat n)=min k n
 rw[if_neg (by lia),XQ]
theorem Lv (n d:Nat) (hd:d<=n) (o:Option Int):hU n d o<=n:=by
 cases o with
 | none=>exact hd
 | some v=>
  show (if v<0 then (v+(n:Int)).toNat else min v.toNat n)<=n
  by_cases hv:v<0
  ·rw[if_pos hv];lia
  ·rw[if_neg hv];exact Nat.min_le_right _ _
end
end HT
namespace L2
open PySem PySem.Spec PyProof.Rows
abbrev TO:=St->Hp->(Option Int->Hp->Prop)->Prop
def PO (X:Cx) (e:Option Expr) (t:TO):Prop:=
 ∀(pins:List (Addr×Obj)) (s:Shared) (σ:St) (H:Hp) (Q:Option Int->Hp->Prop),Inv X pins σ H s->t σ H Q->
  wpAny (model X.prog X.w) X.A (evalPart e X.env) (fun u s'=> ∃o H',Inv X pins σ H' s'/\IsPart u o/\Q o H') X.xe s
def HC:TO:=fun _ H Q=>Q none H
def Qp (t:TE):TO:=fun σ H Q=>t σ H fun x H1=> ∃i,x= .int i/\Q (some i) H1
theorem intsAre_of {ns:List Int}: ∀{us:List Value},Vals (ns.map V.int) us->IntsAre us ns:=by
 induction ns with
 | nil=>intro us r;rw[List.map_nil]at r;cases r;exact .nil
 | cons n ns ih=>
  intro us r
  rw[Qa7]at r
  cases r with
  | cons r1 r2=>
   obtain ⟨t,e⟩:=r1
   subst e
   exact .cons n t (ih r2)
section
variable {X:Cx} {e:Expr} {te:TE} {lo hi:Option Expr} {tl th:TO} {pos p2:Pos}
theorem ck:PO X none HC:=by
 walk_at"g"
 rw[evalPart_none]
 exact wpAny_pure ⟨none,H,I, .none,h⟩
theorem bf (h:PE X e te):PO X (some e) (Qp te):=by
 intro pins s σ H Q I hw
 rw[evalPart_some]
 refine cy (h pins s σ H _ I hw) fun u s1 ⟨x,H1,I1,r1,q1⟩=>?_
 obtain ⟨i,rfl,q⟩:=q1
 obtain ⟨t,rfl⟩:=r1
 exact ⟨some i,H1,I1, .int i t,q⟩
def Sk (X:Cx) (r:V->Option Int->Option Int->Hp->VK->Prop):Prop:=
 ∀(pins:List (Addr×Obj)) (s:Shared) (σ:St) (H:Hp) (x:V) (v vl vu:Value) (lo hi:Option Int) (sl:Addr) (Q:VK),Inv X pins σ H s->RelV x v->s.heap.IsSliceOf sl vl vu .none->IsPart vl lo->IsPart vu hi->r x lo hi H Q->
  ∃T id,typeLookup (.type T) "__getitem__"=pure (some (.builtin id))/\s.TypeIs v T/\wpAny (model X.prog X.w) X.A (getItem v (.ref sl)) (EP X pins σ Q) X.xe s
def XH (r:V->Option Int->Option Int->Hp->VK->Prop) (te:TE) (tl th:TO):TE:=fun σ H Q=>te σ H fun x H1=>tl σ H1 fun l H2=>th σ H2 fun u H3=>r x l u H3 Q
theorem bh {r:V->Option Int->Option Int->Hp->VK->Prop} (hr:Sk X r) (he:PE X e te) (hl:PO X lo tl) (hu:PO X hi th):PE X (.Subscript e (.Slice lo hi none p2) pos) (XH r te tl th):=by
 walk_at"g"
 refine Subscript_ (cy (he pins s σ H _ I h) fun v s1 ⟨x,H1,I1,r1,q1⟩=>?_)
 refine wpAny_Slice (cy (hl pins s1 σ H1 _ I1 q1) fun vl s2 ⟨l,H2,I2,pl,q2⟩=>cy (hu pins s2 σ H2 _ I2 q2) fun vu s3 ⟨u,H3,I3,pu,q3⟩=>?_)
 rw[evalPart_none]
 walk_at"1"
 have I4:Inv X pins σ H3 { s3 with heap:=s3.heap.push { cls:= .type "slice",data:= .fields #[vl,vu, .none] } }:=I3.kept (t':=s3.toks) fun b ob q=>N5 _ q
 obtain ⟨T,id,hT,ht,hg⟩:=hr pins { s3 with heap:=s3.heap.push { cls:= .type "slice",data:= .fields #[vl,vu, .none] } } σ H3 x v vl vu l u s3.heap.objs.size Q I4 r1 (Heap.IsSliceOf.new ..) pl pu q3
 show wpAny (model X.prog X.w) X.A (subscriptTail e (.Slice lo hi none p2) v (.ref s3.heap.objs.size)) (EP X pins σ Q) X.xe { s3 with heap:=s3.heap.push { cls:= .type "slice",data:= .fields #[vl,vu, .none] } }
 exact tail_any (ops:=[.ref s3.heap.objs.size,v]) ht hT hg (by with_unfolding_all rfl)
noncomputable def nH (xs:List V) (lo hi:Option Int):List V:=(xs.drop (HT.hU xs.length 0 lo)).take (HT.hU xs.length xs.length hi - HT.hU xs.length 0 lo)
theorem m6 (xs:List V) (lo hi:Option Int):(nH xs lo hi).length<=xs.length:=by
 unfold nH
 rw[Qak,Qat]
 lia
end
noncomputable def G8 (n:Nat) (i:Int):Option Nat:=if 0<=i then (if i<n then some i.toNat else none) else if -(n:Int)<=i then some (i+n).toNat else none
noncomputable def oM {α:Type} (xs:List α) (i:Int):Option α:=(G8 xs.length i).bind fun j=>xs[j]?
theorem Ar {n:Nat} {i:Int} {j:Nat} (h:G8 n i=some j):seqIndex? i n=some j/\j<n/\ -(n:Int)<=i/\i<n:=by
 unfold G8 at h
 by_cases h0:0<=i
 ·rw[if_pos h0]at h
  by_cases h1:i<n
  ·rw[if_pos h1]at h
   have e:i.toNat=j:=Qan h
   exact ⟨by rw[seqIndex_of h0 h1,e],by lia,by lia,h1⟩
  ·rw[if_neg h1]at h;cases h
 ·rw[if_neg h0]at h
  by_cases h1: -(n:Int)<=i
  ·rw[if_pos h1]at h
   have e:(i+n).toNat=j:=Qan h
   exact ⟨by rw[seqIndex_neg (by lia) h1,e],by lia,h1,by lia⟩
  ·rw[if_neg h1]at h;cases h
theorem tT {α:Type} {xs:List α} {i:Int} {v:α} (h:oM xs i=some v): ∃j,seqIndex? i xs.length=some j/\xs[j]? =some v/\j<xs.length/\ -(xs.length:Int)<=i/\i<xs.length:=by
 unfold oM at h
 cases e:G8 xs.length i with
 | none=>rw[e]at h;cases h
 | some j=>
  rw[e]at h
  obtain ⟨h1,h2,h3,h4⟩:=Ar e
  exact ⟨j,h1,h,h2,h3,h4⟩
theorem bL {α:Type} {xs:List α} {j:Nat} {v:α} (h:xs[j]? =some v):oM xs (j:Int)=some v:=by
 have hj:j<xs.length:=(LK.mp h).1
 have e:G8 xs.length (j:Int)=some j:=by
  unfold G8
  rw[if_pos (by lia),if_pos (by lia)];simp
 unfold oM;rw[e];exact h
theorem D5 {α:Type} (xs:List α) (v:α):oM (xs++[v]) (-1)=some v:=by
 have hl:(xs++[v]).length=xs.length+1:=by simp
 have e:G8 (xs++[v]).length (-1)=some xs.length:=by
  unfold G8
  rw[hl,if_neg (by decide),if_pos (by lia)]
  congr 1
  lia
 unfold oM
 rw[e]
 show (xs++[v])[xs.length]? =some v
 simp
def HD (b:Expr):Prop:= ∀o i,subscripted b false o i=operate [o,i] (getItem o i)
def Lw (X:Cx) (r:R2):Prop:=
 ∀(value slice:Expr) (pins:List (Addr×Obj)) (s:Shared) (σ:St) (H:Hp) (x y:V) (v u:Value) (Q:VK),Inv X pins σ H s->RelV x v->RelV y u->r x y H Q->
  subscripted slice false v u=operate [v,u] (getItem v u)->wpAny (model X.prog X.w) X.A (subscriptTail value slice v u) (EP X pins σ Q) X.xe s
def B7 (X:Cx) (id:String) (r:V->List V->Hp->VK->Prop):Prop:=
 ∀(pins:List (Addr×Obj)) (s:Shared) (σ:St) (H:Hp) (x:V) (xs:List V) (v:Value) (us:List Value) (Q:VK),Inv X pins σ H s->RelV x v->Vals xs us->r x xs H Q->
  wpAny (model X.prog X.w) X.A (call (.builtin id) (v::us)) (EP X pins σ Q) X.xe s
section
variable {X:Cx} {a b:Expr} {ta tb:TE} {pos:Pos}
theorem aN {r:R2} (hr:Lw X r) (ha:PE X a ta) (hb:PE X b tb) (hs:HD b):PE X (.Subscript a b pos) (Si r ta tb):=by
 walk_at"g"
 exact Subscript_ (Lp ha hb I h fun v u s2 x y H2 I2 rx ry q=>hr a b pins s2 σ H2 x y v u Q I2 rx ry q (hs _ _))
def Qq (K:PySem.W.Frag):R2:=fun x y H Q=> ∃p xs i v,x= .ref p/\y= .int i/\aZ K H p xs/\oM xs i=some v/\Q v H
def Qr (K:PySem.W.Frag):R2:=fun x y H Q=> ∃p xs i v,x= .ref p/\y= .int i/\bE K H p xs/\oM xs i=some v/\Q v H
def Uh:R2:=fun x y H Q=> ∃z i c,x= .str z/\y= .int i/\z.length<=sizeLine/\oM z.cps.toList i=some c/\Q (.str ⟨#[c]⟩) H
theorem HE:Lw X (Qq X.K):=by
 walk_at"Y"
 obtain ⟨p,xs,i,z,rfl,rfl,hq,he,q⟩:=h
 cases rx
 obtain ⟨t,rfl⟩:=ry
 obtain ⟨its,r,pl,hz⟩:=I.list hq
 obtain ⟨j,h1,h2,h3,h4,h5⟩:=tT he
 obtain ⟨w,ew,BQ⟩:=r.get h2
 have hl:=r.length
 have hn:=eP
 have fin:EP X pins σ Q w s:=⟨z,H,I,BQ,q⟩
 by_cases h0:0<=i
 ·have hj:i.toNat=j:=by
   rw[seqIndex_of h0 h5]at h1
   exact Qan h1
  exact item_listR pl.isList h0 (by lia) (by rw[hj];simpa using ew) fin hs
 ·have hj:(i+(its.toArray.size:Int)).toNat=j:=by
   rw[seqIndex_neg (by lia) h4]at h1
   rw[XR, <-hl]
   exact Qan h1
  exact subscriptTail_builtinR (x:=w) pl.isList.typeIs slot_list_getitem.lookup
   (wpAny_getItem_list_neg (Q:=fun r s'=>r=w/\EP X pins σ Q r s') pl.isList (by lia) (by rw[XR]<;>lia) (by lia) (by rw[hj];simpa using ew) ⟨rfl,fin⟩) hs
theorem Ly:Lw X (Qr X.K):=by
 walk_at"Y"
 obtain ⟨p,xs,i,z,rfl,rfl,hq,he,q⟩:=h
 cases rx
 obtain ⟨t,rfl⟩:=ry
 obtain ⟨its,r,pl,hz⟩:=I.tuple hq
 obtain ⟨j,h1,h2,h3,h4,h5⟩:=tT he
 obtain ⟨w,ew,BQ⟩:=r.get h2
 have hl:=r.length
 have hn:=eP
 have fin:EP X pins σ Q w s:=⟨z,H,I,BQ,q⟩
 exact subscriptTail_builtinR (x:=w) pl.typeIs slot_tuple_getitem.lookup
  (getItem_tuple (j:=j) (Q:=fun r s'=>r=w/\EP X pins σ Q r s') pl (by lia) (by lia) (by rw[XR, <-hl];exact h1) (by simpa using ew) ⟨rfl,fin⟩) hs
theorem Lz:Lw X Uh:=by
 walk_at"Y"
 obtain ⟨z,i,c,rfl,rfl,hz,he,q⟩:=h
 walk_at"f"
 walk_at"2"
 obtain ⟨j,h1,h2,h3,h4,h5⟩:=tT he
 have hl:z.cps.toList.length=z.length:=by simp[Str.length]
 rw[hl]at h1 h4 h5
 have hn:=eP
 exact tail_any (typeIs_str s z t) slot_str_getitem.lookup (getItem_str (c:=c) (by
  have e1:decide (i< -(2 ^ 63:Int))=false:=decide_eq_false (by lia)
  have e2:decide (i ≥ 2 ^ 63)=false:=decide_eq_false (by lia)
  rw[e1,e2,Qd0]) (by rw[h1];simpa using h2) ⟨.str ⟨#[c]⟩,H,I.tok _,⟨_,rfl⟩,q⟩) hs
theorem yx (its:List Value) (n j:Nat) (u:Value):Obj.mapSeq (·.setIfInBounds j u) { cls:= .type "list",data:= .seq its.toArray n }={ cls:= .type "list",data:= .seq (its.set j u).toArray n }:=by
 simp[Obj.mapSeq]
theorem Inv.lst {pins:List (Addr×Obj)} {σ:St} {H:Hp} {s:Shared} {p:Addr} {xs:List V} (I:Inv X pins σ H s) (h:H p=some (.lst xs)):
  ∃(its:List Value) (n:Nat),Vals xs its/\s.heap.get? p=some { cls:= .type "list",data:= .seq its.toArray n }/\xs.length<=sizeLine:=by
 obtain ⟨z,its,n,r,e⟩:=I.bZ p _ h
 exact ⟨its,n,r,e,z⟩
theorem Inv.LA {pins:List (Addr×Obj)} {σ:St} {H:Hp} {s:Shared} {p:Addr} {xs ys:List V} {its its':List Value} {n n':Nat} {f:Obj->Obj} (I:Inv X pins σ H s) (h:H p=some (.lst xs))
  (ho:s.heap.get? p=some { cls:= .type "list",data:= .seq its.toArray n }) (hf:f { cls:= .type "list",data:= .seq its.toArray n }={ cls:= .type "list",data:= .seq its'.toArray n' }) (r:Vals ys its') (hz:ys.length<=sizeLine) (t:Nat):
  Inv X pins σ (upd H p (.lst ys)) { s with heap:=s.heap.update p f,toks:=t }:=by
 have e:(s.heap.update p f).get? p=some { cls:= .type "list",data:= .seq its'.toArray n' }:=by
  rw[Qbv f ho (by rw[hf]<;>rfl),hf]
 refine I.write (x:=p) (e:=p) (by rw[h];trivial) (.inl rfl) (fun b u hb q=>(Qa6 _ _ (Ne.symm hb)).trans q) ⟨_,e⟩ ?_
 exact ⟨hz,its',n',r,e⟩
def Qs:V->V->V->Hp->(Hp->Prop)->Prop:=fun o i v H Q=> ∃p xs k j,o= .ref p/\i= .int k/\H p=some (.lst xs)/\G8 xs.length k=some j/\Q (upd H p (.lst (xs.set j v)))
theorem set_list:P5 X Qs:=by
 intro pins s σ H o i v ov iv u Q I ro ri rv h
 obtain ⟨p,xs,k,j,rfl,rfl,hp,hj,q⟩:=h
 cases ro
 obtain ⟨t,rfl⟩:=ri
 obtain ⟨its,n,r,ho,hz⟩:=I.lst hp
 obtain ⟨h1,h2,h3,h4⟩:=Ar hj
 have hl:=r.length
 have hn:=eP
 have I':Inv X pins σ (upd H p (.lst (xs.set j v))) { s with heap:=s.heap.update p (Obj.mapSeq (·.setIfInBounds j u)) }:=
  I.LA hp ho (yx its n j u) (r.set rv j) (by rw[List.length_set];exact hz) s.toks
 by_cases h0:0<=k
 ·have hk:k.toNat=j:=by
   rw[seqIndex_of h0 h4]at h1
   exact Qan h1
  exact PySem.W.ki_setAt ho h0 (by lia) (by rw[XR, <-hl];exact h4) (by rw[hk];exact ⟨_,I',q⟩)
 ·have hk:(k+(its.toArray.size:Int)).toNat=j:=by
   rw[seqIndex_neg (by lia) h3]at h1
   rw[XR, <-hl]
   exact Qan h1
  exact PySem.W.ki_setBack ho (by lia) (by rw[XR, <-hl];exact h3) (by lia) (by rw[hk];exact ⟨_,I',q⟩)
theorem tV (lo hi:Option Int) (n:Nat):(sliceBounds lo hi none n).1=((HT.hU n 0 lo:Nat):Int)/\(sliceBounds lo hi none n).2.1=((HT.hU n n hi:Nat):Int)/\(sliceBounds lo hi none n).2.2=1:=by
 refine ⟨?_,?_,rfl⟩
 ·cases lo with
  | none=>simp[sliceBounds,HT.hU]
  | some i=>
   simp only[sliceBounds,HT.hU,Option.getD_none,show (1:Int)>0 by decide,if_true]
   by_cases h:i<0
   ·simp only[h,if_true]<;>lia
   ·simp only[h,if_false]<;>lia
 ·cases hi with
  | none=>simp[sliceBounds,HT.hU]
  | some i=>
   simp only[sliceBounds,HT.hU,Option.getD_none,show (1:Int)>0 by decide,if_true]
   by_cases h:i<0
   ·simp only[h,if_true]<;>lia
   ·simp only[h,if_false]<;>lia
theorem qQ (its:List Value) (lo hi:Option Int):slicePick its.toArray lo hi none=((its.drop (HT.hU its.length 0 lo)).take (HT.hU its.length its.length hi - HT.hU its.length 0 lo)).toArray:=by
 obtain ⟨h1,h2,h3⟩:=tV lo hi its.toArray.size
 unfold slicePick
 rw[h1,h2,h3]
 simp only[sliceRange_one,pick_run,XR]<;>rfl
def Qt (K:PySem.W.Frag):V->Option Int->Option Int->Hp->VK->Prop:=fun x lo hi H Q=> ∃a xs,x= .ref a/\aZ K H a xs/\ ∀p,H p=none->Q (.ref p) (upd H p (.lst (nH xs lo hi)))
theorem HF:Sk X (Qt X.K):=by
 intro pins s σ H x v vl vu lo hi sl Q I rx hs pl pu h
 obtain ⟨a,xs,rfl,hx,q⟩:=h
 cases rx
 obtain ⟨its,r,ht,hz⟩:=I.list hx
 have hlen:=r.length
 refine ⟨"list",_,slot_list_getitem.lookup,ht.isList.typeIs,?_⟩
 refine wpAny_getItem_list_slice ht.isList hs pl pu .none (by simp) ?_ (by rw[XR]<;>lia)
 rw[qQ, <-hlen]
 refine ⟨.ref s.heap.objs.size,_,I.laid (t':=s.toks) (o:= .lst (nH xs lo hi)) (fun b ob q=>N5 _ q) (Sq _) ?_,rfl,q _ (I.bZ.fresh (Sq _))⟩
 exact ⟨Qa8 (m6 xs lo hi) hz,_,0,(r.drop (HT.hU xs.length 0 lo)).take (HT.hU xs.length xs.length hi - HT.hU xs.length 0 lo),Qal _ rfl⟩
noncomputable def jX:V->Bool
 | .dY=>true
 | .bl _=>true
 | .int _=>true
 | .str _=>true
 | _=>false
noncomputable def G9:V->V->Bool
 | .dY, .dY=>true
 | .bl a, .bl b=>a==b
 | .bl a, .int b=>(if a then 1 else 0)==b
 | .int a, .bl b=>a==(if b then 1 else 0)
 | .int a, .int b=>a==b
 | .str a, .str b=>a==b
 | _,_=>false
theorem LB {A:Around} {s:Shared} {y x:V} {u v:Value} (ry:RelV y u) (rx:RelV x v) (fy:jX y=true) (fx:jX x=true):SeqAt.EqAt A s u v (G9 y x):=by
 cases y with
 | dY=>
  cases ry
  cases x with
  | dY=>cases rx;exact SeqAt.EqAt.same _
  | bl b=>cases rx;exact SeqAt.EqAt.none_bool b
  | int b=>obtain ⟨t,rfl⟩:=rx;exact SeqAt.EqAt.none_int b t
  | str b=>obtain ⟨t,rfl⟩:=rx;exact SeqAt.EqAt.none_str b t
  | _=>exact absurd (show false=true from fx) Qai
 | bl a=>
  cases ry
  cases x with
  | dY=>cases rx;exact SeqAt.EqAt.bool_none a
  | bl b=>cases rx;exact SeqAt.EqAt.bool_bool a b
  | int b=>obtain ⟨t,rfl⟩:=rx;exact SeqAt.EqAt.bool_int a b t
  | str b=>obtain ⟨t,rfl⟩:=rx;exact SeqAt.EqAt.bool_str a b t
  | _=>exact absurd (show false=true from fx) Qai
 | int a=>
  walk_at"2"
  cases x with
  | dY=>cases rx;exact SeqAt.EqAt.int_none a t'
  | bl b=>cases rx;exact SeqAt.EqAt.int_bool a t' b
  | int b=>obtain ⟨t,rfl⟩:=rx;exact SeqAt.EqAt.int_int a t' b t
  | str b=>obtain ⟨t,rfl⟩:=rx;exact SeqAt.EqAt.int_str a t' b t
  | _=>exact absurd (show false=true from fx) Qai
 | str a=>
  walk_at"2"
  cases x with
  | dY=>cases rx;exact SeqAt.EqAt.str_none a t'
  | bl b=>cases rx;exact SeqAt.EqAt.str_bool a t' b
  | int b=>obtain ⟨t,rfl⟩:=rx;exact SeqAt.EqAt.str_int a t' b t
  | str b=>obtain ⟨t,rfl⟩:=rx;exact SeqAt.EqAt.str_str a t' b t
  | _=>exact absurd (show false=true from fx) Qai
 | _=>exact absurd (show false=true from fy) Qai
noncomputable def vO (x:V) (u:Value):Bool:=match u with
 | .none=>G9 .dY x
 | .bool b=>G9 (.bl b) x
 | .int i _=>G9 (.int i) x
 | .str z _=>G9 (.str z) x
 | _=>false
theorem yy {x y:V} {u:Value} (r:RelV y u) (f:jX y=true):vO x u=G9 y x:=by
 cases y with
 | dY=>cases r;rfl
 | bl b=>cases r;rfl
 | int i=>obtain ⟨t,rfl⟩:=r;rfl
 | str z=>obtain ⟨t,rfl⟩:=r;rfl
 | _=>exact absurd (show false=true from f) Qai
theorem kF {x:V}: ∀{xs:List V} {us:List Value},Vals xs us->xs.all jX=true->us.any (vO x)=xs.any fun y=>G9 y x
 | _,_, .nil,_=>rfl
 | y::xs,u::us, .cons r t,f=>by
  rw[List.all_cons,Qbr]at f
  rw[Qek,Qek,yy r f.1,kF t f.2]
theorem gR {A:Around} {s:Shared} {x:V} {v:Value} (rx:RelV x v) (fx:jX x=true): ∀{xs:List V} {us:List Value},Vals xs us->xs.all jX=true-> ∀u∈us,SeqAt.EqAt A s u v (vO x u)
 | _,_, .nil,_=>fun u hu=>by cases hu
 | y::xs,u::us, .cons r t,f=>fun u' hu=>by
  rw[List.all_cons,Qbr]at f
  rcases Qah.mp hu with rfl | hu
  ·rw[yy r f.1];exact LB r rx f.1 fx
  ·exact gR rx fx t f.2 u' hu
noncomputable def B8 (x:V) (xs:List V):Bool:=xs.any fun y=>G9 y x
def Sl (K:PySem.W.Frag) (neg:Bool):R2:=fun x y H Q=> ∃p xs,y= .ref p/\(aZ K H p xs\/bE K H p xs)/\jX x=true/\xs.all jX=true/\Q (.bl (if neg then !B8 x xs else B8 x xs)) H
theorem B9:gQ X (compareOp .In) (Sl X.K false):=by
 walk_at"a"
 obtain ⟨p,xs,rfl,hq,fx,fs,q⟩:=h
 cases ry
 rcases hq with hq | hq
 ·obtain ⟨its,r,pl,hz⟩:=I.list hq
  refine SeqAt.in_listAt (vO x) pl.isList (fun w hw=>gR rx fx r fs w (by simpa using hw)) ⟨.bl _,H,I,rfl,?_⟩
  walk_at"y"
  exact q
 ·obtain ⟨its,r,pl,hz⟩:=I.tuple hq
  refine SeqAt.in_tupleAt (vO x) pl (fun w hw=>gR rx fx r fs w (by simpa using hw)) ⟨.bl _,H,I,rfl,?_⟩
  walk_at"y"
  exact q
theorem tW:gQ X (compareOp .NotIn) (Sl X.K true):=by
 walk_at"a"
 obtain ⟨p,xs,rfl,hq,fx,fs,q⟩:=h
 cases ry
 rcases hq with hq | hq
 ·obtain ⟨its,r,pl,hz⟩:=I.list hq
  refine SeqAt.notIn_listAt (vO x) pl.isList (fun w hw=>gR rx fx r fs w (by simpa using hw)) ⟨.bl _,H,I,rfl,?_⟩
  walk_at"y"
  exact q
 ·obtain ⟨its,r,pl,hz⟩:=I.tuple hq
  refine SeqAt.notIn_tupleAt (vO x) pl (fun w hw=>gR rx fx r fs w (by simpa using hw)) ⟨.bl _,H,I,rfl,?_⟩
  walk_at"y"
  exact q
theorem tX:cQ X (.builtin "len") (fun xs H Q=> ∃p ys,xs=[.ref p]/\(aZ X.K H p ys\/bE X.K H p ys)/\Q (.int ys.length) H):=by
 walk_at"e"
 obtain ⟨p,ys,rfl,hq,q⟩:=h
 obtain ⟨u,rfl,rx⟩:=vals1 r
 cases rx
 have hn:=eP
 rcases hq with hq | hq
 ·obtain ⟨its,r',pl,hz⟩:=I.list hq
  have hlen:=r'.length
  exact Calls.call_len_list pl.isList (by simp only[XR]<;>lia) ⟨.int ys.length,H,I.tok _,⟨s.toks+1,by rw[XR,hlen]⟩,q⟩
 ·obtain ⟨its,r',pl,hz⟩:=I.tuple hq
  have hlen:=r'.length
  exact len_tuple pl (by simp only[XR]<;>lia) ⟨.int ys.length,H,I.tok _,⟨s.toks+1,by rw[XR,hlen]⟩,q⟩
theorem tY:cQ X (.builtin "len") (fun xs H Q=> ∃z,xs=[.str z]/\z.length<=sizeLine/\Q (.int z.length) H):=by
 walk_at"e"
 obtain ⟨z,rfl,hz,q⟩:=h
 obtain ⟨u,rfl,t,rfl⟩:=vals1 r
 have hn:=eP
 exact len_str (by lia) ⟨.int z.length,H,I.tok _,⟨_,rfl⟩,q⟩
theorem qR:cQ X (.type "tuple") (fun xs H Q=> ∃p ys,xs=[.ref p]/\((aZ X.K H p ys/\ ∀l,H l=none->Q (.ref l) (upd H l (.tup ys)))\/(bE X.K H p ys/\Q (.ref p) H))):=by
 walk_at"e"
 obtain ⟨p,ys,rfl,h⟩:=h
 obtain ⟨u,rfl,rx⟩:=vals1 r
 cases rx
 rcases h with ⟨hq,q⟩ | ⟨hq,q⟩
 ·obtain ⟨its,r',pl,hz⟩:=I.list hq
  have hlen:=r'.length
  refine call_tuple_list pl.isList (fun h' kp=>?_) (by simp only[XR]<;>lia)
  have I1:Inv X pins σ H { s with heap:=h' }:=I.kept (t':=s.toks) kp
  have I2:Inv X pins σ (upd H h'.objs.size (.tup ys)) { s with heap:=h'.push { cls:= .type "tuple",data:= .seq its.toArray } }:=
   I1.laid (t':=s.toks) (fun b o e=>N5 _ e) (Sq _) (show cH X.prog X.w _ _ _ (.tup ys) from ⟨hz,its,r',IsTup.new _ _⟩)
  exact ⟨.ref h'.objs.size,_,I2,rfl,q _ (I1.bZ.fresh (Sq _))⟩
 ·obtain ⟨its,r',pl,hz⟩:=I.tuple hq
  exact call_tuple_same pl ⟨.ref p,H,I,rfl,q⟩
def Ui (K:PySem.W.Frag) (T:String) (x:V) (H:Hp):Prop:=match x with
 | .str _=>T="str"
 | .int _=>T="int"
 | .ref p=>(T="list"/\ ∃xs,aZ K H p xs)\/(T="tuple"/\ ∃o,K.lookup p=some o/\o.cls= .type "tuple"/\o.dict=none)\/
   (T="dict"/\((∃eL,H p=some (.dK eL))\/ ∃eL,H p=some (.dT eL)))\/(T="set"/\ ∃S n,H p=some (.set S n))
 | _=>False
theorem D6 {pins:List (Addr×Obj)} {σ:St} {H:Hp} {s:Shared} {T:String} {x:V} {v:Value} (I:Inv X pins σ H s) (r:RelV x v) (ty:Ui X.K T x H):
  s.TypeIs v T/\ ∀a,v= .ref a-> ∃ob,s.heap.get? a=some ob/\ob.dict=none:=by
 cases x with
 | str z=>
  obtain ⟨t,rfl⟩:=r
  cases (show T="str" from ty)
  exact ⟨typeIs_str s z t,fun _ e=>nomatch e⟩
 | int i=>
  obtain ⟨t,rfl⟩:=r
  cases (show T="int" from ty)
  exact ⟨typeIs_int s i t,fun _ e=>nomatch e⟩
 | ref p=>
  cases r
  rcases ty with ⟨rfl,xs,hq⟩ | ⟨rfl,o,hk,hc,hd⟩ | ⟨rfl,hk⟩ | ⟨rfl,S,n,hk⟩
  ·obtain ⟨its,_,pl,_⟩:=I.list hq
   refine ⟨pl.isList.typeIs,fun a e=>?_⟩
   cases e
   obtain ⟨o,n,e,c,hd,_⟩:=pl
   exact ⟨o,e,hd⟩
  ·refine ⟨⟨o,I.nZ p o hk,hc⟩,fun a e=>?_⟩
   cases e
   exact ⟨o,I.nZ _ o hk,hd⟩
  ·have z: ∃o,s.heap.get? p=some o/\o.ExactDict:=by
    rcases hk with ⟨eL,hk⟩ | ⟨eL,hk⟩
    ·obtain ⟨_,_,_,_,o,_,_,e,ex,_⟩:=I.bZ p _ hk
     exact ⟨o,e,ex⟩
    ·obtain ⟨_,_,_,_,o,_,_,e,ex,_⟩:=I.bZ p _ hk
     exact ⟨o,e,ex⟩
   obtain ⟨o,e,ex⟩:=z
   refine ⟨⟨o,e,ex.1⟩,fun a e2=>?_⟩
   cases e2
   exact ⟨o,e,ex.2.1⟩
  ·obtain ⟨o,_,_,_,e,ex,_⟩:=I.bZ p _ hk
   refine ⟨⟨o,e,ex.1⟩,fun a e2=>?_⟩
   cases e2
   exact ⟨o,e,ex.2.1⟩
 | _=>exact False.elim ty
def Qu (K:PySem.W.Frag) (T:String) (r:V->List V->Hp->VK->Prop) (to:TE):TE:=fun σ H Q=>to σ H fun x H1=>Ui K T x H1/\r x [] H1 Q
def V2 (K:PySem.W.Frag) (T:String) (r:V->List V->Hp->VK->Prop) (to:TE) (t:TA):TE:=fun σ H Q=>to σ H fun x H1=>Ui K T x H1/\t σ H1 fun xs H2=>r x xs H2 Q
variable {o e:Expr} {es:List Expr} {to:TE} {t:TA} {name:Str} {apos iP:Pos} {T id:String} {r:V->List V->Hp->VK->Prop}
theorem LC (pa:PlainAttrs T) (slot:Slot T name id) (LD:typeOf (.builtin id)=pure (.type "method_descriptor")) (hm:B7 X id r) (ho:PE X o to)
  (oN:attributeBase o name X.env (eval o X.env)=eval o X.env:=by rfl) (kG:(apos.endLine==iP.line)=true:=by rfl):PE X (.Call (.Attribute o name apos) [] [] iP) (Qu X.K T r to):=by
 walk_at"g"
 refine wpAny_Call_method0_late oN kG (cy (ho pins s σ H _ I h) fun v s1 ⟨x,H1,I1,r1,ty,q1⟩=>?_)
 obtain ⟨h1,h2⟩:=D6 I1 r1 ty
 exact ⟨T,id,pa,slot,LD,h1,h2,Calls.callWith_builtin rfl (PySem.evalArgs_none (hm pins s1 σ H1 x [] v [] Q I1 r1 .nil q1))⟩
theorem Qv (pa:PlainAttrs T) (slot:Slot T name id) (LD:typeOf (.builtin id)=pure (.type "method_descriptor")) (hm:B7 X id r) (ho:PE X o to) (ha:PA X (e::es) t)
  (oN:attributeBase o name X.env (eval o X.env)=eval o X.env:=by rfl)
  (D7:((backTo iP (starEach (e::es) X.env)).all (fun x=>!x.1)&&(backToKw iP (keywordEach [] X.env)).all (fun x=>x.1.isSome)
   &&decide ((e::es).length+([]:List Keyword).length+(if ([]:List Keyword).isEmpty then 0 else 1)<30))=true:=by rfl)
  (kG:(apos.endLine==iP.line)=true:=by rfl) (hs:starEach (e::es) X.env=(false,eval e X.env)::starEach es X.env:=by rfl) (yA:(backTo iP (starEach es X.env)).any (·.1)=false:=by rfl):
  PE X (.Call (.Attribute o name apos) (e::es) [] iP) (V2 X.K T r to t):=by
 walk_at"g"
 refine wpAny_Call_method_late oN D7 kG rfl (cy (ho pins s σ H _ I h) fun v s1 ⟨x,H1,I1,r1,ty,q1⟩=>?_)
 obtain ⟨h1,h2⟩:=D6 I1 r1 ty
 refine ⟨T,id,pa,slot,LD,h1,h2,?_⟩
 have hA:=ha iP pins s1 σ H1 _ I1 q1
 rw[hs]at hA ⊢
 refine Calls.callWith_builtin (by show (false||(backTo iP (starEach es X.env)).any (·.1))=false;rw[yA]<;>rfl) (Calls.evalArgs_plain ?_)
 exact cy hA fun us s2 ⟨vs,H2,I2,r2,q2⟩=>hm pins s2 σ H2 x vs v us Q I2 r1 r2 q2
end
def Qw (X:Cx) (id:String) (r:V->List V->Hp->VK->Prop):Prop:=
 ∀(pins:List (Addr×Obj)) (s:Shared) (σ:St) (H:Hp) (x:V) (xs:List V) (v:Value) (us:List Value) (Q:VK),Inv X pins σ H s->RelV x v->Vals xs us->r x xs H Q->
  wpAny (model X.prog X.w) X.A (call (.builtin id) (v::us)) (EP X pins σ Q) X.xe s
theorem Vals.one: ∀{x:V} {us:List Value},Vals [x] us-> ∃u,us=[u]/\RelV x u
 | _,_, .cons r .nil=>⟨_,rfl,r⟩
theorem Vals.zero: ∀{us:List Value},Vals [] us->us=[]
 | _, .nil=>rfl
theorem Vals.dropLast {xs:List V} {us:List Value} (h:Vals xs us):Vals xs.dropLast us.dropLast:=by
 induction h with
 | nil=>exact .nil
 | cons r t ih=>
  cases t with
  | nil=>exact .nil
  | cons q t'=>exact .cons r ih
theorem Vals.eraseIdx: ∀{xs:List V} {us:List Value} (i:Nat),Vals xs us->Vals (xs.eraseIdx i) (us.eraseIdx i)
 | _,_,_, .nil=> .nil
 | _,_,0, .cons _ t=>t
 | _,_,i+1, .cons r t=> .cons r (Vals.eraseIdx i t)
theorem yB {α:Type} (l:List α):l.eraseIdx (l.length - 1)=l.dropLast:=by
 induction l with
 | nil=>rfl
 | cons a r ih=>
  cases r with
  | nil=>rfl
  | cons b r=>
   have e:(a::b::r).length - 1=((b::r).length - 1)+1:=by
    have h1:(a::b::r).length=r.length+2:=rfl
    have h2:(b::r).length=r.length+1:=rfl
    lia
   rw[e,Qdn,ih]
   all_goals rfl
theorem rK {α:Type}: ∀(l:List α) (i:Nat),(l.eraseIdx i).length<=l.length
 | [],_=>Sq _
 | _::_,0=>Qb7 _
 | _::r,i+1=>Qbw (rK r i)
section
variable {X:Cx} {pins:List (Addr×Obj)} {σ:St} {H:Hp} {s:Shared} {l b:Addr} {xs ys zs:List V}
theorem Inv.D9 {its its':List Value} {n:Nat} {f:Array Value->Array Value} {t':Nat} (I:Inv X pins σ H s) (hH:H l=some (.lst xs))
  (e:s.heap.get? l=some { cls:= .type "list",data:= .seq its.toArray n }) (hf:f its.toArray=its'.toArray) (hv:Vals ys its') (hz:ys.length<=sizeLine):
  Inv X pins σ (upd H l (.lst ys)) { s with heap:=s.heap.update l (Obj.mapSeq f),toks:=t' }:=by
 have q:=PySem.IsL.update e f
 rw[hf]at q
 refine I.write (x:=l) (e:=l) (by rw[hH];exact trivial) (.inl rfl) (fun b' u hb hu=>(Qa6 s.heap (Obj.mapSeq f) (Ne.symm hb)).trans hu) ⟨_,q⟩ ?_
 exact ⟨hz,its',_,hv,q⟩
theorem Inv.Uj {its:List Value} {t':Nat} (I:Inv X pins σ H s) (hv:Vals ys its) (hz:ys.length<=sizeLine):
  Inv X pins σ (upd H s.heap.objs.size (.lst ys)) { s with heap:=s.heap.push { cls:= .type "list",data:= .seq its.toArray },toks:=t' }:=
 I.laid (fun _ _ q=>N5 _ q) (Sq _) ⟨hz,its,0,hv,Qal _ rfl⟩
theorem Inv.fresh (I:Inv X pins σ H s):H s.heap.objs.size=none:=I.bZ.fresh (Sq _)
theorem Inv.tZ (I:Inv X pins σ H s) (hH:H l=some (.lst xs)):xs.length<=sizeLine/\ ∃(its:List Value) (n:Nat),Vals xs its/\xs.length=its.length/\s.heap.get? l=some { cls:= .type "list",data:= .seq its.toArray n }:=by
 obtain ⟨z,its,n,r,e⟩:=I.bZ l _ hH
 exact ⟨z,its,n,r,r.length,e⟩
theorem D_ {n:Nat} (h:n<=sizeLine):Builtin.List.listTooLong n=false:=by
 unfold Builtin.List.listTooLong
 exact decide_eq_false (by lia)
end
section
variable {X:Cx}
def HG:V->List V->Hp->VK->Prop:=fun x vs H Q=> ∃l xs y,x= .ref l/\vs=[y]/\H l=some (.lst xs)/\xs.length<sizeLine/\Q .dY (upd H l (.lst (xs++[y])))
theorem b_:Qw X "list.append" HG:=by
 walk_at"G"
 obtain ⟨l,xs,y,rfl,rfl,hH,hz,q⟩:=h
 cases rx
 obtain ⟨u,rfl,ru⟩:=rv.one
 walk_at"z"
 refine call_meets F.slot_list_append ⟨_,e,rfl⟩ F.entry_list_append (F.args_list_append_2 _ _) (PySem.list_append l its.toArray n u (by rw[XR];lia)) ⟨e,?_⟩
 refine ⟨.dY,_,I.D9 (its':=its++[u]) hH e (by simp) (r.append (.cons ru .nil)) ?_,rfl,q⟩
 rw[V7,Qex]
 lia
def HH:V->List V->Hp->VK->Prop:=fun x vs H Q=> ∃l b xs zs,x= .ref l/\vs=[.ref b]/\H l=some (.lst xs)/\H b=some (.lst zs)/\xs.length+zs.length<=sizeLine/\Q .dY (upd H l (.lst (xs++zs)))
theorem jD:Qw X "list.extend" HH:=by
 walk_at"G"
 obtain ⟨l,b,xs,zs,rfl,rfl,hH,hB,hz,q⟩:=h
 cases rx
 obtain ⟨u,rfl,ru⟩:=rv.one
 cases ru
 walk_at"z"
 obtain ⟨z2,vP,n2,r2,m7,e2⟩:=I.tZ hB
 have hsz:its.toArray.size+vP.toArray.size<=sizeLine:=by rw[XR,XR];lia
 have Qx: ¬(!its.toArray.isEmpty&&Builtin.List.listTooLong (its.toArray.size+vP.toArray.size))=true:=by
  rw[D_ hsz,Bool.and_false]
  exact Qai
 refine call_meets F.slot_list_extend ⟨_,e,rfl⟩ F.entry_list_extend (F.args_list_extend_2 _ _)
  (AutoSeq1.list_extend_list_list_0 l its.toArray n b vP.toArray n2 Qx (by rw[XR];lia) (by lia)) ⟨e,e2,?_⟩
 refine ⟨.dY,_,I.D9 (its':=its++vP) hH e (by simp) (r.append r2) ?_,rfl,q⟩
 rw[V7]
 lia
def Uk:V->List V->Hp->VK->Prop:=fun x vs H Q=> ∃l xs y,x= .ref l/\vs=[]/\H l=some (.lst xs)/\xs[xs.length - 1]? =some y/\Q y (upd H l (.lst xs.dropLast))
theorem LF:Qw X "list.pop" Uk:=by
 walk_at"G"
 obtain ⟨l,xs,y,rfl,rfl,hH,hy,q⟩:=h
 cases rx
 have jE:=rv.zero
 subst jE
 walk_at"z"
 obtain ⟨u,hu,ru⟩:=r.get hy
 have XI:its.toArray[its.toArray.size - 1]? =some u:=by
  show its.toArray[its.length - 1]? =some u
  rw[<-Qdw, <-hl]
  exact hu
 refine call_meets F.slot_list_pop ⟨_,e,rfl⟩ F.entry_list_pop (F.args_list_pop_1 _) (MeetsSeq.list_pop_last l its.toArray n u XI (by rw[XR];lia)) ⟨e,?_⟩
 refine ⟨y,_,I.D9 (its':=its.dropLast) hH e ?_ r.dropLast ?_,ru,q⟩
 ·show its.toArray.eraseIdxIfInBounds (its.toArray.size - 1)=its.dropLast.toArray
  rw[XR,List.eraseIdxIfInBounds_toArray,yB]
 ·rw[List.length_dropLast]
  lia
def LG:V->List V->Hp->VK->Prop:=fun x vs H Q=> ∃l xs i k y,x= .ref l/\vs=[.int i]/\H l=some (.lst xs)/\ -(2 ^ 63)<=i/\i<2 ^ 63/\seqIndex? i xs.length=some k/\xs[k]? =some y/\Q y (upd H l (.lst (xs.eraseIdx k)))
theorem oO:Qw X "list.pop" LG:=by
 walk_at"G"
 obtain ⟨l,xs,i,k,y,rfl,rfl,hH,h1,h2,hk,hy,q⟩:=h
 cases rx
 obtain ⟨u,rfl,ru⟩:=rv.one
 obtain ⟨t,rfl⟩:=ru
 walk_at"z"
 obtain ⟨w,hw,BQ⟩:=r.get hy
 refine call_meets F.slot_list_pop ⟨_,e,rfl⟩ F.entry_list_pop (F.args_list_pop_2 _ _)
  (MeetsSeq.list_pop_at l its.toArray n i t k w (fitsIndex_both h1 h2) (by rw[XR, <-hl];exact hk) (by rw[<-Qdw];exact hw) (by rw[XR];lia)) ⟨e,?_⟩
 refine ⟨y,_,I.D9 (its':=its.eraseIdx k) hH e ?_ (r.eraseIdx k) ?_,BQ,q⟩
 ·show its.toArray.eraseIdxIfInBounds k=(its.eraseIdx k).toArray
  rw[List.eraseIdxIfInBounds_toArray]
 ·have:=rK xs k
  lia
def Ul:R2:=fun x y H Q=> ∃l b xs zs,x= .ref l/\y= .ref b/\H l=some (.lst xs)/\H b=some (.lst zs)/\xs.length+zs.length<=sizeLine/\ ∀p,H p=none->Q (.ref p) (upd H p (.lst (xs++zs)))
theorem Ea:gQ X (binaryOp .Add) Ul:=by
 walk_at"a"
 obtain ⟨l,b,xs,zs,rfl,rfl,hH,hB,hz,q⟩:=h
 cases rx
 cases ry
 walk_at"z"
 obtain ⟨z2,vP,n2,r2,m7,e2⟩:=I.tZ hB
 refine PySem.P.add_list e e2 ?_ (by rw[XR,XR];lia)
 have ea:its.toArray++vP.toArray=(its++vP).toArray:=by simp
 rw[ea]
 exact ⟨.ref _,_,I.Uj (t':=s.toks) (r.append r2) (by rw[V7];lia),rfl,q _ I.fresh⟩
end
end L2
namespace V3
open PySem PySem.W PySem.Calls PyProof.Rows
theorem nI {P:Params} {h:Heap}: ∀(ns:List Int) (vs:List Value),WellAll P h vs (ns.map WData.int)->IntsAre vs ns:=by
 intro ns
 induction ns with
 | nil=>
  intro vs w
  rw[List.map_nil]at w
  cases w
  exact .nil
 | cons n ns ih=>
  intro vs w
  rw[Qa7]at w
  cases w with
  | cons a b=>
   cases a
   exact .cons _ _ (ih _ b)
theorem B_ {l:OpenLaw} {n:Nat} (hn:l.most=some n) {P:Params} {h:Heap} {args:List WData} {vals:List Value}
  (HI:l.row.toRowW.claim.pre args=true) (yC:WellAll P h vals args):
  ∃a vs ns,vals=[Value.ref a]/\args=[WData.list (ns.map WData.int)]/\h.get? a=some { cls:= .type "list",data:= .seq vs.toArray }/\IntsAre vs ns/\ns.length<=n:=by
 have HJ:WShape.hasAll [] args [.list .int]=true:=(pre_splitW HI).1
 have hc:l.pre.holds [] { args:=args }=true:=(pre_splitW HI).2
 obtain ⟨d,r,rfl,h1,h2⟩:=hasAllW_cons HJ
 obtain rfl:=hasAllW_nil h2
 obtain ⟨xs,rfl,h3⟩:=hasW_list h1
 obtain ⟨ns,rfl⟩:=items_int h3
 have hlen:ns.length<=n:=by
  unfold OpenLaw.pre at hc
  have h4:(WTm.not (.lt (.lit (.int (n:Int))) (.len (.arg 0)))).holds [] { args:=[.list (ns.map .int)] }=true:=by
   have h4:=(holds_andW hc).1
   rw[hn]at h4
   exact h4
  have h5:=condW_of h4 (w_not (w_lt w_lit (w_len_list (w_arg rfl))))
  rw[V6]at h5
  refine Nat.le_of_not_lt fun q=>?_
  have q':(n:Int)<((ns.length:Nat):Int):=by lia
  first
   |(rw[decide_eq_true q']at h5;exact absurd h5 (by decide))
   |(simp at h5;lia)
 cases yC with
 | cons w1 w2=>
  cases w2
  cases w1 with
  | list ho Eb=>exact ⟨_,_,ns,rfl,rfl,ho,nI ns _ Eb,hlen⟩
theorem Ca (l:OpenLaw) (args:List WData):l.row.toRowW.claim.post args (.bool true) args=true:=
 postW_of (r:=l.row.toRowW) (X:=(true==true))
  (show WShape.has [] (.bool true) .bool=true by first | rfl | decide | simp[WShape.has,WShape.arms,WShape.armsAll])
  (show (WTm.eq .res (.lit (.bool true))).value [] { args:=args,res:=some (.bool true),after:=args }=some (.bool (true==true)) from w_eq_bool (w_res rfl) w_lit) rfl
theorem vQ {l:OpenLaw} {n:Nat} {q:Program} {loose:List Str} {XP:(Str->Option Value)->Heap->Prop} {YP:World->Heap->Prop} {d:DefRec}
  (hn:l.most=some n) (Qy:d.params.defaults=[])
  (call: ∀(w:World) (s₀ s₁:Shared) (mg mb:Str->Option Value) (fa:Addr) (o:Obj) (pm cd doc:Value) (a:Addr) (vs:List Value) (ns:List Int),
   Ground q loose [] XP w s₀ mg mb s₁.heap->YP w s₁.heap->
   s₁.heap.get? fa=some o->o.data= .func (docDef d.name d.params d.body d.scope pm cd doc)->s₁.heap.CodeRec cd d.name->mg d.name=some (.ref fa)->
   s₁.heap.get? a=some { cls:= .type "list",data:= .seq vs.toArray }->IntsAre vs ns->ns.length<=n->s₁.gens= #[]->
   codeAny (model l.prog w) callerA (.call (.ref fa) ⟨[.ref a],[]⟩) (fun r s'=>r= .ok (.ret (.bool true))/\OldK s₁.heap s'.heap/\s'.os=s₁.os/\AllBare s'.gens) s₁):
  WalkO q loose XP YP l.row.toRowW d [] (fun f vs=>PySem.call f vs):=by
 intro w s₀ s₁ mg mb G Y fa o pm cd doc dV kV ho hd oH hD hmg hg args vals as HI XJ hrd yC Qz
 obtain rfl:dV= .none:=Dflts.none hD Qy
 obtain rfl:kV= .none:=Dflts.noKw hD
 obtain ⟨a,vs,ns,rfl,rfl,LH,hints,hlen⟩:=B_ hn HI yC
 refine enter_call (codeAny_mono (call w s₀ s₁ mg mb fa o pm cd doc a vs ns G Y ho (fd_plain hd) oH hmg LH hints hlen hg) fun r s' hq=>?_)
 obtain ⟨rfl,h2,h3,h4⟩:=hq
 exact ⟨.inl ⟨.bool true, .bool true,[],rfl,fun _=>rfl, .bool true,Ca l _,fun _=>⟨List.Pairwise.nil,fun _ hm=>(nomatch hm)⟩⟩,h2,h3,h4⟩
end V3
namespace L2
open PySem PySem.Spec PyProof.Rows
theorem rL: ∀{vs:List Value} {ns:List Int},IntsAre vs ns->Vals (ns.map V.int) vs
 | _,_, .nil=> .nil
 | _,_, .cons n t h=> .cons ⟨t,rfl⟩ (rL h)
def LI (H:Hp):Prop:= ∀b,H b=none\/ ∃o xs,H b=some (.Aj o (.lst xs))
theorem Ec {P:Program} {w:World} {K:PySem.W.Frag} {mg mb:Str->Option Value} {CX:B4} {k:Nat} {fa a:Addr} {fd:FuncData} {x:Str} {sp:Sp} {s₁:Shared} {vs:List Value} {ns:List Int}
  (KX:K.In s₁.heap) (Sm:s₁.heap.Ns mainGlobals mg) (hb:s₁.heap.Ns builtinsNs mb) (XM: ∀x:Str,x≠"__name__"->mb x=bootBuiltins x) (Um:s₁.heap.NoLimit) (hg:s₁.gens= #[])
  (ha:s₁.heap.get? a=some { cls:= .type "list",data:= .seq vs.toArray }) (hi:IntsAre vs ns) (hl:ns.length<=sizeLine) (hr:ez k callerA)
  (F: ∀base:Heap,K.In base->base.Ns mainGlobals mg->bF P w K mg base CX k fa fd [x] sp) (QA: ∀(s:Shared) (u:Value),BindsTo s fd ⟨[u],[]⟩ [(x,u)])
  (Kd: ∀H:Hp,LI H->aZ K H a (ns.map V.int)->sp [.ref a] H (fun v _=>v= .bl true) fun _ _ _=>False)
  (Uo: ∀H e s',CX [] H s₁ (fun _ _ _=>False) e s'->False):
  codeAny (model P w) callerA (.call (.ref fa) ⟨[.ref a],[]⟩) (fun r s'=>r= .ok (.ret (.bool true))/\OldK s₁.heap s'.heap/\s'.os=s₁.os/\AllBare s'.gens) s₁:=by
 have rv:=rL hi
 have Up:=hi.length
 -- from an abstract heap in V4 nothing but GZ script may be tracked
 have core: ∀H:Hp,LI H->aZ K H a (ns.map V.int)->lQ P w H s₁.heap->(∀b,H b≠none->b=a)->(H a≠none->K.lookup a=none)->
   codeAny (model P w) callerA (.call (.ref fa) ⟨[.ref a],[]⟩) (fun r s'=>r= .ok (.ret (.bool true))/\OldK s₁.heap s'.heap/\s'.os=s₁.os/\AllBare s'.gens) s₁:=by
  intro H hO hS bZ hA hK
  have As: ∀{b:Addr} {o:Obj},s₁.heap.get? b=some o->H b=none->(tK s₁.heap H).get? b=some o:=fun e n=>DQ e n
  have Qn: ∀{b:Addr} {o:Obj} {es:Array DictEntry} {ep:Nat},s₁.heap.get? b=some o->o.data= .dict es ep->H b=none:=fun {b o es ep} e d=>by
   cases q:H b with
   | none=>rfl
   | some u=>
    have e':b=a:=hA b (by rw[q];simp)
    subst e'
    rw[ha]at e;cases e
    have d':Data.seq vs.toArray _=Data.dict es ep:=d
    cases d'
  have So: ∀{b:Addr} {m:Str->Option Value},s₁.heap.Ns b m->(tK s₁.heap H).Ns b m:=fun {b m} ⟨o,es,ep,e,d,r⟩=>⟨o,es,ep,As e (Qn e d),d,r⟩
  have V5:K.In (tK s₁.heap H):=fun b o e=>As (KX b o e) (by
   cases q:H b with
   | none=>rfl
   | some u=>
    have e':b=a:=hA b (by rw[q];simp)
    subst e'
    rw[hK (by rw[q];simp)]at e;cases e)
  have hM:Mod K mg (tK s₁.heap H):=⟨V5,So Sm,⟨mb,So hb,XM⟩,let ⟨mc,h1,h2⟩:=Um;⟨mc,So h1,h2⟩⟩
  have e0:yu P w K mg (tK s₁.heap H) callerA [] s₁ H:=⟨rfl,hM,fun b o e=>Hn e,Nat.le_of_eq (BN _ _),trivial,fun b hb=>absurd (show b∈([]:List Addr) from hb) (by simp),bZ, .of_eq hg⟩
  refine codeAny_mono ((F _ V5 (So Sm)).run callerA [] s₁ H ⟨[.ref a],[]⟩ [.ref a] [.ref a] _ _ hr e0 (QA s₁ (.ref a)) (.cons rfl .nil) (Kd H hO hS)) fun r s' h=>?_
  cases r with
  | error e=>exact (Uo H e s' h).elim
  | ok fl=>
   cases fl with
   | next=>exact False.elim h
   | brk=>exact False.elim h
   | cont=>exact False.elim h
   | ret u=>
    obtain ⟨v,H',os,bare,un,Uq,r',q⟩:=h
    have q':v= .bl true:=q
    subst q'
    obtain rfl:u=Value.bool true:=r'
    refine ⟨rfl,OldK.of_keep fun b o e=>?_,os,bare⟩
    cases q:H b with
    | none=>exact un.keep b o e q (by intro z;exact absurd (show b∈([]:List Addr) from z) (by simp)) (by simp)
    | some u=>
     rcases hO b with z | ⟨ob,xs,z⟩
     ·rw[q]at z;cases z
     ·have z2:=un.oF b ob _ z
      obtain ⟨e1,_⟩:=bZ b _ z
      obtain ⟨e2,_⟩:=Uq b _ z2
      rw[e]at e1;cases e1
      exact e2
 cases hk:K.lookup a with
 | some o=>
  -- GZ script is one of GZ D8 own objects
  have e:=KX a o hk
  rw[ha]at e
  cases e
  refine core (fun _=>none) (fun _=> .inl rfl) (.inr ⟨_,vs.toArray,_,hk,rfl,rfl,rfl,by rw[XR,Up];exact hl,by simpa using rv⟩) (fun b u z=>by have z':(none:Option HO)=some u:=z;cases z') (fun b z=>absurd rfl z) fun z=>absurd rfl z
 | none=>
  refine core (fun b=>if b=a then some (.Aj { cls:= .type "list",data:= .seq vs.toArray } (.lst (ns.map V.int))) else none) (fun b=>?_) (.inl (.inr ⟨{ cls:= .type "list",data:= .seq vs.toArray },if_pos rfl⟩)) (fun b u z=>?_) (fun b z=>?_) fun _=>hk
  ·by_cases hb:b=a
   ·exact .inr ⟨_,_,if_pos hb⟩
   ·exact .inl (if_neg hb)
  ·by_cases hb:b=a
   ·have z':=(if_pos hb).symm.trans z
    cases z'
    subst hb
    exact ⟨ha,by rw[V6];exact hl,vs,_,rv,ha⟩
   ·have z':=(if_neg hb).symm.trans z
    cases z'
  ·by_cases hb:b=a
   ·exact hb
   ·exact absurd (if_neg hb) z
theorem Au {l:PySem.W.OpenLaw} {n k:Nat} {q:Program} {loose:List Str} {XP:(Str->Option Value)->Heap->Prop} {YP:World->Heap->Prop} {d:DefRec} {K:Params->PySem.W.Frag} {CX:World->B4} {sp:World->Sp} {x:Str}
  (hn:l.most=some n) (vM:n<=sizeLine) (Qy:d.params.defaults=[]) (hr:ez k callerA)
  (hY: ∀(w:World) (h:Heap),YP w h->(K w.params).In h)
  (F: ∀(w:World) (mg:Str->Option Value) (fa:Addr) (h:Heap),(K w.params).In h->h.Ns mainGlobals mg->mg d.name=some (.ref fa)->
   ∃fd:FuncData,(∀(s:Shared) (u:Value),BindsTo s fd ⟨[u],[]⟩ [(x,u)])/\
    ∀base:Heap,(K w.params).In base->base.Ns mainGlobals mg->bF l.prog w (K w.params) mg base (CX w) k fa fd [x] (sp w))
  (Kd: ∀(w:World) (H:Hp) (a:Addr) (ns:List Int),ns.length<=n->LI H->aZ (K w.params) H a (ns.map V.int)->sp w [.ref a] H (fun v _=>v= .bl true) fun _ _ _=>False)
  (Uo: ∀(w:World) (H:Hp) (s:Shared) (e:Value) (s':Shared),CX w [] H s (fun _ _ _=>False) e s'->False):
  PySem.W.WalkO q loose XP YP l.row.toRowW d [] (fun f vs=>PySem.call f vs):=by
 refine V3.vQ hn Qy fun w s₀ s₁ mg mb fa o pm cd doc a vs ns G Y ho hd oH hmg LH hints hlen hg=>?_
 have KX:=hY w _ Y
 obtain ⟨fd,hb,hF⟩:=F w mg fa _ KX G.T.g hmg
 exact Ec KX G.T.g G.T.b G.T.builtins G.T.nolimit hg LH hints (Qa8 hlen vM) hr hF hb (fun H hO hS=>Kd w H a ns hlen hO hS) fun H e s'=>Uo w H s₁ e s'
noncomputable def fK (s:Stmt):Arguments:=match s with
 | .FunctionDef _ a _ _ _ _ _ _ _ _=>a
 | _=>{ posonlyargs:=[],args:=[],vararg:=none,kwonlyargs:=[],kw_defaults:=[],kwarg:=none,defaults:=[] }
noncomputable def eX (s:Stmt):List Stmt:=match s with
 | .FunctionDef _ _ b _ _ _ _ _ _ _=>b
 | _=>[]
noncomputable def au (s:Stmt):Scope:=match s with
 | .FunctionDef _ _ _ _ _ _ sc _ _ _=>sc
 | _=>{ kind:= .function,names:=[],isGenerator:=false,isCoroutine:=false }
abbrev fD:B4:=fun _ _ _ _ _ _=>False
abbrev E0:XK:=fun _ _ _=>False
theorem ay {X:Cx}:Passes fD X E0:=fun _ _ _ _ _ _ _ h=>h.elim
structure HK (K:PySem.W.Frag) (x qual:Str) (st:Stmt) (f:Addr) (fd:FuncData):Prop where
 ex: ∃(oc:Value) (od:Option Addr) (kV doc pm:Value) (an:Option Addr) (cP ct:Value) (G7:Array (Option Value)),
  fd=PySem.W.fnOf x qual (fK st) (eX st) (au st) .none kV doc pm an cP ct/\K.lookup f=some ⟨oc,od, .func fd,G7⟩/\PySem.W.codeIn K cP qual=true
 kp:PySem.W.keepIn K (.ref f)=true
section
variable {P:Program} {w:World} {K:PySem.W.Frag} {mg:Str->Option Value} {base:Heap}
theorem HK.ok {x qual:Str} {st:Stmt} {f:Addr} {fd:FuncData} {N ps:List Str} {k:Nat} {sp:Sp} (F:HK K x qual st f fd) (S:aG N ps (au st)) (len: ∀vs H Q E,sp vs H Q E->vs.length=ps.length)
  (D1: ∀(cP:Value) (A:Around) (outer:List Env) (s:Shared) (H:Hp) (vs:List V) (Q:VK) (E:XK),ez k (A.deeper (envOfC qual (au st) s.heap.objs.size f cP))->sp vs H Q E->
   ∃t,yf (B5 fD P w K mg base N qual (au st) f cP A outer s H E).Sg (eX st) t/\t { nx:=fun _ H'=>Q .dY H',rt:=Q } (start N vs) H):bF P w K mg base fD (k+1) f fd ps sp:=by
 obtain ⟨oc,od,kV,doc,pm,an,cP,ct,G7,rfl,lk,oH⟩:=F.ex
 refine Qo lk oH S len fun A outer s H vs Q E hr Kd=>?_
 obtain ⟨t,h,q⟩:=D1 cP A outer s H vs Q E hr Kd
 exact ⟨t,h.Sg,q⟩
theorem HK.binds {x qual:Str} {st:Stmt} {f:Addr} {fd:FuncData} {ps:List Str} (F:HK K x qual st f fd)
  (h: ∀(kV doc pm:Value) (an:Option Addr) (cP ct:Value) (us:List Value),us.length=ps.length->bindArgs (PySem.W.fnOf x qual (fK st) (eX st) (au st) .none kV doc pm an cP ct) ⟨us,[]⟩=pure (ps.zip us)):Binds K fd ps []:=by
 obtain ⟨oc,od,kV,doc,pm,an,cP,ct,G7,rfl,lk,oH⟩:=F.ex
 exact .all (h kV doc pm an cP ct)
theorem yD {x qual:Str} {st:Stmt} {f:Addr} {oc:Value} {od an:Option Addr} {G7:Array (Option Value)} {kV doc pm cP ct:Value} (l:K.lookup f=some ⟨oc,od, .func (PySem.W.fnOf x qual (fK st) (eX st) (au st) .none kV doc pm an cP ct),G7⟩)
  (c:PySem.W.codeIn K cP qual=true) (k:PySem.W.keepIn K (.ref f)=true):HK K x qual st f (PySem.W.fnOf x qual (fK st) (eX st) (au st) .none kV doc pm an cP ct):=⟨⟨oc,od,kV,doc,pm,an,cP,ct,G7,rfl,l,c⟩,k⟩
end
section
variable {X:Cx}
theorem pv (i:Nat) {x:Str} {pos:Pos} (hN:X.N[i]? =some x:=by rfl) (hv:PQ X.env.scope x:=by first | exact Or.inl rfl | exact Or.inr (Or.inl rfl) | exact Or.inr (Or.inr rfl)) (hd:(x==("__debug__":Str))=false:=by decide)
  (oH:(x==("__classdict__":Str))=false:=by decide):PE X (.Name x pos) (Ld i):=Le hN hv hd oH
end
theorem kf {A B:Prop} (h:B):if false=true then A else B:=by
 rw[if_neg Qai]
 exact h
theorem t9 {A B:Prop} (h:A):if true=true then A else B:=by
 rw[if_pos rfl]
 exact h
theorem bp {c A B:Prop} [Decidable c] (h1:c->A) (h2: ¬c->B):if c then A else B:=by
 by_cases h:c
 ·rw[if_pos h]
  exact h1 h
 ·rw[if_neg h]
  exact h2 h
def ao (H H':Hp):Prop:= ∀b o,H b=some o->H' b=some o
theorem ao.refl (H:Hp):ao H H:=fun _ _ h=>h
theorem ao.trans {H H1 H2:Hp} (a:ao H H1) (b:ao H1 H2):ao H H2:=fun c o h=>b c o (a c o h)
theorem ao.free {H H':Hp} (e:ao H H') {l:Addr} (h:H' l=Option.none):H l=Option.none:=by
 cases q:H l with
 | none=>rfl
 | some o=>
  rw[e l o q]at h
  cases h
theorem ao.seq {K:PySem.W.Frag} {H H':Hp} {a:Addr} {xs:List V} (e:ao H H') (h:aZ K H a xs):aZ K H' a xs:=by
 rcases h with (h | ⟨o,h⟩) | h
 ·exact .inl (.inl (e _ _ h))
 ·exact .inl (.inr ⟨o,e _ _ h⟩)
 ·exact .inr h
noncomputable def iQ (env:Env):List (Str×NameKind)->List (Str×Addr)->List (Str×Addr)
 | [],acc=>acc
 |(n,k)::r,acc=>iQ env r (if k== .free then (match env.cells.lookup n with | some a=>(n,a)::acc | none=>acc) else acc)
theorem fE {env:Env}: ∀(names:List (Str×NameKind)) (acc:List (Str×Addr)),(∀y∈names,y.2= .free-> ∃c,env.cells.lookup y.1=some c)->
  (forIn names acc fun (x:Str×NameKind) (cs:List (Str×Addr))=>(if (x.2==NameKind.free)=true then do let a <-cellOf env x.1;pure (ForInStep.yield ((x.1,a)::cs)) else pure (ForInStep.yield cs):Sem (ForInStep (List (Str×Addr)))))=pure (iQ env names acc)
 | [],acc,_=>rfl
 |(n,k)::r,acc,h=>by
  rw[Qd4]
  have hr: ∀y∈r,y.2= .free-> ∃c,env.cells.lookup y.1=some c:=fun y hy=>h y (kb _ hy)
  cases hk:(k==NameKind.free) with
  | false=>
   have e1:iQ env ((n,k)::r) acc=iQ env r acc:=by
    walk_at"8"
    rw[hk,if_neg Qai]
   rw[e1, <-fE r acc hr]
   simp only[hk,Qa4,if_false,pure_bind]
  | true=>
   obtain ⟨c,hc⟩:=h (n,k) XS (by simpa using hk)
   have e1:iQ env ((n,k)::r) acc=iQ env r ((n,c)::acc):=by
    have qO:env.cells.lookup n=some c:=hc
    walk_at"8"
    rw[hk,qO,if_pos rfl]
   have e2:cellOf env n=pure c:=by
    have qO:env.cells.lookup n=some c:=hc
    unfold cellOf
    rw[qO]
   rw[e1, <-fE r ((n,c)::acc) hr]
   simp only[hk,if_true,e2,pure_bind]
theorem jY {scope:Scope} {env:Env} (h: ∀y∈scope.names,y.2= .free-> ∃c,env.cells.lookup y.1=some c):closureFor scope env=pure (iQ env scope.names []):=by
 have e:=fE scope.names [] h
 simp only[closureFor]
 rw[e]
 rfl
theorem lY {env:Env} {x:Str} {c:Addr}: ∀(names:List (Str×NameKind)) (acc:List (Str×Addr)),(∀y d,acc.lookup y=some d->env.cells.lookup y=some d)->(iQ env names acc).lookup x=some c->env.cells.lookup x=some c
 | [],acc,ha,h=>ha x c h
 |(n,k)::r,acc,ha,h=>by
  refine lY r _ (fun y d q=>?_) h
  by_cases hk:(k==NameKind.free)=true
  ·rw[if_pos hk]at q
   cases e:env.cells.lookup n with
   | none=>rw[e]at q;exact ha y d q
   | some a=>
    rw[e]at q
    have q':List.lookup y ((n,a)::acc)=some d:=q
    rw[Qbe]at q'
    cases hy:(y==n) with
    | true=>
     rw[hy]at q'
     have:y=n:=by simpa using hy
     subst this
     rw[e];exact q'
    | false=>rw[hy]at q';exact ha y d q'
  ·rw[if_neg hk]at q;exact ha y d q
theorem vR {env:Env} {x:Str}: ∀(names:List (Str×NameKind)) (acc:List (Str×Addr)),(∃c,acc.lookup x=some c)-> ∃c,(iQ env names acc).lookup x=some c
 | [],acc,h=>h
 |(n,k)::r,acc,⟨c,hc⟩=>by
  refine vR r _ ?_
  by_cases hk:(k==NameKind.free)=true
  ·rw[if_pos hk]
   cases e:env.cells.lookup n with
   | none=>exact ⟨c,hc⟩
   | some a=>
    show ∃c,List.lookup x ((n,a)::acc)=some c
    rw[Qbe]
    cases hy:(x==n) with
    | true=>exact ⟨a,rfl⟩
    | false=>exact ⟨c,hc⟩
  ·rw[if_neg hk];exact ⟨c,hc⟩
theorem oP {env:Env} {x:Str}: ∀(names:List (Str×NameKind)) (acc:List (Str×Addr)),(∀y∈names,y.2= .free-> ∃c,env.cells.lookup y.1=some c)->names.lookup x=some .free-> ∃c,(iQ env names acc).lookup x=some c
 | [],acc,_,h=>by simp at h
 |(n,k)::r,acc,hf,h=>by
  have hr: ∀y∈r,y.2= .free-> ∃c,env.cells.lookup y.1=some c:=fun y hy=>hf y (kb _ hy)
  rw[Qbe]at h
  cases hy:(x==n) with
  | true=>
   rw[hy]at h
   have hk:k= .free:=Qan h
   subst hk
   have hx:x=n:=by simpa using hy
   subst hx
   obtain ⟨c,hc⟩:=hf (x, .free) XS rfl
   have qO:env.cells.lookup x=some c:=hc
   refine vR r _ ⟨c,?_⟩
   rw[if_pos (show (NameKind.free==NameKind.free)=true by decide),qO]
   show List.lookup x ((x,c)::acc)=some c
   rw[Qbe]
   simp
  | false=>
   rw[hy]at h
   exact oP r _ hr h
theorem kH {env:Env}: ∀{names:List (Str×NameKind)} {x:Str},names.lookup x=some .free->
  ((names.map fun (n,k)=>if (k==NameKind.free&&env.scope.kind== .function&&env.kindOf n==some .cell) then (n,NameKind.cell) else (n,k)).lookup x=some .cell\/
   (names.map fun (n,k)=>if (k==NameKind.free&&env.scope.kind== .function&&env.kindOf n==some .cell) then (n,NameKind.cell) else (n,k)).lookup x=some .free)
 | [],_,h=>by simp at h
 |(n,k)::r,x,h=>by
  have ih:= @kH env r x
  show (List.lookup x ((if (k==NameKind.free&&env.scope.kind== .function&&env.kindOf n==some .cell)=true then (n,NameKind.cell) else (n,k))::_)=_\/List.lookup x ((if (k==NameKind.free&&env.scope.kind== .function&&env.kindOf n==some .cell)=true then (n,NameKind.cell) else (n,k))::_)=_)
  cases hx:x==n with
  | true=>
   simp only[Qbe,hx]at h
   cases h
   by_cases hc:((NameKind.free==NameKind.free)&&env.scope.kind== .function&&env.kindOf n==some .cell)=true
   ·rw[if_pos hc];simp[Qbe,hx]
   ·rw[if_neg hc];simp[Qbe,hx]
  | false=>
   simp only[Qbe,hx]at h
   by_cases hc:(k==NameKind.free&&env.scope.kind== .function&&env.kindOf n==some .cell)=true
   ·rw[if_pos hc];simp only[Qbe,hx];exact ih h
   ·rw[if_neg hc];simp only[Qbe,hx];exact ih h
theorem kI {env:Env}: ∀{names:List (Str×NameKind)} {x:Str},(∀y∈names,y.2≠ .cell)->
  ((names.map fun (n,k)=>if (k==NameKind.free&&env.scope.kind== .function&&env.kindOf n==some .cell) then (n,NameKind.cell) else (n,k)).lookup x=some .cell\/
   (names.map fun (n,k)=>if (k==NameKind.free&&env.scope.kind== .function&&env.kindOf n==some .cell) then (n,NameKind.cell) else (n,k)).lookup x=some .free)->names.lookup x=some .free
 | [],_,_,h=>by simp at h
 |(n,k)::r,x,hn,h=>by
  have ih:= @kI env r x (fun y hy=>hn y (kb _ hy))
  have hk:=hn (n,k) XS
  have h':(List.lookup x ((if (k==NameKind.free&&env.scope.kind== .function&&env.kindOf n==some .cell)=true then (n,NameKind.cell) else (n,k))::(r.map fun (n,k)=>if (k==NameKind.free&&env.scope.kind== .function&&env.kindOf n==some .cell) then (n,NameKind.cell) else (n,k)))=some .cell\/List.lookup x ((if (k==NameKind.free&&env.scope.kind== .function&&env.kindOf n==some .cell)=true then (n,NameKind.cell) else (n,k))::(r.map fun (n,k)=>if (k==NameKind.free&&env.scope.kind== .function&&env.kindOf n==some .cell) then (n,NameKind.cell) else (n,k)))=some .free):=h
  cases hx:x==n with
  | true=>
   rw[Qbe,hx]
   by_cases hc:(k==NameKind.free&&env.scope.kind== .function&&env.kindOf n==some .cell)=true
   ·have:(k==NameKind.free)=true:=by
     rw[Qbr,Qbr]at hc;exact hc.1.1
    have yE:k= .free:=by simpa using this
    rw[yE]
   ·rw[if_neg hc]at h'
    simp only[Qbe,hx]at h'
    rcases h' with h' | h'
    ·exact absurd (Qan h') hk
    ·exact h'
  | false=>
   rw[Qbe,hx]
   by_cases hc:(k==NameKind.free&&env.scope.kind== .function&&env.kindOf n==some .cell)=true
   ·rw[if_pos hc]at h';simp only[Qbe,hx]at h';exact ih h'
   ·rw[if_neg hc]at h';simp only[Qbe,hx]at h';exact ih h'
abbrev G_:Value->Shared->Prop:=fun _ _=>False
theorem t_ {prog:Program} {w:World} {A:Around} {R:Result->Shared->Prop} {s:Shared} {elt target iter:Expr} {ifs:List Expr} {scope:Scope} {pos:Pos} {it acc:Value} {env:Env} (I:Nat->Shared->Prop)
  (turn: ∀n s,I n s->wpAny (model prog w) A (pyNext it) (fun r s₁=>match r with
   | none=>R (.ok .next) s₁
   | some v=>wpAny (model prog w) A (letOwnedTupleGo target it v) (fun _ V_=>wpAny (model prog w) A (assign target env v) (fun _ s₂=>
     wpAny (model prog w) A (forIn ifs true fun c r=>if r=true then do let ok <-isTrue c env (eval c env);pure (ForInStep.yield ok) else pure (ForInStep.yield r)) (fun ok s₃=>
      if ok=true then wpAny (model prog w) A (eval elt env) (fun x s₄=>
       wpAny (model prog w) A (call (.builtin "list.append") [acc,x]) (fun _ s₅=> ∃m,m<n/\I m s₅) G_ s₄) G_ s₃
      else ∃m,m<n/\I m s₃) G_ s₂) G_ V_) G_ s₁) G_ s)
  (n:Nat) (h:I n s):codeAny (model prog w) A (.compLoop (.ListComp elt [⟨target,iter,ifs,0⟩] scope pos) 0 it acc env) R s:=by
 refine codeAny_loop rfl I (fun n s hI=>?_) n h
 show wpAny _ A ((compTurn (.ListComp elt [⟨target,iter,ifs,0⟩] scope pos) 0 it acc env).onRaise (fun x=>do noteFrame x env;theTreesLotGoes x)) _ _ s
 refine wpAny_noted ?_
 rw[compTurn_list]
 have no: ∀{F:Value->Shared->Prop} (e:Value) (s':Shared),G_ e s'->F e s':=fun _ _ h=>h.elim
 refine wpAny_bind (wpAny_standAt (wpAny_bind (wpAny_mono (turn n s hI) (fun r s₁ h₁=>?_) no)))
 cases r with
 | none=>exact wpAny_pure h₁
 | some v=>
  refine wpAny_bind (wpAny_mono h₁ (fun _ V_ XT=>?_) no)
  refine wpAny_bind (wpAny_mono XT (fun _ s₂ h₂=>wpAny_bind (wpAny_mono h₂ (fun ok s₃ h₃=>?_) no)) no)
  cases ok with
  | false=>exact wpAny_pure ⟨rfl,h₃⟩
  | true=>
   exact wpAny_bind (wpAny_bind (wpAny_mono h₃ (fun x s₄ h₄=>wpAny_bind (wpAny_mono h₄ (fun _ s₅ h₅=>wpAny_pure (wpAny_pure ⟨rfl,h₅⟩)) no)) no))
noncomputable def bS (X:Cx) (scope:Scope) (C:Addr) (Nc:List Str) (s:Shared) (H:Hp) (fp:List Addr):Cx where
 prog:=X.prog
 w:=X.w
 K:=X.K
 mg:=X.mg
 base:=X.base
 A:=X.A
 N:=Nc
 s₀:=s
 H₀:=H
 env:=compEnvC scope (iQ X.env scope.names []) C X.env
 outer:=X.stack
 stack:=X.stack
 ex:=fp
 fn:=fun _=>false
 calm:=X.calm
 pn:=[]
 xe:=G_
def jS (X:Cx) (scope:Scope):List Str->List (Option Nat)->Prop
 | [],[]=>True
 | _::ys,none::os=>jS X scope ys os
 | y::ys,some j::os=>(X.N[j]? =some y/\scope.names.lookup y=some .free/\(X.env.kindOf y=some .cell\/X.env.kindOf y=some .free))/\jS X scope ys os
 | _,_=>False
noncomputable def kJ (σ:St) (ix:List (Option Nat)):St:=ix.map fun o=>match o with | none=>none | some j=>(σ[j]?).getD none
def Wk:St->St->Prop
 | [],[]=>True
 | none::a,_::b=>Wk a b
 | some v::a,w::b=>w=some v/\Wk a b
 | _,_=>False
theorem Wk.len: ∀{a b:St},Wk a b->a.length=b.length
 | [],[],_=>rfl
 | none::a,_::b,h=>congrArg (· +1) (Wk.len (a:=a) (b:=b) h)
 | some _::a,_::b,h=>congrArg (· +1) (Wk.len (a:=a) (b:=b) h.2)
theorem Wk.get: ∀{a b:St} {i:Nat} {v:V},Wk a b->a[i]? =some (some v)->b[i]? =some (some v)
 | [],[],i,v,_,h=>by simp at h
 | none::a,x::b,0,v,_,h=>by simp at h
 | none::a,x::b,i+1,v,k,h=>by
  have:=Wk.get (a:=a) (b:=b) (i:=i) (v:=v) k (by simpa using h)
  simpa using this
 | some y::a,x::b,0,v,k,h=>by
  have e:y=v:=by simpa using h
  subst e
  simp[k.1]
 | some y::a,x::b,i+1,v,k,h=>by
  have:=Wk.get (a:=a) (b:=b) (i:=i) (v:=v) k.2 (by simpa using h)
  simpa using this
theorem jS.len {X:Cx} {scope:Scope}: ∀{N:List Str} {ix:List (Option Nat)},jS X scope N ix->ix.length=N.length
 | [],[],_=>rfl
 | _::ys,none::os,h=>congrArg (· +1) (jS.len (N:=ys) (ix:=os) h)
 | _::ys,some _::os,h=>congrArg (· +1) (jS.len (N:=ys) (ix:=os) h.2)
theorem jS.get {X:Cx} {scope:Scope}: ∀{N:List Str} {ix:List (Option Nat)} {i j:Nat},jS X scope N ix->ix[i]? =some (some j)-> ∃y,N[i]? =some y/\X.N[j]? =some y/\scope.names.lookup y=some .free/\(X.env.kindOf y=some .cell\/X.env.kindOf y=some .free)
 | [],[],i,j,_,h=>by simp at h
 | y::ys,none::os,0,j,_,h=>by simp at h
 | y::ys,none::os,i+1,j,k,h=>by
  obtain ⟨z,h1,h2⟩:=jS.get (N:=ys) (ix:=os) (i:=i) (j:=j) k (by simpa using h)
  exact ⟨z,by simpa using h1,h2⟩
 | y::ys,some j'::os,0,j,k,h=>by
  have e:j'=j:=by simpa using h
  subst e
  exact ⟨y,by simp,k.1⟩
 | y::ys,some j'::os,i+1,j,k,h=>by
  obtain ⟨z,h1,h2⟩:=jS.get (N:=ys) (ix:=os) (i:=i) (j:=j) k.2 (by simpa using h)
  exact ⟨z,by simpa using h1,h2⟩
theorem Cb {σ:St} {ix:List (Option Nat)} {i:Nat} {v:V} (h:(kJ σ ix)[i]? =some (some v)): ∃j,ix[i]? =some (some j)/\σ[j]? =some (some v):=by
 unfold kJ at h
 rw[Qaj]at h
 cases e:ix[i]? with
 | none=>rw[e]at h;cases h
 | some o=>
  rw[e]at h
  cases o with
  | none=>cases h
  | some j=>
   refine ⟨j,rfl,?_⟩
   have h':some ((σ[j]?).getD none)=some (some v):=h
   cases q:σ[j]? with
   | none=>rw[q]at h';cases h'
   | some z=>rw[q]at h';cases h';rfl
theorem yF {X:Cx} {pins:List (Addr×Obj)} {σ:St} {H:Hp} {s:Shared} (I:Inv X pins σ H s) {scope:Scope} {Nc:List Str} {ix:List (Option Nat)} (DG:jS X scope Nc ix) (gP: ∀y∈scope.names,y.2≠ .cell)
  (iJ:scope.kind= .function) (HL: ∀y∈scope.names,y.2= .free->X.env.kindOf y.1=some .cell\/X.env.kindOf y.1=some .free) {fp:List Addr} (hf: ∀b∈fp,nE X pins H b) (QB: ∀b∈fp, ∃o,s.heap.get? b=some o)
  {C:Addr} {h':Heap} {t':Nat} {m0:Str->Option Value} (hC:s.heap.objs.size<=C) (Sm:h'.Ns C m0) (k: ∀b o,s.heap.get? b=some o->h'.get? b=some o):
  Inv (bS X scope C Nc s H fp) [] (kJ σ ix) H { s with heap:=h',toks:=t' }:=by
 walk_at"o"
 walk_at"D"
 refine ⟨⟨I.ok.mod,iJ,I.ok.glob,I.ok.blt,hC,fun x y c h1 h2=>I.ok.inj x y c (kK h1) (kK h2),fun x hx=>?_,fun x c h=>?_,I.ok.hd,I.ok.frames, .inl rfl,fun b hb=>?_,I.bs,Qa8 I.ok.Ho I.sz,fun b o e hb=>?_,fun b hb hs=>?_,I.stack,I.Al⟩,
  rfl,I.bare,Un.kept k,⟨m0,Sm,fun i x v h1 h2 h3=>?_⟩,fun x c e=>?_,I.bZ.fresh hC,fun x c e=>I.iW x c (kK e),fun p hp=>absurd (show p∈([]:List (Addr×Obj)) from hp) (by simp),I.bZ.kept k,?_⟩
 ·have NZ:scope.names.lookup x=some .free:=kI gP hx
  exact oP scope.names [] N6 NZ
 ·exact absurd (show false=true from h) (by decide)
 ·refine ⟨?_,fun x c e=>(hf b hb).2.2.2.2.1 x c (kK e)⟩
  obtain ⟨o,ho⟩:=QB b hb
  exact Qaq (Qap (Qag ho) hC)
 ·rcases (hf b hb).2.2.2.1 with z | z
  ·exact I.ok.DR b o e z
  ·exact absurd (Qap (Qag e) (Qa8 I.ok.Ho z)) (Qbd _)
 ·rcases Qah.mp (I.oG b hs) with z | z
  ·exact (hf b hb).2.1 z
  ·exact (hf b hb).2.2.1 z
 ·obtain ⟨j,e1,e2⟩:=Cb h2
  obtain ⟨y,y1,y2,y3,y4⟩:=DG.get e1
  have Wa:Nc[i]? =some x:=h1
  rw[y1]at Wa
  cases Wa
  obtain ⟨m,hn,hl⟩:=I.loc
  have hv:PQ X.env.scope x:=by
   rcases y4 with z | z
   ·exact .inr (.inl z)
   ·exact .inr (.inr z)
  obtain ⟨u,r,l⟩:=hl j x v y2 e2 hv
  refine ⟨u,r, .inr ⟨kH y3,?_⟩⟩
  rcases l with ⟨l,_⟩ | ⟨_,c,hc,q⟩
  ·rcases y4 with z | z
   ·rw[z]at l;cases l
   ·rw[z]at l;cases l
  ·obtain ⟨c',qO⟩:=oP scope.names [] N6 y3
   have e:=kK qO
   rw[hc]at e
   cases e
   obtain ⟨o,ho,hd⟩:=q
   exact ⟨c,qO,o,k _ _ ho,hd⟩
 ·obtain ⟨v,o,ho,hd⟩:=I.cell x c (kK e)
  exact ⟨v,o,k _ _ ho,hd⟩
 ·show (kJ σ ix).length=Nc.length
  unfold kJ
  rw[V6]
  exact DG.len
theorem Cc {X:Cx} {pins Am:List (Addr×Obj)} {σ σ':St} {H H':Hp} {s s':Shared} (I:Inv X pins σ H s) {scope:Scope} {Nc:List Str} {fp:List Addr} {C D:Addr} (J:Inv (bS X scope C Nc s H fp) Am σ' H' s')
  (hf: ∀b∈fp,nE X pins H b) (hD:s.heap.objs.size<=D) (hC:s.heap.objs.size<=C) (LL:D≠C) {its:List Value} {n:Nat} {acc:List V} (eD:s'.heap.get? D=some { cls:= .type "list",data:= .seq its.toArray n }) (r:Vals acc its)
  (hz:acc.length<=sizeLine) (nD:H' D=none) {oC:Obj} (eC:s'.heap.get? C=some oC) (dC: ∀v,oC.data≠ .cell v):Inv X (pins++[(C,oC)]) σ (upd H' D (.lst acc)) s':=by
 have lt: ∀b o,s.heap.get? b=some o->b≠D:=fun b o e=>Qaq (Qap (Qag e) hD)
 have U:Un (Ak X.stack) fp H H' s.heap s'.heap:=J.base
 have U':Un (Ak X.stack) fp H (upd H' D (.lst acc)) s.heap s'.heap:=
  ⟨U.keep,U.slot,fun b o e n hx=>by rw[az (lt b o e)];exact U.free b o e n hx,U.there,fun b xs e=>by rw[az (ax (U.jR b xs e) nD)];exact U.jR b xs e,
   fun b o u e=>by rw[az (ax (U.oF b o u e) nD)];exact U.oF b o u e,fun b ps e=>by
    obtain ⟨more,q⟩:=U.tJ b ps e
    exact ⟨more,by rw[az (ax q nD)];exact q⟩⟩
 have bZ:lQ X.prog X.w (upd H' D (.lst acc)) s'.heap:=fun b u e=>by
  by_cases hb:b=D
  ·subst hb
   rw[ag]at e;cases e
   exact ⟨hz,its,n,r,eD⟩
  ·rw[az hb]at e
   exact (J.bZ b u e).vH (fun c v _ q=>q) (fun c q=>by rw[az (ax q nD)];exact q) fun c xs q=>by rw[az (ax q nD)];exact q
 have I':Inv X pins σ (upd H' D (.lst acc)) s':=I.PX (ch:=fp) J.os U' bZ J.bare fun b hb=>by
  obtain ⟨_,h1,_,h2,h3,h4⟩:=hf b hb
  exact ⟨h2,h1,h3,h4⟩
 refine I'.kC fun p hp=>?_
 rcases Qaf.mp hp with z | z
 ·exact I'.pin p (Qax _ z)
 ·have e:p=(C,oC):=V8.mp z
  subst e
  refine ⟨eC,?_,Qfd (Qap I.lt hC),I.K_ hC,dC⟩
  rw[az (Ne.symm LL)]
  exact J.free
def PF (Y:Cx) (ifs:List Expr) (tc:TT):Prop:=
 ∀(pins:List (Addr×Obj)) (s:Shared) (σ:St) (H:Hp) (Q:Bool->Hp->Prop),Inv Y pins σ H s->tc σ H Q->
  wpAny (model Y.prog Y.w) Y.A (forIn ifs true fun c r=>if r=true then do let ok <-isTrue c Y.env (eval c Y.env);pure (ForInStep.yield ok) else pure (ForInStep.yield r)) (TP Y pins σ Q) Y.xe s
def QC:TT:=fun _ H Q=>Q true H
theorem dI {Y:Cx}:PF Y [] QC:=fun _ _ _ H _ I h=>wpAny_tests_nil ⟨H,I,h⟩
theorem lZ {Y:Cx} {c:Expr} {tc:TT} (h:PT Y c tc):PF Y [c] tc:=fun pins s σ H Q I hw=>wpAny_tests_one (h pins s σ H Q I hw)
def kL (J:It) (σc:St) (g:TG) (tc:TT) (te:TE) (Q:VK) (H1:Hp):Prop:=
 ∃W:Nat->Nat->List V->Hp->Prop,(∃m,W 0 m [] H1)/\ ∀i m acc H,W i m acc H->acc.length<sizeLine/\
 ((J.stop i H/\ ∀D,H D=none->Q (.ref D) (upd H D (.lst acc)))\/
  (J.go i H/\ ∀x H',J.DT i H x H'->g x σc H' fun σ2 H2=>Wk σc σ2/\tc σ2 H2 fun b H3=>if b=true then te σ2 H3 fun v H4=> ∃m',m'<m/\W (i+1) m' (acc++[v]) H4 else ∃m',m'<m/\W (i+1) m' acc H3))
def vS (wi:TI) (ix:List (Option Nat)) (g:TG) (tc:TT) (te:TE):TE:=fun σ H Q=>wi σ H fun J H1=>kL J (kJ σ ix) g tc te Q H1
theorem rM {X:Cx} {tg iter elt:Expr} {ifs:List Expr} {scope:Scope} {pos:Pos} {wi:TI} {g:TG} {tc:TT} {te:TE} {Nc:List Str} {ix:List (Option Nat)} (hi:PI X tg iter wi) (jZ:X.calm=true) (DG:jS X scope Nc ix)
  (gP: ∀y∈scope.names,y.2≠ .cell) (iJ:scope.kind= .function) (HL: ∀y∈scope.names,y.2= .free->X.env.kindOf y.1=some .cell\/X.env.kindOf y.1=some .free)
  (hG: ∀C s H fp,PG (bS X scope C Nc s H fp) tg g) (hT: ∀C s H fp,PF (bS X scope C Nc s H fp) ifs tc) (hE: ∀C s H fp,PE (bS X scope C Nc s H fp) elt te)
  {pins:List (Addr×Obj)} {s:Shared} {σ:St} {H:Hp} {Q:VK} (I:Inv X pins σ H s) (h:vS wi ix g tc te σ H Q) {RR:Value->Addr->Result->Shared->Prop}
  (XU: ∀(D C:Addr) (oC:Obj) (m:Str->Option Value) (H':Hp) (s':Shared),s'.heap.get? C=some oC->s'.heap.Ns C m->nE X pins H' C->Inv X (pins++[(C,oC)]) σ H' s'->Q (.ref D) H'->RR (.ref D) C (.ok .next) s'):
  wpAny (model X.prog X.w) X.A (eval iter X.env) (fun v s1=>wpAny (model X.prog X.w) X.A (pyIter v) (fun it s2=>wpAny (model X.prog X.w) X.A (newList []) (fun acc s3=>
   wpAny (model X.prog X.w) X.A (newFunctionEnv scope X.env.globals (iQ X.env scope.names []) [] X.env.qual none .none (some X.env)) (fun QD s4=>
    codeAny (model X.prog X.w) X.A (.compStart (.ListComp elt [⟨tg,iter,ifs,0⟩] scope pos) 0 it acc { QD with scope:=relabel scope X.env }) (RR acc QD.locals) s4) X.xe s3) X.xe s2) X.xe s1) X.xe s:=by
 refine cy (hi pins s σ H _ I h) fun v s1 h1=>cy h1 fun TY s2 h2=>?_
 obtain ⟨it,fp,tn,J,H2,e,I2,T,tP,f2,W,⟨m0,w0⟩,turn⟩:=h2
 subst e
 refine wpAny_newObj_type (wpAny_newFunctionEnv gP (by intro y hy;simp at hy) (fun h₁ LM HM=>?_) iJ)
 dsimp only at LM HM ⊢
 generalize Ur:s2.heap.push { cls:= .type "list",dict:=none,data:= .seq ([]:List Value).toArray }=P2 at LM HM ⊢
 have hC:P2.objs.size=s2.heap.objs.size+1:=by rw[<-Ur,Qd3]
 have LL:s2.heap.objs.size≠P2.objs.size:=by rw[hC];exact Qaq (Qcc _)
 have LN:s2.heap.objs.size<=P2.objs.size:=by rw[hC];exact Qb7 _
 have Lb: ∀b,b<s2.heap.objs.size->b≠P2.objs.size:=fun b hb=>by rw[hC];exact Qaq (Qcr hb)
 have old: ∀b o,s2.heap.get? b=some o->h₁.get? b=some o:=fun b o e=>HM.extBut b o (Lb b (Qag e)) (N5 _ (Ur▸N5 _ e))
 have LO:h₁.get? s2.heap.objs.size=some { cls:= .type "list",data:= .seq ([]:List Value).toArray }:=HM.extBut _ _ LL (N5 _ (Ur▸Qal _ rfl))
 have Wb:tn 0 h₁:=T.keep 0 _ _ tP fun b _ o e=>old b o e
 have QB: ∀b∈fp, ∃o,s2.heap.get? b=some o:=fun b hb=>let ⟨o,e,_⟩:=T.obj 0 _ tP b hb;⟨o,e⟩
 have Wc: ∀b∈fp,s2.heap.objs.size≠b:=fun b hb=>let ⟨o,e⟩:=QB b hb;Qfd (Qag e)
 have IY:=yF I2 DG gP iJ HL f2 QB (t':=s2.toks+([]:List (Str×Value)).length) LN LM old
 have Us: ∀b,s2.heap.objs.size<=b->b∉Ak X.stack:=fun b hb hs=>by
  rcases Qah.mp (I2.oG b hs) with z | z
  ·exact absurd (Qap I2.lt hb) (by rw[z];exact Qbd _)
  ·exact I2.K_ hb z
 walk_at"D"
 have QE: ∀x c,(iQ X.env scope.names []).lookup x=some c->c≠s2.heap.objs.size:=fun x c e z=>by
  obtain ⟨v,q⟩:=I2.cell x c (kK e)
  exact absurd (q.lt) (by rw[z];exact Qbd _)
 have fY: ∀{pl:List (Addr×Obj)} {H':Hp},(∀p∈pl,p.1=s2.heap.objs.size)->(∀b∈fp,H' b=none)-> ∀b∈fp,nE (bS X scope P2.objs.size Nc s2 H2 fp) pl H' b:=fun {pl H'} iT hn b hb=>by
  refine ⟨hn b hb,?_,?_, .inl hb,fun x c e=>(f2 b hb).2.2.2.2.1 x c (kK e),fun p hp=>?_⟩
  ·obtain ⟨o,e⟩:=QB b hb
   exact Lb b (Qag e)
  ·intro hs
   rcases Qah.mp (I2.oG b hs) with z | z
   ·exact (f2 b hb).2.1 z
   ·exact (f2 b hb).2.2.1 z
  ·rw[iT p hp]
   exact Wc b hb
 have loop: ∀s₃:Shared,s₃={ s2 with heap:=h₁,toks:=s2.toks+([]:List (Str×Value)).length }->
   codeAny (model X.prog X.w) X.A (.compLoop (.ListComp elt [⟨tg,iter,ifs,0⟩] scope pos) 0 (.ref it) (.ref s2.heap.objs.size) (compEnvC scope (iQ X.env scope.names []) P2.objs.size X.env)) (RR (.ref s2.heap.objs.size) P2.objs.size) s₃:=by
  rintro s₃ rfl
  refine t_ (fun n s'=> ∃i acc its nn H',Inv (bS X scope P2.objs.size Nc s2 H2 fp) [] (kJ σ ix) H' s'/\tn i s'.heap/\(∀b∈fp,H' b=none)/\
   s'.heap.get? s2.heap.objs.size=some { cls:= .type "list",data:= .seq (its:List Value).toArray nn }/\Vals acc its/\H' s2.heap.objs.size=none/\W i n acc H') ?_ m0
   ⟨0,[],[],0,H2,IY,Wb,fun b hb=>(f2 b hb).1,LO, .nil,I2.bZ.fresh (Sq _),w0⟩
  rintro n s3 ⟨i,acc,its,nn,H3,I3,Lo,Qc,eD,rv,nD,w3⟩
  obtain ⟨hz,alt⟩:=turn i n acc H3 w3
  have IP:Inv (bS X scope P2.objs.size Nc s2 H2 fp) [(s2.heap.objs.size,{ cls:= .type "list",data:= .seq its.toArray nn })] (kJ σ ix) H3 s3:=I3.kC fun p hp=>by
   have e:p=(s2.heap.objs.size,_):=V8.mp hp
   subst e
   refine ⟨eD,nD,LL,Us _ (Sq _),fun v z=>?_⟩
   have z':Data.seq its.toArray nn=Data.cell v:=z
   cases z'
  have iT: ∀p∈[(s2.heap.objs.size,({ cls:= .type "list",data:= .seq its.toArray nn }:Obj))],p.1=s2.heap.objs.size:=fun p hp=>by
   have e:p=(s2.heap.objs.size,_):=V8.mp hp
   rw[e]
  rcases alt with ⟨stop,fin⟩ | ⟨go,step⟩
  ·refine cy (T.done (bS X scope P2.objs.size Nc s2 H2 fp) rfl rfl rfl jZ i _ s3 _ H3 G_ IP (fY iT Qc) Lo stop) fun r s4 zz=>?_
   obtain ⟨hr,I4⟩:=zz
   subst hr
   obtain ⟨m,hn,_⟩:=id I4.loc
   obtain ⟨oC,es,ep,eC,dC,_⟩:=id hn
   have XW:=(I4.pin (s2.heap.objs.size,_) (Qax _ (V8.mpr rfl))).1
   have Ut:=fin _ nD
   refine XU _ _ oC m _ s4 eC hn ?_ (Cc I2 I4 f2 (Sq _) LN LL XW rv (Qcw hz) nD eC fun v z=>?_) Ut
   ·refine I2.nF LN ?_
    rw[az (Ne.symm LL)]
    exact I4.free
   ·rw[dC]at z;cases z
  ·refine cy (T.item (bS X scope P2.objs.size Nc s2 H2 fp) rfl rfl rfl jZ i _ s3 _ H3 G_ IP (fY iT Qc) Lo go) fun r s4 zz=>?_
   obtain ⟨u,hr,h4⟩:=zz
   subst hr
   refine cy h4 fun _ s5 zz=>?_
   obtain ⟨x,H5,I5,r5,y5,G0,T3⟩:=zz
   have T4:=I5.pinned (fY iT T3) (T.obj _ _ G0)
   refine cy (hG _ s2 H2 fp _ s5 _ H5 x u _ T4 r5 (step x H5 y5)) fun _ s6 zz=>?_
   obtain ⟨σ6,H6,I6,wk,q6⟩:=zz
   refine cy (hT _ s2 H2 fp _ s6 σ6 H6 _ I6 q6) fun b s7 zz=>?_
   obtain ⟨H7,I7,q7⟩:=zz
   have again: ∀{H9:Hp} {s9:Shared} {m':Nat},Inv (bS X scope P2.objs.size Nc s2 H2 fp) ([(s2.heap.objs.size,({ cls:= .type "list",data:= .seq its.toArray nn }:Obj))]++oJ fp s5.heap) σ6 H9 s9->
     (s9.heap.get? s2.heap.objs.size=some { cls:= .type "list",data:= .seq its.toArray nn }/\H9 s2.heap.objs.size=none)/\tn (i+1) s9.heap/\(∀b∈fp,H9 b=none)/\Inv (bS X scope P2.objs.size Nc s2 H2 fp) [] (kJ σ ix) H9 s9:=fun {H9 s9 m'} I9=>by
    have pD:=I9.pin (s2.heap.objs.size,_) (Qax _ (Qct _ (V8.mpr rfl)))
    refine ⟨⟨pD.1,pD.2.1⟩,T.keep _ _ _ G0 fun b hb o e=>(I9.pin (b,o) (Qax _ (Qax _ (hX hb e)))).1,fun b hb=>?_,?_⟩
    ·obtain ⟨o,e,d⟩:=T.obj _ _ G0 b hb
     exact (I9.pin (b,o) (Qax _ (Qax _ (hX hb e)))).2.1
    ·exact (I9.weak wk.len fun i v e=>wk.get e).kC fun p hp=>absurd hp (by simp)
   cases b with
   | false=>
    rw[if_neg Qai]at q7 ⊢
    obtain ⟨m',hm,w7⟩:=q7
    obtain ⟨⟨e7,n7⟩,t7,f7,J7⟩:=again (m':=0) I7
    exact ⟨m',hm,i+1,acc,its,nn,H7,J7,t7,f7,e7,rv,n7,w7⟩
   | true=>
    rw[if_pos rfl]at q7 ⊢
    refine cy (hE _ s2 H2 fp _ s7 σ6 H7 _ I7 q7) fun y s8 zz=>?_
    obtain ⟨v,H8,I8,r8,m',hm,w8⟩:=zz
    obtain ⟨⟨e8,n8⟩,t8,f8,J8⟩:=again (m':=0) I8
    refine wpAny_list_append_plain (items:=its.toArray) ⟨nn,e8⟩ (fun h9 We Wf=>?_) (by rw[XR, <-rv.length];exact Qcw hz)
    obtain ⟨n9,e9⟩:=We
    refine ⟨m',hm,i+1,acc++[v],its++[y],n9,H8,J8.turned (t':=s8.toks) (fun b o hb e=>(Wf.2 b hb).trans e) n8 LL (.inr (Sq _)) QE (fun p hp=>absurd hp (by simp[bS])),?_,f8,?_,rv.append (.cons r8 .nil),n8,w8⟩
    ·exact T.keep _ _ _ t8 fun b hb o e=>(Wf.2 b (Ne.symm (Wc b hb))).trans e
    ·simpa using e9
 exact codeAny_compStart_list (loop _ rfl) (T.self _ 0 _ _ _ Wb (loop _ rfl))
theorem HN {X:Cx} {tg iter elt:Expr} {ifs:List Expr} {scope:Scope} {pos:Pos} {wi:TI} {g:TG} {tc:TT} {te:TE} (Nc:List Str) (ix:List (Option Nat)) (hi:PI X tg iter wi) (jZ:X.calm=true) (DG:jS X scope Nc ix)
  (gP: ∀y∈scope.names,y.2≠ .cell) (iJ:scope.kind= .function) (HL: ∀y∈scope.names,y.2= .free->X.env.kindOf y.1=some .cell\/X.env.kindOf y.1=some .free)
  (yG: ∀x∈scope.names,x.2= .local->scope.names.lookup x.1=some .local)
  (hG: ∀C s H fp,PG (bS X scope C Nc s H fp) tg g) (hT: ∀C s H fp,PF (bS X scope C Nc s H fp) ifs tc) (hE: ∀C s H fp,PE (bS X scope C Nc s H fp) elt te)
  (hs: ∀x,foldedSetIterable iter X.env x=pure x:=by intro _;rfl):PE X (.ListComp elt [⟨tg,iter,ifs,0⟩] scope pos) (vS wi ix g tc te):=by
 walk_at"g"
 rw[eval_ListComp]
 walk_at"o"
 refine wpAny_comprehension_free (use:=none) rfl hs (jY N6) iJ yG (rM hi jZ DG gP iJ HL hG hT hE I h (RR:=fun acc C=>compPost (model X.prog X.w) X.A X.xe none (EP X pins σ Q) acc C) ?_)
 intro D C oC m H' s' eC hn fC I' q
 refine ⟨m,hn,fun h' QF=>⟨.ref D,H',?_,rfl,q⟩⟩
 exact I'.iY.turned (t':=s'.toks) (fun b o hb e=>(QF.2 b hb).trans e) fC.1 fC.2.1 fC.2.2.2.1 fC.2.2.2.2.1 fC.2.2.2.2.2
theorem HP {X:Cx} {i:Nat} {x:Str} {tg iter elt:Expr} {ifs:List Expr} {scope:Scope} {pos Ed pos':Pos} {wi:TI} {g:TG} {tc:TT} {te:TE} (Nc:List Str) (ix:List (Option Nat)) (hN:X.N.Nodup) (LP:X.N[i]? =some x) (hx:Loc X.env.scope x)
  (LQ:swapsWith (.ListComp elt [⟨tg,iter,ifs,0⟩] scope pos) (some (.Name x pos')) Ed.line X.env=pure true) (hi:PI X tg iter wi) (jZ:X.calm=true) (DG:jS X scope Nc ix)
  (gP: ∀y∈scope.names,y.2≠ .cell) (iJ:scope.kind= .function) (HL: ∀y∈scope.names,y.2= .free->X.env.kindOf y.1=some .cell\/X.env.kindOf y.1=some .free)
  (yG: ∀x∈scope.names,x.2= .local->scope.names.lookup x.1=some .local)
  (hG: ∀C s H fp,PG (bS X scope C Nc s H fp) tg g) (hT: ∀C s H fp,PF (bS X scope C Nc s H fp) ifs tc) (hE: ∀C s H fp,PE (bS X scope C Nc s H fp) elt te)
  (hs: ∀x,foldedSetIterable iter X.env x=pure x:=by intro _;rfl) (hf:X.fn x=true\/X.env.scope.names.lookup x=some .local:=by first | exact .inl rfl | exact .inr rfl | assumption):
  PS X (.Assign [.Name x pos'] (.ListComp elt [⟨tg,iter,ifs,0⟩] scope pos) Ed) (Hs (vS wi ix g tc te) (rC i)):=by
 intro pins s σ H E I h
 walk_at"o"
 rw[exec_Assign_Name_used _ _ _ _ LQ]
 refine wpAny_bind (wpAny_standAt (wpAny_bind ?_))
 show wpAny _ X.A (do let _ <-comprehension (.ListComp elt [⟨tg,iter,ifs,0⟩] scope pos) scope X.env _ (newList []) false (eval iter X.env) (some (assign (.Name x pos') X.env))) _ _ s
 refine wpAny_bind (wpAny_mono (wpAny_comprehension_free (use:=some (assign (.Name x pos') X.env)) (Q:=fun _ s'=>SP X pins E .next s') rfl hs (jY N6) iJ yG
  (rM hi jZ DG gP iJ HL hG hT hE I h (RR:=fun acc C=>compPost (model X.prog X.w) X.A X.xe (some (assign (.Name x pos') X.env)) (fun _ s'=>SP X pins E .next s') acc C) ?_)) (fun _ s' hq=>wpAny_pure (wpAny_pure hq)) fun _ _ e=>e)
 intro D C oC m H' s' eC hn fC I' q
 show wpAny _ X.A (assign (.Name x pos') X.env (.ref D)) _ _ _
 refine wpAny_assign_Name (gO I' hN LP hx (show RelV (.ref D) _ from rfl) (fun HB Wg=>?_) hf)
 have pC:=Wg.pin (C,oC) (Qax _ (Qax _ (V8.mpr rfl)))
 refine ⟨m,?_,fun h' QF=>?_⟩
 ·obtain ⟨o,es,ep,e,r⟩:=hn
  rw[eC]at e;cases e
  exact ⟨oC,es,ep,pC.1,r⟩
 ·refine ⟨_,H',Wg.iY.turned (t':=HB.toks) (fun b o hb e=>(QF.2 b hb).trans e) fC.1 fC.2.1 fC.2.2.2.1 fC.2.2.2.2.1 fC.2.2.2.2.2,q⟩
noncomputable def S (l:List Nat):Str:=⟨l.toArray⟩
theorem fS (l:List Nat):(S l).cps.toList=l:=by simp[S]
theorem du (l:List Nat):(S l).length=l.length:=by simp[S,Str.length]
theorem l_ (l:List Nat):(S l).cps.size=l.length:=by simp[S]
theorem QG {a b:List Nat} (h:S a=S b):a=b:=by
 have:=congrArg (fun x:Str=>x.cps.toList) h
 simpa [S]using this
theorem QH (x:Str):x=S x.cps.toList:=by cases x;simp[S]
theorem QI (a b:List Nat):S a++S b=S (a++b):=by
 apply Str.ext'
 apply Qcv.mp
 simp[S,Str.cps_append]
theorem Ke {a b:List Nat}:decide (V.str (S a)=V.str (S b))=decide (a=b):=by
 by_cases h:a=b
 ·subst h;simp
 ·rw[decide_eq_false h,decide_eq_false]
  intro q
  exact h (QG (V.str.inj q))
noncomputable def cut {α:Type} (xs:List α) (lo hi:Option Int):List α:=(xs.drop (HT.hU xs.length 0 lo)).take (HT.hU xs.length xs.length hi - HT.hU xs.length 0 lo)
theorem HQ {α:Type} (xs:List α) (lo hi:Option Int):(cut xs lo hi).length<=xs.length:=by
 unfold cut
 rw[Qak,Qat]
 lia
theorem vT (n d:Nat) (v:Int):max 0 (min (if v<0 then v+(n:Int) else v) (n:Int))=((HT.hU n d (some v):Nat):Int):=by
 show _=(((if v<0 then (v+(n:Int)).toNat else min v.toNat n):Nat):Int)
 by_cases hv:v<0
 ·simp only[if_pos hv];lia
 ·simp only[if_neg hv];lia
theorem m8 (lo hi:Option Int) (n:Nat):Builtin.Str.strSliceIndices lo hi 1 n=(List.range (HT.hU n n hi - HT.hU n 0 lo)).map (HT.hU n 0 lo+ ·):=by
 have h1:(1:Int)>0:=by decide
 rw[<-sliceRange_one]
 unfold Builtin.Str.strSliceIndices
 simp only[h1,if_true]
 congr 1
 ·cases lo with
  | none=>rfl
  | some v=>exact vT n 0 v
 ·cases hi with
  | none=>rfl
  | some v=>exact vT n n v
theorem HR (l:List Nat) (lo hi:Option Int):Txt.slice (S l) lo hi=S (cut l lo hi):=by
 have hx:((Builtin.Str.strSliceIndices lo hi 1 (S l).length).filterMap ((S l).cps[·]?))=cut l lo hi:=by
  rw[du,m8,pick_run,fS]
  rfl
 have hlen:(Builtin.Str.strSliceIndices lo hi 1 (S l).length).length=HT.hU l.length l.length hi - HT.hU l.length 0 lo:=by
  rw[du,m8,V6,Qb8]
 unfold Txt.slice
 by_cases hc:((1:Int)==1&&(Builtin.Str.strSliceIndices lo hi 1 (S l).length).length==(S l).length)=true
 ·rw[if_pos hc]
  rw[hlen,du]at hc
  have e:HT.hU l.length l.length hi - HT.hU l.length 0 lo=l.length:=by simpa using hc
  have h2:=HT.Lv l.length l.length (Sq _) hi
  have e0:HT.hU l.length 0 lo=0\/l.length=0:=by lia
  unfold cut
  rw[e]
  rcases e0 with z | z
  ·rw[z];simp
  ·have:l=[]:=List.eq_nil_of_length_eq_zero z
   subst this
   simp
 ·rw[if_neg hc]
  rw[hx]
  rfl
section
variable {X:Cx}
theorem i4 {x:Str} {j pos} (l:List Nat) (h:x=S l):PE X (.Constant (.str x) j pos) (tC (.str (S l))):=by
 subst h
 exact Lf
def QJ:R2:=fun x y H Q=> ∃a b,x= .str (S a)/\y= .str (S b)/\a.length+b.length<=sizeLine/\Q (.str (S (a++b))) H
theorem eY:gQ X (binaryOp .Add) QJ:=by
 walk_at"a"
 obtain ⟨a,b,rfl,rfl,hz,q⟩:=h
 exact yo pins s σ H _ _ v u Q I rx ry ⟨S a,S b,rfl,rfl,by rw[du,du];exact hz,by rw[QI];exact q⟩
def QK:R2:=fun x y H Q=> ∃l i c,x= .str (S l)/\y= .int i/\l.length<=sizeLine/\oM l i=some c/\Q (.str (S [c])) H
theorem gB:Lw X QK:=by
 walk_at"Y"
 obtain ⟨l,i,c,rfl,rfl,hz,he,q⟩:=h
 exact Lz value slice pins s σ H _ _ v u Q I rx ry ⟨S l,i,c,rfl,rfl,by rw[du];exact hz,by rw[fS];exact he,q⟩ hs
def Uu:V->Option Int->Option Int->Hp->VK->Prop:=fun x lo hi H Q=> ∃l,x= .str (S l)/\l.length<=sizeLine/\Q (.str (S (cut l lo hi))) H
theorem hZ:Sk X Uu:=by
 intro pins s σ H x v vl vu lo hi sl Q I rx hs pl pu h
 obtain ⟨l,rfl,hz,q⟩:=h
 walk_at"f"
 refine ⟨"str",_,F.slot_str_getitem.lookup,typeIs_str _ _ _,?_⟩
 have key: ∀(a b:Option (Int×Tok)),vl=partValue a->vu=partValue b->a.map (·.1)=lo->b.map (·.1)=hi->wpAny (model X.prog X.w) X.A (getItem (.str (S l) t) (.ref sl)) (EP X pins σ Q) X.xe s:=by
  rintro a b rfl rfl rfl rfl
  obtain ⟨o,e,c,d⟩:=hs
  refine wpAny_getItem_str_slice (l:=a) (u:=b) (st:=none) ⟨o,e,c,d⟩ rfl (post_val_or_str ⟨?_,fun t' k=>?_⟩)
  ·exact Qa8 (Txt.slice_le (S l) _ _) (by rw[du];exact hz)
  ·exact ⟨.str (S (cut l _ _)),H,I.tok _,⟨t',congrArg (fun z=>Value.str z t') (HR l _ _)⟩,q⟩
 cases pl with
 | none=>
  cases pu with
  | none=>exact key none none rfl rfl rfl rfl
  | int i ti=>exact key none (some (i,ti)) rfl rfl rfl rfl
 | int i ti=>
  cases pu with
  | none=>exact key (some (i,ti)) none rfl rfl rfl rfl
  | int j tj=>exact key (some (i,ti)) (some (j,tj)) rfl rfl rfl rfl
theorem aH:cQ X (.builtin "len") (fun xs H Q=> ∃l,xs=[.str (S l)]/\l.length<=sizeLine/\Q (.int l.length) H):=by
 walk_at"e"
 obtain ⟨l,rfl,hz,q⟩:=h
 exact tY pins s σ H _ us Q I r ⟨S l,rfl,by rw[du];exact hz,by rw[du];exact q⟩
noncomputable def bW (l:List Nat):List V:=l.map fun c=>V.str (S [c])
theorem yH {l:List Nat}: ∀{acc:List Value},acc.length=l.length->(∀j v,acc[j]? =some v->SignAt (S l) j v)->Vals (bW l) acc:=by
 induction l with
 | nil=>intro acc h _;have:acc=[]:=List.eq_nil_of_length_eq_zero h;subst this;exact .nil
 | cons c l ih=>
  intro acc h k
  cases acc with
  | nil=>cases h
  | cons a acc=>
   refine .cons ?_ (ih (by simpa using h) fun j v e=>?_)
   ·obtain ⟨c',u,e1,e2⟩:=k 0 a rfl
    have:c=c':=by simpa [S]using e1
    subst this
    exact ⟨u,e2⟩
   ·obtain ⟨c',u,e1,e2⟩:=k (j+1) v (by simpa using e)
    exact ⟨c',u,by simpa [S]using e1,e2⟩
theorem oQ (hc:X.calm=true):cQ X (.type "list") (fun xs H Q=> ∃l,xs=[.str (S l)]/\l.length<=sizeLine/\ ∀p,H p=none->Q (.ref p) (upd H p (.lst (bW l)))):=by
 walk_at"e"
 obtain ⟨l,rfl,hz,q⟩:=h
 obtain ⟨u,rfl,t,rfl⟩:=vals1 r
 refine call_list_str (I.ok.hd hc) (S l) t (fun h' tk b7 c' hk e LO=>?_) (by rw[l_];exact hz)
 obtain ⟨h1,h2⟩:=LO
 rw[l_]at h1
 refine ⟨.ref s.heap.objs.size,_,I.laid (t':=tk) (o:= .lst (bW l)) hk (Sq _) ?_,rfl,q _ I.fresh⟩
 exact ⟨by unfold bW;rw[V6];exact hz,b7.toList,c',yH (by simpa using h1) (fun j v e=>h2 j v (by simpa using e)),by simpa using e⟩
def Uv:R2:=fun x y H Q=> ∃c l,x= .str (S [c])/\y= .str (S l)/\Q (.bl (decide (c∈l))) H
theorem Ee:gQ X (compareOp .In) Uv:=by
 walk_at"a"
 obtain ⟨c,l,rfl,rfl,q⟩:=h
 refine BV pins s σ H _ _ v u Q I rx ry ⟨S [c],S l,rfl,rfl,?_⟩
 have e:=StrLaws.found_one (S l) c
 rw[fS]at e
 rw[show (S [c])=(⟨#[c]⟩:Str) from rfl,e]
 exact q
end
theorem rN (s sub:Str) (hi:Nat): ∀(l:List Nat) (st:Array Nat×Nat),1<=st.fst.size->(forIn l st (StrLaws.occBody s sub hi 1)).run.fst=st.fst
 | [],st,h=>rfl
 | a::l,st,h=>by
  rw[Qd4]
  unfold StrLaws.occBody
  rw[if_neg (fun z=>absurd z.1.1.1 (Nat.not_lt.mpr h))]
  exact rN s sub hi l _ h
theorem occ_first (s sub:Str) (hi:Nat): ∀(l:List Nat) (free:Nat),(∀i∈l,free<=i)->
  (forIn l ((#[]:Array Nat),free) (StrLaws.occBody s sub hi 1)).run.fst.toList=(l.find? fun i=>decide (i+sub.length<=hi)&&Builtin.Str.subAt s sub i).toList
 | [],free,_=>rfl
 | a::l,free,hf=>by
  rw[Qd4,Qet]
  unfold StrLaws.occBody
  have ha:free<=a:=hf a XS
  by_cases hc:a+sub.length<=hi/\Builtin.Str.subAt s sub a=true
  ·rw[if_pos ⟨⟨⟨by simp,ha⟩,hc.1⟩,hc.2⟩]
   have:(decide (a+sub.length<=hi)&&Builtin.Str.subAt s sub a)=true:=by simp[hc]
   rw[this]
   show (forIn l (#[].push a,a+sub.length) (StrLaws.occBody s sub hi 1)).run.fst.toList=_
   rw[rN s sub hi l _ (by simp)]
   rfl
  ·rw[if_neg (fun z=>hc ⟨z.1.2,z.2⟩)]
   have:(decide (a+sub.length<=hi)&&Builtin.Str.subAt s sub a)=false:=by
    cases h1:decide (a+sub.length<=hi) with
    | false=>rfl
    | true=>
     cases h2:Builtin.Str.subAt s sub a with
     | false=>rfl
     | true=>exact absurd ⟨of_decide_eq_true h1,h2⟩ hc
   rw[this]
   exact occ_first s sub hi l free fun i HS=>hf i (kb _ HS)
theorem subAt_one (l:List Nat) (c i:Nat):Builtin.Str.subAt (S l) (S [c]) i=(l[i]? ==some c):=by
 unfold Builtin.Str.subAt
 rw[du]
 show ((S l).cps.extract i (i+1)== #[c])=_
 have e:((S l).cps.extract i (i+1))=((l.drop i).take 1).toArray:=by
  apply Qcv.mp
  simp[S,List.take_drop]
 rw[e]
 by_cases h:i<l.length
 ·have e2:(l.drop i).take 1=[l[i]]:=by
   rw[Qcn h];rfl
  rw[e2,LJ h]
  by_cases hc:l[i]=c
  ·rw[hc];simp
  ·have h1:([l[i]].toArray== #[c])=false:=by
    rw[beq_eq_false_iff_ne]
    intro z
    apply hc
    have:=congrArg Array.toList z
    simpa using this
   have h2:(some l[i]==some c)=false:=by simpa using hc
   rw[h1,h2]
 ·have e2:(l.drop i).take 1=[]:=by rw[Qds (by lia)];rfl
  rw[e2,Qck (by lia)]
  rfl
theorem oR (l:List Nat) (c:Nat): ∀(k n:Nat),k+n=l.length+1->((List.range' k n).find? fun i=>decide (i+1<=l.length)&&(l[i]? ==some c))=if c∈l.drop k then some (k+(l.drop k).idxOf c) else none
 | k,0,h=>by
  have:l.drop k=[]:=Qds (by lia)
  rw[this];simp
 | k,n+1,h=>by
  rw[List.range'_succ,Qet]
  by_cases hk:k<l.length
  ·have e:l.drop k=l[k]::l.drop (k+1):=Qcn hk
   rw[LJ hk,e]
   by_cases hc:l[k]=c
   ·have:(decide (k+1<=l.length)&&(some l[k]==some c))=true:=by simp[hc];lia
    rw[this,if_pos (by simp[hc])]
    simp[hc]
   ·have:(decide (k+1<=l.length)&&(some l[k]==some c))=false:=by simp[hc]
    rw[this,oR l c (k+1) n (by lia)]
    have qO: ¬c=l[k]:=fun z=>hc z.symm
    by_cases hm:c∈l.drop (k+1)
    ·rw[if_pos hm,if_pos (kb _ hm),List.idxOf_cons]
     have:(l[k]==c)=false:=by simpa using hc
     rw[this]
     show some (k+1+List.idxOf c (List.drop (k+1) l))=some (k+(List.idxOf c (List.drop (k+1) l)+1))
     congr 1
     lia
    ·rw[if_neg hm,if_neg (by intro z;rcases Qah.mp z with z | z;exact qO z;exact hm z)]
  ·have:l.drop k=[]:=Qds (by lia)
   have e1:(decide (k+1<=l.length)&&(l[k]? ==some c))=false:=by
    rw[decide_eq_false (by lia)];rfl
   have e2:l.drop (k+1)=[]:=Qds (by lia)
   rw[e1,oR l c (k+1) n (by lia),this,e2]
   simp
theorem Kf (l:List Nat) (c:Nat):Builtin.Str.occurrences (S l) (S [c]) 0 (S l).length 1=if c∈l then [l.idxOf c] else []:=by
 rw[StrLaws.occ_eq,occ_first _ _ _ _ 0 fun _ _=>Qaa _]
 have e:(fun i=>decide (i+(S [c]).length<=(S l).length)&&Builtin.Str.subAt (S l) (S [c]) i)=fun i=>decide (i+1<=l.length)&&(l[i]? ==some c):=by
  funext i
  rw[subAt_one,du,du]
  rfl
 rw[e,du,Nat.sub_zero,oR l c 0 (l.length+1) (by lia),List.drop_zero]
 by_cases h:c∈l
 ·rw[if_pos h,if_pos h,Qeo];rfl
 ·rw[if_neg h,if_neg h];rfl
section
variable {X:Cx}
def HU:V->List V->Hp->VK->Prop:=fun x vs H Q=> ∃l c,x= .str (S l)/\vs=[.str (S [c])]/\c∈l/\Q (.int (l.idxOf c:Nat)) H
theorem dQ:B7 X "str.index" HU:=by
 walk_at"F"
 obtain ⟨l,c,rfl,rfl,hc,q⟩:=h
 walk_at"f"
 obtain ⟨u,rfl,t',rfl⟩:=vals1 rv
 exact SC.index (i:=l.idxOf c) (rest:=[]) (by rw[Kf,if_pos hc]) ⟨.int (l.idxOf c:Nat),H,I.tok _,⟨_,rfl⟩,q⟩
def LR:V->List V->Hp->VK->Prop:=fun x vs H Q=> ∃l c,x= .str (S l)/\vs=[.str (S [c])]/\Q (.int (if c∈l then (l.idxOf c:Nat) else -1)) H
theorem vU:B7 X "str.find" LR:=by
 walk_at"F"
 obtain ⟨l,c,rfl,rfl,q⟩:=h
 walk_at"f"
 obtain ⟨u,rfl,t',rfl⟩:=vals1 rv
 refine SC.find ⟨.int _,H,I.tok _,⟨_,rfl⟩,?_⟩
 have e:Txt.find (S l) (S [c])=(if c∈l then ((l.idxOf c:Nat):Int) else -1):=by
  unfold Txt.find
  rw[Kf]
  by_cases h:c∈l
  ·rw[if_pos h,if_pos h]
  ·rw[if_neg h,if_neg h]
 rw[e]
 exact q
def QL (f:Nat->Bool):V->List V->Hp->VK->Prop:=fun x vs H Q=> ∃c,x= .str (S [c])/\vs=[]/\c<128/\Q (.bl (f c)) H
def QM (f:Nat->Nat):V->List V->Hp->VK->Prop:=fun x vs H Q=> ∃c,x= .str (S [c])/\vs=[]/\c<128/\Q (.str (S [f c])) H
noncomputable def aA (c:Nat):Bool:=decide (97<=c)&&decide (c<=122)
noncomputable def isUp (c:Nat):Bool:=decide (65<=c)&&decide (c<=90)
theorem HV: ∀c,c<128->Txt.islower ⟨#[c]⟩=aA c:=by decide+kernel
theorem kg:B7 X "str.islower" (QL aA):=by
 walk_at"F"
 obtain ⟨c,rfl,rfl,hc,q⟩:=h
 walk_at"f"
 have e:us=[]:=by cases rv;rfl
 subst e
 exact SC.islower ⟨.bl (aA c),H,I,congrArg Value.bool (HV c hc),q⟩
theorem upper_one {c:Nat} (hc:c<128):Txt.upper (S [c])=S [up1 c]:=by
 rw[upper_ascii (by intro d hd;rw[fS]at hd;simp at hd;lia)]
 simp[S]
theorem rO {c:Nat} (hc:c<128):Txt.lower (S [c])=S [lo1 c]:=by
 rw[lower_ascii (by intro d hd;rw[fS]at hd;simp at hd;lia)]
 simp[S]
theorem Kg (c:Nat):Builtin.Str.tooLong (S [c]).length=false:=by
 rw[du]
 show Builtin.Str.tooLong 1=false
 decide
theorem Ef:B7 X "str.upper" (QM up1):=by
 walk_at"F"
 obtain ⟨c,rfl,rfl,hc,q⟩:=h
 walk_at"f"
 have e:us=[]:=by cases rv;rfl
 subst e
 exact SC.upper (by rw[upper_one hc];exact Kg _) ⟨.str (S [up1 c]),H,I.tok _,⟨_,congrArg (fun z=>Value.str z _) (upper_one hc)⟩,q⟩
theorem vV:B7 X "str.lower" (QM lo1):=by
 walk_at"F"
 obtain ⟨c,rfl,rfl,hc,q⟩:=h
 walk_at"f"
 have e:us=[]:=by cases rv;rfl
 subst e
 exact SC.lower (by rw[rO hc];exact Kg _) ⟨.str (S [lo1 c]),H,I.tok _,⟨_,congrArg (fun z=>Value.str z _) (rO hc)⟩,q⟩
theorem Eg: ∀(ls:List (List Nat)) (a:Array Nat),(ls.map S).foldl (fun acc p=>acc++(S []).cps++p.cps) a=a++ls.flatten.toArray
 | [],a=>by simp
 | l::ls,a=>by
  rw[Qa7,Qd5,Eg ls]
  simp[S]
theorem LS (ls:List (List Nat)):Txt.join (S []) (ls.map S)=S ls.flatten:=by
 unfold Txt.join Builtin.Str.glued
 cases ls with
 | nil=>rfl
 | cons l ls=>
  show Str.mk ((List.map S ls).foldl (fun acc p=>acc++(S []).cps++p.cps) (S l).cps)=_
  rw[Eg]
  simp[S]
theorem kh: ∀{ls:List (List Nat)} {us:List Value},Vals (ls.map fun l=>V.str (S l)) us->StrsAre us (ls.map S)
 | [],us,r=>by cases r;exact .nil
 | l::ls,us,r=>by
  cases r with
  | cons r1 r2=>
   obtain ⟨t,rfl⟩:=r1
   exact .cons _ t (kh r2)
def Eh (K:PySem.W.Frag):V->List V->Hp->VK->Prop:=fun x vs H Q=> ∃(p:Addr) (ls:List (List Nat)),x= .str (S [])/\vs=[.ref p]/\aZ K H p (ls.map fun l=>V.str (S l))/\(ls.map List.length).sum<=16777216/\Q (.str (S ls.flatten)) H
theorem Ei:B7 X "str.join" (Eh X.K):=by
 walk_at"F"
 obtain ⟨p,ls,rfl,rfl,hq,hz,q⟩:=h
 walk_at"f"
 obtain ⟨u,rfl,ru⟩:=vals1 rv
 cases ru
 obtain ⟨its,r,pl,_⟩:=I.list hq
 have e:(S []).length=0:=rfl
 refine join_list pl.isList (by simpa using kh r) ?_ fun t' k=>?_
 ·rw[e,Nat.mul_zero,Nat.add_zero,Qbt]
  have e2:(Str.length ∘ S)=List.length:=by funext l;exact du l
  have e3:((fun x:Str=>x.length) ∘ S)=List.length:=by funext l;exact du l
  first | (rw[e2];exact hz) | (rw[e3];exact hz)
 ·exact ⟨.str (S ls.flatten),H,I.tok _,⟨t',congrArg (fun z=>Value.str z t') (LS ls)⟩,q⟩
theorem Cd (hc:X.calm=true):cQ X (.builtin "all") (fun xs H Q=> ∃(p:Addr) (bs:List Bool),xs=[.ref p]/\aZ X.K H p (bs.map V.bl)/\Q (.bl (bs.all id)) H):=by
 walk_at"e"
 obtain ⟨p,bs,rfl,hq,q⟩:=h
 walk_at"x"
 cases ru
 obtain ⟨its,rv,pl,hz⟩:=I.list hq
 have hlen:its.length=bs.length:=by rw[<-rv.length,V6]
 have hp:p<s.heap.objs.size:=by
  obtain ⟨o,n,e,_⟩:=pl
  exact Qag e
 refine call_all_walk (wpAny_pyIter_list pl.isList ?_)
 refine ⟨s.heap.objs.size,_,_,_,_,_,fun i=>(bs[i]?).getD true,rfl,Walks.list (A:=X.A.in1) (I.ok.hd hc) s.heap.objs.size p (Qaq hp) its.toArray,⟨⟨_,Qal _ rfl,rfl,rfl⟩,?_⟩,fun i v s' Q' E' hP hQ=>?_,fun h' tk hk=>?_⟩
 ·obtain ⟨o,ho,hr⟩:=pl.isList
  exact ⟨o,N5 _ ho,hr⟩
 ·have Sr:its[i]? =some v:=by simpa using hP
  have hi:i<bs.length:=by rw[<-hlen];exact (LK.mp Sr).1
  have hb:(bs.map V.bl)[i]? =some (V.bl bs[i]):=by rw[Qaj,LJ hi];rfl
  obtain ⟨u,hu,ru⟩:=rv.get hb
  rw[Sr]at hu;cases hu
  cases (show v=Value.bool bs[i] from ru)
  have e:(bs[i]?).getD true=bs[i]:=by rw[LJ hi];rfl
  have Wh:Q' ((bs[i]?).getD true) s':=hQ
  rw[e]at Wh
  exact wpAny_pure Wh
 ·have e:((List.range its.toArray.size).all fun i=>(bs[i]?).getD true)=bs.all id:=by
   rw[XR,hlen]
   clear hq rv hlen q
   rw[Qdj,Qcd,Qcd]
   constructor
   ·intro h b hb
    obtain ⟨i,hi,e⟩:=Qdd hb
    have:=h i (Qa3.mpr hi)
    rw[LJ hi,e]at this
    exact this
   ·intro h i hi
    have HS:=Qa3.mp hi
    rw[LJ HS]
    exact h _ (Qay HS)
  have I1:Inv X pins σ H { s with heap:=h',toks:=tk }:=by
   have I0:Inv X pins σ H { s with heap:=s.heap.push { cls:= .type "list_iterator",data:= .fields #[.ref p, .int 0 0] } }:=I.kept (t':=s.toks) fun b o e=>N5 _ e
   have f:=I.nF (H':=H) (b:=s.heap.objs.size) (Sq _) I.fresh
   have J:=I0.turned (h':=h') (t':=tk) (it:=s.heap.objs.size) (fun b o hb e=>hk b o (by simpa using hb) e) f.1 f.2.1 f.2.2.2.1 f.2.2.2.2.1 f.2.2.2.2.2
   exact J
  exact ⟨.bl (bs.all id),H,I1,by rw[e];rfl,q⟩
end
end L2
namespace L2.F2
open PySem PySem.Spec PyProof.Rows
theorem rP:Manifest.owners.lookup (String.ofList ['d','e','s','r','e','v','e','r'].reverse)=some Manifest.sig_reversed:=by kernel_rfl
theorem bD:Slot "reversed" "__next__" "reversed.__next__":=
 .of (owner:="reversed") (n:="__next__") (by rw[typeLookup_type,builtinLookup_eq_fast];kernel_rfl) (by decide+kernel) (by decide+kernel) (by decide+kernel)
  (by first | exact .inl (by decide+kernel) | exact .inr (by decide+kernel)) (by rw[isSubtype_type];kernel_rfl)
theorem eA:entryFor table "reversed.__next__"=some Builtin.«reversed.__next__» :=entryFor_of_tree (by kernel_rfl)
theorem dG (a:Value):argsOk "reversed.__next__" ⟨[a],[]⟩:=by
 unfold argsOk;rw[signature?_of (id:="reversed.__next__") (n:=['_','_','t','x','e','n','_','_']) (o:=['d','e','s','r','e','v','e','r']) (by kernel_rfl) rP];kernel_rfl
theorem eZ:Slot "reversed" "__iter__" "reversed.__iter__":=
 .of (owner:="reversed") (n:="__iter__") (by rw[typeLookup_type,builtinLookup_eq_fast];kernel_rfl) (by decide+kernel) (by decide+kernel) (by decide+kernel)
  (by first | exact .inl (by decide+kernel) | exact .inr (by decide+kernel)) (by rw[isSubtype_type];kernel_rfl)
theorem iK (a:Value):argsOk "reversed.__iter__" ⟨[a],[]⟩:=by
 unfold argsOk;rw[signature?_of (id:="reversed.__iter__") (n:=['_','_','r','e','t','i','_','_']) (o:=['d','e','s','r','e','v','e','r']) (by kernel_rfl) rP];kernel_rfl
theorem i5:entryFor table "reversed.__iter__"=some Builtin.«dict_keyiterator.__iter__» :=
 entryFor_alias (id':="dict_keyiterator.__iter__") (by kernel_rfl) (by first | rfl | decide+kernel | (unfold String.splitOn;simp+decide [String.splitOnAux])) (by decide+kernel) (by kernel_rfl)
theorem qS:Slot "reversed" "__init__" "object.__init__":=
 .of (owner:="object") (n:="__init__") (by rw[typeLookup_type,builtinLookup_eq_fast];kernel_rfl) (by decide+kernel) (by decide+kernel) (by decide+kernel)
  (by first | exact .inl (by decide+kernel) | exact .inr (by decide+kernel)) (by rw[isSubtype_type];kernel_rfl)
theorem oS:TypeCalled "reversed" "reversed.__new__" "object.__init__":=
 ⟨by decide+kernel,by decide+kernel,⟨_,_,F.mro_reversed⟩,F.made_reversed,by decide+kernel,by rw[isSubtype_type];kernel_rfl,qS⟩
theorem yI:typeLookup (.type "str") "__reversed__"=pure none:=by rw[typeLookup_type,builtinLookup_eq_fast];kernel_rfl
end L2.F2
namespace L2
open PySem PySem.Spec PyProof.Rows
theorem oT (x:Str) (t:Tok) (hz:x.length<=sizeLine):Meets (Builtin.«reversed.__new__» ⟨[.type "reversed", .str x t],[]⟩) (fun _ R s=> ∀tk,R (.ok (.ret (.ref s.heap.objs.size))) { s with heap:=s.heap.push { cls:= .type "reversed",data:= .fields #[.str x t,rawInt ((x.length:Int) - 1)] },toks:=tk }):=by
 refine Meets.of_wp fun prog w A R s h=>?_
 unfold Builtin.«reversed.__new__»
 refine wpAny_bind (wpAny_of_eq (newClass_reversed _) ?_)
 try dsimp only
 walk_at"q"
 walk_at"q"
 try dsimp only
 refine wpAny_bind (wpAny_specialOf (typeIs_str s x t) F2.yI ?_)
 try dsimp only
 refine wpAny_bind (wpAny_of_eq (a:=true) (by first | rfl | kernel_rfl) ?_)
 rw[if_neg (by decide)]
 have hn:=eP
 refine wpAny_bind (len_str (by lia) ?_)
 refine wpAny_bind (wpAny_of_eq (a:=some (x.length:Int)) (by first | rfl | kernel_rfl) ?_)
 show wpAny _ _ (Builtin.SmallTypes.newRecord (Value.type "reversed") [Value.str x t,rawInt ((x.length:Int) - 1)] >>= _) _ _ _
 walk_at"W"
 unfold Builtin.SmallTypes.newRecord
 refine wpAny_newObj_type ?_ (by size_fits)
 exact wpAny_pure ⟨_,rfl,h _⟩
section
variable {prog:Program} {w:World} {A:Around} {E:Value->Shared->Prop} {s:Shared}
theorem oU {x:Str} {t:Tok} {Q:Value->Shared->Prop} (hz:x.length<=sizeLine) (h: ∀tk,Q (.ref s.heap.objs.size) { s with heap:=s.heap.push { cls:= .type "reversed",data:= .fields #[.str x t,rawInt ((x.length:Int) - 1)] },toks:=tk }):
  wpAny (model prog w) A (call (.type "reversed") [.str x t]) Q E s:=
 callType_new F2.oS (by decide+kernel) (F.typeCall_reversed_1 _) (F.newCall_reversed_1 _) (fun obj=>by unfold argsOk;kernel_rfl) F.entry_reversed_new (oT x t hz)
  fun tk=>⟨⟨_,Qal _ rfl,rfl⟩,h tk⟩
def i6 (h:Heap) (it:Addr) (x:Str) (t:Tok) (i:Int):Prop:= ∃o,h.get? it=some o/\o.cls= .type "reversed"/\o.data= .fields #[.str x t,rawInt i]
theorem i6.typeIs {it:Addr} {x:Str} {t:Tok} {i:Int} (h:i6 s.heap it x t i):s.TypeIs (.ref it) "reversed":=let ⟨o,ho,hc,_⟩:=h;⟨o,ho,hc⟩
theorem oV {it:Addr} {x:Str} {t:Tok} {i:Int} {Q:Value->Shared->Prop} (hit:i6 s.heap it x t i) (h:Q (.ref it) s):wpAny (model prog w) A (pyIter (.ref it)) Q E s:=by
 refine wpAny_pyIter_slot hit.typeIs F2.eZ (wpAny_call_entry F2.eZ hit.typeIs F2.i5 ?_ (F2.iK _))
 show wpAny _ _ (ret (.ref it)) _ _ s
 exact wpAny_pure ⟨_,rfl,"reversed",_,hit.typeIs,F2.bD.lookup,h⟩
theorem nJ {it:Addr} {x:Str} {t:Tok} {i c:Nat} {Q:Option Value->Shared->Prop} (hit:i6 s.heap it x t (i:Int)) (hx:x.cps[i]? =some c) (hz:x.length<=sizeLine)
  (hQ: ∀h' tk u,i6 h' it x t ((i:Int) - 1)->Heap.SameBut it s.heap h'->Q (some (.str ⟨#[c]⟩ u)) { s with heap:=h',toks:=tk }):wpAny (model prog w) A (pyNext (.ref it)) Q E s:=by
 obtain ⟨o,ho,hc,hd⟩:=id hit
 have hn:=eP
 have hi:i<x.length:=(Array.getElem?_eq_some_iff.mp hx).1
 unfold pyNext
 refine wpAny_bind (wpAny_attempt (wpAny_callSpecial?_slot (name:=Str.ofString "__next__") hit.typeIs F2.bD
  (wpAny_call_entry F2.bD hit.typeIs F2.eA ?_ (F2.dG _))))
 unfold Builtin.«reversed.__next__»
 walk_at"B"
 try dsimp only
 refine wpAny_bind (wpAny_field ho hd (x:= .str x t) rfl ?_)
 walk_at"v"
 show wpAny _ _ (if (i:Int)<0 then _ else _) _ _ s
 rw[if_neg (by lia)]
 refine wpAny_bind (wpAny_specialOf (typeIs_str s x t) F.slot_str_getitem.lookup ?_)
 show wpAny _ _ (if (some (Value.builtin _)).isNone=true then _ else _) _ _ s
 rw[if_neg (by decide)]
 refine wpAny_bind (wpAny_mkInt ?_)
 refine wpAny_bind (wpAny_attempt (getItem_str (c:=c) (by
  have e1:decide ((i:Int)< -(2 ^ 63:Int))=false:=decide_eq_false (by lia)
  have e2:decide ((i:Int) ≥ 2 ^ 63)=false:=decide_eq_false (by lia)
  rw[e1,e2,Qd0]) (by rw[seqIndex_of (by lia) (by lia),XQ];exact hx) ?_))
 show wpAny _ _ (field (Value.ref it) 1 >>= _) _ _ _
 walk_at"v"
 show wpAny _ _ (setField (Value.ref it) 1 (rawInt ((i:Int) - 1)) >>= _) _ _ _
 walk_at"X"
 refine wpAny_pure ⟨_,rfl,wpAny_pure (hQ _ _ _ ?_ (Qeg ..))⟩
 exact ⟨_,Qbv _ ho (Obj.isFreed_of_fields (Obj.data_mapFields hd _)),(Obj.cls_mapFields ..).trans hc,by
  rw[Obj.data_mapFields hd];simp⟩
theorem oW {it:Addr} {x:Str} {t:Tok} {Q:Option Value->Shared->Prop} (hh:A.handled=none) (hit:i6 s.heap it x t (-1))
  (hQ: ∀h',Heap.ExtBut it s.heap h'->Q none { s with heap:=h' }):wpAny (model prog w) A (pyNext (.ref it)) Q E s:=by
 obtain ⟨o,ho,hc,hd⟩:=id hit
 unfold pyNext
 refine wpAny_bind (wpAny_attempt (wpAny_callSpecial?_slot (name:=Str.ofString "__next__") hit.typeIs F2.bD
  (wpAny_call_entry F2.bD hit.typeIs F2.eA ?_ (F2.dG _))))
 unfold Builtin.«reversed.__next__»
 walk_at"B"
 try dsimp only
 refine wpAny_bind (wpAny_field ho hd (x:= .str x t) rfl ?_)
 refine wpAny_bind (wpAny_field ho hd (x:=rawInt (-1)) rfl ?_)
 show wpAny _ _ (if (-1:Int)<0 then _ else _) _ _ s
 rw[if_pos (by decide)]
 walk_at"5"
 walk_at"W"
 show wpAny _ _ (setField (Value.ref it) 1 (rawInt (-1)) >>= fun _=>setField (Value.ref it) 0 .none) _ _ _
 walk_at"X"
 refine wpAny_setField (Qbv _ ho (Obj.isFreed_of_fields (Obj.data_mapFields hd _))) (Obj.data_mapFields hd _) (by simp) ?_
 first
 | show wpAny _ _ (newExc (.type "StopIteration") [] >>= _) _ _ _
 |(refine wpAny_bind ?_;show wpAny _ _ (newExc (.type "StopIteration") [] >>= _) _ _ _)
 walk_at"W"
 simp only[newExc,newTuple]
 refine wpAny_bind (wpAny_newObj_type ?_ (by size_fits))
 walk_at"6"
 refine wpAny_newObj_type ?_ (by size_fits)
 simp only[raiseNew]
 refine wpAny_bind (wpAny_handled ?_)
 first | rw[show A.in1.handled=none from hh] | rw[hh]
 refine wpAny_bind (wpAny_pure (wpAny_throw ?_))
 refine wpAny_bind (wpAny_isInstance (T:="StopIteration") (b:=true) ⟨_,Qal _ rfl,rfl⟩ isSubtype_stop ?_)
 refine wpAny_pure (hQ _ fun b ob hb e=>?_)
 refine N5 _ (N5 _ ?_)
 exact (Qa6 _ _ (Ne.symm hb)).trans ((Qa6 _ _ (Ne.symm hb)).trans e)
end
noncomputable def HW (xs:List V):It:=⟨fun i _=>i<xs.length,fun i H x H'=>H'=H/\xs[i]? =some x,fun i _=>xs.length<=i⟩
theorem e_ {l:List Nat} {i:Nat} {x:V} (h:(bW l)[i]? =some x): ∃c,l[i]? =some c/\x= .str (S [c]):=by
 unfold bW at h
 rw[Qaj]at h
 cases e:l[i]? with
 | none=>rw[e]at h;cases h
 | some c=>rw[e]at h;cases h;exact ⟨c,rfl,rfl⟩
theorem aK (l:List Nat):(bW l).length=l.length:=by unfold bW;rw[V6]
theorem Ej {P:Program} {w:World} {K:PySem.W.Frag} {tg:Expr} (it:Addr) (l:List Nat) (t:Tok):Turn P w K tg (HW (bW l)) [it] it (fun i h=>h.IsStrIter it (strIterType (S l)) (S l) t i) where
 mem:=by simp
 obj:=fun i h st b hb=>by
  have e:b=it:=by simpa using hb
  subst e
  obtain ⟨o,e,c,d⟩:=st
  walk_at"L"
 keep:=fun i h h' st k=>let ⟨o,e,r⟩:=st;⟨o,k it (by simp) o e,r⟩
 item:=by
  walk_at"b"
  subst hP hw hK
  have Kh:i<l.length:=by have:i<(bW l).length:=hg;rwa [aK]at this
  walk_at"d"
  have fin: ∀(v:Value) (h':Heap) (tk:Nat),SignAt (S l) i v->h'.IsStrIter it (strIterType (S l)) (S l) t (i+1)->(∀b o,b∉[it]->s.heap.get? b=some o->h'.get? b=some o)->
    ∃u,some v=some u/\wpAny (model X.prog X.w) X.A (letOwnedTupleGo tg (.ref it) u) (fun _ s2=> ∃x H',Inv X pins σ H' s2/\RelV x u/\(HW (bW l)).DT i H x H'/\s2.heap.IsStrIter it (strIterType (S l)) (S l) t (i+1)/\ ∀b∈[it],H' b=none) E { s with heap:=h',toks:=tk }:=by
   intro v h' tk hv iO kk
   obtain ⟨c,u,e1,e2⟩:=hv
   subst e2
   have I1:Inv X pins σ H { s with heap:=h',toks:=tk }:=I.turned (fun b o hb e=>kk b o (by simpa using hb) e) f0 f1 f3 f4 f5
   obtain ⟨o,e,cc,d⟩:=id iO
   refine ⟨_,rfl,rD (s:={ s with heap:=h',toks:=tk }) e cc d (by unfold strIterType;split<;>decide) ⟨.str (S [c]),H,I1,⟨u,rfl⟩,⟨rfl,?_⟩,iO,fun b hb=>(hf b hb).1⟩⟩
   unfold bW
   rw[Qaj]
   have Ek:l[i]? =some c:=by simpa [S]using e1
   rw[Ek]
   rfl
  have hsz:i<(S l).cps.size:=by rw[l_];exact Kh
  by_cases ha:(S l).cps.all (· <128)=true
  ·have et:strIterType (S l)="str_ascii_iterator":=by unfold strIterType;rw[if_pos ha]
   rw[et]at st
   exact (Walks.strAscii (prog:=X.prog) (w:=X.w) (I.ok.hd hc) it (S l) t).item i s _ _ hsz st fun v h' tk hv iO kk=>fin v h' tk hv (by rw[et];exact iO) kk
  ·have et:strIterType (S l)="str_iterator":=by unfold strIterType;rw[if_neg ha]
   rw[et]at st
   exact (Walks.strWide (prog:=X.prog) (w:=X.w) (I.ok.hd hc) it (S l) t).item i s _ _ hsz st fun v h' tk hv iO kk=>fin v h' tk hv (by rw[et];exact iO) kk
 done:=by
  walk_at"b"
  subst hP hw hK
  walk_at"d"
  have Kh:l.length<=i:=by have:(bW l).length<=i:=hg;rwa [aK]at this
  have hx:(S l).cps[i]? =none:=by rw[Array.getElem?_eq_none_iff,l_];exact Kh
  by_cases ha:(S l).cps.all (· <128)=true
  ·have et:strIterType (S l)="str_ascii_iterator":=by unfold strIterType;rw[if_pos ha]
   rw[et]at st
   exact wpAny_pyNext_ascii_end (I.ok.hd hc) st hx fun h' eb=>⟨rfl,I.turned (t':=s.toks) (fun b o hb e=>eb b o hb e) f0 f1 f3 f4 f5⟩
  ·have et:strIterType (S l)="str_iterator":=by unfold strIterType;rw[if_neg ha]
   rw[et]at st
   exact wpAny_pyNext_wide_end (I.ok.hd hc) st hx fun h' eb=>⟨rfl,I.turned (t':=s.toks) (fun b o hb e=>eb b o hb e) f0 f1 f3 f4 f5⟩
 self:=fun _ _ s _ _ st h=>by
  by_cases ha:(S l).cps.all (· <128)=true
  ·have et:strIterType (S l)="str_ascii_iterator":=by unfold strIterType;rw[if_pos ha]
   rw[et]at st
   exact wpAny_pyIter_striter_ascii st h
  ·have et:strIterType (S l)="str_iterator":=by unfold strIterType;rw[if_neg ha]
   rw[et]at st
   exact wpAny_pyIter_striter_wide st h
theorem El {P:Program} {w:World} {K:PySem.W.Frag} {tg:Expr} (it:Addr) (l:List Nat) (t:Tok) (hz:l.length<=sizeLine):Turn P w K tg (HW (bW l).reverse) [it] it (fun i h=>i<=l.length/\i6 h it (S l) t ((l.length:Int) - 1 - (i:Int))) where
 mem:=by simp
 obj:=fun i h st b hb=>by
  have e:b=it:=by simpa using hb
  subst e
  obtain ⟨_,o,e,c,d⟩:=st
  walk_at"L"
 keep:=fun i h h' st k=>let ⟨q,o,e,r⟩:=st;⟨q,o,k it (by simp) o e,r⟩
 item:=by
  walk_at"b"
  subst hP hw hK
  have Kh:i<l.length:=by have:i<(bW l).reverse.length:=hg;rwa [Qaz,aK]at this
  walk_at"d"
  obtain ⟨_,st⟩:=st
  have e:(l.length:Int) - 1 - (i:Int)=((l.length - 1 - i:Nat):Int):=by lia
  rw[e]at st
  have cE:l.length - 1 - i<l.length:=by lia
  refine nJ (c:=l[l.length - 1 - i]) st (by simp[S,cE]) (by rw[du];exact hz) fun h' tk u iO sb=>?_
  have I1:Inv X pins σ H { s with heap:=h',toks:=tk }:=I.turned (fun b o hb e=>(sb.2 b hb).trans e) f0 f1 f3 f4 f5
  obtain ⟨o,e1,cc,d⟩:=id iO
  refine ⟨_,rfl,rD (s:={ s with heap:=h',toks:=tk }) e1 cc d (by decide) ⟨.str (S [l[l.length - 1 - i]]),H,I1,⟨u,rfl⟩,⟨rfl,?_⟩,⟨Kh,?_⟩,fun b hb=>(hf b hb).1⟩⟩
  ·rw[Qcj (by rw[aK];exact Kh),aK]
   unfold bW
   rw[Qaj,LJ cE]
   rfl
  ·have e2:(l.length:Int) - 1 - ((i+1:Nat):Int)=((l.length - 1 - i:Nat):Int) - 1:=by lia
   rw[e2]
   exact iO
 done:=by
  walk_at"b"
  subst hP hw hK
  walk_at"d"
  have Kh:l.length<=i:=by have:(bW l).reverse.length<=i:=hg;rwa [Qaz,aK]at this
  obtain ⟨hi,st⟩:=st
  have e:(l.length:Int) - 1 - (i:Int)= -1:=by lia
  rw[e]at st
  exact oW (I.ok.hd hc) st fun h' eb=>⟨rfl,I.turned (t':=s.toks) (fun b o hb e=>eb b o hb e) f0 f1 f3 f4 f5⟩
 self:=fun _ _ _ _ _ st h=>oV st.2 h
section
variable {X:Cx} {tg:Expr}
def Uw (tl:TE):TI:=fun σ H R=>tl σ H fun x H1=> ∃l,x= .str (S l)/\R (HW (bW l)) H1
theorem oX {l:Expr} {tl:TE} (hl:PE X l tl):PI X tg l (Uw tl):=by
 walk_at"3"
 refine cy (hl pins s σ H _ I h) fun v s1 ⟨x,H1,I1,r1,q1⟩=>?_
 obtain ⟨l,rfl,q⟩:=q1
 obtain ⟨t,rfl⟩:=r1
 refine wpAny_pyIter_strU ?_
 refine ⟨s1.heap.objs.size,[s1.heap.objs.size],_,_,H1,rfl,I1.kept (t':=s1.toks) fun b o e=>N5 _ e,Ej _ l t,⟨_,Qal _ rfl,rfl,rfl⟩,fun b hb=>?_,q⟩
 have e:b=s1.heap.objs.size:=by simpa using hb
 subst e
 walk_at"H"
def Ux (ta:TA):TI:=fun σ H R=>ta σ H fun vs H1=> ∃l,vs=[.str (S l)]/\l.length<=sizeLine/\R (HW (bW l).reverse) H1
theorem Em {a:Expr} {ta:TA} {p pos:Pos} (hg:Gl X "reversed") (hm:X.mg "reversed"=none) (ha:PA X [a] ta) (hs:starEach [a] X.env=[(false,eval a X.env)]:=by rfl):PI X tg (.Call (.Name "reversed" p) [a] [] pos) (Ux ta):=by
 walk_at"3"
 refine Call_ (fR I hg hm boot_reversed (Qbh (cy (ha pos pins s σ H _ I h) fun us s1 ⟨vs,H1,I1,r1,q1⟩=>?_) hs rfl))
 obtain ⟨l,rfl,hz,q⟩:=q1
 obtain ⟨u,rfl,t,rfl⟩:=vals1 r1
 refine oU (by rw[du];exact hz) fun tk=>?_
 have hit:i6 (s1.heap.push { cls:= .type "reversed",data:= .fields #[.str (S l) t,rawInt (((S l).length:Int) - 1)] }) s1.heap.objs.size (S l) t (((S l).length:Int) - 1):=⟨_,Qal _ rfl,rfl,rfl⟩
 refine oV hit ?_
 refine ⟨s1.heap.objs.size,[s1.heap.objs.size],_,_,H1,rfl,I1.kept (t':=tk) fun b o e=>N5 _ e,El _ l t hz,⟨Qaa _,?_⟩,fun b hb=>?_,q⟩
 ·have e:(l.length:Int) - 1 - ((0:Nat):Int)=((S l).length:Int) - 1:=by rw[du];simp
  rw[e]
  exact hit
 ·have e:b=s1.heap.objs.size:=by simpa using hb
  subst e
  walk_at"H"
end
theorem Av {xs:List V} {g:TG} {tb:TS} {D:Ends} {σ:St} {H:Hp} (Pv:Nat->St->Hp->Prop) (h0:Pv 0 σ H)
  (hs: ∀i x σ H,xs[i]? =some x->Pv i σ H->g x σ H fun σ2 H2=>tb { D with nx:=Pv (i+1),ct:=Pv (i+1),bk:=D.nx } σ2 H2) (hd: ∀σ H,Pv xs.length σ H->D.nx σ H):
  ∃W:Nat->Nat->St->Hp->Prop,(∃m,W 0 m σ H)/\ ∀i m σ H,W i m σ H->
   ((HW xs).stop i H/\D.nx σ H)\/((HW xs).go i H/\ ∃N:St->Hp->Prop,(∀σ' H',N σ' H'-> ∃m',m'<m/\W (i+1) m' σ' H')/\ ∀x H',(HW xs).DT i H x H'->g x σ H' fun σ2 H2=>tb { D with nx:=N,ct:=N,bk:=D.nx } σ2 H2):=by
 walk_at"h"
 rintro i m σ H ⟨rfl,hi,p⟩
 by_cases cE:i<xs.length
 ·refine .inr ⟨cE,Pv (i+1),fun σ' H' p'=>⟨xs.length - (i+1),by lia,rfl,cE,p'⟩,fun x H' y=>?_⟩
  obtain ⟨e,y⟩:=y
  subst e
  exact hs i x σ _ y p
 ·have e:i=xs.length:=by lia
  subst e
  exact .inl ⟨Sq _,hd σ H p⟩
theorem kM {J:It} {n:Nat} {xs:Nat->V->Prop} {σc:St} {g:TG} {tc:TT} {te:TE} {Q:VK} {H1:Hp} (Pv:Nat->List V->Hp->Prop) (hn:n<sizeLine) (XX: ∀i acc H,i<n->Pv i acc H->J.go i H) (QN: ∀acc H,Pv n acc H->J.stop n H)
  (hy: ∀i acc H x H',i<n->Pv i acc H->J.DT i H x H'->H'=H/\xs i x) (h0:Pv 0 [] H1)
  (hs: ∀(i:Nat) (x:V) (acc:List V) (H:Hp) (Nx:List V->Hp->Prop),i<n->xs i x->acc.length<=i->Pv i acc H->(∀b7 H',b7.length<=i+1->Pv (i+1) b7 H'->Nx b7 H')->
   g x σc H fun σ2 H2=>Wk σc σ2/\tc σ2 H2 fun b H3=>if b=true then te σ2 H3 fun v H4=>Nx (acc++[v]) H4 else Nx acc H3)
  (hd: ∀acc H D,acc.length<=n->Pv n acc H->H D=none->Q (.ref D) (upd H D (.lst acc))):kL J σc g tc te Q H1:=by
 refine ⟨fun i m acc H=>m=n - i/\i<=n/\acc.length<=i/\Pv i acc H,⟨n,by simp,Qaa _,Sq _,h0⟩,?_⟩
 rintro i m acc H ⟨rfl,hi,hl,p⟩
 refine ⟨by lia,?_⟩
 by_cases cE:i<n
 ·refine .inr ⟨XX i acc H cE p,fun x H' y=>?_⟩
  obtain ⟨rfl,y2⟩:=hy i acc H x H' cE p y
  exact hs i x acc _ (fun b7 H'=> ∃m',m'<n - i/\(m'=n - (i+1)/\i+1<=n/\b7.length<=i+1/\Pv (i+1) b7 H')) cE y2 hl p fun b7 H' h1 h2=>⟨n - (i+1),by lia,rfl,cE,h1,h2⟩
 ·have e:i=n:=by lia
  subst e
  exact .inl ⟨QN acc H p,fun D hD=>hd acc H D hl p hD⟩
theorem i7 {xs:List V} {σc:St} {g:TG} {tc:TT} {te:TE} {Q:VK} {H1:Hp} (Pv:Nat->List V->Hp->Prop) (hn:xs.length<sizeLine) (h0:Pv 0 [] H1)
  (hs: ∀(i:Nat) (x:V) (acc:List V) (H:Hp) (Nx:List V->Hp->Prop),i<xs.length->xs[i]? =some x->acc.length<=i->Pv i acc H->(∀b7 H',b7.length<=i+1->Pv (i+1) b7 H'->Nx b7 H')->
   g x σc H fun σ2 H2=>Wk σc σ2/\tc σ2 H2 fun b H3=>if b=true then te σ2 H3 fun v H4=>Nx (acc++[v]) H4 else Nx acc H3)
  (hd: ∀acc H D,acc.length<=xs.length->Pv xs.length acc H->H D=none->Q (.ref D) (upd H D (.lst acc))):kL (HW xs) σc g tc te Q H1:=
 kM (xs:=fun i x=>xs[i]? =some x) Pv hn (fun i _ _ h _=>h) (fun _ _ _=>Sq _) (fun i _ H x H' _ _ y=>y) h0 hs hd
theorem vW {lo:Int} {n:Nat} {σc:St} {g:TG} {tc:TT} {te:TE} {Q:VK} {H1:Hp} (Pv:Nat->List V->Hp->Prop) (hn:n<sizeLine) (h0:Pv 0 [] H1)
  (hs: ∀(i:Nat) (acc:List V) (H:Hp) (Nx:List V->Hp->Prop),i<n->acc.length<=i->Pv i acc H->(∀b7 H',b7.length<=i+1->Pv (i+1) b7 H'->Nx b7 H')->
   g (.int (lo+i)) σc H fun σ2 H2=>Wk σc σ2/\tc σ2 H2 fun b H3=>if b=true then te σ2 H3 fun v H4=>Nx (acc++[v]) H4 else Nx acc H3)
  (hd: ∀acc H D,acc.length<=n->Pv n acc H->H D=none->Q (.ref D) (upd H D (.lst acc))):kL (Ka lo n) σc g tc te Q H1:=
 kM (xs:=fun i x=>x= .int (lo+i)) Pv hn (fun i _ _ h _=>h) (fun _ _ _=>Sq _) (fun i _ H x H' _ _ y=>y) h0 (fun i x acc H Nx h1 h2=>by subst h2;exact hs i acc H Nx h1) hd
theorem jF {K:PySem.W.Frag} {a:Addr} {xs:List V} {σc:St} {g:TG} {tc:TT} {te:TE} {Q:VK} {H1:Hp} (Pv:Nat->List V->Hp->Prop) (hn:xs.length<sizeLine) (hl: ∀i acc H,Pv i acc H->aZ K H a xs) (h0:Pv 0 [] H1)
  (hs: ∀(i:Nat) (x:V) (acc:List V) (H:Hp) (Nx:List V->Hp->Prop),i<xs.length->xs[i]? =some x->acc.length<=i->Pv i acc H->(∀b7 H',b7.length<=i+1->Pv (i+1) b7 H'->Nx b7 H')->
   g x σc H fun σ2 H2=>Wk σc σ2/\tc σ2 H2 fun b H3=>if b=true then te σ2 H3 fun v H4=>Nx (acc++[v]) H4 else Nx acc H3)
  (hd: ∀acc H D,acc.length<=xs.length->Pv xs.length acc H->H D=none->Q (.ref D) (upd H D (.lst acc))):kL (N3 K a) σc g tc te Q H1:=
 kM (xs:=fun i x=>xs[i]? =some x) Pv hn (fun i acc H h p=>⟨xs,xs[i],hl i acc H p,by simp[h]⟩) (fun acc H p=>⟨xs,hl _ acc H p,Sq _⟩) (fun i acc H x H' h p y=>⟨y.1,y.2 xs (hl i acc H p)⟩) h0 hs hd
def HX (c:TT) (tb:TS):TS:=fun D σ H=> ∃W:Nat->St->Hp->Prop,(∃m,W m σ H)/\ ∀m σ H,W m σ H->
 c σ H fun b H1=>if b=true then tb { D with nx:=fun σ' H'=> ∃m',m'<m/\W m' σ' H',ct:=fun σ' H'=> ∃m',m'<m/\W m' σ' H',bk:=D.nx } σ H1 else D.nx σ H1
theorem dR {X:Cx} {c:Expr} {body:List Stmt} {tc:TT} {tb:TS} {pos:Pos} (hp:PassesOwn (model X.prog X.w) X.A X.env X.xe) (hc:PT X c tc) (hb:yf X body tb):PS X (.While c body [] pos) (HX tc tb):=by
 walk_at"A"
 obtain ⟨W,⟨m0,w0⟩,turn⟩:=h
 refine wpAny_While (codeAny_whileLoop (fun n s'=> ∃σ' H',Inv X pins σ' H' s'/\W n σ' H') ?_ m0 ⟨σ,H,I,w0⟩)
 rintro n s1 ⟨σ1,H1,I1,w1⟩
 refine wpAny_passesOwn hp (cy (hc pins s1 σ1 H1 _ I1 (turn n σ1 H1 w1)) fun b s2 ⟨H2,I2,q2⟩=>?_)
 cases b with
 | true=>
  rw[if_pos rfl]at q2 ⊢
  refine wpAny_passesOwn hp (cy (hb pins s2 σ1 H2 _ I2 q2) fun f s3 q3=>?_)
  cases f with
  | next=>
   obtain ⟨σ3,H3,I3,m',hm,w3⟩:=q3
   exact ⟨m',hm,σ3,H3,I3,w3⟩
  | cont=>
   obtain ⟨σ3,H3,I3,m',hm,w3⟩:=q3
   exact ⟨m',hm,σ3,H3,I3,w3⟩
  | brk=>exact q3
  | ret v=>exact q3
 | false=>
  rw[if_neg Qai]at q2 ⊢
  exact wpAny_execs_nil ⟨σ1,H2,I2,q2⟩
noncomputable def ua (X:Cx) (scope:Scope):Bool:=(scope.names.all fun y=>y.2 != .cell)&&(scope.kind== .function)&&(scope.names.all fun y=>y.2 != .free||X.env.kindOf y.1==some .cell||X.env.kindOf y.1==some .free)&&(scope.names.all fun y=>y.2 != .local||scope.names.lookup y.1==some .local)
theorem kN {X:Cx} {scope:Scope} (h:ua X scope=true):(∀y∈scope.names,y.2≠ .cell)/\scope.kind= .function/\(∀y∈scope.names,y.2= .free->X.env.kindOf y.1=some .cell\/X.env.kindOf y.1=some .free)/\(∀x∈scope.names,x.2= .local->scope.names.lookup x.1=some .local):=by
 unfold ua at h
 simp only[Qbr]at h
 obtain ⟨⟨⟨h1,h2⟩,h3⟩,h4⟩:=h
 refine ⟨fun y hy e=>?_,by simpa using h2,fun y hy e=>?_,fun y hy e=>?_⟩
 ·have:=Qcd.mp h1 y hy
  rw[e]at this;simp at this
 ·have:=Qcd.mp h3 y hy
  rw[e]at this
  simpa using this
 ·have:=Qcd.mp h4 y hy
  rw[e]at this
  simpa using this
theorem bA {X:Cx} {tg iter elt:Expr} {ifs:List Expr} {scope:Scope} {pos:Pos} {wi:TI} {g:TG} {tc:TT} {te:TE} (Nc:List Str) (ix:List (Option Nat)) (hi:PI X tg iter wi) (DG:jS X scope Nc ix)
  (hG: ∀C s H fp,PG (bS X scope C Nc s H fp) tg g) (hT: ∀C s H fp,PF (bS X scope C Nc s H fp) ifs tc) (hE: ∀C s H fp,PE (bS X scope C Nc s H fp) elt te) (bZ:ua X scope=true:=by rfl) (jZ:X.calm=true:=by rfl)
  (hs: ∀x,foldedSetIterable iter X.env x=pure x:=by intro _;rfl):PE X (.ListComp elt [⟨tg,iter,ifs,0⟩] scope pos) (vS wi ix g tc te):=
 let ⟨h1,h2,h3,h4⟩:=kN bZ
 HN Nc ix hi jZ DG h1 h2 h3 h4 hG hT hE hs
theorem En {X:Cx} {i:Nat} {x:Str} {tg iter elt:Expr} {ifs:List Expr} {scope:Scope} {pos Ed pos':Pos} {wi:TI} {g:TG} {tc:TT} {te:TE} (Nc:List Str) (ix:List (Option Nat)) (hN:X.N.Nodup) (LP:X.N[i]? =some x) (hx:Loc X.env.scope x)
  (hi:PI X tg iter wi) (DG:jS X scope Nc ix)
  (hG: ∀C s H fp,PG (bS X scope C Nc s H fp) tg g) (hT: ∀C s H fp,PF (bS X scope C Nc s H fp) ifs tc) (hE: ∀C s H fp,PE (bS X scope C Nc s H fp) elt te)
  (LQ:swapsWith (.ListComp elt [⟨tg,iter,ifs,0⟩] scope pos) (some (.Name x pos')) Ed.line X.env=pure true:=by rfl) (bZ:ua X scope=true:=by rfl) (jZ:X.calm=true:=by rfl)
  (hs: ∀x,foldedSetIterable iter X.env x=pure x:=by intro _;rfl) (hf:X.fn x=true\/X.env.scope.names.lookup x=some .local:=by first | exact .inl rfl | exact .inr rfl | assumption):
  PS X (.Assign [.Name x pos'] (.ListComp elt [⟨tg,iter,ifs,0⟩] scope pos) Ed) (Hs (vS wi ix g tc te) (rC i)):=
 let ⟨h1,h2,h3,h4⟩:=kN bZ
 HP Nc ix hN LP hx LQ hi jZ DG h1 h2 h3 h4 hG hT hE hs hf
section
variable {X:Cx}
def Uy:R2:=fun x y H Q=> ∃a b,x= .str (S a)/\y= .str (S b)/\Q (.bl (decide (a=b))) H
def Uz:R2:=fun x y H Q=> ∃a b,x= .str (S a)/\y= .str (S b)/\Q (.bl (!decide (a=b))) H
theorem gC:gQ X (compareOp .Eq) Uy:=by
 walk_at"a"
 walk_at"7"
 exact DW pins s σ H _ _ v u Q I rx ry ⟨rfl,by rw[Ke];exact q⟩
theorem Eo:gQ X (compareOp .NotEq) Uz:=by
 walk_at"a"
 walk_at"7"
 exact DX pins s σ H _ _ v u Q I rx ry ⟨rfl,by rw[Ke];exact q⟩
theorem Ki {i j:Int}:decide (V.int i=V.int j)=decide (i=j):=by
 by_cases h:i=j
 ·subst h;simp
 ·rw[decide_eq_false h,decide_eq_false]
  intro q
  exact h (V.int.inj q)
theorem Kj {i j:Bool}:decide (V.bl i=V.bl j)=decide (i=j):=by
 by_cases h:i=j
 ·subst h;simp
 ·rw[decide_eq_false h,decide_eq_false]
  intro q
  exact h (V.bl.inj q)
theorem eQ:gQ X (compareOp .Eq) (G5 fun i j=> .bl (decide (i=j))):=by
 walk_at"a"
 walk_at"7"
 exact DW pins s σ H _ _ v u Q I rx ry ⟨rfl,by rw[Ki];exact q⟩
theorem LU:gQ X (compareOp .NotEq) (G5 fun i j=> .bl (!decide (i=j))):=by
 walk_at"a"
 walk_at"7"
 exact DX pins s σ H _ _ v u Q I rx ry ⟨rfl,by rw[Ki];exact q⟩
def Wi (g:Bool->Bool->V):R2:=fun x y H Q=> ∃i j,x= .bl i/\y= .bl j/\Q (g i j) H
theorem LV:gQ X (compareOp .Eq) (Wi fun i j=> .bl (decide (i=j))):=by
 walk_at"a"
 walk_at"7"
 exact DW pins s σ H _ _ v u Q I rx ry ⟨rfl,by rw[Kj];exact q⟩
theorem LW:gQ X (compareOp .NotEq) (Wi fun i j=> .bl (!decide (i=j))):=by
 walk_at"a"
 walk_at"7"
 exact DX pins s σ H _ _ v u Q I rx ry ⟨rfl,by rw[Kj];exact q⟩
def UA (f:List Nat->List Nat->Bool):R2:=fun x y H Q=> ∃a b,x= .str (S a)/\y= .str (S b)/\Q (.bl (f a b)) H
theorem uc:gQ X (compareOp .Lt) (UA fun a b=>decide (a<b)):=by
 walk_at"a"
 walk_at"7"
 exact BU pins s σ H _ _ v u Q I rx ry ⟨S a,S b,rfl,rfl,by rw[fS,fS];exact q⟩
end
section
variable {X:Cx} {tg:Expr}
theorem bu (K:PySem.W.Frag) (h:X.K=K):Lw X (Qq K):=by subst h;exact HE
theorem bQ (K:PySem.W.Frag) (h:X.K=K):Lw X (Qr K):=by subst h;exact Ly
def QO (K:PySem.W.Frag):List V->Hp->VK->Prop:=fun xs H Q=> ∃p ys,xs=[.ref p]/\(aZ K H p ys\/bE K H p ys)/\Q (.int ys.length) H
theorem aT (K:PySem.W.Frag) (h:X.K=K):cQ X (.builtin "len") (QO K):=by subst h;exact tX
theorem gS (K:PySem.W.Frag) (h:X.K=K):B7 X "str.join" (Eh K):=by subst h;exact Ei
def QP (K:PySem.W.Frag):List V->Hp->VK->Prop:=fun xs H Q=> ∃(p:Addr) (bs:List Bool),xs=[.ref p]/\aZ K H p (bs.map V.bl)/\Q (.bl (bs.all id)) H
theorem rQ (K:PySem.W.Frag) (h:X.K=K) (hc:X.calm=true):cQ X (.builtin "all") (QP K):=by subst h;exact Cd hc
theorem oY (K:PySem.W.Frag) (h:X.K=K):Sk X (Qt K):=by subst h;exact HF
theorem fi (K:PySem.W.Frag) (h:X.K=K) {l:Expr} {tl:TE} (hl:PE X l tl):PI X tg l (Kb K tl):=by subst h;exact Ht hl
theorem h7 (K:PySem.W.Frag) (h:X.K=K) {l:Expr} {tl:TE} (hl:PE X l tl):PI X tg l (P9 K tl):=by subst h;exact Ll hl
end
section
variable {X:Cx} {o e:Expr} {es:List Expr} {to:TE} {t:TA} {name:Str} {apos iP:Pos} {T id:String} {r:V->List V->Hp->VK->Prop}
theorem h_ (K:PySem.W.Frag) (hK:X.K=K) (pa:PlainAttrs T) (slot:Slot T name id) (LD:typeOf (.builtin id)=pure (.type "method_descriptor")) (hm:B7 X id r) (ho:PE X o to)
  (oN:attributeBase o name X.env (eval o X.env)=eval o X.env:=by rfl) (kG:(apos.endLine==iP.line)=true:=by rfl):PE X (.Call (.Attribute o name apos) [] [] iP) (Qu K T r to):=by
 subst hK
 exact LC pa slot LD hm ho oN kG
theorem ba (K:PySem.W.Frag) (hK:X.K=K) (pa:PlainAttrs T) (slot:Slot T name id) (LD:typeOf (.builtin id)=pure (.type "method_descriptor")) (hm:B7 X id r) (ho:PE X o to) (ha:PA X (e::es) t)
  (oN:attributeBase o name X.env (eval o X.env)=eval o X.env:=by rfl)
  (D7:((backTo iP (starEach (e::es) X.env)).all (fun x=>!x.1)&&(backToKw iP (keywordEach [] X.env)).all (fun x=>x.1.isSome)
   &&decide ((e::es).length+([]:List Keyword).length+(if ([]:List Keyword).isEmpty then 0 else 1)<30))=true:=by rfl)
  (kG:(apos.endLine==iP.line)=true:=by rfl) (hs:starEach (e::es) X.env=(false,eval e X.env)::starEach es X.env:=by rfl) (yA:(backTo iP (starEach es X.env)).any (·.1)=false:=by rfl):
  PE X (.Call (.Attribute o name apos) (e::es) [] iP) (V2 K T r to t):=by
 subst hK
 exact Qv pa slot LD hm ho ha oN D7 kG hs yA
end
mutual
inductive yJ (K:PySem.W.Frag) (H:Hp):V->PyData->Prop
 | dY:yJ K H .dY .none
 | bl (b:Bool):yJ K H (.bl b) (.bool b)
 | int (i:Int):yJ K H (.int i) (.int i)
 | str (x:Str):yJ K H (.str x) (.str x)
 | lst {a:Addr} {xs:List V} {ds:List PyData} (h:aZ K H a xs) (r:kO K H xs ds):yJ K H (.ref a) (.list ds)
 | tup {a:Addr} {xs:List V} {ds:List PyData} (h:bE K H a xs) (r:kO K H xs ds):yJ K H (.ref a) (.tuple ds)
inductive kO (K:PySem.W.Frag) (H:Hp):List V->List PyData->Prop
 | nil:kO K H [] []
 | cons {x:V} {xs:List V} {d:PyData} {ds:List PyData} (h:yJ K H x d) (r:kO K H xs ds):kO K H (x::xs) (d::ds)
end
section
variable {X:Cx} {pins:List (Addr×Obj)} {σ:St} {H:Hp} {s:Shared}
mutual
theorem yJ.reads (I:Inv X pins σ H s): ∀{x:V} {d:PyData} {u:Value},yJ X.K H x d->RelV x u-> ∃as,Reads s.heap u d as
 | _,_,u, .dY,r=>by cases (show u=Value.none from r);exact ⟨_, .none⟩
 | _,_,u, .bl b,r=>by cases (show u=Value.bool b from r);exact ⟨_, .bool b⟩
 | _,_,u, .int i,r=>by obtain ⟨t,rfl⟩:=r;exact ⟨_, .int i t⟩
 | _,_,u, .str x,r=>by obtain ⟨t,rfl⟩:=r;exact ⟨_, .str x t⟩
 | _,_,u, .lst (a:=a) h q,r=>by
  cases (show u=Value.ref a from r)
  obtain ⟨its,rv,pl,_⟩:=I.list h
  obtain ⟨as,ra⟩:=kO.reads I q rv
  obtain ⟨o,ho,hc,n,hd⟩:=pl.isList
  exact ⟨_, .list ho hc hd (by simpa using ra)⟩
 | _,_,u, .tup (a:=a) h q,r=>by
  cases (show u=Value.ref a from r)
  obtain ⟨its,rv,pl,_⟩:=I.tuple h
  obtain ⟨as,ra⟩:=kO.reads I q rv
  obtain ⟨o,ho,hc,n,hd⟩:=pl
  exact ⟨_, .tuple ho hc hd (by simpa using ra)⟩
theorem kO.reads (I:Inv X pins σ H s): ∀{xs:List V} {ds:List PyData} {us:List Value},kO X.K H xs ds->Vals xs us-> ∃as,ReadsAll s.heap us ds as
 | _,_,us, .nil,r=>by cases r;exact ⟨_, .nil⟩
 | _,_,us, .cons h q,r=>by
  cases r with
  | cons r1 r2=>
   obtain ⟨as,ra⟩:=yJ.reads I h r1
   obtain ⟨bs,rb⟩:=kO.reads I q r2
   exact ⟨_, .cons ra rb⟩
end
end
section
variable {X:Cx}
def UB (K:PySem.W.Frag):R2:=fun x y H Q=> ∃dx dy,yJ K H x dx/\yJ K H y dy/\(dx.canLay0=true/\dy.canLay0=true)/\dx.depth<=60/\Q (.bl (PyData.eqv dx dy)) H
def UC (K:PySem.W.Frag):R2:=fun x y H Q=> ∃dx dy,yJ K H x dx/\yJ K H y dy/\(dx.canLay0=true/\dy.canLay0=true)/\dx.depth<=60/\Q (.bl (!PyData.eqv dx dy)) H
theorem LX {k:Nat} (K:PySem.W.Frag) (h:X.K=K) (hr:ez k X.A):gQ X (compareOp .Eq) (UB K):=by
 subst h
 walk_at"a"
 obtain ⟨dx,dy,h1,h2,⟨h3,h4⟩,h5,q⟩:=h
 obtain ⟨as,ra⟩:=h1.reads I rx
 obtain ⟨bs,rb⟩:=h2.reads I ry
 have hu:=hr.units
 exact SeqAt.compareEq_reads ra rb h3 h4 (by lia) ⟨.bl _,H,I,rfl,q⟩
theorem yK {k:Nat} (K:PySem.W.Frag) (h:X.K=K) (hr:ez k X.A):gQ X (compareOp .NotEq) (UC K):=by
 subst h
 walk_at"a"
 obtain ⟨dx,dy,h1,h2,⟨h3,h4⟩,h5,q⟩:=h
 obtain ⟨as,ra⟩:=h1.reads I rx
 obtain ⟨bs,rb⟩:=h2.reads I ry
 have hu:=hr.units
 exact SeqAt.compareNe_reads ra rb h3 h4 (by lia) ⟨.bl _,H,I,rfl,q⟩
def QQ (K:PySem.W.Frag) (ta:TE):TT:=fun σ H Q=>ta σ H fun x H'=> ∃p xs,x= .ref p/\aZ K H' p xs/\Q (!xs.isEmpty) H'
theorem HY {a:Expr} {ta:TE} (K:PySem.W.Frag) (h:X.K=K) (ha:PE X a ta) (he: ∀whole,isTrue a X.env whole=(do let v <-whole;standAt a.pos;holding [v] (truthy v)):=by intro _;rfl):PT X a (QQ K ta):=by
 subst h
 intro pins s σ H Q I hw
 refine isTrue_plain (cy (ha pins s σ H _ I hw) fun v s1 ⟨x,H1,I1,r1,q1⟩=>?_) (he _)
 obtain ⟨p,xs,rfl,hq,q⟩:=q1
 exact Lr pins s1 σ H1 _ v Q I1 r1 ⟨_, .inl ⟨xs,hq,rfl⟩,q⟩
theorem cK (K:PySem.W.Frag) (h:X.K=K) {es:List Expr} {k:Nat} {t:J_} {n:Nat} {pos:Pos} (hc:X.calm=true) (hs:P4 X es t)
  (hn:(assignEach es X.env).length=n:=by rfl) (nC:(assignEach es X.env).findIdx? (·.1)=none:=by rfl):PG X (.Tuple es k pos) (P8 K n t):=by
 subst h
 exact Lj hc hs hn nC
end
noncomputable def cW (a b:List Nat):List Nat:=if b<a then b else a
noncomputable def cn:List Nat->List (List Nat)->List Nat
 | a,[]=>a
 | a,b::r=>cn (cW a b) r
theorem argBest_lt (bt:Nat->Nat->Bool): ∀n,argBest bt n<=n
 | 0=>Sq _
 | n+1=>by
  unfold argBest
  split
  ·exact Sq _
  ·exact Qcs (argBest_lt bt n)
section
variable {X:Cx}
theorem Ep (K:PySem.W.Frag) (h:X.K=K):gQ X (compareOp .In) (Sl K false):=by subst h;exact B9
theorem Aw (K:PySem.W.Frag) (h:X.K=K):gQ X (compareOp .NotIn) (Sl K true):=by subst h;exact tW
end
noncomputable def dh (n:Nat) (l:List Nat):List Nat:=(List.replicate n l).flatten
theorem eR (n:Nat) (l:List Nat):dh (n+1) l=l++dh n l:=by unfold dh;rw[Qe4,Qc2]
theorem yL (n:Nat) (l:List Nat):dh (n+1) l=dh n l++l:=by unfold dh;rw[List.replicate_succ',List.flatten_append,Qc2,List.flatten_nil,Qaw]
theorem oZ (n:Nat) (l:List Nat):(dh n l).length=n*l.length:=by
 induction n with
 | zero=>simp[dh]
 | succ n ih=>rw[eR,V7,ih,Qd6,Qff]
theorem rR (l:List Nat): ∀(n:Nat) (acc:Array Nat),((List.replicate n (S l).cps).foldl (· ++ ·) acc).toList=acc.toList++dh n l
 | 0,acc=>by simp[dh]
 | n+1,acc=>by
  rw[Qe4,Qd5,rR l n,eR]
  simp[S]
def QR:R2:=fun x y H Q=> ∃(l:List Nat) (i:Int),x= .str (S l)/\y= .int i/\(0<=i/\i<=1000000)/\l.length*i.toNat<=sizeLine/\Q (.str (S (dh i.toNat l))) H
theorem kP {X:Cx}:gQ X (binaryOp .Mult) QR:=by
 walk_at"a"
 obtain ⟨l,i,rfl,rfl,⟨h0,h1⟩,hz,q⟩:=h
 walk_at"f"
 walk_at"2"
 have hn:=eP
 have UD:(S l).length=l.length:=du l
 have UE:(l.length:Int)*i<=2 ^ 63 - 1:=by
  have e:((l.length*i.toNat:Nat):Int)=(l.length:Int)*i:=by rw[Qfu,Int.toNat_of_nonneg h0]
  have:((l.length*i.toNat:Nat):Int)<=(sizeLine:Int):=by exact_mod_cast hz
  rw[<-e];lia
 refine P.mul_str (x:=S l) (n:=i) (t:=t) (u:=t') (by
  have e1:decide (i< -(2 ^ 63:Int))=false:=decide_eq_false (by lia)
  have e2:decide (i ≥ 2 ^ 63)=false:=decide_eq_false (by lia)
  rw[e1,e2];rfl) (fun z _=>?_) (fun z _=>?_) ?_
 ·rw[UD]
  have:(l.length:Int)<=(2 ^ 63 - 1) / i:=(Int.le_ediv_iff_mul_le (by lia)).mpr UE
  lia
 ·rw[UD]
  show Builtin.Str.tooLong _=false
  unfold Builtin.Str.tooLong
  exact decide_eq_false (by lia)
 ·by_cases z:i<1
  ·rw[if_pos z]
   have e:i.toNat=0:=by lia
   rw[e]at q
   exact ⟨by decide, .str _,H,I.tok _,⟨_,rfl⟩,q⟩
  ·rw[if_neg z]
   by_cases z2:(i==1||(S l).length==0)=true
   ·rw[if_pos z2]
    have e:dh i.toNat l=l:=by
     rcases Bool.or_eq_true _ _ |>.mp z2 with e | e
     ·have e:i=1:=by simpa using e
      subst e
      show dh 1 l=l
      rw[eR];simp[dh]
     ·have e:l.length=0:=by rw[UD]at e;simpa using e
      have e:l=[]:=Qbz.mp e
      subst e
      unfold dh
      simp
    rw[e]at q
    exact ⟨.str _,H,I,⟨_,rfl⟩,q⟩
   ·rw[if_neg z2]
    have e:(⟨(List.replicate i.toNat (S l).cps).foldl (· ++ ·) #[]⟩:Str)=S (dh i.toNat l):=by
     have:=rR l i.toNat #[]
     show _=(⟨(dh i.toNat l).toArray⟩:Str)
     congr 1
     apply Qcv.mp
     rw[this]
     simp
    rw[e]
    refine ⟨?_, .str _,H,I.tok _,⟨_,rfl⟩,q⟩
    rw[du,oZ,Qb6]
    exact hz
section
variable {X:Cx} {pins:List (Addr×Obj)} {σ:St} {H:Hp} {s:Shared} {h':Heap}
theorem Inv.o5 {t':Nat} {ch:List Addr} {T:Addr} {ob:HO} (I:Inv X pins σ H s) (k: ∀b o,b∉ch->s.heap.get? b=some o->h'.get? b=some o) (hf: ∀b∈ch,nE X pins H b)
  (hT:s.heap.objs.size<=T) (new:cH X.prog X.w (upd H T ob) h' T ob):Inv X pins σ (upd H T ob) { s with heap:=h',toks:=t' }:=by
 have hn:=I.bZ.fresh hT
 have J6: ∀b u,H b=some u->b∉ch:=fun b u e z=>by rw[(hf b z).1]at e;cases e
 have neT: ∀b o,s.heap.get? b=some o->b≠T:=fun b o e z=>absurd (Qap (Qag e) hT) (by rw[z];exact Qbd _)
 refine I.step (g':=s.gens) (d':=s.drawn) (ch:=ch) (fun b hb=>?_) (fun b o _ _ hc e _=>k b o hc e) (fun b o _ _ hc e _=>⟨o.slots,k b o hc e⟩) (fun b o _ e n=>by rw[az (neT b o e)];exact n)
  (fun b o hc e=>⟨o,k b o hc e⟩) (fun b xs e=>by rw[az (ax e hn)];exact e) (fun b o u e=>by rw[az (ax e hn)];exact e) (fun b ps e=>⟨#[],by rw[az (ax e hn),e];simp⟩) (fun m hm=>?_) (fun b u e=>?_) I.bare
 ·obtain ⟨_,h2,_,h4,h5,h6⟩:=hf b hb
  exact ⟨h4,h2,h5,h6⟩
 ·obtain ⟨o,es,ep,ho,r⟩:=hm
  exact ⟨o,es,ep,k _ o (fun z=>(hf _ z).2.1 rfl) ho,r⟩
 ·by_cases hb:b=T
  ·subst hb;rw[ag]at e;cases e;exact new
  ·rw[az hb]at e
   refine (I.bZ b u e).vH (fun c v hc q=>k c v ?_ q) (fun c q=>by rw[az (ax q hn)];exact q) fun c xs q=>by rw[az (ax q hn)];exact q
   rcases hc with z | z
   ·rw[z];exact J6 b u e
   ·exact J6 c _ z
theorem Inv.ud {t':Nat} {ch:List Addr} (I:Inv X pins σ H s) (k: ∀b o,b∉ch->s.heap.get? b=some o->h'.get? b=some o) (hf: ∀b∈ch,nE X pins H b):Inv X pins σ H { s with heap:=h',toks:=t' }:=by
 have J6: ∀b u,H b=some u->b∉ch:=fun b u e z=>by rw[(hf b z).1]at e;cases e
 refine I.step (g':=s.gens) (d':=s.drawn) (ch:=ch) (fun b hb=>?_) (fun b o _ _ hc e _=>k b o hc e) (fun b o _ _ hc e _=>⟨o.slots,k b o hc e⟩) (fun b o _ e n=>n)
  (fun b o hc e=>⟨o,k b o hc e⟩) (fun b xs e=>e) (fun b o u e=>e) (fun b ps e=>⟨#[],by rw[e];simp⟩) (fun m hm=>?_) (fun b u e=>?_) I.bare
 ·obtain ⟨_,h2,_,h4,h5,h6⟩:=hf b hb
  exact ⟨h4,h2,h5,h6⟩
 ·obtain ⟨o,es,ep,ho,r⟩:=hm
  exact ⟨o,es,ep,k _ o (fun z=>(hf _ z).2.1 rfl) ho,r⟩
 ·refine (I.bZ b u e).vH (fun c v hc q=>k c v ?_ q) (fun c q=>q) fun c xs q=>q
  rcases hc with z | z
  ·rw[z];exact J6 b u e
  ·exact J6 c _ z
end
noncomputable def N7 (l:List Nat):It:=⟨fun i _=>i<l.length,fun i H x H'=> ∃T c,l[i]? =some c/\x= .ref T/\H T=none/\H'=upd H T (.tup [.int i, .str (S [c])]),fun i _=>l.length<=i⟩
theorem rS {prog:Program} {w:World} {A:Around} (hh:A.handled=none) (it:Addr) (x:Str) (t:Tok):
  Draws prog w A it [it] x.cps.size (fun i v=> ∃c u,x.cps[i]? =some c/\v= .str ⟨#[c]⟩ u) (fun i h=>h.IsStrIter it (strIterType x) x t i):=by
 by_cases ha:x.cps.all (· <128)=true
 ·have et:strIterType x="str_ascii_iterator":=by unfold strIterType;rw[if_pos ha]
  rw[et];exact Draws.strAscii hh it x t
 ·have et:strIterType x="str_iterator":=by unfold strIterType;rw[if_neg ha]
  rw[et];exact Draws.strWide hh it x t
theorem yM {P:Program} {w:World} {K:PySem.W.Frag} {elts:List Expr} {k:Nat} {pos:Pos} (e it:Addr) (Ax:e≠it) (l:List Nat) (t:Tok):
  Turn P w K (.Tuple elts k pos) (N7 l) [e,it] e (fun i h=>i<=l.length/\(∃old,IsEnum h e it i old)/\h.IsStrIter it (strIterType (S l)) (S l) t i) where
 mem:=by simp
 obj:=fun i h st b hb=>by
  obtain ⟨_,⟨old,he⟩,o,ho,hc,hd⟩:=st
  rcases Qah.mp hb with z | z
  ·rw[z];exact ⟨_,he,fun v z=>by cases z⟩
  ·rw[V8.mp z];exact ⟨o,ho,fun v z=>by rw[hd]at z;cases z⟩
 keep:=fun i h h' st kp=>by
  obtain ⟨h1,⟨old,he⟩,o,ho,r⟩:=st
  exact ⟨h1,⟨old,kp e (by simp) _ he⟩,o,kp it (by simp) o ho,r⟩
 item:=by
  walk_at"b"
  subst hP hw hK
  obtain ⟨_,vD,tP⟩:=st
  have D:=rS (prog:=X.prog) (w:=X.w) (A:=X.A.in1) (I.ok.hd hc) it (S l) t
  have W:=WalksT.enumerateD D e Ax (by simpa using Ax) (by simp)
  have hi:i<(S l).cps.size:=by rw[l_];exact hg
  refine W.item i s _ _ hi ⟨vD,tP⟩ fun T vals h' tk QS hT Er vX hk=>⟨_,rfl,?_⟩
  walk_at"N"
  obtain ⟨tt,x,⟨c,u,UG,rfl⟩,rfl⟩:=QS
  have Kk:T∉[e,it]:=W.apart i T h' vX
  have vZ:h2.IsTuple T #[.int i tt, .str ⟨#[c]⟩ u]:=by
   obtain ⟨o,ho,r⟩:=Er
   exact ⟨o,yN T o Kk ho,r⟩
  have hl:l[i]? =some c:=by simpa [S]using UG
  refine ⟨.ref T,upd H T (.tup [.int i, .str (S [c])]),?_,rfl,⟨T,c,hl,rfl,I.bZ.fresh hT,rfl⟩,⟨hg,vY.1,vY.2⟩,fun b hb=>?_⟩
  ·refine I.o5 (t':=tk) (h':=h2) (fun b o hb y=>yN b o hb (hk b o hb y)) hf hT ?_
   exact ⟨by show 2<=sizeLine;decide,[.int i tt, .str ⟨#[c]⟩ u], .cons ⟨tt,rfl⟩ (.cons ⟨u,rfl⟩ .nil),vZ⟩
  ·rw[az (fun z:b=T=>Kk (z▸hb))];exact (hf b hb).1
 done:=by
  walk_at"b"
  subst hP hw hK
  obtain ⟨h1,vD,tP⟩:=st
  have e1:i=l.length:=Qfq h1 hg
  have D:=rS (prog:=X.prog) (w:=X.w) (A:=X.A.in1) (I.ok.hd hc) it (S l) t
  have W:=WalksT.enumerateD D e Ax (by simpa using Ax) (by simp)
  walk_at"9"
  rw[l_, <-e1]
  exact ⟨vD,tP⟩
 self:=fun _ _ s _ _ st h=>by
  obtain ⟨_,⟨old,he⟩,_⟩:=st
  exact wpAny_pyIter_enum he h
def LY (ta:TA):TI:=fun σ H R=>ta σ H fun vs H1=> ∃l,vs=[.str (S l)]/\R (N7 l) H1
theorem o6 {X:Cx} {elts:List Expr} {k:Nat} {pos':Pos} {a:Expr} {ta:TA} {p pos:Pos} (hg:Gl X "enumerate") (hm:X.mg "enumerate"=none) (ha:PA X [a] ta) (hs:starEach [a] X.env=[(false,eval a X.env)]:=by rfl):PI X (.Tuple elts k pos') (.Call (.Name "enumerate" p) [a] [] pos) (LY ta):=by
 walk_at"3"
 walk_at"m"
 obtain ⟨l,rfl,q⟩:=q1
 obtain ⟨u,rfl,t,rfl⟩:=vals1 r1
 refine call_enumerate_str fun h' he hit hsz hk=>?_
 refine wpAny_pyIter_enum he ?_
 refine ⟨s1.heap.objs.size+1,[s1.heap.objs.size+1,s1.heap.objs.size],_,_,H1,rfl,I1.kept (t':=s1.toks) hk,yM _ _ (Qfl _) l t,⟨Qaa _,⟨_,he⟩,hit⟩,fun b hb=>?_,q⟩
 have me:s1.heap.objs.size<=b:=by
  rcases Qah.mp hb with z | z
  ·rw[z];exact Qb7 _
  ·rw[V8.mp z];exact Sq _
 exact I1.nF me (I1.bZ.fresh me)
theorem v_ {l:List Nat} {g:TG} {tb:TS} {D:Ends} {σ:St} {H:Hp} (Pv:Nat->St->Hp->Prop) (h0:Pv 0 σ H)
  (hs: ∀i c σ H T,l[i]? =some c->Pv i σ H->H T=none->g (.ref T) σ (upd H T (.tup [.int i, .str (S [c])])) fun σ2 H2=>tb { D with nx:=Pv (i+1),ct:=Pv (i+1),bk:=D.nx } σ2 H2) (hd: ∀σ H,Pv l.length σ H->D.nx σ H):
  ∃W:Nat->Nat->St->Hp->Prop,(∃m,W 0 m σ H)/\ ∀i m σ H,W i m σ H->
   ((N7 l).stop i H/\D.nx σ H)\/((N7 l).go i H/\ ∃N:St->Hp->Prop,(∀σ' H',N σ' H'-> ∃m',m'<m/\W (i+1) m' σ' H')/\ ∀x H',(N7 l).DT i H x H'->g x σ H' fun σ2 H2=>tb { D with nx:=N,ct:=N,bk:=D.nx } σ2 H2):=by
 refine ⟨fun i m σ H=>m=l.length - i/\i<=l.length/\Pv i σ H,⟨l.length,by simp,Qaa _,h0⟩,?_⟩
 rintro i m σ H ⟨rfl,hi,p⟩
 by_cases cE:i<l.length
 ·refine .inr ⟨cE,Pv (i+1),fun σ' H' p'=>⟨l.length - (i+1),by lia,rfl,cE,p'⟩,fun x H' y=>?_⟩
  obtain ⟨T,c,hc,rfl,hn,rfl⟩:=y
  exact hs i c σ _ T hc p hn
 ·have e:i=l.length:=by lia
  subst e
  exact .inl ⟨Sq _,hd σ H p⟩
section
variable {X:Cx}
theorem HZ {ls:List (List Nat)}: ∀{its:List Value},Vals (ls.map fun l=>V.str (S l)) its->StrsAre its (ls.map S):=by
 induction ls with
 | nil=>intro its r;cases r;exact .nil
 | cons l ls ih=>
  intro its r
  cases r with
  | cons r1 r2=>
   obtain ⟨t,rfl⟩:=r1
   exact .cons _ t (ih r2)
theorem Ay: ∀{its:List Value} {ss:List Str},StrsAre its ss->Vals ((ss.map fun x=>x.cps.toList).map fun l=>V.str (S l)) its
 | _,_, .nil=> .nil
 | _,_, .cons x t h=> .cons ⟨t,by rw[<-QH]⟩ (Ay h)
theorem rT: ∀(p:Str) (r:List Str),risingS p r=true->(p::r).Pairwise fun a b=> ¬b.cps.toList<a.cps.toList
 | p,[],_=>Qdm _ _
 | p,x::r,h=>by
  have h':(!ltCps x.cps.toList p.cps.toList&&risingS x r)=true:=h
  rw[Qbr,ltCps_eq]at h'
  have h1: ¬x.cps.toList<p.cps.toList:=by simpa using h'.1
  have ih:=rT x r h'.2
  refine Qce.mpr ⟨fun y hy=>?_,ih⟩
  rcases Qah.mp hy with z | z
  ·rw[z];exact h1
  ·exact List.le_trans (show p.cps.toList<=x.cps.toList from h1) (show x.cps.toList<=y.cps.toList from Qb3 ih z)
theorem Ce {ss:List Str} (h:sortedS ss=true):(ss.map fun x=>x.cps.toList).Pairwise fun a b=> ¬b<a:=by
 rw[Qbg]
 cases ss with
 | nil=>exact List.Pairwise.nil
 | cons x r=>exact rT x r h
def LZ (K:PySem.W.Frag):List V->Hp->VK->Prop:=fun xs H Q=> ∃(p:Addr) (ls:List (List Nat)),xs=[.ref p]/\aZ K H p (ls.map fun l=>V.str (S l))/\ls.length<64/\ ∀(q:Addr) (UH:List (List Nat)),H q=none->UH.Perm ls->(UH.Pairwise fun a b=> ¬b<a)->Q (.ref q) (upd H q (.lst (UH.map fun l=>V.str (S l))))
theorem kQ (K:PySem.W.Frag) (h:X.K=K):cQ X (.builtin "sorted") (LZ K):=by
 subst h
 walk_at"e"
 obtain ⟨p,ls,rfl,hq,hn,q⟩:=h
 walk_at"x"
 cases ru
 obtain ⟨its,rv,pl,hz⟩:=I.list hq
 have hlen:its.length=ls.length:=by rw[<-rv.length,V6]
 refine sorted_strs (l:=p) (vs:=its) (ss:=ls.map S) pl.isList (HZ rv) (by lia) fun out UI h1 h2 h3=>?_
 obtain ⟨e,he⟩:=sortedAll_at s.heap its out
 have Kl:(UI.map fun x=>x.cps.toList).Perm ls:=by
  have:=h2.map fun x:Str=>x.cps.toList
  rw[Qbt]at this
  have e2:ls.map ((fun x:Str=>x.cps.toList) ∘ S)=ls:=by
   have: ∀l∈ls,((fun x:Str=>x.cps.toList) ∘ S) l=l:=fun l _=>fS l
   calc ls.map _=ls.map id:=Qdc this
    _=ls:=List.map_id ls
  rwa [e2]at this
 have m7:=Kl.length_eq
 have L0:(64:Nat)<sizeLine:=by decide
 have UJ:((UI.map fun x=>x.cps.toList).map fun l=>V.str (S l)).length<=sizeLine:=by rw[V6,m7];lia
 refine ⟨.ref (s.heap.objs.size+1),_,I.laid (t':=s.toks) (a:=s.heap.objs.size+1) (o:= .lst ((UI.map fun x=>x.cps.toList).map fun l=>V.str (S l))) (fun b o e=>sortedAll_old e) (Qb7 _) ⟨UJ,out.toList,e,Ay h1,by simpa [seqObj]using he⟩,rfl,q _ _ (I.bZ.fresh (Qb7 _)) Kl (Ce h3)⟩
theorem Az {ls:List (List Nat)} {l:List Nat} (h:ls.Perm (l.map fun c=>[c])): ∃l':List Nat,ls=l'.map (fun c=>[c])/\l'.Perm l:=by
 refine ⟨ls.flatten,?_,?_⟩
 ·have hs: ∀x∈ls, ∃c,x=[c]:=fun x hx=>by
   obtain ⟨c,_,e⟩:=Qav.mp (h.mem_iff.mp hx)
   exact ⟨c,e.symm⟩
  clear h
  induction ls with
  | nil=>rfl
  | cons x ls ih=>
   obtain ⟨c,rfl⟩:=hs x XS
   rw[Qc2,XN, <-ih fun y hy=>hs y (kb _ hy)]
   rfl
 ·have:=h.flatten
  have e:(l.map fun c=>[c]).flatten=l:=by
   clear h this
   induction l with
   | nil=>rfl
   | cons c l ih=>rw[Qa7,Qc2,ih];rfl
  rwa [e]at this
theorem AA {l:List Nat} (h:(l.map fun c=>[c]).Pairwise fun a b=> ¬b<a):l.Pairwise fun a b=>a<=b:=by
 rw[Qbg]at h
 refine h.imp fun {a b} z=>?_
 by_cases y:a<=b
 ·exact y
 ·exact absurd (Qey.mpr (.inl (by lia))) z
end
section
variable {prog:Program} {w:World} {A:Around} {E:Value->Shared->Prop} {s:Shared}
theorem yO {it tp:Addr} {j:Nat} {xs:Array Value} {y:Value} {Q:Value->Shared->Prop} (hi:s.heap.IsTupleIter it tp j) (ht:s.heap.IsTuple tp xs) (hy:xs[j]? =some y)
  (q: ∀h2,h2.IsTupleIter it tp (j+1)->Heap.SameBut it s.heap h2->Q y { s with heap:=h2 }):wpAny (model prog w) A (Builtin.SmallTypes.nextOf (.ref it)) Q E s:=by
 obtain ⟨oi,eo,ec,ed⟩:=id hi
 obtain ⟨ot,et,_,nt,dt⟩:=ht
 unfold Builtin.SmallTypes.nextOf
 walk_at"l"
 refine wpAny_bind (m:=field (.ref it) 0) (wpAny_field eo ed (x:= .ref tp) rfl ?_)
 show wpAny (model prog w) _ (if (Value.ref tp==Value.none)=true then _ else _) _ E s
 rw[if_neg (show ¬(Value.ref tp==Value.none)=true from Qai)]
 refine wpAny_bind (m:=field (.ref it) 1) (wpAny_field eo ed (x:= .int j 0) rfl ?_)
 refine wpAny_bind (m:=seqItems? (.ref tp)) (wpAny_seqItems et dt ?_)
 simp only[XQ,hy]
 refine wpAny_bind (wpAny_setField eo ed (by simp) (wpAny_pure ⟨y,rfl,wpAny_pure (q _ ⟨_,Qbv _ eo (Obj.isFreed_of_fields (Obj.data_mapFields ed _)),(Obj.cls_mapFields ..).trans ec,by rw[Obj.data_mapFields ed];simp[rawInt]⟩ (Qeg ..))⟩))
theorem Cf {it tp:Addr} {j:Nat} {xs:Array Value} {Q:Value->Shared->Prop} (hh:A.handled=none) (hi:s.heap.IsTupleIter it tp j) (ht:s.heap.IsTuple tp xs) (hy:xs[j]? =none)
  (q: ∀h2 e,Heap.ExtBut it s.heap h2->(∃o,h2.get? e=some o/\o.cls= .type "StopIteration")->E (.ref e) { s with heap:=h2 }):wpAny (model prog w) A (Builtin.SmallTypes.nextOf (.ref it)) Q E s:=by
 obtain ⟨oi,eo,ec,ed⟩:=id hi
 obtain ⟨ot,et,_,nt,dt⟩:=ht
 unfold Builtin.SmallTypes.nextOf
 walk_at"l"
 refine wpAny_bind (m:=field (.ref it) 0) (wpAny_field eo ed (x:= .ref tp) rfl ?_)
 show wpAny (model prog w) _ (if (Value.ref tp==Value.none)=true then _ else _) _ E s
 rw[if_neg (show ¬(Value.ref tp==Value.none)=true from Qai)]
 refine wpAny_bind (m:=field (.ref it) 1) (wpAny_field eo ed (x:= .int j 0) rfl ?_)
 refine wpAny_bind (m:=seqItems? (.ref tp)) (wpAny_seqItems et dt ?_)
 simp only[XQ,hy]
 refine wpAny_bind (wpAny_rule (wpAny_bind (wpAny_setField eo ed (by simp) ?_)))
 refine wpAny_bind (m:=newExc (.type "StopIteration") []) ?_
 simp only[newExc,newTuple]
 refine wpAny_bind (wpAny_newObj_type (wpAny_bind (m:=firstArgMember _ _) (wpAny_of_eq (a:=Value.none) (by first | rfl | (simp only[firstArgMember];rfl)) (wpAny_newObj_type ?_ (by size_fits)))) (by size_fits))
 simp only[raiseNew]
 refine wpAny_bind (wpAny_handled ?_);first | rw[show A.in1.handled=none from hh] | rw[hh]
 exact wpAny_bind (wpAny_pure (wpAny_throw (q _ _ (((Qeg ..).extBut.push _).push _) ⟨_,Qal _ rfl,rfl⟩)))
theorem m9 (hh:A.handled=none) (it tp:Addr) (ne:tp≠it) (xs:Array Value):
  Draws prog w A it [it,tp] xs.size (fun i v=>xs[i]? =some v) (fun i h=>h.IsTupleIter it tp i/\h.IsTuple tp xs) where
 live:=fun _ _ z=>let ⟨o,e,_⟩:=z.1;⟨o,e⟩
 frame:=fun _ _ _ z k=>by
  obtain ⟨⟨o,e,r⟩,o2,e2,r2⟩:=z
  exact ⟨⟨o,k it (by simp) o e,r⟩,o2,k tp (by simp) o2 e2,r2⟩
 item:=fun i s Q E hi z q=>yO z.1 z.2 (y:=xs[i]) (by simp[hi]) fun h2 z2 sb=>q _ h2 s.toks (by simp[hi]) ⟨z2,z.2.extBut sb.extBut ne⟩ sb
 done:=fun s Q E z q=>Cf hh z.1 z.2 (by simp) q
theorem wd (l:Addr) (items:Array Value) (n:Nat) (UK:Option Addr) (sl:Array (Option Value)):
  Meets (Builtin.«enumerate.__new__» ⟨[.type "enumerate", .ref l],[]⟩) (fun _ R s=>s.heap.get? l=some { cls:= .type "tuple",dict:=UK,data:= .seq items n,slots:=sl }/\
   R (.ok (.ret (.ref (s.heap.push { cls:= .type "tuple_iterator",data:= .fields #[.ref l, .int 0 0] }).objs.size)))
    { s with heap:=(s.heap.push { cls:= .type "tuple_iterator",data:= .fields #[.ref l, .int 0 0] }).push { cls:= .type "enumerate",data:= .fields #[.none, .bool false, .ref s.heap.objs.size,rawInt 0, .none, .none] } }):=
 .of_wp fun prog w A R s h=>by
  obtain ⟨hp,g,d,tk,os⟩:=s;obtain ⟨hl,q⟩:=h;have UL:=sub_enumerate
  have hT:Heap.IsTuple (Shared.heap ⟨hp,g,d,tk,os⟩) l items:=⟨_,hl,rfl,n,rfl⟩
  wp_walk using AutoSeq1.wpAny_loadPart' hl
  refine wpAny_stack_any fun st=>wpAny_pure ?_
  split
  ·rename_i c _ _ _ _ _
   cases (c==Value.type "enumerate")<;>(wp_walk using AutoSeq1.wpAny_loadPart' hl,wpAny_pyIter_tuple hT;exact ⟨_,rfl,q⟩)
  ·wp_walk using AutoSeq1.wpAny_loadPart' hl,wpAny_pyIter_tuple hT
   exact ⟨_,rfl,q⟩
theorem yP {l:Addr} {items:Array Value} {Q:Value->Shared->Prop} (hL:s.heap.IsTuple l items)
  (h: ∀h',IsEnum h' (s.heap.objs.size+1) s.heap.objs.size 0 .none->h'.IsTupleIter s.heap.objs.size l 0->(∀b o,s.heap.get? b=some o->h'.get? b=some o)->Q (.ref (s.heap.objs.size+1)) { s with heap:=h' }):
  wpAny (model prog w) A (call (.type "enumerate") [.ref l]) Q E s:=by
 obtain ⟨⟨c,UK,dt,sl⟩,hl,hc,n,hd⟩:=hL
 cases (show c= .type "tuple" from hc)
 cases (show dt= .seq items n from hd)
 refine callType_new F.called_enumerate (by decide) (F.typeCall_enumerate_1 _) (F.newCall_enumerate_1 _) (fun ob=>F.args_object_init_2 ob _) F.entry_enumerate_new (wd l items n UK sl) ⟨hl,?_⟩
 have hz:(s.heap.push { cls:= .type "tuple_iterator",data:= .fields #[.ref l, .int 0 0] }).objs.size=s.heap.objs.size+1:=Qd3 ..
 show _/\_
 rw[hz]
 have he:IsEnum ((s.heap.push { cls:= .type "tuple_iterator",data:= .fields #[.ref l, .int 0 0] }).push { cls:= .type "enumerate",data:= .fields #[.none, .bool false, .ref s.heap.objs.size,rawInt 0, .none, .none] }) (s.heap.objs.size+1) s.heap.objs.size 0 .none:=by
  have:=Qal (s.heap.push { cls:= .type "tuple_iterator",data:= .fields #[.ref l, .int 0 0] }) (o:={ cls:= .type "enumerate",data:= .fields #[.none, .bool false, .ref s.heap.objs.size,rawInt 0, .none, .none] }) rfl
  rwa [hz]at this
 exact ⟨⟨_,he,rfl⟩,h _ he ⟨_,N5 _ (Qal _ rfl),rfl,rfl⟩ fun b o x=>N5 _ (N5 _ x)⟩
end
noncomputable def Es (K:PySem.W.Frag) (a:Addr):It:=⟨fun i H=> ∃xs x,bE K H a xs/\xs[i]? =some x,fun i H x H'=> ∃T y,(∀xs,bE K H a xs->xs[i]? =some y)/\x= .ref T/\H T=none/\H'=upd H T (.tup [.int i,y]),fun i H=> ∃xs,bE K H a xs/\xs.length=i⟩
noncomputable def Cg (K:PySem.W.Frag) (a:Addr):It:=⟨fun i H=> ∃xs x,aZ K H a xs/\xs[i]? =some x,fun i H x H'=> ∃T y,(∀xs,aZ K H a xs->xs[i]? =some y)/\x= .ref T/\H T=none/\H'=upd H T (.tup [.int i,y]),fun i H=> ∃xs,aZ K H a xs/\xs.length=i⟩
theorem yQ {P:Program} {w:World} {K:PySem.W.Frag} {elts:List Expr} {k:Nat} {pos:Pos} (e it a:Addr) (Ax:e≠it) (QT:a≠e) (QU:a≠it):
  Turn P w K (.Tuple elts k pos) (Es K a) [e,it] e (fun i h=>(∃old,IsEnum h e it i old)/\h.IsTupleIter it a i) where
 mem:=by simp
 obj:=fun i h st b hb=>by
  obtain ⟨⟨old,he⟩,o,ho,hc,hd⟩:=st
  rcases Qah.mp hb with z | z
  ·rw[z];exact ⟨_,he,fun v z=>by cases z⟩
  ·rw[V8.mp z];exact ⟨o,ho,fun v z=>by rw[hd]at z;cases z⟩
 keep:=fun i h h' st kp=>by
  obtain ⟨⟨old,he⟩,o,ho,r⟩:=st
  exact ⟨⟨old,kp e (by simp) _ he⟩,o,kp it (by simp) o ho,r⟩
 item:=by
  walk_at"b"
  subst hP hw hK
  obtain ⟨vD,tP⟩:=st
  obtain ⟨xs,x,hq,hx⟩:=hg
  obtain ⟨its,rv,p,hz⟩:=I.tuple hq
  obtain ⟨u0,hu,ru⟩:=rv.get hx
  have D:=m9 (prog:=X.prog) (w:=X.w) (A:=X.A.in1) (I.ok.hd hc) it a QU its.toArray
  walk_at"p"
  have L3:i<its.toArray.size:=by rw[XR];exact (LK.mp hu).1
  refine W.item i s _ _ L3 ⟨vD,tP,p⟩ fun T vals h' tk QS hT Er vX hk=>⟨_,rfl,?_⟩
  walk_at"N"
  obtain ⟨tt,x2,QV,rfl⟩:=QS
  have ex:x2=u0:=by
   rw[List.getElem?_toArray]at QV
   exact Qan (QV.symm.trans hu)
  subst ex
  have Kk:T∉[e,it]:=W.apart i T h' vX
  have vZ:h2.IsTuple T #[.int i tt,x2]:=by
   obtain ⟨o,ho,r⟩:=Er
   exact ⟨o,yN T o Kk ho,r⟩
  refine ⟨.ref T,upd H T (.tup [.int i,x]),?_,rfl,⟨T,x,fun ys hy=>by rw[I.lT hy hq];exact hx,rfl,I.bZ.fresh hT,rfl⟩,⟨vY.1,vY.2.1⟩,fun b hb=>?_⟩
  ·refine I.o5 (t':=tk) (h':=h2) (fun b o hb y=>yN b o hb (hk b o hb y)) hf hT ?_
   exact ⟨by show 2<=sizeLine;decide,[.int i tt,x2], .cons ⟨tt,rfl⟩ (.cons ru .nil),vZ⟩
  ·rw[az (fun z:b=T=>Kk (z▸hb))];exact (hf b hb).1
 done:=by
  walk_at"b"
  subst hP hw hK
  obtain ⟨vD,tP⟩:=st
  obtain ⟨xs,hq,hx⟩:=hg
  obtain ⟨its,rv,p,hz⟩:=I.tuple hq
  have hl:=rv.length
  have D:=m9 (prog:=X.prog) (w:=X.w) (A:=X.A.in1) (I.ok.hd hc) it a QU its.toArray
  walk_at"p"
  walk_at"9"
  have e1:its.toArray.size=i:=by rw[XR];lia
  rw[e1]
  exact ⟨vD,tP,p⟩
 self:=fun _ _ s _ _ st h=>by
  obtain ⟨⟨old,he⟩,_⟩:=st
  exact wpAny_pyIter_enum he h
theorem yR {P:Program} {w:World} {K:PySem.W.Frag} {elts:List Expr} {k:Nat} {pos:Pos} (e it a:Addr) (Ax:e≠it) (QT:a≠e) (QU:a≠it):
  Turn P w K (.Tuple elts k pos) (Cg K a) [e,it] e (fun i h=>(∃old,IsEnum h e it i old)/\h.IsListIter it a i) where
 mem:=by simp
 obj:=fun i h st b hb=>by
  obtain ⟨⟨old,he⟩,o,ho,hc,hd⟩:=st
  rcases Qah.mp hb with z | z
  ·rw[z];exact ⟨_,he,fun v z=>by cases z⟩
  ·rw[V8.mp z];exact ⟨o,ho,fun v z=>by rw[hd]at z;cases z⟩
 keep:=fun i h h' st kp=>by
  obtain ⟨⟨old,he⟩,o,ho,r⟩:=st
  exact ⟨⟨old,kp e (by simp) _ he⟩,o,kp it (by simp) o ho,r⟩
 item:=by
  walk_at"b"
  subst hP hw hK
  obtain ⟨vD,tP⟩:=st
  obtain ⟨xs,x,hq,hx⟩:=hg
  obtain ⟨its,rv,p,hz⟩:=I.list hq
  obtain ⟨u0,hu,ru⟩:=rv.get hx
  have D:=Draws.list (prog:=X.prog) (w:=X.w) (A:=X.A.in1) (I.ok.hd hc) it a QU its.toArray
  walk_at"p"
  have L3:i<its.toArray.size:=by rw[XR];exact (LK.mp hu).1
  refine W.item i s _ _ L3 ⟨vD,tP,p.isList⟩ fun T vals h' tk QS hT Er vX hk=>⟨_,rfl,?_⟩
  walk_at"N"
  obtain ⟨tt,x2,QV,rfl⟩:=QS
  have ex:x2=u0:=by
   rw[List.getElem?_toArray]at QV
   exact Qan (QV.symm.trans hu)
  subst ex
  have Kk:T∉[e,it]:=W.apart i T h' vX
  have vZ:h2.IsTuple T #[.int i tt,x2]:=by
   obtain ⟨o,ho,r⟩:=Er
   exact ⟨o,yN T o Kk ho,r⟩
  refine ⟨.ref T,upd H T (.tup [.int i,x]),?_,rfl,⟨T,x,fun ys hy=>by rw[I.vJ hy hq];exact hx,rfl,I.bZ.fresh hT,rfl⟩,⟨vY.1,vY.2.1⟩,fun b hb=>?_⟩
  ·refine I.o5 (t':=tk) (h':=h2) (fun b o hb y=>yN b o hb (hk b o hb y)) hf hT ?_
   exact ⟨by show 2<=sizeLine;decide,[.int i tt,x2], .cons ⟨tt,rfl⟩ (.cons ru .nil),vZ⟩
  ·rw[az (fun z:b=T=>Kk (z▸hb))];exact (hf b hb).1
 done:=by
  walk_at"b"
  subst hP hw hK
  obtain ⟨vD,tP⟩:=st
  obtain ⟨xs,hq,hx⟩:=hg
  obtain ⟨its,rv,p,hz⟩:=I.list hq
  have hl:=rv.length
  have D:=Draws.list (prog:=X.prog) (w:=X.w) (A:=X.A.in1) (I.ok.hd hc) it a QU its.toArray
  walk_at"p"
  walk_at"9"
  have e1:its.toArray.size=i:=by rw[XR];lia
  rw[e1]
  exact ⟨vD,tP,p.isList⟩
 self:=fun _ _ s _ _ st h=>by
  obtain ⟨⟨old,he⟩,_⟩:=st
  exact wpAny_pyIter_enum he h
def L4 (K:PySem.W.Frag) (ta:TA):TI:=fun σ H R=>ta σ H fun vs H1=> ∃a,vs=[.ref a]/\(∃xs,bE K H1 a xs)/\R (Es K a) H1
def L7 (K:PySem.W.Frag) (ta:TA):TI:=fun σ H R=>ta σ H fun vs H1=> ∃a,vs=[.ref a]/\(∃xs,aZ K H1 a xs)/\R (Cg K a) H1
theorem kR {X:Cx} (K:PySem.W.Frag) (hK:X.K=K) {elts:List Expr} {k:Nat} {pos':Pos} {a:Expr} {ta:TA} {p pos:Pos} (hg:Gl X "enumerate") (hm:X.mg "enumerate"=none) (ha:PA X [a] ta) (hs:starEach [a] X.env=[(false,eval a X.env)]:=by rfl):PI X (.Tuple elts k pos') (.Call (.Name "enumerate" p) [a] [] pos) (L4 K ta):=by
 subst hK
 walk_at"3"
 walk_at"m"
 obtain ⟨b,rfl,⟨xs,hq⟩,q⟩:=q1
 obtain ⟨u,rfl,ru⟩:=vals1 r1
 cases ru
 obtain ⟨its,rv,pl,hz⟩:=I1.tuple hq
 obtain ⟨ob,eb,_⟩:=id pl
 have cE:b<s1.heap.objs.size:=Qag eb
 refine yP pl fun h' he hit hk=>wpAny_pyIter_enum he ?_
 refine ⟨s1.heap.objs.size+1,[s1.heap.objs.size+1,s1.heap.objs.size],_,_,H1,rfl,I1.kept (t':=s1.toks) hk,yQ _ _ b (Qfl _) (Qaq (Qcr cE)) (Qaq cE),⟨⟨_,he⟩,hit⟩,fun c hb=>?_,q⟩
 have me:s1.heap.objs.size<=c:=by
  rcases Qah.mp hb with z | z
  ·rw[z];exact Qb7 _
  ·rw[V8.mp z];exact Sq _
 exact I1.nF me (I1.bZ.fresh me)
theorem we {X:Cx} (K:PySem.W.Frag) (hK:X.K=K) {elts:List Expr} {k:Nat} {pos':Pos} {a:Expr} {ta:TA} {p pos:Pos} (hg:Gl X "enumerate") (hm:X.mg "enumerate"=none) (ha:PA X [a] ta) (hs:starEach [a] X.env=[(false,eval a X.env)]:=by rfl):PI X (.Tuple elts k pos') (.Call (.Name "enumerate" p) [a] [] pos) (L7 K ta):=by
 subst hK
 walk_at"3"
 walk_at"m"
 obtain ⟨b,rfl,⟨xs,hq⟩,q⟩:=q1
 obtain ⟨u,rfl,ru⟩:=vals1 r1
 cases ru
 obtain ⟨its,rv,pl,hz⟩:=I1.list hq
 obtain ⟨ob,eb,_⟩:=id pl.isList
 have cE:b<s1.heap.objs.size:=Qag eb
 refine call_enumerate_list pl.isList fun h' he hit hsz hk=>wpAny_pyIter_enum he ?_
 refine ⟨s1.heap.objs.size+1,[s1.heap.objs.size+1,s1.heap.objs.size],_,_,H1,rfl,I1.kept (t':=s1.toks) hk,yR _ _ b (Qfl _) (Qaq (Qcr cE)) (Qaq cE),⟨⟨_,he⟩,hit⟩,fun c hb=>?_,q⟩
 have me:s1.heap.objs.size<=c:=by
  rcases Qah.mp hb with z | z
  ·rw[z];exact Qb7 _
  ·rw[V8.mp z];exact Sq _
 exact I1.nF me (I1.bZ.fresh me)
theorem jG {K:PySem.W.Frag} {a:Addr} {xs:List V} {g:TG} {tb:TS} {D:Ends} {σ:St} {H:Hp} (Pv:Nat->St->Hp->Prop) (h0:Pv 0 σ H) (hl: ∀i σ H,i<=xs.length->Pv i σ H->bE K H a xs)
  (hs: ∀i x σ H T,xs[i]? =some x->Pv i σ H->H T=none->g (.ref T) σ (upd H T (.tup [.int i,x])) fun σ2 H2=>tb { D with nx:=Pv (i+1),ct:=Pv (i+1),bk:=D.nx } σ2 H2) (hd: ∀σ H,Pv xs.length σ H->D.nx σ H):
  ∃W:Nat->Nat->St->Hp->Prop,(∃m,W 0 m σ H)/\ ∀i m σ H,W i m σ H->
   ((Es K a).stop i H/\D.nx σ H)\/((Es K a).go i H/\ ∃N:St->Hp->Prop,(∀σ' H',N σ' H'-> ∃m',m'<m/\W (i+1) m' σ' H')/\ ∀x H',(Es K a).DT i H x H'->g x σ H' fun σ2 H2=>tb { D with nx:=N,ct:=N,bk:=D.nx } σ2 H2):=by
 walk_at"h"
 rintro i m σ H ⟨rfl,hi,p⟩
 have hq:=hl i σ H hi p
 by_cases cE:i<xs.length
 ·refine .inr ⟨⟨xs,xs[i],hq,by simp[cE]⟩,Pv (i+1),fun σ' H' p'=>⟨xs.length - (i+1),by lia,rfl,cE,p'⟩,fun x H' y=>?_⟩
  obtain ⟨T,z,hz,rfl,hn,rfl⟩:=y
  exact hs i z σ _ T (hz xs hq) p hn
 ·have e:i=xs.length:=by lia
  subst e
  exact .inl ⟨⟨xs,hq,rfl⟩,hd σ H p⟩
theorem Ci {K:PySem.W.Frag} {a:Addr} {xs:List V} {g:TG} {tb:TS} {D:Ends} {σ:St} {H:Hp} (Pv:Nat->St->Hp->Prop) (h0:Pv 0 σ H) (hl: ∀i σ H,i<=xs.length->Pv i σ H->aZ K H a xs)
  (hs: ∀i x σ H T,xs[i]? =some x->Pv i σ H->H T=none->g (.ref T) σ (upd H T (.tup [.int i,x])) fun σ2 H2=>tb { D with nx:=Pv (i+1),ct:=Pv (i+1),bk:=D.nx } σ2 H2) (hd: ∀σ H,Pv xs.length σ H->D.nx σ H):
  ∃W:Nat->Nat->St->Hp->Prop,(∃m,W 0 m σ H)/\ ∀i m σ H,W i m σ H->
   ((Cg K a).stop i H/\D.nx σ H)\/((Cg K a).go i H/\ ∃N:St->Hp->Prop,(∀σ' H',N σ' H'-> ∃m',m'<m/\W (i+1) m' σ' H')/\ ∀x H',(Cg K a).DT i H x H'->g x σ H' fun σ2 H2=>tb { D with nx:=N,ct:=N,bk:=D.nx } σ2 H2):=by
 walk_at"h"
 rintro i m σ H ⟨rfl,hi,p⟩
 have hq:=hl i σ H hi p
 by_cases cE:i<xs.length
 ·refine .inr ⟨⟨xs,xs[i],hq,by simp[cE]⟩,Pv (i+1),fun σ' H' p'=>⟨xs.length - (i+1),by lia,rfl,cE,p'⟩,fun x H' y=>?_⟩
  obtain ⟨T,z,hz,rfl,hn,rfl⟩:=y
  exact hs i z σ _ T (hz xs hq) p hn
 ·have e:i=xs.length:=by lia
  subst e
  exact .inl ⟨⟨xs,hq,rfl⟩,hd σ H p⟩
theorem Cj {l:List Nat} {σc:St} {g:TG} {tc:TT} {te:TE} {Q:VK} {H1:Hp} (Pv:Nat->List V->Hp->Prop) (hn:l.length<sizeLine) (h0:Pv 0 [] H1)
  (hs: ∀(i c:Nat) (acc:List V) (H:Hp) (T:Addr) (Nx:List V->Hp->Prop),l[i]? =some c->acc.length<=i->Pv i acc H->H T=none->(∀b7 H',b7.length<=i+1->Pv (i+1) b7 H'->Nx b7 H')->
   g (.ref T) σc (upd H T (.tup [.int i, .str (S [c])])) fun σ2 H2=>Wk σc σ2/\tc σ2 H2 fun b H3=>if b=true then te σ2 H3 fun v H4=>Nx (acc++[v]) H4 else Nx acc H3)
  (hd: ∀acc H D,acc.length<=l.length->Pv l.length acc H->H D=none->Q (.ref D) (upd H D (.lst acc))):kL (N7 l) σc g tc te Q H1:=by
 refine ⟨fun i m acc H=>m=l.length - i/\i<=l.length/\acc.length<=i/\Pv i acc H,⟨l.length,by simp,Qaa _,Sq _,h0⟩,?_⟩
 rintro i m acc H ⟨rfl,hi,hl,p⟩
 refine ⟨by lia,?_⟩
 by_cases cE:i<l.length
 ·refine .inr ⟨cE,fun x H' y=>?_⟩
  obtain ⟨T,c,hc,rfl,hT,rfl⟩:=y
  exact hs i c acc _ T (fun b7 H'=> ∃m',m'<l.length - i/\(m'=l.length - (i+1)/\i+1<=l.length/\b7.length<=i+1/\Pv (i+1) b7 H')) hc hl p hT fun b7 H' h1 h2=>⟨l.length - (i+1),by lia,rfl,cE,h1,h2⟩
 ·have e:i=l.length:=by lia
  subst e
  exact .inl ⟨Sq _,fun D hD=>hd acc H D hl p hD⟩
section
variable {X:Cx}
def H_ (K:PySem.W.Frag):V->List V->Hp->VK->Prop:=fun x vs H Q=> ∃(p:Addr) (l:List Nat) (c:Nat),x= .ref p/\vs=[.str (S [c])]/\H p=some (.lst (bW l))/\c∈l/\Q (.int (l.idxOf c:Nat)) H
theorem rV (K:PySem.W.Frag) (h:X.K=K):B7 X "list.index" (H_ K):=by
 subst h
 walk_at"G"
 obtain ⟨p,l,c,rfl,rfl,hH,hc,q⟩:=h
 cases rx
 obtain ⟨u,rfl,t',rfl⟩:=vals1 rv
 walk_at"z"
 have hz:sizeLine<2 ^ 62:=by decide
 have hj:l.idxOf c<l.length:=Qad hc
 have hlen:its.length=l.length:=by rw[<-hl];unfold bW;rw[V6]
 have N8:l.length<=sizeLine:=by rw[<-hlen, <-hl];exact z
 have N9: ∀m (hm:m<its.toArray.size) (Ck:m<l.length),vO (.str (S [c])) its.toArray[m]=decide (l[m]=c):=fun m hm Ck=>by
  have h1:(bW l)[m]? =some (V.str (S [l[m]])):=by unfold bW;rw[Qaj,LJ Ck];rfl
  obtain ⟨u,hu,ru⟩:=r.get h1
  have e1:its.toArray[m]=u:=by
   rw[List.getElem_toArray]
   exact Qan ((LJ _).symm.trans hu)
  rw[e1,yy ru rfl]
  show decide (S [l[m]]=S [c])=_
  refine decide_eq_decide.mpr ⟨fun z=>?_,fun z=>by rw[z]⟩
  have:=congrArg (fun x:Str=>x.cps.toList) z
  simpa [S]using this
 refine call_meets F.slot_list_index ⟨_,e,rfl⟩ F.entry_list_index (F.args_list_index_2 _ _) (SeqAt.list_indexAt p its.toArray n none #[] (.str (S [c]) t') (vO (.str (S [c]))) (l.idxOf c) (by rw[XR];lia) (by lia) ?_ ?_) ⟨e,?_,?_⟩
 ·rw[N9 _ _ hj];exact decide_eq_true (Qbu hj)
 ·intro m hm cE
  rw[N9 m hm (by lia)]
  exact decide_eq_false fun z=>by
   have:=List.not_of_lt_findIdx (p:=fun x=>x==c) cE
   rw[z]at this
   simp at this
 ·intro w hw
  have fs:(bW l).all jX=true:=by
   rw[Qcd];intro v hv
   obtain ⟨d,_,rfl⟩:=Qav.mp hv
   rfl
  exact gR (x:= .str (S [c])) (show RelV (.str (S [c])) _ from ⟨t',rfl⟩) rfl r fs w (by simpa using hw)
 ·exact ⟨.int (l.idxOf c:Nat),H,I.tok _,⟨_,rfl⟩,q⟩
def L9 (K:PySem.W.Frag):List V->Hp->VK->Prop:=fun xs H Q=> ∃p ys,xs=[.ref p]/\((aZ K H p ys/\ ∀l,H l=none->Q (.ref l) (upd H l (.tup ys)))\/(bE K H p ys/\Q (.ref p) H))
theorem eB (K:PySem.W.Frag) (h:X.K=K):cQ X (.type "tuple") (L9 K):=by subst h;exact qR
end
theorem fT {K:PySem.W.Frag} {a:Addr} {xs:List V} {σc:St} {g:TG} {tc:TT} {te:TE} {Q:VK} {H1:Hp} (Pv:Nat->List V->Hp->Prop) (hn:xs.length<sizeLine) (hl: ∀i acc H,Pv i acc H->bE K H a xs) (h0:Pv 0 [] H1)
  (hs: ∀(i:Nat) (x:V) (acc:List V) (H:Hp) (Nx:List V->Hp->Prop),i<xs.length->xs[i]? =some x->acc.length<=i->Pv i acc H->(∀b7 H',b7.length<=i+1->Pv (i+1) b7 H'->Nx b7 H')->
   g x σc H fun σ2 H2=>Wk σc σ2/\tc σ2 H2 fun b H3=>if b=true then te σ2 H3 fun v H4=>Nx (acc++[v]) H4 else Nx acc H3)
  (hd: ∀acc H D,acc.length<=xs.length->Pv xs.length acc H->H D=none->Q (.ref D) (upd H D (.lst acc))):kL (TZ K a) σc g tc te Q H1:=
 kM (xs:=fun i x=>xs[i]? =some x) Pv hn (fun i acc H h p=>⟨xs,xs[i],hl i acc H p,by simp[h]⟩) (fun acc H p=>⟨xs,hl _ acc H p,Sq _⟩) (fun i acc H x H' h p y=>⟨y.1,y.2 xs (hl i acc H p)⟩) h0 hs hd
theorem AB (l a b:Nat):B8 (.str (S [l])) [.str (S [a]), .str (S [b])]=(decide (l=a)||decide (l=b)):=by
 have key: ∀c:Nat,G9 (.str (S [c])) (.str (S [l]))=decide (l=c):=fun c=>by
  show decide (S [c]=S [l])=_
  refine decide_eq_decide.mpr ⟨fun z=>?_,fun z=>by rw[z]⟩
  have:=congrArg (fun x:Str=>x.cps.toList) z
  simpa [S,eq_comm]using this
 unfold B8
 rw[Qek,Qek,List.any_nil,key,key,Qd0]
theorem ue (e:Nat) (l:List Nat):B8 (.str (S [e])) (bW l)=decide (e∈l):=by
 have key: ∀c:Nat,G9 (.str (S [c])) (.str (S [e]))=decide (e=c):=fun c=>by
  show decide (S [c]=S [e])=_
  refine decide_eq_decide.mpr ⟨fun z=>?_,fun z=>by rw[z]⟩
  have:=congrArg (fun x:Str=>x.cps.toList) z
  simpa [S,eq_comm]using this
 unfold B8 bW
 induction l with
 | nil=>rfl
 | cons c l ih=>
  rw[Qa7,Qek,ih,key]
  by_cases z:e=c<;>simp[z]
theorem Et (l:List Nat):(bW l).all jX=true:=by
 rw[Qcd];intro v hv
 obtain ⟨d,_,rfl⟩:=Qav.mp hv
 rfl
def aR (H H':Hp):Prop:= ∀c xs,H c=some (.tup xs)->H' c=some (.tup xs)
theorem aR.trans {H H1 H2:Hp} (a:aR H H1) (b:aR H1 H2):aR H H2:=fun c xs h=>b c xs (a c xs h)
theorem aR.of {H H':Hp} (s:ao H H'):aR H H':=fun c xs h=>s c _ h
theorem aR.mf {H:Hp} {p:Addr} {ys:List V} {o:HO} (h:H p=some (.lst ys)):aR H (upd H p o):=fun c xs e=>by
 rw[az (fun z=>by rw[z,h]at e;cases e)];exact e
theorem aR.cZ {H:Hp} {p:Addr} {o:HO} (h:H p=none):aR H (upd H p o):=fun c xs e=>by
 rw[az (fun z=>by rw[z,h]at e;cases e)];exact e
section
variable {prog:Program} {w:World} {A:Around} {E:Value->Shared->Prop} {s:Shared}
def ki (h:Heap) (v:Value) (n:Int×Int):Prop:= ∃x ox t1 t2 m,v= .ref x/\h.get? x=some ox/\ox.cls= .type "tuple"/\ox.data= .seq #[.int n.1 t1, .int n.2 t2] m
noncomputable def b8 (x y:Int×Int):Bool:=decide (x.1<y.1)||(decide (x.1=y.1)&&decide (x.2<y.2))
theorem ki.keep {h h':Heap} {v:Value} {n:Int×Int} (p:ki h v n) (k: ∀b o,h.get? b=some o->h'.get? b=some o):ki h' v n:=by
 obtain ⟨x,ox,t1,t2,m,e1,e2,r⟩:=p
 exact ⟨x,ox,t1,t2,m,e1,k _ _ e2,r⟩
theorem Ia {u v:Value} {a c:Int×Int} {Q:Bool->Shared->Prop} (hx:ki s.heap u a) (hy:ki s.heap v c) (q:Q (b8 a c) s):wpAny (model prog w) A (keyLt' (tuples' true) u v) Q E s:=by
 obtain ⟨x,ox,t1,t2,n,rfl,gx,_,dx⟩:=hx
 obtain ⟨y,oy,t3,t4,k,rfl,gy,_,dy⟩:=hy
 refine PySem.W.kat_lt gx dx gy dy ?_
 refine Qfj (wpAny_eqBool_int ?_)
 unfold b8 at q
 by_cases h:a.1=c.1
 ·rw[show (a.1==c.1)=true by simp[h]]
  refine Qfp (Qfj (wpAny_eqBool_int ?_))
  by_cases h2:a.2=c.2
  ·rw[show (a.2==c.2)=true by simp[h2]]
   refine Qfp (PySem.W.kat_nil ?_)
   simpa [h,h2]using q
  ·rw[show (a.2==c.2)=false by simp[h2]]
   refine PySem.W.kat_no (PySem.W.kat_one _ _ (lt_int ?_))
   show Q (decide (a.2<c.2)) s
   simpa [h]using q
 ·rw[show (a.1==c.1)=false by simp[h]]
  refine PySem.W.kat_no ?_
  show wpAny (model prog w) A (keyLt' oneType' _ _) Q _ s
  refine PySem.W.kat_lt_int ?_
  simpa [h]using q
theorem wg {cmp:Nat->Nat->(Bool->Shared->Prop)->Shared->Prop} {Q:Nat->Shared->Prop} {p:Array Nat} {s:Shared}: ∀f n,(∀k,n<=k->k<n+f-> ∀C:Bool->Shared->Prop,C false s->cmp (p.getD k 0) (p.getD (k - 1) 0) C s)->Q (n+f) s->(PySem.W.kas_asc p f n).kasWp cmp Q s
 | 0,n,_,q=>q
 | f+1,n,h,q=>by
  show cmp (p.getD n 0) (p.getD (n - 1) 0) (fun b s'=>(if b=true then PySem.W.KasT.ret n else PySem.W.kas_asc p f (n+1)).kasWp cmp Q s') s
  refine h n (Sq _) (by lia) _ ?_
  show (if false=true then PySem.W.KasT.ret n else PySem.W.kas_asc p f (n+1)).kasWp cmp Q s
  rw[if_neg (by decide)]
  exact wg f (n+1) (fun k h1 h2=>h k (by lia) (by lia)) (by rwa [show n+1+f=n+(f+1) by lia])
def bR (h:Heap):List Value->List (Int×Int)->Prop
 | [],[]=>True
 | v::vs,n::ns=>ki h v n/\bR h vs ns
 | _,_=>False
theorem bR.keep {h h':Heap} (k: ∀b o,h.get? b=some o->h'.get? b=some o): ∀{vs:List Value} {ns:List (Int×Int)},bR h vs ns->bR h' vs ns
 | [],[],_=>trivial
 | _::_,_::_,⟨a,b⟩=>⟨a.keep k,bR.keep k b⟩
theorem bR.get {h:Heap}: ∀{vs:List Value} {ns:List (Int×Int)} {i:Nat},bR h vs ns->(hi:i<vs.length)-> ∃n,ns[i]? =some n/\ki h (vs.getD i Value.none) n
 | [],[],i,_,hi=>absurd hi (Qco _)
 | v::vs,n::ns,0,⟨a,_⟩,_=>⟨n,rfl,a⟩
 | v::vs,n::ns,i+1,⟨_,b⟩,hi=>by
  obtain ⟨m,e,p⟩:=bR.get (i:=i) b (Nat.lt_of_succ_lt_succ hi)
  exact ⟨m,e,p⟩
theorem bR.jR {h:Heap}: ∀{vs:List Value} {ns:List (Int×Int)},bR h vs ns-> ∃fs,PySem.W.KatTups h vs fs/\fs.length=vs.length/\ ∀v∈fs, ∃i t,v=Value.int i t
 | [],[],_=>⟨[],trivial,rfl,fun _ h=>absurd h Qae⟩
 | v::vs,n::ns,⟨⟨x,ox,t1,t2,m,e1,e2,e3,e4⟩,b⟩=>by
  obtain ⟨fs,k1,k2,k3⟩:=bR.jR b
  refine ⟨.int n.1 t1::fs,⟨⟨x,ox,_,m,e1,e2,e3,e4,rfl⟩,k1⟩,by simp[k2],fun u hu=>?_⟩
  rcases Qah.mp hu with z | z
  ·exact ⟨_,_,z⟩
  ·exact k3 u z
theorem uf: ∀l:List Value,(l.zip l).map (fun x=>x.2)=l
 | []=>rfl
 | v::l=>by rw[List.zip_cons_cons,Qa7,uf l]
theorem bR.ne {h:Heap} {vs:List Value} {ns:List (Int×Int)} (p:bR h vs ns) {a:Addr} (ha:h.objs.size<=a): ∀v∈vs,v≠ .ref a:=fun v hv z=>by
 obtain ⟨i,hi,e⟩:=List.mem_iff_getElem.mp hv
 obtain ⟨n,_,x,ox,t1,t2,m,e1,e2,_⟩:=p.get (i:=i) hi
 have e3:vs.getD i Value.none=v:=by rw[XO,LJ hi,e];rfl
 rw[e3,z]at e1
 cases e1
 exact absurd (Qap (Qag e2) ha) (Qbd _)
end
section
variable {X:Cx}
def ug (K:PySem.W.Frag) (H:Hp):List V->List (Int×Int)->Prop
 | [],[]=>True
 | v::vs,n::ns=>(∃t,v= .ref t/\bE K H t [.int n.1, .int n.2])/\ug K H vs ns
 | _,_=>False
theorem ug.at {pins:List (Addr×Obj)} {σ:St} {H:Hp} {s:Shared} (I:Inv X pins σ H s): ∀{vs:List V} {ns:List (Int×Int)} {us:List Value},ug X.K H vs ns->Vals vs us->bR s.heap us ns
 | [],[],_,_, .nil=>trivial
 | v::vs,n::ns,_,⟨⟨t,e,h⟩,b⟩, .cons r rs=>by
  subst e
  cases r
  obtain ⟨its,rv,p,_⟩:=I.tuple h
  obtain ⟨u1,u2,e1,⟨t1,r1⟩,⟨t2,r2⟩⟩:=vals2 rv
  subst e1 r1 r2
  obtain ⟨o,ho,hc,m,hd⟩:=p
  exact ⟨⟨t,o,t1,t2,m,rfl,ho,hc,hd⟩,ug.at I b rs⟩
end
section
variable {prog:Program} {w:World} {A:Around} {E:Value->Shared->Prop} {s:Shared}
noncomputable def bg:List Int->List Int->Bool
 | [],[]=>false
 | [],_::_=>true
 | _::_,[]=>false
 | a::r,b::t=>if a=b then bg r t else decide (a<b)
theorem o7: ∀{us:List Value} {ns:List Int},IntsAre us ns->us.length=ns.length
 | _,_, .nil=>rfl
 | _,_, .cons _ _ h=>congrArg (· +1) (o7 h)
theorem rW: ∀(f n r:Nat),r<=1->minRun' f n r<=n+r
 | 0,n,r,_=>Sq _
 | f+1,n,r,h=>by
  rw[minRun'_succ]
  split
  ·exact Sq _
  ·have:=rW f (n / 2) (max r (n%2)) (by lia)
   lia
theorem Eu {κ:SortKind} {it:Array Keyed} {n:Nat} {Q:Unit->SortSt->Shared->Prop} (h2:2<=n) (h: ∀k,1<=k->k<n-> ∀C:Bool->Shared->Prop,C false s->PySem.W.kas_cmp prog w A κ it k (k - 1) C s)
  (q: ∀iO:SortSt,arrOf iO=(List.toArray (List.range n)).map (PySem.W.kas_item it)->failedOf iO=none->Q () iO s):PySem.W.kasC (model prog w) A E sortRuns' Q (PySem.W.kas_st κ it (List.toArray (List.range n))) s:=by
 obtain ⟨r,rfl⟩: ∃r,n=r+2:=⟨n - 2,by lia⟩
 have get: ∀k,k<r+2->(List.toArray (List.range (r+2))).getD k 0=k:=fun k hk=>by simp[Array.getD,hk]
 have Wj:(List.toArray (List.range (r+2))).size=r+2:=by simp
 rw[sortRuns'_eq]
 refine Qcq (Qfk ?_);dsimp only
 have hsz:(arrOf (PySem.W.kas_st κ it (List.toArray (List.range (r+2))))).size=r+2:=by
  show ((List.toArray (List.range (r+2))).map (PySem.W.kas_item it)).size=_;rw[Array.size_map,Wj]
 have XY:=rW (r+2) (r+2) 0 (by lia)
 simp only[hsz]
 generalize minRun' (r+2) (r+2) 0=mr at XY
 refine Qcq (PySem.W.kasC_range (show PySem.W.kasC _ _ _ (forIn (0::1::List.range' 2 r) _ _) _ _ _ from Qfb ?_))
 dsimp only;rw[if_neg (by lia)]
 simp only[Nat.sub_zero,Qeo]
 have hc:(PySem.W.kas_count (r+2) (List.toArray (List.range (r+2)))).kasWp (PySem.W.kas_cmp prog w A κ it) (fun x s'=>x=(r+2,List.toArray (List.range (r+2)))/\s'=s) s:=by
  unfold PySem.W.kas_count
  rw[PySem.W.KasT.kasWp_bind]
  refine wg (r+2 - 1) 1 (fun k h1 h3 C c=>?_) ?_
  ·rw[get k (by lia),get (k - 1) (by lia)]
   exact h k h1 (by lia) C c
  ·have e:1+(r+2 - 1)=r+2:=by lia
   rw[e,if_pos (by simp)]
   exact ⟨rfl,rfl⟩
 refine Qcq (PySem.W.kas_count_ (by lia) (by rw[Wj];exact Sq _) (fun m p' s' N_ Ck hp hg=>?_) hc)
 obtain ⟨e1,rfl⟩:=hg
 cases e1
 dsimp only;rw[if_neg (by lia)]
 refine Qcq (Qfk ?_);rw[show (pendingOf (PySem.W.kas_st κ it (List.toArray (List.range (r+2))))).back? =none from rfl]
 dsimp only;refine Qcq (PySem.W.kasC_modify (Qee (show PySem.W.kasC _ _ _ (forIn (1::List.range' 2 r) _ _) _ _ _ from Qfb ?_)))
 dsimp only;rw[if_pos (Sq _)]
 refine Qee ?_;dsimp only
 refine Qcq (PySem.W.kasC_range (show PySem.W.kasC _ _ _ (forIn (0::1::List.range' 2 r) _ _) _ _ _ from Qfb (Qcq (Qfk ?_))))
 rw[if_pos (show (pendingOf (setPending (PySem.W.kas_st κ it (List.toArray (List.range (r+2)))) ((pendingOf (PySem.W.kas_st κ it (List.toArray (List.range (r+2))))).push (0,r+2,0)))).size<=1 from Sq 1)]
 refine Qee ?_;dsimp only
 exact Qee (q _ rfl rfl)
end
end L2
namespace HT
open PySem PySem.Spec PyProof.Rows
end HT
namespace L2
open PySem PySem.Spec PyProof.Rows
theorem Km {P:Program} {w:World} {k:Key} {u:Value} (r:RelV (kV k) u):(cB P w).is k u=true:=by
 cases k with
 | inl i=>obtain ⟨t,e⟩:=(show ∃t,u=Value.int i t from r);subst e;exact vF P w i t
 | inr x=>obtain ⟨t,e⟩:=(show ∃t,u=Value.str x t from r);subst e;exact vG P w x t
theorem rX {P:Program} {w:World}: ∀{ks:List Key} {us:List Value},Vals (ks.map kV) us->ItemsAre (cB P w) ks us
 | [],_,r=>by rw[List.map_nil]at r;cases r;exact .nil
 | k::ks,_,r=>by
  rw[Qa7]at r
  cases r with
  | cons h t=>exact .cons (Km h) (rX t)
section
variable {P:Program} {w:World} {H:Hp} {h:Heap} {a:Addr}
theorem L_ {ks:List Key} (ok:lQ P w H h) (e:H a=some (.tup (ks.map kV))):(tupleKind (cB P w)).is h ks a:=by
 obtain ⟨_,its,r,o,h1,h2,n,h3⟩:=(show cH P w H h a (.tup (ks.map kV)) from ok a _ e)
 exact ⟨o,its.toArray,n,h1,h2,h3,by simpa using rX r⟩
end
def QW (i:Expr):Prop:= ∀ov iv,subscripted i false ov iv=operate [ov,iv] (getItem ov iv)
theorem Ib {prog:Program} {w:World} {A:Around} {E:Value->Shared->Prop} {s:Shared} {env:Env} {value slice:Expr} {pos:Pos} {T id:String} {Q:Value->Shared->Prop}
  (hl:typeLookup (.type T) "__getitem__"=pure (some (.builtin id))) (hs:QW slice)
  (h:wpAny (model prog w) A (eval value env) (fun o s₁=>wpAny (model prog w) A (eval slice env) (fun i s₂=>s₂.TypeIs o T/\wpAny (model prog w) A (getItem o i) Q E s₂) E s₁) E s):
  wpAny (model prog w) A (eval (.Subscript value slice pos) env) Q E s:=by
 refine Subscript_ (wpAny_mono h (fun o s₁ h₁=>wpAny_mono h₁ (fun i s₂ h₂=>?_) fun _ _ x=>x) fun _ _ x=>x)
 obtain ⟨hT,h₂⟩:=h₂
 unfold subscriptTail
 walk_at"W"
 rw[getitemInPython_of_ne hT.not_modules]
 refine wpAny_bind (wpAny_specialOf hT hl ?_)
 have fin:wpAny (model prog w) A (subscripted slice false o i) (fun r s₃=>wpAny (model prog w) A (letTemporaryGo value o r >>= fun _=>pure r) Q E s₃) E s₂:=by
  rw[hs o i]
  exact wpAny_operating (wpAny_mono h₂ (fun r s₃ h₃=>wpAny_bind (wpAny_letTemporaryGo (wpAny_pure h₃))) fun _ _ x=>x)
 first
  | exact wpAny_pure (wpAny_bind fin)
  | exact wpAny_bind (wpAny_pure (wpAny_bind fin))
  | exact wpAny_bind fin
end L2
namespace L2.F2
open PySem PySem.Spec PyProof.Rows
end L2.F2
namespace L2
open PySem PySem.Spec PyProof.Rows
noncomputable def i8 (a b c d:Int):Bool:=if a=c then decide (b<d) else decide (a<c)
section
variable {prog:Program} {w:World} {A:Around} {E:Value->Shared->Prop} {s:Shared}
theorem Ic {p q:Addr} {ox oy:Obj} {mx my:Nat} {a b c d:Int} {t1 t2 t3 t4:Tok} {P:PySem.Fin->Shared->Prop} (Ss:s.heap.get? p=some ox) (UM:ox.data= .seq #[.int a t1, .int b t2] mx)
  (QX:s.heap.get? q=some oy) (AD:oy.cls= .type "tuple") (UN:oy.data= .seq #[.int c t3, .int d t4] my) (h:P (.done (.ret (.bool (i8 a b c d)))) s):
  wpAny (model prog w) A (Builtin.«tuple.__lt__» ⟨[.ref p, .ref q],[]⟩) P E s:=by
 have hT:s.TypeIs (.ref q) "tuple":=⟨oy,QX,AD⟩
 show wpAny _ _ (isInstance (.ref q) (.type "tuple") >>= fun b=>_) _ _ s
 refine wpAny_bind (wpAny_isInstance (b:=true) hT isSubtype_tuple_tuple ?_)
 walk_at"s"
 refine wpAny_bind (wpAny_tupleItemsOf Ss UM ?_)
 refine wpAny_bind (wpAny_tupleItemsOf QX UN ?_)
 walk_at"W"
 show wpAny _ _ (forIn [(Value.int a t1,Value.int c t3),(Value.int b t2,Value.int d t4)] _ _) _ _ _
 rw[Qd4]
 refine wpAny_bind (wpAny_bind (wpAny_eqBool_int ?_))
 unfold i8 at h
 by_cases e:a=c
 ·rw[if_pos e]at h
  rw[show (a==c)=true by simp[e]]
  walk_at"s"
  walk_at"1"
  dsimp only
  rw[Qd4]
  refine wpAny_bind (wpAny_bind (wpAny_eqBool_int ?_))
  by_cases e2:b=d
  ·rw[show (b==d)=true by simp[e2]]
   walk_at"s"
   walk_at"1"
   dsimp only
   rw[List.forIn_nil]
   walk_at"1"
   dsimp only
   walk_at"1"
   rw[decide_eq_false (by lia)]at h
   exact h
  ·rw[show (b==d)=false by simp[e2]]
   simp only[Qec,if_true]
   walk_at"5"
   refine wpAny_bind (lt_int ?_)
   walk_at"n"
   walk_at"1"
   dsimp only
   walk_at"1"
   dsimp only
   exact wpAny_pure h
 ·rw[if_neg e]at h
  rw[show (a==c)=false by simp[e]]
  simp only[Qec,if_true]
  walk_at"5"
  refine wpAny_bind (lt_int ?_)
  walk_at"n"
  walk_at"1"
  dsimp only
  walk_at"1"
  dsimp only
  exact wpAny_pure h
end
section
variable {X:Cx}
def UO (K:PySem.W.Frag):R2:=fun x y H Q=> ∃p q a b c d,x= .ref p/\y= .ref q/\bE K H p [.int a, .int b]/\bE K H q [.int c, .int d]/\Q (.bl (i8 a b c d)) H
theorem wj {a b:Int} {us:List Value} (r:Vals [.int a, .int b] us): ∃t u,us=[.int a t, .int b u]:=by
 cases r with
 | cons r1 r=>
  cases r with
  | cons r2 r=>
   cases r
   obtain ⟨t,rfl⟩:=r1
   obtain ⟨u,rfl⟩:=r2
   exact ⟨t,u,rfl⟩
theorem uh {k:Nat} (K:PySem.W.Frag) (h:X.K=K) (hr:ez k X.A):gQ X (compareOp .Lt) (UO K):=by
 subst h
 walk_at"a"
 obtain ⟨p,q,a,b,c,d,rfl,rfl,hp,hq,r⟩:=h
 cases rx
 cases ry
 obtain ⟨xs,XZ,px,_⟩:=I.tuple hp
 obtain ⟨ys,X0,py,_⟩:=I.tuple hq
 obtain ⟨ox,Ss,UG,mx,UM⟩:=px
 obtain ⟨oy,QX,AD,my,UN⟩:=py
 obtain ⟨t1,t2,rfl⟩:=wj XZ
 obtain ⟨t3,t4,rfl⟩:=wj X0
 have hu:=hr.units
 show wpAny _ _ (richCompare .Lt (.ref p) (.ref q)) _ _ s
 have hT:s.TypeIs (.ref p) "tuple":=⟨ox,Ss,UG⟩
 refine wpAny_richCompare_same_room hT ⟨oy,QX,AD⟩ PySem.F.slot_tuple_lt (wpAny_call_entry PySem.F.slot_tuple_lt hT PySem.F.entry_tuple_lt (Ic Ss UM QX AD UN ⟨_,rfl,(fun z=>nomatch z),?_⟩) (PySem.F.args_tuple_lt_2 _ _)) (by lia)
 exact ⟨.bl _,H,I,rfl,r⟩
end
noncomputable def dd {α:Type} [DecidableEq α]:List α->List α->List α
 | σ,[]=>σ
 | σ,x::l=>dd (if x∈σ then σ else σ++[x]) l
theorem ui {α:Type} [DecidableEq α]: ∀(l σ:List α),(dd σ l).length<=σ.length+l.length
 | [],σ=>Sq _
 | x::l,σ=>by
  unfold dd
  have:=ui l (if x∈σ then σ else σ++[x])
  split at this<;>rename_i z
  ·rw[if_pos z,Qar];lia
  ·rw[if_neg z,Qar];rw[V7]at this;simp at this ⊢; lia
theorem Ew {α:Type} [DecidableEq α]: ∀(l σ:List α),(dd σ l).length=σ.length+l.length↔l.Nodup/\ ∀x∈l,x∉σ
 | [],σ=>by simp[dd]
 | x::l,σ=>by
  unfold dd
  by_cases z:x∈σ
  ·rw[if_pos z]
   have:=ui l σ
   rw[Qar]
   exact ⟨fun h=>by lia,fun h=>absurd z (h.2 x XS)⟩
  ·rw[if_neg z,Qar]
   have h1:=Ew l (σ++[x])
   rw[V7,Qex,show σ.length+1+l.length=σ.length+(l.length+1) by lia]at h1
   rw[h1,Qb2]
   constructor
   ·rintro ⟨g1,g2⟩
    refine ⟨⟨fun q=>g2 x q (by simp),g1⟩,fun u hu=>?_⟩
    rcases Qah.mp hu with q | q
    ·rw[q];exact z
    ·exact fun q2=>g2 u q (Qct _ q2)
   ·rintro ⟨⟨g1,g2⟩,g3⟩
    refine ⟨g2,fun u hu q=>?_⟩
    rcases Qaf.mp q with q | q
    ·exact g3 u (kb _ hu) q
    ·rw[V8.mp q]at hu;exact g1 hu
theorem AE {α:Type} [DecidableEq α]: ∀(l σ:List α) (x:α),dd σ (l++[x])=if x∈dd σ l then dd σ l else dd σ l++[x]
 | [],σ,x=>rfl
 | y::l,σ,x=>AE l _ x
section
variable {prog:Program} {w:World} {A:Around} {E:Value->Shared->Prop} {s:Shared}
abbrev o8 (prog:Program) (w:World) (h:Heap) (a:Addr) (l:List Str):Prop:=h.SetOf (strKind prog w) a (fun k=>decide (k∈dd [] l)) (dd [] l).length
theorem o8.frame {h h':Heap} {a:Addr} {l:List Str} (x:o8 prog w h a l) (k: ∀o,h.get? a=some o->h'.get? a=some o):o8 prog w h' a l:=by
 obtain ⟨o,es,ep,t,ho,r⟩:=x
 exact ⟨o,es,ep,t,k o ho,r⟩
theorem Ex {R:Result->Shared->Prop} {I S:Addr} {fp wr:List Addr} {G:Array GenState->Array GenState->Prop} {P:Nat->Value->Prop} {St:Nat->Shared->Prop} {l:List Str}
  (W:WalksS prog w A.in1 I fp wr G l.length P St) (hS:S∉fp) (hP: ∀i v,P i v-> ∃x t,l[i]? =some x/\v= .str x t) (hb:l.length+1<scanBound):
  ∀(k i:Nat) (s:Shared),l.length - i=k->i<=l.length->St i s->o8 prog w s.heap S (l.take i)->(∀s',Moved (S::wr) G s s'->o8 prog w s'.heap S l->R (.ok (.ret .none)) s')->
   codeAny (model prog w) A (.builtin "set.update.loop" ⟨[.ref S, .ref I],[]⟩) R s:=by
 have QY:S∉wr:=fun h=>hS (W.sub _ h)
 have wm: ∀b∈wr,b∈S::wr:=fun b g=>kb _ g
 intro k
 induction k with
 | zero=>
  intro i s hk hi nC i9 hR
  obtain rfl:i=l.length:=by lia
  rw[Qbb]at i9
  refine codeAny_builtin PyProof.Rows.F.entry_set_update_loop ?_
  rw[Around.under_plainId Qdb _]
  walk_at"P"
  refine wpAny_bind (W.done s _ _ nC fun s' hm=>?_)
  exact wpAny_pure (hR s' (hm.mono wm) (i9.frame fun o ho=>hm.heap S o QY ho))
 | succ k ih=>
  intro i s hk hi nC i9 hR
  have cE:i<l.length:=by lia
  refine codeAny_builtin PyProof.Rows.F.entry_set_update_loop ?_
  rw[Around.under_plainId Qdb _]
  walk_at"P"
  refine wpAny_bind (W.item i s _ _ cE nC fun v s' hp Ma hm=>?_)
  obtain ⟨x,t,hx,rfl⟩:=hP i v hp
  have Ey:o8 prog w s'.heap S (l.take i):=i9.frame fun o ho=>hm.heap S o QY ho
  show wpAny _ A.in1 (holding [Value.str x t] (setAdd S (.str x t)) >>= fun b=>_) _ _ s'
  refine wpAny_bind (wpAny_holding ?_)
  unfold setAdd
  refine wpAny_holding (wpAny_bind ((strKind prog w).pyHash (k:=x) (by simp[PySem.strKind,Value.isStrOf]) ?_))
  have hle:=ui (l.take i) ([]:List Str)
  rw[Qak]at hle
  refine wpAny_setAddHashed_of (knd:=strKind prog w) (s:={ s' with toks:=s'.toks+1 }) (k:=x) (by simp[PySem.strKind,Value.isStrOf]) rfl Ey (by simp at hle;lia) fun h' Ez QZ=>?_
  have Q0:o8 prog w h' S (l.take (i+1)):=by
   have e1:l.take (i+1)=l.take i++[x]:=by rw[Qdp,hx];rfl
   unfold o8
   rw[e1,AE]
   refine PyProof.Rows.SetOf_congr QZ (fun y=>?_) ?_
   ·by_cases z:x∈dd [] (l.take i)
    ·rw[if_pos z]
     by_cases u:y=x
     ·rw[u,decide_eq_true z,Bool.true_or]
     ·rw[decide_eq_false u,Qd0]
    ·rw[if_neg z]
     by_cases u:y=x
     ·rw[u,decide_eq_true (show x=x from rfl),Bool.or_true,decide_eq_true (by simp)]
     ·rw[decide_eq_false u,Qd0]
      exact decide_eq_decide.mpr ⟨fun q=>Qct _ q,fun q=>(Qaf.mp q).resolve_right fun q=>u (V8.mp q)⟩
   ·by_cases z:x∈dd [] (l.take i)
    ·rw[if_pos z,if_pos (decide_eq_true z)]
    ·rw[if_neg z,if_neg (by simpa using z),V7];rfl
  refine wpAny_pure ⟨plainId_quiet Qdb _,ih (i+1) _ (by lia) cE (W.frame _ s' _ _ Ma (Qb7 _) fun b g o e=>?_) Q0 fun HB Mb Mc=>?_⟩
  ·rw[Ez.2 b fun z:b=S=>hS (z▸g)];exact e
  ·refine hR HB (Moved.trans W.gtrans ((hm.mono wm).then_heap (Qb7 _) fun b o g e=>?_) Mb) Mc
   rw[Ez.2 b fun z:b=S=>g (z▸XS)];exact e
theorem rY: ∀{vs:List Value} {xs:List Str},StrsAre vs xs-> ∀(i:Nat) (v:Value),vs[i]? =some v-> ∃x t,xs[i]? =some x/\v= .str x t
 | _,_, .nil,i,v,h=>by simp at h
 | _,_, .cons y t r,0,v,h=>by simp at h;exact ⟨y,t,rfl,h.symm⟩
 | _,_, .cons y t r,i+1,v,h=>by
  obtain ⟨x,u,e1,e2⟩:=rY r i v (by simpa using h)
  exact ⟨x,u,by simpa using e1,e2⟩
noncomputable def uj (led:Bool):Obj:={ cls:= .type "set",dict:=none,data:= .set #[] 0 (.fresh 0 0 led) }
theorem EA {R:Result->Shared->Prop} {l S:Addr} {items:Array Value} {xs:List Str} {led:Bool} (hh:A.handled=none) (hS:s.heap.get? S=some (uj led)) (hl:s.heap.IsList l items) (hi:StrsAre items.toList xs) (hb:xs.length+1<scanBound)
  (h: ∀(h':Heap) (tk:Nat),o8 prog w h' S xs->(∀b o,b≠S->b<s.heap.objs.size->s.heap.get? b=some o->h'.get? b=some o)->R (.ok (.ret .none)) { s with heap:=h',toks:=tk }):
  wpAny (model prog w) A.in1 (Builtin.«set.__init__» ⟨[.ref S, .ref l],[]⟩) (fun fin s'=>match fin with | .done f=>R (.ok f) s' | .again c'=>c'.quiet=true/\codeAny (model prog w) A c' R s') (fun e s'=>R (.error e) s') s:=by
 obtain ⟨ol,yS,Kn,nl,Oa⟩:=id hl
 have cE:=Qag yS
 have X1:=Qag hS
 have hT:s.TypeIs (.ref l) "list":=⟨ol,yS,Kn⟩
 have di:l≠S:=fun z=>by rw[z,hS]at yS;cases yS;exact absurd Kn (by unfold uj;simp)
 have z1:=PySem.F.sub_list_set
 have z2:=PySem.F.sub_list_frozenset
 have z3:(Value.type "list"==Value.type "dict")=false:=by decide
 obtain ⟨X2,Wl,Wm,UP⟩:=ol
 simp only at Kn Oa
 subst Kn Oa
 have X3:=yS
 unfold Builtin.«set.__init__» noKeywords Builtin.Frozenset.updateFrom
 generalize X4:pyIter=PI
 unfold uj at hS
 wp_walk
 subst X4
 refine wpAny_pyIter_list hl ?_
 refine wpAny_bind (wpAny_runValue ?_)
 have hlen:items.size=xs.length:=by rw[<-Qde];exact hi.length
 have Md:l≠s.heap.objs.size:=Qaq cE
 have UQ:S∉[s.heap.objs.size,l]:=fun hm=>by
  rcases Qah.mp hm with z | z
  ·exact absurd z (Qaq X1)
  ·exact di (V8.mp z).symm
 have W:=(Walks.list (prog:=prog) (w:=w) (A:=A.in1.in1) (show A.in1.in1.handled=none from hh) s.heap.objs.size l Md items).toS
 rw[hlen]at W
 have hit:(s.heap.push { cls:= .type "list_iterator",data:= .fields #[.ref l, .int 0 0] }).get? s.heap.objs.size=some { cls:= .type "list_iterator",data:= .fields #[.ref l, .int 0 0] }:=Qal _ rfl
 refine Ex (A:=A.in1) (l:=xs) W UQ (fun i v hv=>?_) hb (xs.length - 0) 0 { s with heap:=s.heap.push { cls:= .type "list_iterator",data:= .fields #[.ref l, .int 0 0] } } rfl (Qaa _) ⟨⟨_,hit,rfl,rfl⟩,hl.push _⟩ ?_ fun s' hm i9=>?_
 ·exact rY hi i v (by rw[Qdw];exact hv)
 ·have Me:=N5 { cls:= .type "list_iterator",data:= .fields #[.ref l, .int 0 0] } hS
  exact PyProof.Rows.SetOf_congr ((PyProof.Rows.setObjOf_fresh (knd:=PySem.strKind prog w) led).setOf Me (by unfold scanBound;lia)) (fun k=>by rw[List.take_zero];rfl) rfl
 ·obtain ⟨h',g',d',Ob,G6⟩:=s'
  obtain rfl:g'=s.gens:=hm.gens
  obtain rfl:d'=s.drawn:=hm.drawn
  obtain rfl:G6=s.os:=hm.os
  refine wpAny_pure (wpAny_pure (h h' Ob i9 fun b o hb Mf e=>?_))
  exact hm.heap b o (fun EB=>by
   rcases Qah.mp EB with z | z
   ·exact hb z
   ·exact absurd (V8.mp z) (Qaq Mf)) (N5 _ e)
theorem Cm {l:Addr} {items:Array Value} {xs:List Str} {Q:Value->Shared->Prop} (hh:A.handled=none) (hl:s.heap.IsList l items) (hi:StrsAre items.toList xs) (hb:xs.length+1<scanBound)
  (h: ∀(h':Heap) (tk:Nat),o8 prog w h' s.heap.objs.size xs->(∀b o,s.heap.get? b=some o->h'.get? b=some o)->Q (.ref s.heap.objs.size) { s with heap:=h',toks:=tk }):
  wpAny (model prog w) A (call (.type "set") [.ref l]) Q E s:=by
 obtain ⟨c,tl,X5⟩:=Qb4.mro
 have Wn:=Qb4.made
 have UL:=Qb4.sub
 have g1:=Qb4.notType
 have g2:=Qb4.canCreate
 have g3:=PySem.F.typeCall_set_1 (.ref l)
 refine wpAny_call (codeAny_of_tree ?_)
 show wpAny _ _ (callAny (.type "set") ⟨[.ref l],[]⟩) _ _ _
 refine wpAny_pure ⟨Code.quiet_builtin _ (by decide+kernel),codeAny_builtin PySem.F.entry_type_call ?_⟩
 rw[Around.under_plain (weight_type_call_type "set" [.ref l] []) rfl]
 repeat (any_goals (first | wp_step | assumption))
 refine codeAny_mono (code_set_new_1 (.ref l) (E:=E) (Q₁:=fun v s₁=> ∃led:Bool,v= .ref s.heap.objs.size/\s₁={ s with heap:=s.heap.push (uj led) }) fun led=>⟨led,rfl,rfl⟩) fun r s₁ hr=>?_
 cases r with
 | error e=>exact hr
 | ok fl=>
  cases fl with
  | next=>exact hr.elim
  | brk=>exact hr.elim
  | cont=>exact hr.elim
  | ret v=>
   obtain ⟨led,rfl,rfl⟩:=hr
   have hS:(s.heap.push (uj led)).get? s.heap.objs.size=some (uj led):=Qal _ rfl
   have hT:Shared.TypeIs { s with heap:=s.heap.push (uj led) } (.ref s.heap.objs.size) "set":=⟨_,hS,rfl⟩
   have g4:=Qb4.init.lookup
   have g5:=Qb4.init.bind (.ref s.heap.objs.size)
   repeat (any_goals (first | wp_step | assumption))
   refine codeAny_mono (codeAny_call_builtin (R:=wants (fun v s₂=>v= .none/\ ∃h' tk,s₂={ s with heap:=h',toks:=tk }/\o8 prog w h' s.heap.objs.size xs/\ ∀b o,s.heap.get? b=some o->h'.get? b=some o) E) Qb4.init.plain PySem.F.entry_set_init (check_set_init_1 hT ?_)) fun r₂ s₂ Q3=>?_
   ·refine EA (s:={ s with heap:=s.heap.push (uj led) }) hh hS (hl.push _) hi hb fun h' tk i9 hk=>⟨rfl,h',tk,rfl,i9,fun b o e=>?_⟩
    have cE:=Qag e
    exact hk b o (Qaq cE) (by show b<(s.heap.push (uj led)).objs.size;rw[Qd3];exact Qcr cE) (N5 _ e)
   ·cases r₂ with
    | error e=>exact Q3
    | ok X6=>
     cases X6 with
     | next=>exact Q3.elim
     | brk=>exact Q3.elim
     | cont=>exact Q3.elim
     | ret v=>
      obtain ⟨rfl,h',tk,rfl,k1,k2⟩:=Q3
      repeat (any_goals (first | wp_step | assumption))
      exact h _ _ k1 k2
end
section
variable {X:Cx}
noncomputable def Cn (q:Addr) (n:Nat):HO:= .ext fun h=> ∃(o:Obj) (es:Array (Int×Value)) (ep:Nat) (t:SetTable),h.get? q=some o/\o.ExactSet/\o.data= .set es ep t/\t.fits es.size=true/\es.size=n
def Q4 (K:PySem.W.Frag):List V->Hp->VK->Prop:=fun xs H Q=> ∃(p:Addr) (l:List (List Nat)),xs=[.ref p]/\aZ K H p (l.map fun c=>V.str (S c))/\l.length<=20/\ ∀q,H q=none->Q (.ref q) (upd H q (Cn q (dd [] (l.map S)).length))
theorem Co (K:PySem.W.Frag) (h:X.K=K) (hc:X.calm=true):cQ X (.type "set") (Q4 K):=by
 subst h
 walk_at"e"
 obtain ⟨p,l,rfl,hq,hz,q⟩:=h
 walk_at"x"
 cases ru
 obtain ⟨its,rv,pl,_⟩:=I.list hq
 refine Cm (I.ok.hd hc) pl.isList (by simpa using kh rv) (by rw[V6];unfold scanBound;lia) fun h' tk i9 hk=>?_
 refine ⟨.ref s.heap.objs.size,upd H s.heap.objs.size (Cn _ _),I.laid (t':=tk) hk (Sq _) ?_,rfl,q _ I.fresh⟩
 obtain ⟨o,es,ep,t,ho,hex,hd,_,_,_,hf,hn⟩:=i9
 exact ⟨⟨o,es,ep,t,ho,hex,hd,hf,hn⟩,⟨_,ho⟩,fun h1 h2 ⟨o,es,ep,t,ho,r⟩ k=>⟨o,es,ep,t,k o ho,r⟩⟩
theorem wo:cQ X (.builtin "len") (fun xs H Q=> ∃a n,xs=[V.ref a]/\H a=some (Cn a n)/\n<=1000/\Q (.int n) H):=by
 walk_at"e"
 obtain ⟨a,n,rfl,ha,hz,q⟩:=h
 walk_at"x"
 cases ru
 obtain ⟨hv,_,_⟩:cH X.prog X.w H s.heap a (Cn a n):=I.bZ a _ ha
 obtain ⟨o,es,ep,t,ho,hex,hd,hf,hn⟩: ∃(o:Obj) (es:Array (Int×Value)) (ep:Nat) (t:SetTable),s.heap.get? a=some o/\o.ExactSet/\o.data= .set es ep t/\t.fits es.size=true/\es.size=n:=hv
 refine call_len_set ho hex hd hf (by lia) ?_
 rw[hn]
 exact ⟨.int n,H,I.tok _,⟨_,rfl⟩,q⟩
end
section
variable {prog:Program} {w:World} {A:Around} {E:Value->Shared->Prop} {s:Shared}
def o9 (h:Heap) (k:Nat) (v:Value) (ns:List Int):Prop:= ∃x ox us m is z t,v= .ref x/\h.get? x=some ox/\ox.cls= .type "tuple"/\ox.data= .seq us m/\us.toList=is++[.str z t]/\IntsAre is ns/\ns.length=k+1
theorem AF {Q:Bool->Shared->Prop} {ta tb:List Value}: ∀{us vs:List Value} {ns ms:List Int} {i:Nat},IntsAre us ns->IntsAre vs ms->ns.length=ms.length->ns≠ms->Q (bg ns ms) s->PySem.W.KatLex prog w A true false Q ((us++ta).zip (vs++tb)) i s
 | _,_,_,_,i, .nil, .nil,_,z,_=>absurd rfl z
 | _,_,_,_,i, .nil, .cons _ _ _,h,_,_=>by simp at h
 | _,_,_,_,i, .cons _ _ _, .nil,h,_,_=>by simp at h
 | _,_,_,_,i, .cons (ns:=ns) a t1 h1, .cons (ns:=ms) b t2 h2,h,z,q=>by
  refine Qfj (wpAny_eqBool_int ?_)
  have hl:ns.length=ms.length:=by simpa using h
  have q':Q (if a=b then bg ns ms else decide (a<b)) s:=q
  by_cases e:a=b
  ·rw[show (a==b)=true by simp[e]]
   rw[if_pos e]at q'
   exact Qfp (AF h1 h2 hl (fun g=>z (by rw[e,g])) q')
  ·rw[show (a==b)=false by simp[e]]
   rw[if_neg e]at q'
   refine PySem.W.kat_no ?_
   by_cases y:i=0
   ·subst y
    exact PySem.W.kat_lt_int (E:=fun _ _=>False) q'
   ·rw[show (true&&(i==0))=false by simp[y]]
    exact PySem.W.kat_one _ _ (lt_int q')
theorem Mg {k:Nat} {u v:Value} {a c:List Int} {Q:Bool->Shared->Prop} (hx:o9 s.heap k u a) (hy:o9 s.heap k v c) (di:a≠c) (q:Q (bg a c) s):wpAny (model prog w) A (keyLt' (tuples' true) u v) Q E s:=by
 obtain ⟨x,ox,us,n,i1,z1,t1,rfl,gx,_,dx,ex,ix,lx⟩:=hx
 obtain ⟨y,oy,vs,m,i2,z2,t2,rfl,gy,_,dy,ey,iy,ly⟩:=hy
 have e1:=o7 ix
 have e2:=o7 iy
 refine PySem.W.kat_lt gx dx gy dy ?_
 rw[show decide (us.size<vs.size)=false from decide_eq_false (by rw[<-Qde, <-Qde,ex,ey,V7,V7];simp;lia)]
 rw[ex,ey]
 exact AF ix iy (by lia) di q
theorem o9.keep {h h':Heap} {k:Nat} {v:Value} {n:List Int} (p:o9 h k v n) (kp: ∀b o,h.get? b=some o->h'.get? b=some o):o9 h' k v n:=by
 obtain ⟨x,ox,us,m,i1,z1,t1,e1,e2,r⟩:=p
 exact ⟨x,ox,us,m,i1,z1,t1,e1,kp _ _ e2,r⟩
def c_ (h:Heap) (k:Nat):List Value->List (List Int)->Prop
 | [],[]=>True
 | v::vs,n::ns=>o9 h k v n/\c_ h k vs ns
 | _,_=>False
theorem c_.keep {h h':Heap} {k:Nat} (kp: ∀b o,h.get? b=some o->h'.get? b=some o): ∀{vs:List Value} {ns:List (List Int)},c_ h k vs ns->c_ h' k vs ns
 | [],[],_=>trivial
 | _::_,_::_,⟨a,b⟩=>⟨a.keep kp,c_.keep kp b⟩
theorem c_.get {h:Heap} {k:Nat}: ∀{vs:List Value} {ns:List (List Int)} {i:Nat},c_ h k vs ns->(hi:i<vs.length)-> ∃n,ns[i]? =some n/\o9 h k (vs.getD i Value.none) n
 | [],[],i,_,hi=>absurd hi (Qco _)
 | v::vs,n::ns,0,⟨a,_⟩,_=>⟨n,rfl,a⟩
 | v::vs,n::ns,i+1,⟨_,b⟩,hi=>by
  obtain ⟨m,e,p⟩:=c_.get (i:=i) b (Nat.lt_of_succ_lt_succ hi)
  exact ⟨m,e,p⟩
theorem c_.jR {h:Heap} {k:Nat}: ∀{vs:List Value} {ns:List (List Int)},c_ h k vs ns-> ∃fs,PySem.W.KatTups h vs fs/\fs.length=vs.length/\ ∀v∈fs, ∃i t,v=Value.int i t
 | [],[],_=>⟨[],trivial,rfl,fun _ h=>absurd h Qae⟩
 | v::vs,n::ns,⟨⟨x,ox,us,m,i1,z1,t1,e1,e2,e3,e4,e0,e5,e6⟩,b⟩=>by
  obtain ⟨fs,k1,k2,k3⟩:=c_.jR b
  obtain ⟨f,t,e7⟩: ∃f t,us[0]? =some (Value.int f t):=by
   rw[<-Qdw,e0]
   clear e0
   cases e5 with
   | nil=>simp at e6
   | cons a t _=>exact ⟨a,t,rfl⟩
  refine ⟨.int f t::fs,⟨⟨x,ox,us,m,e1,e2,e3,e4,e7⟩,k1⟩,by simp[k2],fun u hu=>?_⟩
  rcases Qah.mp hu with z | z
  ·exact ⟨_,_,z⟩
  ·exact k3 u z
theorem c_.ne {h:Heap} {k:Nat} {vs:List Value} {ns:List (List Int)} (p:c_ h k vs ns) {a:Addr} (ha:h.objs.size<=a): ∀v∈vs,v≠ .ref a:=fun v hv z=>by
 obtain ⟨i,hi,e⟩:=List.mem_iff_getElem.mp hv
 obtain ⟨n,_,x,ox,us,m,i1,z1,t1,e1,e2,_⟩:=p.get (i:=i) hi
 have e3:vs.getD i Value.none=v:=by rw[XO,LJ hi,e];rfl
 rw[e3,z]at e1
 cases e1
 exact absurd (Qap (Qag e2) ha) (Qbd _)
theorem o_ {a:Addr} {vs:List Value} {ns:List (List Int)} {k n:Nat} {P:PySem.Fin->Shared->Prop} (ho:s.heap.get? a=some (seqObj "list" vs.toArray n)) (hp:c_ s.heap k vs ns) (Q5: ∀v∈vs,v≠ .ref a) (hs: ∀k x y,ns[k]? =some x->ns[k+1]? =some y->bg y x=false/\y≠x) (hsz:vs.length<=sizeLine)
  (q:P (.done (.ret .none)) { s with heap:=sortedHeap s.heap a vs vs.toArray }):wpAny (model prog w) A (Builtin.«list.sort» ⟨[.ref a],[]⟩) P E s:=by
 rw[list_sort_plain]
 have ha:a<s.heap.objs.size:=Qag ho
 refine wpAny_bind (listItems_at ho rfl (wpAny_bind (listUpdate_at ho rfl ?_ (by rw[XR];lia) (Qaa _))))
 walk_at"Q"
 walk_at"J"
 generalize hH:((s.heap.update a (Obj.mapSeq fun _=>(#[]:Array Value))).push (seqObj "tuple" vs.toArray 0)).push (seqObj "list" #[] 0)=H2
 have Q7:H2.get? a=some (seqObj "list" #[] e1):=by
  rw[<-hH]
  exact N5 _ (N5 _ Q6)
 have keep: ∀b o,b≠a->s.heap.get? b=some o->H2.get? b=some o:=fun b o hb e=>by
  rw[<-hH]
  exact N5 _ (N5 _ ((Qa6 s.heap _ (Ne.symm hb)).trans e))
 have kz:c_ H2 k vs ns:=by
  clear q hsz hs hH ho
  revert ns
  induction vs with
  | nil=>intro ns hp;cases ns with
   | nil=>trivial
   | cons _ _=>exact hp.elim
  | cons v vs ih=>
   intro ns hp
   cases ns with
   | nil=>exact hp.elim
   | cons n ns=>
    obtain ⟨⟨x,ox,us,m,i1,z1,t1,rfl,g2,g3⟩,b⟩:=hp
    exact ⟨⟨x,ox,us,m,i1,z1,t1,rfl,keep x ox (fun z=>Q5 _ XS (by rw[z])) g2,g3⟩,ih (fun u hu=>Q5 u (kb _ hu)) b⟩
 have fin: ∀st:SortSt,(arrOf st).map (·.2)=vs.toArray->failedOf st=none->wpAny (model prog w) A (do { let touched:=(<-seqEpoch a) != e1;Builtin.List.listUpdate (.ref a) (fun _=>(arrOf st).map (·.2));if let some e:=failedOf st then { rule "list.sort.comparison-raised";throw e };if touched then { rule "list.sort.modified";raiseError "ValueError" "list modified during sort" };ret .none }) P E { s with heap:=H2 }:=fun st e0 e2=>by
  rw[e0,e2]
  refine wpAny_bind (seqEpoch_at Q7 rfl (wpAny_bind (listUpdate_at Q7 rfl ?_ (Qaa _) (by rw[XR];lia))))
  simp only[bne_self_eq_false,Qa4,if_false]
  walk_at"1"
  have e3:sortedHeap s.heap a vs vs.toArray=H2.update a (Obj.mapSeq fun _=>vs.toArray):=by unfold sortedHeap;rw[hH]
  rw[e3]at q
  exact q
 show wpAny (model prog w) A _ P E { s with heap:=H2 }
 dsimp only
 by_cases h2:vs.toArray.size<2
 ·rw[if_pos h2,if_pos h2]
  walk_at"n"
  rw[StateT.run_pure]
  walk_at"n"
  exact fin (SortSt.mk' general' (vs.toArray.zip vs.toArray) #[] 7 none) (by show (vs.toArray.zip vs.toArray).map (·.2)=vs.toArray;apply Qcv.mp;simp;exact uf vs) rfl
 ·have UR:2<=vs.length:=by rw[XR]at h2;lia
  rw[if_neg h2,if_neg h2]
  obtain ⟨fs,k1,k2,k3⟩:=kz.jR
  walk_at"t"
  have Q8:SortSt.mk' (tuples' (Value.type "int" != Value.type "tuple")) (vs.toArray.zip vs.toArray) #[] 7 none=PySem.W.kas_st (tuples' true) (vs.toArray.zip vs.toArray) (List.toArray (List.range vs.length)):=by
   have e:=PySem.W.kas_range (vs.toArray.zip vs.toArray)
   rw[show (vs.toArray.zip vs.toArray).size=vs.length by simp]at e
   show SortSt.mk' (tuples' true) (vs.toArray.zip vs.toArray) #[] 7 none=SortSt.mk' (tuples' true) ((List.toArray (List.range vs.length)).map (PySem.W.kas_item (vs.toArray.zip vs.toArray))) #[] 7 none
   rw[e]
  rw[Q8]
  have run:=Eu (prog:=prog) (w:=w) (A:=A) (E:=E) (s:={ s with heap:=H2 }) (κ:=tuples' true) (it:=vs.toArray.zip vs.toArray) (n:=vs.length) (Q:=fun _ iO s'=>s'={ s with heap:=H2 }/\(arrOf iO).map (·.2)=vs.toArray/\failedOf iO=none) UR (fun j g1 g2 C c=>by
   rw[<-PySem.W.kat_ask_eq rfl]
   obtain ⟨x,ex,px⟩:=kz.get (i:=j) g2
   obtain ⟨y,ey,py⟩:=kz.get (i:=j - 1) (by lia)
   obtain ⟨f1,f2⟩:=hs (j - 1) y x ey (by rw[show j - 1+1=j by lia];exact ex)
   refine Mg (s:={ s with heap:=H2 }) px py f2 ?_
   rw[f1]
   exact c) (fun iO a2 a3=>by
   refine ⟨rfl,?_,a3⟩
   rw[PySem.W.kat_snds rfl a2]
   apply Qcv.mp
   show (List.range vs.length).map (fun i=>vs.getD i Value.none)=vs
   refine Qem (by simp) fun i g1 g2=>?_
   simp
   rw[LJ g2]
   rfl)
  refine wpAny_bind (wpAny_mono run ?_ fun _ _ e=>e)
  rintro ⟨⟨⟩,iO⟩ s' ⟨rfl,g1,g2⟩
  exact fin iO g1 g2
theorem m_ {tp:Addr} {T:String} {o:Obj} {vs:List Value} {ns:List (List Int)} {k n:Nat} {Q:Value->Shared->Prop} (hT:T="list"\/T="tuple") (ho:s.heap.get? tp=some o) (hc:o.cls= .type T) (hd:o.data= .seq vs.toArray n) (hp:c_ s.heap k vs ns)
  (hs: ∀k x y,ns[k]? =some x->ns[k+1]? =some y->bg y x=false/\y≠x) (hsz:vs.length<=sizeLine)
  (q: ∀(h1 h':Heap) (a:Addr) (e:Nat),(∀b o,s.heap.get? b=some o->h1.get? b=some o)->(∀b o,h1.get? b=some o->h'.get? b=some o)->a=h1.objs.size->h'.get? a=some (seqObj "list" vs.toArray e)->Q (.ref a) { s with heap:=h' }):
  wpAny (model prog w) A (call (.builtin "sorted") [.ref tp]) Q E s:=by
 refine Calls.call_function_entry kind_sorted plain_sorted entry_sorted (args_sorted1 _) ?_
 unfold Builtin.«sorted»
 walk_at"U"
 refine wpAny_bind (wpAny_newList ?_ (by show vs.length<=_;lia))
 have Hr:(h1.push (seqObj "list" vs.toArray 0)).get? h1.objs.size=some (seqObj "list" vs.toArray 0):=Qal _ rfl
 show wpAny _ _ _ _ _ { s with heap:=h1.push (seqObj "list" vs.toArray 0) }
 have hV:=hp.keep (h':=h1) k1
 have kz:=hV.keep (h':=h1.push (seqObj "list" vs.toArray 0)) fun b o e=>N5 _ e
 refine wpAny_bind (wpAny_holding (wpAny_call_entry slot_list_sort ⟨_,Hr,rfl⟩ entry_list_sort (o_ (s:={ s with heap:=h1.push (seqObj "list" vs.toArray 0) }) Hr kz (hV.ne (Sq _)) hs hsz ⟨_,rfl,?_⟩) (args_list_sort _)))
 obtain ⟨e,he⟩:=sortedHeap_at (out:=vs.toArray) Hr
 refine wpAny_pure ⟨_,rfl,q h1 _ _ e k1 (fun b o hb=>?_) rfl he⟩
 have cE:=Qag hb
 rw[sortedHeap_old (Qaq cE) (by rw[size_push'];exact Qcr cE)]
 exact N5 _ hb
end
section
variable {X:Cx}
theorem rZ: ∀{ns:List Int} {z:Str} {us:List Value},Vals (ns.map V.int++[.str z]) us-> ∃is t,us=is++[.str z t]/\IntsAre is ns
 | [],z,_, .cons r .nil=>by
  obtain ⟨t,rfl⟩:=r
  exact ⟨[],t,rfl, .nil⟩
 | n::ns,z,_, .cons r rs=>by
  obtain ⟨u,rfl⟩:=r
  obtain ⟨is,t,e,h⟩:=rZ rs
  exact ⟨.int n u::is,t,by rw[e];rfl, .cons n u h⟩
def Cp (K:PySem.W.Frag) (H:Hp) (k:Nat):List V->List (List Int)->Prop
 | [],[]=>True
 | v::vs,n::ns=>(∃t z,v= .ref t/\bE K H t (n.map V.int++[.str z])/\n.length=k+1)/\Cp K H k vs ns
 | _,_=>False
theorem Cp.at {pins:List (Addr×Obj)} {σ:St} {H:Hp} {s:Shared} {k:Nat} (I:Inv X pins σ H s): ∀{vs:List V} {ns:List (List Int)} {us:List Value},Cp X.K H k vs ns->Vals vs us->c_ s.heap k us ns
 | [],[],_,_, .nil=>trivial
 | v::vs,n::ns,_,⟨⟨t,z,e,h,hl⟩,b⟩, .cons r rs=>by
  subst e
  cases r
  obtain ⟨its,rv,p,_⟩:=I.tuple h
  obtain ⟨o,ho,hc,m,hd⟩:=p
  obtain ⟨i1,t1,e1,e2⟩:=rZ rv
  exact ⟨⟨t,o,its.toArray,m,i1,z,t1,rfl,ho,hc,hd,e1,e2,hl⟩,Cp.at I b rs⟩
def Mh (K:PySem.W.Frag):List V->Hp->VK->Prop:=fun xs H Q=> ∃p ys ns k,xs=[.ref p]/\(aZ K H p ys\/bE K H p ys)/\Cp K H k ys ns/\(∀k x y,ns[k]? =some x->ns[k+1]? =some y->bg y x=false/\y≠x)/\ ∀q,H q=none->Q (.ref q) (upd H q (.lst ys))
theorem uk (K:PySem.W.Frag) (h:X.K=K):cQ X (.builtin "sorted") (Mh K):=by
 subst h
 walk_at"e"
 obtain ⟨p,ys,ns,k,rfl,hq,hv,hs,q⟩:=h
 walk_at"x"
 cases ru
 have fin: ∀its:List Value,ys.length<=sizeLine->Vals ys its-> ∀(h1 h':Heap) (a:Addr) (e:Nat),(∀b o,s.heap.get? b=some o->h1.get? b=some o)->(∀b o,h1.get? b=some o->h'.get? b=some o)->a=h1.objs.size->h'.get? a=some (seqObj "list" its.toArray e)->EP X pins σ Q (.ref a) { s with heap:=h' }:=fun its hz rv h1 h' a e k1 k2 ea he=>by
  have I1:Inv X pins σ H { s with heap:=h1 }:=I.kept (t':=s.toks) k1
  have I2:Inv X pins σ (upd H a (.lst ys)) { s with heap:=h' }:=I1.laid (t':=s.toks) (a:=a) (o:= .lst ys) k2 (by rw[ea];exact Sq _) ⟨hz,its,e,rv,by simpa [seqObj]using he⟩
  exact ⟨.ref a,_,I2,rfl,q _ (I1.bZ.fresh (by rw[ea];exact Sq _))⟩
 rcases hq with hq | hq
 ·obtain ⟨its,rv,pl,hz⟩:=I.list hq
  obtain ⟨o,ho,hc,m,hd⟩:=pl.isList
  exact m_ (.inl rfl) ho hc hd (hv.at I rv) hs (by rw[<-rv.length];exact hz) (fin its hz rv)
 ·obtain ⟨its,rv,pl,hz⟩:=I.tuple hq
  obtain ⟨o,ho,hc,m,hd⟩:=pl
  exact m_ (.inr rfl) ho hc hd (hv.at I rv) hs (by rw[<-rv.length];exact hz) (fin its hz rv)
end
section
variable {X:Cx} {st:Stmt} {rest:List Stmt} {t u:TS}
def US (t u:TS):TS:=fun D σ H=> ∃P:St->Hp->Prop,t { D with nx:=P } σ H/\ ∀σ' H',P σ' H'->u D σ' H'
theorem ff (h1:PS X st t) (h2:yf X rest u):yf X (st::rest) (US t u):=by
 walk_at"A"
 obtain ⟨P,h,g⟩:=h
 refine wpAny_execs_cons (cy (h1 pins s σ H _ I h) fun f s1 q=>?_)
 cases f with
 | ret v=>exact q
 | brk=>exact q
 | cont=>exact q
 | next=>
  obtain ⟨τ,G,J,p⟩:=q
  exact h2 pins s1 τ G D J (g τ G p)
end
section
variable {X:Cx}
def Q9 (K:PySem.W.Frag):List V->Hp->VK->Prop:=fun xs H Q=> ∃(p:Addr) (ns:List Int),xs=[.ref p]/\aZ K H p (ns.map V.int)/\Q (.int ns.sum) H
theorem Cq (K:PySem.W.Frag) (h:X.K=K) (hc:X.calm=true):cQ X (.builtin "sum") (Q9 K):=by
 subst h
 walk_at"e"
 obtain ⟨p,ns,rfl,hq,q⟩:=h
 walk_at"x"
 cases ru
 obtain ⟨its,rv,pl,_⟩:=I.list hq
 have hi:IntsAre its ns:=intsAre_of rv
 obtain ⟨ys,e⟩:=hi.allInts.items
 have hl:s.heap.IsList p (intItems ys):=by rw[<-e];exact pl.isList
 refine sum_intListG (I.ok.hd hc) hl fun h' tk t' hk=>?_
 have e2:preSum (numAt ys) ys.size=ns.sum:=by
  rw[preSum_eq,Qau (by simp), <-nums_intItems, <-e]
  exact congrArg List.sum hi.numsOf
 rw[e2]
 exact ⟨.int ns.sum,H,I.kept (t':=tk) hk,⟨_,rfl⟩,q⟩
theorem kj (K:PySem.W.Frag) (h:X.K=K):cQ X (.builtin "isinstance") (fun xs H Q=> ∃p ys,xs=[.ref p, .ty "tuple"]/\H p=some (.tup ys)/\Q (.bl true) H):=by
 subst h
 walk_at"e"
 obtain ⟨p,ys,rfl,hq,q⟩:=h
 obtain ⟨u,w',rfl,r1,r2⟩:=vals2 r
 cases (show w'=Value.type "tuple" from r2)
 exact B3 I r1 (.tup hq) (by unfold PySem.W.kitOne;rw[if_pos (by decide)]) fun tk=>⟨.bl true,H,I.tok _,rfl,q⟩
end
end L2
namespace L2
open PySem PySem.Spec PyProof.Rows PySem.MeetsSeq PySem.SeqAt
end L2
namespace XL
open PySem PySem.Spec PySem.Calls PyProof.Rows PySem.W Builtin Builtin.ObjectAttr
end XL
namespace XL
open PySem PySem.Spec PySem.Calls PyProof.Rows PySem.W
end XL
namespace L2
open PySem PySem.Spec PyProof.Rows XL
noncomputable def Wq (s:Stmt) (j:Nat):Stmt:=match s with
 | .ClassDef _ _ _ b _ _ _ _ _ _ _=>b.getD j (.Pass ⟨0,0,0,0⟩)
 | _=> .Pass ⟨0,0,0,0⟩
def Q_ (_ j:Int):Prop:=0<j/\j<18446744073709551616
theorem dA {X:Cx}:gQ X (binaryOp .FloorDiv) (rI Q_ fun i j=> .int (i / j)):=Sj fun i j _ _ _ _ _ hc q=>by
 have h1:(0:Int)<j:=hc.1
 have h2:j<18446744073709551616:=hc.2
 have h3:j.natAbs<2 ^ 64:=by lia
 exact floordiv_int (by lia) (by rw[Int.fdiv_eq_ediv_of_nonneg i (by lia)];exact q) (.inl (PyProof.noPylong_of_log2 (Qfe ((Nat.log2_lt (by lia)).mpr h3) (by decide))))
end L2
namespace PySem
end PySem
namespace L2
open PySem PySem.Spec PyProof.Rows
end L2
namespace L2.F3
open PySem PySem.Spec PyProof.Rows
end L2.F3
namespace L2
open PySem PySem.Spec PyProof.Rows
section
variable {X:Cx}
noncomputable def dg (n:Nat):List Nat:=((toString (n:Int):String):Str).cps.toList
theorem UT (n:Nat):((toString (n:Int):String):Str)=S (dg n):=QH _
theorem Cr {n:Nat} (h:n<2 ^ 60):((n:Int)).natAbs.log2<1920:=by
 rw[Int.natAbs_natCast]
 by_cases z:n=0
 ·subst z;decide
 ·exact (Nat.log2_lt z).mpr (Qap h (Nat.pow_le_pow_right (by decide) (by decide)))
theorem Cs:cQ X (.type "str") (fun xs H Q=> ∃n:Nat,xs=[.int n]/\n<2 ^ 60/\Q (.str (S (dg n))) H):=by
 walk_at"e"
 obtain ⟨n,rfl,hz,q⟩:=h
 refine tQ pins s σ H _ us Q I r ⟨n,rfl,Cr hz,?_⟩
 rw[UT]
 exact q
end
end L2
namespace XL
open PySem PySem.Spec PySem.Calls PyProof.Rows PySem.W
end XL
namespace L2
open PySem PySem.Spec PyProof.Rows XL
end L2
namespace PySem
open Sem (wp)
section
variable {prog:Program} {w:World} {K:Type} [DecidableEq K] (knd:KeyKind prog w K)
def bI (h:Heap) (p:K×List K) (a:Addr):Prop:= ∃o v b n,h.get? a=some o/\o.cls= .type "tuple"/\o.data= .seq #[v, .ref b] n/\knd.is p.1 v=true/\IsTupleKey knd h p.2 b
variable {knd}
theorem bI.typeIs {s:Shared} {p:K×List K} {a:Addr} (x:bI knd s.heap p a):s.TypeIs (.ref a) "tuple":=let ⟨o,_,_,_,ho,hc,_⟩:=x;⟨o,ho,hc⟩
theorem bI.inj {h:Heap} {a:Addr} {x y:K×List K} (hx:bI knd h x a) (hy:bI knd h y a):x=y:=by
 obtain ⟨o,v,b,n,ho,_,hd,hi,hj⟩:=hx
 obtain ⟨o',v',b',n',xP,_,BO,HS,Ie⟩:=hy
 obtain rfl:o=o':=Qan (ho.symm.trans xP)
 rw[hd]at BO
 injection BO with h1 _
 have h2:=congrArg Array.toList h1
 simp only[List.cons.injEq,Value.ref.injEq,and_true]at h2
 obtain ⟨rfl,rfl⟩:=h2
 exact Prod.ext (knd.inj _ _ _ hi HS) (hj.inj Ie)
theorem bI.keeps {h h':Heap} {p:K×List K} {a d:Addr} {o:Obj} {es ep} (x:bI knd h p a) (ho:h.get? d=some o) (hd:o.data= .dict es ep) (hs:Heap.SameBut d h h'):bI knd h' p a:=by
 obtain ⟨o',v,b,n,xP,hc,BO,hi,hj⟩:=x
 have di:a≠d:=by
  rintro rfl
  obtain rfl:o'=o:=Qan (xP.symm.trans ho)
  rw[hd]at BO;exact nomatch BO
 exact ⟨o',v,b,n,(hs.2 a di).trans xP,hc,BO,hi,hj.keeps ho hd hs⟩
noncomputable def i_ (knd:KeyKind prog w K) (p:K×List K):Int:=reduceHash (Builtin.Tuple.tupleHashOf [knd.hash p.1,tupleKeyHash knd p.2])
variable {A:Around} {E:Value->Shared->Prop} {s:Shared}
theorem kS {p:K×List K} {a:Addr} {Q:Int->Shared->Prop} (hu:A.units+1<cLine) (hk:bI knd s.heap p a) (h:Q (i_ knd p) { s with toks:=s.toks+(1+(p.2.length+1)+1) }):
  wpAny (model prog w) A (pyHash (.ref a)) Q E s:=by
 have hT:=hk.typeIs
 obtain ⟨o,v,b,n,ho,_,hd,hi,hj⟩:=hk
 unfold pyHash
 first | unfold pyHashByItsType | skip
 first | refine wpAny_bind (wpAny_cRoomFor_or (.inr (by lia)) ?_) | skip
 refine wpAny_bind (wpAny_specialOf hT F.slot_tuple_hash.lookup ?_)
 show wpAny _ _ (if (some (Value.builtin "tuple.__hash__")==some Value.none)=true then _ else _) Q E s
 rw[if_neg (by rw[beq_builtin_none];exact Qai)]
 refine wpAny_bind (wpAny_specialOf hT F.slot_tuple_hash.lookup ?_)
 show wpAny _ _ (callSpecialIfBoundUnlessNone? (.ref a) "__hash__" _ >>= _) Q E s
 refine wpAny_bind (wpAny_callSpecialIfBoundUnlessNone?_slot hT F.slot_tuple_hash (wpAny_call_entry F.slot_tuple_hash hT F.entry_tuple_hash ?_ (F.args_tuple_hash_1 _)))
 show wpAny _ _ (Builtin.Tuple.tupleItemsOf (.ref a) >>= _) _ _ s
 refine wpAny_bind (wpAny_tupleItemsOf ho hd ?_)
 walk_at"W"
 rw[<-Qfa]
 refine wpAny_forIn_list _
  (fun rest (bb:Array Int) s'=>(rest=[v, .ref b]/\bb.toList=[]/\s'=s)\/(rest=[.ref b]/\bb.toList=[knd.hash p.1]/\s'={ s with toks:=s.toks+1 })\/(rest=[]/\bb.toList=[knd.hash p.1,tupleKeyHash knd p.2]/\s'={ s with toks:=s.toks+1+(p.2.length+1) }))
  _ ?_ ?_ _ _ (.inl ⟨rfl,rfl,rfl⟩)
 ·rintro x rest bb s' (⟨e,hb,rfl⟩ | ⟨e,hb,rfl⟩ | ⟨e,hb,rfl⟩)
  ·cases e
   refine wpAny_bind (knd.pyHash hi ?_)
   first
    | exact wpAny_pure (.inr (.inl ⟨rfl,by simp[hb],rfl⟩))
    | exact wpAny_bind (wpAny_pure (wpAny_pure (.inr (.inl ⟨rfl,by simp[hb],rfl⟩))))
  ·cases e
   refine wpAny_bind (wpAny_pyHash_tuple (knd:=knd) (ks:=p.2) hu hj ?_)
   first
    | exact wpAny_pure (.inr (.inr ⟨rfl,by simp[hb],rfl⟩))
    | exact wpAny_bind (wpAny_pure (wpAny_pure (.inr (.inr ⟨rfl,by simp[hb],rfl⟩))))
  ·cases e
 ·rintro bb s' (⟨e,hb,rfl⟩ | ⟨e,hb,rfl⟩ | ⟨e,hb,rfl⟩)
  ·cases e
  ·cases e
  ·show wpAny _ _ (retInt (Builtin.Tuple.tupleHashOf bb.toList)) _ _ _
   rw[hb]
   refine wpAny_ret_mkInt ?_
   show wpAny _ _ (if (decide (-(2:Int) ^ 63<=Builtin.Tuple.tupleHashOf [knd.hash p.1,tupleKeyHash knd p.2])&&decide (Builtin.Tuple.tupleHashOf [knd.hash p.1,tupleKeyHash knd p.2]<2 ^ 63))=true then _ else _) Q E _
   unfold i_ reduceHash at h
   by_cases hr:(decide (-(2:Int) ^ 63<=Builtin.Tuple.tupleHashOf [knd.hash p.1,tupleKeyHash knd p.2])&&decide (Builtin.Tuple.tupleHashOf [knd.hash p.1,tupleKeyHash knd p.2]<2 ^ 63))=true
   ·rw[if_pos hr]
    rw[if_pos hr]at h
    exact wpAny_pure (by simpa [Qe7]using h)
   ·rw[if_neg hr]
    rw[if_neg hr]at h
    exact wpAny_bind (wpAny_rule (wpAny_pure (by simpa [Qe7]using h)))
theorem um {x y:K×List K} {a b:Addr} {P:Fin->Shared->Prop} (hu:A.units<cLine) (hx:bI knd s.heap x a) (hy:bI knd s.heap y b) (h:P (.done (.ret (.bool (decide (x=y))))) s):
  wpAny (model prog w) A (Builtin.«tuple.__eq__» ⟨[.ref a, .ref b],[]⟩) P E s:=by
 have X8:=hy.typeIs
 obtain ⟨oa,u,c,na,X9,_,X_,Ya,Yb⟩:=hx
 obtain ⟨ob,v,d,nb,Wr,_,Hz,Yc,Ye⟩:=hy
 show wpAny _ _ (isInstance (.ref b) (.type "tuple") >>= _) _ _ s
 refine wpAny_bind (wpAny_isInstance X8 isSubtype_tuple_tuple ?_)
 walk_at"s"
 refine wpAny_bind (wpAny_tupleItemsOf X9 X_ ?_)
 refine wpAny_bind (wpAny_tupleItemsOf Wr Hz ?_)
 walk_at"W"
 refine wpAny_forIn_list _
  (fun rest r s'=>r.1=none/\s'=s/\((rest=[(u,v),(.ref c, .ref d)])\/(rest=[(.ref c, .ref d)]/\x.1=y.1)\/(rest=[]/\x=y)))
  _ ?_ ?_ _ _ ⟨rfl,rfl, .inl rfl⟩
 ·rintro ⟨p,q⟩ rest r s' ⟨hr,rfl,e | ⟨e,e1⟩ | ⟨e,_⟩⟩
  ·cases e
   refine wpAny_bind (knd.eqBool (a:=x.1) (b:=y.1) Ya Yc ?_)
   by_cases hk:x.1=y.1
   ·rw[decide_eq_true hk]
    walk_at"s"
    exact wpAny_pure ⟨rfl,rfl, .inr (.inl ⟨by first | rfl | trivial,hk⟩)⟩
   ·rw[decide_eq_false hk]
    simp only[Qec,if_true]
    have hf:decide (x=y)=false:=decide_eq_false fun z=>hk (congrArg Prod.fst z)
    rw[hf]at h
    exact wpAny_bind (wpAny_pure (wpAny_pure (wpAny_pure h)))
  ·cases e
   refine wpAny_bind (wpAny_eqBool_tuple (knd:=knd) hu Yb Ye ?_)
   by_cases hk:x.2=y.2
   ·rw[decide_eq_true hk]
    walk_at"s"
    exact wpAny_pure ⟨rfl,rfl, .inr (.inr ⟨by first | rfl | trivial,Prod.ext e1 hk⟩)⟩
   ·rw[decide_eq_false hk]
    simp only[Qec,if_true]
    have hf:decide (x=y)=false:=decide_eq_false fun z=>hk (congrArg Prod.snd z)
    rw[hf]at h
    exact wpAny_bind (wpAny_pure (wpAny_pure (wpAny_pure h)))
  ·cases e
 ·rintro ⟨r1,r2⟩ s' ⟨hr,rfl,e | ⟨e,e1⟩ | ⟨e,e1⟩⟩
  ·cases e
  ·cases e
  ·simp only at hr
   subst hr
   walk_at"1"
   show P (.done (.ret (.bool true))) s'
   rw[decide_eq_true e1]at h
   exact h
theorem kT {x y:K×List K} {a b:Addr} {Q:Bool->Shared->Prop} (hu:A.units+1<cLine) (hx:bI knd s.heap x a) (hy:bI knd s.heap y b) (h:Q (decide (x=y)) s):
  wpAny (model prog w) A (eqBool (.ref a) (.ref b)) Q E s:=by
 unfold eqBool
 try with_reducible refine wpAny_holding ?_
 show wpAny _ _ (if (Value.ref a==Value.ref b)=true then _ else _) Q E s
 by_cases ph:(Value.ref a==Value.ref b)=true
 ·rw[if_pos ph]
  have e:a=b:=by have:=eq_of_beq ph;injection this
  subst e
  obtain rfl:=hx.inj hy
  exact wpAny_bind (wpAny_rule (wpAny_pure (by simpa using h)))
 ·rw[if_neg ph]
  exact wpAny_bind (wpAny_richCompare_same_room (op:= .Eq) hx.typeIs hy.typeIs F.slot_tuple_eq
   (wpAny_call_entry F.slot_tuple_eq hx.typeIs F.entry_tuple_eq (um hu hx hy ⟨_,rfl,(fun e=>nomatch e),wpAny_truthy_bool h⟩) (F.args_tuple_eq_2 _ _)) (by lia))
theorem uo {ks:List K} {a:Addr} {Q:Bool->Shared->Prop} (hk:IsTupleKey knd s.heap ks a) (h:Q true s):wpAny (model prog w) A (eqIsQuiet 7 (.ref a)) Q E s:=by
 have hT:=hk.typeIs
 obtain ⟨o,items,n,ho,_,hd,hi⟩:=hk
 unfold eqIsQuiet
 refine wpAny_bind (wpAny_specialOf hT F.slot_tuple_eq.lookup ?_)
 show wpAny _ _ (isInstance (.ref a) (.type "tuple") >>= _) _ _ s
 refine wpAny_bind (wpAny_isInstance hT isSubtype_tuple_tuple ?_)
 walk_at"s"
 refine wpAny_bind (wpAny_seqItems ho hd ?_)
 walk_at"W"
 show wpAny _ _ (forIn items _ _) _ _ s
 rw[<-Qfa]
 refine wpAny_forIn_list _ (fun rest r s'=>r.1=none/\s'=s/\ ∀v∈rest,carriedByValue v=true) _ ?_ ?_ _ _ ⟨rfl,rfl,hi.byValue⟩
 ·rintro v rest r s' ⟨hr,rfl,Eb⟩
  rw[eqIsQuiet_byValue _ (Eb v XS)]
  walk_at"n"
  walk_at"s"
  exact wpAny_pure ⟨rfl,rfl,fun u Yf=>Eb u (kb _ Yf)⟩
 ·rintro ⟨r1,r2⟩ s' ⟨hr,rfl,_⟩
  simp only at hr
  subst hr
  exact wpAny_pure h
theorem ja {p:K×List K} {a:Addr} {Q:Bool->Shared->Prop} (hk:bI knd s.heap p a) (h:Q true s):wpAny (model prog w) A (eqIsQuiet 8 (.ref a)) Q E s:=by
 have hT:=hk.typeIs
 obtain ⟨o,v,b,n,ho,_,hd,hi,hj⟩:=hk
 unfold eqIsQuiet
 refine wpAny_bind (wpAny_specialOf hT F.slot_tuple_eq.lookup ?_)
 show wpAny _ _ (isInstance (.ref a) (.type "tuple") >>= _) _ _ s
 refine wpAny_bind (wpAny_isInstance hT isSubtype_tuple_tuple ?_)
 walk_at"s"
 refine wpAny_bind (wpAny_seqItems ho hd ?_)
 walk_at"W"
 show wpAny _ _ (forIn #[v,Value.ref b] _ _) _ _ s
 rw[<-Qfa]
 refine wpAny_forIn_list _ (fun rest r s'=>r.1=none/\s'=s/\(rest=[v, .ref b]\/rest=[.ref b]\/rest=[])) _ ?_ ?_ _ _ ⟨rfl,rfl, .inl rfl⟩
 ·rintro x rest r s' ⟨hr,rfl,e | e | e⟩
  ·cases e
   rw[eqIsQuiet_byValue _ (knd.byValue _ _ hi)]
   walk_at"n"
   walk_at"s"
   exact wpAny_pure ⟨rfl,rfl, .inr (.inl (by first | rfl | trivial))⟩
  ·cases e
   refine wpAny_bind (uo (knd:=knd) hj ?_)
   walk_at"s"
   exact wpAny_pure ⟨rfl,rfl, .inr (.inr (by first | rfl | trivial))⟩
  ·cases e
 ·rintro ⟨r1,r2⟩ s' ⟨hr,rfl,_⟩
  simp only at hr
  subst hr
  exact wpAny_pure h
noncomputable def fj {prog:Program} {w:World} {K:Type} [DecidableEq K] (knd:KeyKind prog w K):HeapKind prog w (K×List K) where
 is:=bI knd
 hash:=i_ knd
 draws:=fun p=>1+(p.2.length+1)+1
 room:=fun A=>A.units+1<cLine
 inj:=fun hx hy=>hx.inj hy
 keeps:=fun x ho hd hs=>x.keeps ho hd hs
 pyHash:=fun hu hk h=>kS hu hk h
 eqBool:=fun hu hx hy h=>kT hu hx hy h
 quiet:=fun hk h=>ja hk h
end
namespace F
theorem nK:typeLookup (.type "list") "keys"=pure none:=am_miss_of_fast (by kernel_rfl)
theorem kU:entryFor table "dict.update.loop"=some Builtin.«dict.update.loop» :=entryFor_of_tree (by kernel_rfl)
theorem fL:plainId "dict.update.loop"=true:=by decide+kernel
end F
section
variable {prog:Program} {w:World} {A:Around} {E:Value->Shared->Prop} {s:Shared}
theorem uq {a:Addr} {xs:Array Value} {k:Nat} {Q:Option Value->Shared->Prop}
  (hx:s.heap.get? a=some { cls:= .type "list",data:= .seq xs k }) (hA:A.handled=none)
  (h: ∀h' tk,(∀b o,s.heap.get? b=some o->h'.get? b=some o)->Q none { s with heap:=h',toks:=tk }):
  wpAny (model prog w) A (getAttr? (.ref a) "keys") Q E s:=by
 obtain ⟨hp,g,d,tk,os⟩:=s
 have hT: ∀Ob,(⟨hp,g,d,Ob,os⟩:Shared).TypeIs (.ref a) "list":=fun _=>⟨_,hx,rfl⟩
 have f1:=sub_AttributeError
 have f3:=F.slot_list_getattribute.lookup
 have f4:=F.slot_list_getattribute.bind (.ref a)
 have f5:=am_list_getattr_none
 unfold getAttr? getAttrBy? getAttrBy
 repeat (any_goals (first | assumption | exact hT _ | ((with_reducible show wpAny _ _ (call (Value.builtin "list.__getattribute__") _ _) _ _ _);refine call_meets F.slot_list_getattribute (hT _) am_entry_list_getattribute (F.args_list_getattribute_2 _ _) (meets_getattribute_miss_list a xs k #[] "keys" _ F.nK (by decide+kernel) (by size_fits)) ⟨hx,hA,fun h' Ob e NZ=>?_⟩) | wp_step))
 obtain ⟨t',u',he⟩:=NZ.there
 show wpAny _ _ (getattributeRaised _ _ _ _ _ _ _) _ _ _
 unfold getattributeRaised
 repeat (any_goals (first | assumption | wp_step))
 exact h _ _ NZ.keeps
end
section
variable {prog:Program} {w:World} {K:Type} [DecidableEq K] {knd:HeapKind prog w K} {A:Around} {E:Value->Shared->Prop} {s:Shared}
theorem DictOfH.frame {h h':Heap} {d:Addr} {xs:List (K×Addr×Value)} (x:h.DictOfH knd d xs) (k: ∀o,h.get? d=some o->h'.get? d=some o) (hk: ∀y∈xs,knd.is h y.1 y.2.1->knd.is h' y.1 y.2.1):h'.DictOfH knd d xs:=by
 obtain ⟨o,es,ep,ho,hc,hd,he,Ha,hn⟩:=x
 exact ⟨o,es,ep,k o ho,hc,hd,he,fun y hy=>hk y hy (Ha y hy),hn⟩
def yT (h:Heap) (v:Value) (x:K×Addr×Value):Prop:= ∃t o n,v= .ref t/\h.get? t=some o/\o.cls= .type "tuple"/\o.data= .seq #[.ref x.2.1,x.2.2] n
theorem EC {R:Result->Shared->Prop} {I S:Addr} {fp wr:List Addr} {G:Array GenState->Array GenState->Prop} {P:Nat->Value->Prop} {St:Nat->Shared->Prop} {l:List (K×Addr×Value)}
  (W:WalksS prog w A.in1 I fp wr G l.length P St) (hS:S∉fp) (ED:knd.room A.in1) (hl:l.length<=10000) (Mi:(l.map (·.1)).Nodup) (J:Heap->Prop)
  (hJ: ∀h,J h-> ∀x∈l,knd.is h x.1 x.2.1) (hP: ∀h i v,J h->P i v-> ∃x,l[i]? =some x/\yT h v x)
  (N_: ∀s s',Moved wr G s s'->J s.heap->J s'.heap) (Ck: ∀h h':Heap,Heap.SameBut S h h'->J h->J h'):
  ∀(k i:Nat) (s:Shared) (t:Tok),l.length - i=k->i<=l.length->St i s->J s.heap->s.heap.DictOfH knd S (l.take i)->(∀s',Moved (S::wr) G s s'->s'.heap.DictOfH knd S l->R (.ok (.ret .none)) s')->
   codeAny (model prog w) A (.builtin "dict.update.loop" ⟨[.ref S, .ref I, .int (i:Int) t, .none],[]⟩) R s:=by
 have QY:S∉wr:=fun h=>hS (W.sub _ h)
 have wm: ∀b∈wr,b∈S::wr:=fun b g=>kb _ g
 intro k
 induction k with
 | zero=>
  intro i s t hk hi nC hj i9 hR
  obtain rfl:i=l.length:=by lia
  rw[Qbb]at i9
  refine codeAny_builtin F.kU ?_
  rw[Around.under_plainId F.fL _]
  walk_at"P"
  refine wpAny_bind (W.done s _ _ nC fun s' hm=>?_)
  exact wpAny_pure (hR s' (hm.mono wm) (DictOfH.frame i9 (fun o ho=>hm.heap S o QY ho) fun y hy _=>hJ _ (N_ _ _ hm hj) y hy))
 | succ k ih=>
  intro i s t hk hi nC hj i9 hR
  have cE:i<l.length:=by lia
  refine codeAny_builtin F.kU ?_
  rw[Around.under_plainId F.fL _]
  walk_at"P"
  refine wpAny_bind (W.item i s _ _ cE nC fun v s' hp Ma hm=>?_)
  have Ie:=N_ _ _ hm hj
  obtain ⟨x,hx,tt,o,n,rfl,ho,hc,hd⟩:=hP _ i v Ie hp
  have Ey:s'.heap.DictOfH knd S (l.take i):=DictOfH.frame i9 (fun o ho=>hm.heap S o QY ho) fun y hy _=>hJ _ Ie y (Qbx hy)
  have hT:s'.TypeIs (.ref tt) "tuple":=⟨o,ho,hc⟩
  refine wpAny_bind (wpAny_holding (wpAny_bind (wpAny_tryCatch ?_)))
  unfold Builtin.Dict.pairItems
  refine wpAny_bind (wpAny_typeOf hT ?_)
  rw[if_pos (by decide)]
  refine wpAny_bind (wpAny_seqItems ho hd (wpAny_pure ?_))
  show wpAny _ _ (holding [Value.ref x.2.1,x.2.2] (dictSet S (.ref x.2.1) x.2.2)) _ _ _
  refine wpAny_holding (wpAny_dictSet_heap (knd:=knd) (hsz:=by rw[Qak];have:(10000:Nat)<=sizeLine:=(by decide);lia) ED (hJ _ Ie x (Qab hx)) Ey fun h' BO Ez=>?_)
  have e1:l.take (i+1)=l.take i++[x]:=by rw[Qdp,hx];rfl
  have EE:atKey (l.take i) x.1=none:=by
   unfold atKey
   rw[Option.map_eq_none_iff,List.find?_eq_none]
   intro y hy
   have Ra:((l.take (i+1)).map (·.1)).Nodup:=by rw[Qej];exact Mi.sublist (List.take_sublist _ _)
   rw[e1,XN,Qdq]at Ra
   intro z
   exact Ra.2.2 y.1 (Qav.mpr ⟨y,hy,rfl⟩) x.1 (by simp) (of_decide_eq_true z)
  rw[storedH_new EE,show (x.1,x.2.1,x.2.2)=x from rfl, <-e1]at BO
  refine wpAny_pure ⟨plainId_quiet F.fL _,?_⟩
  have ei:rawInt ((i:Int)+1)= .int ((i+1:Nat):Int) 0:=rfl
  rw[ei]
  refine ih (i+1) _ 0 (by lia) cE (W.frame _ s' _ _ Ma (Qfm _ _) fun b g o e=>?_) (Ck _ _ Ez Ie) BO fun HB Mb Mc=>?_
  ·rw[Ez.2 b fun z:b=S=>hS (z▸g)];exact e
  ·refine hR HB (Moved.trans W.gtrans ((hm.mono wm).then_heap (Qfm _ _) fun b o g e=>?_) Mb) Mc
   rw[Ez.2 b fun z:b=S=>g (z▸XS)];exact e
theorem yU {l:Addr} {its:List Value} {n:Nat} {xs:List (K×Addr×Value)} {Q:Value->Shared->Prop} (hh:A.handled=none) (ED:knd.room A.in1.in1) (hl:s.heap.get? l=some { cls:= .type "list",data:= .seq its.toArray n }) (hlen:its.length=xs.length)
  (hx: ∀(i:Nat) (v:Value),its[i]? =some v-> ∃x,xs[i]? =some x/\yT s.heap v x) (hk: ∀x∈xs,knd.is s.heap x.1 x.2.1) (Rb: ∀(h h':Heap) k a,(∀b o,h.get? b=some o->h'.get? b=some o)->knd.is h k a->knd.is h' k a)
  (Mi:(xs.map (·.1)).Nodup) (hz:xs.length<=10000)
  (h: ∀(h':Heap) (tk:Nat),h'.DictOfH knd s.heap.objs.size xs->(∀b o,s.heap.get? b=some o->h'.get? b=some o)->Q (.ref s.heap.objs.size) { s with heap:=h',toks:=tk }):
  wpAny (model prog w) A (call (.type "dict") [.ref l]) Q E s:=by
 refine callType_codes (Q₁:=fun obj s₁=>obj= .ref s.heap.objs.size/\s₁={ s with heap:=s.heap.push { cls:= .type "dict",data:= .dict #[] } }) F.kt_called_dict (F.kt_typeCall_dict_1 _) F.entry_dict_init (kt_code_dict_new _ ⟨rfl,rfl⟩) ?_
 rintro obj s₁ ⟨rfl,rfl⟩
 have EE:(s.heap.push { cls:= .type "dict",data:= .dict #[] }).DictOfH knd s.heap.objs.size []:=Heap.DictOfH.new s.heap
 have xQ:(s.heap.push { cls:= .type "dict",data:= .dict #[] }).get? l=some { cls:= .type "list",data:= .seq its.toArray n }:=N5 _ hl
 have cE:=Qag hl
 refine ⟨EE.typeIs,F.args_dict_init_2 _ _,?_⟩
 unfold Builtin.«dict.__init__»
 walk_at"W"
 unfold Builtin.Dict.selfAndRest
 refine wpAny_bind (wpAny_notOrdered_dict EE.typeIs ?_)
 show wpAny _ _ (pure (s.heap.objs.size,[Value.ref l])) _ _ _
 walk_at"1"
 show wpAny _ _ (Builtin.Dict.updateFrom "dict.__init__" s.heap.objs.size (.ref l) [] .none) _ _ _
 unfold Builtin.Dict.updateFrom
 refine wpAny_bind (wpAny_typeOf (show Shared.TypeIs { s with heap:=s.heap.push { cls:= .type "dict",data:= .dict #[] } } (.ref l) "list" from ⟨_,xQ,rfl⟩) ?_)
 rw[if_pos (by decide)]
 refine wpAny_bind (uq (s:={ s with heap:=s.heap.push { cls:= .type "dict",data:= .dict #[] } }) xQ hh fun h2 Ko k2=>?_)
 rw[if_pos (by rfl)]
 walk_at"5"
 have m7:h2.IsList l its.toArray:=⟨_,k2 _ _ xQ,rfl,n,rfl⟩
 refine wpAny_bind (wpAny_pyIter_list (s:=⟨h2,s.gens,s.drawn,Ko,s.os⟩) m7 (wpAny_pure ⟨plainId_quiet F.fL _,?_⟩))
 have Mf:l<h2.objs.size:=Qag (k2 _ _ xQ)
 have Me:s.heap.objs.size<h2.objs.size:=Qag (k2 _ _ (Qal s.heap (o:={ cls:= .type "dict",data:= .dict #[] }) rfl))
 have Md:l≠h2.objs.size:=Qaq Mf
 have UQ:s.heap.objs.size∉[h2.objs.size,l]:=fun hm=>by
  rcases Qah.mp hm with z | z
  ·exact absurd z (Qaq Me)
  ·exact absurd (V8.mp z).symm (Qaq cE)
 have W:=(Walks.list (prog:=prog) (w:=w) (A:=A.in1.in1) (show A.in1.in1.handled=none from hh) h2.objs.size l Md its.toArray).toS
 have hsz:its.toArray.size=xs.length:=by simpa using hlen
 rw[hsz]at W
 have hit:(h2.push { cls:= .type "list_iterator",data:= .fields #[.ref l, .int 0 0] }).get? h2.objs.size=some { cls:= .type "list_iterator",data:= .fields #[.ref l, .int 0 0] }:=Qal _ rfl
 have k0: ∀b o,s.heap.get? b=some o->h2.get? b=some o:=fun b o e=>k2 b o (N5 _ e)
 refine EC (A:=A.in1) (knd:=knd) (l:=xs) W UQ ED hz Mi (fun h=> ∀b o,s.heap.get? b=some o->h.get? b=some o) (fun h j x hx=>Rb _ _ _ _ j (hk x hx)) (fun h i v j hv=>?_) (fun s1 s2 hm j b o e=>?_) (fun h1 h3 Ez j b o e=>?_) (xs.length - 0) 0 ⟨h2.push { cls:= .type "list_iterator",data:= .fields #[.ref l, .int 0 0] },s.gens,s.drawn,Ko,s.os⟩ 0 rfl (Qaa _) ⟨⟨_,hit,rfl,rfl⟩,m7.push _⟩ (fun b o e=>N5 _ (k0 b o e)) ?_ fun s' hm i9=>?_
 ·obtain ⟨x,UU,t,o,m,e1,e2,e3,e4⟩:=hx i v (by have:=hv;simpa using this)
  exact ⟨x,UU,t,o,m,e1,j _ _ e2,e3,e4⟩
 ·exact hm.heap b o (fun EB=>absurd (V8.mp EB) (Qaq (Qap (Qag e) (Qcw Me)))) (j b o e)
 ·rw[Ez.2 b (Qaq (Qag e))];exact j b o e
 ·rw[List.take_zero]
  exact DictOfH.frame EE (fun o ho=>N5 _ (k2 _ _ ho)) fun y hy=>by simp at hy
 ·obtain ⟨h',g',d',Ob,G6⟩:=s'
  obtain rfl:g'=s.gens:=hm.gens
  obtain rfl:d'=s.drawn:=hm.drawn
  obtain rfl:G6=s.os:=hm.os
  refine ⟨rfl,h h' Ob i9 fun b o e=>?_⟩
  have hb:=Qag e
  exact hm.heap b o (fun EB=>by
   rcases Qah.mp EB with z | z
   ·exact absurd z (Qaq hb)
   ·exact absurd (V8.mp z) (Qaq (Qfe hb Me))) (N5 _ (k0 b o e))
end
end PySem
namespace L2
open PySem PySem.Spec PyProof.Rows
def jb (H:Hp) (k:Key×List Key) (a:Addr):Prop:= ∃b,H a=some (.tup [kV k.1, .ref b])/\H b=some (.tup (k.2.map kV))
theorem jb.ts {H H':Hp} {k:Key×List Key} {a:Addr} (h:jb H k a) (s:aR H H'):jb H' k a:=let ⟨b,h1,h2⟩:=h;⟨b,s _ _ h1,s _ _ h2⟩
theorem EF {P:Program} {w:World} {H:Hp} {h:Heap} {k:Key×List Key} {a:Addr} (ok:lQ P w H h) (e:jb H k a):(fj (cB P w)).is h k a:=by
 obtain ⟨b,h1,h2⟩:=e
 obtain ⟨_,its,r,o,g1,g2,n,g3⟩:=(show cH P w H h a (.tup [kV k.1, .ref b]) from ok a _ h1)
 obtain ⟨u,v,rfl,r1,r2⟩:=vals2 r
 cases (show v=Value.ref b from r2)
 exact ⟨o,u,b,n,g1,g2,g3,Km r1,L_ ok h2⟩
theorem Ig {P:Program} {w:World} {h h':Heap} (k:Key×List Key) (a:Addr) (hk: ∀b o,h.get? b=some o->h'.get? b=some o) (x:(fj (cB P w)).is h k a):(fj (cB P w)).is h' k a:=by
 obtain ⟨o,v,b,n,g1,g2,g3,g4,o2,its,n2,q1,q2⟩:=x
 exact ⟨o,v,b,n,hk _ _ g1,g2,g3,g4,o2,its,n2,hk _ _ q1,q2⟩
noncomputable abbrev Oc:=(Key×List Key)×Addr×Int
def Ih (a:Oc) (b:(Key×List Key)×Addr×Value):Prop:=a.1=b.1/\a.2.1=b.2.1/\RelV (.int a.2.2) b.2.2
noncomputable def Hb (P:Program) (w:World) (p:Addr) (eL:List Oc):HO:= .ext fun h=> ∃(o:Obj) (es:Array DictEntry) (ep:Nat),h.get? p=some o/\o.ExactDict/\o.data= .dict es ep/\
 ∃xs:List ((Key×List Key)×Addr×Value),es.toList=xs.map (entryOfKey (fj (cB P w)))/\(xs.map (·.1)).Nodup/\Paired Ih eL xs
theorem yV {eL:List Oc} {xs:List ((Key×List Key)×Addr×Value)} (r:Paired Ih eL xs) (k:Key×List Key) {n:Int} (h:(eL.find? fun x=>decide (x.1=k)).map (·.2.2)=some n): ∃a v,atKey xs k=some (a,v)/\RelV (.int n) v:=by
 induction r with
 | nil=>cases h
 | @cons p q ps qs hq t ih=>
  unfold atKey
  rw[Qet]at h ⊢
  have e:q.1=p.1:=hq.1.symm
  by_cases z:p.1=k
  ·rw[show decide (p.1=k)=true from decide_eq_true z]at h
   rw[show decide (q.1=k)=true from decide_eq_true (e.trans z)]
   cases h
   exact ⟨_,_,rfl,hq.2.2⟩
  ·rw[show decide (p.1=k)=false from decide_eq_false z]at h
   rw[show decide (q.1=k)=false from decide_eq_false fun y=>z (e.symm.trans y)]
   exact ih h
theorem wx {eL:List Oc} {xs:List ((Key×List Key)×Addr×Value)} (r:Paired Ih eL xs) {Pr:(Key×List Key)->Addr->Prop} (h: ∀e∈eL,Pr e.1 e.2.1): ∀x∈xs,Pr x.1 x.2.1:=by
 induction r with
 | nil=>intro x hx;cases hx
 | @cons p q ps qs hq t ih=>
  intro x hx
  rcases Qah.mp hx with z | z
  ·subst z
   have:=h p XS
   rw[hq.1,hq.2.1]at this
   exact this
  ·exact ih (fun e he=>h e (kb _ he)) x z
def Mj (P:Program) (w:World) (td ty:TE):TE:=fun σ H Q=>td σ H fun x H1=>ty σ H1 fun y H2=> ∃(p:Addr) (eL:List Oc) (k:Key×List Key) (a:Addr) (n:Int),x= .ref p/\H2 p=some (Hb P w p eL)/\(∀e∈eL,jb H2 e.1 e.2.1)/\y= .ref a/\jb H2 k a/\
 (eL.find? fun x=>decide (x.1=k)).map (·.2.2)=some n/\Q (.int n) H2
section
variable {X:Cx} {o i:Expr} {pos:Pos} {td ty:TE}
theorem wA {P:Program} {w:World} (hP:X.prog=P) (hw:X.w=w) (hu:X.A.units+2<cLine) (ho:PE X o td) (hi:PE X i ty) (hs:QW i):PE X (.Subscript o i pos) (Mj P w td ty):=by
 subst hP hw
 walk_at"g"
 refine Ib PySem.F.slot_dict_getitem.lookup hs (cy (ho pins s σ H _ I h) fun u s1 ⟨x,H1,I1,rx,q1⟩=>cy (hi pins s1 σ H1 _ I1 q1) fun iv s2 ⟨y,H2,I2,ry,p,eL,k,a,n,ex,hp,hk,ey,ha,hl,q2⟩=>?_)
 subst ex ey
 obtain rfl:u=Value.ref p:=rx
 obtain rfl:iv=Value.ref a:=ry
 obtain ⟨⟨ob,es,ep,g1,g2,g3,xs,g4,g5,g6⟩,_,_⟩:cH X.prog X.w H2 s2.heap p (Hb X.prog X.w p eL):=I2.bZ p _ hp
 have dd:s2.heap.DictOfH (fj (cB X.prog X.w)) p xs:=⟨ob,es,ep,g1,g2,g3,g4,wx g6 (Pr:=fun k a=>(fj (cB X.prog X.w)).is s2.heap k a) (fun e he=>EF I2.bZ (hk e he)),g5⟩
 obtain ⟨b,v,hv,rv⟩:=yV g6 k hl
 exact ⟨dd.typeIs,wpAny_getItem_heap (show X.A.units+1+1<cLine from hu) (EF I2.bZ ha) dd hv ⟨.int n,H2,I2.tok _,rv,q2⟩⟩
structure Kp where
 t:Addr
 a:Addr
 k:Key×List Key
 n:Int
noncomputable def Ct (es:List Kp):List Oc:=es.map fun e=>(e.k,e.a,e.n)
structure AG (H:Hp) (e:Kp):Prop where
 tp:H e.t=some (.tup [.ref e.a, .int e.n])
 ky:jb H e.k e.a
def Ml (P:Program) (w:World):List V->Hp->VK->Prop:=fun xs H Q=> ∃(l:Addr) (es:List Kp),xs=[.ref l]/\H l=some (.lst (es.map fun e=> .ref e.t))/\(∀e∈es,AG H e)/\(es.map (·.k)).Nodup/\es.length<=10000/\
 ∀p,H p=none->Q (.ref p) (upd H p (Hb P w p (Ct es)))
theorem AH {P:Program} {w:World} {H:Hp} {h:Heap} (ok:lQ P w H h): ∀{es:List Kp} {its:List Value},Vals (es.map fun e=>V.ref e.t) its->(∀e∈es,AG H e)->
  ∃xs:List ((Key×List Key)×Addr×Value),Paired Ih (Ct es) xs/\xs.map (·.1)=es.map (·.k)/\its.length=xs.length/\(∀(i:Nat) (v:Value),its[i]? =some v-> ∃x,xs[i]? =some x/\yT h v x)/\ ∀x∈xs,(fj (cB P w)).is h x.1 x.2.1
 | [],its,r,hk=>by
  cases r
  exact ⟨[], .nil,rfl,rfl,fun i v h=>by simp at h,fun x hx=>by cases hx⟩
 | e::es,its,r,hk=>by
  cases r with
  | cons r1 r2=>
   rename_i u us
   cases (show u=Value.ref e.t from r1)
   obtain ⟨xs,p1,p2,p3,p4,p5⟩:=AH ok r2 fun e' xR=>hk e' (kb _ xR)
   have Ii:=hk e XS
   obtain ⟨_,vP,r,ob,g1,g2,n,g3⟩:=(show cH P w H h e.t (.tup [.ref e.a, .int e.n]) from ok _ _ Ii.tp)
   obtain ⟨a',v',rfl,q1,q2⟩:=vals2 r
   cases (show a'=Value.ref e.a from q1)
   refine ⟨(e.k,e.a,v')::xs, .cons ⟨rfl,rfl,q2⟩ p1,by rw[Qa7,Qa7,p2],by rw[Qar,Qar,p3],fun i v hv=>?_,fun x hx=>?_⟩
   ·cases i with
    | zero=>cases hv;exact ⟨_,rfl,e.t,ob,n,rfl,g1,g2,g3⟩
    | succ i=>exact p4 i v (by simpa using hv)
   ·rcases Qah.mp hx with z | z
    ·rw[z];exact EF ok Ii.ky
    ·exact p5 x z
theorem yW {P:Program} {w:World} {k:Nat} (hP:X.prog=P) (hw:X.w=w) (hr:ez k X.A) (hc:X.calm=true):cQ X (.type "dict") (Ml P w):=by
 subst hP hw
 walk_at"e"
 obtain ⟨l,es,rfl,hq,hk,Mi,hz,q⟩:=h
 walk_at"x"
 cases (show u=Value.ref l from ru)
 obtain ⟨_,its,n,rv,hl⟩:cH X.prog X.w H s.heap l (.lst (es.map fun e=> .ref e.t)):=I.bZ l _ hq
 obtain ⟨ys,p1,p2,p3,p4,p5⟩:=AH I.bZ rv hk
 have hlen:ys.length<=10000:=by have:=congrArg List.length p2;rw[V6,V6]at this;lia
 refine yU (knd:=fj (cB X.prog X.w)) (I.ok.hd hc) (show X.A.units+1+1+1<cLine by have:=hr.un;lia) hl p3 p4 p5 (fun h1 h2 k a=>Ig k a) (by rw[p2];exact Mi) hlen fun h' tk hd Yg=>?_
 refine ⟨.ref s.heap.objs.size,upd H s.heap.objs.size (Hb X.prog X.w _ _),I.laid (t':=tk) Yg (Sq _) ?_,rfl,q _ I.fresh⟩
 obtain ⟨o,PV,ep,ho,hex,Yh,he,_,hn⟩:=hd
 exact ⟨⟨o,PV,ep,ho,hex,Yh,ys,he,hn,p1⟩,⟨_,ho⟩,fun h1 h2 ⟨o,es,ep,ho,r⟩ k=>⟨o,es,ep,k o ho,r⟩⟩
end
end L2
namespace L2.F2
open PySem PySem.Spec PyProof.Rows
theorem yX:typeLookup (.type "tuple") "__reversed__"=pure none:=by rw[typeLookup_type,builtinLookup_eq_fast];kernel_rfl
theorem EG:isSubtype (.type "tuple") (.type "dict")=pure false:=by rw[isSubtype_type];kernel_rfl
end L2.F2
namespace L2
open PySem PySem.Spec PyProof.Rows
theorem pj (a:Addr) (its:Array Value) (hz:its.size<=sizeLine):Meets (Builtin.«reversed.__new__» ⟨[.type "reversed", .ref a],[]⟩) (fun _ R s=>IsTup s.heap a its/\ ∀tk,R (.ok (.ret (.ref s.heap.objs.size))) { s with heap:=s.heap.push { cls:= .type "reversed",data:= .fields #[.ref a,rawInt ((its.size:Int) - 1)] },toks:=tk }):=by
 refine Meets.of_wp fun prog w A R s h=>?_
 obtain ⟨hT,h⟩:=h
 unfold Builtin.«reversed.__new__»
 refine wpAny_bind (wpAny_of_eq (newClass_reversed _) ?_)
 try dsimp only
 walk_at"q"
 walk_at"q"
 try dsimp only
 refine wpAny_bind (wpAny_specialOf hT.typeIs F2.yX ?_)
 try dsimp only
 walk_at"W"
 show wpAny _ _ (isInstance (.ref a) (.type "dict") >>= _) _ _ _
 refine wpAny_bind (wpAny_isInstance hT.typeIs F2.EG ?_)
 rw[if_neg (by decide)]
 refine wpAny_bind (wpAny_specialOf hT.typeIs slot_tuple_getitem.lookup ?_)
 refine wpAny_of_eq (a:=true) (by first | rfl | kernel_rfl) ?_
 rw[if_neg (by decide)]
 have hn:=eP
 refine wpAny_bind (len_tuple hT (by lia) ?_)
 refine wpAny_bind (wpAny_of_eq (a:=some (its.size:Int)) (by first | rfl | kernel_rfl) ?_)
 show wpAny _ _ (Builtin.SmallTypes.newRecord (Value.type "reversed") [Value.ref a,rawInt ((its.size:Int) - 1)] >>= _) _ _ _
 walk_at"W"
 unfold Builtin.SmallTypes.newRecord
 refine wpAny_newObj_type ?_ (by size_fits)
 exact wpAny_pure ⟨_,rfl,h _⟩
section
variable {prog:Program} {w:World} {A:Around} {E:Value->Shared->Prop} {s:Shared}
theorem pq {a:Addr} {its:Array Value} {Q:Value->Shared->Prop} (hT:IsTup s.heap a its) (hz:its.size<=sizeLine) (h: ∀tk,Q (.ref s.heap.objs.size) { s with heap:=s.heap.push { cls:= .type "reversed",data:= .fields #[.ref a,rawInt ((its.size:Int) - 1)] },toks:=tk }):
  wpAny (model prog w) A (call (.type "reversed") [.ref a]) Q E s:=
 callType_new F2.oS (by decide+kernel) (F.typeCall_reversed_1 _) (F.newCall_reversed_1 _) (fun obj=>by unfold argsOk;kernel_rfl) F.entry_reversed_new (pj a its hz)
  ⟨hT,fun tk=>⟨⟨_,Qal _ rfl,rfl⟩,h tk⟩⟩
def jc (h:Heap) (it a:Addr) (i:Int):Prop:= ∃o,h.get? it=some o/\o.cls= .type "reversed"/\o.data= .fields #[.ref a,rawInt i]
theorem jc.typeIs {it a:Addr} {i:Int} (h:jc s.heap it a i):s.TypeIs (.ref it) "reversed":=let ⟨o,ho,hc,_⟩:=h;⟨o,ho,hc⟩
theorem nc {it a:Addr} {i:Int} {Q:Value->Shared->Prop} (hit:jc s.heap it a i) (h:Q (.ref it) s):wpAny (model prog w) A (pyIter (.ref it)) Q E s:=by
 refine wpAny_pyIter_slot hit.typeIs F2.eZ (wpAny_call_entry F2.eZ hit.typeIs F2.i5 ?_ (F2.iK _))
 show wpAny _ _ (ret (.ref it)) _ _ s
 exact wpAny_pure ⟨_,rfl,"reversed",_,hit.typeIs,F2.bD.lookup,h⟩
theorem mh {it a:Addr} {i:Nat} {its:Array Value} {v:Value} {Q:Option Value->Shared->Prop} (hit:jc s.heap it a (i:Int)) (hT:IsTup s.heap a its) (hx:its[i]? =some v) (hz:its.size<=sizeLine)
  (hQ: ∀h' tk,jc h' it a ((i:Int) - 1)->Heap.SameBut it s.heap h'->Q (some v) { s with heap:=h',toks:=tk }):wpAny (model prog w) A (pyNext (.ref it)) Q E s:=by
 obtain ⟨o,ho,hc,hd⟩:=id hit
 have hn:=eP
 have hi:i<its.size:=(Array.getElem?_eq_some_iff.mp hx).1
 unfold pyNext
 refine wpAny_bind (wpAny_attempt (wpAny_callSpecial?_slot (name:=Str.ofString "__next__") hit.typeIs F2.bD
  (wpAny_call_entry F2.bD hit.typeIs F2.eA ?_ (F2.dG _))))
 unfold Builtin.«reversed.__next__»
 walk_at"B"
 try dsimp only
 refine wpAny_bind (wpAny_field ho hd (x:= .ref a) rfl ?_)
 walk_at"v"
 show wpAny _ _ (if (i:Int)<0 then _ else _) _ _ s
 rw[if_neg (by lia)]
 refine wpAny_bind (wpAny_specialOf hT.typeIs slot_tuple_getitem.lookup ?_)
 show wpAny _ _ (if (some (Value.builtin _)).isNone=true then _ else _) _ _ s
 rw[if_neg (by decide)]
 refine wpAny_bind (wpAny_mkInt ?_)
 refine wpAny_bind (wpAny_attempt (getItem_tuple (j:=i) hT (by lia) (by lia) (by rw[seqIndex_of (by lia) (by lia),XQ]) hx ?_))
 show wpAny _ _ (field (Value.ref it) 1 >>= _) _ _ _
 walk_at"v"
 show wpAny _ _ (setField (Value.ref it) 1 (rawInt ((i:Int) - 1)) >>= _) _ _ _
 walk_at"X"
 refine wpAny_pure ⟨_,rfl,wpAny_pure (hQ _ _ ?_ (Qeg ..))⟩
 exact ⟨_,Qbv _ ho (Obj.isFreed_of_fields (Obj.data_mapFields hd _)),(Obj.cls_mapFields ..).trans hc,by
  rw[Obj.data_mapFields hd];simp⟩
theorem nL {it a:Addr} {Q:Option Value->Shared->Prop} (hh:A.handled=none) (hit:jc s.heap it a (-1))
  (hQ: ∀h',Heap.ExtBut it s.heap h'->Q none { s with heap:=h' }):wpAny (model prog w) A (pyNext (.ref it)) Q E s:=by
 obtain ⟨o,ho,hc,hd⟩:=id hit
 unfold pyNext
 refine wpAny_bind (wpAny_attempt (wpAny_callSpecial?_slot (name:=Str.ofString "__next__") hit.typeIs F2.bD
  (wpAny_call_entry F2.bD hit.typeIs F2.eA ?_ (F2.dG _))))
 unfold Builtin.«reversed.__next__»
 walk_at"B"
 try dsimp only
 refine wpAny_bind (wpAny_field ho hd (x:= .ref a) rfl ?_)
 refine wpAny_bind (wpAny_field ho hd (x:=rawInt (-1)) rfl ?_)
 show wpAny _ _ (if (-1:Int)<0 then _ else _) _ _ s
 rw[if_pos (by decide)]
 walk_at"5"
 walk_at"W"
 show wpAny _ _ (setField (Value.ref it) 1 (rawInt (-1)) >>= fun _=>setField (Value.ref it) 0 .none) _ _ _
 walk_at"X"
 refine wpAny_setField (Qbv _ ho (Obj.isFreed_of_fields (Obj.data_mapFields hd _))) (Obj.data_mapFields hd _) (by simp) ?_
 first
 | show wpAny _ _ (newExc (.type "StopIteration") [] >>= _) _ _ _
 |(refine wpAny_bind ?_;show wpAny _ _ (newExc (.type "StopIteration") [] >>= _) _ _ _)
 walk_at"W"
 simp only[newExc,newTuple]
 refine wpAny_bind (wpAny_newObj_type ?_ (by size_fits))
 walk_at"6"
 refine wpAny_newObj_type ?_ (by size_fits)
 simp only[raiseNew]
 refine wpAny_bind (wpAny_handled ?_)
 first | rw[show A.in1.handled=none from hh] | rw[hh]
 refine wpAny_bind (wpAny_pure (wpAny_throw ?_))
 refine wpAny_bind (wpAny_isInstance (T:="StopIteration") (b:=true) ⟨_,Qal _ rfl,rfl⟩ isSubtype_stop ?_)
 refine wpAny_pure (hQ _ fun b ob hb e=>?_)
 refine N5 _ (N5 _ ?_)
 exact (Qa6 _ _ (Ne.symm hb)).trans ((Qa6 _ _ (Ne.symm hb)).trans e)
end
noncomputable def Mm (K:PySem.W.Frag) (a:Addr) (n:Nat):It:=
 ⟨fun i H=> ∃xs x,bE K H a xs/\xs.length=n/\xs.reverse[i]? =some x,fun i H x H'=>H'=H/\ ∀xs,bE K H a xs->xs.reverse[i]? =some x,fun i H=>i=n⟩
theorem Cu {P:Program} {w:World} {K:PySem.W.Frag} {tg:Expr} (a it:Addr) (n:Nat) (hz:n<=sizeLine):Turn P w K tg (Mm K a n) [it] it (fun i h=>i<=n/\jc h it a ((n:Int) - 1 - (i:Int))) where
 mem:=by simp
 obj:=fun i h st b hb=>by
  have e:b=it:=by simpa using hb
  subst e
  obtain ⟨_,o,e,c,d⟩:=st
  walk_at"L"
 keep:=fun i h h' st k=>let ⟨q,o,e,r⟩:=st;⟨q,o,k it (by simp) o e,r⟩
 item:=by
  walk_at"b"
  subst hP hw hK
  obtain ⟨xs,x,hq,hl,hx⟩:=hg
  obtain ⟨its,rv,p,Rc⟩:=I.tuple hq
  have UW:=rv.length
  have hi:i<n:=by have:=(LK.mp hx).1;rw[Qaz]at this;lia
  walk_at"d"
  obtain ⟨_,st⟩:=st
  have e:(n:Int) - 1 - (i:Int)=((n - 1 - i:Nat):Int):=by lia
  rw[e]at st
  rw[Qcj (by lia),hl]at hx
  obtain ⟨u,hu,ru⟩:=rv.get hx
  refine mh (its:=its.toArray) (v:=u) st p (by simpa using hu) (by rw[XR];lia) fun h' tk iO sb=>?_
  have I1:Inv X pins σ H { s with heap:=h',toks:=tk }:=I.turned (fun b o hb e=>(sb.2 b hb).trans e) f0 f1 f3 f4 f5
  obtain ⟨o,e1,cc,d⟩:=id iO
  refine ⟨u,rfl,rD (s:={ s with heap:=h',toks:=tk }) e1 cc d (by decide) ⟨x,H,I1,ru,⟨rfl,fun ys hy=>?_⟩,⟨hi,?_⟩,fun b hb=>(hf b hb).1⟩⟩
  ·rw[I.lT hy hq,Qcj (by lia),hl];exact hx
  ·have e2:(n:Int) - 1 - ((i+1:Nat):Int)=((n - 1 - i:Nat):Int) - 1:=by lia
   rw[e2]
   exact iO
 done:=by
  walk_at"b"
  subst hP hw hK
  walk_at"d"
  obtain ⟨hi,st⟩:=st
  have Kh:i=n:=hg
  have e:(n:Int) - 1 - (i:Int)= -1:=by lia
  rw[e]at st
  exact nL (I.ok.hd hc) st fun h' eb=>⟨rfl,I.turned (t':=s.toks) (fun b o hb e=>eb b o hb e) f0 f1 f3 f4 f5⟩
 self:=fun _ _ _ _ _ st h=>nc st.2 h
section
variable {X:Cx} {tg:Expr}
def Rf (K:PySem.W.Frag) (ta:TA):TI:=fun σ H R=>ta σ H fun vs H1=> ∃a xs,vs=[.ref a]/\bE K H1 a xs/\R (Mm K a xs.length) H1
theorem Ij (K:PySem.W.Frag) (hK:X.K=K) {a:Expr} {ta:TA} {p pos:Pos} (hg:Gl X "reversed") (hm:X.mg "reversed"=none) (ha:PA X [a] ta) (hs:starEach [a] X.env=[(false,eval a X.env)]:=by rfl):PI X tg (.Call (.Name "reversed" p) [a] [] pos) (Rf K ta):=by
 subst hK
 walk_at"3"
 refine Call_ (fR I hg hm boot_reversed (Qbh (cy (ha pos pins s σ H _ I h) fun us s1 ⟨vs,H1,I1,r1,q1⟩=>?_) hs rfl))
 obtain ⟨b,xs,rfl,hq,q⟩:=q1
 obtain ⟨u,rfl,ru⟩:=vals1 r1
 cases (show u=Value.ref b from ru)
 obtain ⟨its,rv,pl,hz⟩:=I1.tuple hq
 have hl:=rv.length
 have hsz:its.toArray.size=xs.length:=by rw[XR];lia
 refine pq pl (by lia) fun tk=>?_
 rw[hsz]
 have hit:jc (s1.heap.push { cls:= .type "reversed",data:= .fields #[.ref b,rawInt ((xs.length:Int) - 1)] }) s1.heap.objs.size b ((xs.length:Int) - 1):=⟨_,Qal _ rfl,rfl,rfl⟩
 refine nc hit ?_
 refine ⟨s1.heap.objs.size,[s1.heap.objs.size],_,_,H1,rfl,I1.kept (t':=tk) fun b o e=>N5 _ e,Cu b _ xs.length hz,⟨Qaa _,?_⟩,fun b hb=>?_,q⟩
 ·have e:(xs.length:Int) - 1 - ((0:Nat):Int)=(xs.length:Int) - 1:=by simp
  rw[e]
  exact hit
 ·have e:b=s1.heap.objs.size:=by simpa using hb
  subst e
  walk_at"H"
end
theorem Cv {K:PySem.W.Frag} {a:Addr} {xs:List V} {σc:St} {g:TG} {tc:TT} {te:TE} {Q:VK} {H1:Hp} (Pv:Nat->List V->Hp->Prop) (hn:xs.length<sizeLine) (hl: ∀i acc H,Pv i acc H->bE K H a xs) (h0:Pv 0 [] H1)
  (hs: ∀(i:Nat) (x:V) (acc:List V) (H:Hp) (Nx:List V->Hp->Prop),i<xs.length->xs.reverse[i]? =some x->acc.length<=i->Pv i acc H->(∀b7 H',b7.length<=i+1->Pv (i+1) b7 H'->Nx b7 H')->
   g x σc H fun σ2 H2=>Wk σc σ2/\tc σ2 H2 fun b H3=>if b=true then te σ2 H3 fun v H4=>Nx (acc++[v]) H4 else Nx acc H3)
  (hd: ∀acc H D,acc.length<=xs.length->Pv xs.length acc H->H D=none->Q (.ref D) (upd H D (.lst acc))):kL (Mm K a xs.length) σc g tc te Q H1:=
 kM (xs:=fun i x=>xs.reverse[i]? =some x) Pv hn (fun i acc H h p=>⟨xs,xs.reverse[i]'(by rw[Qaz];exact h),hl i acc H p,rfl,LJ _⟩) (fun acc H p=>rfl) (fun i acc H x H' h p y=>⟨y.1,y.2 xs (hl i acc H p)⟩) h0 hs hd
theorem yY {K:PySem.W.Frag} {a:Addr} {xs:List V} {σc:St} {g:TG} {tc:TT} {te:TE} {Q:VK} {H1:Hp} (Pv:Nat->List V->Hp->Prop) (hn:xs.length<sizeLine) (hl: ∀i acc H,Pv i acc H->aZ K H a xs) (h0:Pv 0 [] H1)
  (hs: ∀(i:Nat) (x:V) (acc:List V) (H:Hp) (T:Addr) (Nx:List V->Hp->Prop),xs[i]? =some x->acc.length<=i->Pv i acc H->H T=none->(∀b7 H',b7.length<=i+1->Pv (i+1) b7 H'->Nx b7 H')->
   g (.ref T) σc (upd H T (.tup [.int i,x])) fun σ2 H2=>Wk σc σ2/\tc σ2 H2 fun b H3=>if b=true then te σ2 H3 fun v H4=>Nx (acc++[v]) H4 else Nx acc H3)
  (hd: ∀acc H D,acc.length<=xs.length->Pv xs.length acc H->H D=none->Q (.ref D) (upd H D (.lst acc))):kL (Cg K a) σc g tc te Q H1:=by
 refine ⟨fun i m acc H=>m=xs.length - i/\i<=xs.length/\acc.length<=i/\Pv i acc H,⟨xs.length,by simp,Qaa _,Sq _,h0⟩,?_⟩
 rintro i m acc H ⟨rfl,hi,x_,p⟩
 refine ⟨by lia,?_⟩
 by_cases cE:i<xs.length
 ·refine .inr ⟨⟨xs,xs[i],hl i acc H p,LJ cE⟩,fun x H' y=>?_⟩
  obtain ⟨T,z,hy,rfl,hT,rfl⟩:=y
  exact hs i z acc _ T (fun b7 H'=> ∃m',m'<xs.length - i/\(m'=xs.length - (i+1)/\i+1<=xs.length/\b7.length<=i+1/\Pv (i+1) b7 H')) (hy xs (hl i acc H p)) x_ p hT fun b7 H' h1 h2=>⟨xs.length - (i+1),by lia,rfl,cE,h1,h2⟩
 ·have e:i=xs.length:=by lia
  subst e
  exact .inl ⟨⟨xs,hl _ acc H p,rfl⟩,fun D hD=>hd acc H D x_ p hD⟩
theorem EH {A:Around} {k:Nat} (hr:ez k A):A.units+2<cLine:=by have:=hr.un;lia
section
variable {X:Cx}
theorem EI {i:Nat} (h:(i:Int)<2 ^ 63):Builtin.List.listFitsIndex (i:Int)=true:=by
 unfold Builtin.List.listFitsIndex
 rw[Qbr]
 exact ⟨decide_eq_true (by lia),decide_eq_true (by lia)⟩
def Ik:V->List V->Hp->VK->Prop:=fun x vs H Q=> ∃(l:Addr) (xs:List V) (i:Nat) (y:V),x= .ref l/\vs=[.int i,y]/\H l=some (.lst xs)/\i<=xs.length/\xs.length<sizeLine/\Q .dY (upd H l (.lst (xs.take i++y::xs.drop i)))
theorem Cw:Qw X "list.insert" Ik:=by
 walk_at"G"
 obtain ⟨l,xs,i,y,rfl,rfl,hH,hi,hz,q⟩:=h
 cases rx
 obtain ⟨a,b,rfl,⟨t,rfl⟩,rb⟩:=vals2 rv
 walk_at"z"
 have hn:=eP
 have hf: ¬(!Builtin.List.listFitsIndex (i:Int))=true:=by rw[EI (by lia)];decide
 have hsz:its.toArray.size<=sizeLine:=by rw[XR];lia
 generalize hI:(i:Int)=I' at hf
 have hm:=PySem.AutoSeq1.list_insert_list_int_val_1 l its.toArray n I' t b hf hsz
 refine call_meets F.slot_list_insert ⟨_,e,rfl⟩ F.entry_list_insert (F.args_list_insert_3 _ _ _) hm ⟨e,?_⟩
 clear hm
 refine ⟨.dY,_,I.D9 (its':=its.take i++b::its.drop i) hH e ?_ ?_ ?_,rfl,q⟩
 ·have e1:(if I'<0 then (I'+(its.toArray.size:Int)).toNat else min I'.toNat its.toArray.size)=i:=by rw[<-hI,if_neg (by lia),XQ,XR];lia
  show ((its.toArray.extract 0 (if I'<0 then (I'+(its.toArray.size:Int)).toNat else min I'.toNat its.toArray.size)).push b++its.toArray.extract (if I'<0 then (I'+(its.toArray.size:Int)).toNat else min I'.toNat its.toArray.size))=_
  rw[e1]
  apply Qcv.mp
  simp
  exact Qau (by rw[Qat];exact Sq _)
 ·have h1:Vals (xs.take i) (its.take i):=r.take i
  exact h1.append (.cons rb (r.drop i))
 ·rw[V7,Qar,Qak,Qat];lia
end
end L2
namespace L2
open PySem PySem.Spec PyProof.Rows PySem.W
section
def Ev (lt:Nat->Nat->Bool) (n:Nat) {α:Type}:KasT α->(α->Prop)->Prop
 | .ret a,Q=>Q a
 | .ask i j k,Q=>i<n/\j<n/\Ev lt n (k (lt i j)) Q
theorem Ev.bind {lt:Nat->Nat->Bool} {n:Nat} {α β:Type} {f:α->KasT β} {Q:β->Prop}: ∀{t:KasT α},Ev lt n t (fun a=>Ev lt n (f a) Q)->Ev lt n (t.bind f) Q
 | .ret _,h=>h
 | .ask _ _ _,⟨a,b,h⟩=>⟨a,b,Ev.bind h⟩
theorem Ev.wp {lt:Nat->Nat->Bool} {n:Nat} {α:Type} {cmp:Nat->Nat->(Bool->Shared->Prop)->Shared->Prop} {s:Shared} (hc: ∀i j,i<n->j<n-> ∀C:Bool->Shared->Prop,C (lt i j) s->cmp i j C s) {Q:α->Prop} {G:α->Shared->Prop} (hq: ∀a,Q a->G a s): ∀{t:KasT α},Ev lt n t Q->t.kasWp cmp G s
 | .ret a,h=>hq a h
 | .ask i j k,⟨a,b,h⟩=>hc i j a b _ (Ev.wp hc hq h)
structure Cy (lt:Nat->Nat->Bool) (n:Nat):Prop where
 tr: ∀a b c,lt b a=false->lt c b=false->lt c a=false
 sm: ∀a b,lt a b=true->lt b a=false
def Pm (p:Array Nat) (n:Nat):Prop:=p.Perm (List.range n).toArray
theorem gd (p:Array Nat) (i:Nat):p.getD i 0=p[i]?.getD 0:=by simp[Array.getD_eq_getD_getElem?]
theorem Pm.size {p:Array Nat} {n:Nat} (h:Pm p n):p.size=n:=by have:=h.size_eq;simpa using this
theorem Pm.lt {p:Array Nat} {n:Nat} (h:Pm p n) (hn:0<n) (i:Nat):p.getD i 0<n:=by
 rw[gd]
 by_cases hi:i<p.size
 ·rw[Qed hi]
  have m:p[i]∈p:=Array.getElem_mem hi
  have:=h.mem_iff.mp m
  simpa using this
 ·rw[Array.getElem?_eq_none (by lia)];exact hn
theorem Cy.ir {lt:Nat->Nat->Bool} {n:Nat} (T:Cy lt n) (a:Nat):lt a a=false:=by
 cases h:lt a a with
 | false=>rfl
 | true=>rw[T.sm _ _ h]at h;cases h
section
variable {lt:Nat->Nat->Bool} {n:Nat}
def qU (lt:Nat->Nat->Bool) (p:Array Nat) (k:Nat):Prop:= ∀i j,i<j->j<k->lt (p.getD j 0) (p.getD i 0)=false
def ur (lt:Nat->Nat->Bool) (p:Array Nat) (k:Nat):Prop:= ∀i j,i<j->j<k->lt (p.getD i 0) (p.getD j 0)=false
theorem yZ (T:Cy lt n) (hn:0<n) {p:Array Nat} (hp:Pm p n) {Q:Nat->Prop}: ∀f m,1<=m->qU lt p m->(∀m',m<=m'->m'<=m+f->qU lt p m'->(m'<m+f->lt (p.getD m' 0) (p.getD (m' - 1) 0)=true)->Q m')->Ev lt n (kas_asc p f m) Q
 | 0,m,_,up,q=>q m (Sq _) (Sq _) up (fun h=>absurd h (by lia))
 | f+1,m,h1,up,q=>by
  refine ⟨hp.lt hn _,hp.lt hn _,?_⟩
  cases c:lt (p.getD m 0) (p.getD (m - 1) 0) with
  | true=>
   walk_at"S"
   rw[if_pos rfl]
   exact q m (Sq _) (by lia) up (fun _=>c)
  | false=>
   walk_at"O"
   rw[if_neg Qai]
   refine yZ T hn hp f (m+1) (by lia) (fun i j yj hj=>?_) (fun m' a b u g=>q m' (by lia) (by lia) u (fun z=>g (by lia)))
   by_cases UX:j<m
   ·exact up i j yj UX
   ·have UY:j=m:=by lia
    subst UY
    by_cases hi:i=j - 1
    ·subst hi;exact c
    ·exact T.tr _ _ _ (up i (j - 1) (by lia) (by lia)) c
def uu (lt:Nat->Nat->Bool) (p:Array Nat) (a b:Nat):Prop:= ∀i j,a<=i->i<b->a<=j->j<b->lt (p.getD i 0) (p.getD j 0)=false
theorem uu.one (T:Cy lt n) (p:Array Nat) (m:Nat):uu lt p m (m+1):=fun i j h1 h2 h3 h4=>by
 have e1:i=m:=by lia
 have e2:j=m:=by lia
 rw[e1,e2];exact T.ir _
theorem pA {p:Array Nat} (hp:Pm p n) (i j:Nat):Pm (kas_rev p i j) n:=(mirror_perm p i j _).trans hp
theorem gm {p:Array Nat} {a m:Nat} (ha:a<=m) (hm:m<=p.size) (k:Nat):(kas_rev p a m).getD k 0=if a<=k/\k<m then p.getD (a+m - 1 - k) 0 else p.getD k 0:=by
 rw[gd,gd,gd]
 unfold kas_rev
 rw[getElem?_mirror_all hm]
 by_cases h:a<=k/\k<m
 ·rw[if_pos h,if_pos h]
 ·rw[if_neg h,if_neg h]
theorem y0 {p:Array Nat} {a m:Nat} (ha:a<=m) (hm:m<=p.size) (dn:ur lt p m) (eq:uu lt p a m):ur lt (kas_rev p a m) m:=fun i j yj hj=>by
 rw[gm ha hm,gm ha hm]
 by_cases h1:a<=i
 ·rw[if_pos ⟨h1,by lia⟩,if_pos ⟨by lia,hj⟩]
  exact eq _ _ (by lia) (by lia) (by lia) (by lia)
 ·rw[if_neg (fun z=>h1 z.1)]
  by_cases h2:a<=j
  ·rw[if_pos ⟨h2,hj⟩];exact dn _ _ (by lia) (by lia)
  ·rw[if_neg (fun z=>h2 z.1)];exact dn _ _ yj hj
theorem kW (T:Cy lt n) {p:Array Nat} {m:Nat} (h1:1<=m) (dn:ur lt p m) (c:lt (p.getD (m - 1) 0) (p.getD m 0)=false):ur lt p (m+1):=fun i j yj hj=>by
 by_cases UX:j<m
 ·exact dn i j yj UX
 ·have UY:j=m:=by lia
  subst UY
  by_cases hi:i=j - 1
  ·subst hi;exact c
  ·exact T.tr _ _ _ c (dn i (j - 1) (by lia) (by lia))
theorem n_ (T:Cy lt n) (hn:0<n) {Q:Array Nat×Nat×Nat->Prop}: ∀f (p:Array Nat) m q,Pm p n->q+1<=m->m+f<=n->ur lt p m->uu lt p (m - (q+1)) m->(∀p' m' q',m<=m'->m'<=m+f->Pm p' n->q'+1<=m'->ur lt p' m'->uu lt p' (m' - (q'+1)) m'->Q (p',m',q'))->Ev lt n (kas_desc f p m q) Q
 | 0,p,m,q,hp,hq,_,dn,eq,k=>k p m q (Sq _) (Sq _) hp hq dn eq
 | f+1,p,m,q,hp,hq,hf,dn,eq,k=>by
  have hs:=hp.size
  refine ⟨hp.lt hn _,hp.lt hn _,?_⟩
  cases c:lt (p.getD m 0) (p.getD (m - 1) 0) with
  | true=>
   have c2:=T.sm _ _ c
   walk_at"S"
   rw[if_pos rfl]
   have one: ∀p':Array Nat,uu lt p' (m+1 - (0+1)) (m+1):=fun p'=>uu.one T p' m
   by_cases h:q>0
   ·rw[if_pos h]
    have d2:=y0 (a:=m - (q+1)) (by lia) (by lia) dn eq
    refine n_ T hn f _ (m+1) 0 (pA hp _ _) (by lia) (by lia) (kW T (by lia) d2 ?_) (one _) (fun p' m' q' a b=>k p' m' q' (by lia) (by lia))
    rw[gm (by lia) (by lia),gm (by lia) (by lia),if_pos ⟨by lia,by lia⟩,if_neg (by lia)]
    by_cases e:m - (q+1)+m - 1 - (m - 1)=m - 1
    ·rw[e];exact c2
    ·exact T.tr _ _ _ c2 (dn _ _ (by lia) (by lia))
   ·rw[if_neg h]
    exact n_ T hn f p (m+1) 0 hp (by lia) (by lia) (kW T (by lia) dn c2) (one _) (fun p' m' q' a b=>k p' m' q' (by lia) (by lia))
  | false=>
   walk_at"O"
   rw[if_neg Qai]
   refine ⟨hp.lt hn _,hp.lt hn _,?_⟩
   cases d:lt (p.getD (m - 1) 0) (p.getD m 0) with
   | true=>
    walk_at"S"
    rw[if_pos rfl]
    exact k p m q (Sq _) (by lia) hp hq dn eq
   | false=>
    walk_at"O"
    rw[if_neg Qai]
    refine n_ T hn f p (m+1) (q+1) hp (by lia) (by lia) (kW T (by lia) dn d) (fun i j h1 h2 h3 h4=>?_) (fun p' m' q' a b=>k p' m' q' (by lia) (by lia))
    have up: ∀i,m - (q+1)<=i->i<m->lt (p.getD i 0) (p.getD m 0)=false/\lt (p.getD m 0) (p.getD i 0)=false:=fun i g1 g2=>⟨T.tr _ _ _ d (eq i (m - 1) g1 g2 (by lia) (by lia)),T.tr _ _ _ (eq (m - 1) i (by lia) (by lia) g1 g2) c⟩
    by_cases g1:i<m
    ·by_cases g2:j<m
     ·exact eq i j (by lia) g1 (by lia) g2
     ·rw[show j=m by lia];exact (up i (by lia) g1).1
    ·rw[show i=m by lia]
     by_cases g2:j<m
     ·exact (up j (by lia) g2).2
     ·rw[show j=m by lia];exact T.ir _
theorem wB (T:Cy lt n) (hn:0<n) {p:Array Nat} (hp:Pm p n) {m:Nat} (h1:1<=m) (hm:m<=n) (dn:ur lt p m) {Q:Nat×Array Nat->Prop} (q: ∀m' p',1<=m'->m'<=n->Pm p' n->qU lt p' m'->Q (m',p')):Ev lt n (kas_tail3 m n p) Q:=by
 refine Ev.bind (yZ T hn (pA hp 0 m) (n - m) m h1 (fun i j yj hj=>?_) (fun m' a b u _=>q m' _ (by lia) (by lia) (pA hp 0 m) u))
 have hs:=hp.size
 rw[gm (Qaa _) (by lia),gm (Qaa _) (by lia),if_pos ⟨Qaa _,hj⟩,if_pos ⟨Qaa _,by lia⟩]
 exact dn _ _ (by lia) (by lia)
theorem AI (T:Cy lt n) (hn:0<n) {p:Array Nat} (hp:Pm p n) {m:Nat} (hm:m+1<=n) (dn:ur lt p (m+1)) {Q:Nat×Array Nat->Prop} (q: ∀m' p',1<=m'->m'<=n->Pm p' n->qU lt p' m'->Q (m',p')):Ev lt n (kas_descPart m n p) Q:=by
 refine Ev.bind (n_ T hn (n - (m+1)) p (m+1) 0 hp (by lia) (by lia) dn (uu.one T p m) (fun p' m' q' a b xS N4 Ws Rg=>?_))
 have hs:=xS.size
 show Ev lt n (if q'>0 then kas_tail3 m' n (kas_rev p' (m' - (q'+1)) m') else kas_tail3 m' n p') Q
 by_cases h:q'>0
 ·rw[if_pos h]
  exact wB T hn (pA xS _ _) (by lia) (by lia) (y0 (by lia) (by lia) Ws Rg) q
 ·rw[if_neg h]
  exact wB T hn xS (by lia) (by lia) Ws q
theorem EJ (T:Cy lt n) (hn:0<n) {p:Array Nat} (hp:Pm p n) {Q:Nat×Array Nat->Prop} (q: ∀m' p',1<=m'->m'<=n->Pm p' n->qU lt p' m'->Q (m',p')):Ev lt n (kas_count n p) Q:=by
 have hs:=hp.size
 refine Ev.bind (yZ T hn hp (n - 1) 1 (Sq _) (fun i j yj hj=>absurd hj (by lia)) (fun m a b u g=>?_))
 by_cases e:m=n
 ·rw[if_pos (by simpa using e)]
  exact q m p a (by lia) hp u
 ·rw[if_neg (by simpa using e)]
  have cE:=T.sm _ _ (g (by lia))
  by_cases h1:m>1
  ·rw[if_pos h1]
   refine ⟨hp.lt hn _,hp.lt hn _,?_⟩
   cases c:lt (p.getD 0 0) (p.getD (m - 1) 0) with
   | true=>
    walk_at"S"
    rw[if_pos rfl]
    exact q m p a (by lia) hp u
   | false=>
    walk_at"O"
    rw[if_neg Qai]
    have lo: ∀i,i<m->lt (p.getD i 0) (p.getD 0 0)=false:=fun i hi=>by
     by_cases z:i=0
     ·rw[z];exact T.ir _
     ·exact u 0 i (by lia) hi
    have HS: ∀j,j<m->lt (p.getD (m - 1) 0) (p.getD j 0)=false:=fun j hj=>by
     by_cases z:j=m - 1
     ·rw[z];exact T.ir _
     ·exact u j (m - 1) (by lia) (by lia)
    have eq:uu lt p 0 m:=fun i j _ h2 _ h4=>T.tr _ _ _ (T.tr _ _ _ (HS j h4) c) (lo i h2)
    have d2:ur lt (kas_rev p 0 m) m:=y0 (Qaa _) (by lia) (fun i j yj hj=>eq i j (Qaa _) (by lia) (Qaa _) hj) eq
    refine AI T hn (pA hp 0 m) (by lia) (kW T (by lia) d2 ?_) q
    rw[gm (Qaa _) (by lia),gm (Qaa _) (by lia),if_pos ⟨Qaa _,by lia⟩,if_neg (by lia)]
    exact T.tr _ _ _ cE (eq _ _ (Qaa _) (by lia) (Qaa _) (by lia))
  ·rw[if_neg h1]
   have em:m=1:=by lia
   subst em
   exact AI T hn hp (by lia) (kW T (Sq _) (fun i j yj hj=>absurd hj (by lia)) cE) q
theorem pB (T:Cy lt n) (hn:0<n) {p:Array Nat} (hp:Pm p n) {k:Nat} (up:qU lt p k) {Q:Nat->Prop}: ∀f l r,l<=r->r<=k->r - l<=f->(∀i,i<l->lt (p.getD k 0) (p.getD i 0)=false)->(∀i,r<=i->i<k->lt (p.getD i 0) (p.getD k 0)=false)->(∀l',l'<=k->(∀i,i<l'->lt (p.getD k 0) (p.getD i 0)=false)->(∀i,l'<=i->i<k->lt (p.getD i 0) (p.getD k 0)=false)->Q l')->Ev lt n (kas_place p k f l r) Q
 | 0,l,r,h1,h2,hf,a,b,q=>q l (by lia) a (fun i hi hk=>b i (by lia) hk)
 | f+1,l,r,h1,h2,hf,a,b,q=>by
  unfold kas_place
  by_cases e:l ≥ r
  ·rw[if_pos e]
   exact q l (by lia) a (fun i hi hk=>b i (by lia) hk)
  ·rw[if_neg e]
   refine ⟨hp.lt hn _,hp.lt hn _,?_⟩
   cases c:lt (p.getD k 0) (p.getD ((l+r) / 2) 0) with
   | true=>
    walk_at"S"
    rw[if_pos rfl]
    refine pB T hn hp up f l _ (by lia) (by lia) (by lia) a (fun i hi hk=>?_) q
    have c2:=T.sm _ _ c
    by_cases ei:i=(l+r) / 2
    ·rw[ei];exact c2
    ·exact T.tr _ _ _ c2 (up ((l+r) / 2) i (by lia) hk)
   | false=>
    walk_at"O"
    rw[if_neg Qai]
    refine pB T hn hp up f _ r (by lia) h2 (by lia) (fun i hi=>?_) b q
    by_cases ei:i=(l+r) / 2
    ·rw[ei];exact c
    ·exact T.tr _ _ _ (up i ((l+r) / 2) (by lia) (by lia)) c
theorem AJ {p:Array Nat} {k l:Nat} (hk:k<p.size) (hl:l<=k) (i:Nat):(bubble p k (k - l)).getD i 0=if i=l then p.getD k 0 else if l<i/\i<=k then p.getD (i - 1) 0 else p.getD i 0:=by
 rw[gd,getElem?_bubble hk _ (by lia),gd,gd,gd]
 have e:k - (k - l)=l:=by lia
 rw[e]
 repeat' split
 all_goals rfl
theorem EK (T:Cy lt n) (hn:0<n) {Q:Array Nat->Prop}: ∀f (p:Array Nat) k,Pm p n->qU lt p k->k+f<=n->(∀p',Pm p' n->qU lt p' (k+f)->Q p')->Ev lt n (kas_bin f p k) Q
 | 0,p,k,hp,up,_,q=>q p hp up
 | f+1,p,k,hp,up,hk,q=>by
  refine Ev.bind (pB T hn hp up k 0 k (Qaa _) (Sq _) (by lia) (fun i h=>absurd h (Qco _)) (fun i h1 h2=>absurd h1 (by lia)) (fun l hl a b=>?_))
  have hs:=hp.size
  refine EK T hn f _ (k+1) ((bubble_perm p k _).trans hp) (fun i j yj hj=>?_) (by lia) (fun p' g u=>q p' g (by rwa [show k+(f+1)=k+1+f by lia]))
  rw[AJ (by lia) hl,AJ (by lia) hl]
  by_cases ej:j=l
  ·rw[if_pos ej,if_neg (by lia),if_neg (by lia)]
   exact a i (by lia)
  ·rw[if_neg ej]
   by_cases Yi:l<j
   ·rw[if_pos ⟨Yi,by lia⟩]
    by_cases ei:i=l
    ·rw[if_pos ei];exact b (j - 1) (by lia) (by lia)
    ·rw[if_neg ei]
     by_cases L3:l<i
     ·rw[if_pos ⟨L3,by lia⟩];exact up _ _ (by lia) (by lia)
     ·rw[if_neg (by lia)];exact up _ _ (by lia) (by lia)
   ·rw[if_neg (by lia),if_neg (by lia),if_neg (by lia)]
    exact up _ _ yj (by lia)
theorem Il (T:Cy lt n) (hn:0<n):Ev lt n (kas_sort n) (fun p=>Pm p n/\qU lt p n):=by
 refine Ev.bind (EJ T hn (Array.Perm.refl _) (fun m p h1 h2 hp up=>?_))
 have em:max m 1=m:=by lia
 show Ev lt n (if m<n then kas_bin (n - max m 1) p (max m 1) else .ret p) _
 rw[em]
 by_cases h:m<n
 ·rw[if_pos h]
  refine EK T hn _ p m hp up (by lia) (fun p' g u=>⟨g,?_⟩)
  rwa [show m+(n - m)=n by lia]at u
 ·rw[if_neg h]
  exact ⟨hp,by rwa [show m=n by lia]at up⟩
end
end
theorem Cz {a b c:Int×Int} (h1:b8 b a=false) (h2:b8 c b=false):b8 c a=false:=by
 unfold b8 at*
 simp only[Qe3,Qe0,decide_eq_false_iff_not]at*
 lia
theorem CA {a b:Int×Int} (h:b8 a b=true):b8 b a=false:=by
 unfold b8 at*
 simp only[Qe3,Qe0,decide_eq_false_iff_not,Bool.or_eq_true,Qbr,decide_eq_true_eq]at*
 lia
noncomputable def ltN (ns:List (Int×Int)) (i j:Nat):Bool:=b8 (ns.getD i (0,0)) (ns.getD j (0,0))
theorem Im (ns:List (Int×Int)) (n:Nat):Cy (ltN ns) n where
 tr _ _ _ h1 h2:=Cz h1 h2
 sm _ _ h:=CA h
section
variable {prog:Program} {w:World} {A:Around} {E:Value->Shared->Prop} {s:Shared}
theorem bR.len {h:Heap}: ∀{vs:List Value} {ns:List (Int×Int)},bR h vs ns->ns.length=vs.length
 | [],[],_=>rfl
 | _::_,_::_,⟨_,b⟩=>by rw[Qar,Qar,bR.len b]
 | [],_::_,h=>h.elim
 | _::_,[],h=>h.elim
noncomputable def fU (vs:List Value) (idx:List Nat):Array Value:=List.toArray (idx.map fun i=>vs.getD i Value.none)
def pE (ns:List (Int×Int)) (idx:List Nat):Prop:=idx.Perm (List.range ns.length)/\(idx.map fun i=>ns.getD i (0,0)).Pairwise fun x y=>b8 y x=false
theorem qV {a:Addr} {vs:List Value} {ns:List (Int×Int)} {n:Nat} {P:PySem.Fin->Shared->Prop} (ho:s.heap.get? a=some (seqObj "list" vs.toArray n)) (hp:bR s.heap vs ns) (Q5: ∀v∈vs,v≠ .ref a) (L0:vs.length<64)
  (q: ∀idx,pE ns idx->P (.done (.ret .none)) { s with heap:=sortedHeap s.heap a vs (fU vs idx) }):wpAny (model prog w) A (Builtin.«list.sort» ⟨[.ref a],[]⟩) P E s:=by
 rw[list_sort_plain]
 have ha:a<s.heap.objs.size:=Qag ho
 have kG:(64:Nat)<sizeLine:=by decide
 have hlen:=hp.len
 refine wpAny_bind (listItems_at ho rfl (wpAny_bind (listUpdate_at ho rfl ?_ (by rw[XR];lia) (Qaa _))))
 walk_at"Q"
 walk_at"J"
 generalize hH:((s.heap.update a (Obj.mapSeq fun _=>(#[]:Array Value))).push (seqObj "tuple" vs.toArray 0)).push (seqObj "list" #[] 0)=H2
 have Q7:H2.get? a=some (seqObj "list" #[] e1):=by
  rw[<-hH]
  exact N5 _ (N5 _ Q6)
 have keep: ∀b o,b≠a->s.heap.get? b=some o->H2.get? b=some o:=fun b o hb e=>by
  rw[<-hH]
  exact N5 _ (N5 _ ((Qa6 s.heap _ (Ne.symm hb)).trans e))
 have kz:bR H2 vs ns:=by
  clear q L0 hH ho hlen
  revert ns
  induction vs with
  | nil=>intro ns hp;cases ns with
   | nil=>trivial
   | cons _ _=>exact hp.elim
  | cons v vs ih=>
   intro ns hp
   cases ns with
   | nil=>exact hp.elim
   | cons n ns=>
    obtain ⟨⟨x,ox,t1,t2,m,rfl,g2,g3⟩,b⟩:=hp
    exact ⟨⟨x,ox,t1,t2,m,rfl,keep x ox (fun z=>Q5 _ XS (by rw[z])) g2,g3⟩,ih (fun u hu=>Q5 u (kb _ hu)) b⟩
 have fin: ∀(st:SortSt) (idx:List Nat),pE ns idx->(arrOf st).map (·.2)=fU vs idx->failedOf st=none->wpAny (model prog w) A (do { let touched:=(<-seqEpoch a) != e1;Builtin.List.listUpdate (.ref a) (fun _=>(arrOf st).map (·.2));if let some e:=failedOf st then { rule "list.sort.comparison-raised";throw e };if touched then { rule "list.sort.modified";raiseError "ValueError" "list modified during sort" };ret .none }) P E { s with heap:=H2 }:=fun st idx hi e0 e2=>by
  rw[e0,e2]
  have L3:idx.length=vs.length:=by have:=hi.1.length_eq;rw[Qb8]at this;lia
  refine wpAny_bind (seqEpoch_at Q7 rfl (wpAny_bind (listUpdate_at Q7 rfl ?_ (Qaa _) (by unfold fU;rw[XR,V6];lia))))
  simp only[bne_self_eq_false,Qa4,if_false]
  walk_at"1"
  have e3:sortedHeap s.heap a vs (fU vs idx)=H2.update a (Obj.mapSeq fun _=>fU vs idx):=by unfold sortedHeap;rw[hH]
  have q:=q idx hi
  rw[e3]at q
  exact q
 show wpAny (model prog w) A _ P E { s with heap:=H2 }
 dsimp only
 by_cases h2:vs.toArray.size<2
 ·rw[if_pos h2,if_pos h2]
  walk_at"n"
  rw[StateT.run_pure]
  walk_at"n"
  rw[XR]at h2
  refine fin (SortSt.mk' general' (vs.toArray.zip vs.toArray) #[] 7 none) (List.range ns.length) ⟨Qe2 _,?_⟩ ?_ rfl
  ·rw[hlen]
   have:vs.length=0\/vs.length=1:=by lia
   rcases this with e | e<;>rw[e]<;>simp[Qbf]
  ·show (vs.toArray.zip vs.toArray).map (·.2)=_
   apply Qcv.mp
   have e4:(vs.zip vs).map (fun x=>x.2)=vs:=uf vs
   unfold fU
   simp
   rw[e4,hlen]
   refine Qem (by simp) fun i g1 g2=>?_
   simp
   rw[LJ g1]
   rfl
 ·have UR:2<=vs.length:=by rw[XR]at h2;lia
  rw[if_neg h2,if_neg h2]
  obtain ⟨fs,k1,k2,k3⟩:=kz.jR
  walk_at"t"
  have T:=Im ns vs.length
  refine wpAny_bind (wpAny_mono (PySem.W.kat_run (Q:=fun iO s'=>s'={ s with heap:=H2 }/\ ∃idx,pE ns idx/\(arrOf iO).map (·.2)=fU vs idx/\failedOf iO=none) (G:=fun p s'=>s'={ s with heap:=H2 }/\Pm p vs.length/\qU (ltN ns) p vs.length) rfl UR L0 (fun p iO s' a1 a2 a3 a4=>?_) (Ev.wp (fun i j hi hj C c=>?_) (fun p hq=>⟨rfl,hq⟩) (Il T (by lia)))) ?_ fun _ _ e=>e)
  ·obtain ⟨rfl,pm,up⟩:=a4
   refine ⟨rfl,p.toList,⟨?_,?_⟩,PySem.W.kat_snds rfl a2,a3⟩
   ·rw[hlen]
    simpa using Array.perm_iff_toList_perm.mp pm
   ·rw[Qbg,Qcl]
    intro i j hi hj yj
    have:=up i j yj (by rw[<-pm.size];simpa using hj)
    rw[gd,gd,Qed (by simpa using hj),Qed (by simpa using hi)]at this
    simpa [ltN]using this
  ·obtain ⟨x,ex,px⟩:=kz.get (i:=i) hi
   obtain ⟨y,ey,py⟩:=kz.get (i:=j) hj
   refine Ia (s:={ s with heap:=H2 }) px py ?_
   have:ltN ns i j=b8 x y:=by unfold ltN;rw[XO,XO,ex,ey];rfl
   rw[<-this]
   exact c
  ·rintro ⟨⟨⟩,iO⟩ s' ⟨rfl,idx,g0,g1,g2⟩
   exact fin iO idx g0 g1 g2
theorem pF {tp:Addr} {T:String} {o:Obj} {vs:List Value} {ns:List (Int×Int)} {n:Nat} {Q:Value->Shared->Prop} (hT:T="list"\/T="tuple") (ho:s.heap.get? tp=some o) (hc:o.cls= .type T) (hd:o.data= .seq vs.toArray n) (hp:bR s.heap vs ns)
  (L0:vs.length<64)
  (q: ∀(h1 h':Heap) (a:Addr) (e:Nat) (idx:List Nat),pE ns idx->(∀b o,s.heap.get? b=some o->h1.get? b=some o)->(∀b o,h1.get? b=some o->h'.get? b=some o)->a=h1.objs.size->h'.get? a=some (seqObj "list" (fU vs idx) e)->Q (.ref a) { s with heap:=h' }):
  wpAny (model prog w) A (call (.builtin "sorted") [.ref tp]) Q E s:=by
 have kG:(64:Nat)<sizeLine:=by decide
 refine Calls.call_function_entry kind_sorted plain_sorted entry_sorted (args_sorted1 _) ?_
 unfold Builtin.«sorted»
 walk_at"U"
 refine wpAny_bind (wpAny_newList ?_ (by show vs.length<=_;lia))
 have Hr:(h1.push (seqObj "list" vs.toArray 0)).get? h1.objs.size=some (seqObj "list" vs.toArray 0):=Qal _ rfl
 show wpAny _ _ _ _ _ { s with heap:=h1.push (seqObj "list" vs.toArray 0) }
 have hV:=hp.keep (h':=h1) k1
 have kz:=hV.keep (h':=h1.push (seqObj "list" vs.toArray 0)) fun b o e=>N5 _ e
 refine wpAny_bind (wpAny_holding (wpAny_call_entry slot_list_sort ⟨_,Hr,rfl⟩ entry_list_sort (qV (s:={ s with heap:=h1.push (seqObj "list" vs.toArray 0) }) Hr kz (hV.ne (Sq _)) L0 fun idx hi=>⟨_,rfl,?_⟩) (args_list_sort _)))
 obtain ⟨e,he⟩:=sortedHeap_at (out:=fU vs idx) Hr
 refine wpAny_pure ⟨_,rfl,q h1 _ _ e idx hi k1 (fun b o hb=>?_) rfl he⟩
 have cE:=Qag hb
 rw[sortedHeap_old (Qaq cE) (by rw[size_push'];exact Qcr cE)]
 exact N5 _ hb
end
section
variable {X:Cx}
theorem ug.len {K:PySem.W.Frag} {H:Hp}: ∀{vs:List V} {ns:List (Int×Int)},ug K H vs ns->ns.length=vs.length
 | [],[],_=>rfl
 | _::_,_::_,⟨_,b⟩=>by rw[Qar,Qar,ug.len b]
 | [],_::_,h=>h.elim
 | _::_,[],h=>h.elim
theorem wC {ys:List V} {us:List Value} (r:Vals ys us): ∀idx:List Nat,(∀i∈idx,i<ys.length)->Vals (idx.map fun i=>ys.getD i .dY) (idx.map fun i=>us.getD i Value.none)
 | [],_=> .nil
 | i::idx,h=>by
  have hi:=h i XS
  refine .cons ?_ (wC r idx fun j hj=>h j (kb _ hj))
  obtain ⟨u,e,ru⟩:=r.get (LJ hi)
  show RelV (ys.getD i .dY) (us.getD i Value.none)
  rw[XO,XO,e,LJ hi]
  exact ru
def Mn (K:PySem.W.Frag):List V->Hp->VK->Prop:=fun xs H Q=> ∃p ys ns,xs=[.ref p]/\(aZ K H p ys\/bE K H p ys)/\ug K H ys ns/\ys.length<64/\ ∀q idx,pE ns idx->H q=none->Q (.ref q) (upd H q (.lst (idx.map fun i=>ys.getD i .dY)))
theorem uv (K:PySem.W.Frag) (h:X.K=K):cQ X (.builtin "sorted") (Mn K):=by
 subst h
 walk_at"e"
 obtain ⟨p,ys,ns,rfl,hq,hv,hn,q⟩:=h
 walk_at"x"
 cases ru
 have L0:(64:Nat)<sizeLine:=by decide
 have Yj:=hv.len
 have fin: ∀its:List Value,Vals ys its-> ∀(h1 h':Heap) (a:Addr) (e:Nat) (idx:List Nat),pE ns idx->(∀b o,s.heap.get? b=some o->h1.get? b=some o)->(∀b o,h1.get? b=some o->h'.get? b=some o)->a=h1.objs.size->h'.get? a=some (seqObj "list" (fU its idx) e)->EP X pins σ Q (.ref a) { s with heap:=h' }:=fun its rv h1 h' a e idx hi k1 k2 ea he=>by
  have I1:Inv X pins σ H { s with heap:=h1 }:=I.kept (t':=s.toks) k1
  have L3:idx.length=ys.length:=by have:=hi.1.length_eq;rw[Qb8]at this;lia
  have Yk:=wC rv idx fun i Mo=>by have:=hi.1.mem_iff.mp Mo;rw[Qa3]at this;lia
  have I2:Inv X pins σ (upd H a (.lst (idx.map fun i=>ys.getD i .dY))) { s with heap:=h' }:=I1.laid (t':=s.toks) (a:=a) (o:= .lst (idx.map fun i=>ys.getD i .dY)) k2 (by rw[ea];exact Sq _) ⟨by rw[V6];lia,_,e,Yk,by simpa [seqObj,fU]using he⟩
  exact ⟨.ref a,_,I2,rfl,q _ idx hi (I1.bZ.fresh (by rw[ea];exact Sq _))⟩
 rcases hq with hq | hq
 ·obtain ⟨its,rv,pl,hz⟩:=I.list hq
  obtain ⟨o,ho,hc,m,hd⟩:=pl.isList
  exact pF (.inl rfl) ho hc hd (hv.at I rv) (by rw[<-rv.length];exact hn) (fin its rv)
 ·obtain ⟨its,rv,pl,hz⟩:=I.tuple hq
  obtain ⟨o,ho,hc,m,hd⟩:=pl
  exact pF (.inr rfl) ho hc hd (hv.at I rv) (by rw[<-rv.length];exact hn) (fin its rv)
end
end L2
namespace L2
open PySem PySem.Spec PyProof.Rows PySem.MeetsSeq PySem.SeqAt
end L2
namespace L2
open PySem PySem.Spec PyProof.Rows HT
theorem uw: ∀a b c:List Int,bg b a=false->bg c b=false->bg c a=false
 | [],[],[],_,_=>rfl
 | [],[],_::_,_,h=>h
 | [],_::_,[],_,_=>rfl
 | [],_::_,_::_,_,_=>rfl
 | _::_,[],_,h,_=>by cases h
 | _::_,_::_,[],_,h=>by cases h
 | x::a,y::b,z::c,h,g=>by
  have h':(if y=x then bg b a else decide (y<x))=false:=h
  have g':(if z=y then bg c b else decide (z<y))=false:=g
  show (if z=x then bg c a else decide (z<x))=false
  by_cases e1:y=x
  ·rw[if_pos e1]at h'
   by_cases e2:z=y
   ·rw[if_pos e2]at g'
    rw[if_pos (e2.trans e1)]
    exact uw a b c h' g'
   ·rw[if_neg e2]at g'
    rw[if_neg fun w=>e2 (w.trans e1.symm), <-e1]
    exact g'
  ·rw[if_neg e1]at h'
   have q1:=of_decide_eq_false h'
   by_cases e2:z=y
   ·rw[if_neg fun w=>e1 (e2.symm.trans w),e2];exact h'
   ·rw[if_neg e2]at g'
    have q2:=of_decide_eq_false g'
    rw[if_neg (by lia)]
    exact decide_eq_false (by lia)
open Classical in
section
variable {X:Cx} {e st:Expr} {te:TE} {ts:TO} {pos p2:Pos}
theorem CB (l:List Nat) (t tk:Tok):sliceMade (S l) t none none (some (-1,tk))= .str (S l.reverse):=by
 unfold sliceMade
 rw[if_neg (by simp)]
 have e:slicePicked (S l) none none (some (-1,tk))=(List.range (S l).cps.size).reverse:=by
  rw[<-PySem.W.krv_range, <-PySem.W.krv_sliceRange]
  rfl
 rw[e,List.filterMap_reverse,PySem.W.krv_all,fS]
 rfl
def Rh (te:TE) (ts:TO):TE:=fun σ H Q=>te σ H fun x H1=>ts σ H1 fun o H2=>o=some (-1)/\ ∃l,x= .str (S l)/\l.length<=sizeLine/\Q (.str (S l.reverse)) H2
theorem Io (he:PE X e te) (hs:PO X (some st) ts):PE X (.Subscript e (.Slice none none (some st) p2) pos) (Rh te ts):=by
 walk_at"g"
 refine Subscript_ (cy (he pins s σ H _ I h) fun v s1 ⟨x,H1,I1,r1,q1⟩=>?_)
 refine wpAny_Slice ?_
 rw[evalPart_none]
 refine wpAny_pure (wpAny_pure (cy (hs pins s1 σ H1 _ I1 q1) fun vk s3 ⟨o,H3,I3,pk,eo,l,ex,hz,q3⟩=>?_))
 subst eo ex
 obtain ⟨t,rfl⟩:=r1
 cases pk with
 | int i tk=>
 have I4:Inv X pins σ H3 { s3 with heap:=s3.heap.push { cls:= .type "slice",data:= .fields #[.none, .none, .int (-1) tk] } }:=I3.kept (t':=s3.toks) fun b ob q=>N5 _ q
 show wpAny (model X.prog X.w) X.A (subscriptTail e (.Slice none none (some st) p2) (.str (S l) t) (.ref s3.heap.objs.size)) (EP X pins σ Q) X.xe { s3 with heap:=s3.heap.push { cls:= .type "slice",data:= .fields #[.none, .none, .int (-1) tk] } }
 refine tail_any (ops:=[.str (S l) t, .ref s3.heap.objs.size]) (typeIs_str _ _ _) F.slot_str_getitem.lookup (wpAny_getItem_str_slice (l:=none) (u:=none) (st:=some (-1,tk)) ⟨_,Qal _ rfl,rfl,rfl⟩ rfl ?_) (by with_unfolding_all rfl)
 rw[CB]
 refine ⟨by rw[du,Qaz];exact hz,?_⟩
 exact ⟨.str (S l.reverse),H3,I4.tok _,⟨_,rfl⟩,q3⟩
end
end L2
namespace PySem
open PySem.Spec PyProof.Rows
end PySem
namespace L2
open PySem PySem.Spec PyProof.Rows
section
variable {X:Cx} {K:PySem.W.Frag} {CX:B4} {k1 k2:Nat} {f1 f2:Addr} {Wt Wu:FuncData} {Wv Ww:List Str} {Su Sv:Sp} {E:XK} {x f:Str} {p pos pos':Pos} {e o value:Expr} {es:List Expr} {ta tv:TE} {t:TA}
theorem bM (K:PySem.W.Frag) (hK:X.K=K) (he:PE X e ta) (hb:attributeBase e f X.env (eval e X.env)=eval e X.env):PE X (.Attribute e f pos) (Qh K ta f):=by subst hK;exact Ls he hb
def EL (f1 f2:Addr) (Su Sv:Sp) (E:XK) (ta:TE) (t:TA):TE:=fun σ H Q=>ta σ H fun v H1=>(v= .ref f1/\t σ H1 fun vs H2=>Su vs H2 Q E)\/(v= .ref f2/\t σ H1 fun vs H2=>Sv vs H2 Q E)
theorem kX (hf:PE X (.Name x p) ta) (F1:bF X.prog X.w X.K X.mg X.base CX k1 f1 Wt Wv Su) (Kq:ez k1 X.A) (Ii:PySem.W.keepIn X.K (.ref f1)=true) (ux:Binds X.K Wt Wv []) (F2:bF X.prog X.w X.K X.mg X.base CX k2 f2 Wu Ww Sv) (Ri:ez k2 X.A) (yN:PySem.W.keepIn X.K (.ref f2)=true) (me:Binds X.K Wu Ww []) (hx:Passes CX X E)
  (ha:PA X (e::es) t) (he:starEach (e::es) X.env=(false,eval e X.env)::starEach es X.env:=by rfl) (iT:(backTo pos (starEach es X.env)).any (·.1)=false:=by rfl):
  PE X (.Call (.Name x p) (e::es) [] pos) (EL f1 f2 Su Sv E ta t):=by
 walk_at"g"
 refine wpAny_Call_Name_kw (cy (hf pins s σ H _ I h) fun u s1 ⟨v,H1,I1,r,q⟩=>?_)
 rcases q with ⟨rfl,q⟩ | ⟨rfl,q⟩
 ·obtain rfl:u=Value.ref f1:=r
  refine Qd9 (h₀:=X.base) I1.ok.mod.NX Ii (cy (ha pos pins s1 σ H1 _ I1 q) fun us s2 ⟨vs,H2,I2,r2,q2⟩=>⟨I2.nZ,?_⟩) he iT
  exact yv (dvs:=[]) (ds:=[]) F1 Kq ux .nil hx I2 r2 (by rw[Qaw];exact q2)
 ·obtain rfl:u=Value.ref f2:=r
  refine Qd9 (h₀:=X.base) I1.ok.mod.NX yN (cy (ha pos pins s1 σ H1 _ I1 q) fun us s2 ⟨vs,H2,I2,r2,q2⟩=>⟨I2.nZ,?_⟩) he iT
  exact yv (dvs:=[]) (ds:=[]) F2 Ri me .nil hx I2 r2 (by rw[Qaw];exact q2)
end
section
variable {prog:Program} {w:World} {A:Around} {E:Value->Shared->Prop} {R:Result->Shared->Prop} {I S:Addr} {fp wr:List Addr} {n:Nat} {P:Nat->Value->Prop} {St:Nat->Heap->Prop} {kw:List (Str×Value)} {bt:Nat->Nat->Bool}
theorem AK:(toString "max"++toString ".loop":String)="max.loop":=by decide
theorem Rj (W:Walks prog w A.in1 I fp wr n P St) (cm:CmpOf prog w A.in1 .Gt P bt) (sf:S∉fp): ∀(m j:Nat) (s:Shared) (b:Value) (c:Nat),n=j+1+m->St (j+1) s.heap->P (argBest bt j) b->s.heap.get? S=some { cls:= .type "list",dict:=none,data:= .seq #[b,b] c,slots:= #[] }->
  (∀v h' tk,P (argBest bt (n - 1)) v->(∀a o,a∉wr->a≠S->s.heap.get? a=some o->h'.get? a=some o)->R (.ok (.ret v)) { s with heap:=h',toks:=tk })->
  codeAny (model prog w) A (.builtin "max.loop" ⟨[.ref I, .none, .ref S],kw⟩) R s:=by
 have sw:S∉wr:=fun z=>sf (W.sub _ z)
 intro m
 induction m with
 | zero=>
  intro j s b c en nC hb hS hR
  have e1:n=j+1:=en
  subst e1
  refine codeAny_builtin Qen ?_
  rw[Around.under_plainId Qb1 _]
  refine wpAny_bind (m:=seqItems? (.ref S)) (wpAny_seqItems hS rfl ?_)
  refine wpAny_bind (m:=tryCatch (pyNext (.ref I)) _) (wpAny_tryCatch (W.done s _ _ nC fun h1 tk k1=>?_))
  refine wpAny_bind (m:=updateSeq S fun _=> #[]) (wpAny_updateSeq (k1 S _ sw hS) rfl (wpAny_bind (wpAny_letGo (wpAny_pure ?_))))
  exact hR b _ tk hb fun a o aw aS ea=>(Qa6 _ _ (Ne.symm aS)).trans (k1 a o aw ea)
 | succ m ih=>
  intro j s b c en nC hb hS hR
  refine codeAny_builtin Qen ?_
  rw[Around.under_plainId Qb1 _]
  refine wpAny_bind (m:=seqItems? (.ref S)) (wpAny_seqItems hS rfl ?_)
  refine wpAny_bind (m:=tryCatch (pyNext (.ref I)) _) (wpAny_tryCatch (W.item (j+1) s _ _ (by lia) nC fun v h1 tk pv vD k1=>?_))
  have Oe:=k1 S _ sw hS
  refine wpAny_bind (m:=tryCatch (holding [v,v] (richCompare .Gt v b >>= _)) _) (wpAny_tryCatch (wpAny_holding (wpAny_bind (cm (j+1) (argBest bt j) v b _ _ _ pv hb (wpAny_bind (wpAny_holding (wpAny_truthy_bool (wpAny_bind (wpAny_letGo (wpAny_pure ?_))))))))))
  cases q:bt (j+1) (argBest bt j)
  ·rw[if_neg (by decide)]
   refine wpAny_bind (wpAny_letGo ?_)
   rw[AK]
   refine wpAny_pure ⟨plainId_quiet Qb1 _,ih (j+1) _ b c (by lia) vD (by rw[argBest,q];exact hb) Oe fun v' h2 Ko p2 k2=>?_⟩
   exact hR v' h2 Ko p2 fun a o aw aS ea=>k2 a o aw aS (k1 a o aw ea)
  ·rw[if_pos rfl]
   refine wpAny_bind (wpAny_updateSeq Oe rfl (wpAny_bind (wpAny_letGo ?_)))
   rw[AK]
   refine wpAny_pure ⟨plainId_quiet Qb1 _,ih (j+1) _ v _ (by lia) (W.frame _ _ _ vD fun a af o ea=>?_) (by rw[argBest,q];exact pv) (Qbv _ Oe rfl) fun v' h2 Ko p2 k2=>?_⟩
   ·exact (Qa6 _ _ (fun z:S=a=>sf (z▸af))).trans ea
   ·exact hR v' h2 Ko p2 fun a o aw aS ea=>k2 a o aw aS ((Qa6 _ _ (Ne.symm aS)).trans (k1 a o aw ea))
theorem Rk (a d:Value):argsOk "max" ⟨[a],[(Str.ofString "default",d)]⟩:=by unfold argsOk;kernel_rfl
theorem Ip {s:Shared} {x d:Value} {Q:Value->Shared->Prop}
  (h:wpAny (model prog w) A.in1 (pyIter x) (fun it s₂=> ∃I fp wr n P St bt,it= .ref I/\Walks prog w A.in1 I fp wr n P St/\St 0 s₂.heap/\(∀b∈fp,b<s₂.heap.objs.size)/\CmpOf prog w A.in1 .Gt P bt/\
   ∀v h' tk,(n=0->v=d)->(0<n->P (argBest bt (n - 1)) v)->(∀b o,b∉wr->s₂.heap.get? b=some o->h'.get? b=some o)->Q v { s₂ with heap:=h',toks:=tk }) E s):
  wpAny (model prog w) A (call (.builtin "max") [x] [(Str.ofString "default",d)]) Q E s:=by
 refine kmk_tree PySem.F.kind_max PySem.F.plain_max PySem.F.entry_max (Rk x d) ?_
 refine wpAny_bind (m:=Builtin.Builtins.bindParams "max" ["key","default"] 0 ⟨[],[(Str.ofString "default",d)]⟩) (wpAny_of_eq (a:=[none,some d]) rfl ?_)
 refine wpAny_bind (wpAny_pure (wpAny_bind (wpAny_mono h (fun it s2 h2=>?_) fun _ _ e=>e)))
 obtain ⟨I,fp,wr,n,P,St,bt,rfl,W,nC,Ym,cm,hQ⟩:=h2
 refine wpAny_bind (wpAny_newObj_type ?_)
 have sf:s2.heap.objs.size∉fp:=fun z=>Qbd _ (Ym _ z)
 have sw:s2.heap.objs.size∉wr:=fun z=>sf (W.sub _ z)
 have hS:(s2.heap.push { cls:= .type "list",data:= .seq #[] }).get? s2.heap.objs.size=some { cls:= .type "list",dict:=none,data:= .seq #[] 0,slots:= #[] }:=Qal _ rfl
 have Rl:=W.frame _ _ (s2.heap.push { cls:= .type "list",data:= .seq #[] }) nC fun b _ o e=>N5 _ e
 have lo: ∀{b o},s2.heap.get? b=some o->b≠s2.heap.objs.size:=fun e=>Qaq (Qag e)
 rw[AK]
 refine wpAny_pure ⟨plainId_quiet Qb1 _,codeAny_builtin Qen ?_⟩
 rw[Around.under_plainId Qb1 _]
 refine wpAny_bind (m:=seqItems? (.ref s2.heap.objs.size)) (wpAny_seqItems hS rfl ?_)
 cases n with
 | zero=>
  refine wpAny_bind (m:=tryCatch (pyNext (.ref I)) _) (wpAny_tryCatch (W.done _ _ _ Rl fun h1 tk k1=>?_))
  walk_at"5"
  refine wpAny_pure (hQ d h1 tk (fun _=>rfl) (fun z=>absurd z (Qbd _)) fun b o bw e=>k1 b o bw (N5 _ e))
 | succ m=>
  refine wpAny_bind (m:=tryCatch (pyNext (.ref I)) _) (wpAny_tryCatch (W.item 0 _ _ _ (Nat.succ_pos _) Rl fun v h1 tk pv vD k1=>?_))
  have Oe:=k1 _ _ sw hS
  refine wpAny_bind (m:=updateSeq s2.heap.objs.size fun _=> #[v,v]) (wpAny_updateSeq Oe rfl ?_)
  rw[AK]
  refine wpAny_pure ⟨plainId_quiet Qb1 _,Rj W cm sf m 0 _ v _ (by lia) (W.frame _ _ _ vD fun a af o ea=>?_) pv (Qbv _ Oe rfl) fun v' h2 Ko p2 k2=>?_⟩
  ·exact (Qa6 _ _ (fun z:s2.heap.objs.size=a=>sf (z▸af))).trans ea
  ·exact hQ v' h2 Ko (fun z=>by lia) (fun _=>p2) fun b o bw e=>k2 b o bw (lo e) ((Qa6 _ _ (Ne.symm (lo e))).trans (k1 b o bw (N5 _ e)))
end
noncomputable def Kr (d:Int):List Int->Int
 | []=>d
 | a::r=>r.foldl (fun x y=>if y>x then y else x) a
noncomputable def fk (l:List Int) (i j:Nat):Bool:=decide (l.getD i 0>l.getD j 0)
theorem kY (l:List Int): ∀n:Nat,n<l.length->l.getD (argBest (fk l) n) 0=((l.drop 1).take n).foldl (fun x y=>if y>x then y else x) (l.getD 0 0)
 | 0,_=>by simp[argBest]
 | n+1,h=>by
  have ih:=kY l n (by lia)
  have e:(l.drop 1).take (n+1)=(l.drop 1).take n++[l.getD (n+1) 0]:=by
   rw[Qdp,Qb5,show 1+n=n+1 by lia,XO,LJ h]
   rfl
  rw[e,List.foldl_append, <-ih]
  show l.getD (if fk l (n+1) (argBest (fk l) n)=true then n+1 else argBest (fk l) n) 0=if l.getD (n+1) 0>l.getD (argBest (fk l) n) 0 then l.getD (n+1) 0 else l.getD (argBest (fk l) n) 0
  by_cases z:l.getD (n+1) 0>l.getD (argBest (fk l) n) 0
  ·rw[if_pos (show fk l (n+1) (argBest (fk l) n)=true from decide_eq_true z),if_pos z]
  ·rw[if_neg (show ¬fk l (n+1) (argBest (fk l) n)=true from fun w=>z (of_decide_eq_true w)),if_neg z]
section
variable {X:Cx}
theorem EM {prog:Program} {w:World} {A:Around} {l:List Int} {its:List Value} (r:Vals (l.map V.int) its):CmpOf prog w A .Gt (fun i v=>its.toArray[i]? =some v) (fk l):=by
 intro i j vi vj s Q E hi hj hQ
 have get: ∀{i:Nat} {v:Value},its.toArray[i]? =some v-> ∃t,v= .int (l.getD i 0) t:=by
  intro i v h
  have h':its[i]? =some v:=by simpa using h
  have hl:i<l.length:=by have:=(LK.mp h').1;rw[<-r.length,V6]at this;exact this
  obtain ⟨u,hu,ru⟩:=r.get (i:=i) (x:=V.int (l.getD i 0)) (by rw[Qaj,XO,LJ hl];rfl)
  rw[h']at hu;cases hu
  exact ru
 obtain ⟨t,rfl⟩:=get hi
 obtain ⟨u,rfl⟩:=get hj
 exact gt_int hQ
def Rm (K:PySem.W.Frag) (d:Int) (t:TA):TE:=fun σ H Q=>t σ H fun vs H1=> ∃(p:Addr) (l:List Int),vs=[.ref p]/\aZ K H1 p (l.map V.int)/\Q (.int (Kr d l)) H1
theorem Iq {e:Expr} {t:TA} {d:Int} {j:Nat} {kp cp p pos:Pos} (K:PySem.W.Frag) (hK:X.K=K) (hc:X.calm=true) (hg:Gl X "max") (hm:X.mg "max"=none) (ha:PA X [e] t)
  (he:backTo pos (starEach [e] X.env)=[(false,eval e X.env)]:=by rfl):PE X (.Call (.Name "max" p) [e] [⟨some "default", .Constant (.int d) j cp,kp⟩] pos) (Rm K d t):=by
 subst hK
 walk_at"g"
 refine wpAny_Call_Name_kw (fR I hg hm boot_max ?_)
 refine callWith_kw (cy (ha pos pins s σ H _ I h) fun us s1 ⟨vs,H1,I1,r1,q1⟩=>?_) he (by rw[he];rfl)
 obtain ⟨a,l,rfl,hq,q⟩:=q1
 obtain ⟨u,rfl,ru⟩:=vals1 r1
 cases ru
 refine kws_cons (wpAny_Constant_int (kws_nil ?_))
 obtain ⟨its,rv,pl,hz⟩:=I1.list hq
 have hlen:its.length=l.length:=by rw[<-rv.length,V6]
 have hp:a<s1.heap.objs.size:=by
  obtain ⟨o,n,e,_⟩:=pl
  exact Qag e
 refine Ip (wpAny_pyIter_list pl.isList ?_)
 refine ⟨_,_,_,_,_,_,fk l,rfl,Walks.list (A:=X.A.in1) (I1.ok.hd hc) s1.heap.objs.size a (Qaq hp) its.toArray,⟨⟨_,Qal _ rfl,rfl,rfl⟩,?_⟩,fun b hb=>?_,EM rv,fun v h' tk h0 h1 hk=>?_⟩
 ·obtain ⟨o,ho,hr⟩:=pl.isList
  exact ⟨o,N5 _ ho,hr⟩
 ·show b<(s1.heap.push _).objs.size
  rw[Qd3]
  exact (Qah.mp hb).elim (fun z=>z▸Qcc _) fun z=>(V8.mp z)▸Qcr hp
 ·have ru:RelV (.int (Kr d l)) v:=by
   cases l with
   | nil=>
    have:=h0 (by rw[XR,hlen];rfl)
    subst this
    exact ⟨_,rfl⟩
   | cons b l=>
    have hn:its.toArray.size - 1=l.length:=by rw[XR,hlen];rfl
    have hP:=h1 (by rw[XR,hlen];exact Nat.succ_pos _)
    rw[hn]at hP
    have Sr:its[argBest (fk (b::l)) l.length]? =some v:=by simpa using hP
    have hl:argBest (fk (b::l)) l.length<(b::l).length:=Nat.lt_succ_of_le (argBest_lt _ _)
    have e:=kY (b::l) l.length (Qcc _)
    rw[show ((b::l).drop 1).take l.length=l from Qau (Sq _),XO,LJ hl]at e
    have e':(b::l)[argBest (fk (b::l)) l.length]=Kr d (b::l):=e
    obtain ⟨u,hu,ru⟩:=rv.get (i:=argBest (fk (b::l)) l.length) (x:=V.int (Kr d (b::l))) (by rw[Qaj,LJ hl,e'];rfl)
    rw[Sr]at hu;cases hu
    exact ru
  refine ⟨.int (Kr d l),H1,?_,ru,q⟩
  have I2:Inv X pins σ H1 { s1 with heap:=s1.heap.push { cls:= .type "list_iterator",data:= .fields #[.ref a, .int 0 0] },toks:=s1.toks+1 }:=I1.kept (t':=s1.toks+1) fun b o e=>N5 _ e
  have f:=I1.nF (H':=H1) (b:=s1.heap.objs.size) (Sq _) I1.fresh
  exact I2.turned (h':=h') (t':=tk) (it:=s1.heap.objs.size) (fun b o hb e=>hk b o (by simpa using hb) e) f.1 f.2.1 f.2.2.2.1 f.2.2.2.2.1 f.2.2.2.2.2
theorem Mp:P6 X .Mult (fun x y H Q=> ∃i j,x= .int i/\y= .int j/\Hv i j/\Q (.int (i*j)) H):=by
 intro pins s σ H x y v u Q I r1 r2 h
 obtain ⟨i,j,rfl,rfl,c,q⟩:=h
 obtain ⟨t,rfl⟩:=r1
 obtain ⟨t',rfl⟩:=r2
 exact imul_int ⟨.int _,H,I.tok _,⟨_,rfl⟩,q⟩ c.ok
theorem Ir:P6 X .FloorDiv (fun x y H Q=> ∃i j,x= .int i/\y= .int j/\T8 i j/\Q (.int (i / j)) H):=by
 intro pins s σ H x y v u Q I r1 r2 h
 obtain ⟨i,j,rfl,rfl,hc,q⟩:=h
 obtain ⟨t,rfl⟩:=r1
 obtain ⟨t',rfl⟩:=r2
 have h1:(0:Int)<j:=hc.1
 have h2:j<1073741824:=hc.2
 exact ifloordiv_int (by lia) (by rw[Int.fdiv_eq_ediv_of_nonneg i (by lia)];exact ⟨.int _,H,I.tok _,⟨_,rfl⟩,q⟩) (.inl (PyProof.noPylong_small (by lia)))
end
theorem wD: ∀{ls:List Int} {its:List Value},Vals (ls.map V.int) its->IntsAre its ls
 | [],_, .nil=> .nil
 | _::_,_, .cons ⟨t,e⟩ h=>e▸ .cons _ t (wD h)
theorem wF: ∀{ls:List Int} {its:List Value},IntsAre its ls->Vals (ls.map V.int) its
 | _,_, .nil=> .nil
 | _,_, .cons n t h=> .cons ⟨t,rfl⟩ (wF h)
section
variable {X:Cx}
def Iu (K:PySem.W.Frag):List V->Hp->VK->Prop:=fun xs H Q=> ∃(p:Addr) (ns:List Int),xs=[.ref p]/\aZ K H p (ns.map V.int)/\ns.length<64/\ ∀(q:Addr) (ms:List Int),H q=none->ms.Perm ns->ms.Pairwise (· <= ·)->Q (.ref q) (upd H q (.lst (ms.map V.int)))
theorem qW (K:PySem.W.Frag) (h:X.K=K):cQ X (.builtin "sorted") (Iu K):=by
 subst h
 walk_at"e"
 obtain ⟨p,ns,rfl,hq,hn,q⟩:=h
 walk_at"x"
 cases ru
 obtain ⟨its,rv,pl,hz⟩:=I.list hq
 have hlen:its.length=ns.length:=by rw[<-rv.length,V6]
 refine sorted_ints (l:=p) (vs:=its) (ns:=ns) pl.isList (wD rv) (by lia) fun out ms h1 h2 h3=>?_
 obtain ⟨e,he⟩:=sortedAll_at s.heap its out
 have m7:=h2.length_eq
 have L0:(64:Nat)<sizeLine:=by decide
 have UJ:(ms.map V.int).length<=sizeLine:=by rw[V6,m7];lia
 exact ⟨.ref (s.heap.objs.size+1),_,I.laid (t':=s.toks) (a:=s.heap.objs.size+1) (o:= .lst (ms.map V.int)) (fun b o e=>sortedAll_old e) (Qb7 _) ⟨UJ,out.toList,e,wF h1,by simpa [seqObj]using he⟩,rfl,q _ _ (I.bZ.fresh (Qb7 _)) h2 h3⟩
end
end L2
namespace My
open PySem PySem.Spec PyProof.Rows L2 XL
theorem Zs1:(100000:Nat)<sizeLine:=by decide
noncomputable def aU:List Nat:=[97,98,99,100,101,102,103,104,105,106,107,108,109,110,111,112,113,114,115,116,117,118,119,120,121,122]
noncomputable def ie:List Nat:=[65,66,67,68,69,70,71,72,73,74,75,76,77,78,79,80,81,82,83,84,85,86,87,88,89,90]
def Lt (c:Nat):Prop:=c∈aU\/c∈ie
noncomputable instance (c:Nat):Decidable (Lt c):=by unfold Lt;infer_instance
noncomputable def aB (c:Nat):Nat:=if aA c=true then PyProof.Rows.up1 c else PyProof.Rows.lo1 c
theorem uy: ∀c∈aU++ie,c<128/\aB c∈aU++ie/\aB (aB c)=c/\aB c≠c:=by decide+kernel
theorem Lt.mem {c:Nat} (h:Lt c):c∈aU++ie:=Qaf.mpr h
theorem Lt.lt {c:Nat} (h:Lt c):c<128:=(uy c h.mem).1
theorem Lt.aB {c:Nat} (h:Lt c):Lt (aB c):=Qaf.mp (uy c h.mem).2.1
theorem aM {c:Nat} (h:Lt c):aB (aB c)=c:=(uy c h.mem).2.2.1
theorem ig {c:Nat} (h:Lt c):aB c≠c:=(uy c h.mem).2.2.2
theorem fg {a b:Nat} (ha:Lt a) (hb:Lt b) (e:My.aB a=My.aB b):a=b:=by rw[<-aM ha,e,aM hb]
theorem wG: ∀c∈aU,oM ie ((aU.idxOf c:Nat):Int)=some (aB c):=by decide+kernel
theorem CC: ∀c∈ie,oM aU ((ie.idxOf c:Nat):Int)=some (aB c):=by decide+kernel
noncomputable def gM (l:List Nat):List Nat:=(l.map aB).reverse
def aO (b:Addr) (H H':Hp):Prop:= ∀c o,H c=some o->c≠b->H' c=some o
theorem aO.refl (b:Addr) (H:Hp):aO b H H:=fun _ _ h _=>h
theorem aO.trans {b:Addr} {H H1 H2:Hp} (x:aO b H H1) (y:aO b H1 H2):aO b H H2:=fun c o h n=>y c o (x c o h n) n
theorem aO.of {b:Addr} {H H':Hp} (x:ao H H'):aO b H H':=fun c o h _=>x c o h
theorem aO.upd (b:Addr) (H:Hp) (o:HO):aO b H (upd H b o):=fun c o h n=>by rw[az n];exact h
theorem ao.upd {H:Hp} {p:Addr} {o:HO} (h:H p=none):ao H (L2.upd H p o):=fun c u e=>by rw[az (ax e h)];exact e
def bX (H:Hp) (b:Addr):Prop:= ∃x y:Int,H b=some (.lst [.int x, .int y])
theorem bX.same {H H':Hp} {b:Addr} (h:bX H b) (s:ao H H'):bX H' b:=let ⟨x,y,e⟩:=h;⟨x,y,s _ _ e⟩
structure Yd (y:List Nat):Prop where
 nd:y.Nodup
 lt: ∀c∈y,Lt c
 cl: ∀c∈y,aB c∈y
def ng (_:PySem.W.Frag):Sp:=fun vs H Q _=> ∃c,vs=[.str (S [c])]/\c<128/\Q (.str (S [aB c])) H
theorem uA {K:PySem.W.Frag} {vs:List V} {H:Hp} {Q:VK} {E:XK} (h:ng K vs H Q E):vs.length=1:=by obtain ⟨c,rfl,_⟩:=h;rfl
def r9 (_:PySem.W.Frag):Sp:=fun vs H Q _=> ∃c,vs=[.str (S [c])]/\Lt c/\Q (.str (S [aB c])) H
theorem y6 {K:PySem.W.Frag} {vs:List V} {H:Hp} {Q:VK} {E:XK} (h:r9 K vs H Q E):vs.length=1:=by obtain ⟨c,rfl,_⟩:=h;rfl
def r_ (_:PySem.W.Frag):Sp:=fun vs H Q _=> ∃l:List Nat,vs=[.str (S l)]/\(∀c∈l,c<128)/\l.length<=1000/\ ∀H',ao H H'->Q (.str (S (gM l))) H'
theorem y7 {K:PySem.W.Frag} {vs:List V} {H:Hp} {Q:VK} {E:XK} (h:r_ K vs H Q E):vs.length=1:=by obtain ⟨c,rfl,_⟩:=h;rfl
def AL (K:PySem.W.Frag):Sp:=fun vs H Q _=> ∃(a:Addr) (ns:List Int) (k:Nat),vs=[.ref a, .int k]/\aZ K H a (ns.map V.int)/\k<=1000/\ ∀b H',H b=none->bX H' b->ao H H'->Q (.ref b) H'
theorem EN {K:PySem.W.Frag} {vs:List V} {H:Hp} {Q:VK} {E:XK} (h:AL K vs H Q E):vs.length=2:=by obtain ⟨a,ns,k,rfl,_⟩:=h;rfl
def wH (_:PySem.W.Frag):Sp:=fun vs H Q _=> ∃(b:Addr) (m:Int),vs=[.ref b, .int m]/\bX H b/\1<=m/\m<1000000/\ ∀(r:Nat) H',(r:Int)<m->bX H' b->aO b H H'->Q (.int r) H'
theorem CD {K:PySem.W.Frag} {vs:List V} {H:Hp} {Q:VK} {E:XK} (h:wH K vs H Q E):vs.length=2:=by obtain ⟨b,m,rfl,_⟩:=h;rfl
def wI (_:PySem.W.Frag):Sp:=fun vs H Q _=> ∃(b:Addr) (sd top:Nat),vs=[.ref b, .int sd, .int top]/\bX H b/\1<=sd/\sd<=top/\top<=8/\ ∀(y:List Nat) H',Yd y->2*sd<=y.length->y.length<=2*top->bX H' b->aO b H H'->Q (.str (S y)) H'
theorem CF {K:PySem.W.Frag} {vs:List V} {H:Hp} {Q:VK} {E:XK} (h:wI K vs H Q E):vs.length=3:=by obtain ⟨b,m,t,rfl,_⟩:=h;rfl
def lX (K:PySem.W.Frag):Sp:=fun vs H Q _=> ∃(a:Addr) (ns:List Int),vs=[.ref a]/\aZ K H a (ns.map V.int)/\ns.length<=63/\ ∀H',Q (.bl true) H'
theorem Iv {K:PySem.W.Frag} {vs:List V} {H:Hp} {Q:VK} {E:XK} (h:lX K vs H Q E):vs.length=1:=by obtain ⟨b,m,rfl,_⟩:=h;rfl
theorem pG: ∀l:List Nat,(l.map fun c=>[c]).flatten=l
 | []=>rfl
 | c::l=>by rw[Qa7,Qc2,pG l];rfl
theorem y8: ∀l:List Nat,((l.map fun c=>[c]).map List.length).sum=l.length
 | []=>rfl
 | c::l=>by
  rw[Qa7,Qa7,List.sum_cons,y8 l]
  show 1+l.length=l.length+1
  lia
theorem dj (l:List Nat):bW l=(l.map fun c=>[c]).map fun l=>V.str (S l):=by unfold bW;rw[Qbt];rfl
theorem AM (l:List Nat):(bW l).reverse=bW l.reverse:=by unfold bW;rw[Qc7]
theorem cR (l:List Nat) (c:Nat):bW l++[V.str (S [c])]=bW (l++[c]):=by unfold bW;rw[XN];rfl
theorem take_snoc {α:Type} {l:List α} {i:Nat} {x:α} (h:l[i]? =some x):l.take i++[x]=l.take (i+1):=by rw[Qdp,h];rfl
theorem AN {ns:List Int} {i:Nat} (h:i<ns.length): ∃z,(ns.map V.int)[i]? =some (V.int z):=⟨ns[i],by rw[Qaj,LJ h];rfl⟩
theorem cL {σ:L2.St} {H:Hp} {A B:Hp->Prop} (h:A H):QC σ H fun b H3=>if b=true then A H3 else B H3:=by
 show (if true=true then A H else B H)
 rw[if_pos rfl]
 exact h
theorem y9 (b:Bool) (z:Int): ∃y,oM [V.int 0,V.int z] (if b=true then 1 else 0)=some (V.int y):=by
 cases b
 ·exact ⟨0,rfl⟩
 ·exact ⟨z,rfl⟩
theorem ik {α:Type}: ∀{l:List α} {i:Nat} {x:α},l[i]? =some x->(x::l.eraseIdx i).Perm l
 | [],i,x,h=>by simp at h
 | a::l,0,x,h=>by
  have:a=x:=by simpa using h
  subst this
  exact Qe2 _
 | a::l,i+1,x,h=>by
  have ih:=ik (l:=l) (i:=i) (x:=x) (by simpa using h)
  rw[Qdn]
  exact (List.Perm.swap a x _).trans (List.Perm.cons a ih)
theorem mi (l:List Nat) (i:Nat):(bW l).eraseIdx i=bW (l.eraseIdx i):=by
 unfold bW
 induction l generalizing i with
 | nil=>rfl
 | cons a l ih=>
  cases i with
  | zero=>rfl
  | succ i=>rw[Qa7,Qdn,ih,Qdn,Qa7]
theorem y_ {l:List Nat} {i:Nat} (h:i<l.length):(bW l)[i]? =some (V.str (S [l[i]])):=by unfold bW;rw[Qaj,LJ h];rfl
theorem Iw (a b:List Nat):bW a++bW b=bW (a++b):=by unfold bW;rw[XN]
theorem CG: ∀c∈aU,aB c∉aU:=by decide+kernel
theorem CH:aU.Nodup:=by decide+kernel
theorem Yd.perm {a b:List Nat} (h:Yd a) (p:a.Perm b):Yd b:=
 ⟨p.nodup_iff.mp h.nd,fun c hc=>h.lt c (p.mem_iff.mpr hc),fun c hc=>p.mem_iff.mp (h.cl c (p.mem_iff.mpr hc))⟩
structure Mq (i:Nat) (L E:List Nat):Prop where
 yd:Yd E
 nd:L.Nodup
 sm: ∀c∈L,c∈aU
 ap: ∀c∈L,c∉E
 ll:L.length=26 - i
 el:E.length=2*i
theorem Mq.start:Mq 0 aU []:=⟨⟨List.nodup_nil,fun _ h=>absurd h Qae,fun _ h=>absurd h Qae⟩,CH,fun _ h=>h,fun _ _ h=>absurd h Qae,rfl,rfl⟩
theorem Mq.turn {i r:Nat} {L E:List Nat} (w:Mq i L E) (hi:i<26) (hr:r<L.length):Mq (i+1) (L.eraseIdx r) (E++[L[r],aB L[r]]):=by
 have hp:=ik (l:=L) (LJ hr)
 have hm:L[r]∈L:=Qay hr
 have hs:=w.sm _ hm
 have hl:Lt L[r]:= .inl hs
 have Wx:=hp.nodup_iff.mpr w.nd
 have sub: ∀c∈L.eraseIdx r,c∈L:=fun c hc=>hp.mem_iff.mp (kb _ hc)
 have Wy:=w.ap _ hm
 have Yn:aB L[r]∉E:=fun z=>Wy (by have:=w.yd.cl _ z;rwa [aM hl]at this)
 refine ⟨⟨?_,fun c hc=>?_,fun c hc=>?_⟩,(Qb2.mp Wx).2,fun c hc=>w.sm c (sub c hc),fun c hc hE=>?_,?_,?_⟩
 ·rw[Qdq]
  refine ⟨w.yd.nd,?_,fun a ha b hb z=>?_⟩
  ·rw[Qb2]
   refine ⟨fun z=>(ig hl) (V8.mp z).symm,Qb2.mpr ⟨Qae,List.nodup_nil⟩⟩
  ·subst z
   rcases Qah.mp hb with z | z
   ·exact Wy (z▸ha)
   ·exact Yn (V8.mp z▸ha)
 ·rcases Qaf.mp hc with z | z
  ·exact w.yd.lt c z
  ·rcases Qah.mp z with z | z
   ·rw[z];exact hl
   ·rw[V8.mp z];exact hl.aB
 ·rcases Qaf.mp hc with z | z
  ·exact Qct _ (w.yd.cl c z)
  ·refine Qax _ ?_
   rcases Qah.mp z with z | z
   ·rw[z];exact kb _ (V8.mpr rfl)
   ·rw[V8.mp z,aM hl];exact XS
 ·rcases Qaf.mp hE with z | z
  ·exact w.ap c (sub c hc) z
  ·rcases Qah.mp z with z | z
   ·exact (Qb2.mp Wx).1 (z▸hc)
   ·have e:c=aB L[r]:=V8.mp z
    exact CG _ hs (e▸w.sm c (sub c hc))
 ·have:=hp.length_eq
  rw[Qar,w.ll]at this
  lia
 ·rw[V7,w.el]
  show 2*i+2=_
  lia
theorem aO.cZ {b p:Addr} {H H':Hp} {o:HO} (h:aO b H H') (n:H p=none):aO b H (L2.upd H' p o):=fun c u e z=>by rw[az (ax e n)];exact h c u e z
theorem bX.cZ {b p:Addr} {H:Hp} {o:HO} (h:bX H b) (n:p≠b):bX (L2.upd H p o) b:=let ⟨x,y,e⟩:=h;⟨x,y,by rw[az (Ne.symm n)];exact e⟩
theorem aO.none {b p:Addr} {H H':Hp} (h:aO b H H') (n:H' p=none) (z:p≠b):H p=none:=by
 cases q:H p with
 | none=>rfl
 | some o=>rw[h p o q z]at n;cases n
theorem bX.ne {b p:Addr} {H:Hp} (h:bX H b) (n:H p=none):p≠b:=fun z=>by obtain ⟨x,y,e⟩:=h;rw[<-z,n]at e;cases e
theorem uC {c:Bool} {A B:Prop} (h:c=false) (hB:B):if c=true then A else B:=by rw[h];exact kf hB
theorem Iy {c:Bool} {A B:Prop} (h:c=true) (hA:A):if c=true then A else B:=by rw[h];exact t9 hA
theorem cC (l:List Nat):(gM l).length=l.length:=by unfold gM;rw[Qaz,V6]
theorem Iz {l:List Nat} (h: ∀c∈l,Lt c):gM (gM l)=l:=by
 unfold gM
 rw[Qc7,List.reverse_reverse,Qbt]
 have: ∀c∈l,(aB ∘ aB) c=c:=fun c hc=>aM (h c hc)
 calc l.map (aB ∘ aB)=l.map id:=Qdc this
  _=l:=List.map_id l
theorem Rn {l:List Nat} (h: ∀c∈l,Lt c): ∀c∈l,c<128:=fun c hc=>(h c hc).lt
theorem kZ (a:List Nat):a.take (bW a).length=a:=by rw[aK];exact Qau (Sq _)
theorem AO (n:Nat):(List.replicate n true).all id=true:=by rw[Qcd];intro b hb;rw[List.eq_of_mem_replicate hb];rfl
theorem wJ (n:Nat):(List.replicate n true).map V.bl++[V.bl true]=(List.replicate (n+1) true).map V.bl:=by rw[List.replicate_succ',XN];rfl
theorem UZ {K:PySem.W.Frag} {H H':Hp} {a p:Addr} {xs:List V} (h:aZ K H a xs) (n:H p=none) (s:aO p H H'):aZ K H' a xs:=by
 rcases h with (h | ⟨o,h⟩) | h
 ·exact .inl (.inl (s _ _ h (ax h n)))
 ·exact .inl (.inr ⟨o,s _ _ h (ax h n)⟩)
 ·exact .inr h
theorem IA {α:Type} {l:List α} {lo hi:Option Int} {c:α} (h:c∈cut l lo hi):c∈l:=Qd2 (Qbx h)
theorem aO.same {b:Addr} {H H2 H3:Hp} (n:H b=Option.none) (s:ao H H2) (t:aO b H2 H3):ao H H3:=fun c o e=>t c o (s c o e) (ax e n)
theorem aO.after {p:Addr} {H H1 H2:Hp} (s:aO p H H1) (t:ao H1 H2):aO p H H2:=fun c o e z=>t c o (s c o e z)
noncomputable def iR (ws:List (List Nat)):List V:=ws.map fun l=>V.str (S l)
theorem bG (ws:List (List Nat)):(iR ws).length=ws.length:=by unfold iR;rw[V6]
theorem wK (ws:List (List Nat)) (l:List Nat):iR ws++[V.str (S l)]=iR (ws++[l]):=by unfold iR;rw[XN];rfl
theorem jd {ws:List (List Nat)} {i:Nat} (h:i<ws.length):(iR ws)[i]? =some (V.str (S ws[i])):=by unfold iR;rw[Qaj,LJ h];rfl
theorem nh {s:TS} {D:Ends} {σ:L2.St} {H:Hp} (h: ∀D':Ends,(∀σ' H',D.nx σ' H'->D'.nx σ' H')->s D' σ H):s D σ H:=h D fun _ _ z=>z
theorem Ro {t u:TS} {D:Ends} {σ:L2.St} {H:Hp} (h: ∀N:L2.St->Hp->Prop,(∀σ' H',u D σ' H'->N σ' H')->t { D with nx:=N } σ H):yh t u D σ H:=h _ fun _ _ z=>z
theorem Mr {k:Nat} {v:V} {t u:TS} {D:Ends} {σ:L2.St} {H:Hp} {r:V->Hp->Prop} {b c:L2.St->Hp->Prop} (h: ∀N:L2.St->Hp->Prop,(∀σ' H',u D σ' H'->N σ' H')->t { D with nx:=N } (σ.set k (some v)) H):rC k v σ H ({ nx:=yh t u D,rt:=r,bk:=b,ct:=c }:Ends).nx:=h _ fun _ _ z=>z
theorem Rp {t:TT} {σ:L2.St} {H:Hp} {Q:Bool->Hp->Prop} (h: ∀Q':Bool->Hp->Prop,(∀b H',Q b H'->Q' b H')->t σ H Q'):t σ H Q:=h Q fun _ _ z=>z
noncomputable def fH (st:List Nat) (c:Nat):List Nat:=if st.getLast? =some (aB c) then st.dropLast else st++[c]
noncomputable def red (l:List Nat):List Nat:=l.foldl fH []
def za:List Nat->Prop
 | []=>True
 | [_]=>True
 | a::b::r=>a≠aB b/\za (b::r)
theorem za.init: ∀{l:List Nat} {c:Nat},za (l++[c])->za l/\l.getLast?≠ some (aB c)
 | [],_,_=>⟨trivial,by simp⟩
 | [a],c,h=>⟨trivial,fun z=>h.1 (by simpa using z)⟩
 | a::b::r,c,h=>by
  have ih:=za.init (l:=b::r) (c:=c) h.2
  exact ⟨⟨h.1,ih.1⟩,by simpa using ih.2⟩
theorem snoc_cases (l:List Nat):l=[]\/ ∃m a,l=m++[a]:=by
 by_cases h:l=[]
 ·exact .inl h
 ·exact .inr ⟨l.dropLast,l.getLast h,(List.dropLast_concat_getLast h).symm⟩
theorem za.left: ∀{m l:List Nat},za (m++l)->za m
 | [],_,_=>trivial
 | [_],_,_=>trivial
 | a::b::r,l,h=>⟨h.1,za.left (m:=b::r) (l:=l) h.2⟩
theorem CI {st:List Nat} {c d:Nat} (h:d∈fH st c):d∈st\/d=c:=by
 unfold fH at h
 by_cases e:st.getLast? =some (aB c)
 ·rw[if_pos e]at h
  exact .inl (List.dropLast_subset _ h)
 ·rw[if_neg e]at h
  rcases Qaf.mp h with z | z
  ·exact .inl z
  ·exact .inr (V8.mp z)
theorem fold_same: ∀(l st:List Nat),za (st++l)->l.foldl fH st=st++l
 | [],st,_=>by simp
 | c::l,st,h=>by
  have h':za ((st++[c])++l):=by rw[Qb9];exact h
  have h2:=(za.left h').init.2
  rw[Qd5]
  have:fH st c=st++[c]:=by unfold fH;rw[if_neg h2]
  rw[this,fold_same l (st++[c]) h',Qb9]
  rfl
theorem EO {l:List Nat} (h:za l):red l=l:=by
 exact fold_same l [] h
theorem fold_lt: ∀(l st:List Nat),(∀c∈l,Lt c)->(∀c∈st,Lt c)-> ∀c∈l.foldl fH st,Lt c
 | [],_,_,h=>h
 | a::l,st,h1,h2=>fold_lt l _ (fun c hc=>h1 c (kb _ hc)) fun c hc=>(CI hc).elim (h2 c) fun z=>z▸h1 a XS
theorem Ms {l:List Nat} (h: ∀c∈l,Lt c): ∀c∈red l,Lt c:=fold_lt l [] h fun _ h=>absurd h Qae
theorem CJ (st:List Nat) (c:Nat):(fH st c).length<=st.length+1:=by
 unfold fH
 by_cases e:st.getLast? =some (aB c)
 ·rw[if_pos e,List.length_dropLast];lia
 ·rw[if_neg e,V7];exact Sq _
theorem wL: ∀(l st:List Nat),(l.foldl fH st).length<=st.length+l.length
 | [],_=>Sq _
 | c::l,st=>by
  have:=wL l (fH st c)
  have h2:=CJ st c
  rw[Qd5,Qar]
  lia
theorem k_ (l:List Nat):(red l).length<=l.length:=by
 have:=wL l []
 rw[List.length_nil,Qeo]at this
 exact this
theorem ER {l:List Nat} {i c:Nat} (h:l[i]? =some c):red (l.take (i+1))=fH (red (l.take i)) c:=by
 unfold red
 rw[<-take_snoc h,List.foldl_append]
 rfl
theorem ES: ∀{l:List Nat},(∀k a b,l[k]? =some a->l[k+1]? =some b->a≠aB b)->za l
 | [],_=>trivial
 | [_],_=>trivial
 | a::b::r,h=>⟨h 0 a b rfl rfl,ES (l:=b::r) fun k x y h1 h2=>h (k+1) x y (by simpa using h1) (by simpa using h2)⟩
noncomputable def DH (l:List Nat) (s e:Nat):List Nat:=(l.drop s).take (e - s)
noncomputable def strip:Nat->List Nat->List Nat
 | 0,l=>l
 | n+1,l=>match l with
  | []=>[]
  | [a]=>[a]
  | a::b::r=>if a=aB ((b::r).getLast (by simp)) then strip n (b::r).dropLast else a::b::r
theorem fo: ∀(n:Nat) {l:List Nat},l.length<2->strip n l=l
 | 0,_,_=>rfl
 | _+1,[],_=>rfl
 | _+1,[_],_=>rfl
 | _+1,_::_::_,h=>by simp at h;lia
theorem la (l:List Nat) (y:Nat):(l++[y]).getLast (by simp)=y:=by simp
theorem strip_go (n:Nat) {a y:Nat} {m:List Nat} (h:a=aB y):strip (n+1) (a::(m++[y]))=strip n m:=by
 cases m with
 | nil=>
  show (if a=aB (([y]:List Nat).getLast (by simp)) then strip n ([y]:List Nat).dropLast else _)=strip n []
  rw[if_pos (by simpa using h)]
  rfl
 | cons b r=>
  show (if a=aB ((b::(r++[y])).getLast (by simp)) then strip n (b::(r++[y])).dropLast else _)=strip n (b::r)
  have e1:(b::(r++[y])).getLast (by simp)=y:=la (b::r) y
  have e2:(b::(r++[y])).dropLast=b::r:=by
   have:b::(r++[y])=(b::r)++[y]:=rfl
   rw[this,Qe1]
  rw[if_pos (by rw[e1];exact h),e2]
theorem strip_stop (n:Nat) {a y:Nat} {m:List Nat} (h:a≠aB y):strip n (a::(m++[y]))=a::(m++[y]):=by
 cases n with
 | zero=>rfl
 | succ n=>
  cases m with
  | nil=>
   show (if a=aB (([y]:List Nat).getLast (by simp)) then _ else _)=_
   rw[if_neg (by simpa using h)]
   rfl
  | cons b r=>
   show (if a=aB ((b::(r++[y])).getLast (by simp)) then _ else _)=_
   have e1:(b::(r++[y])).getLast (by simp)=y:=la (b::r) y
   rw[if_neg (by rw[e1];exact h)]
   rfl
theorem ET {l:List Nat} (h:2<=l.length): ∃a m y,l=a::(m++[y]):=by
 cases l with
 | nil=>simp at h
 | cons a r=>
  rcases snoc_cases r with rfl | ⟨m,y,rfl⟩
  ·simp at h
  ·exact ⟨a,m,y,rfl⟩
theorem pH: ∀(n:Nat) (l:List Nat) (k:Nat),l.length<=n->strip (n+k) l=strip n l
 | 0,l,k,h=>by rw[fo _ (by lia),fo _ (by lia)]
 | n+1,l,k,h=>by
  by_cases h2:l.length<2
  ·rw[fo _ h2,fo _ h2]
  ·obtain ⟨a,m,y,rfl⟩:=ET (l:=l) (by lia)
   have hm:m.length<=n:=by simp at h;lia
   by_cases e:a=aB y
   ·have:n+1+k=(n+k)+1:=by lia
    rw[this,strip_go _ e,strip_go _ e,pH n m k hm]
   ·rw[strip_stop _ e,strip_stop _ e]
noncomputable def core (l:List Nat):List Nat:=strip l.length l
theorem AQ {a y:Nat} {m:List Nat} (h:a=aB y):core (a::(m++[y]))=core m:=by
 unfold core
 have:(a::(m++[y])).length=(m.length+1)+1:=by simp
 rw[this,strip_go _ h,pH _ _ _ (Sq _)]
theorem mj {a y:Nat} {m:List Nat} (h:a≠aB y):core (a::(m++[y]))=a::(m++[y]):=strip_stop _ h
theorem il {l:List Nat} (h:l.length<2):core l=l:=fo _ h
theorem wM {P:List Nat->List Nat->Prop} (h1: ∀l,l.length<2->P l l) (h2: ∀a m y,a≠aB y->P (a::(m++[y])) (a::(m++[y]))) (h3: ∀a m y r,a=aB y->P m r->P (a::(m++[y])) r): ∀(n:Nat) (l:List Nat),l.length<=n->P l (core l)
 | 0,l,h=>by rw[il (by lia)];exact h1 l (by lia)
 | n+1,l,h=>by
  by_cases hl:l.length<2
  ·rw[il hl];exact h1 l hl
  ·obtain ⟨a,m,y,rfl⟩:=ET (l:=l) (by lia)
   by_cases e:a=aB y
   ·rw[AQ e]
    exact h3 a m y _ e (wM h1 h2 h3 n m (by simp at h;lia))
   ·rw[mj e];exact h2 a m y e
theorem wN (l:List Nat):(core l).length<=l.length:=
 wM (P:=fun l r=>r.length<=l.length) (fun _ _=>Sq _) (fun _ _ _ _=>Sq _) (fun a m y r _ k=>by simp;lia) l.length l (Sq _)
theorem Mt {l:List Nat} {s e:Nat} (h1:s+2<=e) (h2:e<=l.length):DH l s e=l[s]::(DH l (s+1) (e - 1)++[l[e - 1]]):=by
 unfold DH
 rw[Qcn (by lia)]
 have e1:e - s=(e - 1 - (s+1))+1+1:=by lia
 rw[e1,List.take_succ_cons,Qdp,Qb5]
 have e2:s+1+(e - 1 - (s+1))=e - 1:=by lia
 rw[e2,LJ (by lia)]
 rfl
theorem IB {l:List Nat} {s e:Nat} (h2:e<=l.length):(DH l s e).length=e - s:=by unfold DH;rw[Qak,Qat];lia
theorem IC (l:List Nat):DH l 0 l.length=l:=by unfold DH;simp
def lh (_:PySem.W.Frag):Sp:=fun vs H Q _=> ∃l:List Nat,vs=[.str (S l)]/\(∀c∈l,Lt c)/\l.length<=1000/\ ∀H',ao H H'->Q (.str (S (red l))) H'
theorem qX {K:PySem.W.Frag} {vs:List V} {H:Hp} {Q:VK} {E:XK} (h:lh K vs H Q E):vs.length=1:=by obtain ⟨c,rfl,_⟩:=h;rfl
def ni (_:PySem.W.Frag):Sp:=fun vs H Q _=> ∃l:List Nat,vs=[.str (S l)]/\(∀c∈l,Lt c)/\l.length<=1000/\ ∀H',ao H H'->Q (.str (S (core (red l)))) H'
theorem uD {K:PySem.W.Frag} {vs:List V} {H:Hp} {Q:VK} {E:XK} (h:ni K vs H Q E):vs.length=1:=by obtain ⟨c,rfl,_⟩:=h;rfl
theorem cX {α:Type} (l:List α) (k:Nat):cut l none (some (k:Int))=l.take k:=by
 unfold cut
 rw[HT.i3,HT.gk,List.drop_zero,Nat.sub_zero]
 by_cases h:k<=l.length
 ·rw[Qcp h]
 ·rw[Qc6 (by lia),Qau (Sq _),Qau (by lia)]
theorem fq {α:Type} (l:List α) (k:Nat):cut l (some (k:Int)) none=l.drop k:=by
 unfold cut
 rw[HT.i3,HT.gk]
 by_cases h:k<=l.length
 ·rw[Qcp h,Qau (by rw[Qat];exact Sq _)]
 ·rw[Qc6 (by lia),Qca (Sq _),Qca (by lia)]
  simp
noncomputable def uE (ws:List (List Nat)):List PyData:=ws.map fun l=>PyData.str (S l)
theorem je {K:PySem.W.Frag} {H:Hp}: ∀ws:List (List Nat),kO K H (iR ws) (uE ws)
 | []=> .nil
 | w::ws=> .cons (.str _) (je ws)
theorem Mu {l:List Nat} (h: ∀c∈l,c<128):PyData.strOk (S l)=true:=by
 unfold PyData.strOk
 rw[Array.all_eq_true_iff_forall_mem]
 intro c hc
 have:c∈l:=by simpa [S]using hc
 have:=h c this
 simp;lia
theorem lj: ∀{ws:List (List Nat)},(∀l∈ws, ∀c∈l,c<128)->PyData.canLayAll0 (uE ws)=true
 | [],_=>rfl
 | w::ws,h=>by
  show (PyData.strOk (S w)&&PyData.canLayAll0 (uE ws))=true
  rw[Mu (h w XS),lj fun l hl=>h l (kb _ hl)]
  rfl
theorem jH: ∀ws:List (List Nat),PyData.depthAll (uE ws)=0
 | []=>rfl
 | k::ks=>by show max (PyData.depth (.str _)) (PyData.depthAll (uE ks))=0;rw[jH ks];rfl
mutual
theorem eqv_refl: ∀d:PyData,d.hasDict=false->PyData.eqv d d=true
 | .none,_=>rfl
 | .bool b,_=>by simp[PyData.eqv]
 | .int i,_=>by simp[PyData.eqv]
 | .str x,_=>by simp[PyData.eqv]
 | .list xs,h=>by show PyData.eqvAll xs xs=true;exact eqvAll_refl xs (by simpa [PyData.hasDict]using h)
 | .tuple xs,h=>by show PyData.eqvAll xs xs=true;exact eqvAll_refl xs (by simpa [PyData.hasDict]using h)
 | .dict eL,h=>by simp[PyData.hasDict]at h
theorem eqvAll_refl: ∀ds:List PyData,PyData.hasDictAll ds=false->PyData.eqvAll ds ds=true
 | [],_=>rfl
 | d::ds,h=>by
  simp[PyData.hasDictAll]at h
  show (PyData.eqv d d&&PyData.eqvAll ds ds)=true
  rw[eqv_refl d h.1,eqvAll_refl ds h.2]
  rfl
end
noncomputable def hW (c:List Nat) (k:Nat):List Nat:=c.drop k++c.take k
noncomputable def lq (c:List Nat) (n:Nat):List (List Nat):=(List.range n).map fun k=>hW c (k+1)
noncomputable def fI (c:List Nat):List Nat:=cn c (lq c (c.length - 1))
@[irreducible] noncomputable def dS (w:List Nat):List Nat:=fI (core (red w))
theorem se (c:List Nat) (n:Nat):lq c (n+1)=lq c n++[hW c (n+1)]:=by unfold lq;rw[Qbf,XN];rfl
theorem iq: ∀(r:List (List Nat)) (a b:List Nat),cn a (r++[b])=cW (cn a r) b
 | [],_,_=>rfl
 | _::r,_,_=>iq r _ _
theorem cM (c:List Nat) (k:Nat):(hW c k).length=c.length:=by unfold hW;rw[V7,Qat,Qak];lia
theorem kl: ∀(r:List (List Nat)) (a:List Nat),cn a r=a\/cn a r∈r
 | [],a=> .inl rfl
 | b::r,a=>by
  rcases kl r (cW a b) with h | h
  ·have hl:cW a b=a\/cW a b=b:=by unfold cW;split<;>simp
   rcases hl with e | e
   ·left;show cn (cW a b) r=a;rw[h,e]
   ·right;show cn (cW a b) r∈b::r;rw[h,e];exact XS
  ·right;exact kb _ h
theorem sg (c:List Nat): ∃k,fI c=hW c k:=by
 rcases kl (lq c (c.length - 1)) c with h | h
 ·exact ⟨0,by show cn _ _=_;rw[h];unfold hW;simp⟩
 ·unfold lq at h
  obtain ⟨k,_,e⟩:=Qav.mp h
  exact ⟨k+1,e.symm⟩
theorem CK (w:List Nat):(dS w).length<=w.length:=by
 obtain ⟨k,e⟩:=sg (core (red w))
 unfold dS
 rw[e,cM]
 exact Qa8 (wN _) (k_ w)
def AR (_:PySem.W.Frag):Sp:=fun vs H Q _=> ∃l:List Nat,vs=[.str (S l)]/\(∀c∈l,Lt c)/\l.length<=1000/\ ∀H',ao H H'->Q (.str (S (dS l))) H'
theorem EU {K:PySem.W.Frag} {vs:List V} {H:Hp} {Q:VK} {E:XK} (h:AR K vs H Q E):vs.length=1:=by obtain ⟨c,rfl,_⟩:=h;rfl
theorem Mv (n d:Nat):HT.hU n d (some (-1))=n - 1:=by
 have e:HT.hU n d (some (-1))=(if (-1:Int)<0 then ((-1:Int)+(n:Int)).toNat else min (-1:Int).toNat n):=rfl
 rw[e,if_pos (by decide)]
 lia
theorem Mw {α:Type} (l:List α):cut l (some (-2)) none=l.drop (l.length - 2):=by
 have e: ∀d,HT.hU l.length d (some (-2))=(if (-2:Int)<0 then ((-2:Int)+(l.length:Int)).toNat else min (-2:Int).toNat l.length):=fun _=>rfl
 have e2: ∀d,HT.hU l.length d (some (-2))=l.length - 2:=fun d=>by rw[e,if_pos (by decide)];lia
 unfold cut
 rw[HT.i3,e2]
 exact Qau (by rw[Qat];exact Sq _)
def AllLt (l:List Nat):Prop:= ∀c∈l,Lt c
theorem pJ (a b:List Nat): ¬a<cW a b:=by
 unfold cW
 split
 ·rename_i h;exact fun g=>Qdr a (List.lt_trans g h)
 ·exact Qdr a
theorem nM (a b:List Nat): ¬b<cW a b:=by
 unfold cW
 split
 ·exact Qdr b
 ·rename_i h;exact h
theorem Ks {a b c:List Nat} (h: ¬b<a) (g: ¬c<b): ¬c<a:=List.le_trans (show a<=b from h) (show b<=c from g)
theorem km: ∀(r:List (List Nat)) (a:List Nat), ∀x∈a::r, ¬x<cn a r
 | [],a,x,hx=>by rw[V8.mp hx];exact Qdr a
 | b::r,a,x,hx=>by
  show ¬x<cn (cW a b) r
  have h0:=km r (cW a b) (cW a b) XS
  rcases Qah.mp hx with e | hx
  ·rw[e];exact Ks h0 (pJ a b)
  ·rcases Qah.mp hx with e | hx
   ·rw[e];exact Ks h0 (nM a b)
   ·exact km r (cW a b) x (kb _ hx)
theorem wO (c:List Nat):hW c 0=c:=by unfold hW;simp
theorem lr (u:List Nat): ∀(m i:Nat),i<m*u.length->(dh m u)[i]? =u[i%u.length]?
 | 0,i,h=>by simp at h
 | m+1,i,h=>by
  rw[eR,List.getElem?_append]
  by_cases z:i<u.length
  ·rw[if_pos z,Qcb z]
  ·rw[if_neg z,lr u m (i - u.length) (by rw[Qd6]at h;lia), <-Qe9 (by lia)]
def eE (w:List Nat) (s:Nat):Prop:=dh (w.length / s) (w.take s)=w
def gT (w:List Nat) (k:Nat):Prop:=hW w k=w
noncomputable instance (w:List Nat) (s:Nat):Decidable (eE w s):=by unfold eE;infer_instance
noncomputable instance (w:List Nat) (s:Nat):Decidable (gT w s):=by unfold gT;infer_instance
def bN (w:List Nat) (s:Nat):Prop:=(w=[]/\s=0)\/(1<=s/\s<=w.length/\eE w s/\ ∀j,1<=j->j<s-> ¬eE w j)
def kn (w:List Nat) (s:Nat):Prop:=(w=[]/\s=0)\/(1<=s/\s<=w.length/\gT w s/\ ∀j,1<=j->j<s-> ¬gT w j)
theorem uF {w:List Nat} {s:Nat} (h1:1<=s) (h2:s<=w.length) (h:eE w s):gT w s:=by
 unfold eE at h
 have hm:1<=w.length / s:=Nat.div_pos h2 h1
 obtain ⟨m,e⟩: ∃m,w.length / s=m+1:=⟨w.length / s - 1,by lia⟩
 rw[e]at h
 have hu:(w.take s).length=s:=by rw[Qak];lia
 generalize w.take s=u at h hu
 unfold gT hW
 rw[<-h,eR,List.drop_left' hu,List.take_left' hu, <-yL,eR]
noncomputable def Fw (w:List Nat) (i:Nat):Option Nat:=w[i%w.length]?
theorem oe {w:List Nat} {k i:Nat} (hk:k<=w.length) (hi:i<w.length):(hW w k)[i]? =Fw w (i+k):=by
 unfold hW Fw
 rw[List.getElem?_append,Qat]
 by_cases z:i<w.length - k
 ·rw[if_pos z,Qb5,Qcb (by lia),Qff]
 ·rw[if_neg z,Qcx,if_pos (by lia),Qe9 (by lia),Qcb (by lia)]
  congr 1
  lia
def xT (w:List Nat) (k:Nat):Prop:= ∀i,Fw w (i+k)=Fw w i
theorem EV (w:List Nat) (i k:Nat):Fw w (i%w.length+k)=Fw w (i+k):=by unfold Fw;rw[Nat.mod_add_mod]
theorem gn {w:List Nat} {k:Nat} (hn:w≠[]) (hk:k<=w.length):gT w k↔xT w k:=by
 have hl:0<w.length:=V9.mpr hn
 constructor
 ·intro h i
  have hi:=Qdl i hl
  rw[<-EV, <-oe hk hi,h]
  rfl
 ·intro h
  refine Qfh fun i=>?_
  by_cases hi:i<w.length
  ·rw[oe hk hi,h i]
   unfold Fw
   rw[Qcb hi]
  ·have hr:(hW w k).length=w.length:=cM w k
   rw[Qck (by lia),Qck (by lia)]
theorem xT.mul {w:List Nat} {k:Nat} (h:xT w k): ∀j i,Fw w (i+k*j)=Fw w i
 | 0,i=>rfl
 | j+1,i=>by rw[Nat.mul_succ, <-Qe7,h,xT.mul h j]
theorem xT.whole (w:List Nat):xT w w.length:=fun i=>by unfold Fw;rw[Nat.add_mod_right]
theorem xT.rest {w:List Nat} {k:Nat} (h:xT w k):xT w (w.length%k):=fun i=>by
 rw[<-h.mul (w.length / k) (i+w.length%k),Qe7,Qes]
 exact xT.whole w i
theorem si {w:List Nat} {k:Nat} (hn:w≠[]) (h1:1<=k) (h2:k<=w.length) (h:gT w k) (hl: ∀j,1<=j->j<k-> ¬gT w j):eE w k:=by
 have hp:=(gn hn h2).mp h
 have hr:w.length%k=0:=by
  by_cases z:w.length%k=0
  ·exact z
  ·have cE:=Qdl w.length (show k>0 by lia)
   exact absurd ((gn hn (by lia)).mpr hp.rest) (hl _ (by lia) cE)
 have hm:w.length / k*k=w.length:=by
  have:=Qes w.length k
  rw[hr,Qeo,Qb6]at this
  exact this
 have hu:(w.take k).length=k:=by rw[Qak];lia
 unfold eE
 refine Qfh fun i=>?_
 by_cases hi:i<w.length
 ·rw[lr _ _ _ (by rw[hu,hm];exact hi),hu,Qcx]
  have Yo:=Qdl i (show k>0 by lia)
  rw[if_pos Yo]
  have e:=hp.mul (i / k) (i%k)
  rw[Qes]at e
  unfold Fw at e
  rw[Qcb hi,Qcb (by lia)]at e
  exact e.symm
 ·rw[Qck (by rw[oZ,hu,hm];lia),Qck (by lia)]
theorem jI {w:List Nat} {s k:Nat} (h:bN w s) (g:kn w k):s=k:=by
 rcases h with ⟨e,e2⟩ | ⟨h1,h2,h3,h4⟩
 ·rcases g with ⟨_,g2⟩ | ⟨g1,g2,_,_⟩
  ·rw[e2,g2]
  ·rw[e]at g2;simp at g2;lia
 ·rcases g with ⟨e,_⟩ | ⟨g1,g2,g3,g4⟩
  ·rw[e]at h2;simp at h2;lia
  ·have hn:w≠[]:=fun z=>by rw[z]at h2;simp at h2;lia
   by_cases z:s<k
   ·exact absurd (uF h1 h2 h3) (g4 s h1 z)
   ·by_cases z2:k<s
    ·exact absurd (si hn g1 g2 g3 g4) (h4 k g1 z2)
    ·lia
theorem sj (w:List Nat) (h:w≠[]):eE w w.length:=by
 have hl:0<w.length:=V9.mpr h
 unfold eE
 rw[Nat.div_self hl,Qau (Sq _)]
 show dh (0+1) w=w
 rw[eR]
 simp[dh]
theorem CL (w:List Nat):gT w w.length:=by
 unfold gT hW
 rw[Qca (Sq _),Qau (Sq _)]
 rfl
noncomputable def ID (c:List Nat) (n:Nat):List Nat:=((List.range n).map (· +1)).filter fun k=>decide (gT c k)
theorem uG {c:List Nat} {n k:Nat}:k∈ID c n↔(1<=k/\k<=n)/\gT c k:=by
 unfold ID
 rw[Qa5,Qav]
 constructor
 ·rintro ⟨⟨j,hj,rfl⟩,h⟩
  have:=Qa3.mp hj
  exact ⟨by lia,of_decide_eq_true h⟩
 ·rintro ⟨h1,h2⟩
  exact ⟨⟨k - 1,Qa3.mpr (by lia),by lia⟩,decide_eq_true h2⟩
theorem zc (c:List Nat) (n:Nat):(ID c n).Pairwise (· < ·):=by
 unfold ID
 refine List.Pairwise.filter _ ?_
 rw[Qbg]
 exact (Qeq (n:=n)).imp fun h=>Nat.succ_lt_succ h
theorem pK {c:List Nat} (h:c≠[]): ∃k r,ID c c.length=k::r/\kn c k:=by
 have hl:0<c.length:=V9.mpr h
 have hm:c.length∈ID c c.length:=uG.mpr ⟨by lia,CL c⟩
 rcases e:ID c c.length with _ | ⟨k,r⟩
 ·rw[e]at hm;exact absurd hm Qae
 ·refine ⟨k,r,rfl, .inr ?_⟩
  have hk:k∈ID c c.length:=by rw[e];exact XS
  obtain ⟨⟨h1,h2⟩,h3⟩:=uG.mp hk
  refine ⟨h1,h2,h3,fun j j1 j2 z=>?_⟩
  have hj:j∈ID c c.length:=uG.mpr ⟨by lia,z⟩
  have hs:=zc c c.length
  rw[e]at hj hs
  rcases Qah.mp hj with w | w
  ·lia
  ·have:=Qb3 hs w
   lia
noncomputable def Kt (w:List Nat) (s:Nat):List V:=[.str (S (w.take s)), .int ((w.length / s:Nat):Int)]
def AS (_:PySem.W.Frag):Sp:=fun vs H Q _=> ∃l:List Nat,vs=[.str (S l)]/\(∀c∈l,Lt c)/\l.length<=1000/\ ∀p s H',H p=none->H' p=some (.tup (Kt (dS l) s))->bN (dS l) s->ao H H'->Q (.ref p) H'
theorem EW {K:PySem.W.Frag} {vs:List V} {H:Hp} {Q:VK} {E:XK} (h:AS K vs H Q E):vs.length=1:=by obtain ⟨c,rfl,_⟩:=h;rfl
theorem a_: ∀c∈aU,aA c=true/\PyProof.Rows.lo1 c=c/\aB c∈ie:=by decide+kernel
theorem bJ: ∀c∈ie,aA c=false/\PyProof.Rows.lo1 c=aB c/\c∉aU/\aB c∈aU:=by decide+kernel
theorem ml: ∀c∈ie,c∉aU:=by decide+kernel
theorem fQ {c:Nat} (h:Lt c):aA c=decide (c∈aU):=by
 rcases h with h | h
 ·rw[(a_ c h).1,decide_eq_true h]
 ·rw[(bJ c h).1,decide_eq_false (bJ c h).2.2.1]
noncomputable def gr (y:List Nat) (a b c:Nat):Bool:=decide ((((y.idxOf b:Nat):Int) - ((y.idxOf a:Nat):Int))%(y.length:Int)<(((y.idxOf c:Nat):Int) - ((y.idxOf a:Nat):Int))%(y.length:Int))
def jT (i j k:Nat):Prop:=(i<j/\j<k)\/(j<k/\k<i)\/(k<i/\i<j)
noncomputable instance (i j k:Nat):Decidable (jT i j k):=by unfold jT;infer_instance
theorem jf {i j n:Nat} (hi:i<n) (hj:j<n):((j:Int) - (i:Int))%(n:Int)=if i<=j then (j:Int) - i else (j:Int) - i+n:=by
 split
 ·exact Qas (by lia) (by lia)
 ·rw[<-Qc0]
  exact Qas (by lia) (by lia)
theorem gD {y:List Nat} {a b c:Nat} (hn:y.Nodup) (ha:a∈y) (hb:b∈y) (hc:c∈y) (ph:a≠b) (Ku:a≠c) (Kv:b≠c):gr y a b c=decide (jT (y.idxOf a) (y.idxOf b) (y.idxOf c)):=by
 have ia:=Qad ha
 have ib:=Qad hb
 have ic:=Qad hc
 have inj: ∀{u v:Nat},u∈y->v∈y->u≠v->y.idxOf u≠y.idxOf v:=fun {u v} hu hv h z=>h (by
  have e1:=Qbu (Qad hu)
  have e2:=Qbu (Qad hv)
  rw[<-e1, <-e2]
  congr 1)
 have n1:=inj ha hb ph
 have n2:=inj ha hc Ku
 have n3:=inj hb hc Kv
 unfold gr
 rw[jf ia ib,jf ia ic]
 generalize y.idxOf a=i at*
 generalize y.idxOf b=j at*
 generalize y.idxOf c=k at*
 refine decide_eq_decide.mpr ?_
 unfold jT
 split<;>split<;>lia
theorem EX {i j k:Nat}:jT j k i↔jT i j k:=by unfold jT;lia
theorem IE {i j k:Nat} (h1:i≠j) (h2:i≠k) (h3:j≠k):jT i k j↔ ¬jT i j k:=by unfold jT;lia
theorem IF {y:List Nat} {a b c:Nat} (hn:y.Nodup) (ha:a∈y) (hb:b∈y) (hc:c∈y) (ph:a≠b) (Ku:a≠c) (Kv:b≠c):gr y b c a=gr y a b c:=by
 rw[gD hn ha hb hc ph Ku Kv,gD hn hb hc ha Kv (Ne.symm ph) (Ne.symm Ku)]
 exact decide_eq_decide.mpr EX
theorem b9 {y:List Nat} {u v:Nat} (hu:u∈y) (hv:v∈y) (h:u≠v):y.idxOf u≠y.idxOf v:=fun z=>h (by
 have e1:=Qbu (Qad hu)
 have e2:=Qbu (Qad hv)
 rw[<-e1, <-e2]
 congr 1)
theorem Mx {y:List Nat} {a b c:Nat} (hn:y.Nodup) (ha:a∈y) (hb:b∈y) (hc:c∈y) (ph:a≠b) (Ku:a≠c) (Kv:b≠c):gr y a c b=!gr y a b c:=by
 rw[gD hn ha hb hc ph Ku Kv,gD hn ha hc hb Ku ph (Ne.symm Kv)]
 rw[<-decide_not]
 exact decide_eq_decide.mpr (IE (b9 ha hb ph) (b9 ha hc Ku) (b9 hb hc Kv))
theorem CM {a b:List Nat} (h:a.Perm b) (ha:a.Pairwise (· <= ·)) (hb:b.Pairwise (· <= ·)):a=b:=
 List.Perm.eq_of_pairwise (le:=fun x y=>x<=y) (fun _ _ _ _ h1 h2=>Qfq h1 h2) ha hb h
def wQ (_:PySem.W.Frag):Sp:=fun vs H Q _=> ∃l:List Nat,vs=[.str (S l)]/\(∀c∈l,c<128)/\l.length<64/\ ∀l' H',l'.Perm (l.filter aA)->l'.Pairwise (· <= ·)->ao H H'->Q (.str (S l')) H'
theorem CN {K:PySem.W.Frag} {vs:List V} {H:Hp} {Q:VK} {E:XK} (h:wQ K vs H Q E):vs.length=1:=by obtain ⟨c,rfl,_⟩:=h;rfl
def jg (_:PySem.W.Frag):Sp:=fun vs H Q _=> ∃(y:List Nat) (a b:Nat),vs=[.str (S y), .str (S [a]), .str (S [b])]/\a∈y/\b∈y/\y.length<=1000/\Q (.int ((((y.idxOf b:Nat):Int) - ((y.idxOf a:Nat):Int))%(y.length:Int))) H
theorem nN {K:PySem.W.Frag} {vs:List V} {H:Hp} {Q:VK} {E:XK} (h:jg K vs H Q E):vs.length=3:=by obtain ⟨c,_,_,rfl,_⟩:=h;rfl
def sk (_:PySem.W.Frag):Sp:=fun vs H Q _=> ∃y:List Nat,vs=[.str (S y)]/\y.length<64/\ ∀q l' H',H q=none->H' q=some (.lst (bW l'))->l'.Perm (y.filter fun c=>decide (c∈aU))->l'.Pairwise (· <= ·)->ao H H'->Q (.ref q) H'
theorem zd {K:PySem.W.Frag} {vs:List V} {H:Hp} {Q:VK} {E:XK} (h:sk K vs H Q E):vs.length=1:=by obtain ⟨c,rfl,_⟩:=h;rfl
theorem gp {p:Nat->Bool} {l:List Nat} {i c:Nat} (h:l[i]? =some c):(l.take (i+1)).filter p=(l.take i).filter p++if p c=true then [c] else []:=by
 rw[<-take_snoc h,Qcf]
 congr 1
 by_cases z:p c=true
 ·rw[if_pos z,Qbk z];rfl
 ·rw[if_neg z,Qbl z];rfl
noncomputable def ones (l:List Nat):List (List Nat):=l.map fun c=>[c]
theorem EY (l:List Nat):bW l=iR (ones l):=dj l
theorem pL: ∀ws:List (List Nat),PyData.hasDictAll (uE ws)=false
 | []=>rfl
 | w::ws=>by show (PyData.hasDict (.str (S w))||PyData.hasDictAll (uE ws))=false;rw[pL ws];rfl
theorem IG {l:List Nat} (h: ∀c∈l,c<128): ∀x∈ones l, ∀c∈x,c<128:=fun x hx c hc=>by
 obtain ⟨d,hd,rfl⟩:=Qav.mp hx
 rw[V8.mp hc];exact h d hd
theorem EZ {y:List Nat} (h:Yd y):2*(y.filter aA).length=y.length:=by
 have key: ∀p q:Nat->Bool,(∀c∈y,p c=true->q (aB c)=true)->(y.filter p).length<=(y.filter q).length:=fun p q Rq=>by
  have hn:((y.filter p).map aB).Nodup:=by
   show ((y.filter p).map aB).Pairwise (· ≠ ·)
   rw[Qbg]
   refine (h.nd.filter p).imp_of_mem fun {a b} ha hb z e=>z ?_
   exact fg (h.lt a (Qa5.mp ha).1) (h.lt b (Qa5.mp hb).1) e
  have:=hn.length_le_of_subset (l₂:=y.filter q) fun c hc=>by
   obtain ⟨d,hd,rfl⟩:=Qav.mp hc
   obtain ⟨d1,d2⟩:=Qa5.mp hd
   exact Qa5.mpr ⟨h.cl d d1,Rq d d1 d2⟩
  rwa [V6]at this
 have k1:=key aA (fun c=>!aA c) fun c hc z=>by
  rw[fQ (h.lt c hc)]at z
  have hs:=of_decide_eq_true z
  rw[(bJ _ (a_ c hs).2.2).1];rfl
 have k2:=key (fun c=>!aA c) aA fun c hc z=>by
  rcases h.lt c hc with q | q
  ·rw[(a_ c q).1]at z;cases z
  ·exact (a_ _ (bJ c q).2.2.2).1
 have k3:(y.filter aA).length+(y.filter fun c=>!aA c).length=y.length:=by
  clear k1 k2 key h
  induction y with
  | nil=>rfl
  | cons a r ih=>
   cases hq:aA a
   ·rw[Qbl (by simp[hq]),Qbk (by simp[hq]),Qar,Qar];lia
   ·rw[Qbk hq,Qbl (by simp[hq]),Qar,Qar];lia
 lia
noncomputable def rd (w:List Nat) (k:Int):Nat:=w.getD (k%(w.length:Int)).toNat 0
theorem Rr {w:List Nat} (h:w≠[]) (k:Int):(k%(w.length:Int)).toNat<w.length:=by
 have:0<w.length:=V9.mpr h
 have h1:=Qbo k (b:=(w.length:Int)) (by lia)
 have h2:=Qbm k (b:=(w.length:Int)) (by lia)
 lia
theorem eF {w:List Nat} (h:w≠[]) (k:Int):w[(k%(w.length:Int)).toNat]? =some (rd w k):=by
 unfold rd
 rw[XO,LJ (Rr h k)]
 rfl
theorem iu {w:List Nat} (h:w≠[]) (k:Int):rd w k∈w:=Qab (eF h k)
theorem iw (w:List Nat) (k:Int):rd w (k+w.length)=rd w k:=by unfold rd;rw[Qc0]
theorem fF (w:List Nat) (k:Int):rd w (k%w.length)=rd w k:=by unfold rd;rw[Qc5 _ (Qfi _)]
theorem mm {w:List Nat} {k:Nat} (h:k<w.length):w[k]? =some (rd w k):=by
 have di:w≠[]:=fun z=>by rw[z]at h;exact absurd h (Qco _)
 have:=eF di (k:Int)
 rwa [Qas (by lia) (by lia),XQ]at this
theorem wR {w:List Nat} {k:Int} {n:Nat} {c:Nat} (hn:n<w.length) (e:k%(w.length:Int)=n) (h:w[n]? =some c):rd w k=c:=by
 have:=mm hn
 rw[h]at this
 rw[<-fF,e]
 exact (Qan this).symm
theorem gU {w:List Nat} {k:Int} (h1: -(w.length:Int)<=k) (h2:k<w.length):oM w k=some (rd w k):=by
 have di:w≠[]:=fun z=>by rw[z]at h1 h2;simp at h1 h2;lia
 unfold oM G8
 by_cases h0:0<=k
 ·rw[if_pos h0,if_pos h2]
  have:=eF di k
  rw[Qas h0 h2]at this
  exact this
 ·rw[if_neg h0,if_pos h1]
  have:=eF di (k+w.length)
  rw[iw,Qas (by lia) (by lia)]at this
  exact this
theorem Mz {w:List Nat} (h:w≠[]) (k:Int):oM w (k%(w.length:Int))=some (rd w k):=by
 have:0<w.length:=V9.mpr h
 have h1:=Qbo k (b:=(w.length:Int)) (by lia)
 have h2:=Qbm k (b:=(w.length:Int)) (by lia)
 rw[gU (by lia) h2,fF]
theorem iA {f:Int->Nat} {p:Nat} (P: ∀k,f (k+p)=f k) (k:Int): ∀t:Nat,f (k+t*p)=f k
 | 0=>by simp
 | t+1=>by
  have:k+((t+1:Nat):Int)*p=k+t*p+p:=by rw[Qba,Int.add_mul];simp;lia
  rw[this,P,iA P k t]
theorem fw {f g:Int->Nat} {p q:Nat} (hp:0<p) (hq:0<q) (Pf: ∀k,f (k+p)=f k) (Pg: ∀k,g (k+q)=g k) (h: ∀n:Nat,n<p+q->f n=g n) (k:Int):f k=g k:=by
 have up: ∀N n:Nat,n<N->f n=g n:=by
  intro N
  induction N with
  | zero=>intro n hn;lia
  | succ N ih=>
   intro n hn
   by_cases z:n<p+q
   ·exact h n z
   ·have e1:f n=f ((n - p:Nat):Int):=by have:=Pf ((n - p:Nat):Int);rwa [show ((n - p:Nat):Int)+p=n by lia]at this
    have e2:g ((n - p:Nat):Int)=g ((n - p - q:Nat):Int):=by have:=Pg ((n - p - q:Nat):Int);rwa [show ((n - p - q:Nat):Int)+q=((n - p:Nat):Int) by lia]at this
    have e3:f ((n - q:Nat):Int)=f ((n - p - q:Nat):Int):=by have:=Pf ((n - p - q:Nat):Int);rwa [show ((n - p - q:Nat):Int)+p=((n - q:Nat):Int) by lia]at this
    have e4:g n=g ((n - q:Nat):Int):=by have:=Pg ((n - q:Nat):Int);rwa [show ((n - q:Nat):Int)+q=n by lia]at this
    rw[e1,ih (n - p) (by lia),e2, <-ih (n - p - q) (by lia), <-e3,ih (n - q) (by lia), <-e4]
 have qT: ∃m:Nat,k+((k.natAbs*q:Nat):Int)*p=m/\k+((k.natAbs*p:Nat):Int)*q=m:=by
  have e1:((k.natAbs*q:Nat):Int)*p=((k.natAbs*(q*p):Nat):Int):=by rw[Nat.mul_assoc k.natAbs q p |>.symm];simp
  have e2:((k.natAbs*p:Nat):Int)*q=((k.natAbs*(q*p):Nat):Int):=by rw[Qb6 q p,Nat.mul_assoc k.natAbs p q |>.symm];simp
  have hle:k.natAbs<=k.natAbs*(q*p):=Nat.le_mul_of_pos_right _ (Nat.mul_pos hq hp)
  generalize k.natAbs*(q*p)=M at e1 e2 hle
  exact ⟨(k+M).toNat,by lia,by lia⟩
 obtain ⟨m,h1,h2⟩:=qT
 rw[<-iA Pf k (k.natAbs*q),h1, <-iA Pg k (k.natAbs*p),h2]
 exact up (m+1) m (Qcc m)
noncomputable def ft (f g:Int->Nat):Nat->Nat->Nat
 | 0,i=>i
 | n+1,i=>if f i=g i then ft f g n (i+1) else i
theorem cS (f g:Int->Nat): ∀n i:Nat,i<=ft f g n i/\ft f g n i<=i+n/\(∀j:Nat,i<=j->j<ft f g n i->f j=g j)/\(ft f g n i<i+n->f (ft f g n i)≠g (ft f g n i))
 | 0,i=>⟨Sq _,Sq _,fun j h1 h2=>absurd (Qbc h1 h2) (Qbd _),fun h=>absurd h (Qbd _)⟩
 | n+1,i=>by
  unfold ft
  by_cases z:f i=g i
  ·rw[if_pos z]
   obtain ⟨h1,h2,h3,h4⟩:=cS f g n (i+1)
   refine ⟨by lia,by lia,fun j g1 g2=>?_,fun g1=>h4 (by lia)⟩
   by_cases e:j=i
   ·rw[e];exact z
   ·exact h3 j (by lia) g2
  ·rw[if_neg z]
   exact ⟨Sq _,by lia,fun j g1 g2=>absurd (Qbc g1 g2) (Qbd _),fun _=>z⟩
theorem ze {f g:Int->Nat} {n m:Nat} (h1: ∀j:Nat,j<m->f j=g j) (h2:f m≠g m) (hm:m<n):ft f g n 0=m:=by
 obtain ⟨_,b,c,d⟩:=cS f g n 0
 by_cases z:ft f g n 0<m
 ·exact absurd (h1 _ z) (d (by lia))
 ·by_cases y:m<ft f g n 0
  ·exact absurd (c m (Qaa _) y) h2
  ·lia
theorem E1 {f g:Int->Nat} {n:Nat} (h: ∀j:Nat,j<n->f j=g j):ft f g n 0=n:=by
 obtain ⟨_,b,c,d⟩:=cS f g n 0
 by_cases z:ft f g n 0<0+n
 ·exact absurd (h _ (by lia)) (d z)
 ·lia
noncomputable def al (y:List Nat) (f g:Int->Nat) (n:Nat):Nat:=
 if f 0≠g 0\/f (-1)=g (-1) then 0 else
 if gr y (aB (f (-1))) (aB (g (-1))) (f 0)=gr y (f (ft f g n 0)) (g (ft f g n 0)) (aB (f ((ft f g n 0:Nat) - 1))) then ft f g n 0 else 0
theorem lA {y:List Nat} {f g:Int->Nat} {n:Nat} (h:0<al y f g n): ∀j:Nat,j<al y f g n->f j=g j:=by
 unfold al at h ⊢
 by_cases z:f 0≠g 0\/f (-1)=g (-1)
 ·rw[if_pos z]at h;lia
 ·rw[if_neg z]at h ⊢
  by_cases u:gr y (aB (f (-1))) (aB (g (-1))) (f 0)=gr y (f (ft f g n 0)) (g (ft f g n 0)) (aB (f ((ft f g n 0:Nat) - 1)))
  ·rw[if_pos u]at h ⊢
   exact fun j hj=>(cS f g n 0).2.2.1 j (Qaa _) hj
  ·rw[if_neg u]at h;lia
noncomputable def ac (y:List Nat) (a b p q:Nat):Bool:=if p=a\/p=b\/q=a\/q=b then false else (gr y a p b != gr y a q b)
noncomputable def sq (w:List Nat) (i:Int):Int->Nat:=fun n=>rd w (i+n)
noncomputable def bq (v:List Nat) (j:Int):Int->Nat:=fun n=>aB (rd v (j - n))
theorem cN (w:List Nat) (i k:Int):sq w i (k+w.length)=sq w i k:=by unfold sq;rw[<-Int.add_assoc,iw]
theorem zf (w:List Nat) (k:Int):rd w (k - w.length)=rd w k:=by rw[<-iw w (k - w.length)];congr 1;lia
theorem mq (w:List Nat) (i k:Int):bq w i (k+w.length)=bq w i k:=by unfold bq;rw[show i - (k+(w.length:Int))=i - k - w.length by lia,zf]
theorem mw {v:List Nat} (h:v≠[]) (k:Int):rd (gM v) k=aB (rd v (-1 - k)):=by
 have qT:0<v.length:=V9.mpr h
 have h1:=Qbo k (b:=(v.length:Int)) (by lia)
 have h2:=Qbm k (b:=(v.length:Int)) (by lia)
 have e:(-1 - k)%(v.length:Int)=v.length - 1 - k%v.length:=by
  have e1:=Qez k v.length
  have: -1 - k=(v.length - 1 - k%v.length)+v.length*(-(k / v.length) - 1):=by rw[Int.mul_sub,Int.mul_neg];lia
  rw[this,Qcg,Qas (by lia) (by lia)]
 generalize hr:k%(v.length:Int)=r at h1 h2 e
 obtain ⟨n,rfl⟩: ∃n:Nat,r=n:=⟨r.toNat,by lia⟩
 have hn:n<v.length:=by lia
 have e2:rd v (-1 - k)=v[v.length - 1 - n]'(by lia):=wR (n:=v.length - 1 - n) (by lia) (by rw[e];lia) (LJ (by lia))
 rw[e2]
 refine wR (n:=n) (by rw[cC];exact hn) (by rw[cC];exact hr) ?_
 unfold gM
 rw[Qcj (by rw[V6];exact hn),V6,Qaj,LJ (by lia)]
 rfl
theorem MA {v:List Nat} (h:v≠[]) (j:Nat):sq (gM v) ((v.length:Int) - 1 - j)=bq v j:=by
 funext n
 unfold sq bq
 rw[mw h,show -1 - ((v.length:Int) - 1 - j+n)=j - n - v.length by lia,zf]
structure SW (y w:List Nat):Prop where
 ne:w≠[]
 bP: ∀c∈w,c∈y
 red: ∀k:Int,rd w k≠aB (rd w (k - 1))
theorem SW.rd {y w:List Nat} (h:SW y w) (k:Int):rd w k∈y:=h.bP _ (iu h.ne k)
theorem gW {w v:List Nat} {f g:Int->Nat} (hw:w≠[]) (hv:v≠[]) (pf: ∀k,f (k+w.length)=f k) (pg: ∀k,g (k+v.length)=g k) (h:f (-1)≠g (-1)):ft f g (w.length+v.length) 0<w.length+v.length/\f (ft f g (w.length+v.length) 0)≠g (ft f g (w.length+v.length) 0):=by
 obtain ⟨_,b,c,d⟩:=cS f g (w.length+v.length) 0
 by_cases z:ft f g (w.length+v.length) 0<w.length+v.length
 ·exact ⟨z,d (by lia)⟩
 ·exact absurd (fw (V9.mpr hw) (V9.mpr hv) pf pg (fun n hn=>c n (Qaa _) (by lia)) (-1)) h
theorem AU {y w:List Nat} {i j:Nat} (hy:Yd y) (h:SW y w) (m0:0<al y (sq w i) (bq w j) (w.length+w.length)) (e:((j:Int) - al y (sq w i) (bq w j) (w.length+w.length)+1)%w.length=i):False:=by
 have ha:=lA m0
 generalize al y (sq w i) (bq w j) (w.length+w.length)=m at*
 have key: ∀k:Nat,k<m->rd w (i+k)=aB (rd w (i+(m - 1 - k))):=fun k hk=>by
  have:=ha k hk
  unfold sq bq at this
  rw[this]
  congr 1
  rw[<-fF w (j - k), <-fF w (i+((m:Int) - 1 - k)), <-e,Qdt]
  congr 2
  lia
 rcases Nat.mod_two_eq_zero_or_one m with z | z
 ·have k1:=key (m / 2) (by lia)
  rw[show (i:Int)+((m:Int) - 1 - ((m / 2:Nat):Int))=i+((m / 2:Nat):Int) - 1 by lia]at k1
  exact h.red _ k1
 ·have k1:=key (m / 2) (by lia)
  rw[show (i:Int)+((m:Int) - 1 - ((m / 2:Nat):Int))=i+((m / 2:Nat):Int) by lia]at k1
  exact ig (hy.lt _ (h.rd _)) k1.symm
structure Fm where
 c:Nat
 i:Nat
 d:Nat
 j:Nat
 m:Nat
 t:List Nat
noncomputable def og:List Nat:=[97,99,114,111,115,115]
noncomputable def uH:List Nat:=[97,108,111,110,103]
noncomputable def gX:List Nat:=[97,103,97,105,110,115,116]
noncomputable def Kw (y w v:List Nat) (i j:Nat):Bool:=ac y (aB (rd w ((i:Int) - 1))) (rd w i) (aB (rd v ((j:Int) - 1))) (rd v j)
noncomputable def DI (y w v:List Nat) (i j:Nat):Nat:=al y (sq w i) (sq v j) (w.length+v.length)
noncomputable def eJ (y w v:List Nat) (i j:Nat):Nat:=al y (sq w i) (bq v j) (w.length+v.length)
noncomputable def wU (y w v:List Nat) (c i d j:Nat):List Fm:=(if Kw y w v i j=true then [⟨c,i,d,j,0,og⟩] else [])++(if 0<DI y w v i j then [⟨c,i,d,j,DI y w v i j,uH⟩] else [])
noncomputable def eK (w:List Nat) (i j m:Nat):Bool:=i8 (((j:Int) - m+1)%w.length) (((i:Int)+m - 1)%w.length) i j
noncomputable def MB (y w v:List Nat) (c i d j:Nat):List Fm:=if eJ y w v i j=0\/(c=d/\eK w i j (eJ y w v i j)=true) then [] else [⟨c,i,d,j,eJ y w v i j,gX⟩]
noncomputable def mB (y:List Nat) (ws:List (List Nat)) (o p:Nat×Nat):List Fm:=
 (if i8 o.1 o.2 p.1 p.2=true then wU y (ws.getD o.1 []) (ws.getD p.1 []) o.1 o.2 p.1 p.2 else [])++(if o.1<=p.1 then MB y (ws.getD o.1 []) (ws.getD p.1 []) o.1 o.2 p.1 p.2 else [])
noncomputable def qM (ws:List (List Nat)):Nat->List (Nat×Nat)
 | 0=>[]
 | n+1=>qM ws n++(List.range (ws.getD n []).length).map fun i=>(n,i)
noncomputable def places (ws:List (List Nat)):List (Nat×Nat):=qM ws ws.length
noncomputable def nP (y:List Nat) (ws:List (List Nat)):List Fm:=(places ws).flatMap fun o=>(places ws).flatMap fun p=>mB y ws o p
noncomputable def jh (x:Fm):List Int:=[x.c,x.i,x.d,x.j,x.m]
theorem E2 {y w v:List Nat} {c i d j:Nat} {x:Fm} (h:x∈wU y w v c i d j):x.c=c/\x.i=i/\x.d=d/\x.j=j:=by
 unfold wU at h
 rcases Qaf.mp h with h | h<;>split at h
 ·rw[V8.mp h];exact ⟨rfl,rfl,rfl,rfl⟩
 ·exact absurd h Qae
 ·rw[V8.mp h];exact ⟨rfl,rfl,rfl,rfl⟩
 ·exact absurd h Qae
theorem AV {y w v:List Nat} {c i d j:Nat} {x:Fm} (h:x∈MB y w v c i d j):x=⟨c,i,d,j,eJ y w v i j,gX⟩/\0<eJ y w v i j:=by
 unfold MB at h
 split at h
 ·exact absurd h Qae
 ·rename_i z
  exact ⟨V8.mp h,Qdk fun q=>z (.inl q)⟩
theorem oh {y:List Nat} {ws:List (List Nat)} {o p:Nat×Nat} {x:Fm} (h:x∈mB y ws o p):x.c=o.1/\x.i=o.2/\x.d=p.1/\x.j=p.2:=by
 unfold mB at h
 rcases Qaf.mp h with h | h<;>split at h
 ·exact E2 h
 ·exact absurd h Qae
 ·rw[(AV h).1];exact ⟨rfl,rfl,rfl,rfl⟩
 ·exact absurd h Qae
theorem IH {a b c d m a' b' c' d' m':Int} (h:i8 a b a' b'=true):bg [a,b,c,d,m] [a',b',c',d',m']=true:=by
 unfold i8 at h
 simp only[bg]
 split at h
 ·rename_i z
  rw[if_pos z,if_neg (by intro q;rw[q]at h;simp at h)]
  exact h
 ·rename_i z
  rw[if_neg z];exact h
theorem II {a b c d m c' d' m':Int} (h:i8 c d c' d'=true):bg [a,b,c,d,m] [a,b,c',d',m']=true:=by
 unfold i8 at h
 simp only[bg,if_true]
 split at h
 ·rename_i z
  rw[if_pos z,if_neg (by intro q;rw[q]at h;simp at h)]
  exact h
 ·rename_i z
  rw[if_neg z];exact h
theorem sx {a b c d m m':Int} (h:m<m'):bg [a,b,c,d,m] [a,b,c,d,m']=true:=by
 simp only[bg,if_true]
 rw[if_neg (by lia)]
 exact decide_eq_true h
theorem E3 {y w v:List Nat} {i j:Nat} (hy:Yd y) (hv:SW y v) (h1:0<DI y w v i j) (h2:0<eJ y w v i j):False:=by
 have e1:=lA h1 0 h1
 have e2:=lA h2 0 h2
 unfold sq at e1 e2
 unfold bq at e2
 simp only[Int.natCast_zero,Qc9,Qd7]at e1 e2
 rw[e1]at e2
 exact ig (hy.lt _ (hv.rd _)) e2.symm
theorem IJ {y:List Nat} {ws:List (List Nat)} {o p:Nat×Nat} (hy:Yd y) (hv:SW y (ws.getD p.1 [])):(mB y ws o p).Pairwise fun a b=>bg (jh a) (jh b)=true:=by
 unfold mB
 rw[Qc4]
 refine ⟨?_,?_,fun a ha b hb=>?_⟩
 ·split
  ·unfold wU
   rw[Qc4]
   refine ⟨?_,?_,fun a ha b hb=>?_⟩
   ·split
    ·exact Qdm _ _
    ·exact List.Pairwise.nil
   ·split
    ·exact Qdm _ _
    ·exact List.Pairwise.nil
   ·split at ha
    ·split at hb
     ·rename_i z
      rw[V8.mp ha,V8.mp hb]
      exact sx (Qcz.mpr z)
     ·exact absurd hb Qae
    ·exact absurd ha Qae
  ·exact List.Pairwise.nil
 ·split
  ·unfold MB
   split
   ·exact List.Pairwise.nil
   ·exact Qdm _ _
  ·exact List.Pairwise.nil
 ·split at ha
  ·split at hb
   ·obtain ⟨eb,pb⟩:=AV hb
    unfold wU at ha
    rcases Qaf.mp ha with ha | ha<;>split at ha
    ·rw[V8.mp ha,eb]
     exact sx (by show ((0:Nat):Int)<((eJ _ _ _ _ _:Nat):Int);lia)
    ·exact absurd ha Qae
    ·rename_i z
     exact (E3 hy hv z pb).elim
    ·exact absurd ha Qae
   ·exact absurd hb Qae
  ·exact absurd ha Qae
theorem gq {ws:List (List Nat)}: ∀{n:Nat} {o:Nat×Nat},o∈qM ws n↔o.1<n/\o.2<(ws.getD o.1 []).length
 | 0,o=>by simp[qM]
 | n+1,o=>by
  unfold qM
  rw[Qaf,gq (n:=n),Qav]
  constructor
  ·rintro (⟨h1,h2⟩ | ⟨i,hi,rfl⟩)
   ·exact ⟨by lia,h2⟩
   ·exact ⟨by simp,Qa3.mp hi⟩
  ·rintro ⟨h1,h2⟩
   by_cases z:o.1<n
   ·exact .inl ⟨z,h2⟩
   ·have e:o.1=n:=by lia
    exact .inr ⟨o.2,Qa3.mpr (by rw[<-e];exact h2),by rw[<-e]⟩
theorem oj {ws:List (List Nat)}: ∀n:Nat,(qM ws n).Pairwise fun a b=>i8 a.1 a.2 b.1 b.2=true
 | 0=>List.Pairwise.nil
 | n+1=>by
  unfold qM
  rw[Qc4]
  refine ⟨oj n,?_,fun a ha b hb=>?_⟩
  ·rw[Qbg]
   refine Qeq.imp fun {a b} h=>?_
   unfold i8
   rw[if_pos rfl]
   exact decide_eq_true (by show (a:Int)<b;lia)
  ·obtain ⟨i,hi,rfl⟩:=Qav.mp hb
   have:=(gq.mp ha).1
   unfold i8
   rw[if_neg (by show ¬((a.1:Nat):Int)=(n:Nat);lia)]
   exact decide_eq_true (by show ((a.1:Nat):Int)<(n:Nat);lia)
theorem E4 {y:List Nat} {ws:List (List Nat)} (hy:Yd y) (hw: ∀w∈ws,SW y w):(nP y ws).Pairwise fun a b=>bg (jh a) (jh b)=true:=by
 have sw: ∀p∈places ws,SW y (ws.getD p.1 []):=fun p hp=>by
  have h1:=(gq.mp hp).1
  rw[XO,LJ h1]
  exact hw _ (Qay h1)
 unfold nP
 rw[List.pairwise_flatMap]
 refine ⟨fun o ho=>?_,(oj ws.length).imp fun {a b} h x hx z hz=>?_⟩
 ·rw[List.pairwise_flatMap]
  refine ⟨fun p hp=>IJ hy (sw p hp),(oj ws.length).imp fun {a b} h x hx z hz=>?_⟩
  obtain ⟨a1,a2,a3,a4⟩:=oh hx
  obtain ⟨b1,b2,b3,b4⟩:=oh hz
  unfold jh
  rw[a1,a2,a3,a4,b1,b2,b3,b4]
  exact II h
 ·obtain ⟨p,hp,hx⟩:=Qby.mp hx
  obtain ⟨q,hq,hz⟩:=Qby.mp hz
  obtain ⟨a1,a2,a3,a4⟩:=oh hx
  obtain ⟨b1,b2,b3,b4⟩:=oh hz
  unfold jh
  rw[a1,a2,a3,a4,b1,b2,b3,b4]
  exact IH h
theorem gY: ∀{a b:List Int},bg a b=true->bg b a=false/\a≠b
 | [],[],h=>by simp[bg]at h
 | [],_::_,h=>⟨rfl,by simp⟩
 | _::_,[],h=>by simp[bg]at h
 | x::r,z::t,h=>by
  simp only[bg]at h ⊢
  split at h
  ·rename_i e
   obtain ⟨h1,h2⟩:=gY h
   rw[if_pos e.symm]
   exact ⟨h1,fun q=>h2 (List.cons.inj q).2⟩
  ·rename_i e
   have h':=of_decide_eq_true h
   rw[if_neg (fun q=>e q.symm)]
   exact ⟨decide_eq_false (by lia),fun q=>e (List.cons.inj q).1⟩
theorem E5 {L:List Fm} (h:L.Pairwise fun a b=>bg (jh a) (jh b)=true) (k:Nat) (a b:Fm) (ha:L[k]? =some a) (hb:L[k+1]? =some b):bg (jh b) (jh a)=false/\jh b≠jh a:=by
 obtain ⟨h1,e1⟩:=LK.mp ha
 obtain ⟨h2,e2⟩:=LK.mp hb
 have:=Qcl.mp h k (k+1) h1 h2 (Qcc _)
 rw[e1,e2]at this
 obtain ⟨g1,g2⟩:=gY this
 exact ⟨g1,Ne.symm g2⟩
noncomputable def U0 (y w v:List Nat) (c i d j:Nat):List Fm:=
 (if i8 c i d j=true/\Kw y w v i j=true then [⟨c,i,d,j,0,og⟩] else [])++(if i8 c i d j=true/\0<DI y w v i j then [⟨c,i,d,j,DI y w v i j,uH⟩] else [])++
 (if 0<eJ y w v i j/\(c<d\/(c=d/\i8 i j (((j:Int) - eJ y w v i j+1)%v.length) (((i:Int)+eJ y w v i j - 1)%w.length)=true)) then [⟨c,i,d,j,eJ y w v i j,gX⟩] else [])
theorem wV {a b c d:Int} (h: ¬(c=a/\d=b)):i8 a b c d=!i8 c d a b:=by
 unfold i8
 by_cases z:a=c
 ·rw[if_pos z,if_pos z.symm]
  have:d≠b:=fun q=>h ⟨z.symm,q⟩
  by_cases u:b<d
  ·rw[decide_eq_true u,decide_eq_false (by lia)];rfl
  ·rw[decide_eq_false u,decide_eq_true (by lia)];rfl
 ·rw[if_neg z,if_neg (fun q=>z q.symm)]
  by_cases u:a<c
  ·rw[decide_eq_true u,decide_eq_false (by lia)];rfl
  ·rw[decide_eq_false u,decide_eq_true (by lia)];rfl
theorem IK {y:List Nat} {ws:List (List Nat)} {o p:Nat×Nat} (hy:Yd y) (hw:SW y (ws.getD o.1 [])):U0 y (ws.getD o.1 []) (ws.getD p.1 []) o.1 o.2 p.1 p.2=mB y ws o p:=by
 unfold U0 mB wU
 congr 1
 ·by_cases z:i8 o.1 o.2 p.1 p.2=true
  ·rw[if_pos z]
   simp only[z,true_and]
  ·rw[if_neg z,if_neg (fun q=>z q.1),if_neg (fun q=>z q.1)]
   rfl
 ·unfold MB
  by_cases z:o.1<p.1
  ·rw[if_pos (Qcw z)]
   by_cases m0:eJ y (ws.getD o.1 []) (ws.getD p.1 []) o.2 p.2=0
   ·rw[if_neg (fun q=>by lia),if_pos (.inl m0)]
   ·rw[if_pos ⟨Qdk m0, .inl z⟩,if_neg (fun q=>q.elim m0 fun q=>by lia)]
  ·by_cases e:o.1=p.1
   ·rw[if_pos (Nat.le_of_eq e), <-e]
    by_cases m0:eJ y (ws.getD o.1 []) (ws.getD o.1 []) o.2 p.2=0
    ·rw[if_neg (fun q=>by lia),if_pos (.inl m0)]
    ·have hm:=Qdk m0
     have fl:i8 (o.2:Int) p.2 (((p.2:Int) - eJ y (ws.getD o.1 []) (ws.getD o.1 []) o.2 p.2+1)%(ws.getD o.1 []).length) (((o.2:Int)+eJ y (ws.getD o.1 []) (ws.getD o.1 []) o.2 p.2 - 1)%(ws.getD o.1 []).length)=!eK (ws.getD o.1 []) o.2 p.2 (eJ y (ws.getD o.1 []) (ws.getD o.1 []) o.2 p.2):=
      wV fun q=>AU hy hw hm q.1
     by_cases b:eK (ws.getD o.1 []) o.2 p.2 (eJ y (ws.getD o.1 []) (ws.getD o.1 []) o.2 p.2)=true
     ·rw[if_neg (fun q=>q.2.elim (fun q=>by lia) fun q=>by rw[fl,b]at q;simp at q),if_pos (.inr ⟨rfl,b⟩)]
     ·rw[if_pos ⟨hm, .inr ⟨rfl,by rw[fl];simpa using b⟩⟩,if_neg (fun q=>q.elim m0 fun q=>b q.2)]
   ·rw[if_neg (fun q=>q.2.elim z fun q=>e q.1),if_neg (by lia)]
theorem Rt (y:List Nat) (f g:Int->Nat) (n:Nat):al y f g n<=n:=by
 unfold al
 have:=(cS f g n 0).2.1
 split
 ·exact Qaa _
 ·split
  ·lia
  ·exact Qaa _
noncomputable def cI (n:Nat) (l:List Nat):List Nat:=(List.replicate n l).flatten
def CO (w:List Nat):Prop:= ∀(k a b:Nat),w[k]? =some a->w[k+1]? =some b->b≠aB a
theorem CO.nil:CO []:=fun k a b h=>by simp at h
theorem CO.take {w:List Nat} (h:CO w) (n:Nat):CO (w.take n):=fun k a b h1 h2=>by
 rw[Qcx]at h1 h2
 split at h1
 ·split at h2
  ·exact h k a b h1 h2
  ·cases h2
 ·cases h1
theorem CO.snoc {w:List Nat} {c:Nat} (h:CO w) (hc: ∀a,w.getLast? =some a->c≠aB a):CO (w++[c]):=fun k a b h1 h2=>by
 by_cases z:k+1<w.length
 ·rw[Qa9 (by lia)]at h1
  rw[Qa9 z]at h2
  exact h k a b h1 h2
 ·have yN:k+1<(w++[c]).length:=(LK.mp h2).1
  rw[V7]at yN
  have e:k+1=w.length:=by simp at yN;lia
  rw[Qa9 (by lia)]at h1
  rw[e,Qbj (Sq _),Qfc]at h2
  have e2:c=b:=by simpa using h2
  rw[<-e2]
  refine hc a ?_
  rw[Qcm, show w.length - 1=k by lia]
  exact h1
theorem SW.of {y w:List Nat} (ne:w≠[]) (bP: ∀c∈w,c∈y) (E6:CO w) (hd: ∀a b,w.head? =some a->w.getLast? =some b->a≠aB b):SW y w:=by
 refine ⟨ne,bP,fun k=>?_⟩
 have qT:0<w.length:=V9.mpr ne
 have h1:=Qbo k (b:=(w.length:Int)) (by lia)
 have h2:=Qbm k (b:=(w.length:Int)) (by lia)
 have hk:=eF ne k
 have Ii:=eF ne (k - 1)
 by_cases z:k%(w.length:Int)=0
 ·have e:(k - 1)%(w.length:Int)=w.length - 1:=by
   rw[<-Int.emod_sub_emod,z]
   have:(0:Int) - 1=(w.length - 1)+w.length*(-1):=by lia
   rw[this,Qcg,Qas (by lia) (by lia)]
  rw[z]at hk
  rw[e]at Ii
  refine hd _ _ ?_ ?_
  ·rw[Qer];exact hk
  ·rw[Qcm, show w.length - 1=((w.length:Int) - 1).toNat by lia];exact Ii
 ·have e:(k - 1)%(w.length:Int)=k%w.length - 1:=by
   rw[<-Int.emod_sub_emod,Qas (by lia) (by lia)]
  rw[e]at Ii
  refine E6 _ _ _ Ii ?_
  rw[show (k%(w.length:Int) - 1).toNat+1=(k%(w.length:Int)).toNat by lia]
  exact hk
theorem SW.E6 {y w:List Nat} (h:SW y w):CO w:=fun k a b h1 h2=>by
 have hk:=(LK.mp h2).1
 have e1:=mm (w:=w) (k:=k) (by lia)
 have e2:=mm (w:=w) (k:=k+1) hk
 rw[h1]at e1
 rw[h2]at e2
 rw[Qan e1,Qan e2]
 have:=h.red ((k+1:Nat):Int)
 rwa [show (((k+1:Nat):Int) - 1)=(k:Int) by lia]at this
theorem E7 {w:List Nat} {n:Nat} (h:w≠[]) (hn:n<=w.length) (k:Int):rd (w.drop n++w.take n) k=rd w (k+n):=by
 have qT:0<w.length:=V9.mpr h
 have hl:(w.drop n++w.take n).length=w.length:=by rw[V7,Qat,Qak];lia
 have h1:=Qbo k (b:=(w.length:Int)) (by lia)
 have h2:=Qbm k (b:=(w.length:Int)) (by lia)
 have e:(k+n)%(w.length:Int)=(k%w.length+n)%w.length:=by rw[Qdt]
 generalize hr:k%(w.length:Int)=r at h1 h2 e
 obtain ⟨m,rfl⟩: ∃m:Nat,r=m:=⟨r.toNat,by lia⟩
 have hm:m<w.length:=by lia
 by_cases z:m+n<w.length
 ·have hg:w[m+n]? =some (rd w (k+n)):=by
   have:=eF h (k+n)
   rwa [e,Qas (by lia) (by lia),show ((m:Int)+n).toNat=m+n by lia]at this
  refine wR (n:=m) (by rw[hl];exact hm) (by rw[hl];exact hr) ?_
  rw[Qa9 (by rw[Qat];lia),Qb5,Qff]
  exact hg
 ·have hg:w[m+n - w.length]? =some (rd w (k+n)):=by
   have:=eF h (k+n)
   have e2:((m:Int)+n)%w.length=((m+n - w.length:Nat):Int):=by
    have:(m:Int)+n=((m+n - w.length:Nat):Int)+w.length:=by lia
    rw[this,Qc0,Qas (by lia) (by lia)]
   rwa [e,e2,XQ]at this
  refine wR (n:=m) (by rw[hl];exact hm) (by rw[hl];exact hr) ?_
  rw[Qbj (by rw[Qat];lia),Qat,Qcx,if_pos (by lia),show m - (w.length - n)=m+n - w.length by lia]
  exact hg
theorem SW.hW {y w:List Nat} {n:Nat} (h:SW y w) (hn:n<=w.length):SW y (w.drop n++w.take n):=by
 refine ⟨fun z=>h.ne ?_,fun c hc=>?_,fun k=>?_⟩
 ·have l0:(w.drop n++w.take n).length=0:=by rw[z];rfl
  rw[V7,Qat,Qak]at l0
  exact Qbz.mp (by lia)
 ·exact h.bP c ((Qaf.mp hc).elim Qd2 Qbx)
 ·rw[E7 h.ne hn,E7 h.ne hn,show k - 1+n=k+n - 1 by lia]
  exact h.red _
theorem SW.gM {y w:List Nat} (hy:Yd y) (h:SW y w):SW y (gM w):=by
 refine ⟨fun z=>h.ne ?_,fun c hc=>?_,fun k=>?_⟩
 ·have:=cC w
  rw[z]at this
  exact Qbz.mp this.symm
 ·obtain ⟨d,hd,rfl⟩:=Qav.mp (Qel.mp hc)
  exact hy.cl d (h.bP d hd)
 ·rw[mw h.ne,mw h.ne,show -1 - (k - 1)= -1 - k+1 by lia]
  intro q
  have l1:=hy.lt _ (h.rd (-1 - k))
  have l2:=hy.lt _ (h.rd (-1 - k+1))
  rw[aM l2]at q
  have:=h.red (-1 - k+1)
  rw[show -1 - k+1 - 1= -1 - k by lia]at this
  exact this q.symm
theorem fV (n:Nat) (l:List Nat):cI (n+1) l=l++cI n l:=by unfold cI;rw[Qe4,Qc2]
theorem om (n:Nat) (l:List Nat):(cI n l).length=n*l.length:=by
 induction n with
 | zero=>simp[cI]
 | succ n ih=>rw[fV,V7,ih,Qd6,Qff]
theorem AW {l:List Nat}: ∀{n k:Nat},k<n*l.length->(cI n l)[k]? =l[k%l.length]?
 | 0,k,h=>by simp at h
 | n+1,k,h=>by
  rw[fV]
  by_cases z:k<l.length
  ·rw[Qa9 z,Qcb z]
  ·rw[Qbj (by lia),AW (by rw[Qd6]at h;lia),Qe9 (by lia:l.length<=k)]
theorem AX {w:List Nat} {n:Nat} (h:w≠[]) (hn:0<n) (k:Int):rd (cI n w) k=rd w k:=by
 have qT:0<w.length:=V9.mpr h
 have hl:=om n w
 have Wz:0<n*w.length:=Nat.mul_pos hn qT
 have h1:=Qbo k (b:=((n*w.length:Nat):Int)) (by lia)
 have h2:=Qbm k (b:=((n*w.length:Nat):Int)) (by lia)
 have e:k%(w.length:Int)=(k%((n*w.length:Nat):Int))%w.length:=(Qc5 k (by rw[Qfu];exact Int.dvd_mul_left _ _)).symm
 generalize hr:k%((n*w.length:Nat):Int)=r at h1 h2 e
 obtain ⟨m,rfl⟩: ∃m:Nat,r=m:=⟨r.toNat,by lia⟩
 have hm:m<n*w.length:=by lia
 refine wR (n:=m) (by rw[hl];exact hm) (by rw[hl];exact hr) ?_
 rw[AW hm]
 have:=eF h k
 rwa [e,show (((m:Int)%w.length).toNat)=m%w.length by rw[<-Qdx,XQ]]at this
theorem IL {w:List Nat} {n c:Nat} (h:c∈cI n w):c∈w:=by
 obtain ⟨l,hl,hc⟩:=List.mem_flatten.mp h
 rwa [List.eq_of_mem_replicate hl]at hc
theorem SW.dh {y w:List Nat} {n:Nat} (h:SW y w) (hn:0<n):SW y (cI n w):=by
 refine ⟨fun z=>?_,fun c hc=>h.bP c (IL hc),fun k=>by rw[AX h.ne hn,AX h.ne hn];exact h.red k⟩
 have:=om n w
 rw[z]at this
 have h2:0<n*w.length:=Nat.mul_pos hn (V9.mpr h.ne)
 simp at this
 lia
theorem SW.twice {y w:List Nat} (h:SW y w):SW y (w++w):=by
 have:=h.dh (n:=2) (by decide)
 rwa [show cI 2 w=w++w by rw[fV,fV];simp[cI]]at this
theorem SW.snoc {y w:List Nat} {c:Nat} (hy:Yd y) (E6:CO w) (bP: ∀a∈w,a∈y) (hc:c∈y) (h1: ∀a,w.getLast? =some a->c≠aB a) (h2: ∀a,w.head? =some a->c≠aB a):SW y (w++[c]):=by
 refine SW.of (by simp) (fun a ha=>?_) (E6.snoc h1) fun a b ha hb=>?_
 ·rcases Qaf.mp ha with q | q
  ·exact bP a q
  ·rw[V8.mp q];exact hc
 ·have eb:b=c:=by simpa using hb.symm
  subst eb
  cases w with
  | nil=>
   have:b=a:=by simpa using ha
   rw[<-this]
   exact fun q=>ig (hy.lt b hc) q.symm
  | cons x r=>
   have:x=a:=by simpa using ha
   subst this
   have hx:x∈y:=bP x XS
   intro q
   exact h2 x rfl (by rw[q,aM (hy.lt b hc)])
theorem uI {w:List Nat} (h:w≠[]):w.getLast? =some (rd w (-1)):=by
 have qT:0<w.length:=V9.mpr h
 have:=eF h (-1)
 have e:(-1:Int)%(w.length:Int)=w.length - 1:=by
  have e2:(-1:Int)=((w.length:Int) - 1)+w.length*(-1):=by lia
  rw[e2,Qcg,Qas (by lia) (by lia)]
 rw[e]at this
 rw[Qcm, show w.length - 1=((w.length:Int) - 1).toNat by lia]
 exact this
theorem lB {w:List Nat} (h:w≠[]):w.head? =some (rd w 0):=by
 have:=eF h 0
 rw[Qer]
 simpa using this
theorem CP (w:List Nat): ∃k,kn w k:=by
 by_cases h:w=[]
 ·exact ⟨0, .inl ⟨h,rfl⟩⟩
 ·obtain ⟨k,_,_,t⟩:=pK h
  exact ⟨k,t⟩
theorem bN.turn {w:List Nat} {s:Nat} (h:bN w s):kn w s:=by
 obtain ⟨k,t⟩:=CP w
 rw[jI h t];exact t
theorem IM {w:List Nat} {s:Nat} (h2:s<=w.length) (h:eE w s):w.length / s*s=w.length:=by
 have:=congrArg List.length h
 rw[oZ,Qak,Qcp h2]at this
 exact this
theorem bN.least {w:List Nat} {s j:Nat} (h:bN w s) (j1:1<=j) (j2:j<s) (hp:xT w j):False:=by
 rcases h.turn with ⟨_,e⟩ | ⟨h1,h2,h3,h4⟩
 ·lia
 ·have hn:w≠[]:=fun z=>by rw[z]at h2;simp at h2;lia
  exact h4 j j1 j2 ((gn hn (by lia)).mpr hp)
theorem SW.Yp {y w:List Nat} (hy:Yd y) (h:SW y w):za w:=ES fun k a b ha hb e=>by
 have MC:b∈y:=h.bP b (Qab hb)
 have:=h.E6 k a b ha hb
 rw[e,aM (hy.lt b MC)]at this
 exact this rfl
theorem SW.core {y w:List Nat} (hy:Yd y) (h:SW y w):My.core (My.red w)=w:=by
 rw[EO (h.Yp hy)]
 by_cases z:w.length<2
 ·exact il z
 ·obtain ⟨a,m,e,hw⟩:=ET (l:=w) (by lia)
  have h0:=lB h.ne
  have h1:=uI h.ne
  have hr:=h.red 0
  rw[show (0:Int) - 1= -1 by lia]at hr
  rw[hw]at h0 h1 hr ⊢
  have e0:a=My.rd (a::(m++[e])) 0:=Qan h0
  have e1:e=My.rd (a::(m++[e])) (-1):=by
   have:(a::(m++[e])).getLast? =some e:=by rw[<-List.cons_append,List.getLast?_append];rfl
   exact Qan (this.symm.trans h1)
  exact mj (by rw[<-e0, <-e1]at hr;exact hr)
theorem uJ {w:List Nat} {k:Nat} (hk:k<=w.length) (i:Nat):Fw (hW w k) i=Fw w (i+k):=by
 by_cases z:w=[]
 ·subst z
  unfold Fw hW
  simp
 ·have hp:0<w.length:=V9.mpr z
  have e:Fw (hW w k) i=(hW w k)[i%w.length]?:= by unfold Fw;rw[cM]
  rw[e,oe hk (Qdl _ hp),EV]
theorem AY {w:List Nat} {k s:Nat} (hk:k<=w.length) (hn:w≠[]):xT (hW w k) s↔xT w s:=by
 constructor
 ·intro h i
  have h1:=h (i+(w.length - k))
  rw[uJ hk,uJ hk]at h1
  have e1:i+(w.length - k)+s+k=i+s+w.length:=by lia
  have e2:i+(w.length - k)+k=i+w.length:=by lia
  rw[e1,e2,xT.whole w,xT.whole w]at h1
  exact h1
 ·intro h i
  rw[uJ hk,uJ hk,show i+s+k=i+k+s by lia]
  exact h _
theorem sE {w:List Nat} (hn:w≠[]) {s:Nat} (h:bN w s):kn w s:=by
 obtain ⟨k,r,_,g⟩:=pK hn
 rw[jI h g]
 exact g
theorem E8 {w:List Nat} {k s:Nat} (hk:k<=w.length) (hn:w≠[]) (h:kn (hW w k) s):kn w s:=by
 have vM:hW w k≠[]:=fun z=>hn (Qbz.mp (by have:=cM w k;rw[z]at this;exact this.symm))
 rcases h with ⟨z,_⟩ | ⟨h1,h2,h3,h4⟩
 ·exact absurd z vM
 ·rw[cM]at h2
  refine .inr ⟨h1,h2,(gn hn h2).mpr ((AY hk hn).mp ((gn vM (by rw[cM];exact h2)).mp h3)),fun j j1 j2 j3=>h4 j j1 j2 ?_⟩
  exact (gn vM (by rw[cM];lia)).mpr ((AY hk hn).mpr ((gn hn (by lia)).mp j3))
theorem CQ {y w:List Nat} {s t:Nat} (hy:Yd y) (h:SW y w) (hr:bN (dS w) s) (hw:bN w t):s=t/\(dS w).length=w.length:=by
 have e:dS w=fI w:=by unfold dS;rw[h.core hy]
 obtain ⟨k,ek⟩:=sg w
 have yN: ∃k,k<=w.length/\fI w=hW w k:=by
  by_cases z:k<=w.length
  ·exact ⟨k,z,ek⟩
  ·refine ⟨w.length,Sq _,?_⟩
   rw[ek]
   unfold hW
   rw[Qca (by lia),Qau (by lia),List.drop_length,Qbb]
 obtain ⟨k,hk,ek⟩:=yN
 rw[e,ek]at hr ⊢
 have vM:hW w k≠[]:=fun z=>h.ne (Qbz.mp (by have:=cM w k;rw[z]at this;exact this.symm))
 refine ⟨?_,cM w k⟩
 exact (jI hw (E8 hk h.ne (sE vM hr))).symm
theorem AZ {w:List Nat} (hn:w≠[]): ∃s,bN w s:=by
 obtain ⟨k,r,_,g⟩:=pK hn
 rcases g with ⟨z,_⟩ | ⟨h1,h2,h3,h4⟩
 ·exact absurd z hn
 ·exact ⟨k, .inr ⟨h1,h2,si hn h1 h2 h3 h4,fun j j1 j2 j3=>h4 j j1 j2 (uF j1 (by lia) j3)⟩⟩
theorem wW {w:List Nat} {s t:Nat} (hn:w≠[]) (h:bN w s) (g:bN w t):s=t:=jI h (sE hn g)
theorem IQ {a b:List Nat} {e:Nat} (hn:(a++b).Nodup) (he:e∈a++b):(b++a).idxOf e=if (a++b).idxOf e<a.length then (a++b).idxOf e+b.length else (a++b).idxOf e - a.length:=by
 rw[Qdq]at hn
 obtain ⟨na,nb,Yq⟩:=hn
 by_cases z:e∈a
 ·have zb:e∉b:=fun q=>Yq e z e q rfl
  rw[Qef,Qef,if_pos z,if_neg zb,if_pos (Qad z)]
 ·have zb:e∈b:=(Qaf.mp he).resolve_left z
  rw[Qef,Qef,if_pos zb,if_neg z,if_neg (by lia)]
  lia
theorem sF {y:List Nat} {k e:Nat} (hn:y.Nodup) (hk:k<=y.length) (he:e∈y):(((y.drop k++y.take k).idxOf e:Nat):Int)=((y.idxOf e:Int) - k)%y.length:=by
 have h1:=IQ (a:=y.take k) (b:=y.drop k) (e:=e) (by rw[Qbn];exact hn) (by rw[Qbn];exact he)
 rw[Qbn,Qak,Qat,Qcp hk]at h1
 have hi:=Qad he
 rw[h1]
 by_cases z:y.idxOf e<k
 ·rw[if_pos z]
  have:(y.idxOf e:Int) - k=((y.idxOf e+(y.length - k):Nat):Int)+y.length*(-1):=by lia
  rw[this,Qcg,Qas (by lia) (by lia)]
 ·rw[if_neg z,Qas (by lia) (by lia)]
  lia
theorem wX {y:List Nat} {a b c:Nat} (hn:y.Nodup) (ha:a∈y) (hb:b∈y) (hc:c∈y):decide ((((y.drop (y.idxOf a)++y.take (y.idxOf a)).idxOf b:Nat):Int)<(((y.drop (y.idxOf a)++y.take (y.idxOf a)).idxOf c:Nat):Int))=gr y a b c:=by
 have hk:=Qcw (Qad ha)
 rw[sF hn hk hb,sF hn hk hc]
 rfl
noncomputable def A0 (x:Fm):List V:=[.int x.c, .int x.i, .int x.d, .int x.j, .int x.m, .str (S x.t)]
structure Fa where
 a:Addr
 x:Fm
noncomputable def j4 (L:List Fa):List V:=L.map fun k=>V.ref k.a
theorem lC (L:List Fa):(j4 L).length=L.length:=by unfold j4;rw[V6]
theorem E9 (a:List Fa) (k:Fa):j4 a++[V.ref k.a]=j4 (a++[k]):=by unfold j4;rw[XN];rfl
def dU (H:Hp) (L:List Fa):Prop:= ∀k∈L,H k.a=some (.tup (A0 k.x))
theorem dU.nil (H:Hp):dU H []:=fun _ h=>absurd h Qae
theorem dU.ts {H H':Hp} {L:List Fa} (h:dU H L) (s:aR H H'):dU H' L:=fun k hk=>s _ _ (h k hk)
theorem dU.app {H:Hp} {a b:List Fa} (x:dU H a) (y:dU H b):dU H (a++b):=fun k hk=>(Qaf.mp hk).elim (x k) (y k)
theorem dU.snoc {H:Hp} {a:List Fa} {k:Fa} (x:dU H a) (y:H k.a=some (.tup (A0 k.x))):dU H (a++[k]):=x.app fun z hz=>by rw[V8.mp hz];exact y
structure Sd where
 t:Addr
 c:Nat
 i:Nat
noncomputable def Sd.pair (p:Sd):Nat×Nat:=(p.c,p.i)
noncomputable def pM (ps:List Sd):List V:=ps.map fun p=>V.ref p.t
theorem lD (ps:List Sd):(pM ps).length=ps.length:=by unfold pM;rw[V6]
theorem E_ (a:List Sd) (p:Sd):pM a++[V.ref p.t]=pM (a++[p]):=by unfold pM;rw[XN];rfl
theorem IS (a b:List Sd):pM a++pM b=pM (a++b):=by unfold pM;rw[XN]
theorem Fb {ps:List Sd} {i:Nat} {x:V} (h:(pM ps)[i]? =some x): ∃p,ps[i]? =some p/\x=V.ref p.t:=by
 unfold pM at h
 rw[Qaj]at h
 cases e:ps[i]? with
 | none=>rw[e]at h;cases h
 | some p=>rw[e]at h;cases h;exact ⟨p,rfl,rfl⟩
def Kx (H:Hp) (ps:List Sd):Prop:= ∀p∈ps,H p.t=some (.tup [.int p.c, .int p.i])
structure CT (y:List Nat) (ws:List (List Nat)):Prop where
 sw: ∀w∈ws,SW y w/\w.length<=12
 sd:ws.length<=4
 all:(places ws).length<=24
theorem getD_at {ws:List (List Nat)} {c:Nat} (h:c<ws.length):(iR ws)[c]? =some (V.str (S (ws.getD c []))):=by
 rw[jd h,XO,LJ h];rfl
theorem getD_in {ws:List (List Nat)} {c:Nat} (h:c<ws.length):ws.getD c []∈ws:=by
 rw[XO,LJ h];exact Qay h
def ji (_:PySem.W.Frag):Sp:=fun vs H Q _=> ∃(w:List Nat) (i:Nat),vs=[.str (S w), .int i]/\(∀c∈w,Lt c)/\w.length<=1000/\i<w.length/\ ∀q H',H q=none->H' q=some (.tup [.str (S [aB (rd w ((i:Int) - 1))]), .str (S [rd w i])])->ao H H'->Q (.ref q) H'
theorem nQ {K:PySem.W.Frag} {vs:List V} {H:Hp} {Q:VK} {E:XK} (h:ji K vs H Q E):vs.length=2:=by obtain ⟨_,_,rfl,_⟩:=h;rfl
def MD (H:Hp) (Q:VK) (vs:List V):Prop:= ∃(y:List Nat) (wt:Addr) (ws:List (List Nat)),vs=[.str (S y), .ref wt]/\Yd y/\y.length<=8/\CT y ws/\H wt=some (.tup (iR ws))/\
 ∀(q:Addr) (L:List Fa) (H':Hp),H q=none->H' q=some (.lst (j4 L))->dU H' L->L.map Fa.x=nP y ws->ao H H'->Q (.ref q) H'
def pN (_:PySem.W.Frag):Sp:=fun vs H Q _=>MD H Q vs
theorem wY {K:PySem.W.Frag} {vs:List V} {H:Hp} {Q:VK} {E:XK} (h:pN K vs H Q E):vs.length=2:=by obtain ⟨_,_,_,rfl,_⟩:=h;rfl
def sG (_:PySem.W.Frag):Sp:=fun vs H Q _=> ∃(b:Addr) (y:List Nat) (top:Nat),vs=[.ref b, .str (S y), .int top]/\bX H b/\Yd y/\2<=y.length/\y.length<=8/\1<=top/\top<=100/\ ∀(w:List Nat) H',SW y w->w.length<=top->bX H' b->aO b H H'->Q (.str (S w)) H'
theorem zg {K:PySem.W.Frag} {vs:List V} {H:Hp} {Q:VK} {E:XK} (h:sG K vs H Q E):vs.length=3:=by obtain ⟨_,_,_,rfl,_⟩:=h;rfl
def wZ (_:PySem.W.Frag):Sp:=fun vs H Q _=> ∃(b:Addr) (y w:List Nat) (top:Nat),vs=[.ref b, .str (S y), .str (S w), .int top]/\bX H b/\Yd y/\2<=y.length/\y.length<=8/\1<=top/\top<=100/\SW y w/\w.length<=top/\ ∀(u:List Nat) H',SW y u->u.length<=top->bX H' b->aO b H H'->Q (.str (S u)) H'
theorem CU {K:PySem.W.Frag} {vs:List V} {H:Hp} {Q:VK} {E:XK} (h:wZ K vs H Q E):vs.length=4:=by obtain ⟨_,_,_,_,rfl,_⟩:=h;rfl
def sI (_:PySem.W.Frag):Sp:=fun vs H Q _=> ∃(b:Addr) (l:List Nat),vs=[.ref b, .str (S l)]/\bX H b/\l.length<=1000/\ ∀q l' H',H q=none->q≠b->H' q=some (.lst (bW l'))->l'.Perm l->bX H' b->aO b H H'->Q (.ref q) H'
theorem zh {K:PySem.W.Frag} {vs:List V} {H:Hp} {Q:VK} {E:XK} (h:sI K vs H Q E):vs.length=2:=by obtain ⟨c,_,rfl,_⟩:=h;rfl
def sJ (_:PySem.W.Frag):Sp:=fun vs H Q _=> ∃(y:List Nat) (a b c:Nat),vs=[.str (S y), .str (S [a]), .str (S [b]), .str (S [c])]/\y.Nodup/\a∈y/\b∈y/\c∈y/\y.length<=1000/\Q (.bl (gr y a b c)) H
theorem zi {K:PySem.W.Frag} {vs:List V} {H:Hp} {Q:VK} {E:XK} (h:sJ K vs H Q E):vs.length=4:=by obtain ⟨c,_,_,_,rfl,_⟩:=h;rfl
def Fc (_:PySem.W.Frag):Sp:=fun vs H Q _=> ∃(w:List Nat) (k:Int),vs=[.str (S w), .int k]/\w≠[]/\w.length<=1000/\Q (.str (S [rd w k])) H
theorem IT {K:PySem.W.Frag} {vs:List V} {H:Hp} {Q:VK} {E:XK} (h:Fc K vs H Q E):vs.length=2:=by obtain ⟨_,_,rfl,_⟩:=h;rfl
def pP (_:PySem.W.Frag):Sp:=fun vs H Q _=> ∃(y w:List Nat) (i:Nat) (v:List Nat) (j:Nat),vs=[.str (S y), .str (S w), .int i, .str (S v), .int j]/\Yd y/\y.length<=8/\SW y w/\SW y v/\w.length<=12/\v.length<=12/\i<w.length/\j<v.length/\ ∀H',ao H H'->Q (.bl (Kw y w v i j)) H'
theorem w4 {K:PySem.W.Frag} {vs:List V} {H:Hp} {Q:VK} {E:XK} (h:pP K vs H Q E):vs.length=5:=by obtain ⟨_,_,_,_,_,rfl,_⟩:=h;rfl
noncomputable def wq (v:List Nat) (j:Int) (b:Bool):Int->Nat:=if b=true then bq v j else sq v j
theorem ME (v:List Nat) (j:Int) (b:Bool) (k:Int):wq v j b (k+v.length)=wq v j b k:=by
 unfold wq
 cases b
 ·rw[if_neg (by decide)];exact cN v j k
 ·rw[if_pos rfl];exact mq v j k
noncomputable def xU (f g:Int->Nat) (n:Nat):Int:=if ft f g n 0=n then -1 else ft f g n 0
def pQ (_:PySem.W.Frag):Sp:=fun vs H Q _=> ∃(w:List Nat) (i:Nat) (v:List Nat) (j:Nat) (b:Bool),vs=[.str (S w), .int i, .str (S v), .int j, .bl b]/\w≠[]/\v≠[]/\(∀c∈v,Lt c)/\w.length<=12/\v.length<=12/\Q (.int (xU (sq w i) (wq v j b) (w.length+v.length))) H
theorem w5 {K:PySem.W.Frag} {vs:List V} {H:Hp} {Q:VK} {E:XK} (h:pQ K vs H Q E):vs.length=5:=by obtain ⟨_,_,_,_,_,rfl,_⟩:=h;rfl
def pR (_:PySem.W.Frag):Sp:=fun vs H Q _=> ∃(y w:List Nat) (i:Nat) (v:List Nat) (j:Nat) (b:Bool),vs=[.str (S y), .str (S w), .int i, .str (S v), .int j, .bl b]/\Yd y/\y.length<=8/\SW y w/\SW y v/\w.length<=12/\v.length<=12/\ ∀H',ao H H'->Q (.int (al y (sq w i) (wq v j b) (w.length+v.length))) H'
theorem w6 {K:PySem.W.Frag} {vs:List V} {H:Hp} {Q:VK} {E:XK} (h:pR K vs H Q E):vs.length=6:=by obtain ⟨_,_,_,_,_,_,rfl,_⟩:=h;rfl
def Told (b:Addr) (H:Hp) (Q:VK) (y:List Nat):Prop:= ∀(t:Addr) (ws:List (List Nat)) (H':Hp),H t=none->t≠b->H' t=some (.tup (iR ws))->CT y ws->bX H' b->aO b H H'->Q (.ref t) H'
def sL (_:PySem.W.Frag):Sp:=fun vs H Q _=> ∃(b:Addr) (y:List Nat) (many top:Nat),vs=[.ref b, .str (S y), .int many, .int top]/\bX H b/\Yd y/\2<=y.length/\y.length<=8/\1<=many/\many<=4/\1<=top/\top<=12/\many*top<=24/\Told b H Q y
theorem zj {K:PySem.W.Frag} {vs:List V} {H:Hp} {Q:VK} {E:XK} (h:sL K vs H Q E):vs.length=4:=by obtain ⟨_,_,_,_,rfl,_⟩:=h;rfl
def j5 (_:PySem.W.Frag):Sp:=fun vs H Q _=> ∃(b:Addr) (y:List Nat),vs=[.ref b, .str (S y)]/\bX H b/\Yd y/\2<=y.length/\y.length<=8/\Told b H Q y
theorem pT {K:PySem.W.Frag} {vs:List V} {H:Hp} {Q:VK} {E:XK} (h:j5 K vs H Q E):vs.length=2:=by obtain ⟨_,_,rfl,_⟩:=h;rfl
def lE (_:PySem.W.Frag):Sp:=fun vs H Q _=> ∃(b:Addr) (y:List Nat) (f:Bool),vs=[.ref b, .str (S y), .bl f]/\bX H b/\Yd y/\2<=y.length/\y.length<=8/\Told b H Q y
theorem qY {K:PySem.W.Frag} {vs:List V} {H:Hp} {Q:VK} {E:XK} (h:lE K vs H Q E):vs.length=3:=by obtain ⟨_,_,_,rfl,_⟩:=h;rfl
theorem oo {ws:List (List Nat)} {m:Nat} (h: ∀w∈ws,w.length<=m): ∀n:Nat,n<=ws.length->(qM ws n).length<=n*m
 | 0,_=>Qaa _
 | n+1,hn=>by
  unfold qM
  have:=oo h n (by lia)
  have h2:=h _ (getD_in (ws:=ws) (c:=n) (by lia))
  rw[V7,V6,Qb8,Qd6]
  lia
theorem A1 {y:List Nat} {f g:Int->Nat} {n:Nat} (hf:0<xU f g n):xU f g n=ft f g n 0/\0<ft f g n 0/\f 0=g 0:=by
 unfold xU at hf ⊢
 by_cases z:ft f g n 0=n
 ·rw[if_pos z]at hf;lia
 ·rw[if_neg z]at hf ⊢
  have hp:0<ft f g n 0:=by lia
  exact ⟨rfl,hp,(cS f g n 0).2.2.1 0 (Sq _) hp⟩
theorem MF {H2:Hp} {t a3:Addr} {L:List Fa} {x:Fm} {H3:Hp} (ht:H2 t=some (.lst (j4 L))) (hL:dU H2 L) (s:ao H2 H3) (n3:H3 a3=none):
  dU (upd (upd H3 a3 (.tup (A0 x))) t (.lst (j4 (L++[⟨a3,x⟩])))) (L++[⟨a3,x⟩])/\aR H2 (upd (upd H3 a3 (.tup (A0 x))) t (.lst (j4 (L++[⟨a3,x⟩]))))/\
  (∀H,H t=none->ao H H2->ao H (upd (upd H3 a3 (.tup (A0 x))) t (.lst (j4 (L++[⟨a3,x⟩])))))/\upd (upd H3 a3 (.tup (A0 x))) t (.lst (j4 (L++[⟨a3,x⟩]))) t=some (.lst (j4 (L++[⟨a3,x⟩]))):=by
 have s3:=s.trans (ao.upd (o:= .tup (A0 x)) n3)
 have Ky:=s3 _ _ ht
 have N9:a3≠t:=fun z=>by rw[z,s _ _ ht]at n3;cases n3
 have ts:aR H2 (upd (upd H3 a3 (.tup (A0 x))) t (.lst (j4 (L++[⟨a3,x⟩])))):=(aR.of s3).trans (aR.mf Ky)
 refine ⟨(hL.ts ts).snoc ?_,ts,fun H n s0 a o e=>?_,ag⟩
 ·show upd _ t _ a3=_
  rw[az N9,ag]
 ·rw[az (ax e n)]
  exact s3 _ _ (s0 a o e)
theorem Kz {K:PySem.W.Frag} {H:Hp}: ∀{L:List Fa},dU H L->Cp K H 4 (j4 L) (L.map fun a=>jh a.x)
 | [],_=>trivial
 | a::L,h=>⟨⟨a.a,S a.x.t,rfl,bE.of (h a XS),rfl⟩,Kz fun k hk=>h k (kb _ hk)⟩
theorem CV {y:List Nat} {ws:List (List Nat)} {L:List Fa} (hy:Yd y) (hw: ∀w∈ws,SW y w) (e:L.map Fa.x=nP y ws) (k:Nat) (a b:List Int) (ha:(L.map fun a=>jh a.x)[k]? =some a) (hb:(L.map fun a=>jh a.x)[k+1]? =some b):bg b a=false/\b≠a:=by
 have e2:(L.map fun a=>jh a.x)=(nP y ws).map jh:=by rw[<-e,Qbt];rfl
 rw[e2,Qaj]at ha hb
 obtain ⟨x,hx,rfl⟩:=Qdo.mp ha
 obtain ⟨z,hz,rfl⟩:=Qdo.mp hb
 exact E5 (E4 hy hw) k x z hx hz
theorem sM {α β:Type} {l:List α} {k:Nat} {x:α} (f:α->List β) (h:l[k]? =some x):(l.take (k+1)).flatMap f=(l.take k).flatMap f++f x:=by
 rw[<-take_snoc h,Qbi]
 simp
theorem aO.ts {t:Addr} {H H':Hp} {ys:List V} (ht:H t=some (.lst ys)) (s:aO t H H'):aR H H':=fun c xs h=>s _ _ h fun z=>by rw[z,ht]at h;cases h
theorem w_ {ws:List (List Nat)} {c i:Nat} (h:(c,i)∈places ws):c<ws.length/\i<(ws.getD c []).length:=gq.mp h
theorem A2 {y:List Nat} {f g:Int->Nat} {n:Nat} (h: ¬0<xU f g n) (MG:f (-1)≠g (-1)->ft f g n 0<n/\f (ft f g n 0)≠g (ft f g n 0)):al y f g n=0:=by
 unfold al
 by_cases z:f 0≠g 0\/f (-1)=g (-1)
 ·rw[if_pos z]
 ·have z1:f 0=g 0:=Classical.byContradiction fun q=>z (.inl q)
  have z2:f (-1)≠g (-1):=fun q=>z (.inr q)
  obtain ⟨h1,h2⟩:=MG z2
  unfold xU at h
  rw[if_neg (by lia)]at h
  have e:ft f g n 0=0:=by lia
  rw[e]at h2
  exact absurd z1 h2
theorem A3 {y:List Nat} {f g:Int->Nat} {n:Nat} (h:f (-1)=g (-1)):al y f g n=0:=by unfold al;rw[if_pos (.inr h)]
theorem A4 {y:List Nat} {f g:Int->Nat} {n:Nat} (h0:f 0=g 0) (h:f (-1)≠g (-1)):al y f g n=if gr y (aB (f (-1))) (aB (g (-1))) (f 0)=gr y (f (ft f g n 0)) (g (ft f g n 0)) (aB (f ((ft f g n 0:Nat) - 1))) then ft f g n 0 else 0:=by
 unfold al
 rw[if_neg (fun z=>z.elim (fun z=>z h0) h)]
theorem MH {a b:Nat} (h:S [a]=S [b]):a=b:=by
 have:=congrArg (fun x:Str=>x.cps.toList) h
 simpa [S]using this
theorem Fd {a b c d:Nat}:(dd ([]:List Str) (([[a],[b],[c],[d]]:List (List Nat)).map S)).length<=4:=ui _ _
theorem xa {a b c d:Nat}:(dd ([]:List Str) (([[a],[b],[c],[d]]:List (List Nat)).map S)).length=4↔a≠b/\a≠c/\a≠d/\b≠c/\b≠d/\c≠d:=by
 have h:=Ew (([[a],[b],[c],[d]]:List (List Nat)).map S) ([]:List Str)
 have e:([]:List Str).length+(([[a],[b],[c],[d]]:List (List Nat)).map S).length=4:=rfl
 rw[e]at h
 rw[h]
 have key: ∀x z:Nat,(S [x]=S [z])↔x=z:=fun x z=>⟨MH,fun q=>by rw[q]⟩
 simp[key]
 constructor
 ·rintro ⟨⟨h1,h2,h3⟩,⟨h4,h5⟩,h6⟩
  exact ⟨h1,h2,h3,h4,h5,h6⟩
 ·rintro ⟨h1,h2,h3,h4,h5,h6⟩
  exact ⟨⟨h1,h2,h3⟩,⟨h4,h5⟩,h6⟩
theorem MI (p q:Bool) (c d:Nat) (f:Nat->Bool) (hp:f c=p) (hq:f d=q):decide ((([c,d].filter f).length:Int)=1)=(p != q):=by
 subst hp hq
 cases h1:f c<;>cases h2:f d<;>simp[List.filter,h1,h2]
theorem MJ {H2:Hp} {t a3:Addr} {L:List Fa} {x:Fm} {H3:Hp} (ht:H2 t=some (.lst (j4 L))) (hL:dU H2 L) (s:ao H2 H3) (n3:H3 a3=none):
  dU (upd (upd H3 a3 (.tup (A0 x))) t (.lst (j4 L++[V.ref a3]))) (L++[⟨a3,x⟩])/\aR H2 (upd (upd H3 a3 (.tup (A0 x))) t (.lst (j4 L++[V.ref a3])))/\
  (∀H,H t=none->ao H H2->ao H (upd (upd H3 a3 (.tup (A0 x))) t (.lst (j4 L++[V.ref a3]))))/\upd (upd H3 a3 (.tup (A0 x))) t (.lst (j4 L++[V.ref a3])) t=some (.lst (j4 (L++[⟨a3,x⟩]))):=by
 rw[show j4 L++[V.ref a3]=j4 (L++[⟨a3,x⟩]) from E9 L ⟨a3,x⟩]
 exact MF ht hL s n3
structure CY (t:Addr) (G H:Hp) (L:List Fa):Prop where
 ls:H t=some (.lst (j4 L))
 fa:dU H L
 sb:aO t G H
theorem CY.same {t:Addr} {G H H':Hp} {L:List Fa} (h:CY t G H L) (s:ao H H'):CY t G H' L:=⟨s _ _ h.ls,h.fa.ts (aR.of s),h.sb.after s⟩
theorem CY.put {t a:Addr} {G H:Hp} {L:List Fa} {x:Fm} (h:CY t G H L) (n:H a=none):CY t G (upd (upd H a (.tup (A0 x))) t (.lst (j4 L++[V.ref a]))) (L++[⟨a,x⟩]):=by
 obtain ⟨k1,_,_,k4⟩:=MJ (x:=x) h.ls h.fa (ao.refl _) n
 exact ⟨k4,k1,fun b ob e z=>by rw[az z];exact (ao.upd n) _ _ (h.sb b ob e z)⟩
theorem xb {α:Type} (w:List α):cut w none (some (-1))=w.take (w.length - 1):=by
 unfold cut
 rw[HT.i3,Mv]
 simp
structure Wd (y w:List Nat):Prop where
 E6:CO w
 bP: ∀c∈w,c∈y
theorem Wd.more {y w:List Nat} {c:Nat} (h:Wd y w) (hc:c∈y) (hn:w≠[]->c≠aB (rd w (-1))):Wd y (w++[c]):=
 ⟨h.E6.snoc fun a ha=>by
  have di:w≠[]:=fun z=>by rw[z]at ha;simp at ha
  rw[uI di]at ha
  rw[<-Qan ha]
  exact hn di,fun a ha=>by
  rcases Qaf.mp ha with g | g
  ·exact h.bP a g
  ·rw[V8.mp g];exact hc⟩
theorem Wd.sw {y w:List Nat} (h:Wd y w) (di:w≠[]) (he:rd w 0≠aB (rd w (-1))):SW y w:=
 SW.of di h.bP h.E6 fun a b ha hb=>by
  rw[lB di]at ha
  rw[uI di]at hb
  rw[<-Qan ha, <-Qan hb]
  exact he
theorem Wd.one {y w:List Nat} (hy:Yd y) (h:Wd y w) (h1:w.length=1):SW y w:=by
 have di:w≠[]:=fun z=>by rw[z]at h1;simp at h1
 refine h.sw di ?_
 have e:rd w 0=rd w (-1):=by
  have:=iw w (-1)
  rw[h1]at this
  exact this
 rw[<-e]
 exact fun q=>ig (hy.lt _ (h.bP _ (iu di 0))) q.symm
theorem Fe (n:Nat) (l:List Nat):cI (n+1) l=cI n l++l:=by
 induction n with
 | zero=>rw[fV];simp[cI]
 | succ n ih=>
  calc cI (n+1+1) l=l++cI (n+1) l:=fV _ _
   _=l++(cI n l++l):=by rw[ih]
   _=(l++cI n l)++l:=(Qb9 _ _ _).symm
   _=cI (n+1) l++l:=by rw[<-fV]
theorem IU (n d m:Nat) (h:0<m):HT.hU n d (some (-(m:Int)))=n - m:=by
 have e:HT.hU n d (some (-(m:Int)))=(if (-(m:Int))<0 then ((-(m:Int))+(n:Int)).toNat else min (-(m:Int)).toNat n):=rfl
 rw[e,if_pos (by lia)]
 lia
theorem IV {α:Type} (w:List α) (m:Nat) (h:0<m):cut w none (some (-(m:Int)))=w.take (w.length - m):=by
 unfold cut
 rw[HT.i3,IU _ _ _ h]
 simp
theorem Ff {r:List Nat} {k:Nat} (h:0<r.length) (hk:0<k):cut (cI k r) none (some (-(r.length:Int)))=cI (k - 1) r:=by
 obtain ⟨n,rfl⟩: ∃n,k=n+1:=⟨k - 1,by lia⟩
 rw[IV _ _ h,Fe,V7,Nat.add_sub_cancel,List.take_left]
 rfl
theorem CZ {w:List Nat} {n a:Nat} (h:(w.take n).head? =some a) (di:w≠[]):rd w 0=a:=by
 have h1:=lB di
 cases w with
 | nil=>exact absurd rfl di
 | cons x r=>
  cases n with
  | zero=>simp at h
  | succ n=>exact Qan (h1.symm.trans h)
theorem C0 {w:List Nat} {a:Nat} (h2:2<=w.length) (h:(w.take (w.length - 1)).getLast? =some a):rd w (-2)=a:=by
 rw[Qcm, Qak,Qcx,if_pos (by lia)]at h
 have di:w≠[]:=fun z=>by rw[z]at h2;simp at h2
 have:=eF di (-2)
 have e:(-2:Int)%(w.length:Int)=w.length - 2:=by
  have e2:(-2:Int)=((w.length:Int) - 2)+w.length*(-1):=by lia
  rw[e2,Qcg,Qas (by lia) (by lia)]
 rw[e,show ((w.length:Int) - 2).toNat=min (w.length - 1) w.length - 1 by lia]at this
 exact Qan (this.symm.trans h)
noncomputable def zk (w:List Nat) (e:Nat):Bool:=!decide (e∈[aB (rd w (-2)),aB (rd w 0),rd w (-1)])
theorem IW {y w u:List Nat} (hw:SW y w) (hu:SW y u) (lw:w.length<=12) (lu:u.length<=12):CT y [w,u]:=by
 refine ⟨fun x hx=>?_,by show 2<=4;decide,?_⟩
 ·rcases Qah.mp hx with g | g
  ·rw[g];exact ⟨hw,lw⟩
  ·rw[V8.mp g];exact ⟨hu,lu⟩
 ·have:=oo (ws:=[w,u]) (m:=12) (fun x hx=>by
   rcases Qah.mp hx with g | g
   ·rw[g];exact lw
   ·rw[V8.mp g];exact lu) 2 (Sq _)
  exact this
noncomputable def xV (y:List Nat) (a b:Nat):Int:=((y.idxOf b:Int) - (y.idxOf a:Int))%(y.length:Int)
noncomputable def fJ (y:List Nat) (f:Int->Nat) (k:Int):Int:=xV y (aB (f (k - 1))) (f k)
structure iU (y:List Nat) (f:Int->Nat):Prop where
 bP: ∀k,f k∈y
 red: ∀k,f k≠aB (f (k - 1))
structure Run (f g:Int->Nat) (a b:Nat):Prop where
 lF: ∀k:Int, -(b:Int)<=k->k<=a->f k=g k
 hi:f (a+1)≠g (a+1)
 lo:f (-(b:Int) - 1)≠g (-(b:Int) - 1)
noncomputable def jJ (f:Int->Nat):Int->Nat:=fun k=>aB (f (-k))
noncomputable def eS (f:Int->Nat):Int->Nat:=fun k=>f (k - 1)
noncomputable def jU (y:List Nat) (f g:Int->Nat) (a:Nat):Bool:=decide (fJ y f (a+1)<fJ y g (a+1))
noncomputable def j6 (y:List Nat) (f g:Int->Nat) (b:Nat):Bool:=decide (fJ y f (-(b:Int))<fJ y g (-(b:Int)))
noncomputable def vE (x a b:Nat):Bool:=decide (b<a\/(a=b/\aA x=false))
noncomputable def zl (y:List Nat) (f g:Int->Nat) (a b:Nat):Bool:=if vE (f 0) a b=true then j6 y f g b else jU y f g a
theorem Run.one {f g:Int->Nat} {a b a' b':Nat} (h:Run f g a b) (h':Run f g a' b'):a=a'/\b=b':=by
 constructor
 ·by_cases z:a<a'
  ·exact absurd (h'.lF (a+1) (by lia) (by lia)) h.hi
  ·by_cases z2:a'<a
   ·exact absurd (h.lF (a'+1) (by lia) (by lia)) h'.hi
   ·lia
 ·by_cases z:b<b'
  ·exact absurd (h'.lF (-(b:Int) - 1) (by lia) (by lia)) h.lo
  ·by_cases z2:b'<b
   ·exact absurd (h.lF (-(b':Int) - 1) (by lia) (by lia)) h'.lo
   ·lia
theorem Run.bk {f g:Int->Nat} {a b:Nat} (h:Run f g a (b+1)):Run (eS f) (eS g) (a+1) b:=
 ⟨fun k h1 h2=>h.lF (k - 1) (by lia) (by lia),fun z=>h.hi (by
  unfold eS at z
  rwa [show ((a+1:Nat):Int)+1 - 1=a+1 by lia]at z),fun z=>h.lo (by
  unfold eS at z
  rwa [show -(b:Int) - 1 - 1= -((b+1:Nat):Int) - 1 by lia]at z)⟩
theorem Run.fd {f g:Int->Nat} {a b:Nat} (h:Run (eS f) (eS g) (a+1) b):Run f g a (b+1):=
 ⟨fun k h1 h2=>by
  have:=h.lF (k+1) (by lia) (by lia)
  unfold eS at this
  rwa [show k+1 - 1=k by lia]at this,fun z=>h.hi (by
  unfold eS
  rwa [show ((a+1:Nat):Int)+1 - 1=a+1 by lia]),fun z=>h.lo (by
  unfold eS
  rwa [show -(b:Int) - 1 - 1= -((b+1:Nat):Int) - 1 by lia])⟩
theorem oq (y:List Nat) (f:Int->Nat) (k:Int):fJ y (eS f) k=fJ y f (k - 1):=rfl
theorem uK (y:List Nat) (f g:Int->Nat) (a:Nat):jU y (eS f) (eS g) (a+1)=jU y f g a:=by
 unfold jU
 rw[oq,oq,show ((a+1:Nat):Int)+1 - 1=a+1 by lia]
theorem uL (y:List Nat) (f g:Int->Nat) (b:Nat):j6 y (eS f) (eS g) b=j6 y f g (b+1):=by
 unfold j6
 rw[oq,oq,show -(b:Int) - 1= -((b+1:Nat):Int) by lia]
theorem Fg {x z a b:Nat} (h:vE x a (b+1)=true):vE z (a+1) b=true:=by
 unfold vE at h ⊢
 have:=of_decide_eq_true h
 exact decide_eq_true (by lia)
theorem eT {y:List Nat} {a b:Nat} (ha:a∈y) (hb:b∈y) (h:a≠b):0<xV y a b/\xV y a b<y.length/\xV y b a=y.length - xV y a b:=by
 have ia:=Qad ha
 have ib:=Qad hb
 have n:=b9 ha hb h
 unfold xV
 rw[jf ia ib,jf ib ia]
 generalize y.idxOf a=i at*
 generalize y.idxOf b=j at*
 split<;>split<;>lia
theorem lG {y:List Nat} {a b c:Nat} (ha:a∈y) (hb:b∈y) (hc:c∈y) (h:xV y a b=xV y a c):b=c:=by
 have ia:=Qad ha
 have ib:=Qad hb
 have ic:=Qad hc
 refine Classical.byContradiction fun z=>b9 hb hc z ?_
 unfold xV at h
 rw[jf ia ib,jf ia ic]at h
 split at h<;>split at h<;>lia
theorem iU.rv {y:List Nat} {f:Int->Nat} (hy:Yd y) (h:iU y f):iU y (jJ f):=⟨fun k=>hy.cl _ (h.bP _),fun k z=>by
 unfold jJ at z
 have e:=aM (hy.lt _ (h.bP (-(k - 1))))
 rw[e]at z
 have:=h.red (-(k - 1))
 rw[show -(k - 1) - 1= -k by lia]at this
 exact this z.symm⟩
theorem sN {y:List Nat} {f:Int->Nat} (hy:Yd y) (h:iU y f):jJ (jJ f)=f:=by
 funext k
 unfold jJ
 rw[aM (hy.lt _ (h.bP _)),Int.neg_neg]
theorem jj {y:List Nat} {f:Int->Nat} (hy:Yd y) (h:iU y f) (k:Int):fJ y (jJ f) (k+1)=y.length - fJ y f (-k):=by
 unfold fJ jJ
 rw[show k+1 - 1=k by lia,aM (hy.lt _ (h.bP _)),show -(k+1)= -k - 1 by lia]
 exact (eT (hy.cl _ (h.bP _)) (h.bP _) (Ne.symm (h.red _))).2.2
theorem Run.rv {y:List Nat} {f g:Int->Nat} {a b:Nat} (hy:Yd y) (hf:iU y f) (hg:iU y g) (h:Run f g a b):Run (jJ f) (jJ g) b a:=
 ⟨fun k h1 h2=>by unfold jJ;rw[h.lF _ (by lia) (by lia)],fun z=>h.lo (by
  unfold jJ at z
  have:=fg (hy.lt _ (hf.bP _)) (hy.lt _ (hg.bP _)) z
  rwa [show -((b:Int)+1)= -(b:Int) - 1 by lia]at this),fun z=>h.hi (by
  unfold jJ at z
  have:=fg (hy.lt _ (hf.bP _)) (hy.lt _ (hg.bP _)) z
  rwa [show -(-(a:Int) - 1)=a+1 by lia]at this)⟩
theorem fM: ∀c∈aU++ie,aA (aB c)=!aA c:=by decide+kernel
theorem MK {y:List Nat} {f g:Int->Nat} {a b:Nat} (hy:Yd y) (hf:iU y f) (hg:iU y g) (h0:f 0=g 0):zl y (jJ g) (jJ f) b a=zl y f g a b:=by
 have e1:j6 y (jJ g) (jJ f) a=jU y f g a:=by
  unfold j6 jU
  have h1:=jj hy hf (-(a:Int) - 1)
  have h2:=jj hy hg (-(a:Int) - 1)
  rw[show -(a:Int) - 1+1= -a by lia,show -(-(a:Int) - 1)=a+1 by lia]at h1 h2
  rw[h1,h2]
  exact decide_eq_decide.mpr (by lia)
 have e2:jU y (jJ g) (jJ f) b=j6 y f g b:=by
  unfold j6 jU
  rw[jj hy hf,jj hy hg]
  exact decide_eq_decide.mpr (by lia)
 unfold zl
 rw[e1,e2]
 have e3:vE (jJ g 0) b a=!vE (f 0) a b:=by
  unfold vE jJ
  rw[show (-0:Int)=0 from rfl, <-h0,fM _ (hy.lt _ (hf.bP 0)).mem]
  rw[<-decide_not]
  refine decide_eq_decide.mpr ?_
  cases aA (f 0)
  ·simp;lia
  ·simp;lia
 rw[e3]
 cases vE (f 0) a b<;>rfl
def uB (y:List Nat) (f g:Int->Nat):Prop:= ∃a b,Run f g a b/\vE (f 0) a b=true/\jU y f g a≠j6 y f g b
def xW (y:List Nat) (f g:Int->Nat):Prop:= ∃a,Run f g a 0/\jU y f g a≠j6 y f g 0
open Classical in
noncomputable def one (p:Prop):Int:=if p then 1 else 0
theorem gs {p:Prop} (h:p):one p=1:=by unfold one;rw[if_pos h]
theorem bj {p:Prop} (h: ¬p):one p=0:=by unfold one;rw[if_neg h]
theorem bH {p q:Prop} (h:p↔q):one p=one q:=by rw[propext h]
theorem Run.zero {f g:Int->Nat} {a b:Nat} (h:Run f g a b):f 0=g 0:=h.lF 0 (by lia) (by lia)
theorem Fh {y:List Nat} {f g:Int->Nat} {e0 e1:Bool} {m:Prop}
  (r0:f 0=g 0-> ∃a b,Run f g a b) (r1:f (-1)=g (-1)-> ∃a b,Run (eS f) (eS g) a b)
  (h0: ∀a b,Run f g a b->e0=zl y f g a b) (h1: ∀a b,Run (eS f) (eS g) a b->e1=zl y (eS f) (eS g) a b)
  (ma:f 0=g 0->f (-1)≠g (-1)->(m↔e0≠j6 y f g 0)) (mb:f (-1)=g (-1)->f 0≠g 0->(m↔e1≠jU y (eS f) (eS g) 0)) (mc:f (-1)=g (-1)->f 0=g 0->(m↔e1≠e0))
  (t:f 0=g 0\/f (-1)=g (-1)):one m=one (xW y f g)+one (uB y (eS f) (eS g)) - one (uB y f g):=by
 have hb: ∀{a b},Run (eS f) (eS g) a b->f (-1)=g (-1):=fun h=>h.zero
 by_cases z0:f 0=g 0
 ·obtain ⟨a,b,r⟩:=r0 z0
  have e:=h0 a b r
  unfold zl at e
  have hu:uB y f g↔(vE (f 0) a b=true/\jU y f g a≠j6 y f g b):=⟨fun ⟨a',b',r',x⟩=>by obtain ⟨rfl,rfl⟩:=r.one r';exact x,fun x=>⟨a,b,r,x⟩⟩
  by_cases z1:f (-1)=g (-1)
  ·cases b with
   | zero=>exact absurd z1 r.lo
   | succ b=>
    have r2:=r.bk
    have e2:=h1 _ _ r2
    unfold zl at e2
    have IX:uB y (eS f) (eS g)↔(vE (eS f 0) (a+1) b=true/\jU y f g a≠j6 y f g (b+1)):=⟨fun ⟨a',b',r',x⟩=>by
     obtain ⟨rfl,rfl⟩:=r2.one r'
     rw[uK,uL]at x;exact x,fun x=>⟨_,_,r2,by rw[uK,uL];exact x⟩⟩
    rw[uK,uL]at e2
    have Ru: ¬xW y f g:=fun ⟨a',r',_⟩=>absurd (r.one r').2 (Nat.succ_ne_zero b)
    rw[bj Ru,bH hu,bH IX,bH (mc z1 z0),e,e2]
    have mono:= @Fg (f 0) (eS f 0) a b
    generalize vE (f 0) a (b+1)=B0 at*
    generalize vE (eS f 0) (a+1) b=B1 at*
    generalize jU y f g a=A at*
    generalize j6 y f g (b+1)=C at*
    revert mono
    cases B0<;>cases B1<;>cases A<;>cases C<;>simp[one]
  ·have b0:b=0:=by
    cases b with
    | zero=>rfl
    | succ b=>exact absurd (r.lF (-1) (by lia) (by lia)) z1
   subst b0
   have IX: ¬uB y (eS f) (eS g):=fun ⟨_,_,r',_⟩=>z1 (hb r')
   have Ru:xW y f g↔jU y f g a≠j6 y f g 0:=⟨fun ⟨a',r',x⟩=>by obtain ⟨rfl,_⟩:=r.one r';exact x,fun x=>⟨a,r,x⟩⟩
   rw[bj IX,bH Ru,bH hu,bH (ma z0 z1),e]
   generalize vE (f 0) a 0=B0 at*
   generalize jU y f g a=A at*
   generalize j6 y f g 0=C at*
   cases B0<;>cases A<;>cases C<;>simp[one]
 ·have z1:=t.resolve_left z0
  obtain ⟨a,b,r⟩:=r1 z1
  have a0:a=0:=by
   cases a with
   | zero=>rfl
   | succ a=>exact absurd (r.fd.zero) z0
  subst a0
  have e:=h1 _ _ r
  unfold zl at e
  have Of: ¬uB y f g:=fun ⟨_,_,r',_⟩=>z0 r'.zero
  have Ru: ¬xW y f g:=fun ⟨_,r',_⟩=>z0 r'.zero
  have IX:uB y (eS f) (eS g)↔(vE (eS f 0) 0 b=true/\jU y (eS f) (eS g) 0≠j6 y (eS f) (eS g) b):=⟨fun ⟨a',b',r',x⟩=>by
   obtain ⟨rfl,rfl⟩:=r.one r';exact x,fun x=>⟨_,_,r,x⟩⟩
  rw[bj Of,bj Ru,bH IX,bH (mb z1 z0),e]
  generalize vE (eS f 0) 0 b=B0 at*
  generalize jU y (eS f) (eS g) 0=A at*
  generalize j6 y (eS f) (eS g) b=C at*
  cases B0<;>cases A<;>cases C<;>simp[one]
theorem dB {f g:Int->Nat} {p q:Nat} (hp:0<p) (hq:0<q) (Pf: ∀k,f (k+p)=f k) (Pg: ∀k,g (k+q)=g k) (h0:f 0=g 0) (hn: ∃k,f k≠g k): ∃a b,Run f g a b/\a<p+q/\b<p+q:=by
 obtain ⟨k0,WA⟩:=hn
 have up: ∃a:Nat,a<p+q/\(∀j:Nat,j<a->f (j+1)=g (j+1))/\f (a+1)≠g (a+1):=by
  obtain ⟨_,b,c,d⟩:=cS (fun k=>f (k+1)) (fun k=>g (k+1)) (p+q) 0
  by_cases z:ft (fun k=>f (k+1)) (fun k=>g (k+1)) (p+q) 0<p+q
  ·exact ⟨_,z,fun j hj=>c j (Qaa _) hj,d (by lia)⟩
  ·refine absurd ?_ WA
   have:=fw (f:=fun k=>f (k+1)) (g:=fun k=>g (k+1)) hp hq (fun k=>by rw[show k+(p:Int)+1=k+1+p by lia];exact Pf _) (fun k=>by rw[show k+(q:Int)+1=k+1+q by lia];exact Pg _) (fun n hn=>c n (Qaa _) (by lia)) (k0 - 1)
   rwa [show k0 - 1+1=k0 by lia]at this
 have Yr: ∀k,f (-(k+p))=f (-k):=fun k=>by have:=Pf (-(k+p));rw[<-this];congr 1;lia
 have Ys: ∀k,g (-(k+q))=g (-k):=fun k=>by have:=Pg (-(k+q));rw[<-this];congr 1;lia
 have dn: ∃a:Nat,a<p+q/\(∀j:Nat,j<a->f (-(j:Int) - 1)=g (-(j:Int) - 1))/\f (-(a:Int) - 1)≠g (-(a:Int) - 1):=by
  obtain ⟨_,b,c,d⟩:=cS (fun k=>f (-k - 1)) (fun k=>g (-k - 1)) (p+q) 0
  by_cases z:ft (fun k=>f (-k - 1)) (fun k=>g (-k - 1)) (p+q) 0<p+q
  ·exact ⟨_,z,fun j hj=>c j (Qaa _) hj,d (by lia)⟩
  ·refine absurd ?_ WA
   have:=fw (f:=fun k=>f (-k - 1)) (g:=fun k=>g (-k - 1)) hp hq (fun k=>by have:=Yr (k+1);rw[show -(k+(p:Int)) - 1= -(k+1+p) by lia,this];congr 1;lia) (fun k=>by have:=Ys (k+1);rw[show -(k+(q:Int)) - 1= -(k+1+q) by lia,this];congr 1;lia) (fun n hn=>c n (Qaa _) (by lia)) (-k0 - 1)
   rwa [show -(-k0 - 1) - 1=k0 by lia]at this
 obtain ⟨a,ha,a1,a2⟩:=up
 obtain ⟨b,hb,b1,b2⟩:=dn
 refine ⟨a,b,⟨fun k h1 h2=>?_,a2,b2⟩,ha,hb⟩
 by_cases z:k=0
 ·rw[z];exact h0
 ·by_cases z2:0<k
  ·obtain ⟨j,rfl⟩: ∃j:Nat,k=j+1:=⟨(k - 1).toNat,by lia⟩
   exact a1 j (by lia)
  ·obtain ⟨j,rfl⟩: ∃j:Nat,k= -(j:Int) - 1:=⟨(-k - 1).toNat,by lia⟩
   exact b1 j (by lia)
theorem Fi {y:List Nat} {p p' x:Nat} (hy:Yd y) (hp:p∈y) (xS:p'∈y) (hx:x∈y) (h1:p≠p') (h2:p≠x) (h3:p'≠x):decide (xV y p x<xV y p' x)=!gr y p p' x:=by
 have ip:=Qad hp
 have Yt:=Qad xS
 have ix:=Qad hx
 have n1:=b9 hp xS h1
 have n2:=b9 hp hx h2
 have n3:=b9 xS hx h3
 rw[gD hy.nd hp xS hx h1 h2 h3]
 unfold xV
 rw[jf ip ix,jf Yt ix, <-decide_not]
 refine decide_eq_decide.mpr ?_
 unfold jT
 split<;>split<;>lia
theorem Fj {y:List Nat} {f g:Int->Nat} (hy:Yd y) (hf:iU y f) (hg:iU y g) (h0:f 0=g 0) (h1:f (-1)≠g (-1)):j6 y f g 0=!gr y (aB (f (-1))) (aB (g (-1))) (f 0):=by
 have e:j6 y f g 0=decide (xV y (aB (f (-1))) (f 0)<xV y (aB (g (-1))) (g 0)):=rfl
 rw[e, <-h0]
 have r1:=hf.red 0
 have r2:=hg.red 0
 rw[show (0:Int) - 1= -1 by lia]at r1 r2
 exact Fi hy (hy.cl _ (hf.bP _)) (hy.cl _ (hg.bP _)) (hf.bP 0) (fun z=>h1 (fg (hy.lt _ (hf.bP _)) (hy.lt _ (hg.bP _)) z)) (Ne.symm r1) (by rw[h0];exact Ne.symm r2)
theorem Fl {y:List Nat} {f g:Int->Nat} {a:Nat} (h:f a=g a):jU y f g a=gr y (aB (f a)) (f (a+1)) (g (a+1)):=by
 unfold jU fJ
 rw[show (a:Int)+1 - 1=a by lia, <-h]
 rfl
theorem xc {y:List Nat} {f g:Int->Nat} {n:Nat} (hy:Yd y) (hf:iU y f) (hg:iU y g) (hd:f (-1)≠g (-1)->ft f g n 0<n/\f (ft f g n 0)≠g (ft f g n 0)):xW y f g↔0<al y f g n:=by
 unfold al
 by_cases z:f 0≠g 0\/f (-1)=g (-1)
 ·rw[if_pos z]
  refine ⟨fun ⟨a,r,_⟩=>?_,fun h=>absurd h (Qbd _)⟩
  rcases z with z | z
  ·exact absurd r.zero z
  ·exact absurd z r.lo
 ·rw[if_neg z]
  have z0:f 0=g 0:=Classical.byContradiction fun q=>z (.inl q)
  have z1:f (-1)≠g (-1):=fun q=>z (.inr q)
  obtain ⟨d1,d2⟩:=hd z1
  obtain ⟨_,_,d3,_⟩:=cS f g n 0
  generalize ft f g n 0=D at*
  cases D with
  | zero=>exact absurd z0 d2
  | succ a=>
   have r:Run f g a 0:=⟨fun k h1 h2=>by
    obtain ⟨j,rfl⟩: ∃j:Nat,k=j:=⟨k.toNat,by lia⟩
    exact d3 j (Qaa _) (by lia),d2,z1⟩
   have e1:((a+1:Nat):Int)=(a:Int)+1:=by lia
   rw[e1,show (a:Int)+1 - 1=a by lia]
   have Sw:=d3 a (Qaa _) (Qcc a)
   have rf:=hf.red (a+1)
   have rg:=hg.red (a+1)
   rw[show (a:Int)+1 - 1=a by lia]at rf rg
   have Yu:f (a+1)≠g (a+1):=d2
   have eg:=IF hy.nd (hy.cl _ (hf.bP a)) (hf.bP (a+1)) (hg.bP (a+1)) (Ne.symm rf) (by rw[Sw];exact Ne.symm rg) Yu
   rw[eg, <-Fl Sw]
   have eb:=Fj hy hf hg z0 z1
   have key:xW y f g↔jU y f g a≠j6 y f g 0:=⟨fun ⟨a',r',x⟩=>by obtain ⟨rfl,_⟩:=r.one r';exact x,fun x=>⟨a,r,x⟩⟩
   rw[key,eb]
   generalize gr y (aB (f (-1))) (aB (g (-1))) (f 0)=G
   generalize jU y f g a=A
   cases G<;>cases A<;>simp
noncomputable def qZ (a b a' b':Nat):Bool:=decide (jT a a' b) != decide (jT a b' b)
theorem xf (a b a' b':Nat):qZ a b a' b'=qZ a b b' a':=by unfold qZ;generalize decide (jT a a' b)=p;generalize decide (jT a b' b)=q;cases p<;>cases q<;>rfl
theorem xg (a b:Nat):qZ a b a b=false:=by
 unfold qZ
 have h1: ¬jT a a b:=by unfold jT;lia
 have h2: ¬jT a b b:=by unfold jT;lia
 rw[decide_eq_false h1,decide_eq_false h2]
 rfl
theorem iB {a b:Nat} (h:a≠b):decide (b<a)=!decide (a<b):=by
 rcases Qea h with q | q
 ·rw[decide_eq_true q,decide_eq_false (Qep q)];rfl
 ·rw[decide_eq_true q,decide_eq_false (Qep q)];rfl
theorem KA {a b c:Nat} (h1:a≠b) (h2:b≠c) (h3:a≠c):decide (jT a b c)=!(decide (a<b) ^^ (decide (b<c) ^^ decide (c<a))):=by
 have e:decide (jT a b c)=((decide (a<b)&&decide (b<c))||((decide (b<c)&&decide (c<a))||(decide (c<a)&&decide (a<b)))):=by
  rw[<-Qfv, <-Qfv, <-Qfv, <-Bool.decide_or, <-Bool.decide_or]
  exact decide_eq_decide.mpr Iff.rfl
 rw[e]
 have k1:decide (a<b)=true->decide (b<c)=true->decide (c<a)=true->False:=fun p q r=>Qep (Qfe (of_decide_eq_true p) (of_decide_eq_true q)) (of_decide_eq_true r)
 have k2:decide (b<a)=true->decide (c<b)=true->decide (a<c)=true->False:=fun p q r=>Qep (Qfe (of_decide_eq_true q) (of_decide_eq_true p)) (of_decide_eq_true r)
 rw[iB h1,iB h2,iB (Ne.symm h3)]at k2
 revert k1 k2
 generalize decide (a<b)=p
 generalize decide (b<c)=q
 generalize decide (c<a)=r
 revert p q r
 decide
theorem Fn {a b a' b':Nat} (h1:a≠b) (h3:a≠a') (h4:a≠b') (h5:b≠a') (h6:b≠b'):qZ a b a' b'=((decide (a<a') ^^ decide (a'<b)) ^^ (decide (a<b') ^^ decide (b'<b))):=by
 unfold qZ
 rw[KA h3 (Ne.symm h5) h1,KA h4 (Ne.symm h6) h1]
 generalize decide (a<a')=p
 generalize decide (a'<b)=q
 generalize decide (a<b')=r
 generalize decide (b'<b)=s
 generalize decide (b<a)=t
 revert p q r s t
 decide
theorem A5 {a b a' b':Nat} (h1:a≠b) (h2:a'≠b') (h3:a≠a') (h4:a≠b') (h5:b≠a') (h6:b≠b'):qZ a b a' b'=qZ a' b' a b:=by
 rw[Fn h1 h3 h4 h5 h6,Fn h2 (Ne.symm h3) (Ne.symm h5) (Ne.symm h4) (Ne.symm h6),iB h3,iB (Ne.symm h6)]
 generalize decide (a<a')=p
 generalize decide (a'<b)=q
 generalize decide (a<b')=r
 generalize decide (b'<b)=s
 revert p q r s
 decide
theorem IZ {a b c i j k:Nat} (n1:i≠j) (n2:i≠k) (n3:j≠k) (h1:i<j->a<b) (h2:j<i->b<a) (h3:i<k->a<c) (h4:k<i->c<a) (h5:j<k->b<c) (h6:k<j->c<b):jT a b c↔jT i j k:=by
 have e: ∀{i j a b:Nat},i≠j->(i<j->a<b)->(j<i->b<a)->(i<j↔a<b):=fun {i j a b} n f g=>⟨f,fun q=>(Qea n).elim id fun r=>absurd (g r) (Qep q)⟩
 unfold jT
 rw[e n1 h1 h2,e n3 h5 h6,e (Ne.symm n2) h4 h3]
def Sep (y:List Nat) (ps:List (Nat×Nat)):Prop:= ∀p∈ps, ∀q∈ps,y.idxOf p.1<y.idxOf q.1->p.2<q.2
theorem Sep.jT {y:List Nat} {ps:List (Nat×Nat)} (h:Sep y ps) {a b c:Nat×Nat} (ha:a∈ps) (hb:b∈ps) (hc:c∈ps) (n1:y.idxOf a.1≠y.idxOf b.1) (n2:y.idxOf a.1≠y.idxOf c.1) (n3:y.idxOf b.1≠y.idxOf c.1):My.jT a.2 b.2 c.2↔My.jT (y.idxOf a.1) (y.idxOf b.1) (y.idxOf c.1):=IZ n1 n2 n3 (h a ha b hb) (h b hb a ha) (h a ha c hc) (h c hc a ha) (h b hb c hc) (h c hc b hb)
theorem Sep.gr {y:List Nat} {ps:List (Nat×Nat)} (h:Sep y ps) (hn:y.Nodup) {a b c:Nat×Nat} (ha:a∈ps) (hb:b∈ps) (hc:c∈ps) (ya:a.1∈y) (yb:b.1∈y) (yc:c.1∈y) (n1:a.1≠b.1) (n2:a.1≠c.1) (n3:b.1≠c.1):decide (My.jT a.2 b.2 c.2)=My.gr y a.1 b.1 c.1:=by
 rw[gD hn ya yb yc n1 n2 n3]
 exact decide_eq_decide.mpr (h.jT ha hb hc (b9 ya yb n1) (b9 ya yc n2) (b9 yb yc n3))
theorem Sep.same {y:List Nat} {ps:List (Nat×Nat)} (h:Sep y ps) {a b c:Nat×Nat} (ha:a∈ps) (hb:b∈ps) (hc:c∈ps) (e:b.1=c.1) (n:y.idxOf a.1≠y.idxOf c.1):My.jT a.2 b.2 c.2↔b.2<c.2:=by
 have h1:=h a ha b hb
 have h2:=h b hb a ha
 have h3:=h a ha c hc
 have h4:=h c hc a ha
 rw[e]at h1 h2
 unfold My.jT
 lia
theorem Sep.KC {y:List Nat} {ps:List (Nat×Nat)} (h:Sep y ps) {a b c:Nat×Nat} (ha:a∈ps) (hb:b∈ps) (hc:c∈ps) (e:a.1=b.1) (n:y.idxOf a.1≠y.idxOf c.1):My.jT a.2 b.2 c.2↔a.2<b.2:=by
 have h1:=h b hb c hc
 have h2:=h c hc b hb
 have h3:=h a ha c hc
 have h4:=h c hc a ha
 rw[<-e]at h1 h2
 unfold My.jT
 lia
section
variable {y:List Nat} {f g:Int->Nat} {a b a' b':Nat}
theorem ML (hy:Yd y) (hf:iU y f) (hg:iU y g) (h:Sep y [(aB (f (-1)),a),(f 0,b),(aB (g (-1)),a'),(g 0,b')]) (hb:b≠b') (z0:f 0=g 0) (z1:f (-1)≠g (-1)):qZ a b a' b'=true↔decide (b<b')≠j6 y f g 0:=by
 have r1:=hf.red 0
 have r2:=hg.red 0
 rw[show (0:Int) - 1= -1 by lia]at r1 r2
 have ya:=hy.cl _ (hf.bP (-1))
 have Sx:=hy.cl _ (hg.bP (-1))
 have n1:aB (f (-1))≠aB (g (-1)):=fun z=>z1 (fg (hy.lt _ (hf.bP _)) (hy.lt _ (hg.bP _)) z)
 have e1:=h.gr hy.nd (a:=(aB (f (-1)),a)) (b:=(aB (g (-1)),a')) (c:=(f 0,b)) (by simp) (by simp) (by simp) ya Sx (hf.bP 0) n1 (Ne.symm r1) (by rw[z0];exact Ne.symm r2)
 walk_at"0"
 unfold qZ
 rw[Fj hy hf hg z0 z1]
 simp only at e1 e2
 rw[e1]
 generalize gr y (aB (f (-1))) (aB (g (-1))) (f 0)=G
 by_cases q:b<b'
 ·rw[decide_eq_true q,decide_eq_false (by rw[e2];lia)]
  cases G<;>simp
 ·rw[decide_eq_false q,decide_eq_true (by rw[e2];lia)]
  cases G<;>simp
theorem MM (hy:Yd y) (hf:iU y f) (hg:iU y g) (h:Sep y [(aB (f (-1)),a),(f 0,b),(aB (g (-1)),a'),(g 0,b')]) (ha:a≠a') (z1:f (-1)=g (-1)) (z0:f 0≠g 0):qZ a b a' b'=true↔decide (a'<a)≠jU y (eS f) (eS g) 0:=by
 have r1:=hf.red 0
 have r2:=hg.red 0
 rw[show (0:Int) - 1= -1 by lia]at r1 r2
 have ya:=hy.cl _ (hf.bP (-1))
 have Sx:=hy.cl _ (hg.bP (-1))
 walk_at"E"
 have e2:=h.gr hy.nd (a:=(aB (f (-1)),a)) (b:=(g 0,b')) (c:=(f 0,b)) (by simp) (by simp) (by simp) ya (hg.bP 0) (hf.bP 0) (by show aB _≠_;rw[z1];exact Ne.symm r2) (Ne.symm r1) (Ne.symm z0)
 have e3:jU y (eS f) (eS g) 0=gr y (aB (f (-1))) (f 0) (g 0):=Fl (f:=eS f) (g:=eS g) (a:=0) z1
 have e4:=Mx hy.nd ya (hf.bP 0) (hg.bP 0) (Ne.symm r1) (by rw[z1];exact Ne.symm r2) z0
 unfold qZ
 simp only at e1 e2
 rw[e3,e2,e4]
 generalize gr y (aB (f (-1))) (f 0) (g 0)=G
 by_cases q:a'<a
 ·rw[decide_eq_true q,decide_eq_false (by rw[e1];lia)]
  cases G<;>simp
 ·rw[decide_eq_false q,decide_eq_true (by rw[e1];lia)]
  cases G<;>simp
theorem uM (hy:Yd y) (hf:iU y f) (hg:iU y g) (h:Sep y [(aB (f (-1)),a),(f 0,b),(aB (g (-1)),a'),(g 0,b')]) (ha:a≠a') (hb:b≠b') (z1:f (-1)=g (-1)) (z0:f 0=g 0):qZ a b a' b'=true↔decide (a'<a)≠decide (b<b'):=by
 have r1:=hf.red 0
 rw[show (0:Int) - 1= -1 by lia]at r1
 have ya:=hy.cl _ (hf.bP (-1))
 walk_at"E"
 walk_at"0"
 unfold qZ
 simp only at e1 e2
 rw[decide_eq_decide.mpr e1,decide_eq_decide.mpr e2]
 by_cases q:a'<a<;>by_cases q2:b<b'
 ·rw[decide_eq_true q,decide_eq_true q2,decide_eq_false (show ¬a<a' by lia),decide_eq_false (show ¬b'<b by lia)];simp
 ·rw[decide_eq_true q,decide_eq_false q2,decide_eq_false (show ¬a<a' by lia),decide_eq_true (show b'<b by lia)];simp
 ·rw[decide_eq_false q,decide_eq_true q2,decide_eq_true (show a<a' by lia),decide_eq_false (show ¬b'<b by lia)];simp
 ·rw[decide_eq_false q,decide_eq_false q2,decide_eq_true (show a<a' by lia),decide_eq_true (show b'<b by lia)];simp
theorem MN (hy:Yd y) (hf:iU y f) (hg:iU y g) (h:Sep y [(aB (f (-1)),a),(f 0,b),(aB (g (-1)),a'),(g 0,b')]) (z0:f 0≠g 0) (z1:f (-1)≠g (-1)) (z2:aB (f (-1))≠g 0) (z3:aB (g (-1))≠f 0):qZ a b a' b'=ac y (aB (f (-1))) (f 0) (aB (g (-1))) (g 0):=by
 have r1:=hf.red 0
 have r2:=hg.red 0
 rw[show (0:Int) - 1= -1 by lia]at r1 r2
 have ya:=hy.cl _ (hf.bP (-1))
 have Sx:=hy.cl _ (hg.bP (-1))
 have n1:aB (f (-1))≠aB (g (-1)):=fun z=>z1 (fg (hy.lt _ (hf.bP _)) (hy.lt _ (hg.bP _)) z)
 have e1:=h.gr hy.nd (a:=(aB (f (-1)),a)) (b:=(aB (g (-1)),a')) (c:=(f 0,b)) (by simp) (by simp) (by simp) ya Sx (hf.bP 0) n1 (Ne.symm r1) z3
 have e2:=h.gr hy.nd (a:=(aB (f (-1)),a)) (b:=(g 0,b')) (c:=(f 0,b)) (by simp) (by simp) (by simp) ya (hg.bP 0) (hf.bP 0) z2 (Ne.symm r1) (Ne.symm z0)
 unfold qZ ac
 simp only at e1 e2
 rw[e1,e2,if_neg (fun q=>q.elim (fun q=>n1 q.symm) fun q=>q.elim z3 fun q=>q.elim (fun q=>z2 q.symm) fun q=>z0 q.symm)]
end
noncomputable def sm:Nat->(Int->Int)->Int
 | 0,_=>0
 | n+1,h=>sm n h+h n
theorem aQ {h g:Int->Int}: ∀{n:Nat},(∀i:Nat,i<n->h i=g i)->sm n h=sm n g
 | 0,_=>rfl
 | n+1,e=>by
  show sm n h+h n=sm n g+g n
  rw[aQ fun i hi=>e i (by lia),e n (by lia)]
theorem mC (h g:Int->Int): ∀n:Nat,sm n (fun i=>h i+g i)=sm n h+sm n g
 | 0=>rfl
 | n+1=>by
  show sm n _+(h n+g n)=(sm n h+h n)+(sm n g+g n)
  rw[mC h g n];lia
theorem zo (h g:Int->Int): ∀n:Nat,sm n (fun i=>h i - g i)=sm n h - sm n g
 | 0=>rfl
 | n+1=>by
  show sm n _+(h n - g n)=(sm n h+h n) - (sm n g+g n)
  rw[zo h g n];lia
theorem dk: ∀n:Nat,sm n (fun _=>0)=0
 | 0=>rfl
 | n+1=>by show sm n _+0=0;rw[dk n];rfl
theorem A6 (h:Int->Int): ∀n:Nat,sm n (fun i=>h (i - 1))+h ((n:Int) - 1)=sm n h+h (-1)
 | 0=>rfl
 | n+1=>by
  have:=A6 h n
  show sm n _+h ((n:Int) - 1)+h (((n+1:Nat):Int) - 1)=(sm n h+h n)+h (-1)
  rw[show ((n+1:Nat):Int) - 1=n by lia]
  lia
theorem pU {h:Int->Int} {n:Nat} (P: ∀k,h (k+n)=h k):sm n (fun i=>h (i - 1))=sm n h:=by
 have h1:=A6 h n
 have h2:=P (-1)
 rw[show (-1:Int)+n=(n:Int) - 1 by lia]at h2
 lia
theorem A7 (h:Int->Int): ∀n:Nat,sm n (fun i=>h ((n:Int) - 1 - i))=sm n h
 | 0=>rfl
 | n+1=>by
  have e: ∀(m:Nat) (g:Int->Int),sm (m+1) g=g 0+sm m (fun i=>g (i+1)):=fun m=>by
   induction m with
   | zero=>intro g;show (0:Int)+g 0=g 0+0;lia
   | succ m ih=>intro g;show sm (m+1) g+g ((m+1:Nat):Int)=g 0+(sm m (fun i=>g (i+1))+g ((m:Int)+1));rw[ih];rw[show ((m+1:Nat):Int)=(m:Int)+1 by lia];lia
  rw[e]
  have:=A7 h n
  show h (((n+1:Nat):Int) - 1 - 0)+sm n (fun i=>h (((n+1:Nat):Int) - 1 - (i+1)))=sm n h+h n
  rw[show ((n+1:Nat):Int) - 1 - 0=n by lia, <-this,Int.add_comm]
  congr 1
  exact aQ fun i _=>by congr 1;lia
theorem A8 {h:Int->Int} {n:Nat} (P: ∀k,h (k+n)=h k):sm n (fun i=>h (i+1))=sm n h:=by
 have:=pU (h:=fun i=>h (i+1)) (n:=n) (fun k=>by show h (k+n+1)=h (k+1);rw[<-P (k+1)];congr 1;lia)
 rw[<-this]
 exact aQ fun i _=>by show h ((i:Int) - 1+1)=h i;congr 1;lia
theorem Fo {h:Int->Int} {n:Nat} (P: ∀k,h (k+n)=h k):sm n (fun i=>h (-i))=sm n h:=by
 rw[<-A7 (fun i=>h (-i)) n, <-A8 P]
 exact aQ fun i _=>by
  show h (-((n:Int) - 1 - i))=h (i+1)
  rw[<-P (-((n:Int) - 1 - i))];congr 1;lia
theorem MO {h:Int->Int} {n:Nat} (P: ∀k,h (k+n)=h k):sm n (fun i=>h (1 - i))=sm n h:=by
 rw[<-A8 P, <-Fo (h:=fun i=>h (i+1)) (fun k=>by show h (k+n+1)=h (k+1);rw[<-P (k+1)];congr 1;lia)]
 exact aQ fun i _=>by show h (1 - (i:Int))=h (-(i:Int)+1);congr 1;lia
noncomputable def bV (n m:Nat) (h:Int->Int->Int):Int:=sm n fun i=>sm m fun j=>h i j
theorem cf {n m:Nat} {h g:Int->Int->Int} (e: ∀i j:Nat,i<n->j<m->h i j=g i j):bV n m h=bV n m g:=aQ fun i hi=>aQ fun j hj=>e i j hi hj
theorem dm (n m:Nat) (h g:Int->Int->Int):bV n m (fun i j=>h i j+g i j)=bV n m h+bV n m g:=by
 unfold bV
 rw[<-mC]
 exact aQ fun i _=>mC _ _ _
theorem I_ (n m:Nat) (h g:Int->Int->Int):bV n m (fun i j=>h i j - g i j)=bV n m h - bV n m g:=by
 unfold bV
 rw[<-zo]
 exact aQ fun i _=>zo _ _ _
theorem C1 {n m:Nat} {h:Int->Int->Int} (P: ∀i j,h (i+n) j=h i j) (Q: ∀i j,h i (j+m)=h i j):bV n m (fun i j=>h (i - 1) (j - 1))=bV n m h:=by
 unfold bV
 have e: ∀i:Int,sm m (fun j=>h i (j - 1))=sm m (h i):=fun i=>pU (Q i)
 rw[<-pU (h:=fun i=>sm m fun j=>h i j) (n:=n) (fun k=>aQ fun j _=>P k j)]
 exact aQ fun i _=>e _
structure Og (y:List Nat) (n:Nat) (F:Int->Int->Nat) (o i:Int->Nat):Prop where
 pos:0<n
 zp: ∀k,iU y (F k)
 bk: ∀k,eS (F k)=F (k - 1)
 MG: ∀k,F (k+n)=F k
 own: ∀k x,F k (x+n)=F k x
 op: ∀k,o (k+n)=o k
 ip: ∀k,i (k+n)=i k
structure KD (y:List Nat) (F:Int->Int->Nat) (o i:Int->Nat) (G:Int->Int->Nat) (o' i':Int->Nat):Prop where
 sep: ∀s t,Sep y [(aB (F s (-1)),i (s - 1)),(F s 0,o s),(aB (G t (-1)),i' (t - 1)),(G t 0,o' t)]
 on: ∀s t a b,Run (F s) (G t) a b->o s≠o' t/\i s≠i' t/\decide (o s<o' t)=zl y (F s) (G t) a b/\decide (i' t<i s)=zl y (F s) (G t) a b
def DJ (F G:Int->Int->Nat) (s t:Int):Prop:=F s 0=G t 0\/F s (-1)=G t (-1)
def par (F G:Int->Int->Nat) (s t:Int):Prop:= ∀k,F s k=G t k
noncomputable def Hc (o i o' i':Int->Nat) (s t:Int):Bool:=qZ (i (s - 1)) (o s) (i' (t - 1)) (o' t)
theorem Fp {y:List Nat} {n m:Nat} {F G:Int->Int->Nat} {o i o' i':Int->Nat} (hF:Og y n F o i) (hG:Og y m G o' i') {s t:Int}:par F G (s - 1) (t - 1)↔par F G s t:=by
 unfold par
 rw[<-hF.bk, <-hG.bk]
 unfold eS
 exact ⟨fun h k=>by have:=h (k+1);rwa [show k+1 - 1=k by lia]at this,fun h k=>h _⟩
theorem A9 {y:List Nat} {n m:Nat} {F G:Int->Int->Nat} {o i o' i':Int->Nat} (hy:Yd y) (hF:Og y n F o i) (hG:Og y m G o' i') (h:KD y F o i G o' i'):
  bV n m (fun s t=>one (DJ F G s t/\Hc o i o' i' s t=true/\ ¬par F G s t))=bV n m fun s t=>one (xW y (F s) (G t)):=by
 have pt: ∀s t:Int,one (DJ F G s t/\Hc o i o' i' s t=true/\ ¬par F G s t)=one (xW y (F s) (G t))+one (uB y (F (s - 1)) (G (t - 1))) - one (uB y (F s) (G t)):=fun s t=>by
  by_cases hp:par F G s t
  ·have nr: ∀{a b}, ¬Run (F s) (G t) a b:=fun r=>r.hi (hp _)
   have xS:=(Fp hF hG).mpr hp
   have Yv: ∀{a b}, ¬Run (F (s - 1)) (G (t - 1)) a b:=fun r=>r.hi (xS _)
   rw[bj (fun z=>z.2.2 hp),bj (fun ⟨_,r,_⟩=>nr r),bj (fun ⟨_,_,r,_⟩=>Yv r),bj (fun ⟨_,_,r,_⟩=>nr r)]
   rfl
  ·by_cases ht:DJ F G s t
   ·have di: ∃k,F s k≠G t k:=Classical.byContradiction fun z=>hp fun k=>Classical.byContradiction fun q=>z ⟨k,q⟩
    have MP: ∃k,F (s - 1) k≠G (t - 1) k:=Classical.byContradiction fun z=>hp ((Fp hF hG).mp fun k=>Classical.byContradiction fun q=>z ⟨k,q⟩)
    have e1: ∀s,F (s - 1) 0=F s (-1):=fun s=>by rw[<-hF.bk];rfl
    have e2: ∀t,G (t - 1) 0=G t (-1):=fun s=>by rw[<-hG.bk];rfl
    have ei:one (DJ F G s t/\Hc o i o' i' s t=true/\ ¬par F G s t)=one (Hc o i o' i' s t=true):=bH ⟨fun z=>z.2.1,fun z=>⟨ht,z,hp⟩⟩
    rw[ei, <-hF.bk, <-hG.bk]
    refine Fh (e0:=decide (o s<o' t)) (e1:=decide (i' (t - 1)<i (s - 1))) (fun z=>?_) (fun z=>?_) (fun a b r=>(h.on s t a b r).2.2.1) (fun a b r=>?_) (fun z0 z1=>?_) (fun z1 z0=>?_) (fun z1 z0=>?_) ht
    ·obtain ⟨a,b,r,_⟩:=dB hF.pos hG.pos (hF.own s) (hG.own t) z di
     exact ⟨a,b,r⟩
    ·obtain ⟨a,b,r,_⟩:=dB hF.pos hG.pos (hF.own (s - 1)) (hG.own (t - 1)) (by rw[e1,e2];exact z) MP
     rw[hF.bk,hG.bk]
     exact ⟨a,b,r⟩
    ·rw[hF.bk,hG.bk]at r ⊢
     exact (h.on _ _ a b r).2.2.2
    ·obtain ⟨a,b,r,_⟩:=dB hF.pos hG.pos (hF.own s) (hG.own t) z0 di
     exact ML hy (hF.zp s) (hG.zp t) (h.sep s t) (h.on s t a b r).1 z0 z1
    ·obtain ⟨a,b,r,_⟩:=dB hF.pos hG.pos (hF.own (s - 1)) (hG.own (t - 1)) (by rw[e1,e2];exact z1) MP
     exact MM hy (hF.zp s) (hG.zp t) (h.sep s t) (h.on _ _ a b r).2.1 z1 z0
    ·obtain ⟨a,b,r,_⟩:=dB hF.pos hG.pos (hF.own s) (hG.own t) z0 di
     obtain ⟨a2,b2,r2,_⟩:=dB hF.pos hG.pos (hF.own (s - 1)) (hG.own (t - 1)) (by rw[e1,e2];exact z1) MP
     exact uM hy (hF.zp s) (hG.zp t) (h.sep s t) (h.on _ _ a2 b2 r2).2.1 (h.on s t a b r).1 z1 z0
   ·have t0:F s 0≠G t 0:=fun z=>ht (.inl z)
    have t1:F (s - 1) 0≠G (t - 1) 0:=by
     rw[<-hF.bk, <-hG.bk]
     exact fun z=>ht (.inr z)
    rw[bj (fun z=>ht z.1),bj (fun ⟨_,r,_⟩=>t0 r.zero),bj (fun ⟨_,_,r,_⟩=>t1 r.zero),bj (fun ⟨_,_,r,_⟩=>t0 r.zero)]
    rfl
 have e:bV n m (fun s t=>one (DJ F G s t/\Hc o i o' i' s t=true/\ ¬par F G s t))=bV n m (fun s t=>(one (xW y (F s) (G t))+one (uB y (F (s - 1)) (G (t - 1)))) - one (uB y (F s) (G t))):=cf fun s t _ _=>pt s t
 rw[e,I_,dm,C1 (h:=fun s t=>one (uB y (F s) (G t))) (fun s t=>by rw[hF.MG]) (fun s t=>by rw[hG.MG])]
 lia
theorem bz {y w:List Nat} (h:SW y w) (i:Int):iU y (sq w i):=⟨fun k=>h.rd _,fun k=>by
 unfold sq
 have:=h.red (i+k)
 rwa [show i+k - 1=i+(k - 1) by lia]at this⟩
theorem fu (w:List Nat) (i:Int):jJ (sq w i)=bq w i:=by
 funext k
 unfold jJ sq bq
 rw[show i+ -k=i - k by lia]
theorem mD {y w:List Nat} (hy:Yd y) (h:SW y w) (i:Int):iU y (bq w i):=by rw[<-fu];exact (bz h i).rv hy
theorem zq (w:List Nat) (i:Int):sq w (i+w.length)=sq w i:=by
 funext k
 unfold sq
 rw[show i+(w.length:Int)+k=i+k+w.length by lia,iw]
theorem zr (w:List Nat) (i:Int):bq w (i+w.length)=bq w i:=by rw[<-fu, <-fu,zq]
theorem zt {y w:List Nat} {po pi:Int->Nat} (h:SW y w) (P: ∀k,po (k+w.length)=po k) (Q: ∀k,pi (k+w.length)=pi k):Og y w.length (sq w) po pi:=
 ⟨V9.mpr h.ne,bz h,fun k=>by funext x;unfold eS sq;congr 1;lia,zq w,fun k x=>cN w k x,P,Q⟩
theorem A_ {n:Nat} {h:Int->Nat} (P: ∀k,h (k+n)=h k) (k:Int):h (-(k+n))=h (-k):=by rw[<-P (-(k+n))];congr 1;lia
theorem MQ {y w:List Nat} {po pi:Int->Nat} (hy:Yd y) (h:SW y w) (P: ∀k,po (k+w.length)=po k) (Q: ∀k,pi (k+w.length)=pi k):Og y w.length (fun k=>bq w (-k)) (fun k=>pi (-k)) (fun k=>po (-k)):=
 ⟨V9.mpr h.ne,fun k=>mD hy h _,fun k=>by funext x;unfold eS bq;congr 2;lia,fun k=>by
  show bq w (-(k+w.length))=bq w (-k)
  rw[<-zr w (-(k+w.length))];congr 1;lia,fun k x=>mq w _ x,A_ Q,A_ P⟩
section
variable {y w v:List Nat} {po pi qo qi:Int->Nat}
noncomputable def gZ (po pi qo qi:Int->Nat) (i j:Int):Bool:=qZ (pi (i - 1)) (po i) (qi (j - 1)) (qo j)
def cA (w v:List Nat) (i j:Int):Prop:= ∀k,sq w i k=sq v j k
def jk (w v:List Nat) (i j:Int):Prop:= ∀k,sq w i k=bq v (j - 1) k
def Oh (w v:List Nat) (i j:Int):Prop:=rd w i=rd v j\/rd w (i - 1)=rd v (j - 1)
def zu (w v:List Nat) (i j:Int):Prop:=rd w i=aB (rd v (j - 1))\/rd w (i - 1)=aB (rd v j)
theorem Ja (w v:List Nat) (i j:Int):DJ (sq w) (sq v) i j↔Oh w v i j:=by
 unfold DJ Oh sq
 rw[show i+0=i by lia,show j+0=j by lia]
 rfl
theorem Jb (w v:List Nat) (i k:Int):DJ (sq w) (fun k=>bq v (-k)) i k↔zu w v i (1 - k):=by
 unfold DJ zu sq bq
 show rd w (i+0)=aB (rd v (-k - 0))\/rd w (i+ -1)=aB (rd v (-k - -1))↔_
 rw[show i+0=i by lia,show -k - 0=1 - k - 1 by lia,show -k - -1=1 - k by lia]
 rfl
theorem U1 (hy:Yd y) (hw:SW y w) (hv:SW y v) {i j:Int} (h:Oh w v i j) (g:zu w v i j):False:=by
 have BQ:=hw.red i
 have WB:=hv.red j
 have l1:=hy.lt _ (hw.rd (i - 1))
 have l2:=hy.lt _ (hv.rd (j - 1))
 have l3:=hy.lt _ (hv.rd j)
 rcases h with h | h<;>rcases g with g | g
 ·exact WB (h.symm.trans g)
 ·rw[<-h]at g;exact BQ (by rw[g,aM (hy.lt _ (hw.rd i))])
 ·rw[<-h]at g;exact BQ g
 ·rw[h]at g;exact WB (by rw[g,aM l3])
theorem Jc (hy:Yd y) (hw:SW y w) (hv:SW y v):bV w.length v.length (fun s t=>one (xW y (sq w s) (sq v t)))=bV w.length v.length (fun i j=>one (0<al y (sq w i) (sq v j) (w.length+v.length))):=cf fun i j _ _=>bH (xc hy (bz hw _) (bz hv _) fun z=>gW hw.ne hv.ne (fun k=>cN w i k) (fun k=>cN v j k) z)
theorem Jd (hy:Yd y) (hw:SW y w) (hv:SW y v):bV w.length v.length (fun s t=>one (xW y (sq w s) (bq v (-t))))=bV w.length v.length (fun i j=>one (0<al y (sq w i) (bq v j) (w.length+v.length))):=by
 have:bV w.length v.length (fun s t=>one (xW y (sq w s) (bq v (-t))))=bV w.length v.length (fun s t=>one (xW y (sq w s) (bq v t))):=aQ fun i _=>Fo (h:=fun t=>one (xW y (sq w i) (bq v t))) fun k=>by rw[zr]
 rw[this]
 exact cf fun i j _ _=>bH (xc hy (bz hw _) (mD hy hv _) fun z=>gW hw.ne hv.ne (fun k=>cN w i k) (fun k=>mq v j k) z)
theorem Je (Q1: ∀k,qo (k+v.length)=qo k) (Q2: ∀k,qi (k+v.length)=qi k):bV w.length v.length (fun s t=>one (DJ (sq w) (fun k=>bq v (-k)) s t/\Hc po pi (fun k=>qi (-k)) (fun k=>qo (-k)) s t=true/\ ¬par (sq w) (fun k=>bq v (-k)) s t))=bV w.length v.length (fun i j=>one (zu w v i j/\gZ po pi qo qi i j=true/\ ¬jk w v i j)):=by
 have P: ∀i:Int, ∀k:Int,(fun j=>one (zu w v i j/\gZ po pi qo qi i j=true/\ ¬jk w v i j)) (k+v.length)=(fun j=>one (zu w v i j/\gZ po pi qo qi i j=true/\ ¬jk w v i j)) k:=fun i k=>by
  show one (zu w v i (k+v.length)/\gZ po pi qo qi i (k+v.length)=true/\ ¬jk w v i (k+v.length))=_
  unfold zu gZ jk
  rw[show k+(v.length:Int) - 1=k - 1+v.length by lia,iw,iw,Q1,Q2,zr]
 refine aQ fun i _=>(aQ fun k _=>?_).trans (MO (P i))
 refine bH ?_
 rw[Jb]
 have ec:Hc po pi (fun k=>qi (-k)) (fun k=>qo (-k)) i k=gZ po pi qo qi i (1 - k):=by
  unfold Hc gZ
  rw[xf]
  show qZ (pi ((i:Int) - 1)) (po i) (qi (-(k:Int))) (qo (-((k:Int) - 1)))=_
  rw[show -((k:Int) - 1)=1 - k by lia,show (1:Int) - k - 1= -k by lia]
 have ep:par (sq w) (fun k=>bq v (-k)) i k↔jk w v i (1 - k):=by
  unfold par jk
  rw[show (1:Int) - k - 1= -k by lia]
 rw[ec,ep]
theorem zw (hy:Yd y) (hw:SW y w) (hv:SW y v) (sep: ∀s t,Sep y [(aB (sq w s (-1)),pi (s - 1)),(sq w s 0,po s),(aB (sq v t (-1)),qi (t - 1)),(sq v t 0,qo t)]):
  bV w.length v.length (fun i j=>one (gZ po pi qo qi i j=true))=
   bV w.length v.length (fun i j=>one (ac y (aB (rd w (i - 1))) (rd w i) (aB (rd v (j - 1))) (rd v j)=true))+bV w.length v.length (fun i j=>one (DJ (sq w) (sq v) i j/\Hc po pi qo qi i j=true/\ ¬par (sq w) (sq v) i j))+bV w.length v.length (fun i j=>one (zu w v i j/\gZ po pi qo qi i j=true/\ ¬jk w v i j))
   +bV w.length v.length (fun i j=>one (cA w v i j/\gZ po pi qo qi i j=true))+bV w.length v.length (fun i j=>one (jk w v i j/\gZ po pi qo qi i j=true)):=by
 rw[<-dm, <-dm, <-dm, <-dm]
 refine cf fun i j _ _=>?_
 have hc:Hc po pi qo qi i j=gZ po pi qo qi i j:=rfl
 have et:=Ja w v i j
 have pS:cA w v i j->Oh w v i j:=fun z=> .inl (by have:=z 0;unfold sq at this;rwa [show (i:Int)+0=i by lia,show (j:Int)+0=j by lia]at this)
 have pO:jk w v i j->zu w v i j:=fun z=> .inl (by have:=z 0;unfold sq bq at this;rwa [show (i:Int)+0=i by lia,show (j:Int) - 1 - 0=j - 1 by lia]at this)
 have Yw:Oh w v i j-> ¬ac y (aB (rd w (i - 1))) (rd w i) (aB (rd v (j - 1))) (rd v j)=true:=fun z=>by
  unfold ac
  rw[if_pos (z.elim (fun z=> .inr (.inr (.inr z.symm))) fun z=> .inl (by rw[z]))]
  decide
 have Yx:zu w v i j-> ¬ac y (aB (rd w (i - 1))) (rd w i) (aB (rd v (j - 1))) (rd v j)=true:=fun z=>by
  unfold ac
  rw[if_pos (z.elim (fun z=> .inr (.inl z.symm)) fun z=> .inr (.inr (.inl (by rw[z,aM (hy.lt _ (hv.rd _))]))))]
  decide
 have ep:par (sq w) (sq v) i j↔cA w v i j:=Iff.rfl
 by_cases tS:Oh w v i j
 ·have nO: ¬zu w v i j:=fun z=>U1 hy hw hv tS z
  rw[bj (Yw tS),bj (p:=zu w v i j/\_) (fun z=>nO z.1),bj (p:=jk w v i j/\_) (fun z=>nO (pO z.1))]
  by_cases c:gZ po pi qo qi i j=true
  ·by_cases q:cA w v i j
   ·rw[gs c,bj (fun z=>z.2.2 q),gs ⟨q,c⟩];rfl
   ·rw[gs c,gs ⟨et.mpr tS,c,q⟩,bj (fun z=>q z.1)];rfl
  ·rw[bj c,bj (fun z=>c z.2.1),bj (fun z=>c z.2)];rfl
 ·rw[bj (p:=DJ _ _ _ _/\_) (fun z=>tS (et.mp z.1)),bj (p:=cA w v i j/\_) (fun z=>tS (pS z.1))]
  by_cases tO:zu w v i j
  ·rw[bj (Yx tO)]
   by_cases c:gZ po pi qo qi i j=true
   ·by_cases q:jk w v i j
    ·rw[gs c,bj (fun z=>z.2.2 q),gs ⟨q,c⟩];rfl
    ·rw[gs c,gs ⟨tO,c,q⟩,bj (fun z=>q z.1)];rfl
   ·rw[bj c,bj (fun z=>c z.2.1),bj (fun z=>c z.2)];rfl
  ·rw[bj (p:=zu w v i j/\_) (fun z=>tO z.1),bj (p:=jk w v i j/\_) (fun z=>tO (pO z.1))]
   have l2:=hy.lt _ (hv.rd (j - 1))
   have l3:=hy.lt _ (hv.rd j)
   have l1:=hy.lt _ (hw.rd (i - 1))
   have f0: ∀(u:List Nat) (i:Int),sq u i 0=rd u i:=fun u i=>by unfold sq;rw[show i+0=i by lia]
   have f1: ∀(u:List Nat) (i:Int),sq u i (-1)=rd u (i - 1):=fun u i=>rfl
   have e:=MN hy (bz hw i) (bz hv j) (sep i j) (fun z=>tS (.inl (by rw[f0,f0]at z;exact z))) (fun z=>tS (.inr z)) (fun z=>tO (.inr (by rw[f0,f1]at z;rw[<-z,aM l1]))) (fun z=>tO (.inl (by rw[f0,f1]at z;exact z.symm)))
   rw[f0,f0,f1,f1]at e
   have e':gZ po pi qo qi i j=ac y (aB (rd w (i - 1))) (rd w i) (aB (rd v (j - 1))) (rd v j):=e
   rw[e']
   lia
theorem xh (hy:Yd y) (hw:SW y w) (hv:SW y v) (P1: ∀k,po (k+w.length)=po k) (P2: ∀k,pi (k+w.length)=pi k) (Q1: ∀k,qo (k+v.length)=qo k) (Q2: ∀k,qi (k+v.length)=qi k)
  (hS:KD y (sq w) po pi (sq v) qo qi) (hO:KD y (sq w) po pi (fun k=>bq v (-k)) (fun k=>qi (-k)) (fun k=>qo (-k))):
  bV w.length v.length (fun i j=>one (gZ po pi qo qi i j=true))=
   bV w.length v.length (fun i j=>one (ac y (aB (rd w (i - 1))) (rd w i) (aB (rd v (j - 1))) (rd v j)=true))+bV w.length v.length (fun i j=>one (0<al y (sq w i) (sq v j) (w.length+v.length)))+bV w.length v.length (fun i j=>one (0<al y (sq w i) (bq v j) (w.length+v.length)))
   +bV w.length v.length (fun i j=>one (cA w v i j/\gZ po pi qo qi i j=true))+bV w.length v.length (fun i j=>one (jk w v i j/\gZ po pi qo qi i j=true)):=by
 have s1:=A9 hy (zt hw P1 P2) (zt hv Q1 Q2) hS
 have s2:=A9 hy (zt hw P1 P2) (MQ hy hv Q1 Q2) hO
 rw[Jc hy hw hv]at s1
 rw[Jd hy hw hv,Je Q1 Q2]at s2
 rw[zw hy hw hv hS.sep,s1,s2]
theorem Jf (hy:Yd y) (hw:SW y w) (hv:SW y v) (hS:KD y (sq w) po pi (sq v) qo qi) (D:Bool)
  (h: ∀i j,cA w v i j->po i≠qo j/\pi i≠qi j/\decide (po i<qo j)=D/\decide (qi j<pi i)=D):bV w.length v.length (fun i j=>one (cA w v i j/\gZ po pi qo qi i j=true))=0:=by
 have: ∀i j:Int, ¬(cA w v i j/\gZ po pi qo qi i j=true):=fun i j ⟨p,c⟩=>by
  have p1:cA w v (i - 1) (j - 1):=fun k=>by
   have:=p (k - 1)
   unfold sq at this ⊢
   rw[show i - 1+k=i+(k - 1) by lia,show j - 1+k=j+(k - 1) by lia]
   exact this
  have h0:=h i j p
  have h1:=h _ _ p1
  have:=(uM hy (bz hw i) (bz hv j) (hS.sep i j) h1.2.1 h0.1 (p (-1)) (p 0)).mp c
  exact this (h1.2.2.2.trans h0.2.2.1.symm)
 walk_at"T"
 exact cf fun i j _ _=>bj (this i j)
theorem Jg (hy:Yd y) (hw:SW y w) (hv:SW y v) (hO:KD y (sq w) po pi (fun k=>bq v (-k)) (fun k=>qi (-k)) (fun k=>qo (-k))) (D:Bool)
  (h: ∀i j,(∀k,sq w i k=bq v j k)->po i≠qi j/\pi i≠qo j/\decide (po i<qi j)=D/\decide (qo j<pi i)=D):bV w.length v.length (fun i j=>one (jk w v i j/\gZ po pi qo qi i j=true))=0:=by
 have: ∀i j:Int, ¬(jk w v i j/\gZ po pi qo qi i j=true):=fun i j ⟨p,c⟩=>by
  have p1: ∀k,sq w (i - 1) k=bq v j k:=fun k=>by
   have:=p (k - 1)
   unfold sq bq at this ⊢
   rw[show i - 1+k=i+(k - 1) by lia,this]
   congr 2;lia
  have h0:=h i (j - 1) p
  have h1:=h _ _ p1
  have s:=hO.sep i (1 - j)
  simp only[show -(1 - j)=j - 1 by lia,show -(1 - j - 1)=j by lia]at s
  unfold gZ at c
  rw[xf]at c
  have:=(uM hy (bz hw i) (mD hy hv (j - 1)) s h1.2.1 h0.1 (p (-1)) (p 0)).mp c
  exact this (h1.2.2.2.trans h0.2.2.1.symm)
 walk_at"T"
 exact cf fun i j _ _=>bj (this i j)
theorem uN (hy:Yd y) (hw:SW y w) (i j:Int): ¬ ∀k,sq w i k=bq w j k:=fun h=>by
 unfold sq bq at h
 rcases (show (j - i)%2=0\/(j - i)%2=1 by lia) with z | z
 ·have:=h ((j - i) / 2)
  rw[show i+(j - i) / 2=j - (j - i) / 2 by lia]at this
  exact ig (hy.lt _ (hw.rd _)) this.symm
 ·have:=h ((j - i) / 2+1)
  rw[show j - ((j - i) / 2+1)=i+((j - i) / 2+1) - 1 by lia]at this
  exact hw.red _ this
theorem xi (h:Int->Int) (n:Nat): ∀m:Nat,sm (n+m) h=sm n h+sm m (fun i=>h (n+i))
 | 0=>by show sm n h=sm n h+0;lia
 | m+1=>by
  show sm (n+m) h+h ((n+m:Nat):Int)=sm n h+(sm m (fun i=>h (n+i))+h (n+m))
  rw[xi h n m,show ((n+m:Nat):Int)=(n:Int)+m by lia]
  lia
theorem jl {h:Int->Int}: ∀{s:Nat},0<s->(∀i:Nat,0<i->i<s->h i=0)->sm s h=h 0
 | 0,h0,_=>absurd h0 (Qbd _)
 | 1,_,_=>by show (0:Int)+h 0=h 0;lia
 | s+2,_,g=>by
  show sm (s+1) h+h ((s+1:Nat):Int)=h 0
  rw[jl (s:=s+1) (by lia) (fun i h1 h2=>g i h1 (by lia)),g (s+1) (by lia) (by lia)]
  lia
theorem Ba {h:Int->Int} {s:Nat} (hs:0<s) (g: ∀i:Nat,h i=if i%s=0 then 1 else 0): ∀k:Nat,sm (k*s) h=k
 | 0=>by rw[Nat.zero_mul];rfl
 | k+1=>by
  rw[Qd6,xi,Ba hs g k,jl hs]
  ·have:=g (k*s)
   rw[if_pos (Nat.mul_mod_left k s)]at this
   show (k:Int)+h (((k*s:Nat):Int)+0)=((k+1:Nat):Int)
   rw[Qc9,this]
   lia
  ·intro i h1 h2
   have:=g (k*s+i)
   rw[if_neg (by rw[Qb6,Nat.mul_add_mod,Qcb h2];lia)]at this
   rw[<-this]
   congr 1
theorem Fq (hy:Yd y) (hw:SW y w) (hS:KD y (sq w) po pi (sq w) po pi) {s k:Nat} (hs:0<s) (hn:w.length=k*s) (hk:0<k) (hr: ∀j:Nat,j<w.length->(cA w w 0 j↔j%s=0))
  (h: ∀i j:Int,cA w w i j->i%w.length≠j%w.length->po i≠po j/\pi i≠pi j/\decide (po i<po j)=decide (i%w.length<j%w.length)/\decide (pi j<pi i)=decide (i%w.length<j%w.length)):
  bV w.length w.length (fun i j=>one (cA w w i j/\gZ po pi po pi i j=true))=2*((k:Int) - 1):=by
 have pt: ∀i j:Nat,i<w.length->j<w.length->one (cA w w i j/\gZ po pi po pi i j=true)=(if i=0 then one (j≠0/\cA w w 0 j) else 0)+(if j=0 then one (i≠0/\cA w w 0 i) else 0):=fun i j hi hj=>by
  have sym:cA w w 0 i↔cA w w i 0:=⟨fun q k=>(q k).symm,fun q k=>(q k).symm⟩
  by_cases e:i=j
  ·subst e
   rw[bj (fun q=>by have:=q.2;unfold gZ at this;rw[xg]at this;cases this)]
   by_cases z:i=0
   ·rw[if_pos z,bj (fun q=>q.1 z)];rfl
   ·rw[if_neg z];rfl
  ·have key:cA w w i j->(gZ po pi po pi i j=true↔(i=0\/j=0)):=fun p=>by
    have p1:cA w w ((i:Int) - 1) ((j:Int) - 1):=fun k=>by
     have:=p (k - 1)
     unfold sq at this ⊢
     rw[show (i:Int) - 1+k=i+(k - 1) by lia,show (j:Int) - 1+k=j+(k - 1) by lia]
     exact this
    have m0: ∀i:Nat,i<w.length->(i:Int)%w.length=i:=fun i hi=>Qas (by lia) (by lia)
    have m1: ∀i:Nat,i<w.length->((i:Int) - 1)%w.length=if i=0 then (w.length:Int) - 1 else i - 1:=fun i hi=>by
     split
     ·rename_i z
      rw[<-Qc0,Qas (by lia) (by lia)];lia
     ·exact Qas (by lia) (by lia)
    have h0:=h i j p (by rw[m0 i hi,m0 j hj];lia)
    have h1:=h _ _ p1 (by rw[m1 i hi,m1 j hj];split<;>split<;>lia)
    have c:=uM hy (bz hw i) (bz hw j) (hS.sep i j) h1.2.1 h0.1 (p (-1)) (p 0)
    rw[h0.2.2.1,h1.2.2.2,m0 i hi,m0 j hj,m1 i hi,m1 j hj]at c
    have c':gZ po pi po pi i j=true↔_:=c
    rw[c',Ne,decide_eq_decide]
    split<;>split<;>lia
   by_cases z:i=0
   ·have j0:j≠0:=fun q=>e (z.trans q.symm)
    rw[if_pos z,if_neg j0]
    rw[z]at key ⊢
    have:one (cA w w ((0:Nat):Int) j/\gZ po pi po pi ((0:Nat):Int) j=true)=one (j≠0/\cA w w 0 j):=bH ⟨fun q=>⟨j0,q.1⟩,fun q=>⟨q.2,(key q.2).mpr (.inl rfl)⟩⟩
    rw[this];lia
   ·rw[if_neg z]
    by_cases j0:j=0
    ·rw[if_pos j0]
     rw[j0]at key ⊢
     have:one (cA w w i ((0:Nat):Int)/\gZ po pi po pi i ((0:Nat):Int)=true)=one (i≠0/\cA w w 0 i):=bH ⟨fun q=>⟨z,sym.mpr q.1⟩,fun q=>⟨sym.mp q.2,(key (sym.mp q.2)).mpr (.inr rfl)⟩⟩
     rw[this];lia
    ·rw[if_neg j0,bj (fun q=>by rcases (key q.1).mp q.2 with q | q<;>contradiction)];rfl
 have cnt:sm w.length (fun j=>one (j≠0/\cA w w 0 j))=(k:Int) - 1:=by
  have e1:sm w.length (fun j=>one (cA w w 0 j))=k:=by
   have:sm w.length (fun j=>one (cA w w 0 j))=sm w.length (fun j=>if j.toNat%s=0 then 1 else 0):=aQ fun j hj=>by
    rw[bH (hr j hj),XQ]
    by_cases z:j%s=0
    ·rw[gs z,if_pos z]
    ·rw[bj z,if_neg z]
   rw[this,hn]
   exact Ba hs (fun i=>by rw[XQ]) k
  have e2:sm w.length (fun j=>one (cA w w 0 j))=sm w.length (fun j=>one (j≠0/\cA w w 0 j))+sm w.length (fun j=>if j=0 then 1 else 0):=by
   rw[<-mC]
   refine aQ fun j hj=>?_
   by_cases z:j=0
   ·subst z
    rw[gs (show cA w w 0 ((0:Nat):Int) from fun k=>rfl),bj (fun q=>q.1 rfl)];rfl
   ·rw[if_neg (by lia),Qc9]
    exact bH ⟨fun q=>⟨by lia,q⟩,fun q=>q.2⟩
  have e3:sm w.length (fun j=>if j=0 then (1:Int) else 0)=1:=by
   rw[jl (V9.mpr hw.ne) (fun i h1 _=>by rw[if_neg (by lia)]),if_pos rfl]
  lia
 have lp:0<w.length:=V9.mpr hw.ne
 have e:bV w.length w.length (fun i j=>one (cA w w i j/\gZ po pi po pi i j=true))=bV w.length w.length (fun i j=>(if i=0 then one (j≠0/\cA w w 0 j) else 0)+(if j=0 then one (i≠0/\cA w w 0 i) else 0)):=cf fun i j hi hj=>by
  rw[pt i j hi hj]
  congr 1
  ·by_cases z:i=0
   ·rw[if_pos z,if_pos (by lia)]
    exact bH ⟨fun q=>⟨by lia,q.2⟩,fun q=>⟨by lia,q.2⟩⟩
   ·rw[if_neg z,if_neg (by lia)]
  ·by_cases z:j=0
   ·rw[if_pos z,if_pos (by lia)]
    exact bH ⟨fun q=>⟨by lia,q.2⟩,fun q=>⟨by lia,q.2⟩⟩
   ·rw[if_neg z,if_neg (by lia)]
 rw[e,dm]
 have a1:bV w.length w.length (fun i j=>if i=0 then one (j≠0/\cA w w 0 j) else 0)=(k:Int) - 1:=by
  unfold bV
  rw[jl lp]
  ·rw[<-cnt]
   exact aQ fun j _=>if_pos rfl
  ·intro i h1 _
   refine Eq.trans (aQ (g:=fun _=>0) fun j _=>?_) (dk _)
   have: ¬((i:Int)=0):=by lia
   exact if_neg this
 have a2:bV w.length w.length (fun i j=>if j=0 then one (i≠0/\cA w w 0 i) else 0)=(k:Int) - 1:=by
  unfold bV
  rw[<-cnt]
  refine aQ fun i _=>?_
  have: ∀j:Nat,0<j-> ¬((j:Int)=0):=fun j h=>by lia
  rw[jl lp (fun j h1 _=>if_neg (this j h1))]
  exact if_pos rfl
 lia
end
noncomputable def kk (y:List Nat) (f:Int->Nat):Nat->Nat->List Int
 | _,0=>[]
 | k,n+1=>fJ y f (k+1)::fJ y f (-(k:Int))::kk y f (k+1) n
theorem fv: ∀(l r t:List Int),bg (l++r) (l++t)=bg r t
 | [],_,_=>rfl
 | a::l,r,t=>by
  show (if a=a then bg (l++r) (l++t) else _)=_
  rw[if_pos rfl,fv l r t]
theorem mE {y:List Nat} {f g:Int->Nat} {a b:Nat} (hy:Yd y) (hf:iU y f) (hg:iU y g) (h:Run f g a b) (r t:List Int): ∀(n k:Nat),k<=a->k<=b->a<k+n->b<k+n->bg (kk y f k n++r) (kk y g k n++t)=if a<=b then jU y f g a else j6 y f g b
 | 0,k,h1,_,h3,_=>by lia
 | n+1,k,h1,h2,h3,h4=>by
  show (if fJ y f (k+1)=fJ y g (k+1) then (if fJ y f (-(k:Int))=fJ y g (-(k:Int)) then bg (kk y f (k+1) n++r) (kk y g (k+1) n++t) else decide (fJ y f (-(k:Int))<fJ y g (-(k:Int)))) else decide (fJ y f (k+1)<fJ y g (k+1)))=_
  have e0:=h.lF k (by lia) (by lia)
  have e1:=h.lF (-(k:Int)) (by lia) (by lia)
  by_cases z:k=a
  ·subst z
   rw[if_neg (fun q=>h.hi (by
    unfold fJ at q
    rw[show (k:Int)+1 - 1=k by lia, <-e0]at q
    exact lG (hy.cl _ (hf.bP _)) (hf.bP _) (hg.bP _) q)),if_pos h2]
   rfl
  ·have e2:=h.lF (k+1) (by lia) (by lia)
   rw[if_pos (by unfold fJ;rw[show (k:Int)+1 - 1=k by lia,e0,e2])]
   by_cases z2:k=b
   ·subst z2
    rw[if_neg (fun q=>h.lo (by
     unfold fJ at q
     rw[<-e1]at q
     have r1:=hf.red (-(k:Int))
     have r2:=hg.red (-(k:Int))
     have c1:=(eT (hy.cl _ (hf.bP (-(k:Int) - 1))) (hf.bP (-(k:Int))) (Ne.symm r1)).2.2
     have c2:=(eT (hy.cl _ (hg.bP (-(k:Int) - 1))) (hf.bP (-(k:Int))) (by rw[e1];exact Ne.symm r2)).2.2
     have:=lG (hf.bP (-(k:Int))) (hy.cl _ (hf.bP (-(k:Int) - 1))) (hy.cl _ (hg.bP (-(k:Int) - 1))) (by rw[c1,c2,q])
     exact fg (hy.lt _ (hf.bP _)) (hy.lt _ (hg.bP _)) this)),if_neg (by lia)]
    rfl
   ·have e3:=h.lF (-(k:Int) - 1) (by lia) (by lia)
    rw[if_pos (by unfold fJ;rw[e1,e3])]
    exact mE hy hf hg h r t n (k+1) (by lia) (by lia) (by lia) (by lia)
noncomputable def lR (w:List Nat) (i:Int):Int->Nat:=if aA (rd w i)=true then sq w i else bq w i
noncomputable def Hd (n r:Nat) (l low:Bool) (c i:Nat):List Int:=if low=l then [(c:Int),(((if low=true then i else n - 1 - i) / r:Nat):Int)] else [-(c:Int), -(((if low=true then n - 1 - i else i) / r:Nat):Int)]
noncomputable def eG (y:List Nat) (ws:List (List Nat)) (L:Nat->Bool) (r:Nat->Nat) (M c i:Nat):List Int:=kk y (lR (ws.getD c []) i) 0 M++Hd (ws.getD c []).length (r c) (L c) (aA (rd (ws.getD c []) i)) c i
def Dl (w:List Nat) (i:Int) (f:Int->Nat):Prop:=f=sq w i\/f=bq w i
theorem uO {y w:List Nat} {i:Int} {f:Int->Nat} (hy:Yd y) (hw:SW y w) (h:Dl w i f):lR w i=if aA (f 0)=true then f else jJ f:=by
 have s0:sq w i 0=rd w i:=by unfold sq;rw[show i+0=i by lia]
 have b0:bq w i 0=aB (rd w i):=by unfold bq;rw[show i - 0=i by lia]
 have lc:=fM _ (hy.lt _ (hw.rd i)).mem
 unfold lR
 rcases h with rfl | rfl
 ·rw[s0,fu]
 ·rw[b0,lc, <-fu,sN hy (bz hw i)]
  cases aA (rd w i)<;>rfl
theorem Dl.zp {y w:List Nat} {i:Int} {f:Int->Nat} (hy:Yd y) (hw:SW y w) (h:Dl w i f):iU y f:=by
 rcases h with rfl | rfl
 ·exact bz hw i
 ·exact mD hy hw i
theorem Run.sy {f g:Int->Nat} {a b:Nat} (h:Run f g a b):Run g f a b:=⟨fun k h1 h2=>(h.lF k h1 h2).symm,Ne.symm h.hi,Ne.symm h.lo⟩
section
variable {y:List Nat} {ws:List (List Nat)} {L:Nat->Bool} {r:Nat->Nat} {M:Nat} {N:Nat->Nat->Nat->Nat}
structure fW (y:List Nat) (ws:List (List Nat)) (R:Nat->Nat->Nat->Nat->Bool) (N:Nat->Nat->Nat->Nat):Prop where
 sep: ∀c i d j e e',c<ws.length->d<ws.length->i<(ws.getD c []).length->j<(ws.getD d []).length->(e=rd (ws.getD c []) i\/e=aB (rd (ws.getD c []) i))->(e'=rd (ws.getD d []) j\/e'=aB (rd (ws.getD d []) j))->y.idxOf e<y.idxOf e'->N c i e<N d j e'
 low: ∀c i d j x,c<ws.length->d<ws.length->i<(ws.getD c []).length->j<(ws.getD d []).length->(c,i)≠(d,j)->aA x=true->(rd (ws.getD c []) i=x\/rd (ws.getD c []) i=aB x)->(rd (ws.getD d []) j=x\/rd (ws.getD d []) j=aB x)->
  N c i x≠N d j x/\N c i (aB x)≠N d j (aB x)/\decide (N c i x<N d j x)=R c i d j/\decide (N d j (aB x)<N c i (aB x))=R c i d j
abbrev Lies (y:List Nat) (ws:List (List Nat)) (L:Nat->Bool) (r:Nat->Nat) (M:Nat) (N:Nat->Nat->Nat->Nat):Prop:=fW y ws (fun c i d j=>bg (eG y ws L r M c i) (eG y ws L r M d j)) N
theorem fW.at {R:Nat->Nat->Nat->Nat->Bool} (hy:Yd y) (hN:fW y ws R N) {c i d j:Nat} {f g:Int->Nat} (hc:c<ws.length) (hd:d<ws.length) (hi:i<(ws.getD c []).length) (hj:j<(ws.getD d []).length) (hw:SW y (ws.getD c [])) (hv:SW y (ws.getD d []))
  (hf:Dl (ws.getD c []) i f) (hg:Dl (ws.getD d []) j g) (h0:f 0=g 0) (di:(c,i)≠(d,j)):
  N c i (f 0)≠N d j (f 0)/\N c i (aB (f 0))≠N d j (aB (f 0))/\decide (N c i (f 0)<N d j (f 0))=(if aA (f 0)=true then R c i d j else R d j c i)/\decide (N d j (aB (f 0))<N c i (aB (f 0)))=(if aA (f 0)=true then R c i d j else R d j c i):=by
 walk_at"c"
 walk_at"j"
 have ly:Lt (f 0):=hy.lt _ ((hf.zp hy hw).bP 0)
 have NY:=aM ly
 have ef:rd (ws.getD c []) i=f 0\/rd (ws.getD c []) i=aB (f 0):=by
  rcases hf with rfl | rfl
  ·exact .inl (s0 _ _).symm
  ·exact .inr (by rw[b0,aM (hy.lt _ (hw.rd _))])
 have eg:rd (ws.getD d []) j=f 0\/rd (ws.getD d []) j=aB (f 0):=by
  rw[h0]
  rcases hg with rfl | rfl
  ·exact .inl (s0 _ _).symm
  ·exact .inr (by rw[b0,aM (hy.lt _ (hv.rd _))])
 by_cases z:aA (f 0)=true
 ·rw[if_pos z]
  exact hN.low c i d j (f 0) hc hd hi hj di z ef eg
 ·rw[if_neg z]
  have z':aA (aB (f 0))=true:=by rw[fM _ ly.mem];simpa using z
  have:=hN.low d j c i (aB (f 0)) hd hc hj hi (Ne.symm di) z' (by rw[NY];exact eg.symm) (by rw[NY];exact ef.symm)
  rw[NY]at this
  exact ⟨Ne.symm this.2.1,Ne.symm this.1,this.2.2.2,this.2.2.1⟩
theorem Lies.run (hy:Yd y) (hN:Lies y ws L r M N) {c i d j:Nat} {f g:Int->Nat} {a b:Nat} (hc:c<ws.length) (hd:d<ws.length) (hi:i<(ws.getD c []).length) (hj:j<(ws.getD d []).length) (hw:SW y (ws.getD c [])) (hv:SW y (ws.getD d []))
  (hf:Dl (ws.getD c []) i f) (hg:Dl (ws.getD d []) j g) (hr:Run f g a b) (ha:a<M) (hb:b<M) (di:(c,i)≠(d,j)):
  N c i (f 0)≠N d j (g 0)/\N c i (aB (f 0))≠N d j (aB (g 0))/\decide (N c i (f 0)<N d j (g 0))=zl y f g a b/\decide (N d j (aB (g 0))<N c i (aB (f 0)))=zl y f g a b:=by
 have h0:=hr.zero
 have lf:=hf.zp hy hw
 have lg:=hg.zp hy hv
 have e:(if aA (f 0)=true then bg (eG y ws L r M c i) (eG y ws L r M d j) else bg (eG y ws L r M d j) (eG y ws L r M c i))=zl y f g a b:=by
  unfold eG
  rw[uO hy hw hf,uO hy hv hg, <-h0]
  by_cases z:aA (f 0)=true
  ·rw[if_pos z,if_pos z,if_pos z,mE hy lf lg hr _ _ M 0 (Qaa _) (Qaa _) (by lia) (by lia)]
   unfold zl vE
   by_cases q:a<=b
   ·rw[if_pos q,if_neg (by simp[z];lia)]
   ·rw[if_neg q,if_pos (by simp;lia)]
  ·rw[if_neg z,if_neg z,if_neg z,mE hy (lg.rv hy) (lf.rv hy) (hr.rv hy lf lg).sy _ _ M 0 (Qaa _) (Qaa _) (by lia) (by lia), <-MK hy lf lg h0]
   unfold zl vE
   have z':aA (jJ g 0)=true:=by
    show aA (aB (g 0))=true
    rw[<-h0,fM _ (hy.lt _ (lf.bP 0)).mem];simpa using z
   by_cases q:b<=a
   ·rw[if_pos q,if_neg (by simp[z'];lia)]
   ·rw[if_neg q,if_pos (by simp;lia)]
 have:=hN.at hy hc hd hi hj hw hv hf hg h0 di
 rw[e]at this
 rw[<-h0]
 exact this
end
noncomputable def fG (n:Nat) (k:Int):Nat:=(k%(n:Int)).toNat
theorem bB {n:Nat} (h:0<n) (k:Int):fG n k<n:=by
 unfold fG
 have h1:=Qbo k (b:=(n:Int)) (by lia)
 have h2:=Qbm k (b:=(n:Int)) (by lia)
 lia
theorem cq {n:Nat} (h:0<n) (k:Int):((fG n k:Nat):Int)=k%n:=by
 unfold fG
 have h1:=Qbo k (b:=(n:Int)) (by lia)
 lia
theorem Bb {n:Nat} (k:Int):fG n (k+n)=fG n k:=by unfold fG;rw[Qc0]
theorem bT {w:List Nat} (h:w≠[]) (k:Int):rd w (fG w.length k:Nat)=rd w k:=by rw[cq (V9.mpr h),fF]
theorem cG {w:List Nat} (h:w≠[]) (k:Int):sq w (fG w.length k:Nat)=sq w k:=by
 funext x
 unfold sq
 rw[cq (V9.mpr h), <-fF w (k%w.length+x),Qdt,fF]
theorem pV {w:List Nat} (h:w≠[]) (k:Int):bq w (fG w.length k:Nat)=bq w k:=by rw[<-fu, <-fu,cG h]
noncomputable def pO (ws:List (List Nat)) (N:Nat->Nat->Nat->Nat) (c:Nat) (k:Int):Nat:=N c (fG (ws.getD c []).length k) (rd (ws.getD c []) k)
noncomputable def pI (ws:List (List Nat)) (N:Nat->Nat->Nat->Nat) (c:Nat) (k:Int):Nat:=N c (fG (ws.getD c []).length k) (aB (rd (ws.getD c []) k))
theorem MR {x x' p p':Int} (h:x≠x'):bg [x,p] [x',p']=decide (x<x'):=by
 show (if x=x' then _ else decide (x<x'))=_
 rw[if_neg h]
theorem uP {x p p':Int} (h:p≠p'):bg [x,p] [x,p']=decide (p<p'):=by
 show (if x=x then (if p=p' then bg [] [] else decide (p<p')) else _)=_
 rw[if_pos rfl,if_neg h]
section
variable {y:List Nat} {ws:List (List Nat)} {L:Nat->Bool} {r:Nat->Nat} {M:Nat} {N:Nat->Nat->Nat->Nat}
structure dD (y:List Nat) (ws:List (List Nat)) (L:Nat->Bool) (r:Nat->Nat) (M:Nat):Prop where
 yd:Yd y
 sw: ∀c,c<ws.length->SW y (ws.getD c [])
 big: ∀c d,c<ws.length->d<ws.length->(ws.getD c []).length+(ws.getD d []).length<=M
 l1: ∀c d i j,c<ws.length->d<ws.length->cA (ws.getD c []) (ws.getD d []) i j->L c=L d
 l2: ∀c d i j,c<ws.length->d<ws.length->(∀k,sq (ws.getD c []) i k=bq (ws.getD d []) j k)->L d=!L c
 rp: ∀c,c<ws.length->0<r c
 rr: ∀c,c<ws.length-> ∀i j:Int,(cA (ws.getD c []) (ws.getD c []) i j↔(i - j)%(r c:Int)=0)
theorem fW.U2 {R:Nat->Nat->Nat->Nat->Bool} (h:dD y ws L r M) (hN:fW y ws R N) {c d:Nat} (hc:c<ws.length) (hd:d<ws.length) (s t:Int):Sep y [(aB (sq (ws.getD c []) s (-1)),pI ws N c (s - 1)),(sq (ws.getD c []) s 0,pO ws N c s),(aB (sq (ws.getD d []) t (-1)),pI ws N d (t - 1)),(sq (ws.getD d []) t 0,pO ws N d t)]:=by
 have hw:=h.sw c hc
 have hv:=h.sw d hd
 have lw:=V9.mpr hw.ne
 have lv:=V9.mpr hv.ne
 walk_at"c"
 have key: ∀p∈[(aB (sq (ws.getD c []) s (-1)),pI ws N c (s - 1)),(sq (ws.getD c []) s 0,pO ws N c s),(aB (sq (ws.getD d []) t (-1)),pI ws N d (t - 1)),(sq (ws.getD d []) t 0,pO ws N d t)], ∃e i:Nat,e<ws.length/\i<(ws.getD e []).length/\(p.1=rd (ws.getD e []) i\/p.1=aB (rd (ws.getD e []) i))/\p.2=N e i p.1:=by
  intro p hp
  simp only[Qah,Qae,or_false]at hp
  rcases hp with rfl | rfl | rfl | rfl
  ·exact ⟨c,_,hc,bB lw (s - 1), .inr (by rw[bT hw.ne];rfl),rfl⟩
  ·exact ⟨c,_,hc,bB lw s, .inl (by rw[bT hw.ne,s0]),by rw[s0];rfl⟩
  ·exact ⟨d,_,hd,bB lv (t - 1), .inr (by rw[bT hv.ne];rfl),rfl⟩
  ·exact ⟨d,_,hd,bB lv t, .inl (by rw[bT hv.ne,s0]),by rw[s0];rfl⟩
 intro p hp q hq cE
 obtain ⟨e,i,he,hi,h1,h2⟩:=key p hp
 obtain ⟨e',j,xR,hj,h3,h4⟩:=key q hq
 rw[h2,h4]
 exact hN.sep e i e' j _ _ he xR hi hj h1 h3 cE
theorem fW.U3 {R:Nat->Nat->Nat->Nat->Bool} (h:dD y ws L r M) (hN:fW y ws R N) {c d:Nat} (hc:c<ws.length) (hd:d<ws.length) (s t:Int):Sep y [(aB (sq (ws.getD c []) s (-1)),pI ws N c (s - 1)),(sq (ws.getD c []) s 0,pO ws N c s),(aB (bq (ws.getD d []) (-t) (-1)),pO ws N d (-(t - 1))),(bq (ws.getD d []) (-t) 0,pI ws N d (-t))]:=by
 have hw:=h.sw c hc
 have hv:=h.sw d hd
 have lw:=V9.mpr hw.ne
 have lv:=V9.mpr hv.ne
 walk_at"c"
 walk_at"j"
 have bb: ∀t:Int,aB (bq (ws.getD d []) (-t) (-1))=rd (ws.getD d []) (-(t - 1)):=fun t=>by
  unfold bq
  rw[aM (h.yd.lt _ (hv.rd _))]
  congr 1;lia
 have key: ∀p∈[(aB (sq (ws.getD c []) s (-1)),pI ws N c (s - 1)),(sq (ws.getD c []) s 0,pO ws N c s),(aB (bq (ws.getD d []) (-t) (-1)),pO ws N d (-(t - 1))),(bq (ws.getD d []) (-t) 0,pI ws N d (-t))], ∃e i:Nat,e<ws.length/\i<(ws.getD e []).length/\(p.1=rd (ws.getD e []) i\/p.1=aB (rd (ws.getD e []) i))/\p.2=N e i p.1:=by
  intro p hp
  simp only[Qah,Qae,or_false]at hp
  rcases hp with rfl | rfl | rfl | rfl
  ·exact ⟨c,_,hc,bB lw (s - 1), .inr (by rw[bT hw.ne];rfl),rfl⟩
  ·exact ⟨c,_,hc,bB lw s, .inl (by rw[bT hw.ne,s0]),by rw[s0];rfl⟩
  ·exact ⟨d,_,hd,bB lv (-(t - 1)), .inl (by rw[bT hv.ne];exact bb t),by rw[bb t];rfl⟩
  ·exact ⟨d,_,hd,bB lv (-t), .inr (by rw[bT hv.ne,b0]),by rw[b0];rfl⟩
 intro p hp q hq cE
 obtain ⟨e,i,he,hi,h1,h2⟩:=key p hp
 obtain ⟨e',j,xR,hj,h3,h4⟩:=key q hq
 rw[h2,h4]
 exact hN.sep e i e' j _ _ he xR hi hj h1 h3 cE
theorem Lies.two (h:dD y ws L r M) (hN:Lies y ws L r M N) {c d:Nat} (hc:c<ws.length) (hd:d<ws.length):KD y (sq (ws.getD c [])) (pO ws N c) (pI ws N c) (sq (ws.getD d [])) (pO ws N d) (pI ws N d):=by
 have hw:=h.sw c hc
 have hv:=h.sw d hd
 have lw:=V9.mpr hw.ne
 have lv:=V9.mpr hv.ne
 walk_at"c"
 refine ⟨fW.U2 h hN hc hd,fun s t a b rn=>?_⟩
 obtain ⟨a',b',U4,ha,hb⟩:=dB lw lv (fun k=>cN _ s k) (fun k=>cN _ t k) rn.zero ⟨_,rn.hi⟩
 obtain ⟨rfl,rfl⟩:=rn.one U4
 have:=h.big c d hc hd
 have key:=hN.run h.yd hc hd (bB lw s) (bB lv t) hw hv (.inl (cG hw.ne s).symm) (.inl (cG hv.ne t).symm) rn (by lia) (by lia) (fun z=>rn.hi (by
  obtain ⟨z1,z2⟩:=Prod.mk.inj z
  subst z1
  rw[<-cG hw.ne s, <-cG hw.ne t,z2]))
 rw[s0,s0]at key
 exact key
theorem Lies.WC (h:dD y ws L r M) (hN:Lies y ws L r M N) {c d:Nat} (hc:c<ws.length) (hd:d<ws.length):KD y (sq (ws.getD c [])) (pO ws N c) (pI ws N c) (fun k=>bq (ws.getD d []) (-k)) (fun k=>pI ws N d (-k)) (fun k=>pO ws N d (-k)):=by
 have hw:=h.sw c hc
 have hv:=h.sw d hd
 have lw:=V9.mpr hw.ne
 have lv:=V9.mpr hv.ne
 walk_at"c"
 walk_at"j"
 have bb: ∀t:Int,aB (bq (ws.getD d []) (-t) (-1))=rd (ws.getD d []) (-(t - 1)):=fun t=>by
  unfold bq
  rw[aM (h.yd.lt _ (hv.rd _))]
  congr 1;lia
 refine ⟨fW.U3 h hN hc hd,fun s t a b rn=>?_⟩
 obtain ⟨a',b',U4,ha,hb⟩:=dB lw lv (fun k=>cN _ s k) (fun k=>mq _ (-t) k) rn.zero ⟨_,rn.hi⟩
 obtain ⟨rfl,rfl⟩:=rn.one U4
 have:=h.big c d hc hd
 have key:=hN.run h.yd hc hd (bB lw s) (bB lv (-t)) hw hv (.inl (cG hw.ne s).symm) (.inr (pV hv.ne (-t)).symm) rn (by lia) (by lia) (fun z=>by
  obtain ⟨z1,z2⟩:=Prod.mk.inj z
  subst z1
  have z0:=rn.zero
  rw[s0,b0, <-bT hw.ne s, <-bT hw.ne (-t),z2]at z0
  exact ig (h.yd.lt _ (hw.rd _)) z0.symm)
 rw[s0,b0,aM (h.yd.lt _ (hv.rd _))]at key
 exact key
theorem uQ {n n' r r' c d i j:Nat} {l low MS:Bool} (h:c≠d):bg (Hd n r l low c i) (Hd n' r' (if MS=low then l else !l) MS d j)=if low=l then decide (c<d) else decide (d<c):=by
 unfold Hd
 cases low<;>cases MS<;>cases l<;>simp only[Qb0,Qec,if_true,if_false,Bool.true_eq_false,Qa4]<;>rw[MR (by lia)]<;>exact decide_eq_decide.mpr (by lia)
theorem Lies.Fs (h:dD y ws L r M) (hN:Lies y ws L r M N) {c d:Nat} (hc:c<ws.length) (hd:d<ws.length) (oH:c≠d) {i j:Nat} {f g:Int->Nat} (hi:i<(ws.getD c []).length) (hj:j<(ws.getD d []).length) (hf:Dl (ws.getD c []) i f) (hg:Dl (ws.getD d []) j g) (hp: ∀k,f k=g k)
  (hl:L d=if aA (rd (ws.getD d []) j)=aA (rd (ws.getD c []) i) then L c else !L c) (hs:f=sq (ws.getD c []) i):
  N c i (f 0)≠N d j (g 0)/\N c i (aB (f 0))≠N d j (aB (g 0))/\decide (N c i (f 0)<N d j (g 0))=(if L c=true then decide (c<d) else decide (d<c))/\decide (N d j (aB (g 0))<N c i (aB (f 0)))=(if L c=true then decide (c<d) else decide (d<c)):=by
 have hw:=h.sw c hc
 have hv:=h.sw d hd
 have e:(if aA (f 0)=true then bg (eG y ws L r M c i) (eG y ws L r M d j) else bg (eG y ws L r M d j) (eG y ws L r M c i))=if L c=true then decide (c<d) else decide (d<c):=by
  have es:lR (ws.getD c []) i=lR (ws.getD d []) j:=by
   rw[uO h.yd hw hf,uO h.yd hv hg,show f=g from funext hp]
  have f0:f 0=rd (ws.getD c []) i:=by rw[hs];unfold sq;rw[show (i:Int)+0=i by lia]
  unfold eG
  rw[es,fv,fv,f0]
  have x_:L c=if aA (rd (ws.getD c []) i)=aA (rd (ws.getD d []) j) then L d else !L d:=by
   rw[hl]
   cases aA (rd (ws.getD d []) j)<;>cases aA (rd (ws.getD c []) i)<;>cases L c<;>rfl
  have e1:= @uQ (ws.getD c []).length (ws.getD d []).length (r c) (r d) c d i j (L c) (aA (rd (ws.getD c []) i)) (aA (rd (ws.getD d []) j)) oH
  have e2:= @uQ (ws.getD d []).length (ws.getD c []).length (r d) (r c) d c j i (L d) (aA (rd (ws.getD d []) j)) (aA (rd (ws.getD c []) i)) (Ne.symm oH)
  rw[<-hl]at e1
  rw[<-x_]at e2
  rw[e1,e2,hl]
  cases aA (rd (ws.getD d []) j)<;>cases aA (rd (ws.getD c []) i)<;>cases L c<;>rfl
 have:=hN.at h.yd hc hd hi hj hw hv hf hg (hp 0) (fun z=>oH (Prod.mk.inj z).1)
 rw[e]at this
 rw[<-hp 0]
 exact this
end
theorem xj {n k r i:Nat} (hr:0<r) (hn:n=k*r) (hi:i<n):(n - 1 - i) / r=k - 1 - i / r:=by
 have h1:=Qdi i r
 have h2:=Qdl i hr
 have h3:i / r<k:=by
  rw[Qew hr];lia
 rw[Nat.div_eq_iff hr]
 obtain ⟨t,rfl⟩: ∃t,k=i / r+1+t:=⟨k - 1 - i / r,by lia⟩
 generalize hq:i / r=q at*
 rw[Nat.add_mul,Nat.add_mul,Nat.one_mul,Qb6 q r]at hn
 have e:q+1+t - 1 - q=t:=by lia
 rw[e]
 generalize r*q=A at*
 generalize t*r=B at*
 lia
theorem C2 {r i j:Nat} (hr:0<r) (h:i%r=j%r) (di:i≠j):(i / r<j / r↔i<j)/\i / r≠j / r:=by
 have h1:=Qdi i r
 have h2:=Qdi j r
 have uR:i / r≠j / r:=fun z=>di (by rw[<-h1, <-h2,z,h])
 refine ⟨⟨fun q=>?_,fun q=>?_⟩,uR⟩
 ·have:r*(i / r+1)<=r*(j / r):=Nat.mul_le_mul_left r q
  rw[Nat.mul_add,Nat.mul_one]at this
  lia
 ·refine Classical.byContradiction fun z=>?_
  have h3:j / r+1<=i / r:=by lia
  have:r*(j / r+1)<=r*(i / r):=Nat.mul_le_mul_left r h3
  rw[Nat.mul_add,Nat.mul_one]at this
  lia
theorem zx {n k r c i j:Nat} {l low:Bool} (hr:0<r) (hn:n=k*r) (hi:i<n) (hj:j<n) (h:i%r=j%r) (di:i≠j):(if low=true then bg (Hd n r l low c i) (Hd n r l low c j) else bg (Hd n r l low c j) (Hd n r l low c i))=decide (i<j):=by
 obtain ⟨d1,d2⟩:=C2 hr h di
 have e1:=xj hr hn hi
 have e2:=xj hr hn hj
 have b1:i / r<k:=by rw[Qew hr];lia
 have b2:j / r<k:=by rw[Qew hr];lia
 unfold Hd
 cases low<;>cases l<;>simp only[if_true,if_false,Bool.true_eq_false,Qa4]
 ·rw[e1,e2,uP (by lia)];exact decide_eq_decide.mpr (by lia)
 ·rw[uP (by lia)];exact decide_eq_decide.mpr (by lia)
 ·rw[e1,e2,uP (by lia)];exact decide_eq_decide.mpr (by lia)
 ·rw[uP (by lia)];exact decide_eq_decide.mpr (by lia)
noncomputable def fc (y w v:List Nat) (i j:Int):Int:=one (ac y (aB (rd w (i - 1))) (rd w i) (aB (rd v (j - 1))) (rd v j)=true)+one (0<al y (sq w i) (sq v j) (w.length+v.length))+one (0<al y (sq w i) (bq v j) (w.length+v.length))
section
variable {y:List Nat} {ws:List (List Nat)} {L:Nat->Bool} {r:Nat->Nat} {M:Nat} {N:Nat->Nat->Nat->Nat}
theorem uS (ws:List (List Nat)) (N:Nat->Nat->Nat->Nat) (c:Nat) (k:Int):pO ws N c (k+(ws.getD c []).length)=pO ws N c k:=by unfold pO;rw[Bb,iw]
theorem uT (ws:List (List Nat)) (N:Nat->Nat->Nat->Nat) (c:Nat) (k:Int):pI ws N c (k+(ws.getD c []).length)=pI ws N c k:=by unfold pI;rw[Bb,iw]
theorem dD.root (h:dD y ws L r M) {c:Nat} (hc:c<ws.length):(ws.getD c []).length=(ws.getD c []).length / r c*r c/\0<(ws.getD c []).length / r c:=by
 have hp:=h.rp c hc
 have hl:=V9.mpr (h.sw c hc).ne
 have h1:=(h.rr c hc (ws.getD c []).length 0).mp (fun k=>by
  have:=congrFun (zq (ws.getD c []) 0) k
  rwa [Qcu]at this)
 rw[Qd7]at h1
 have h2:(ws.getD c []).length%r c=0:=by
  have:((((ws.getD c []).length%r c:Nat)):Int)=0:=by rw[<-h1];rfl
  lia
 have h3:=Qdi (ws.getD c []).length (r c)
 rw[h2,Nat.add_zero,Qb6]at h3
 refine ⟨h3.symm,Qdk fun z=>?_⟩
 rw[z,Nat.zero_mul]at h3
 lia
theorem C3 (h:dD y ws L r M) (hN:Lies y ws L r M N) {c d:Nat} (hc:c<ws.length) (hd:d<ws.length) (oH:c≠d):
  bV (ws.getD c []).length (ws.getD d []).length (fun i j=>one (gZ (pO ws N c) (pI ws N c) (pO ws N d) (pI ws N d) i j=true))=bV (ws.getD c []).length (ws.getD d []).length (fc y (ws.getD c []) (ws.getD d [])):=by
 have hw:=h.sw c hc
 have hv:=h.sw d hd
 have lw:=V9.mpr hw.ne
 have lv:=V9.mpr hv.ne
 walk_at"c"
 walk_at"j"
 have hS:=hN.two h hc hd
 have hO:=hN.WC h hc hd
 rw[xh h.yd hw hv (uS ws N c) (uT ws N c) (uS ws N d) (uT ws N d) hS hO,Jf h.yd hw hv hS (if L c=true then decide (c<d) else decide (d<c)),Jg h.yd hw hv hO (if L c=true then decide (c<d) else decide (d<c)), <-dm, <-dm]
 ·unfold fc
  lia
 ·intro i j p
  have p0:=p 0
  rw[s0,b0]at p0
  have lo:=fM _ (h.yd.lt _ (hv.rd j)).mem
  have:=hN.Fs h hc hd oH (bB lw i) (bB lv j) (f:=sq (ws.getD c []) i) (g:=bq (ws.getD d []) j) (.inl (cG hw.ne i).symm) (.inr (pV hv.ne j).symm) p (by
   rw[bT hw.ne,bT hv.ne,p0,lo,h.l2 c d i j hc hd p]
   cases aA (rd (ws.getD d []) j)<;>rfl) (cG hw.ne i).symm
  rw[s0,b0,aM (h.yd.lt _ (hv.rd _))]at this
  exact this
 ·intro i j p
  have p0:=p 0
  rw[s0,s0]at p0
  have:=hN.Fs h hc hd oH (bB lw i) (bB lv j) (f:=sq (ws.getD c []) i) (g:=sq (ws.getD d []) j) (.inl (cG hw.ne i).symm) (.inl (cG hv.ne j).symm) p (by
   rw[bT hw.ne,bT hv.ne,p0,if_pos rfl]
   exact (h.l1 c d i j hc hd p).symm) (cG hw.ne i).symm
  rw[s0,s0]at this
  exact this
theorem zy (h:dD y ws L r M) (hN:Lies y ws L r M N) {c:Nat} (hc:c<ws.length):
  bV (ws.getD c []).length (ws.getD c []).length (fun i j=>one (gZ (pO ws N c) (pI ws N c) (pO ws N c) (pI ws N c) i j=true))=bV (ws.getD c []).length (ws.getD c []).length (fc y (ws.getD c []) (ws.getD c []))+2*(((ws.getD c []).length / r c:Nat) - 1):=by
 have hw:=h.sw c hc
 have lw:=V9.mpr hw.ne
 walk_at"c"
 have hS:=hN.two h hc hc
 have hO:=hN.WC h hc hc
 obtain ⟨Kq,Ri⟩:=h.root hc
 have WD:=h.rp c hc
 have e0:bV (ws.getD c []).length (ws.getD c []).length (fun i j=>one (jk (ws.getD c []) (ws.getD c []) i j/\gZ (pO ws N c) (pI ws N c) (pO ws N c) (pI ws N c) i j=true))=0:=by
  rw[show (0:Int)=bV (ws.getD c []).length (ws.getD c []).length (fun _ _=>0) by unfold bV;rw[show (fun _:Int=>sm (ws.getD c []).length fun _=>0)=fun _=>0 from funext fun _=>dk _,dk]]
  exact cf fun i j _ _=>bj fun z=>uN h.yd hw _ _ z.1
 rw[xh h.yd hw hw (uS ws N c) (uT ws N c) (uS ws N c) (uT ws N c) hS hO,e0,Fq h.yd hw hS WD Kq Ri, <-dm, <-dm]
 ·unfold fc
  lia
 ·intro j hj
  rw[h.rr c hc]
  constructor
  ·intro q
   have:(j:Int)%(r c:Int)=0:=by
    rw[Int.zero_sub]at q
    exact Int.emod_eq_zero_of_dvd (Int.dvd_neg.mp (Int.dvd_of_emod_eq_zero q))
   have h2:((j%r c:Nat):Int)=0:=by rw[<-this];rfl
   lia
  ·intro q
   have:(j:Int)%(r c:Int)=0:=by
    have h2:((j%r c:Nat):Int)=(j:Int)%(r c:Int):=rfl
    rw[<-h2,q];rfl
   rw[Int.zero_sub]
   exact Int.emod_eq_zero_of_dvd (Int.dvd_neg.mpr (Int.dvd_of_emod_eq_zero this))
 ·intro i j p di
  have p0:=p 0
  rw[s0,s0]at p0
  have uR:fG (ws.getD c []).length i≠fG (ws.getD c []).length j:=fun z=>di (by rw[<-cq lw, <-cq lw,z])
  have:=hN.at h.yd hc hc (bB lw i) (bB lw j) hw hw (f:=sq (ws.getD c []) i) (g:=sq (ws.getD c []) j) (.inl (cG hw.ne i).symm) (.inl (cG hw.ne j).symm) (p 0) (fun z=>uR (Prod.mk.inj z).2)
  have Jh:fG (ws.getD c []).length i%r c=fG (ws.getD c []).length j%r c:=by
   have p':cA (ws.getD c []) (ws.getD c []) (fG (ws.getD c []).length i:Nat) (fG (ws.getD c []).length j:Nat):=fun k=>by rw[cG hw.ne,cG hw.ne];exact p k
   have q:=(h.rr c hc _ _).mp p'
   have q2:=Int.emod_eq_emod_iff_emod_sub_eq_zero.mpr q
   have q3:((fG (ws.getD c []).length i%r c:Nat):Int)=((fG (ws.getD c []).length j%r c:Nat):Int):=q2
   lia
  have es:lR (ws.getD c []) (fG (ws.getD c []).length i:Nat)=lR (ws.getD c []) (fG (ws.getD c []).length j:Nat):=by
   unfold lR
   rw[bT hw.ne,bT hw.ne,p0,cG hw.ne,cG hw.ne,pV hw.ne,pV hw.ne,show sq (ws.getD c []) i=sq (ws.getD c []) j from funext p, <-fu, <-fu,show sq (ws.getD c []) i=sq (ws.getD c []) j from funext p]
  have e:= @zx (ws.getD c []).length _ (r c) c _ _ (L c) (aA (rd (ws.getD c []) j)) WD Kq (bB lw i) (bB lw j) Jh uR
  unfold eG at this
  rw[es,fv,fv,s0,bT hw.ne,bT hw.ne,p0,e,decide_eq_decide.mpr (show fG (ws.getD c []).length i<fG (ws.getD c []).length j↔i%((ws.getD c []).length:Int)<j%((ws.getD c []).length:Int) by rw[<-cq lw, <-cq lw];lia)]at this
  unfold pO pI
  rw[p0]
  exact this
end
noncomputable def j7:Nat->(Int->Int->Int)->Int
 | 0,_=>0
 | n+1,h=>j7 n h+sm n (fun j=>h j n)
theorem jK (n m:Nat) (h:Int->Int->Int):bV (n+1) m h=bV n m h+sm m (fun j=>h n j):=rfl
theorem lH (m:Nat) (h:Int->Int->Int): ∀n:Nat,bV n (m+1) h=bV n m h+sm n (fun i=>h i m)
 | 0=>rfl
 | n+1=>by
  rw[jK,jK,lH m h n]
  show bV n m h+sm n (fun i=>h i m)+(sm m (fun j=>h n j)+h n m)=bV n m h+sm m (fun j=>h n j)+(sm n (fun i=>h i m)+h n m)
  lia
theorem ou {h:Int->Int->Int}: ∀{n:Nat},(∀i j:Nat,i<n->j<n->h i j=h j i)->(∀i:Nat,i<n->h i i=0)->bV n n h=2*j7 n h
 | 0,_,_=>rfl
 | n+1,sy,dg=>by
  rw[lH,jK,ou (n:=n) (fun i j hi hj=>sy i j (by lia) (by lia)) (fun i hi=>dg i (by lia))]
  show 2*j7 n h+sm n (fun j=>h n j)+(sm n (fun i=>h i n)+h n n)=2*(j7 n h+sm n (fun j=>h j n))
  rw[dg n (by lia),aQ (h:=fun j=>h n j) (g:=fun j=>h j n) (fun j hj=>sy n j (by lia) (by lia))]
  lia
theorem mF {h g:Int->Int->Int}: ∀{n:Nat},(∀i j:Nat,i<j->j<n->h i j=g i j)->j7 n h=j7 n g
 | 0,_=>rfl
 | n+1,e=>by
  show j7 n h+_=j7 n g+_
  rw[mF (n:=n) fun i j h1 h2=>e i j h1 (by lia),aQ (g:=fun j=>g j n) fun j hj=>e j n hj (by lia)]
theorem Bc (h g:Int->Int->Int): ∀n:Nat,j7 n (fun i j=>h i j+g i j)=j7 n h+j7 n g
 | 0=>rfl
 | n+1=>by
  show j7 n _+sm n _=(j7 n h+sm n _)+(j7 n g+sm n _)
  rw[Bc h g n,mC];lia
section
variable {y:List Nat} {ws:List (List Nat)} {L:Nat->Bool} {r:Nat->Nat} {M:Nat} {N:Nat->Nat->Nat->Nat}
theorem fW.inj {R:Nat->Nat->Nat->Nat->Bool} (h:dD y ws L r M) (hN:fW y ws R N) {c i d j e e':Nat} (hc:c<ws.length) (hd:d<ws.length) (hi:i<(ws.getD c []).length) (hj:j<(ws.getD d []).length) (he:e=rd (ws.getD c []) i\/e=aB (rd (ws.getD c []) i)) (xR:e'=rd (ws.getD d []) j\/e'=aB (rd (ws.getD d []) j))
  (di:(c,i,e)≠(d,j,e')):N c i e≠N d j e':=by
 have ly: ∀{c i e:Nat},c<ws.length->(e=rd (ws.getD c []) i\/e=aB (rd (ws.getD c []) i))->e∈y:=fun hc he=>he.elim (fun z=>z▸(h.sw _ hc).rd _) fun z=>z▸h.yd.cl _ ((h.sw _ hc).rd _)
 have ye:=ly hc he
 have Yy:=ly hd xR
 by_cases z:e=e'
 ·subst z
  have uR:(c,i)≠(d,j):=fun q=>di (by rw[(Prod.mk.inj q).1,(Prod.mk.inj q).2])
  have le:=h.yd.lt _ ye
  have lc:=h.yd.lt _ ((h.sw c hc).rd i)
  have ld:=h.yd.lt _ ((h.sw d hd).rd j)
  by_cases l:aA e=true
  ·exact (hN.low c i d j e hc hd hi hj uR l (he.elim (fun z=> .inl z.symm) fun z=> .inr (by rw[z,aM lc])) (xR.elim (fun z=> .inl z.symm) fun z=> .inr (by rw[z,aM ld]))).1
  ·have:=(hN.low c i d j (aB e) hc hd hi hj uR (by rw[fM _ le.mem];simpa using l) (by rw[aM le];exact he.elim (fun z=> .inr z.symm) fun z=> .inl (by rw[z,aM lc])) (by rw[aM le];exact xR.elim (fun z=> .inr z.symm) fun z=> .inl (by rw[z,aM ld]))).2.1
   rwa [aM le]at this
 ·have n:=b9 ye Yy z
  rcases Qea n with q | q
  ·exact Qaq (hN.sep c i d j e e' hc hd hi hj he xR q)
  ·exact Qfd (hN.sep d j c i e' e hd hc hj hi xR he q)
theorem Bd {n i j:Nat} {k:Int} (hi:i<n) (hj:j<n) (q:fG n ((i:Int) - k)=fG n ((j:Int) - k)):i=j:=by
 have lw:0<n:=Qbc (Qaa _) hi
 have q2:((i:Int) - k)%n=((j:Int) - k)%n:=by rw[<-cq lw, <-cq lw,q]
 have q3:=(Int.emod_sub_cancel_right k).mp q2
 rw[Qas (Qeb _) (Qcz.mpr hi),Qas (Qeb _) (Qcz.mpr hj)]at q3
 exact Qe8 q3
theorem iC {R:Nat->Nat->Nat->Nat->Bool} (h:dD y ws L r M) (hN:fW y ws R N) {c d i j:Nat} (hc:c<ws.length) (hd:d<ws.length) (hi:i<(ws.getD c []).length) (hj:j<(ws.getD d []).length):
  pI ws N c ((i:Int) - 1)≠pO ws N d j/\((c,i)≠(d,j)->pI ws N c ((i:Int) - 1)≠pI ws N d ((j:Int) - 1)/\pO ws N c i≠pO ws N d j):=by
 have hw:=h.sw c hc
 have hv:=h.sw d hd
 have lw:=V9.mpr hw.ne
 have lv:=V9.mpr hv.ne
 have vo: ∀{c:Nat} (hw:SW y (ws.getD c [])) (k:Int),rd (ws.getD c []) k=rd (ws.getD c []) (fG (ws.getD c []).length k:Nat)\/rd (ws.getD c []) k=aB (rd (ws.getD c []) (fG (ws.getD c []).length k:Nat)):=fun hw k=> .inl (bT hw.ne k).symm
 have vi: ∀{c:Nat} (hw:SW y (ws.getD c [])) (k:Int),aB (rd (ws.getD c []) k)=rd (ws.getD c []) (fG (ws.getD c []).length k:Nat)\/aB (rd (ws.getD c []) k)=aB (rd (ws.getD c []) (fG (ws.getD c []).length k:Nat)):=fun hw k=> .inr (by rw[bT hw.ne k])
 refine ⟨hN.inj h hc hd (bB lw _) (bB lv _) (vi hw _) (vo hv _) fun q=>?_,fun di=>⟨hN.inj h hc hd (bB lw _) (bB lv _) (vi hw _) (vi hv _) fun q=>?_,hN.inj h hc hd (bB lw _) (bB lv _) (vo hw _) (vo hv _) fun q=>?_⟩⟩
 ·obtain ⟨q1,q⟩:=Prod.mk.inj q
  obtain ⟨q2,q3⟩:=Prod.mk.inj q
  subst q1
  rw[<-bT hw.ne ((i:Int) - 1), <-bT hw.ne (j:Int),q2]at q3
  exact ig (h.yd.lt _ (hw.rd _)) q3
 ·obtain ⟨q1,q⟩:=Prod.mk.inj q
  subst q1
  exact di (by rw[Bd hi hj (Prod.mk.inj q).1])
 ·obtain ⟨q1,q⟩:=Prod.mk.inj q
  subst q1
  exact di (by rw[Bd (k:=0) hi hj (by rw[Qd7,Qd7];exact (Prod.mk.inj q).1)])
theorem Be {R:Nat->Nat->Nat->Nat->Bool} (h:dD y ws L r M) (hN:fW y ws R N) {c d:Nat} (hc:c<ws.length) (hd:d<ws.length) {i j:Nat} (hi:i<(ws.getD c []).length) (hj:j<(ws.getD d []).length):gZ (pO ws N c) (pI ws N c) (pO ws N d) (pI ws N d) i j=gZ (pO ws N d) (pI ws N d) (pO ws N c) (pI ws N c) j i:=by
 by_cases z:(c,i)=(d,j)
 ·obtain ⟨rfl,rfl⟩:=Prod.mk.inj z
  rfl
 have n:=iC h hN hc hd hi hj
 exact A5 (iC h hN hc hc hi hi).1 (iC h hN hd hd hj hj).1 (n.2 z).1 n.1 (Ne.symm (iC h hN hd hc hj hi).1) (n.2 z).2
theorem Ft (h:dD y ws L r M) (hN:Lies y ws L r M N) {c:Nat} (hc:c<ws.length):
  2*j7 (ws.getD c []).length (fun i j=>one (gZ (pO ws N c) (pI ws N c) (pO ws N c) (pI ws N c) i j=true))=bV (ws.getD c []).length (ws.getD c []).length (fc y (ws.getD c []) (ws.getD c []))+2*(((ws.getD c []).length / r c:Nat) - 1):=by
 rw[<-zy h hN hc]
 exact (ou (fun i j hi hj=>by rw[Be h hN hc hc hi hj]) (fun i hi=>bj (by unfold gZ;rw[xg];decide))).symm
end
theorem Fu {y:List Nat} {f g:Int->Nat} {a:Nat} (hy:Yd y) (hf:iU y f) (hg:iU y g) (h:f a=g a) (hn:f (a+1)≠g (a+1)):jU y g f a=!jU y f g a:=by
 have:fJ y f (a+1)≠fJ y g (a+1):=fun q=>hn (by
  unfold fJ at q
  rw[show (a:Int)+1 - 1=a by lia, <-h]at q
  exact lG (hy.cl _ (hf.bP _)) (hf.bP _) (hg.bP _) q)
 unfold jU
 rw[<-decide_not]
 exact decide_eq_decide.mpr (by lia)
theorem zA {y:List Nat} {f g:Int->Nat} {b:Nat} (hy:Yd y) (hf:iU y f) (hg:iU y g) (h:f (-(b:Int))=g (-(b:Int))) (hn:f (-(b:Int) - 1)≠g (-(b:Int) - 1)):j6 y g f b=!j6 y f g b:=by
 have:fJ y f (-(b:Int))≠fJ y g (-(b:Int)):=fun q=>hn (by
  unfold fJ at q
  rw[<-h]at q
  have r1:=hf.red (-(b:Int))
  have r2:=hg.red (-(b:Int))
  have c1:=(eT (hy.cl _ (hf.bP (-(b:Int) - 1))) (hf.bP (-(b:Int))) (Ne.symm r1)).2.2
  have c2:=(eT (hy.cl _ (hg.bP (-(b:Int) - 1))) (hf.bP (-(b:Int))) (by rw[h];exact Ne.symm r2)).2.2
  have:=lG (hf.bP (-(b:Int))) (hy.cl _ (hf.bP (-(b:Int) - 1))) (hy.cl _ (hg.bP (-(b:Int) - 1))) (by rw[c1,c2,q])
  exact fg (hy.lt _ (hf.bP _)) (hy.lt _ (hg.bP _)) this)
 unfold j6
 rw[<-decide_not]
 exact decide_eq_decide.mpr (by lia)
theorem KG {y:List Nat} {f g:Int->Nat} (hy:Yd y) (hf:iU y f) (hg:iU y g):xW y f g->xW y g f:=fun ⟨a,r,x⟩=>⟨a,r.sy,by
 rw[Fu hy hf hg (r.lF a (by lia) (by lia)) r.hi,zA hy hf hg (r.lF _ (by lia) (by lia)) r.lo]
 exact fun q=>x (by simpa using q)⟩
theorem MT {y:List Nat} {a b p q:Nat} (hy:Yd y) (ha:a∈y) (hb:b∈y) (hp:p∈y) (hq:q∈y) (ph:a≠b) (Rq:p≠q):ac y a b p q=ac y p q a b:=by
 unfold ac
 by_cases z:p=a\/p=b\/q=a\/q=b
 ·rw[if_pos z,if_pos (z.elim (fun z=> .inl z.symm) fun z=>z.elim (fun z=> .inr (.inr (.inl z.symm))) fun z=>z.elim (fun z=> .inr (.inl z.symm)) fun z=> .inr (.inr (.inr z.symm)))]
 ·have n1:a≠p:=fun q=>z (.inl q.symm)
  have n2:b≠p:=fun q=>z (.inr (.inl q.symm))
  have n3:a≠q:=fun q=>z (.inr (.inr (.inl q.symm)))
  have n4:b≠q:=fun q=>z (.inr (.inr (.inr q.symm)))
  rw[if_neg z,if_neg (fun z=>z.elim n1 fun z=>z.elim n3 fun z=>z.elim n2 n4)]
  rw[gD hy.nd ha hp hb n1 ph (Ne.symm n2),gD hy.nd ha hq hb n3 ph (Ne.symm n4),gD hy.nd hp ha hq (Ne.symm n1) Rq n3,gD hy.nd hp hb hq (Ne.symm n2) Rq n4]
  exact A5 (b9 ha hb ph) (b9 hp hq Rq) (b9 ha hp n1) (b9 ha hq n3) (b9 hb hp n2) (b9 hb hq n4)
noncomputable def He (n m:Nat):List (Nat×Nat):=(List.range n).flatMap fun i=>(List.range m).map fun j=>(i,j)
theorem Bf {n m:Nat} {x:Nat×Nat}:x∈He n m↔x.1<n/\x.2<m:=by
 unfold He
 rw[Qby]
 constructor
 ·rintro ⟨i,hi,h⟩
  obtain ⟨j,hj,rfl⟩:=Qav.mp h
  exact ⟨Qa3.mp hi,Qa3.mp hj⟩
 ·rintro ⟨h1,h2⟩
  exact ⟨x.1,Qa3.mpr h1,Qav.mpr ⟨x.2,Qa3.mpr h2,rfl⟩⟩
theorem MU (n m:Nat):(He n m).Nodup:=by
 unfold He
 induction n with
 | zero=>exact List.Pairwise.nil
 | succ n ih=>
  rw[Qbf,Qbi,Qdq]
  refine ⟨ih,?_,?_⟩
  ·rw[Qcy]
   exact List.Pairwise.map _ (fun a b h q=>h (Prod.mk.inj q).2) Qfn
  ·intro a ha b hb e
   obtain ⟨i,hi,h⟩:=Qby.mp ha
   obtain ⟨j,_,rfl⟩:=Qav.mp h
   rw[Qcy]at hb
   obtain ⟨k,_,rfl⟩:=Qav.mp hb
   have:=(Prod.mk.inj e).1
   have:=Qa3.mp hi
   lia
theorem zB {Q:Int->Prop} {P:Nat->Bool}: ∀{m:Nat},(∀j:Nat,j<m->(Q j↔P j=true))->sm m (fun j=>one (Q j))=((List.range m).filter P).length
 | 0,_=>rfl
 | m+1,h=>by
  show sm m _+one (Q m)=_
  rw[zB (m:=m) fun j hj=>h j (by lia),Qbf,Qcf,V7,bH (h m (by lia))]
  cases e:P m
  ·rw[Qbl (by rw[e];decide),bj (by decide)];simp
  ·rw[Qbk e,gs rfl];simp
theorem uU {Q:Int->Int->Prop} {P:Nat×Nat->Bool} {m:Nat}: ∀{n:Nat},(∀i j:Nat,i<n->j<m->(Q i j↔P (i,j)=true))->bV n m (fun i j=>one (Q i j))=((He n m).filter P).length
 | 0,_=>rfl
 | n+1,h=>by
  rw[jK,uU (n:=n) fun i j hi hj=>h i j (by lia) hj]
  unfold He
  rw[Qbf,Qbi,Qcf,V7,Qcy,Qeu,V6,zB (P:=fun j=>P (n,j)) fun j hj=>h n j (by lia) hj]
  show _=(((_+_:Nat)):Int)
  rw[Qba]
  rfl
theorem Fv {l:List (Nat×Nat)} (hl:l.Nodup) (t:Nat×Nat->Nat×Nat) (p q:Nat×Nat->Bool) (h1: ∀x∈l,p x=true->t x∈l/\p (t x)=true/\t (t x)=x/\q (t x)=!q x):(l.filter fun x=>p x&&q x).length=(l.filter fun x=>p x&&!q x).length:=by
 have le: ∀q:Nat×Nat->Bool,(∀x∈l,p x=true->t x∈l/\p (t x)=true/\t (t x)=x/\q (t x)=!q x)->(l.filter fun x=>p x&&q x).length<=(l.filter fun x=>p x&&!q x).length:=fun q h1=>by
  rw[<-V6 t]
  refine List.Nodup.length_le_of_subset ?_ fun x hx=>?_
  ·have:(l.filter fun x=>p x&&q x).Nodup:=hl.filter _
   refine Qbg.mpr (Qdh (fun {a b} ha hb ph z=>ph ?_) this)
   obtain ⟨a1,a2⟩:=Qa5.mp ha
   obtain ⟨b1,b2⟩:=Qa5.mp hb
   rw[Qbr]at a2 b2
   rw[<-(h1 a a1 a2.1).2.2.1, <-(h1 b b1 b2.1).2.2.1,z]
  ·obtain ⟨a,ha,rfl⟩:=Qav.mp hx
   obtain ⟨a1,a2⟩:=Qa5.mp ha
   rw[Qbr]at a2
   obtain ⟨g1,g2,_,g4⟩:=h1 a a1 a2.1
   exact Qa5.mpr ⟨g1,by rw[g2,g4,a2.2];rfl⟩
 have l1:=le q h1
 have l2:=le (fun x=>!q x) fun x hx hp=>by
  obtain ⟨g1,g2,g3,g4⟩:=h1 x hx hp
  exact ⟨g1,g2,g3,by show (!q (t x))=!!q x;rw[g4]⟩
 have e:(l.filter fun x=>p x&&!!q x)=l.filter fun x=>p x&&q x:=Qfg fun x _=>by rw[Bool.not_not]
 rw[e]at l2
 lia
section
variable {y w:List Nat}
theorem MV {f g:Int->Nat} {a:Nat} (hy:Yd y) (hf:iU y f) (hg:iU y g) (h:Run f g a 0) (x:jU y f g a≠j6 y f g 0):Run (fun k=>jJ g (k - a)) (fun k=>jJ f (k - a)) a 0/\jU y (fun k=>jJ g (k - a)) (fun k=>jJ f (k - a)) a≠j6 y (fun k=>jJ g (k - a)) (fun k=>jJ f (k - a)) 0:=by
 have r:=(h.rv hy hf hg).sy
 refine ⟨⟨fun k h1 h2=>r.lF (k - a) (by lia) (by lia),fun q=>r.hi ?_,fun q=>r.lo ?_⟩,?_⟩
 ·simp only[show (a:Int)+1 - a=(0:Nat)+1 by lia]at q;exact q
 ·simp only[show -((0:Nat):Int) - 1 - a= -(a:Int) - 1 by lia]at q;exact q
 ·have sh: ∀(f:Int->Nat) (k:Int),fJ y (fun k=>f (k - a)) k=fJ y f (k - a):=fun f k=>by
   unfold fJ
   simp only[show k - 1 - (a:Int)=k - a - 1 by lia]
  unfold jU j6 at x ⊢
  rw[sh,sh,sh,sh,show (a:Int)+1 - a=0+1 by lia,show -((0:Nat):Int) - a=(-(a:Int) - 1)+1 by lia,jj hy hf,jj hy hg,jj hy hf,jj hy hg,show -(-(a:Int) - 1)=a+1 by lia]
  intro q
  refine x ?_
  rw[decide_eq_decide]at q ⊢
  rw[show -((0:Nat):Int)= -(0:Int) by lia]
  lia
theorem Bg (hy:Yd y) (hw:SW y w) {i j:Int} {a:Nat}:al y (sq w i) (bq w j) (w.length+w.length)=a+1↔Run (sq w i) (bq w j) a 0/\jU y (sq w i) (bq w j) a≠j6 y (sq w i) (bq w j) 0:=by
 have hd:=fun z=>gW (f:=sq w i) (g:=bq w j) hw.ne hw.ne (fun k=>cN w i k) (fun k=>mq w j k) z
 have key:=xc (n:=w.length+w.length) hy (bz hw i) (mD hy hw j) hd
 constructor
 ·intro e
  obtain ⟨a',r,x⟩:=key.mpr (by lia)
  have:=lA (y:=y) (f:=sq w i) (g:=bq w j) (n:=w.length+w.length) (by lia)
  have e2:a'=a:=by
   have z1:sq w i (-1)≠bq w j (-1):=r.lo
   obtain ⟨d1,d2⟩:=hd z1
   have d3:al y (sq w i) (bq w j) (w.length+w.length)=ft (sq w i) (bq w j) (w.length+w.length) 0:=by
    unfold al at e ⊢
    split at e
    ·lia
    ·rename_i z
     rw[if_neg z]
     split at e
     ·rename_i z2;rw[if_pos z2]
     ·lia
   have d4:ft (sq w i) (bq w j) (w.length+w.length) 0=a'+1:=by
    by_cases q:a'+1<w.length+w.length
    ·exact ze (fun k hk=>r.lF k (by lia) (by lia)) r.hi q
    ·exact absurd (r.lF (ft (sq w i) (bq w j) (w.length+w.length) 0:Nat) (by lia) (by lia)) d2
   lia
  subst e2
  exact ⟨r,x⟩
 ·rintro ⟨r,x⟩
  have h0:=key.mp ⟨a,r,x⟩
  obtain ⟨b,e⟩: ∃b,al y (sq w i) (bq w j) (w.length+w.length)=b+1:=⟨_,(Nat.succ_pred_eq_of_pos h0).symm⟩
  obtain ⟨d1,d2⟩:=hd r.lo
  have d3:al y (sq w i) (bq w j) (w.length+w.length)=ft (sq w i) (bq w j) (w.length+w.length) 0:=by
   unfold al at e ⊢
   split at e
   ·lia
   ·rename_i z
    rw[if_neg z]
    split at e
    ·rename_i z2;rw[if_pos z2]
    ·lia
  rw[d3]
  by_cases q:a+1<w.length+w.length
  ·exact ze (fun k hk=>r.lF k (by lia) (by lia)) r.hi q
  ·exact absurd (r.lF (ft (sq w i) (bq w j) (w.length+w.length) 0:Nat) (by lia) (by lia)) d2
theorem Ji (hy:Yd y) (hw:SW y w) {i j:Int} {a:Nat} (h:al y (sq w i) (bq w j) (w.length+w.length)=a+1):al y (sq w (j - a)) (bq w (i+a)) (w.length+w.length)=a+1:=by
 obtain ⟨r,x⟩:=(Bg hy hw).mp h
 obtain ⟨r2,x2⟩:=MV hy (bz hw i) (mD hy hw j) r x
 have e1:(fun k=>jJ (bq w j) (k - a))=sq w (j - a):=by
  rw[<-fu,sN hy (bz hw j)]
  funext k
  unfold sq
  congr 1;lia
 have e2:(fun k=>jJ (sq w i) (k - a))=bq w (i+a):=by
  rw[fu]
  funext k
  unfold bq
  congr 2;lia
 rw[e1,e2]at r2 x2
 exact (Bg hy hw).mpr ⟨r2,x2⟩
end
theorem Fx {y:List Nat} {f g:Int->Nat} {n:Nat} (h:f (-1)=g (-1)):al y f g n=0:=by unfold al;rw[if_pos (.inr h)]
theorem nj {α:Type} (p q:α->Bool): ∀l:List α,(l.filter p).length=(l.filter fun x=>p x&&q x).length+(l.filter fun x=>p x&&!q x).length
 | []=>rfl
 | a::l=>by
  have ih:=nj p q l
  simp only[List.filter_cons]
  cases p a<;>cases q a<;>simp<;>lia
theorem Fy (h:Int->Int->Int): ∀n:Nat,bV n n (fun i j=>if i<j then h i j else 0)=j7 n h
 | 0=>rfl
 | n+1=>by
  rw[lH,jK,Fy h n]
  show j7 n h+sm n (fun j=>if (n:Int)<j then h n j else 0)+(sm n (fun i=>if i<(n:Int) then h i n else 0)+(if (n:Int)<n then h n n else 0))=j7 n h+sm n (fun j=>h j n)
  rw[if_neg (by lia),aQ (g:=fun _=>0) (fun j hj=>if_neg (by lia)),dk,aQ (h:=fun i=>if i<(n:Int) then h i n else 0) (g:=fun j=>h j n) (fun j hj=>if_pos (by lia))]
  lia
section
variable {y w:List Nat}
noncomputable def dz (y w:List Nat) (x:Nat×Nat):Nat×Nat:=(fG w.length ((x.2:Int) - eJ y w w x.1 x.2+1),fG w.length ((x.1:Int)+eJ y w w x.1 x.2 - 1))
theorem Jj (hy:Yd y) (hw:SW y w):bV w.length w.length (fun i j=>one (0<al y (sq w i) (bq w j) (w.length+w.length)))=2*(((He w.length w.length).filter fun x=>decide (0<eJ y w w x.1 x.2)&&!eK w x.1 x.2 (eJ y w w x.1 x.2)).length:Int):=by
 have lw:=V9.mpr hw.ne
 have e1:bV w.length w.length (fun i j=>one (0<al y (sq w i) (bq w j) (w.length+w.length)))=((He w.length w.length).filter fun x=>decide (0<eJ y w w x.1 x.2)).length:=
  uU (P:=fun x=>decide (0<eJ y w w x.1 x.2)) fun i j _ _=>by rw[decide_eq_true_iff];rfl
 have e2:=nj (fun x=>decide (0<eJ y w w x.1 x.2)) (fun x=>eK w x.1 x.2 (eJ y w w x.1 x.2)) (He w.length w.length)
 have e3:=Fv (MU w.length w.length) (dz y w) (fun x=>decide (0<eJ y w w x.1 x.2)) (fun x=>eK w x.1 x.2 (eJ y w w x.1 x.2)) (fun x hx hp=>by
  obtain ⟨hi,hj⟩:=Bf.mp hx
  have hm:=of_decide_eq_true hp
  obtain ⟨a,ha⟩: ∃a,eJ y w w x.1 x.2=a+1:=⟨_,(Nat.succ_pred_eq_of_pos hm).symm⟩
  have et:dz y w x=(fG w.length ((x.2:Int) - a),fG w.length ((x.1:Int)+a)):=by
   unfold dz
   rw[ha,show (x.2:Int) - ((a+1:Nat):Int)+1=x.2 - a by lia,show (x.1:Int)+((a+1:Nat):Int) - 1=x.1+a by lia]
  have em:eJ y w w (dz y w x).1 (dz y w x).2=a+1:=by
   rw[et]
   show al y (sq w (fG w.length ((x.2:Int) - a):Nat)) (bq w (fG w.length ((x.1:Int)+a):Nat)) (w.length+w.length)=a+1
   rw[cG hw.ne,pV hw.ne]
   exact Ji hy hw ha
  have m0: ∀{i:Nat},i<w.length->(i:Int)%w.length=i:=fun {i} hi=>Qas (by lia) (by lia)
  have c1:(((fG w.length ((x.1:Int)+a):Nat):Int) - a)%w.length=x.1:=by
   rw[cq lw,Qd8,Qc5 _ (Qfi _), <-Qd8,show (x.1:Int)+a - a=x.1 by lia,m0 hi]
  have c2:(((fG w.length ((x.2:Int) - a):Nat):Int)+a)%w.length=x.2:=by
   rw[cq lw,Qdt,show (x.2:Int) - a+a=x.2 by lia,m0 hj]
  have Yz:dz y w (dz y w x)=x:=by
   have:dz y w (dz y w x)=(fG w.length (((dz y w x).2:Int) - a),fG w.length (((dz y w x).1:Int)+a)):=by
    unfold dz at em ⊢
    simp only at em ⊢
    rw[em,show ∀z:Int,z - ((a+1:Nat):Int)+1=z - a from fun z=>by lia,show ∀z:Int,z+((a+1:Nat):Int) - 1=z+a from fun z=>by lia]
   rw[this,et]
   refine Prod.ext ?_ ?_
   ·show fG w.length (((fG w.length ((x.1:Int)+a):Nat):Int) - a)=x.1
    have:=cq lw (((fG w.length ((x.1:Int)+a):Nat):Int) - a)
    rw[c1]at this;lia
   ·show fG w.length (((fG w.length ((x.2:Int) - a):Nat):Int)+a)=x.2
    have:=cq lw (((fG w.length ((x.2:Int) - a):Nat):Int)+a)
    rw[c2]at this;lia
  refine ⟨?_,decide_eq_true (by rw[em];lia),Yz,?_⟩
  ·rw[et];exact Bf.mpr ⟨bB lw ((x.2:Int) - a),bB lw ((x.1:Int)+a)⟩
  ·show eK w (dz y w x).1 (dz y w x).2 (eJ y w w (dz y w x).1 (dz y w x).2)=!eK w x.1 x.2 (eJ y w w x.1 x.2)
   rw[em,ha,et]
   unfold eK
   simp only
   rw[show ∀z:Int,z - ((a+1:Nat):Int)+1=z - a from fun z=>by lia,show ∀z:Int,z - ((a+1:Nat):Int)+1=z - a from fun z=>by lia,show ∀z:Int,z+((a+1:Nat):Int) - 1=z+a from fun z=>by lia,show ∀z:Int,z+((a+1:Nat):Int) - 1=z+a from fun z=>by lia,c1,c2,cq lw,cq lw]
   refine wV fun q=>AU (i:=x.1) (j:=x.2) hy hw hm ?_
   have q1:=q.1
   show ((x.2:Int) - (eJ y w w x.1 x.2:Nat)+1)%w.length=x.1
   rw[ha,show (x.2:Int) - ((a+1:Nat):Int)+1=x.2 - a by lia]
   exact q1)
 rw[e1]
 lia
end
section
variable {y:List Nat} {ws:List (List Nat)}
theorem xk (y w v:List Nat) (c i d j:Nat):((wU y w v c i d j).length:Int)=one (Kw y w v i j=true)+one (0<DI y w v i j):=by
 unfold wU
 rw[V7]
 by_cases p:Kw y w v i j=true<;>by_cases q:0<DI y w v i j<;>simp only[p,q,if_true,if_false,gs,bj,Qar,List.length_nil,not_false_eq_true]<;>simp[one]
theorem Bh (y w v:List Nat) (c i d j:Nat):((MB y w v c i d j).length:Int)=one (0<eJ y w v i j/\ ¬(c=d/\eK w i j (eJ y w v i j)=true)):=by
 unfold MB
 by_cases z:eJ y w v i j=0\/(c=d/\eK w i j (eJ y w v i j)=true)
 ·rw[if_pos z,bj (fun q=>z.elim (fun z=>by lia) q.2)];rfl
 ·rw[if_neg z,gs ⟨Qdk fun q=>z (.inl q),fun q=>z (.inr q)⟩];rfl
theorem Jk {c d i j:Nat} (h:c<d):((mB y ws (c,i) (d,j)).length:Int)=fc y (ws.getD c []) (ws.getD d []) i j:=by
 unfold mB
 have l:i8 (c:Int) i d j=true:=by unfold i8;rw[if_neg (by lia)];exact decide_eq_true (by lia)
 rw[if_pos l,if_pos (Qcw h),V7,Qba,xk,Bh]
 have e:one (0<eJ y (ws.getD c []) (ws.getD d []) i j/\ ¬(c=d/\eK (ws.getD c []) i j (eJ y (ws.getD c []) (ws.getD d []) i j)=true))=one (0<al y (sq (ws.getD c []) i) (bq (ws.getD d []) j) ((ws.getD c []).length+(ws.getD d []).length)):=bH ⟨fun q=>q.1,fun q=>⟨q,fun z=>by lia⟩⟩
 unfold fc
 rw[<-e]
 rfl
theorem Fz {c d i j:Nat} (h:d<c):((mB y ws (c,i) (d,j)).length:Int)=0:=by
 unfold mB
 have l: ¬i8 (c:Int) i d j=true:=by unfold i8;rw[if_neg (by lia),decide_eq_true_iff];lia
 rw[if_neg l,if_neg (by simp;lia)]
 rfl
theorem FA {c i j:Nat}:((mB y ws (c,i) (c,j)).length:Int)=(if (i:Int)<j then one (Kw y (ws.getD c []) (ws.getD c []) i j=true)+one (0<DI y (ws.getD c []) (ws.getD c []) i j) else 0)+one (0<eJ y (ws.getD c []) (ws.getD c []) i j/\ ¬eK (ws.getD c []) i j (eJ y (ws.getD c []) (ws.getD c []) i j)=true):=by
 unfold mB
 have l:i8 (c:Int) i c j=decide ((i:Int)<j):=by unfold i8;rw[if_pos rfl]
 simp only
 rw[if_pos (Sq c),V7,Qba,Bh,l]
 congr 1
 ·by_cases z:(i:Int)<j
  ·rw[if_pos (decide_eq_true z),if_pos z,xk]
  ·rw[if_neg (by simpa using z),if_neg z];rfl
 ·exact bH ⟨fun q=>⟨q.1,fun z=>q.2 ⟨rfl,z⟩⟩,fun q=>⟨q.1,fun z=>q.2 z.2⟩⟩
theorem C5 {c:Nat} (hy:Yd y) (hw:SW y (ws.getD c [])):2*bV (ws.getD c []).length (ws.getD c []).length (fun i j=>((mB y ws (c,i.toNat) (c,j.toNat)).length:Int))=bV (ws.getD c []).length (ws.getD c []).length (fc y (ws.getD c []) (ws.getD c [])):=by
 generalize hg:ws.getD c []=w at*
 have e1:bV w.length w.length (fun i j=>((mB y ws (c,i.toNat) (c,j.toNat)).length:Int))=bV w.length w.length (fun i j=>(if i<j then one (ac y (aB (rd w (i - 1))) (rd w i) (aB (rd w (j - 1))) (rd w j)=true)+one (0<al y (sq w i) (sq w j) (w.length+w.length)) else 0)+one (0<eJ y w w i.toNat j.toNat/\ ¬eK w i.toNat j.toNat (eJ y w w i.toNat j.toNat)=true)):=cf fun i j _ _=>by
  rw[XQ,XQ,FA,hg]
  rfl
 have e2:bV w.length w.length (fun i j=>one (0<eJ y w w i.toNat j.toNat/\ ¬eK w i.toNat j.toNat (eJ y w w i.toNat j.toNat)=true))=((He w.length w.length).filter fun x=>decide (0<eJ y w w x.1 x.2)&&!eK w x.1 x.2 (eJ y w w x.1 x.2)).length:=
  uU (Q:=fun i j=>0<eJ y w w i.toNat j.toNat/\ ¬eK w i.toNat j.toNat (eJ y w w i.toNat j.toNat)=true) (P:=fun x=>decide (0<eJ y w w x.1 x.2)&&!eK w x.1 x.2 (eJ y w w x.1 x.2)) fun i j _ _=>by
   rw[XQ,XQ,Qbr,decide_eq_true_iff]
   simp
 have e3:=Jj hy hw
 have ty: ∀k,aB (rd w (k - 1))≠rd w k:=fun k=>Ne.symm (hw.red k)
 have t1:=ou (n:=w.length) (h:=fun i j=>one (ac y (aB (rd w (i - 1))) (rd w i) (aB (rd w (j - 1))) (rd w j)=true)) (fun i j _ _=>by
  rw[MT hy (hy.cl _ (hw.rd _)) (hw.rd _) (hy.cl _ (hw.rd _)) (hw.rd _) (ty _) (ty _)]) (fun i _=>bj (by unfold ac;rw[if_pos (.inl rfl)];decide))
 have t2:=ou (n:=w.length) (h:=fun i j=>one (0<al y (sq w i) (sq w j) (w.length+w.length))) (fun i j _ _=>by
  have hd:=fun (i j:Int) z=>gW (f:=sq w i) (g:=sq w j) hw.ne hw.ne (fun k=>cN w i k) (fun k=>cN w j k) z
  have k1:=xc hy (bz hw i) (bz hw j) (hd i j)
  have k2:=xc hy (bz hw j) (bz hw i) (hd j i)
  exact bH ⟨fun q=>k2.mp (KG hy (bz hw i) (bz hw j) (k1.mpr q)),fun q=>k1.mp (KG hy (bz hw j) (bz hw i) (k2.mpr q))⟩) (fun i _=>bj (by rw[Fx rfl];exact Qbd _))
 rw[e1,dm,Fy (fun i j=>one (ac y (aB (rd w (i - 1))) (rd w i) (aB (rd w (j - 1))) (rd w j)=true)+one (0<al y (sq w i) (sq w j) (w.length+w.length))),Bc,e2]
 have e4:bV w.length w.length (fc y w w)=bV w.length w.length (fun i j=>one (ac y (aB (rd w (i - 1))) (rd w i) (aB (rd w (j - 1))) (rd w j)=true))+bV w.length w.length (fun i j=>one (0<al y (sq w i) (sq w j) (w.length+w.length)))+bV w.length w.length (fun i j=>one (0<al y (sq w i) (bq w j) (w.length+w.length))):=by
  rw[<-dm, <-dm];rfl
 lia
end
theorem Bi (n:Nat) (h:Int->Int->Int): ∀m:Nat,sm n (fun i=>sm m fun j=>h i j)=sm m fun j=>sm n fun i=>h i j
 | 0=>dk n
 | m+1=>by
  show bV n (m+1) h=sm m (fun j=>sm n fun i=>h i j)+sm n (fun i=>h i m)
  rw[lH, <-Bi n h m]
  rfl
theorem pW {α β:Type} (F:α->List β): ∀l:List α,((l.flatMap F).length:Int)=(l.map fun x=>((F x).length:Int)).sum
 | []=>rfl
 | a::l=>by
  rw[Qc3,V7,Qba,pW F l,Qa7,List.sum_cons]
theorem mG (h:Nat->Int): ∀n:Nat,((List.range n).map h).sum=sm n (fun i=>h i.toNat)
 | 0=>rfl
 | n+1=>by
  rw[Qbf,XN,Qfs,mG h n]
  show _=sm n _+h (((n:Nat):Int).toNat)
  rw[XQ]
  simp
theorem ow (ws:List (List Nat)) (h:Nat×Nat->Int): ∀n:Nat,((qM ws n).map h).sum=sm n fun c=>sm (ws.getD c.toNat []).length fun i=>h (c.toNat,i.toNat)
 | 0=>rfl
 | n+1=>by
  unfold qM
  rw[XN,Qfs,ow ws h n,Qbt]
  show _+((List.range _).map fun i=>h (n,i)).sum=_
  rw[mG]
  rfl
noncomputable def cl {α:Type} (p:α->α->Bool):List α->Nat
 | []=>0
 | x::r=>(r.filter (p x)).length+cl p r
theorem zC {α:Type} (p:α->α->Bool) (m:List α): ∀l:List α,(cl p (l++m):Int)=cl p l+cl p m+(l.map fun x=>((m.filter (p x)).length:Int)).sum
 | []=>by show (cl p m:Int)=((0:Nat):Int)+cl p m+0;lia
 | a::l=>by
  show ((((l++m).filter (p a)).length+cl p (l++m):Nat):Int)=(((l.filter (p a)).length+cl p l:Nat):Int)+cl p m+(((a::l).map fun x=>((m.filter (p x)).length:Int)).sum)
  rw[Qcf,V7,Qa7,List.sum_cons,Qba,Qba,zC p m l,Qba]
  lia
theorem FC (p:Nat×Nat->Nat×Nat->Bool) (c:Nat): ∀n:Nat,(cl p ((List.range n).map fun i=>(c,i)):Int)=j7 n (fun i j=>one (p (c,i.toNat) (c,j.toNat)=true))
 | 0=>rfl
 | n+1=>by
  rw[Qbf,XN,zC,FC p c n,Qbt]
  show _+((0:Nat):Int)+((List.range n).map fun i=>((([(c,n)]:List (Nat×Nat)).filter (p (c,i))).length:Int)).sum=j7 n _+sm n _
  rw[mG,Int.add_assoc]
  congr 1
  rw[show ((0:Nat):Int)=0 from rfl,Qcu]
  refine aQ fun i _=>?_
  show (((([(c,n)]:List (Nat×Nat)).filter (p (c,i))).length:Int))=one (p (c,((i:Nat):Int).toNat) (c,((n:Nat):Int).toNat)=true)
  rw[XQ,XQ]
  cases e:p (c,i) (c,n)
  ·rw[Qbl (by rw[e];decide),bj (by decide)];rfl
  ·rw[Qbk e,gs rfl];rfl
theorem Jl (P:Nat×Nat->Bool) (c n:Nat):((((List.range n).map fun i=>(c,i)).filter P).length:Int)=sm n (fun j=>one (P (c,j.toNat)=true)):=by
 rw[Qeu,V6,zB (P:=fun j=>P (c,j)) fun j _=>by rw[XQ]]
 rfl
theorem FD (ws:List (List Nat)) (p:Nat×Nat->Nat×Nat->Bool): ∀n:Nat,(cl p (qM ws n):Int)=sm n (fun c=>j7 (ws.getD c.toNat []).length (fun i j=>one (p (c.toNat,i.toNat) (c.toNat,j.toNat)=true)))+j7 n (fun c d=>bV (ws.getD c.toNat []).length (ws.getD d.toNat []).length fun i j=>one (p (c.toNat,i.toNat) (d.toNat,j.toNat)=true))
 | 0=>rfl
 | n+1=>by
  unfold qM
  rw[zC,FD ws p n,FC,ow]
  have u:((n:Nat):Int).toNat=n:=XQ n
  show _+_+sm n _=(sm n _+j7 (ws.getD ((n:Nat):Int).toNat []).length (fun i j=>one (p (((n:Nat):Int).toNat,i.toNat) (((n:Nat):Int).toNat,j.toNat)=true)))+(j7 n _+sm n (fun c=>bV (ws.getD c.toNat []).length (ws.getD ((n:Nat):Int).toNat []).length fun i j=>one (p (c.toNat,i.toNat) (((n:Nat):Int).toNat,j.toNat)=true)))
  rw[u]
  have:sm n (fun c=>sm (ws.getD c.toNat []).length fun i=>(((((List.range (ws.getD n []).length).map fun i=>(n,i)).filter (p (c.toNat,i.toNat))).length:Nat):Int))=sm n (fun c=>bV (ws.getD c.toNat []).length (ws.getD n []).length fun i j=>one (p (c.toNat,i.toNat) (n,j.toNat)=true)):=aQ fun c _=>aQ fun i _=>Jl _ _ _
  rw[this]
  lia
theorem FE {h:Int->Int->Int}: ∀{n:Nat},(∀i j:Nat,j<i->i<n->h i j=0)->bV n n h=sm n (fun i=>h i i)+j7 n h
 | 0,_=>rfl
 | n+1,z=>by
  rw[lH,jK,FE (n:=n) fun i j h1 h2=>z i j h1 (by lia),aQ (h:=fun j=>h n j) (g:=fun _=>0) (fun j hj=>z n j hj (by lia)),dk]
  show _+0+(sm n (fun i=>h i n)+h n n)=(sm n (fun i=>h i i)+h n n)+(j7 n h+sm n (fun j=>h j n))
  lia
theorem FF (y:List Nat) (ws:List (List Nat)):((nP y ws).length:Int)=sm ws.length (fun c=>bV (ws.getD c.toNat []).length (ws.getD c.toNat []).length fun i j=>((mB y ws (c.toNat,i.toNat) (c.toNat,j.toNat)).length:Int))+j7 ws.length (fun c d=>bV (ws.getD c.toNat []).length (ws.getD d.toNat []).length fun i j=>((mB y ws (c.toNat,i.toNat) (d.toNat,j.toNat)).length:Int)):=by
 unfold nP places
 rw[pW]
 have e:((qM ws ws.length).map fun o=>(((qM ws ws.length).flatMap fun p=>mB y ws o p).length:Int))=(qM ws ws.length).map fun o=>sm ws.length fun d=>sm (ws.getD d.toNat []).length fun j=>((mB y ws o (d.toNat,j.toNat)).length:Int):=Qdc fun o _=>by rw[pW,ow]
 rw[e,ow]
 have e2:sm ws.length (fun c=>sm (ws.getD c.toNat []).length fun i=>sm ws.length fun d=>sm (ws.getD d.toNat []).length fun j=>((mB y ws (c.toNat,i.toNat) (d.toNat,j.toNat)).length:Int))=bV ws.length ws.length (fun c d=>bV (ws.getD c.toNat []).length (ws.getD d.toNat []).length fun i j=>((mB y ws (c.toNat,i.toNat) (d.toNat,j.toNat)).length:Int)):=aQ fun c _=>Bi _ _ _
 rw[e2,FE]
 intro c d Rv _
 rw[XQ,XQ]
 have: ∀n m:Nat,bV n m (fun _ _=>0)=0:=fun n m=>by unfold bV;rw[show (fun _:Int=>sm m fun _=>0)=fun _=>0 from funext fun _=>dk _,dk]
 rw[<-this (ws.getD c []).length (ws.getD d []).length]
 exact cf fun i j _ _=>Fz Rv
section
variable {y:List Nat} {ws:List (List Nat)} {L:Nat->Bool} {r:Nat->Nat} {M:Nat} {N:Nat->Nat->Nat->Nat}
noncomputable def FG (ws:List (List Nat)) (N:Nat->Nat->Nat->Nat) (o p:Nat×Nat):Bool:=gZ (pO ws N o.1) (pI ws N o.1) (pO ws N p.1) (pI ws N p.1) o.2 p.2
theorem zD (h:dD y ws L r M) (hN:Lies y ws L r M N):(cl (FG ws N) (places ws):Int)=(nP y ws).length+sm ws.length (fun c=>(((ws.getD c.toNat []).length / r c.toNat:Nat):Int) - 1):=by
 unfold places
 rw[FD,FF]
 have e1:sm ws.length (fun c=>j7 (ws.getD c.toNat []).length (fun i j=>one (FG ws N (c.toNat,i.toNat) (c.toNat,j.toNat)=true)))=sm ws.length (fun c=>bV (ws.getD c.toNat []).length (ws.getD c.toNat []).length fun i j=>((mB y ws (c.toNat,i.toNat) (c.toNat,j.toNat)).length:Int))+sm ws.length (fun c=>(((ws.getD c.toNat []).length / r c.toNat:Nat):Int) - 1):=by
  rw[<-mC]
  refine aQ fun c hc=>?_
  rw[XQ]
  have a:=Ft h hN hc
  have b:=C5 (c:=c) h.yd (h.sw c hc)
  have e:j7 (ws.getD c []).length (fun i j=>one (FG ws N (c,i.toNat) (c,j.toNat)=true))=j7 (ws.getD c []).length (fun i j=>one (gZ (pO ws N c) (pI ws N c) (pO ws N c) (pI ws N c) i j=true)):=mF fun i j _ _=>by
   unfold FG
   rw[XQ,XQ]
  rw[e]
  lia
 have e2:j7 ws.length (fun c d=>bV (ws.getD c.toNat []).length (ws.getD d.toNat []).length fun i j=>one (FG ws N (c.toNat,i.toNat) (d.toNat,j.toNat)=true))=j7 ws.length (fun c d=>bV (ws.getD c.toNat []).length (ws.getD d.toNat []).length fun i j=>((mB y ws (c.toNat,i.toNat) (d.toNat,j.toNat)).length:Int)):=mF fun c d oH hd=>by
  rw[XQ,XQ]
  have b:=C3 h hN (c:=c) (d:=d) (by lia) hd (by lia)
  have e3:bV (ws.getD c []).length (ws.getD d []).length (fun i j=>one (FG ws N (c,i.toNat) (d,j.toNat)=true))=bV (ws.getD c []).length (ws.getD d []).length (fun i j=>one (gZ (pO ws N c) (pI ws N c) (pO ws N d) (pI ws N d) i j=true)):=cf fun i j _ _=>by
   unfold FG
   rw[XQ,XQ]
  rw[e3,b]
  exact (cf fun i j _ _=>by rw[XQ,XQ];exact Jk oH).symm
 rw[e1,e2]
 lia
end
def Lx (f g:Int->Nat):Prop:= ∃m:Nat,f m<g m/\ ∀l:Nat,l<m->f l=g l
theorem uV {w:List Nat} (hw:w≠[]) {i k:Nat} (hi:i<=w.length) (hk:k<w.length):(hW w i)[k]? =some (rd w ((i:Int)+k)):=by
 rw[oe hi hk]
 unfold Fw
 have:=eF hw ((i:Int)+k)
 rw[<-this]
 congr 1
 have e:(((k+i)%w.length:Nat):Int)=((i:Int)+k)%w.length:=by rw[Qdx,Qba,Int.add_comm]
 lia
theorem FH {w u:List Nat} (hw:w≠[]) (hl:u.length=w.length) {i j:Nat} (hi:i<=w.length) (hj:j<=w.length):hW w i<hW u j↔Lx (sq w i) (sq u j):=by
 have hu:u≠[]:=fun z=>hw (by rw[z]at hl;exact Qbz.mp hl.symm)
 have g1: ∀{k:Nat} (hk:k<(hW w i).length),(hW w i)[k]=sq w i k:=fun {k} hk=>by
  have:=uV hw hi (k:=k) (by rw[cM]at hk;exact hk)
  rw[LJ hk]at this
  exact Qan this
 have g2: ∀{k:Nat} (hk:k<(hW u j).length),(hW u j)[k]=sq u j k:=fun {k} hk=>by
  have:=uV hu (i:=j) (k:=k) (by lia) (by rw[cM]at hk;exact hk)
  rw[LJ hk]at this
  exact Qan this
 rw[List.lt_iff_exists]
 constructor
 ·rintro (⟨_,h⟩ | ⟨m,h1,h2,h3,h4⟩)
  ·rw[cM,cM,hl]at h;lia
  ·refine ⟨m,by rw[<-g1 h1, <-g2 h2];exact h4,fun l x_=>?_⟩
   rw[<-g1 (by lia), <-g2 (by lia)]
   exact h3 l x_
 ·rintro ⟨m,h1,h2⟩
  have hp:=V9.mpr hw
  have hm:m<w.length:=by
   refine Classical.byContradiction fun z=>?_
   have d:=Qes m w.length
   have c1:=iA (f:=sq w i) (p:=w.length) (fun k=>cN w i k) (m%w.length:Nat) (m / w.length)
   have c2:=iA (f:=sq u j) (p:=w.length) (fun k=>by rw[<-hl];exact cN u j k) (m%w.length:Nat) (m / w.length)
   have e:((m%w.length:Nat):Int)+((m / w.length:Nat):Int)*(w.length:Nat)=m:=by
    rw[Int.mul_comm];exact_mod_cast d
   rw[e]at c1 c2
   rw[c1,c2,h2 (m%w.length) (by have:=Qdl m hp;lia)]at h1
   lia
  refine .inr ⟨m,by rw[cM];exact hm,by rw[cM,hl];exact hm,fun l x_=>?_,?_⟩
  ·rw[g1,g2];exact h2 l x_
  ·rw[g1,g2];exact h1
theorem lI {w:List Nat} (hw:w≠[]): ∃i:Nat,i<w.length/\fI w=hW w i:=by
 have hp:=V9.mpr hw
 rcases kl (lq w (w.length - 1)) w with h | h
 ·exact ⟨0,hp,by unfold fI;rw[h,wO]⟩
 ·unfold lq at h
  obtain ⟨k,hk,e⟩:=Qav.mp h
  have:=Qa3.mp hk
  exact ⟨k+1,by lia,by unfold fI;exact e.symm⟩
theorem nk {w:List Nat} {i:Nat} (hi:i<w.length): ¬hW w i<fI w:=by
 unfold fI
 refine km _ _ _ ?_
 cases i with
 | zero=>rw[wO];exact XS
 | succ i=>exact kb _ (Qav.mpr ⟨i,Qa3.mpr (by lia),rfl⟩)
noncomputable def leads (w:List Nat):Bool:=decide (fI w<fI (gM w))
theorem jL {v:List Nat} (h:v≠[]) (k:Int):sq (gM v) k=bq v (-1 - k):=by
 funext x
 unfold sq bq
 rw[mw h]
 congr 2;lia
theorem pX {v:List Nat} (h:v≠[]):gM v≠[]:=fun z=>h (Qbz.mp (by rw[<-cC v,z];rfl))
theorem sO {w:List Nat} (hw:w≠[]):leads w=true↔ ∃i:Int, ∀j:Int,Lx (sq w i) (bq w j):=by
 have hp:=V9.mpr hw
 have hl:=cC w
 have ht:=pX hw
 unfold leads
 rw[decide_eq_true_iff]
 constructor
 ·intro h
  obtain ⟨i,hi,ei⟩:=lI hw
  refine ⟨i,fun j=>?_⟩
  have hj:=bB (n:=(gM w).length) (by rw[hl];exact hp) (-1 - j)
  have h2:fI w<hW (gM w) (fG (gM w).length (-1 - j)):=List.not_le.mp fun z=>by
   have:=List.lt_of_le_of_lt z h
   exact nk hj this
  rw[ei]at h2
  have h3:=(FH hw hl (by lia) (by lia)).mp h2
  rw[cG ht,jL hw,show -1 - (-1 - j)=j by lia]at h3
  exact h3
 ·rintro ⟨i,h⟩
  obtain ⟨j,hj,ej⟩:=lI ht
  have h2:=h (-1 - j)
  rw[show (-1:Int) - (j:Int)= -1 - j by lia, <-jL hw, <-cG hw]at h2
  have hi:=bB hp i
  have h3:=(FH hw hl (by lia) (by lia)).mpr h2
  rw[<-ej]at h3
  exact List.lt_of_le_of_lt (List.not_lt.mp (nk hi)) h3
theorem sP {w v:List Nat} (hw:w≠[]) (hv:v≠[]) {i j:Int} (h:cA w v i j):leads w=leads v:=by
 have e1: ∀k,sq w k=sq v (k - i+j):=fun k=>by
  funext x
  have:=h (k - i+x)
  unfold sq at this ⊢
  rw[show k+x=i+(k - i+x) by lia,this]
  congr 1;lia
 have e2: ∀k,bq w k=bq v (k - i+j):=fun k=>by rw[<-fu, <-fu,e1]
 rw[Qdj,sO hw,sO hv]
 constructor
 ·rintro ⟨a,h⟩
  refine ⟨a - i+j,fun b=>?_⟩
  have:=h (b - j+i)
  rwa [e1,e2,show b - j+i - i+j=b by lia]at this
 ·rintro ⟨a,h⟩
  refine ⟨a - j+i,fun b=>?_⟩
  rw[e1,e2,show a - j+i - i+j=a by lia]
  exact h _
theorem sQ {y w:List Nat} (hy:Yd y) (hw:SW y w):leads (gM w)=!leads w:=by
 have hl:AllLt w:=fun c hc=>hy.lt c (hw.bP c hc)
 have ne:fI w≠fI (gM w):=fun z=>by
  obtain ⟨i,hi,ei⟩:=lI hw.ne
  obtain ⟨j,hj,ej⟩:=lI (pX hw.ne)
  rw[cC]at hj
  have: ∀k:Nat,k<w.length->sq w i k=sq (gM w) j k:=fun k hk=>by
   have h1:=uV hw.ne (i:=i) (k:=k) (by lia) hk
   have h2:=uV (pX hw.ne) (i:=j) (k:=k) (by rw[cC];lia) (by rw[cC];exact hk)
   rw[<-ei,z,ej,h2]at h1
   exact (Qan h1).symm
  refine uN hy hw i (-1 - j) ?_
  rw[<-jL hw.ne]
  have hp:=V9.mpr hw.ne
  refine fw (p:=w.length) (q:=w.length) hp hp (fun k=>cN w i k) (fun k=>by rw[<-cC w];exact cN (gM w) j k) fun n hn=>?_
  by_cases q:n<w.length
  ·exact this n q
  ·have c1:=cN w i ((n - w.length:Nat):Int)
   have c2:=cN (gM w) j ((n - w.length:Nat):Int)
   rw[show ((n - w.length:Nat):Int)+w.length=n by lia]at c1
   rw[cC,show ((n - w.length:Nat):Int)+w.length=n by lia]at c2
   rw[c1,c2]
   exact this _ (by lia)
 unfold leads
 rw[Iz hl, <-decide_not]
 refine decide_eq_decide.mpr ⟨fun h z=>?_,fun h=>?_⟩
 ·exact Qdr _ (List.lt_trans h z)
 ·exact List.not_le.mp fun z=>ne (List.le_antisymm z (List.not_lt.mp h))
theorem C6 {y w v:List Nat} (hy:Yd y) (hw:SW y w) (hv:SW y v) {i j:Int} (h: ∀k,sq w i k=bq v j k):leads v=!leads w:=by
 have:cA w (gM v) i (-1 - j):=fun k=>by rw[jL hv.ne,show -1 - (-1 - j)=j by lia];exact h k
 rw[sP hw.ne (pX hv.ne) this,sQ hy hv,Bool.not_not]
theorem FI {w:List Nat} (hw:w≠[]) {d:Nat}:xT w d↔ ∀k:Int,rd w (k+d)=rd w k:=by
 have hp:=V9.mpr hw
 have fr: ∀i:Nat,Fw w i=some (rd w i):=fun i=>by
  unfold Fw
  rw[<-eF hw (i:Int)]
  congr 1
 constructor
 ·intro h k
  have:=h (fG w.length k)
  rw[fr,fr]at this
  have:=Qan this
  rw[bT hw]at this
  rw[<-this, <-fF w (k+d), <-fF w (((fG w.length k+d:Nat)):Int),Qba,cq hp,Qdt]
 ·intro h i
  rw[fr,fr,Qba,h]
theorem jm {w:List Nat} (hw:w≠[]) {s:Nat} (h:bN w s):0<s/\ ∀i j:Int,cA w w i j↔(i - j)%(s:Int)=0:=by
 rcases h with ⟨z,_⟩ | h'
 ·exact absurd z hw
 have h:bN w s:= .inr h'
 obtain ⟨h1,h2,h3,_⟩:=h'
 have ps: ∀k:Int,rd w (k+s)=rd w k:=(FI hw).mp ((gn hw h2).mp (uF h1 h2 h3))
 have pm: ∀(k t:Int),rd w (k+t*s)=rd w k:=fun k t=>by
  rcases Int.le_total 0 t with q | q
  ·obtain ⟨n,rfl⟩: ∃n:Nat,t=n:=⟨t.toNat,by lia⟩
   exact iA ps k n
  ·obtain ⟨n,rfl⟩: ∃n:Nat,t= -(n:Int):=⟨(-t).toNat,by lia⟩
   have:=iA ps (k+ -(n:Int)*s) n
   rw[<-this]
   congr 1
   rw[Int.neg_mul];lia
 refine ⟨h1,fun i j=>⟨fun p=>?_,fun p k=>?_⟩⟩
 ·have pd: ∀k:Int,rd w (k+(i - j))=rd w k:=fun k=>by
   have:=p (k - j)
   unfold sq at this
   rw[show i+(k - j)=k+(i - j) by lia,show j+(k - j)=k by lia]at this
   exact this
  have e:=Qez (i - j) s
  have hn:=Qbo (i - j) (b:=(s:Int)) (by lia)
  have cE:=Qbm (i - j) (b:=(s:Int)) (by lia)
  refine Classical.byContradiction fun z=>?_
  obtain ⟨d,hd⟩: ∃d:Nat,(i - j)%(s:Int)=d:=⟨((i - j)%(s:Int)).toNat,by lia⟩
  refine bN.least h (j:=d) (by lia) (by lia) ((FI hw).mpr fun k=>?_)
  have q:=pd k
  rw[<-e,hd,Int.mul_comm, <-Int.add_assoc,pm]at q
  exact q
 ·unfold sq
  have e:=Qez (i - j) s
  rw[p,Qcu,Int.mul_comm]at e
  rw[show i+k=j+k+(i - j) by lia, <-e,pm]
theorem FJ {y:List Nat} {ws:List (List Nat)} {r:Nat->Nat} {M:Nat} (hy:Yd y) (hw: ∀c,c<ws.length->SW y (ws.getD c [])) (hr: ∀c,c<ws.length->bN (ws.getD c []) (r c)) (hM: ∀c d,c<ws.length->d<ws.length->(ws.getD c []).length+(ws.getD d []).length<=M):dD y ws (fun c=>leads (ws.getD c [])) r M:=
 ⟨hy,hw,hM,fun c d i j hc hd h=>sP (hw c hc).ne (hw d hd).ne h,fun c d i j hc hd h=>C6 hy (hw c hc) (hw d hd) h,fun c hc=>(jm (hw c hc).ne (hr c hc)).1,fun c hc=>(jm (hw c hc).ne (hr c hc)).2⟩
noncomputable def cY (y:List Nat):List Nat:=(y.filter aA).mergeSort fun a b=>decide (a<=b)
theorem eU (y:List Nat):(cY y).Perm (y.filter aA):=List.mergeSort_perm _ _
theorem xl (y:List Nat):(cY y).Pairwise (· <= ·):=
 (List.pairwise_mergeSort (le:=fun a b=>decide (a<=b)) (fun a b c h1 h2=>decide_eq_true (Qa8 (of_decide_eq_true h1) (of_decide_eq_true h2))) (fun a b=>by
  rcases Nat.le_total a b with z | z
  ·rw[decide_eq_true z];rfl
  ·rw[decide_eq_true z,Bool.or_true]) (y.filter aA)).imp fun z=>of_decide_eq_true z
theorem uW {y l:List Nat} (h:l.Perm (y.filter aA)) (p:l.Pairwise (· <= ·)):l=cY y:=CM (h.trans (eU y).symm) p (xl y)
theorem pY {y:List Nat} (h: ∀c∈y,Lt c):(y.filter fun c=>decide (c∈aU))=y.filter aA:=Qfg fun c hc=>(fQ (h c hc)).symm
theorem FK {y:List Nat} (h:Yd y) {e:Nat} (he:e∈y):PyProof.Rows.lo1 e∈cY y:=by
 refine (eU y).mem_iff.mpr (Qa5.mpr ?_)
 rcases h.lt e he with z | z
 ·rw[(a_ e z).2.1];exact ⟨he,(a_ e z).1⟩
 ·rw[(bJ e z).2.1];exact ⟨h.cl e he,(a_ _ (bJ e z).2.2.2).1⟩
theorem KH: ∀c∈aU++ie,isUp c=decide (c∈ie):=by decide+kernel
theorem fX {y:List Nat} (h:Yd y):2*(cY y).length=y.length:=by rw[(eU y).length_eq];exact EZ h
structure Pr where
 t:Addr
 c:Nat
 i:Nat
noncomputable def jn (ps:List Pr):List V:=ps.map fun p=>V.ref p.t
theorem fN (ps:List Pr):(jn ps).length=ps.length:=by unfold jn;rw[V6]
theorem Jm (a b:List Pr):jn a++jn b=jn (a++b):=by unfold jn;rw[XN]
theorem xm (a:List Pr) (p:Pr):jn a++[V.ref p.t]=jn (a++[p]):=by unfold jn;rw[XN];rfl
theorem Jn (a:List Pr):(jn a).reverse=jn a.reverse:=by unfold jn;rw[Qc7]
theorem zE {ps:List Pr} {i:Nat} {x:V} (h:(jn ps)[i]? =some x): ∃p,ps[i]? =some p/\x=V.ref p.t:=by
 unfold jn at h
 rw[Qaj]at h
 cases e:ps[i]? with
 | none=>rw[e]at h;cases h
 | some p=>rw[e]at h;cases h;exact ⟨p,rfl,rfl⟩
structure iS (H:Hp) (p:Pr):Prop where
 tp:H p.t=some (.tup [.int p.c, .int p.i])
 cz:p.c<1000
 iz:p.i<1000
theorem iS.same {H H':Hp} {p:Pr} (h:iS H p) (s:ao H H'):iS H' p:=⟨s _ _ h.tp,h.cz,h.iz⟩
structure Od where
 o:Addr
 ps:List Pr
structure C7 (H:Hp) (o:Od):Prop where
 tp:H o.o=some (.tup (jn o.ps))
 pr: ∀p∈o.ps,iS H p
 fw:o.ps.length<=100
theorem C7.same {H H':Hp} {o:Od} (h:C7 H o) (s:ao H H'):C7 H' o:=⟨s _ _ h.tp,fun p hp=>(h.pr p hp).same s,h.fw⟩
noncomputable def mH (os:List Od):List V:=os.map fun o=>V.ref o.o
theorem oz (os:List Od):(mH os).length=os.length:=by unfold mH;rw[V6]
theorem pZ (a:List Od) (p:Od):mH a++[V.ref p.o]=mH (a++[p]):=by unfold mH;rw[XN];rfl
theorem FL {os:List Od} {i:Nat} {o:Od} (h:os[i]? =some o):(mH os)[i]? =some (V.ref o.o):=by unfold mH;rw[Qaj,h];rfl
structure zF (H:Hp) (dr:Addr) (ws:List (List Nat)) (os:List Od):Prop where
 ex: ∃wt ot,H dr=some (.tup [.ref wt, .ref ot])/\H wt=some (.tup (iR ws))/\H ot=some (.tup (mH os))
 od: ∀o∈os,C7 H o
theorem zF.same {H H':Hp} {dr:Addr} {ws:List (List Nat)} {os:List Od} (h:zF H dr ws os) (s:ao H H'):zF H' dr ws os:=by
 obtain ⟨⟨wt,ot,h1,h2,h3⟩,g⟩:=h
 exact ⟨⟨wt,ot,s _ _ h1,s _ _ h2,s _ _ h3⟩,fun o ho=>(g o ho).same s⟩
noncomputable def zG (y:List Nat) (os:List Od) (e:Nat):List Pr:=((os[(cY y).idxOf (PyProof.Rows.lo1 e)]?).map Od.ps).getD []
noncomputable def xn (y:List Nat) (os:List Od) (e:Nat):List Pr:=if isUp e=true then (zG y os e).reverse else zG y os e
theorem p6 {y:List Nat} {os:List Od} {e:Nat} (h:Yd y) (he:e∈y) (ho:2*os.length=y.length): ∃o∈os,os[(cY y).idxOf (PyProof.Rows.lo1 e)]? =some o/\zG y os e=o.ps:=by
 have hi:=Qad (FK h he)
 have hl:=fX h
 have Mo:(cY y).idxOf (PyProof.Rows.lo1 e)<os.length:=by lia
 exact ⟨os[(cY y).idxOf (PyProof.Rows.lo1 e)],Qay Mo,LJ Mo,by unfold zG;rw[LJ Mo];rfl⟩
noncomputable def dE (y:List Nat) (os:List Od) (e:Nat):List (Nat×Nat×Nat):=(xn y os e).map fun p=>(p.c,p.i,e)
noncomputable def fZ (y:List Nat) (os:List Od):List (Nat×Nat×Nat):=y.flatMap (dE y os)
noncomputable def Pr.pair (p:Pr):Nat×Nat:=(p.c,p.i)
noncomputable def xX (band l:Nat):Bool:=decide (l=band)||decide (l=aB band)
noncomputable def eH (band c:Nat) (w:List Nat) (n:Nat):List (Nat×Nat):=((List.range n).filter fun i=>xX band (w.getD i 0)).map fun i=>(c,i)
noncomputable def bO (band:Nat) (ws:List (List Nat)) (n:Nat):List (Nat×Nat):=(List.range n).flatMap fun c=>eH band c (ws.getD c []) (ws.getD c []).length
theorem p7 {band c i l:Nat} {w:List Nat} (h:w[i]? =some l):eH band c w (i+1)=eH band c w i++if xX band l=true then [(c,i)] else []:=by
 have e:w.getD i 0=l:=by rw[XO,h];rfl
 unfold eH
 rw[Qbf,Qcf,XN]
 congr 1
 by_cases z:xX band l=true
 ·rw[if_pos z,Qbk (by rw[e];exact z)];rfl
 ·rw[if_neg z,Qbl (by rw[e];exact z)];rfl
theorem gu {band i:Nat} {ws:List (List Nat)} {w:List Nat} (h:ws[i]? =some w):bO band ws (i+1)=bO band ws i++eH band i w w.length:=by
 have e:ws.getD i []=w:=by rw[XO,h];rfl
 unfold bO
 rw[Qbf,Qbi]
 congr 1
 rw[Qc3,Qfo,Qaw,e]
theorem C8 (band c:Nat) (w:List Nat) (n:Nat):(eH band c w n).length<=n:=by
 unfold eH
 rw[V6]
 exact Qa8 (Qc1 _ _) (by rw[Qb8];exact Sq _)
structure MW (y:List Nat) (ws:List (List Nat)):Prop where
 sd:ws.length<=4
 all: ∀w∈ws,(∀c∈w,c∈y)/\w.length<=12
def lJ (y:List Nat) (ws:List (List Nat)) (os:List Od):Prop:=os.length=(cY y).length/\ ∀(j:Nat) (o:Od) (b:Nat),os[j]? =some o->(cY y)[j]? =some b->(o.ps.map Pr.pair).Perm (bO b ws ws.length)
theorem iS.ts {H H':Hp} {p:Pr} (h:iS H p) (s:aR H H'):iS H' p:=⟨s _ _ h.tp,h.cz,h.iz⟩
theorem FN {band l:Nat} (hb:band∈aU) (hl:Lt l):decide (PyProof.Rows.lo1 l=band)=xX band l:=by
 unfold xX
 rcases hl with h | h
 ·have e:=(a_ l h).2.1
  have n:l≠aB band:=fun z=>ml _ (a_ band hb).2.2 (z▸h)
  rw[e,decide_eq_false n,Qd0]
 ·have e:=(bJ l h).2.1
  have n:l≠band:=fun z=>ml l h (z▸hb)
  rw[e,decide_eq_false n,Bool.false_or]
  refine decide_eq_decide.mpr ⟨fun z=>by rw[<-z,aM (.inr h)],fun z=>by rw[z,aM (.inl hb)]⟩
theorem YA {α:Type} {l:List α} (h:l.Nodup) {i j:Nat} (hi:i<l.length) (hj:j<l.length) (e:l[i]=l[j]):i=j:=by
 have hp:=Qcl.mp h
 rcases Nat.lt_trichotomy i j with z | z | z
 ·exact absurd e (hp i j hi hj z)
 ·exact z
 ·exact absurd e.symm (hp j i hj hi z)
theorem C9 {l:List (Nat×Nat×Nat)} (h:l.Nodup) {n:Nat} {p:Nat×Nat×Nat} (e:l[n]? =some p):l.idxOf p=n:=by
 obtain ⟨hn,e2⟩:=LK.mp e
 have hm:p∈l:=Qab e
 have hi:=Qad hm
 exact YA h hi hn ((Qbu hi).trans e2.symm)
theorem p8 {α:Type} {f:Nat->List α} (g:α->Nat): ∀{l:List Nat},l.Nodup->(∀e∈l,(f e).Nodup)->(∀e∈l, ∀p∈f e,g p=e)->(l.flatMap f).Nodup
 | [],_,_,_=>List.nodup_nil
 | a::l,hn,h1,h2=>by
  obtain ⟨n1,n2⟩:=Qb2.mp hn
  rw[Qc3,Qdq]
  refine ⟨h1 a XS,p8 g n2 (fun e he=>h1 e (kb _ he)) (fun e he=>h2 e (kb _ he)),fun x hx y hy z=>?_⟩
  subst z
  obtain ⟨e,he,YB⟩:=Qby.mp hy
  have g1:=h2 a XS x hx
  have g2:=h2 e (kb _ he) x YB
  exact n1 (by rw[<-g1,g2];exact he)
theorem FO (band c:Nat) (w:List Nat) (n:Nat):(eH band c w n).Nodup:=by
 unfold eH
 show (List.map _ _).Pairwise (· ≠ ·)
 rw[Qbg]
 exact (Qfn.filter _).imp fun {i j} h z=>h (by cases z;rfl)
theorem sR (band:Nat) (ws:List (List Nat)) (n:Nat):(bO band ws n).Nodup:=
 p8 Prod.fst Qfn (fun c _=>FO _ _ _ _) fun c _ p hp=>by
  unfold eH at hp
  obtain ⟨i,_,rfl⟩:=Qav.mp hp
  rfl
theorem zH {band c i n:Nat} {ws:List (List Nat)} (hc:c<n) (hi:i<(ws.getD c []).length) (hb:xX band ((ws.getD c []).getD i 0)=true):(c,i)∈bO band ws n:=
 Qby.mpr ⟨c,Qa3.mpr hc,Qav.mpr ⟨i,Qa5.mpr ⟨Qa3.mpr hi,hb⟩,rfl⟩⟩
theorem lJ.at {y:List Nat} {ws:List (List Nat)} {os:List Od} {e:Nat} (h:Yd y) (ho:lJ y ws os) (he:e∈y):(((xn y os e).map Pr.pair)).Perm (bO (PyProof.Rows.lo1 e) ws ws.length):=by
 have hl:=fX h
 have yS:=ho.1
 obtain ⟨o,o1,o2,o3⟩:=p6 (os:=os) h he (by lia)
 have hm:=FK h he
 have hb:(cY y)[(cY y).idxOf (PyProof.Rows.lo1 e)]? =some (PyProof.Rows.lo1 e):=by
  have hi:=Qad hm
  rw[LJ hi,Qbu hi]
 have p:=ho.2 _ o _ o2 hb
 unfold xn
 rw[o3]
 split
 ·rw[Qc7]
  exact (List.reverse_perm _).trans p
 ·exact p
theorem FP {y:List Nat} {ws:List (List Nat)} {os:List Od} (h:Yd y) (ho:lJ y ws os):(fZ y os).Nodup:=by
 refine p8 (fun p=>p.2.2) h.nd (fun e he=>?_) fun e _ p hp=>?_
 ·have hn:=(ho.at h he).nodup_iff.mpr (sR _ _ _)
  have e1:dE y os e=((xn y os e).map Pr.pair).map fun x=>(x.1,x.2,e):=by unfold dE;rw[Qbt];rfl
  rw[e1]
  show (List.map _ _).Pairwise (· ≠ ·)
  rw[Qbg]
  exact hn.imp fun {a b} g z=>g (by cases a;cases b;cases z;rfl)
 ·unfold dE at hp
  obtain ⟨x,_,rfl⟩:=Qav.mp hp
  rfl
theorem FQ {y:List Nat} {ws:List (List Nat)} {os:List Od} {c i l e:Nat} {w:List Nat} (h:Yd y) (ho:lJ y ws os) (hw:ws[c]? =some w) (hl:w[i]? =some l) (Jo:l∈y) (he:e=l\/e=aB l):(c,i,e)∈fZ y os:=by
 have cE:=h.lt l Jo
 have zI:e∈y:=by rcases he with rfl | rfl;exact Jo;exact h.cl l Jo
 have e1:PyProof.Rows.lo1 e=PyProof.Rows.lo1 l:=by
  rcases he with rfl | rfl
  ·rfl
  ·rcases cE with g | g
   ·rw[(bJ _ (a_ l g).2.2).2.1,(a_ l g).2.1,aM (.inl g)]
   ·rw[(a_ _ (bJ l g).2.2.2).2.1,(bJ l g).2.1]
 have hb:PyProof.Rows.lo1 l∈aU:=by
  rcases cE with g | g
  ·rw[(a_ l g).2.1];exact g
  ·rw[(bJ l g).2.1];exact (bJ l g).2.2.2
 have YC:xX (PyProof.Rows.lo1 l) l=true:=by rw[<-FN hb cE];exact decide_eq_true rfl
 have d1:ws.getD c []=w:=by rw[XO,hw];rfl
 have d2:w.getD i 0=l:=by rw[XO,hl];rfl
 have hm:(c,i)∈(xn y os e).map Pr.pair:=by
  rw[(ho.at h zI).mem_iff,e1]
  exact zH (LK.mp hw).1 (by rw[d1];exact (LK.mp hl).1) (by rw[d1,d2];exact YC)
 obtain ⟨p,hp,ep⟩:=Qav.mp hm
 refine Qby.mpr ⟨e,zI,Qav.mpr ⟨p,hp,?_⟩⟩
 have e2:p.c=c:=congrArg Prod.fst ep
 have e3:p.i=i:=congrArg Prod.snd ep
 rw[e2,e3]
noncomputable def uX (n i:Nat):Nat:=if i=0 then n - 1 else i - 1
theorem FR {n i:Nat} (h:i<n):uX n i<n:=by unfold uX;split<;>lia
theorem Bj {n i:Nat} (h:i<n):((i:Int) - 1)%(n:Int)=((uX n i:Nat):Int):=by
 unfold uX
 split
 ·rename_i z
  subst z
  have:((0:Nat):Int) - 1+(n:Int)=((n - 1:Nat):Int):=by lia
  rw[<-Qc0,this]
  exact Qas (by lia) (by lia)
 ·have:(i:Int) - 1=((i - 1:Nat):Int):=by lia
  rw[this]
  exact Qas (by lia) (by lia)
noncomputable abbrev C4:=Nat×Nat×Nat×Nat
noncomputable def fz (ps:List (Nat×Nat×Nat)) (c:Nat) (w:List Nat) (i:Nat):C4:=(c,i,ps.idxOf (c,uX w.length i,aB (w.getD (uX w.length i) 0)),ps.idxOf (c,i,w.getD i 0))
noncomputable def mI (ps:List (Nat×Nat×Nat)) (c:Nat) (w:List Nat) (n:Nat):List C4:=(List.range n).map (fz ps c w)
noncomputable def gv (ps:List (Nat×Nat×Nat)) (ws:List (List Nat)) (n:Nat):List C4:=(List.range n).flatMap fun c=>mI ps c (ws.getD c []) (ws.getD c []).length
theorem xo (ps:List (Nat×Nat×Nat)) (c:Nat) (w:List Nat) (n:Nat):mI ps c w (n+1)=mI ps c w n++[fz ps c w n]:=by unfold mI;rw[Qbf,XN];rfl
theorem uY {ps:List (Nat×Nat×Nat)} {ws:List (List Nat)} {i:Nat} {w:List Nat} (h:ws[i]? =some w):gv ps ws (i+1)=gv ps ws i++mI ps i w w.length:=by
 have e:ws.getD i []=w:=by rw[XO,h];rfl
 unfold gv
 rw[Qbf,Qbi]
 congr 1
 rw[Qc3,Qfo,Qaw,e]
noncomputable def Hf (lo hi x:Int):Bool:=decide (lo<x)&&decide (x<hi)
noncomputable def xp (p q r s:Int):Bool:=!decide (Hf (if q<p then q else p) (if q>p then q else p) r=Hf (if q<p then q else p) (if q>p then q else p) s)
noncomputable def meets (x y:C4):Bool:=xp x.2.2.1 x.2.2.2 y.2.2.1 y.2.2.2
noncomputable def j8 (y:List Nat) (ws:List (List Nat)) (os:List Od):List C4:=gv (fZ y os) ws ws.length
theorem Jp {y:List Nat} {os:List Od} {i m e:Nat} {p:Pr} (he:y[i]? =some e) (hp:(xn y os e)[m]? =some p):(fZ y os)[((y.take i).flatMap (dE y os)).length+m]? =some (p.c,p.i,e):=by
 obtain ⟨hi,e1⟩:=LK.mp he
 have hy:y=y.take i++e::y.drop (i+1):=by
  rw[<-e1, <-Qcn hi,Qbn]
 have h1:fZ y os=(y.take i).flatMap (dE y os)++(dE y os e++(y.drop (i+1)).flatMap (dE y os)):=by
  unfold fZ
  conv=>lhs;arg 2;rw[hy]
  rw[Qbi,Qc3]
 have h2:(dE y os e)[m]? =some (p.c,p.i,e):=by unfold dE;rw[Qaj,hp];rfl
 rw[h1,Qbj (Qfm _ _),Nat.add_sub_cancel_left,Qa9 (LK.mp h2).1]
 exact h2
structure zJ (y:List Nat) (ws:List (List Nat)) (L:Nat->Bool) (r:Nat->Nat) (M:Nat) (os:List Od):Prop where
 ok:lJ y ws os
 asc: ∀o∈os,(o.ps.map Pr.pair).Pairwise fun s t=>bg (eG y ws L r M s.1 s.2) (eG y ws L r M t.1 t.2)=true
theorem zK: ∀c∈aU++ie,PyProof.Rows.lo1 (aB c)=PyProof.Rows.lo1 c/\isUp c=!aA c:=by decide+kernel
theorem C_ {α:Type} {y:List Nat} (F:Nat->List α) {k k' e:Nat} (he:y[k]? =some e) (h:k<k'):((y.take k).flatMap F).length+(F e).length<=((y.take k').flatMap F).length:=by
 have e1:(y.take k').take (k+1)=y.take (k+1):=by rw[List.take_take,Qcp (by lia)]
 have e2:y.take k'=y.take (k+1)++(y.take k').drop (k+1):=by rw[<-e1,Qbn]
 rw[e2,Qbi,V7, <-take_snoc he,Qbi,V7]
 simp
theorem mJ {y:List Nat} {ws:List (List Nat)} {os:List Od} (hy:Yd y) (ho:lJ y ws os) (hs: ∀c,c<ws.length->SW y (ws.getD c [])) {c i e:Nat} (hc:c<ws.length) (hi:i<(ws.getD c []).length) (he:e=rd (ws.getD c []) i\/e=aB (rd (ws.getD c []) i)):
  e∈y/\ ∃(m:Nat) (p:Pr),(xn y os e)[m]? =some p/\p.pair=(c,i)/\(fZ y os).idxOf (c,i,e)=((y.take (y.idxOf e)).flatMap (dE y os)).length+m:=by
 have hw:=hs c hc
 have ey:e∈y:=he.elim (fun z=>z▸hw.rd _) fun z=>z▸hy.cl _ (hw.rd _)
 have Rw:=FQ hy ho (c:=c) (i:=i) (l:=rd (ws.getD c []) i) (e:=e) (w:=ws.getD c []) (by rw[XO,LJ hc];rfl) (mm hi) (hw.rd _) he
 unfold fZ at Rw
 obtain ⟨e',xR,hp⟩:=Qby.mp Rw
 unfold dE at hp
 obtain ⟨p,hV,kz⟩:=Qav.mp hp
 obtain ⟨q1,WE⟩:=Prod.mk.inj kz
 obtain ⟨q2,q3⟩:=Prod.mk.inj WE
 clear WE
 subst q3
 obtain ⟨m,hm,em⟩:=Qdd hV
 have KI:(xn y os e')[m]? =some p:=by rw[LJ hm,em]
 refine ⟨ey,m,p,KI,by unfold Pr.pair;rw[q1,q2],?_⟩
 have hk:y[y.idxOf e']? =some e':=by rw[LJ (Qad ey),Qbu]
 have:=Jp (os:=os) hk KI
 rw[q1,q2]at this
 exact C9 (FP hy ho) this
theorem FT (y:List Nat) (os:List Od) (e:Nat):(dE y os e).length=(xn y os e).length:=by unfold dE;rw[V6]
theorem FU {l:List Pr} {y:List Nat} {ws:List (List Nat)} {L:Nat->Bool} {r:Nat->Nat} {M:Nat} (h:(l.map Pr.pair).Pairwise fun s t=>bg (eG y ws L r M s.1 s.2) (eG y ws L r M t.1 t.2)=true) {m n c i d j:Nat} {p q:Pr} (hp:l[m]? =some p) (hq:l[n]? =some q) (ep:p.pair=(c,i)) (eq:q.pair=(d,j)) (di:(c,i)≠(d,j)):
  m≠n/\decide (m<n)=bg (eG y ws L r M c i) (eG y ws L r M d j):=by
 have Sy:m≠n:=fun z=>di (by rw[z,hq]at hp;rw[<-ep, <-eq,Qan hp])
 obtain ⟨hm,em⟩:=LK.mp hp
 obtain ⟨hn,en⟩:=LK.mp hq
 refine ⟨Sy,?_⟩
 have key:=Qcl.mp h
 by_cases z:m<n
 ·have:=key m n (by rw[V6];exact hm) (by rw[V6];exact hn) z
  rw[Qc8,Qc8,em,en,ep,eq]at this
  rw[decide_eq_true z]
  exact this.symm
 ·have:=key n m (by rw[V6];exact hn) (by rw[V6];exact hm) (by lia)
  rw[Qc8,Qc8,em,en,ep,eq]at this
  rw[decide_eq_false z]
  exact (gY this).1.symm
theorem Bk {α:Type} {l:List α} {m:Nat} {p:α} (h:l.reverse[m]? =some p):m<l.length/\l[l.length - 1 - m]? =some p:=by
 obtain ⟨hm,_⟩:=LK.mp h
 rw[Qaz]at hm
 rw[Qcj hm]at h
 exact ⟨hm,h⟩
theorem MX {y:List Nat} {ws:List (List Nat)} {os:List Od} (hy:Yd y) (hs: ∀c,c<ws.length->SW y (ws.getD c [])) (ho:lJ y ws os) (c i d j e e':Nat) (hc:c<ws.length) (hd:d<ws.length) (hi:i<(ws.getD c []).length) (hj:j<(ws.getD d []).length) (he:e=rd (ws.getD c []) i\/e=aB (rd (ws.getD c []) i)) (xR:e'=rd (ws.getD d []) j\/e'=aB (rd (ws.getD d []) j)) (cE:y.idxOf e<y.idxOf e'):(fZ y os).idxOf (c,i,e)<(fZ y os).idxOf (d,j,e'):=by
 obtain ⟨ey,m,p,hm,_,e1⟩:=mJ hy ho hs hc hi he
 obtain ⟨ey',m',p',KI,_,e2⟩:=mJ hy ho hs hd hj xR
 rw[e1,e2]
 have hk:y[y.idxOf e]? =some e:=by rw[LJ (Qad ey),Qbu]
 have:=C_ (dE y os) hk cE
 rw[FT]at this
 have Ck:=(LK.mp hm).1
 lia
theorem pos_at {y:List Nat} {ws:List (List Nat)} {os:List Od} (hy:Yd y) (hs: ∀c,c<ws.length->SW y (ws.getD c [])) (ho:lJ y ws os) {c i d j x:Nat} (hc:c<ws.length) (hd:d<ws.length) (hi:i<(ws.getD c []).length) (hj:j<(ws.getD d []).length) (hx:aA x=true) (LP:rd (ws.getD c []) i=x\/rd (ws.getD c []) i=aB x) (MY:rd (ws.getD d []) j=x\/rd (ws.getD d []) j=aB x):
  ∃o∈os, ∃(m n m' n' A B:Nat) (p q p' q':Pr),o.ps[m]? =some p/\o.ps[n]? =some q/\o.ps[o.ps.length - 1 - m']? =some p'/\o.ps[o.ps.length - 1 - n']? =some q'/\m'<o.ps.length/\n'<o.ps.length/\p.pair=(c,i)/\q.pair=(d,j)/\p'.pair=(c,i)/\q'.pair=(d,j)/\
   (fZ y os).idxOf (c,i,x)=A+m/\(fZ y os).idxOf (d,j,x)=A+n/\(fZ y os).idxOf (c,i,aB x)=B+m'/\(fZ y os).idxOf (d,j,aB x)=B+n':=by
 have ol:2*os.length=y.length:=by rw[ho.1];exact fX hy
 have lc:Lt (rd (ws.getD c []) i):=hy.lt _ ((hs c hc).rd _)
 have ld:Lt (rd (ws.getD d []) j):=hy.lt _ ((hs d hd).rd _)
 have vi:(x=rd (ws.getD c []) i\/x=aB (rd (ws.getD c []) i))/\(aB x=rd (ws.getD c []) i\/aB x=aB (rd (ws.getD c []) i))/\Lt x:=by
  rcases LP with z | z
  ·exact ⟨.inl z.symm, .inr (by rw[z]),z▸lc⟩
  ·have YD:x<128/\x∈aU:=by
    have h9:97<=x/\x<=122:=by unfold aA at hx;simpa using hx
    refine ⟨by lia,?_⟩
    have: ∀k,k<26->k+97∈aU:=by decide
    have h8:=this (x - 97) (by lia)
    rwa [show x - 97+97=x by lia]at h8
   have lx:Lt x:= .inl YD.2
   exact ⟨.inr (by rw[z,aM lx]), .inl z.symm,lx⟩
 have lx:=vi.2.2
 have vj:(x=rd (ws.getD d []) j\/x=aB (rd (ws.getD d []) j))/\(aB x=rd (ws.getD d []) j\/aB x=aB (rd (ws.getD d []) j)):=by
  rcases MY with z | z
  ·exact ⟨.inl z.symm, .inr (by rw[z])⟩
  ·exact ⟨.inr (by rw[z,aM lx]), .inl z.symm⟩
 obtain ⟨xy,m,p,hm,ep,e1⟩:=mJ hy ho hs hc hi vi.1
 obtain ⟨_,n,q,hn,eq,e2⟩:=mJ hy ho hs hd hj vj.1
 obtain ⟨_,m',p',KI,Lc,Ek⟩:=mJ hy ho hs hc hi vi.2.1
 obtain ⟨_,n',q',Se,Rg,Jq⟩:=mJ hy ho hs hd hj vj.2
 obtain ⟨o,Sz,_,eo⟩:=p6 hy xy ol
 have YE:isUp x=false:=by rw[(zK x lx.mem).2,hx];rfl
 have up1:isUp (aB x)=true:=by rw[(zK _ lx.aB.mem).2,fM x lx.mem,hx];rfl
 have s0:xn y os x=o.ps:=by unfold xn;rw[YE,if_neg (by decide),eo]
 have s1:xn y os (aB x)=o.ps.reverse:=by
  unfold xn
  rw[up1,if_pos rfl]
  have:zG y os (aB x)=zG y os x:=by unfold zG;rw[(zK x lx.mem).1]
  rw[this,eo]
 rw[s0]at hm hn
 rw[s1]at KI Se
 obtain ⟨b1,Ck⟩:=Bk KI
 obtain ⟨b2,vM⟩:=Bk Se
 exact ⟨o,Sz,m,n,m',n',_,_,p,q,p',q',hm,hn,Ck,vM,b1,b2,ep,eq,Lc,Rg,e1,e2,Ek,Jq⟩
theorem lies_of {y:List Nat} {ws:List (List Nat)} {L:Nat->Bool} {r:Nat->Nat} {M:Nat} {os:List Od} (hy:Yd y) (hs: ∀c,c<ws.length->SW y (ws.getD c [])) (h:zJ y ws L r M os):Lies y ws L r M fun c i e=>(fZ y os).idxOf (c,i,e):=by
 refine ⟨MX hy hs h.ok,fun c i d j x hc hd hi hj di hx LP MY=>?_⟩
 obtain ⟨o,Sz,m,n,m',n',A,B,p,q,p',q',hm,hn,Ck,vM,b1,b2,ep,eq,Lc,Rg,e1,e2,Ek,Jq⟩:=pos_at hy hs h.ok hc hd hi hj hx LP MY
 have k1:=FU (h.asc o Sz) hm hn ep eq di
 have k2:=FU (h.asc o Sz) Ck vM Lc Rg di
 rw[e1,e2,Ek,Jq]
 refine ⟨by lia,by lia,?_,?_⟩
 ·rw[<-k1.2];exact decide_eq_decide.mpr (by lia)
 ·rw[<-k2.2];exact decide_eq_decide.mpr (by lia)
noncomputable def cst (y w:List Nat) (i:Int):Int:=xV y (aB (rd w (i - 1))) (rd w i)
theorem FV (y w:List Nat) (p k:Int):fJ y (sq w p) k=cst y w (p+k):=by
 unfold fJ cst sq
 rw[show p+(k - 1)=p+k - 1 by lia]
noncomputable def xY (n:Int):Nat:=(48+n).toNat
noncomputable def stx (y w:List Nat):List Nat:=(List.range w.length).map fun i:Nat=>xY (cst y w i)
theorem dq (y w:List Nat):(stx y w).length=w.length:=by unfold stx;rw[V6,Qb8]
theorem MZ: ∀n:Nat,n<10->dg n=[48+n]:=by decide+kernel
noncomputable def jo (lg n:Nat):Nat:=3+lg / max n 1
noncomputable def mK (y u:List Nat) (lg r:Nat):List (Str×V):=ee "backward" (.str (S (dh (jo lg u.length) (stx y u).reverse))) (ee "onward" (.str (S (dh (jo lg u.length) (stx y u)))) (ee "leads" (.bl (leads u)) (ee "root_size" (.int r) (ee "size" (.int u.length) []))))
noncomputable def KJ (t w:Addr) (p:Nat):List (Str×V):=ee "place" (.int p) (ee "way" (.ref w) (ee "strand" (.ref t) []))
section
variable {y u:List Nat} {lg r:Nat} {t w:Addr} {p:Nat}
theorem Bl:(mK y u lg r).lookup ("size":Str)=some (.int u.length):=by
 unfold mK
 rw[aJ,if_neg (by decide+kernel),aJ,if_neg (by decide+kernel),aJ,if_neg (by decide+kernel),aJ,if_neg (by decide+kernel),aJ,if_pos rfl]
theorem oA:(mK y u lg r).lookup ("root_size":Str)=some (.int r):=by
 unfold mK
 rw[aJ,if_neg (by decide+kernel),aJ,if_neg (by decide+kernel),aJ,if_neg (by decide+kernel),aJ,if_pos rfl]
theorem FW:(mK y u lg r).lookup ("leads":Str)=some (.bl (leads u)):=by
 unfold mK
 rw[aJ,if_neg (by decide+kernel),aJ,if_neg (by decide+kernel),aJ,if_pos rfl]
theorem Rx:(mK y u lg r).lookup ("onward":Str)=some (.str (S (dh (jo lg u.length) (stx y u)))):=by
 unfold mK
 rw[aJ,if_neg (by decide+kernel),aJ,if_pos rfl]
theorem Jr:(mK y u lg r).lookup ("backward":Str)=some (.str (S (dh (jo lg u.length) (stx y u).reverse))):=by
 unfold mK
 rw[aJ,if_pos rfl]
theorem lK:(KJ t w p).lookup ("place":Str)=some (.int p):=by unfold KJ;rw[aJ,if_pos rfl]
theorem mL:(KJ t w p).lookup ("way":Str)=some (.ref w):=by unfold KJ;rw[aJ,if_neg (by decide+kernel),aJ,if_pos rfl]
theorem sS:(KJ t w p).lookup ("strand":Str)=some (.ref t):=by unfold KJ;rw[aJ,if_neg (by decide+kernel),aJ,if_neg (by decide+kernel),aJ,if_pos rfl]
end
theorem da (f:Str) (v:V): ∀fs:List (Str×V),(ee f v fs).length<=fs.length+1
 | []=>Sq _
 |(g,x)::r=>by
  unfold ee
  split
  ·exact Qb7 _
  ·exact Qbw (da f v r)
structure Sn where
 a:Addr
 t:Addr
 wy:Addr
 c:Nat
 i:Nat
 u:List Nat
 p:Nat
 r:Nat
structure Dc (H:Hp) (C a:Addr) (y u:List Nat) (lg r:Nat):Prop where
 ob: ∃dx,H a=some (.ins C dx (mK y u lg r))
 sw:SW y u
 uz:u.length<=lg
 lz:lg<=1000
 rt:bN u r
theorem Dc.same {H H':Hp} {C a:Addr} {y u:List Nat} {lg r:Nat} (h:Dc H C a y u lg r) (s:ao H H'):Dc H' C a y u lg r:=by
 obtain ⟨dx,e⟩:=h.ob
 exact ⟨⟨dx,s _ _ e⟩,h.sw,h.uz,h.lz,h.rt⟩
structure jq (H:Hp) (CW CS:Addr) (y:List Nat) (lg:Nat) (s:Sn):Prop where
 ob: ∃dx,H s.a=some (.ins CS dx (KJ s.t s.wy s.p))
 st:H s.t=some (.tup [.int s.c, .int s.i])
 wy:Dc H CW s.wy y s.u lg s.r
 pz:s.p<s.u.length
theorem jq.same {H H':Hp} {CW CS:Addr} {y:List Nat} {lg:Nat} {s:Sn} (h:jq H CW CS y lg s) (sm:ao H H'):jq H' CW CS y lg s:=by
 obtain ⟨dx,e⟩:=h.ob
 exact ⟨⟨dx,sm _ _ e⟩,sm _ _ h.st,h.wy.same sm,h.pz⟩
noncomputable def DK (y:List Nat) (lg:Nat) (s:Sn):List Nat:=(dh (jo lg s.u.length) (stx y s.u)).drop (s.p+1)
noncomputable def DL (y:List Nat) (lg:Nat) (s:Sn):List Nat:=(dh (jo lg s.u.length) (stx y s.u).reverse).drop (s.u.length - 1 - s.p)
noncomputable def seg (l:List Nat) (x z:Nat):List Nat:=(l.drop x).take (z - x)
def iL (_:PySem.W.Frag):Sp:=fun vs H Q _=> ∃(y w:List Nat) (i:Nat),vs=[.str (S y), .str (S w), .int i]/\Yd y/\y.length<=8/\SW y w/\w.length<=1000/\i<w.length/\ ∀(n:Nat) H',cst y w i=n->n<8->ao H H'->Q (.int n) H'
theorem mM {K:PySem.W.Frag} {vs:List V} {H:Hp} {Q:VK} {E:XK} (h:iL K vs H Q E):vs.length=3:=by obtain ⟨_,_,_,rfl,_⟩:=h;rfl
def xq (_:PySem.W.Frag) (C:Addr):Sp:=fun vs H Q _=> ∃(x dx:Addr) (y w:List Nat) (lg:Nat),vs=[.ref x, .str (S y), .str (S w), .int lg]/\H x=some (.ins C dx [])/\Yd y/\y.length<=8/\SW y w/\w.length<=lg/\lg<=1000/\ ∀(r:Nat) H',bN w r->H' x=some (.ins C dx (mK y w lg r))->aO x H H'->Q .dY H'
theorem Dd {K:PySem.W.Frag} {C:Addr} {vs:List V} {H:Hp} {Q:VK} {E:XK} (h:xq K C vs H Q E):vs.length=4:=by obtain ⟨_,_,_,_,_,rfl,_⟩:=h;rfl
def sU (_:PySem.W.Frag) (C:Addr):Sp:=fun vs H Q _=> ∃(x dx t w:Addr) (p:Nat),vs=[.ref x, .ref t, .ref w, .int p]/\H x=some (.ins C dx [])/\ ∀H',H' x=some (.ins C dx (KJ t w p))->aO x H H'->Q .dY H'
theorem zL {K:PySem.W.Frag} {C:Addr} {vs:List V} {H:Hp} {Q:VK} {E:XK} (h:sU K C vs H Q E):vs.length=4:=by obtain ⟨_,_,_,_,_,rfl,_⟩:=h;rfl
def f_ (_:PySem.W.Frag) (CW CS:Addr):Sp:=fun vs H Q _=> ∃(y:List Nat) (lg:Nat) (s:Sn) (x z:Nat),vs=[.ref s.a, .int x, .int z]/\y.length<=8/\jq H CW CS y lg s/\x<=z/\Q (.str (S (seg (DK y lg s) x z))) H
theorem nR {K:PySem.W.Frag} {CW CS:Addr} {vs:List V} {H:Hp} {Q:VK} {E:XK} (h:f_ K CW CS vs H Q E):vs.length=3:=by obtain ⟨_,_,_,_,_,rfl,_⟩:=h;rfl
def gE (_:PySem.W.Frag) (CW CS:Addr):Sp:=fun vs H Q _=> ∃(y:List Nat) (lg:Nat) (s:Sn) (x z:Nat),vs=[.ref s.a, .int x, .int z]/\y.length<=8/\jq H CW CS y lg s/\x<=z/\Q (.str (S (seg (DL y lg s) x z))) H
theorem p_ {K:PySem.W.Frag} {CW CS:Addr} {vs:List V} {H:Hp} {Q:VK} {E:XK} (h:gE K CW CS vs H Q E):vs.length=3:=by obtain ⟨_,_,_,_,_,rfl,_⟩:=h;rfl
theorem Js {l:List Nat} {a b:Nat} (h:a<=b):cut l (some (a:Int)) (some (b:Int))=(l.drop a).take (b - a):=by
 unfold cut
 rw[HT.gk,HT.gk]
 by_cases z:a<=l.length
 ·rw[Qcp z]
  by_cases z2:b<=l.length
  ·rw[Qcp z2]
  ·rw[Qc6 (by lia),Qau (by rw[Qat];lia),Qau (by rw[Qat];lia)]
 ·rw[Qc6 (by lia),Qc6 (by lia),Qca (Sq _),Qca (by lia)]
  simp
theorem Bm {l:List Nat} {f x z:Nat} (h:x<=z):cut l (some ((f:Int)+x)) (some ((f:Int)+z))=seg (l.drop f) x z:=by
 rw[show (f:Int)+x=((f+x:Nat):Int) by lia,show (f:Int)+z=((f+z:Nat):Int) by lia,Js (by lia)]
 unfold seg
 rw[List.drop_drop,show f+z - (f+x)=z - x by lia]
theorem lL {lg n:Nat} (h:1<=n):n*jo lg n<=3*n+lg/\2*n+lg<n*jo lg n:=by
 unfold jo
 rw[Nat.max_eq_left h,Nat.mul_add]
 have h1:=Qdi lg n
 have h2:=Qdl lg (show 0<n by lia)
 lia
theorem sV (m:Nat) (l:List Nat):(dh m l).length=l.length*m:=by
 unfold dh
 rw[List.length_flatten,List.map_replicate,List.sum_replicate_nat,Qb6]
theorem SW.dS {y w:List Nat} (hy:Yd y) (h:SW y w):My.dS w=fI w:=by unfold My.dS;rw[h.core hy]
theorem uZ (l:List Nat) (x z j:Nat):(seg l x z)[j]? =if j<z - x then l[x+j]? else none:=by
 unfold seg
 rw[Qcx]
 split
 ·rw[Qb5]
 ·rfl
theorem zM {l m:List Nat} {x z:Nat}:seg l x (x+z)=seg m x (x+z)↔ ∀k,x<=k->k<x+z->l[k]? =m[k]?:= by
 constructor
 ·intro h k h1 h2
  have:=congrArg (·[k - x]?) h
  simp only[uZ]at this
  rwa [if_pos (by lia),if_pos (by lia),show x+(k - x)=k by lia]at this
 ·intro h
  refine Qfh fun j=>?_
  rw[uZ,uZ]
  by_cases z':j<x+z - x
  ·rw[if_pos z',if_pos z',h (x+j) (by lia) (by lia)]
  ·rw[if_neg z',if_neg z']
noncomputable def M0 (b:Bool) (y:List Nat) (lg:Nat) (s:Sn):List Nat:=if b=true then DK y lg s else DL y lg s
def jr (l m:List Nat) (n:Nat):Prop:= ∀k,k<n->l[k]? =m[k]?
def qb (_:PySem.W.Frag) (CW CS fa fb:Addr):Sp:=fun vs H Q _=> ∃(y:List Nat) (lg:Nat) (s t:Sn) (b:Bool) (en:Nat),vs=[.ref (if b=true then fa else fb), .ref s.a, .ref t.a, .int en]/\y.length<=8/\jq H CW CS y lg s/\jq H CW CS y lg t/\en<=100000/\ ∀m:Nat,jr (M0 b y lg s) (M0 b y lg t) m->(en<=m\/(M0 b y lg s)[m]?≠ (M0 b y lg t)[m]?)->Q (.int m) H
theorem xr {K:PySem.W.Frag} {CW CS fa fb:Addr} {vs:List V} {H:Hp} {Q:VK} {E:XK} (h:qb K CW CS fa fb vs H Q E):vs.length=4:=by obtain ⟨_,_,_,_,_,_,rfl,_⟩:=h;rfl
theorem jr.more {l m:List Nat} {x z:Nat} (h:jr l m x) (e:seg l x (x+z)=seg m x (x+z)):jr l m (x+z):=fun k hk=>by
 by_cases q:k<x
 ·exact h k q
 ·exact zM.mp e k (by lia) hk
theorem FX {l m:List Nat} {x z:Nat} (h:seg l x (x+z)≠seg m x (x+z)): ∃k,x<=k/\k<x+z/\l[k]?≠ m[k]?:= Classical.byContradiction fun q=>h (zM.mpr fun k h1 h2=>Classical.byContradiction fun r=>q ⟨k,h1,h2,r⟩)
noncomputable def zN (s:Sn):Int×Int:=if leads s.u=true then ((s.c:Int),((s.p / s.r:Nat):Int)) else (-(s.c:Int), -(((s.u.length - 1 - s.p) / s.r:Nat):Int))
def qc (_:PySem.W.Frag) (CW CS:Addr):Sp:=fun vs H Q _=> ∃(y:List Nat) (lg:Nat) (s:Sn),vs=[.ref s.a]/\jq H CW CS y lg s/\ ∀p H',H p=none->H' p=some (.tup [.int (zN s).1, .int (zN s).2])->ao H H'->Q (.ref p) H'
theorem xt {K:PySem.W.Frag} {CW CS:Addr} {vs:List V} {H:Hp} {Q:VK} {E:XK} (h:qc K CW CS vs H Q E):vs.length=1:=by obtain ⟨_,_,_,rfl,_⟩:=h;rfl
noncomputable def jV (y:List Nat) (M:Nat) (s:Sn):List Int:=kk y (sq s.u s.p) 0 M++[(zN s).1,(zN s).2]
def js (_:PySem.W.Frag) (CW CS:Addr):Sp:=fun vs H Q _=> ∃(y:List Nat) (lg:Nat) (s t:Sn),vs=[.ref s.a, .ref t.a]/\Yd y/\y.length<=8/\jq H CW CS y lg s/\jq H CW CS y lg t/\rd s.u s.p=rd t.u t.p/\ ∀H',ao H H'->Q (.bl (bg (jV y (2*lg) s) (jV y (2*lg) t))) H'
theorem nS {K:PySem.W.Frag} {CW CS:Addr} {vs:List V} {H:Hp} {Q:VK} {E:XK} (h:js K CW CS vs H Q E):vs.length=2:=by obtain ⟨_,_,_,_,rfl,_⟩:=h;rfl
theorem jt {u:List Nat} {r:Nat} (hn:u≠[]) (h:bN u r):1<=r/\r<=u.length:=by
 rcases h with ⟨z,_⟩ | ⟨h1,h2,_⟩
 ·exact absurd z hn
 ·exact ⟨h1,h2⟩
theorem Bn {y u:List Nat} {i:Nat} (h:i<u.length):(stx y u)[i]? =some (xY (cst y u i)):=by
 unfold stx
 rw[Qaj,List.getElem?_range h]
 rfl
theorem u4 (y u:List Nat) (i:Int):cst y u (i%u.length)=cst y u i:=by
 unfold cst
 rw[fF, <-fF u (i%u.length - 1),Qd8,Qc5 _ (Qfi _), <-Qd8,fF]
theorem FY {y:List Nat} {lg:Nat} {s:Sn} (hn:s.u≠[]) {k:Nat} (h:s.p+1+k<s.u.length*jo lg s.u.length):(DK y lg s)[k]? =some (xY (fJ y (sq s.u s.p) (k+1))):=by
 have hp:=V9.mpr hn
 unfold DK
 rw[Qb5,lr _ _ _ (by rw[dq,Qb6];exact h),dq,Bn (Qdl _ hp),FV,Qdx,u4]
 congr 3
 lia
theorem FZ {y:List Nat} {lg:Nat} {s:Sn} (hn:s.u≠[]) (hp:s.p<s.u.length) {k:Nat} (h:s.u.length - 1 - s.p+k<s.u.length*jo lg s.u.length):(DL y lg s)[k]? =some (xY (fJ y (sq s.u s.p) (-(k:Int)))):=by
 have hl:=V9.mpr hn
 unfold DL
 rw[Qb5,lr _ _ _ (by rw[Qaz,dq,Qb6];exact h),Qaz,dq]
 have hm:=Qdl (s.u.length - 1 - s.p+k) hl
 rw[Qcj (by rw[dq];exact hm),dq,Bn (by lia),FV]
 congr 2
 rw[<-u4 y s.u (s.p+ -(k:Int)), <-u4 y s.u ((s.u.length - 1 - (s.u.length - 1 - s.p+k)%s.u.length:Nat):Int)]
 congr 1
 have e:((s.u.length - 1 - (s.u.length - 1 - s.p+k)%s.u.length:Nat):Int)=(s.u.length:Int) - 1 - ((s.u.length:Int) - 1 - s.p+k)%s.u.length:=by
  have:(((s.u.length - 1 - s.p+k)%s.u.length:Nat):Int)=((s.u.length:Int) - 1 - s.p+k)%s.u.length:=by
   rw[Qdx];congr 1;lia
  lia
 rw[e,Qd8,Qc5 _ (Qfi _), <-Qd8]
 congr 1
 lia
theorem sW {lg:Nat} {s:Sn} {en:Nat} (hp:s.p<s.u.length) (he:en<=s.u.length+lg):s.p+1+en<s.u.length*jo lg s.u.length+1/\s.u.length - 1 - s.p+en<s.u.length*jo lg s.u.length:=by
 have:=(lL (lg:=lg) (n:=s.u.length) (by lia)).2
 lia
theorem Bo {u:List Nat} {r:Nat} (hn:u≠[]) (h:bN u r) (p k:Int):sq u p (k+r)=sq u p k:=by
 have:=((jm hn h).2 (p+r) p).mpr (by rw[show p+(r:Int) - p=r by lia,Int.emod_self])
 have e:=this k
 unfold sq at e ⊢
 rw[show p+(k+r)=p+r+k by lia]
 exact e
theorem Bp {a b:Int} (ha:0<=a) (hb:0<=b) (h:xY a=xY b):a=b:=by unfold xY at h;lia
theorem F_ {a b:Int} (ha:0<=a) (hb:0<=b):xY a<xY b↔a<b:=by unfold xY;lia
theorem Bq {y:List Nat} {f:Int->Nat} (hy:Yd y) (h:iU y f) (k:Int):0<=fJ y f k:=by
 have:=(eT (hy.cl _ (h.bP (k - 1))) (h.bP k) (Ne.symm (h.red k))).1
 unfold fJ
 lia
theorem Br {l m:List Nat} {en a n:Nat} (ha:a<en) (h1: ∀k,k<a->l[k]? =m[k]?) (h2:l[a]?≠ m[a]?) (g1:jr l m n) (g2:en<=n\/l[n]?≠ m[n]?):n=a:=by
 by_cases z:a<n
 ·exact absurd (g1 a z) h2
 ·by_cases z2:n<a
  ·rcases g2 with g2 | g2
   ·lia
   ·exact absurd (h1 n z2) g2
  ·lia
theorem Bs {l m:List Nat} {en n:Nat} (h1: ∀k,k<en->l[k]? =m[k]?) (g2:en<=n\/l[n]?≠ m[n]?):en<=n:=by
 rcases g2 with g2 | g2
 ·exact g2
 ·exact Classical.byContradiction fun z=>g2 (h1 n (by lia))
theorem oB {l:List Nat} {a x:Nat} (h:l[a]? =some x):seg l a (a+1)=[x]:=by
 obtain ⟨ha,e⟩:=LK.mp h
 unfold seg
 rw[Qcn ha,e,show a+1 - a=1 by lia]
 rfl
theorem Ga (x z:Nat):decide ([x]<[z])=decide (x<z):=decide_eq_decide.mpr ⟨fun h=>(Qey.mp h).elim id fun q=>absurd q.2 (Qdr _),fun h=>Qey.mpr (.inl h)⟩
theorem Jt (a b c d:Int):i8 a b c d=bg [a,b] [c,d]:=by
 unfold i8
 show _=if a=c then (if b=d then bg [] [] else decide (b<d)) else decide (a<c)
 by_cases z:a=c
 ·rw[if_pos z,if_pos z]
  by_cases q:b=d
  ·rw[if_pos q,q];simp[bg]
  ·rw[if_neg q]
 ·rw[if_neg z,if_neg z]
noncomputable def Bt (ss:List Sn):List V:=ss.map fun s=>V.ref s.a
theorem lM (ss:List Sn):(Bt ss).length=ss.length:=by unfold Bt;rw[V6]
theorem M1 {ss:List Sn} {i:Nat} {s:Sn} (h:ss[i]? =some s):(Bt ss)[i]? =some (V.ref s.a):=by unfold Bt;rw[Qaj,h];rfl
theorem Ju {ss:List Sn} {i:Nat} {x:V} (h:(Bt ss)[i]? =some x): ∃s,ss[i]? =some s/\x=V.ref s.a:=by
 unfold Bt at h
 rw[Qaj]at h
 cases e:ss[i]? with
 | none=>rw[e]at h;cases h
 | some p=>rw[e]at h;cases h;exact ⟨p,rfl,rfl⟩
def De (y:List Nat) (M:Nat) (ss:List Sn):Prop:=ss.Pairwise fun s t=>bg (jV y M t) (jV y M s)=false
def iM (_:PySem.W.Frag) (CW CS:Addr):Sp:=fun vs H Q _=> ∃(y:List Nat) (lg:Nat) (a:Addr) (ss:List Sn) (t:Sn),vs=[.ref a, .ref t.a]/\Yd y/\y.length<=8/\H a=some (.lst (Bt ss))/\(∀s∈ss,jq H CW CS y lg s/\rd s.u s.p=rd t.u t.p)/\jq H CW CS y lg t/\De y (2*lg) ss/\ss.length<=100000/\
 ∀(n:Nat) H',n<=ss.length->(∀k s,ss[k]? =some s->k<n->bg (jV y (2*lg) s) (jV y (2*lg) t)=true)->(∀k s,ss[k]? =some s->n<=k->bg (jV y (2*lg) s) (jV y (2*lg) t)=false)->ao H H'->Q (.int n) H'
theorem mN {K:PySem.W.Frag} {CW CS:Addr} {vs:List V} {H:Hp} {Q:VK} {E:XK} (h:iM K CW CS vs H Q E):vs.length=2:=by obtain ⟨_,_,_,_,_,rfl,_⟩:=h;rfl
structure Wp where
 t:Addr
 a:Addr
 b:Addr
 r:Nat
 q:Nat
noncomputable def Hg (l:List Wp):List V:=l.map fun p=>V.ref p.t
theorem Gb {l:List Wp} {i:Nat} {p:Wp} (h:l[i]? =some p):(Hg l)[i]? =some (V.ref p.t):=by unfold Hg;rw[Qaj,h];rfl
theorem Gd (l:List Wp) (p:Wp):Hg l++[V.ref p.t]=Hg (l++[p]):=by unfold Hg;rw[XN];rfl
structure u5 (H:Hp) (C:Addr) (y:List Nat) (lg:Nat) (w:List Nat) (p:Wp):Prop where
 tp:H p.t=some (.tup [.ref p.a, .ref p.b])
 on:Dc H C p.a y w lg p.r
 bk:Dc H C p.b y (gM w) lg p.q
theorem u5.same {H H':Hp} {C:Addr} {y:List Nat} {lg:Nat} {w:List Nat} {p:Wp} (h:u5 H C y lg w p) (s:ao H H'):u5 H' C y lg w p:=⟨s _ _ h.tp,h.on.same s,h.bk.same s⟩
structure zO (w:List Nat) (c i:Nat) (s:Sn):Prop where
 ec:s.c=c
 ei:s.i=i
 eu:s.u=if aA (rd w i)=true then w else gM w
 ep:s.p=if aA (rd w i)=true then i else w.length - 1 - i
def ju (_:PySem.W.Frag) (CW CS:Addr):Sp:=fun vs H Q _=> ∃(y:List Nat) (lg:Nat) (wt vt st:Addr) (w:List Nat) (ws:List (List Nat)) (lS:List Wp) (p:Wp) (c i:Nat),vs=[.ref wt, .ref vt, .ref st]/\Yd y/\H wt=some (.tup (iR ws))/\H vt=some (.lst (Hg lS))/\H st=some (.tup [.int c, .int i])/\ws[c]? =some w/\lS[c]? =some p/\u5 H CW y lg w p/\i<w.length/\
 ∀(s:Sn) H',zO w c i s->s.t=st->jq H' CW CS y lg s->H s.a=none->ao H H'->Q (.ref s.a) H'
theorem nU {K:PySem.W.Frag} {CW CS:Addr} {vs:List V} {H:Hp} {Q:VK} {E:XK} (h:ju K CW CS vs H Q E):vs.length=3:=by obtain ⟨_,_,_,_,_,_,_,_,_,_,_,rfl,_⟩:=h;rfl
def j9 (_:PySem.W.Frag):Sp:=fun vs H Q _=> ∃(wt:Addr) (ws:List (List Nat)) (band:Nat),vs=[.ref wt, .str (S [band])]/\H wt=some (.tup (iR ws))/\ws.length<=4/\(∀w∈ws,(∀c∈w,Lt c)/\w.length<=12)/\band∈aU/\ ∀(q:Addr) (ps:List Pr) (H':Hp),H q=none->H' q=some (.lst (jn ps))->(∀p∈ps,iS H' p)->ps.map Pr.pair=bO band ws ws.length->ao H H'->Q (.ref q) H'
theorem qd {K:PySem.W.Frag} {vs:List V} {H:Hp} {Q:VK} {E:XK} (h:j9 K vs H Q E):vs.length=2:=by obtain ⟨c,_,_,rfl,_⟩:=h;rfl
open Classical in
noncomputable def Ry (w:List Nat):Nat:=if h: ∃s,bN w s then choose h else 0
theorem zP {w:List Nat} (hn:w≠[]):bN w (Ry w):=by
 have h:=AZ hn
 unfold Ry
 rw[dif_pos h]
 exact Classical.choose_spec h
theorem Ge {y w:List Nat} {r q:Nat} (hy:Yd y) (hw:SW y w) (h:bN w r) (g:bN (gM w) q):q=r:=by
 have hn:=hw.ne
 have ht:=pX hn
 have p1:=jt hn h
 have p2:=jt ht g
 have key: ∀d:Nat,(d:Int)%(r:Int)=0↔(d:Int)%(q:Int)=0:=fun d=>by
  have a:=(jm hn h).2 d 0
  have b:=(jm ht g).2 d 0
  rw[Qd7]at a b
  rw[<-a, <-b]
  constructor
  ·intro p k
   rw[jL hn,jL hn]
   unfold bq
   have:=p (-1 - (d:Int) - k)
   unfold sq at this
   have e1:rd w (-1 - (0:Int) - k)=rd w ((d:Int)+(-1 - (d:Int) - k)):=by congr 1;lia
   have e2:rd w (-1 - (d:Int) - k)=rd w (0+(-1 - (d:Int) - k)):=by congr 1;lia
   rw[e1,e2,this]
  ·intro p k
   have e: ∀x:Int,rd w x=aB (rd (gM w) (-1 - x)):=fun x=>by
    rw[mw hn,show -1 - (-1 - x)=x by lia,aM (hy.lt _ (hw.rd _))]
   unfold sq
   rw[e,e]
   have:=p (-1 - (d:Int) - k)
   unfold sq at this
   rw[show -1 - ((d:Int)+k)=0+(-1 - (d:Int) - k) by lia, <-this]
   congr 2
   lia
 have a:=(key r).mp (Int.emod_self)
 have b:=(key q).mpr (Int.emod_self)
 have a':r%q=0:=by
  have:((r%q:Nat):Int)=0:=by rw[<-a];rfl
  lia
 have b':q%r=0:=by
  have:((q%r:Nat):Int)=0:=by rw[<-b];rfl
  lia
 exact Qfq (Nat.le_of_dvd (by lia) (Nat.dvd_of_mod_eq_zero a')) (Nat.le_of_dvd (by lia) (Nat.dvd_of_mod_eq_zero b'))
noncomputable def Hh (ws:List (List Nat)) (c:Nat):Bool:=leads (ws.getD c [])
noncomputable def Hi (ws:List (List Nat)) (c:Nat):Nat:=Ry (ws.getD c [])
noncomputable def SA (y:List Nat) (ws:List (List Nat)) (M:Nat) (x:Nat×Nat):List Int:=eG y ws (Hh ws) (Hi ws) M x.1 x.2
theorem zO.line {y w:List Nat} {c i:Nat} {s:Sn} (hy:Yd y) (hw:SW y w) (hi:i<w.length) (h:zO w c i s):sq s.u s.p=lR w i:=by
 rw[h.eu,h.ep]
 unfold lR
 by_cases z:aA (rd w i)=true
 ·rw[if_pos z,if_pos z,if_pos z]
 ·rw[if_neg z,if_neg z,if_neg z, <-MA hw.ne,show ((w.length - 1 - i:Nat):Int)=(w.length:Int) - 1 - i by lia]
theorem Bu {y w:List Nat} {ws:List (List Nat)} {c i M:Nat} {s:Sn} (hy:Yd y) (hw:SW y w) (hi:i<w.length) (e:ws.getD c []=w) (h:zO w c i s) (rt:bN s.u s.r):jV y M s=SA y ws M (c,i):=by
 unfold jV SA eG
 rw[h.line hy hw hi]
 simp only[e]
 congr 1
 unfold zN Hd Hh Hi
 rw[e,h.ec]
 have BQ:=zP hw.ne
 by_cases z:aA (rd w i)=true
 ·have eu:s.u=w:=by rw[h.eu,if_pos z]
  have ep:s.p=i:=by rw[h.ep,if_pos z]
  rw[eu]at rt ⊢
  have er:=wW hw.ne rt BQ
  rw[er,ep,z]
  by_cases l:leads w=true
  ·rw[if_pos l,l];rfl
  ·rw[if_neg l,if_neg (fun q=>l q.symm)];rfl
 ·have eu:s.u=gM w:=by rw[h.eu,if_neg z]
  have ep:s.p=w.length - 1 - i:=by rw[h.ep,if_neg z]
  rw[eu]at rt ⊢
  have er:=Ge hy hw BQ rt
  have z':aA (rd w i)=false:=by simpa using z
  rw[er,ep,z',sQ hy hw,cC]
  have ei:w.length - 1 - (w.length - 1 - i)=i:=by lia
  rw[ei]
  cases leads w<;>rfl
theorem zO.band {y w:List Nat} {c i band:Nat} {s:Sn} (hy:Yd y) (hw:SW y w) (hi:i<w.length) (hb:band∈aU) (ho:xX band (rd w i)=true) (h:zO w c i s):rd s.u s.p=band:=by
 have lb:Lt band:= .inl hb
 have lo:aA band=true:=by rw[fQ lb];exact decide_eq_true hb
 have xP:rd w i=band\/rd w i=aB band:=by
  unfold xX at ho
  simpa using ho
 rw[h.eu,h.ep]
 rcases xP with e | e
 ·rw[if_pos (by rw[e];exact lo),if_pos (by rw[e];exact lo)]
  exact e
 ·have z: ¬aA (rd w i)=true:=by rw[e,fM _ lb.mem,lo];decide
  rw[if_neg z,if_neg z,mw hw.ne,show -1 - ((w.length - 1 - i:Nat):Int)=i - w.length by lia,zf,e,aM lb]
def zQ (y:List Nat) (ws:List (List Nat)) (M:Nat) (l:List (Nat×Nat)):Prop:=l.Pairwise fun s t=>bg (SA y ws M t) (SA y ws M s)=false
def j_ (_:PySem.W.Frag) (CW CS:Addr):Sp:=fun vs H Q _=> ∃(y:List Nat) (lg:Nat) (wt vt:Addr) (ws:List (List Nat)) (lS:List Wp) (band:Nat),vs=[.ref wt, .ref vt, .str (S [band])]/\Yd y/\y.length<=8/\H wt=some (.tup (iR ws))/\ws.length<=4/\(∀w∈ws,SW y w/\w.length<=12)/\band∈aU/\H vt=some (.lst (Hg lS))/\lS.length=ws.length/\(∀(c:Nat) (w:List Nat) (p:Wp),ws[c]? =some w->lS[c]? =some p->u5 H CW y lg w p)/\
 ∀(q:Addr) (ps:List Pr) (H':Hp),H q=none->H' q=some (.tup (jn ps))->(∀p∈ps,iS H' p)->(ps.map Pr.pair).Perm (bO band ws ws.length)->zQ y ws (2*lg) (ps.map Pr.pair)->ao H H'->Q (.ref q) H'
theorem qe {K:PySem.W.Frag} {CW CS:Addr} {vs:List V} {H:Hp} {Q:VK} {E:XK} (h:j_ K CW CS vs H Q E):vs.length=3:=by obtain ⟨_,_,_,_,_,_,_,rfl,_⟩:=h;rfl
theorem M3 {y:List Nat} {M:Nat} {ss:List Sn} {t:Sn} {n:Nat} (up:De y M ss) (h1: ∀k s,ss[k]? =some s->k<n->bg (jV y M s) (jV y M t)=true) (h2: ∀k s,ss[k]? =some s->n<=k->bg (jV y M s) (jV y M t)=false):De y M (ss.take n++t::ss.drop n):=by
 have tk: ∀s∈ss.take n,bg (jV y M s) (jV y M t)=true:=fun s hs=>by
  obtain ⟨k,hk,e⟩:=Qdd hs
  rw[Qak]at hk
  rw[List.getElem_take]at e
  exact h1 k s (by rw[<-e];exact LJ (by lia)) (by lia)
 have dr: ∀s∈ss.drop n,bg (jV y M s) (jV y M t)=false:=fun s hs=>by
  obtain ⟨k,hk,e⟩:=Qdd hs
  rw[Qat]at hk
  rw[List.getElem_drop]at e
  exact h2 (n+k) s (by rw[<-e];exact LJ (by lia)) (by lia)
 have M4:De y M (ss.take n++ss.drop n):=by rw[Qbn];exact up
 unfold De at M4 ⊢
 rw[Qc4]at M4 ⊢
 rw[Qce]
 obtain ⟨u1,u2,u3⟩:=M4
 refine ⟨u1,⟨fun s hs=>dr s hs,u2⟩,fun a ha b hb=>?_⟩
 rcases Qah.mp hb with e | e
 ·rw[e];exact (gY (tk a ha)).1
 ·exact u3 a ha b e
theorem jv (band:Nat) {ws:List (List Nat)} (hw: ∀w∈ws,w.length<=12): ∀n,n<=ws.length->(bO band ws n).length<=12*n
 | 0,_=>Qaa _
 | n+1,h=>by
  have ih:=jv band hw n (by lia)
  unfold bO at ih ⊢
  rw[Qbf,Qbi,V7,Qcy]
  have h1:(eH band n (ws.getD n []) (ws.getD n []).length).length<=12:=by
   unfold eH
   rw[V6]
   refine Qa8 (Qc1 _ _) ?_
   rw[Qb8]
   exact hw _ (getD_in (by lia))
  lia
theorem zR {band:Nat} {ws:List (List Nat)} {x:Nat×Nat} (h:x∈bO band ws ws.length): ∃w,ws[x.1]? =some w/\x.2<w.length/\xX band (rd w x.2)=true:=by
 unfold bO at h
 obtain ⟨c,hc,h⟩:=Qby.mp h
 have qO:=Qa3.mp hc
 unfold eH at h
 obtain ⟨i,hi,e⟩:=Qav.mp h
 obtain ⟨i1,i2⟩:=Qa5.mp hi
 have WG:=Qa3.mp i1
 subst e
 refine ⟨ws.getD c [],by rw[XO,LJ qO];rfl,WG,?_⟩
 have:(ws.getD c []).getD i 0=rd (ws.getD c []) i:=by
  have:=mm WG
  rw[XO,this];rfl
 show xX band (rd (ws.getD c []) i)=true
 rw[<-this]
 exact i2
theorem sX {H H':Hp} {x dx C:Addr} (nx:H x=none) (M5:H dx=none) (sm:aO x (L2.upd (L2.upd H dx (.own x)) x (.ins C dx [])) H'):ao H H':=fun a o e=>by
 refine sm a o ?_ (ax e nx)
 rw[az (ax e nx),az (ax e M5)]
 exact e
noncomputable def Hj (ws:List (List Nat)):List Int:=ws.map fun w=>(w.length:Int)
theorem Jv (l:List Int): ∀a:Int,a<=l.foldl (fun x y=>if y>x then y else x) a/\(∀x∈l,x<=l.foldl (fun x y=>if y>x then y else x) a)/\(l.foldl (fun x y=>if y>x then y else x) a=a\/l.foldl (fun x y=>if y>x then y else x) a∈l):=by
 induction l with
 | nil=>exact fun a=>⟨Int.le_refl _,fun _ h=>absurd h Qae, .inl rfl⟩
 | cons b r ih=>
  intro a
  rw[Qd5]
  obtain ⟨h1,h2,h3⟩:=ih (if b>a then b else a)
  have h4:a<=(if b>a then b else a)/\b<=(if b>a then b else a):=by split<;>lia
  refine ⟨by lia,fun x hx=>?_,?_⟩
  ·rcases Qah.mp hx with e | e
   ·rw[e];lia
   ·exact h2 x e
  ·rcases h3 with e | e
   ·rw[e]
    split
    ·exact .inr XS
    ·exact .inl rfl
   ·exact .inr (kb _ e)
theorem qf {ws:List (List Nat)} (h: ∀w∈ws,w.length<=12): ∃lg:Nat,Kr 0 (Hj ws)=lg/\lg<=12/\ ∀w∈ws,w.length<=lg:=by
 cases ws with
 | nil=>exact ⟨0,rfl,by decide,fun _ h=>absurd h Qae⟩
 | cons v r=>
  obtain ⟨h1,h2,h3⟩:=Jv (Hj r) (v.length:Int)
  have e:Kr 0 (Hj (v::r))=(Hj r).foldl (fun x y=>if y>x then y else x) (v.length:Int):=rfl
  rw[e]
  generalize (Hj r).foldl (fun x y=>if y>x then y else x) (v.length:Int)=m at*
  have hm: ∃w∈v::r,m=(w.length:Int):=by
   rcases h3 with q | q
   ·exact ⟨v,XS,q⟩
   ·obtain ⟨w,hw,e'⟩:=Qav.mp q
    exact ⟨w,kb _ hw,e'.symm⟩
  obtain ⟨w,hw,rfl⟩:=hm
  refine ⟨w.length,rfl,h w hw,fun u hu=>?_⟩
  rcases Qah.mp hu with q | q
  ·rw[q];lia
  ·have:=h2 _ (Qav.mpr ⟨u,q,rfl⟩)
   lia
def u6 (y:List Nat) (ws:List (List Nat)) (os:List Od):Prop:= ∃M,(∀w∈ws, ∀v∈ws,w.length+v.length<=M)/\lJ y ws os/\ ∀o∈os,zQ y ws M (o.ps.map Pr.pair)
theorem Jw {H:Hp} {C:Addr} {y:List Nat} {lg i:Nat} {ws:List (List Nat)} {lS:List Wp} {w:List Nat} {p:Wp} (hl:lS.length=i) (h: ∀(c:Nat) (w:List Nat) (p:Wp),ws[c]? =some w->lS[c]? =some p->u5 H C y lg w p) (hw:ws[i]? =some w) (hp:u5 H C y lg w p): ∀(c:Nat) (w:List Nat) (q:Wp),ws[c]? =some w->(lS++[p])[c]? =some q->u5 H C y lg w q:=fun c v q hv hq=>by
 by_cases z:c<lS.length
 ·rw[Qa9 z]at hq
  exact h c v q hv hq
 ·rw[Qbj (by lia)]at hq
  have:c=i:=by
   have:=(LK.mp hq).1
   simp at this
   lia
  subst this
  rw[hl,Qfc]at hq
  rw[hw]at hv
  cases hv
  cases hq
  exact hp
theorem xu {y:List Nat} (h:Yd y) {b:Nat} (hb:b∈cY y):b∈aU:=by
 obtain ⟨h1,h2⟩:=Qa5.mp ((eU y).mem_iff.mp hb)
 rw[fQ (h.lt b h1)]at h2
 exact of_decide_eq_true h2
theorem Gf {y:List Nat} {ws:List (List Nat)} {L:Nat->Bool} {r:Nat->Nat} {M:Nat} (h:dD y ws L r M) {c i d j x:Nat} (hc:c<ws.length) (hd:d<ws.length) (hi:i<(ws.getD c []).length) (hj:j<(ws.getD d []).length) (di:(c,i)≠(d,j)) (hx:aA x=true) (e1:rd (ws.getD c []) i=x\/rd (ws.getD c []) i=aB x) (e2:rd (ws.getD d []) j=x\/rd (ws.getD d []) j=aB x):
  bg (eG y ws L r M c i) (eG y ws L r M d j)=true\/bg (eG y ws L r M d j) (eG y ws L r M c i)=true:=by
 have hw:=h.sw c hc
 have hv:=h.sw d hd
 have hy:=h.yd
 have lw:=V9.mpr hw.ne
 have lv:=V9.mpr hv.ne
 have xs: ∀{w:List Nat} {k:Nat},SW y w->(rd w k=x\/rd w k=aB x)->Lt x:=fun {w k} hw e=>by
  have h9:97<=x/\x<=122:=by unfold aA at hx;simpa using hx
  refine .inl ?_
  have: ∀k,k<26->k+97∈aU:=by decide
  have h8:=this (x - 97) (by lia)
  rwa [show x - 97+97=x by lia]at h8
 have lx:=xs hw e1
 have zp: ∀{w:List Nat} {k:Nat},SW y w->Dl w k (lR w k)/\((rd w k=x\/rd w k=aB x)->lR w k 0=x)/\(lR w k=if aA (rd w k)=true then sq w k else bq w k):=fun {w k} hw=>by
  refine ⟨?_,fun e=>?_,rfl⟩
  ·unfold lR
   by_cases z:aA (rd w k)=true
   ·rw[if_pos z];exact .inl rfl
   ·rw[if_neg z];exact .inr rfl
  ·unfold lR
   rcases e with e | e
   ·rw[if_pos (by rw[e];exact hx)]
    unfold sq
    rw[Qc9];exact e
   ·have z: ¬aA (rd w k)=true:=by rw[e,fM _ lx.mem,hx];decide
    rw[if_neg z]
    unfold bq
    rw[Qd7,e,aM lx]
 obtain ⟨df,f0,fe⟩:=zp (k:=i) hw
 obtain ⟨YF,g0,ge⟩:=zp (k:=j) hv
 have lf:=df.zp hy hw
 have lg:=YF.zp hy hv
 by_cases par: ∀k,lR (ws.getD c []) i k=lR (ws.getD d []) j k
 ·unfold eG
  rw[show lR (ws.getD c []) i=lR (ws.getD d []) j from funext par,fv,fv]
  by_cases cd:c=d
  ·subst cd
   have ij:i≠j:=fun z=>di (by rw[z])
   obtain ⟨h1,h2⟩:=h.root hc
   have hr:=h.rp c hc
   -- one and GZ same way
   have low:aA (rd (ws.getD c []) i)=aA (rd (ws.getD c []) j):=by
    by_cases z1:aA (rd (ws.getD c []) i)=true<;>by_cases z2:aA (rd (ws.getD c []) j)=true
    ·rw[z1,z2]
    ·exfalso
     rw[fe,ge,if_pos z1,if_neg z2]at par
     exact uN hy hw _ _ par
    ·exfalso
     rw[fe,ge,if_neg z1,if_pos z2]at par
     exact uN hy hw _ _ fun k=>(par k).symm
    ·rw[show aA (rd (ws.getD c []) i)=false by simpa using z1,show aA (rd (ws.getD c []) j)=false by simpa using z2]
   have ps:cA (ws.getD c []) (ws.getD c []) i j:=by
    by_cases z1:aA (rd (ws.getD c []) i)=true
    ·have z2:aA (rd (ws.getD c []) j)=true:=by rw[<-low];exact z1
     rw[fe,ge,if_pos z1,if_pos z2]at par
     exact par
    ·have z2: ¬aA (rd (ws.getD c []) j)=true:=by rw[<-low];exact z1
     rw[fe,ge,if_neg z1,if_neg z2]at par
     have e:=congrArg jJ (funext par)
     rw[<-fu, <-fu,sN hy (bz hw _),sN hy (bz hw _)]at e
     exact fun k=>congrFun e k
   have q:=(h.rr c hc _ _).mp ps
   have Jh:i%r c=j%r c:=by
    have q2:=Int.emod_eq_emod_iff_emod_sub_eq_zero.mpr q
    have q3:((i%r c:Nat):Int)=((j%r c:Nat):Int):=q2
    lia
   have k1:= @zx (ws.getD c []).length _ (r c) c i j (L c) (aA (rd (ws.getD c []) j)) hr h1 hi hj Jh ij
   have k2:= @zx (ws.getD c []).length _ (r c) c j i (L c) (aA (rd (ws.getD c []) j)) hr h1 hj hi Jh.symm (Ne.symm ij)
   rw[low]
   by_cases z:aA (rd (ws.getD c []) j)=true
   ·rw[if_pos z]at k1 k2
    rw[k1,k2,decide_eq_true_iff,decide_eq_true_iff]
    lia
   ·rw[if_neg z]at k1 k2
    rw[k1,k2,decide_eq_true_iff,decide_eq_true_iff]
    lia
  ·have hl:L d=if aA (rd (ws.getD d []) j)=aA (rd (ws.getD c []) i) then L c else !L c:=by
    by_cases z1:aA (rd (ws.getD c []) i)=true<;>by_cases z2:aA (rd (ws.getD d []) j)=true
    ·rw[z1,z2,if_pos rfl]
     rw[fe,ge,if_pos z1,if_pos z2]at par
     exact (h.l1 c d i j hc hd par).symm
    ·rw[if_neg (fun q=>z2 (q.trans z1))]
     rw[fe,ge,if_pos z1,if_neg z2]at par
     exact h.l2 c d i j hc hd par
    ·rw[if_neg (fun q=>z1 (q.symm.trans z2))]
     rw[fe,ge,if_neg z1,if_pos z2]at par
     have:=h.l2 d c j i hd hc fun k=>(par k).symm
     rw[this,Bool.not_not]
    ·rw[show aA (rd (ws.getD c []) i)=false by simpa using z1,show aA (rd (ws.getD d []) j)=false by simpa using z2,if_pos rfl]
     rw[fe,ge,if_neg z1,if_neg z2]at par
     have e:=congrArg jJ (funext par)
     rw[<-fu, <-fu,sN hy (bz hw _),sN hy (bz hv _)]at e
     exact (h.l1 c d i j hc hd fun k=>congrFun e k).symm
   have Ek:= @uQ (ws.getD c []).length (ws.getD d []).length (r c) (r d) c d i j (L c) (aA (rd (ws.getD c []) i)) (aA (rd (ws.getD d []) j)) cd
   have x_:L c=if aA (rd (ws.getD c []) i)=aA (rd (ws.getD d []) j) then L d else !L d:=by
    rw[hl]
    cases aA (rd (ws.getD d []) j)<;>cases aA (rd (ws.getD c []) i)<;>cases L c<;>rfl
   have Jq:= @uQ (ws.getD d []).length (ws.getD c []).length (r d) (r c) d c j i (L d) (aA (rd (ws.getD d []) j)) (aA (rd (ws.getD c []) i)) (Ne.symm cd)
   rw[<-hl]at Ek
   rw[<-x_]at Jq
   rw[Ek,Jq,hl]
   cases aA (rd (ws.getD d []) j)<;>cases aA (rd (ws.getD c []) i)<;>cases L c<;>simp<;>lia
 ·have uR: ∃k,lR (ws.getD c []) i k≠lR (ws.getD d []) j k:=Classical.byContradiction fun z=>par fun k=>Classical.byContradiction fun w=>z ⟨k,w⟩
  have MG: ∀{w:List Nat} {k:Nat} (z:Int),lR w k (z+w.length)=lR w k z:=fun {w k} z=>by
   unfold lR
   split
   ·exact cN w k z
   ·exact mq w k z
  obtain ⟨a,b,rn,ha,hb⟩:=dB lw lv MG MG ((f0 e1).trans (g0 e2).symm) uR
  have big:=h.big c d hc hd
  unfold eG
  rw[mE hy lf lg rn _ _ M 0 (Qaa _) (Qaa _) (by lia) (by lia),mE hy lg lf rn.sy _ _ M 0 (Qaa _) (Qaa _) (by lia) (by lia),Fu hy lf lg (rn.lF a (by lia) (by lia)) rn.hi,zA hy lf lg (rn.lF _ (by lia) (by lia)) rn.lo]
  by_cases z:a<=b
  ·rw[if_pos z,if_pos z]
   cases jU y (lR (ws.getD c []) i) (lR (ws.getD d []) j) a
   ·exact .inr rfl
   ·exact .inl rfl
  ·rw[if_neg z,if_neg z]
   cases j6 y (lR (ws.getD c []) i) (lR (ws.getD d []) j) b
   ·exact .inr rfl
   ·exact .inl rfl
theorem u7 {y:List Nat} {ws:List (List Nat)} {os:List Od} {M:Nat} (hy:Yd y) (hw: ∀w∈ws,SW y w) (hM: ∀w∈ws, ∀v∈ws,w.length+v.length<=M) (ok:lJ y ws os) (up: ∀o∈os,zQ y ws M (o.ps.map Pr.pair)):dD y ws (Hh ws) (Hi ws) M/\zJ y ws (Hh ws) (Hi ws) M os:=by
 have hs: ∀c,c<ws.length->SW y (ws.getD c []):=fun c hc=>hw _ (getD_in hc)
 have hC:dD y ws (Hh ws) (Hi ws) M:=FJ hy hs (fun c hc=>zP (hs c hc).ne) fun c d hc hd=>hM _ (getD_in hc) _ (getD_in hd)
 refine ⟨hC,ok,fun o ho=>?_⟩
 obtain ⟨j,hj,ej⟩:=Qdd ho
 have Ie:j<(cY y).length:=by rw[<-ok.1];exact hj
 have pm:=ok.2 j o (cY y)[j] (by rw[LJ hj,ej]) (LJ Ie)
 have bs:=xu hy (Qay Ie)
 have lb:Lt (cY y)[j]:= .inl bs
 have lo:aA (cY y)[j]=true:=by rw[fQ lb];exact decide_eq_true bs
 have nd:(o.ps.map Pr.pair).Nodup:=pm.nodup_iff.mpr (sR _ _ _)
 have u:=up o ho
 unfold zQ at u
 refine Qdh (fun {s t} h1 h2 h=>?_) (List.Pairwise.and u nd)
 obtain ⟨w1,e1,i1,o1⟩:=zR (pm.mem_iff.mp h1)
 obtain ⟨w2,e2,i2,o2⟩:=zR (pm.mem_iff.mp h2)
 have c1:=(LK.mp e1).1
 have c2:=(LK.mp e2).1
 have g1:ws.getD s.1 []=w1:=by rw[XO,e1];rfl
 have g2:ws.getD t.1 []=w2:=by rw[XO,e2];rfl
 have on: ∀{l:Nat},xX (cY y)[j] l=true->l=(cY y)[j]\/l=aB (cY y)[j]:=fun {l} q=>by unfold xX at q;simpa using q
 have tr:=Gf hC (c:=s.1) (i:=s.2) (d:=t.1) (j:=t.2) c1 c2 (by rw[g1];exact i1) (by rw[g2];exact i2) h.2 lo (by rw[g1];exact on o1) (by rw[g2];exact on o2)
 rcases tr with q | q
 ·exact q
 ·have hf:bg (eG y ws (Hh ws) (Hi ws) M t.1 t.2) (eG y ws (Hh ws) (Hi ws) M s.1 s.2)=false:=h.1
  rw[hf]at q
  cases q
theorem M6 {y:List Nat} {ws:List (List Nat)} {os:List Od} (hy:Yd y) (hw: ∀w∈ws,SW y w) (h:u6 y ws os): ∃M,dD y ws (Hh ws) (Hi ws) M/\zJ y ws (Hh ws) (Hi ws) M os:=by
 obtain ⟨M,hM,ok,up⟩:=h
 exact ⟨M,u7 hy hw hM ok up⟩
theorem Gg {α β:Type} (p:β->β->Bool) (f:α->β): ∀l:List α,cl p (l.map f)=cl (fun a b=>p (f a) (f b)) l
 | []=>rfl
 | a::l=>by
  show ((l.map f).filter (p (f a))).length+cl p (l.map f)=(l.filter fun b=>p (f a) (f b)).length+cl _ l
  rw[Gg p f l,Qeu,V6]
  rfl
theorem xv {α:Type} {p q:α->α->Bool}: ∀{l:List α},l.Pairwise (fun a b=>p a b=q a b)->cl p l=cl q l
 | [],_=>rfl
 | a::l,h=>by
  rw[Qce]at h
  show (l.filter (p a)).length+cl p l=(l.filter (q a)).length+cl q l
  rw[xv h.2,Qfg fun b hb=>h.1 b hb]
section
variable {y:List Nat} {ws:List (List Nat)} {L:Nat->Bool} {r:Nat->Nat} {M:Nat}
noncomputable def u9 (ps:List (Nat×Nat×Nat)) (c i e:Nat):Nat:=ps.idxOf (c,i,e)
theorem Jx {n i:Nat} (h:i<n):fG n ((i:Int) - 1)=uX n i/\fG n (i:Int)=i:=by
 have h1:=cq (n:=n) (by lia) ((i:Int) - 1)
 have h2:=cq (n:=n) (by lia) (i:Int)
 rw[Bj h]at h1
 rw[Qas (by lia) (by lia)]at h2
 lia
theorem xw {ps:List (Nat×Nat×Nat)} {c i:Nat} (hi:i<(ws.getD c []).length):(fz ps c (ws.getD c []) i).2.2.1=pI ws (u9 ps) c ((i:Int) - 1)/\(fz ps c (ws.getD c []) i).2.2.2=pO ws (u9 ps) c i:=by
 obtain ⟨e1,e2⟩:=Jx hi
 have g: ∀k,k<(ws.getD c []).length->(ws.getD c []).getD k 0=rd (ws.getD c []) k:=fun k hk=>by
  rw[XO,mm hk];rfl
 have di:ws.getD c []≠[]:=fun z=>by rw[z]at hi;exact absurd hi (Qco _)
 unfold fz pI pO u9
 rw[e1,e2,g _ (FR hi),g _ hi]
 refine ⟨?_,rfl⟩
 have:rd (ws.getD c []) (uX (ws.getD c []).length i:Nat)=rd (ws.getD c []) ((i:Int) - 1):=by rw[<-e1,bT di]
 rw[this]
theorem sY (ps:List (Nat×Nat×Nat)) (ws:List (List Nat)): ∀n,gv ps ws n=(qM ws n).map fun x=>fz ps x.1 (ws.getD x.1 []) x.2
 | 0=>rfl
 | n+1=>by
  have ih:=sY ps ws n
  unfold gv at ih ⊢
  unfold qM
  rw[Qbf,Qbi,ih,XN,Qcy,Qbt]
  rfl
theorem M7 (ws:List (List Nat)) (n:Nat):(qM ws n).Nodup:=(oj n).imp fun {a b} h z=>by
 rw[z]at h
 unfold i8 at h
 simp at h
end
noncomputable def KL (ws:List (List Nat)):Int:=sm ws.length fun c=>(((ws.getD c.toNat []).length / Ry (ws.getD c.toNat []):Nat):Int) - 1
theorem CT.ok {y:List Nat} {ws:List (List Nat)} (h:CT y ws):MW y ws:=⟨h.sd,fun w hw=>⟨(h.sw w hw).1.bP,(h.sw w hw).2⟩⟩
noncomputable def M8 (y:List Nat) (ws:List (List Nat)):Int:=(nP y ws).length+KL ws
def sZ (_:PySem.W.Frag):Sp:=fun vs H Q _=> ∃(w:List Nat),vs=[.str (S w)]/\w≠[]/\w.length<=100/\ ∀r,bN w r->Q (.int (w.length / r:Nat)) H
theorem zS {K:PySem.W.Frag} {vs:List V} {H:Hp} {Q:VK} {E:XK} (h:sZ K vs H Q E):vs.length=1:=by obtain ⟨_,rfl,_⟩:=h;rfl
def s_ (_:PySem.W.Frag):Sp:=fun vs H Q _=> ∃(y:List Nat) (wt:Addr) (ws:List (List Nat)),vs=[.str (S y), .ref wt]/\Yd y/\y.length<=8/\CT y ws/\H wt=some (.tup (iR ws))/\ ∀H',ao H H'->Q (.int (M8 y ws)) H'
theorem zT {K:PySem.W.Frag} {vs:List V} {H:Hp} {Q:VK} {E:XK} (h:s_ K vs H Q E):vs.length=2:=by obtain ⟨_,_,_,rfl,_⟩:=h;rfl
structure Ask where
 t:Addr
 y:List Nat
 wt:Addr
 ws:List (List Nat)
structure qg (H:Hp) (k:Ask):Prop where
 tp:H k.t=some (.tup [.str (S k.y), .ref k.wt])
 wp:H k.wt=some (.tup (iR k.ws))
 yd:Yd k.y
 yz:k.y.length<=8
 ok:CT k.y k.ws
theorem qg.ts {H H':Hp} {k:Ask} (h:qg H k) (s:aR H H'):qg H' k:=⟨s _ _ h.tp,s _ _ h.wp,h.yd,h.yz,h.ok⟩
noncomputable def iV (ks:List Ask):List V:=ks.map fun k=>V.ref k.t
theorem jM (ks:List Ask):(iV ks).length=ks.length:=by unfold iV;rw[V6]
theorem xx (ks:List Ask) (k:Ask):iV ks++[V.ref k.t]=iV (ks++[k]):=by unfold iV;rw[XN];rfl
theorem Jy (a b:List Ask):iV a++iV b=iV (a++b):=by unfold iV;rw[XN]
theorem M9 {ks:List Ask} {i:Nat} {x:V} (h:(iV ks)[i]? =some x): ∃k,ks[i]? =some k/\x=V.ref k.t:=by
 unfold iV at h
 rw[Qaj]at h
 cases e:ks[i]? with
 | none=>rw[e]at h;cases h
 | some p=>rw[e]at h;cases h;exact ⟨p,rfl,rfl⟩
theorem SW.perm {y z w:List Nat} (h:SW y w) (p:y.Perm z):SW z w:=⟨h.ne,fun c hc=>p.mem_iff.mp (h.bP c hc),h.red⟩
theorem CT.perm {y z:List Nat} {ws:List (List Nat)} (h:CT y ws) (p:y.Perm z):CT z ws:=⟨fun w hw=>⟨((h.sw w hw).1).perm p,(h.sw w hw).2⟩,h.sd,h.all⟩
theorem Bv {H2:Hp} {t a3:Addr} {ks:List Ask} {x:Ask} {H3:Hp} (ht:H2 t=some (.lst (iV ks))) (hk: ∀k∈ks,qg H2 k) (s:aR H2 H3) (Ky:H3 t=some (.lst (iV ks))) (n3:H3 a3=none) (hx:x.t=a3) (hw:H3 x.wt=some (.tup (iR x.ws))) (hy:Yd x.y) (hz:x.y.length<=8) (ok:CT x.y x.ws):
  ∀k∈ks++[x],qg (upd (upd H3 a3 (.tup [.str (S x.y), .ref x.wt])) t (.lst (iV ks++[V.ref a3]))) k:=by
 have N9:a3≠t:=fun z=>by rw[z,Ky]at n3;cases n3
 have s3:ao H3 (upd H3 a3 (.tup [.str (S x.y), .ref x.wt])):=ao.upd n3
 have tl:aR (upd H3 a3 (.tup [.str (S x.y), .ref x.wt])) (upd (upd H3 a3 (.tup [.str (S x.y), .ref x.wt])) t (.lst (iV ks++[V.ref a3]))):=aR.mf (s3 _ _ Ky)
 intro k yE
 rcases Qaf.mp yE with g | g
 ·exact ((hk k g).ts s).ts ((aR.of s3).trans tl)
 ·rw[V8.mp g]
  exact ⟨tl _ _ (by rw[hx,ag]),tl _ _ (s3 _ _ hw),hy,hz,ok⟩
theorem Jz (ks:List Ask) (lo hi:Option Int):nH (iV ks) lo hi=iV (cut ks lo hi):=by
 unfold nH cut
 rw[jM]
 unfold iV
 rw[Qej,List.map_drop]
structure Pu where
 t:Addr
 e:Nat
 p:Pr
noncomputable def ny (ps:List Pu):List V:=ps.map fun p=>V.ref p.t
theorem jN (ps:List Pu):(ny ps).length=ps.length:=by unfold ny;rw[V6]
theorem Bw (a b:List Pu):ny a++ny b=ny (a++b):=by unfold ny;rw[XN]
theorem xA (a:List Pu) (p:Pu):ny a++[V.ref p.t]=ny (a++[p]):=by unfold ny;rw[XN];rfl
theorem M_ {ps:List Pu} {i:Nat} {x:V} (h:(ny ps)[i]? =some x): ∃p,ps[i]? =some p/\x=V.ref p.t:=by
 unfold ny at h
 rw[Qaj]at h
 cases e:ps[i]? with
 | none=>rw[e]at h;cases h
 | some p=>rw[e]at h;cases h;exact ⟨p,rfl,rfl⟩
noncomputable def Pu.is (p:Pu):Nat×Nat×Nat:=(p.p.c,p.p.i,p.e)
structure u_ (H:Hp) (p:Pu):Prop where
 tp:H p.t=some (.tup [.str (S [p.e]), .ref p.p.t])
 pr:iS H p.p
theorem u_.ts {H H':Hp} {p:Pu} (h:u_ H p) (s:aR H H'):u_ H' p:=⟨s _ _ h.tp,h.pr.ts s⟩
def qh (_:PySem.W.Frag):Sp:=fun vs H Q _=> ∃(y:List Nat) (dr:Addr) (ws:List (List Nat)) (os:List Od),vs=[.str (S y), .ref dr]/\Yd y/\y.length<=8/\lJ y ws os/\zF H dr ws os/\ ∀(q:Addr) (ps:List Pu) (H':Hp),H q=none->H' q=some (.lst (ny ps))->(∀p∈ps,u_ H' p)->ps.map Pu.is=fZ y os->ps.length<=800->ao H H'->Q (.ref q) H'
theorem xB {K:PySem.W.Frag} {vs:List V} {H:Hp} {Q:VK} {E:XK} (h:qh K vs H Q E):vs.length=2:=by obtain ⟨_,_,_,_,rfl,_⟩:=h;rfl
noncomputable def lN (x:Nat×Nat×Nat):Key×List Key:=(Sum.inr (S [x.2.2]),[Sum.inl (x.1:Int),Sum.inl (x.2.1:Int)])
theorem xC {p q:Nat×Nat×Nat} (h:lN p=lN q):p=q:=by
 have h1:=congrArg Prod.fst h
 have h2:=congrArg Prod.snd h
 unfold lN at h1 h2
 injection h2 with h2 h3
 injection h3 with h3 _
 have a1:(p.1:Int)=q.1:=Sum.inl.inj h2
 have a2:(p.2.1:Int)=q.2.1:=Sum.inl.inj h3
 have a3:[p.2.2]=[q.2.2]:=by
  have:=Sum.inr.inj h1
  rw[<-fS [p.2.2],this,fS]
 have a4:p.2.2=q.2.2:=by simpa using a3
 exact Prod.ext (by lia) (Prod.ext (by lia) a4)
theorem u_.key {H:Hp} {p:Pu} (h:u_ H p):jb H (lN p.is) p.t:=⟨p.p.t,h.tp,h.pr.tp⟩
theorem KN {x:Nat×Nat×Nat}: ∀(l:List (Nat×Nat×Nat)) (es:List Kp) (off:Nat),es.map (·.k)=l.map lN->(∀(m:Nat) (e:Kp),es[m]? =some e->e.n=((off+m:Nat):Int))->x∈l->
  ((Ct es).find? fun z=>decide (z.1=lN x)).map (·.2.2)=some ((off+l.idxOf x:Nat):Int)
 | [],_,_,_,_,hx=>by cases hx
 | a::l,[],_,he,_,_=>by cases he
 | a::l,e::es,off,he,hn,hx=>by
  rw[Qa7,Qa7]at he
  injection he with h1 h2
  show ((((e.k,e.a,e.n)::Ct es).find? fun z=>decide (z.1=lN x)).map (·.2.2))=_
  rw[Qet]
  by_cases z:x=a
  ·rw[show decide (e.k=lN x)=true from decide_eq_true (by rw[h1,z])]
   have:=hn 0 e rfl
   rw[z,List.idxOf_cons_self]
   show some e.n=_
   rw[this]
  ·rw[show decide (e.k=lN x)=false from decide_eq_false fun y=>z (xC (y.symm.trans h1))]
   have ih:=KN (x:=x) l es (off+1) h2 (fun m e' hm=>by have:=hn (m+1) e' (by simpa using hm);rw[this];lia) ((Qah.mp hx).resolve_left z)
   have ei:(a::l).idxOf x=l.idxOf x+1:=by rw[List.idxOf_cons,show (a==x)=false by simpa using fun y=>z y.symm];rfl
   rw[ih,ei]
   congr 2
   lia
theorem JA {a b r s:Nat} (h1:a≠b) (h3:a≠r) (h4:a≠s) (h5:b≠r) (h6:b≠s):xp a b r s=qZ a b r s:=by
 rw[Fn h1 h3 h4 h5 h6]
 have key: ∀x:Nat,a≠x->b≠x->Hf (if (b:Int)<a then b else a) (if (b:Int)>a then b else a) x=!(decide (a<x) ^^ decide (x<b)):=fun x g1 g2=>by
  unfold Hf
  rcases Qea h1 with q | q
  ·rw[if_neg (by lia),if_pos (by lia),show decide ((a:Int)<x)=decide (a<x) from decide_eq_decide.mpr (by lia),show decide ((x:Int)<b)=decide (x<b) from decide_eq_decide.mpr (by lia)]
   have k:decide (a<x)=false->decide (x<b)=true:=fun z=>decide_eq_true (by have:=of_decide_eq_false z;lia)
   revert k
   generalize decide (a<x)=u
   generalize decide (x<b)=v
   revert u v
   decide
  ·rw[if_pos (by lia),if_neg (by lia),show decide ((b:Int)<x)=!decide (x<b) from by rw[<-iB (Ne.symm g2)];exact decide_eq_decide.mpr (by lia),show decide ((x:Int)<a)=!decide (a<x) from by rw[<-iB g1];exact decide_eq_decide.mpr (by lia)]
   have k:decide (a<x)=true->decide (x<b)=false:=fun z=>decide_eq_false (by have:=of_decide_eq_true z;lia)
   revert k
   generalize decide (a<x)=u
   generalize decide (x<b)=v
   revert u v
   decide
 unfold xp
 rw[key r h3 h5,key s h4 h6]
 generalize decide (a<r)=p1
 generalize decide (r<b)=p2
 generalize decide (a<s)=p3
 generalize decide (s<b)=p4
 revert p1 p2 p3 p4
 decide
theorem JB {α:Type} (q:α->α->Bool) (l:List α) (a:α):cl q (l++[a])=cl q l+(l.filter fun x=>q x a).length:=by
 induction l with
 | nil=>rfl
 | cons b l ih=>
  show ((l++[a]).filter (q b)).length+cl q (l++[a])=((l.filter (q b)).length+cl q l)+((b::l).filter fun x=>q x a).length
  rw[ih,Qcf,V7]
  by_cases z:q b a=true
  ·have e1:([a].filter (q b)).length=1:=by rw[Qbk z];rfl
   have e2:((b::l).filter fun x=>q x a).length=(l.filter fun x=>q x a).length+1:=by rw[Qbk (p:=fun x=>q x a) z];rfl
   lia
  ·have e1:([a].filter (q b)).length=0:=by rw[Qbl z];rfl
   have e2:((b::l).filter fun x=>q x a).length=(l.filter fun x=>q x a).length:=by rw[Qbl (p:=fun x=>q x a) z]
   lia
noncomputable def vd (cs:List C4):Nat:=cl (fun x z=>meets z x) cs
theorem Df {cs:List C4} {k:Nat} {x:C4} (h:cs[k]? =some x):vd (cs.take (k+1))=vd (cs.take k)+((cs.take k).filter (meets x)).length:=by
 unfold vd
 rw[<-take_snoc h,JB]
theorem JC {y:List Nat} {ws:List (List Nat)} {os:List Od} {L:Nat->Bool} {r:Nat->Nat} {M:Nat} {R:Nat->Nat->Nat->Nat->Bool} (hC:dD y ws L r M) (hN:fW y ws R (u9 (fZ y os))) {a b:Nat×Nat} (ha:a∈places ws) (hb:b∈places ws) (ph:a≠b):meets (fz (fZ y os) a.1 (ws.getD a.1 []) a.2) (fz (fZ y os) b.1 (ws.getD b.1 []) b.2)=FG ws (u9 (fZ y os)) a b:=by
 obtain ⟨a1,a2⟩:=gq.mp ha
 obtain ⟨b1,b2⟩:=gq.mp hb
 have ea:=xw (ps:=fZ y os) (ws:=ws) (c:=a.1) a2
 have eb:=xw (ps:=fZ y os) (ws:=ws) (c:=b.1) b2
 have di:(a.1,a.2)≠(b.1,b.2):=fun z=>ph (Prod.ext (Prod.mk.inj z).1 (Prod.mk.inj z).2)
 have n1:=iC hC hN a1 b1 a2 b2
 have n2:=iC hC hN b1 a1 b2 a2
 have n3:=iC hC hN a1 a1 a2 a2
 show xp _ _ _ _=FG ws (u9 (fZ y os)) a b
 rw[ea.1,ea.2,eb.1,eb.2,JA n3.1 (n1.2 di).1 n1.1 (Ne.symm n2.1) (n1.2 di).2]
 rfl
theorem Na {y:List Nat} {ws:List (List Nat)} {os:List Od} {L:Nat->Bool} {r:Nat->Nat} {M:Nat} {R:Nat->Nat->Nat->Nat->Bool} (hC:dD y ws L r M) (hN:fW y ws R (u9 (fZ y os))):vd (j8 y ws os)=cl (FG ws (u9 (fZ y os))) (places ws):=by
 unfold vd j8
 rw[sY,Gg]
 refine xv (Qdh (fun {a b} ha hb ph=>?_) (M7 ws ws.length))
 obtain ⟨a1,a2⟩:=gq.mp ha
 obtain ⟨b1,b2⟩:=gq.mp hb
 refine (JC hC hN hb ha (Ne.symm ph)).trans ?_
 unfold FG
 rw[Be hC hN a1 b1 a2 b2]
theorem Gh {y:List Nat} {ws:List (List Nat)} {os:List Od} (hy:Yd y) (hw: ∀w∈ws,SW y w) (h:u6 y ws os):(vd (j8 y ws os):Int)=(nP y ws).length+KL ws:=by
 obtain ⟨M,hC,hT⟩:=M6 hy hw h
 have hN:Lies y ws (Hh ws) (Hi ws) M (u9 (fZ y os)):=lies_of hy hC.sw hT
 rw[Na hC hN]
 exact zD hC hN
noncomputable def JD (x:C4):List Int:=[((min x.2.2.1 x.2.2.2:Nat):Int),((max x.2.2.1 x.2.2.2:Nat):Int)]
theorem Nb {x:C4} {ms:List Int} (p:ms.Perm [(x.2.2.1:Int),x.2.2.2]) (h:ms.Pairwise (· <= ·)):ms=JD x:=by
 obtain ⟨a,b,rfl⟩: ∃a b,ms=[a,b]:=by
  have:=p.length_eq
  match ms,this with
  | [a,b],_=>exact ⟨a,b,rfl⟩
 have ph:a<=b:=by simpa using h
 have e1:a=(x.2.2.1:Int)\/a=x.2.2.2:=by simpa using p.mem_iff.mp (XS (a:=a))
 have e2:b=(x.2.2.1:Int)\/b=x.2.2.2:=by simpa using p.mem_iff.mp (kb a (XS (a:=b)))
 have e3:(x.2.2.1:Int)=a\/(x.2.2.1:Int)=b:=by simpa using p.mem_iff.mpr (XS (a:=(x.2.2.1:Int)))
 have e4:(x.2.2.2:Int)=a\/(x.2.2.2:Int)=b:=by simpa using p.mem_iff.mpr (kb (x.2.2.1:Int) (XS (a:=(x.2.2.2:Int))))
 unfold JD
 congr 1
 ·lia
 ·congr 1
  lia
theorem Gi (x z:C4):(xor (Hf ((min x.2.2.1 x.2.2.2:Nat):Int) ((max x.2.2.1 x.2.2.2:Nat):Int) ((min z.2.2.1 z.2.2.2:Nat):Int)) (Hf ((min x.2.2.1 x.2.2.2:Nat):Int) ((max x.2.2.1 x.2.2.2:Nat):Int) ((max z.2.2.1 z.2.2.2:Nat):Int)))=meets x z:=by
 unfold meets xp
 have e1:(if (x.2.2.2:Int)<x.2.2.1 then (x.2.2.2:Int) else x.2.2.1)=((min x.2.2.1 x.2.2.2:Nat):Int):=by split<;>lia
 have e2:(if (x.2.2.2:Int)>x.2.2.1 then (x.2.2.2:Int) else x.2.2.1)=((max x.2.2.1 x.2.2.2:Nat):Int):=by split<;>lia
 rw[e1,e2]
 generalize ((min x.2.2.1 x.2.2.2:Nat):Int)=lo
 generalize ((max x.2.2.1 x.2.2.2:Nat):Int)=hi
 rcases Nat.le_total z.2.2.1 z.2.2.2 with g | g
 ·rw[Qcp g,Nat.max_eq_right g]
  generalize Hf lo hi (z.2.2.1:Int)=p
  generalize Hf lo hi (z.2.2.2:Int)=q
  revert p q
  decide
 ·rw[Qc6 g,Nat.max_eq_left g]
  generalize Hf lo hi (z.2.2.1:Int)=p
  generalize Hf lo hi (z.2.2.2:Int)=q
  revert p q
  decide
def Bx (_:PySem.W.Frag):Sp:=fun vs H Q _=> ∃(y:List Nat) (dr:Addr) (ws:List (List Nat)) (os:List Od),vs=[.str (S y), .ref dr]/\Yd y/\y.length<=8/\MW y ws/\lJ y ws os/\zF H dr ws os/\ ∀H',ao H H'->Q (.int (vd (j8 y ws os):Nat)) H'
theorem Gj {K:PySem.W.Frag} {vs:List V} {H:Hp} {Q:VK} {E:XK} (h:Bx K vs H Q E):vs.length=2:=by obtain ⟨_,_,_,_,rfl,_⟩:=h;rfl
structure Ch where
 t:Addr
 v:C4
noncomputable def q0 (us:List Ch):List V:=us.map fun u=>V.ref u.t
theorem lO (us:List Ch):(q0 us).length=us.length:=by unfold q0;rw[V6]
theorem xD (a:List Ch) (u:Ch):q0 a++[V.ref u.t]=q0 (a++[u]):=by unfold q0;rw[XN];rfl
theorem Gk {us:List Ch} {i:Nat} {x:V} (h:(q0 us)[i]? =some x): ∃u,us[i]? =some u/\x=V.ref u.t:=by
 unfold q0 at h
 rw[Qaj]at h
 obtain ⟨u,hu,rfl⟩:=Qdo.mp h
 exact ⟨u,hu,rfl⟩
def xE (H:Hp) (u:Ch):Prop:=H u.t=some (.lst ((JD u.v).map V.int))
def tf (_:PySem.W.Frag):Sp:=fun vs H Q _=> ∃(y:List Nat) (wt:Addr) (ws:List (List Nat)),vs=[.str (S y), .ref wt]/\Yd y/\y.length<=8/\CT y ws/\H wt=some (.tup (iR ws))/\ ∀H',ao H H'->Q (.bl true) H'
theorem zU {K:PySem.W.Frag} {vs:List V} {H:Hp} {Q:VK} {E:XK} (h:tf K vs H Q E):vs.length=2:=by obtain ⟨_,_,_,rfl,_⟩:=h;rfl
theorem Dg {α:Type} {p:α->Bool} {l:List α} {i:Nat} {x:α} (h:l[i]? =some x):(l.take (i+1)).filter p=(l.take i).filter p++if p x=true then [x] else []:=by
 rw[<-take_snoc h,Qcf]
 congr 1
 by_cases z:p x=true
 ·rw[if_pos z,Qbk z];rfl
 ·rw[if_neg z,Qbl z];rfl
theorem YG (a b c d:Bool) (h1:a=true) (h2:c=true):(!decide (b=d))=xor (a&&b) (c&&d):=by subst h1;subst h2;cases b<;>cases d<;>rfl
theorem YH (a b c d:Bool) (h1:a=true) (h2: ¬c=true):(!decide (b=false))=xor (a&&b) (c&&d):=by subst h1;rw[Qdz _ |>.mp h2];cases b<;>rfl
theorem YI (a b c d:Bool) (h1: ¬a=true) (h2:c=true):(!decide (false=d))=xor (a&&b) (c&&d):=by subst h2;rw[Qdz _ |>.mp h1];cases d<;>rfl
theorem YJ (a b c d:Bool) (h1: ¬a=true) (h2: ¬c=true):(!decide (false=false))=xor (a&&b) (c&&d):=by rw[Qdz _ |>.mp h1,Qdz _ |>.mp h2];rfl
structure nV (H:Hp) (o:Od):Prop where
 ls:H o.o=some (.lst (jn o.ps))
 pr: ∀p∈o.ps,iS H p
theorem nV.same {H H':Hp} {o:Od} (h:nV H o) (s:ao H H'):nV H' o:=⟨s _ _ h.ls,fun p hp=>(h.pr p hp).same s⟩
theorem nV.mf {H:Hp} {o:Od} {p:Addr} {xs ys:List V} (h:nV H o) (hp:H p=some (.lst xs)) (n:o.o≠p):nV (L2.upd H p (.lst ys)) o:=⟨by rw[az n];exact h.ls,fun r hr=>(h.pr r hr).ts (aR.mf hp)⟩
noncomputable def jw (o:Od):List (Nat×Nat):=o.ps.map Pr.pair
noncomputable def mO (y:List Nat) (ws:List (List Nat)):List (List (Nat×Nat)):=(cY y).map fun b=>bO b ws ws.length
def nz (_:PySem.W.Frag):Sp:=fun vs H Q _=> ∃(y:List Nat) (wt:Addr) (ws:List (List Nat)),vs=[.str (S y), .ref wt]/\Yd y/\y.length<=8/\H wt=some (.tup (iR ws))/\MW y ws/\ ∀(q:Addr) (os:List Od) (H':Hp),H q=none->H' q=some (.lst (mH os))->(∀o∈os,nV H' o)->os.map jw=mO y ws->ao H H'->Q (.ref q) H'
theorem ve {K:PySem.W.Frag} {vs:List V} {H:Hp} {Q:VK} {E:XK} (h:nz K vs H Q E):vs.length=2:=by obtain ⟨_,_,_,rfl,_⟩:=h;rfl
theorem tm {α:Type} {R:α->α->Prop} (as: ∀a b,R a b-> ¬R b a): ∀{l m:List α},l.Perm m->l.Pairwise R->m.Pairwise R->l=m
 | [],m,h,_,_=>h.symm.eq_nil.symm
 | x::l,[],h,_,_=>absurd h.length_eq (by simp)
 | x::l,z::m,h,hl,hm=>by
  have e:x=z:=by
   have h1:x∈z::m:=h.mem_iff.mp XS
   have h2:z∈x::l:=h.mem_iff.mpr XS
   rcases Qah.mp h1 with q | q
   ·exact q
   rcases Qah.mp h2 with q2 | q2
   ·exact q2.symm
   exact absurd (Qb3 hm q) (as _ _ (Qb3 hl q2))
  subst e
  rw[tm as (List.Perm.cons_inv h) (Qce.mp hl).2 (Qce.mp hm).2]
noncomputable def SD (ws:List (List Nat)):Nat:=(Kr 0 (Hj ws)).toNat
def SE (y:List Nat) (ws:List (List Nat)) (os:List Od):Prop:= ∀o∈os,zQ y ws (2*SD ws) (o.ps.map Pr.pair)
theorem Gm {y:List Nat} {ws:List (List Nat)} {os G6:List Od} (hy:Yd y) (hk:CT y ws) (ok:lJ y ws os) (up:SE y ws os) (Rz:lJ y ws G6) (M4:SE y ws G6):os.map jw=G6.map jw:=by
 have hM: ∀w∈ws, ∀v∈ws,w.length+v.length<=2*SD ws:=fun w hw v hv=>by
  obtain ⟨lg,e,_,h⟩:=qf fun w hw=>(hk.sw w hw).2
  unfold SD
  rw[e,XQ]
  have:=h w hw
  have:=h v hv
  lia
 have t:=(u7 hy (fun w hw=>(hk.sw w hw).1) hM ok up).2
 have t':=(u7 hy (fun w hw=>(hk.sw w hw).1) hM Rz M4).2
 refine Qem (by rw[V6,V6,ok.1,Rz.1]) fun j h1 h2=>?_
 rw[V6]at h1 h2
 rw[Qc8,Qc8]
 have hb:j<(cY y).length:=by rw[<-ok.1];exact h1
 have p1:=ok.2 j _ _ (LJ h1) (LJ hb)
 have p2:=Rz.2 j _ _ (LJ h2) (LJ hb)
 exact tm (fun a b r r'=>by rw[(gY r).1]at r';cases r') (p1.trans p2.symm) (t.asc _ (Qay h1)) (t'.asc _ (Qay h2))
def By (_:PySem.W.Frag):Sp:=fun vs H Q _=> ∃(y:List Nat) (wt:Addr) (ws:List (List Nat)),vs=[.str (S y), .ref wt]/\Yd y/\y.length<=8/\H wt=some (.tup (iR ws))/\ws.length<=4/\(∀w∈ws,SW y w/\w.length<=12)/\ ∀(dr:Addr) (os:List Od) (H':Hp),zF H' dr ws os->u6 y ws os->SE y ws os->ao H H'->Q (.ref dr) H'
theorem Gn {K:PySem.W.Frag} {vs:List V} {H:Hp} {Q:VK} {E:XK} (h:By K vs H Q E):vs.length=2:=by obtain ⟨_,_,_,rfl,_⟩:=h;rfl
noncomputable def Bz (p:Nat×Nat):PyData:= .tuple [.int p.1, .int p.2]
theorem vf {K:PySem.W.Frag} {H:Hp}: ∀{ps:List Pr},(∀p∈ps,iS H p)->kO K H (jn ps) ((ps.map Pr.pair).map Bz)
 | [],_=> .nil
 | p::ps,h=> .cons (.tup (bE.of (h p XS).tp) (.cons (.int _) (.cons (.int _) .nil))) (vf fun q hq=>h q (kb _ hq))
theorem zV: ∀l:List (Nat×Nat),PyData.canLayAll0 (l.map Bz)=true
 | []=>rfl
 | p::l=>by
  show (PyData.canLay0 (Bz p)&&PyData.canLayAll0 (l.map Bz))=true
  rw[zV l];rfl
theorem zW: ∀l:List (Nat×Nat),PyData.depthAll (l.map Bz)<=1
 | []=>Qaa _
 | p::l=>Nat.max_le.mpr ⟨Qev rfl,zW l⟩
theorem vg: ∀l:List (Nat×Nat),PyData.hasDictAll (l.map Bz)=false
 | []=>rfl
 | p::l=>by
  show (PyData.hasDict (Bz p)||PyData.hasDictAll (l.map Bz))=false
  rw[vg l];rfl
noncomputable def DM (L:List (List (Nat×Nat))):List PyData:=L.map fun l=> .list (l.map Bz)
noncomputable def Hk (L:List (List (Nat×Nat))):List PyData:=L.map fun l=> .tuple (l.map Bz)
theorem vh {K:PySem.W.Frag} {H:Hp}: ∀{os:List Od},(∀o∈os,nV H o)->kO K H (mH os) (DM (os.map jw))
 | [],_=> .nil
 | o::os,h=> .cons (.lst (aZ.of (h o XS).ls) (vf (h o XS).pr)) (vh fun q hq=>h q (kb _ hq))
theorem BA {K:PySem.W.Frag} {H:Hp}: ∀{os:List Od},(∀o∈os,C7 H o)->kO K H (mH os) (Hk (os.map jw))
 | [],_=> .nil
 | o::os,h=> .cons (.tup (bE.of (h o XS).tp) (vf (h o XS).pr)) (BA fun q hq=>h q (kb _ hq))
theorem Gp: ∀L:List (List (Nat×Nat)),PyData.canLayAll0 (DM L)=true
 | []=>rfl
 | p::l=>by
  show (PyData.canLayAll0 (p.map Bz)&&PyData.canLayAll0 (DM l))=true
  rw[Gp l,zV];rfl
theorem Gq: ∀L:List (List (Nat×Nat)),PyData.canLayAll0 (Hk L)=true
 | []=>rfl
 | p::l=>by
  show (PyData.canLayAll0 (p.map Bz)&&PyData.canLayAll0 (Hk l))=true
  rw[Gq l,zV];rfl
theorem Gr: ∀L:List (List (Nat×Nat)),PyData.depthAll (DM L)<=2
 | []=>Qaa _
 | p::l=>Nat.max_le.mpr ⟨Qbw (zW p),Gr l⟩
theorem Gs: ∀L:List (List (Nat×Nat)),PyData.depthAll (Hk L)<=2
 | []=>Qaa _
 | p::l=>Nat.max_le.mpr ⟨Qbw (zW p),Gs l⟩
theorem BB: ∀L:List (List (Nat×Nat)),PyData.hasDictAll (DM L)=false
 | []=>rfl
 | p::l=>by
  show (PyData.hasDictAll (p.map Bz)||PyData.hasDictAll (DM l))=false
  rw[BB l,vg];rfl
theorem BC: ∀L:List (List (Nat×Nat)),PyData.hasDictAll (Hk L)=false
 | []=>rfl
 | p::l=>by
  show (PyData.hasDictAll (p.map Bz)||PyData.hasDictAll (Hk l))=false
  rw[BC l,vg];rfl
noncomputable def RA (ws:List (List Nat)) (L:List (List (Nat×Nat))):PyData:= .tuple [.tuple (uE ws), .tuple (Hk L)]
theorem KO {K:PySem.W.Frag} {H:Hp} {dr:Addr} {ws:List (List Nat)} {os:List Od} (h:zF H dr ws os):yJ K H (.ref dr) (RA ws (os.map jw)):=by
 obtain ⟨⟨wt,ot,h1,h2,h3⟩,hO⟩:=h
 exact .tup (bE.of h1) (.cons (.tup (bE.of h2) (je _)) (.cons (.tup (bE.of h3) (BA hO)) .nil))
theorem KP {K:PySem.W.Frag} {H:Hp}: ∀{ps:List Pr},(∀p∈ps,iS H p)->ug K H (jn ps) (ps.map fun p=>((p.c:Int),(p.i:Int)))
 | [],_=>trivial
 | p::ps,h=>⟨⟨p.t,rfl,bE.of (h p XS).tp⟩,KP fun q hq=>h q (kb _ hq)⟩
theorem Dh {x y:Int×Int} (h1:b8 y x=false) (h2:b8 x y=false):x=y:=by
 obtain ⟨a,b⟩:=x
 obtain ⟨c,d⟩:=y
 unfold b8 at*
 simp only[Qe3,Qe0,decide_eq_false_iff_not]at*
 refine Prod.ext ?_ ?_<;>(show (_:Int)=_;lia)
theorem BD: ∀{l m:List (Int×Int)},l.Perm m->l.Pairwise (fun x y=>b8 y x=false)->m.Pairwise (fun x y=>b8 y x=false)->l=m
 | [],m,h,_,_=>h.symm.eq_nil.symm
 | x::l,[],h,_,_=>absurd h.length_eq (by simp)
 | x::l,y::m,h,hl,hm=>by
  have e:x=y:=by
   have h1:x∈y::m:=h.mem_iff.mp XS
   have h2:y∈x::l:=h.mem_iff.mpr XS
   rcases Qah.mp h1 with z | z
   ·exact z
   rcases Qah.mp h2 with z2 | z2
   ·exact z2.symm
   exact Dh (Qb3 hl z2) (Qb3 hm z)
  subst e
  rw[BD (List.Perm.cons_inv h) (Qce.mp hl).2 (Qce.mp hm).2]
noncomputable def U5 (p:Pr):Int×Int:=((p.c:Int),(p.i:Int))
theorem Di {α:Type} (d:α) (ns:List α):((List.range ns.length).map fun i=>ns.getD i d)=ns:=by
 refine Qem (by simp) fun i h1 h2=>?_
 simp
 rw[LJ h2]
 rfl
theorem Nd {ps:List Pr} {idx:List Nat} (h:pE (ps.map fun p=>((p.c:Int),(p.i:Int))) idx): ∃KQ:List Pr,(idx.map fun i=>(jn ps).getD i .dY)=jn KQ/\KQ.Perm ps/\(KQ.map U5).Pairwise fun x y=>b8 y x=false:=by
 obtain ⟨hp,hw⟩:=h
 rw[V6]at hp
 have Rw: ∀i∈idx,i<ps.length:=fun i hi=>Qa3.mp (hp.mem_iff.mp hi)
 refine ⟨idx.map fun i=>ps.getD i ⟨0,0,0⟩,?_,?_,?_⟩
 ·unfold jn
  rw[Qbt]
  refine Qdc fun i hi=>?_
  show (List.map _ ps).getD i .dY=V.ref (ps.getD i ⟨0,0,0⟩).t
  rw[XO,XO,Qaj,LJ (Rw i hi)]
  rfl
 ·have:=hp.map fun i=>ps.getD i (⟨0,0,0⟩:Pr)
  rwa [Di]at this
 ·rw[Qbt]
  refine Eq.mp ?_ hw
  congr 1
  refine Qdc fun i hi=>?_
  show (List.map _ ps).getD i (0,0)=U5 (ps.getD i ⟨0,0,0⟩)
  rw[XO,XO,Qaj,LJ (Rw i hi)]
  rfl
theorem xF (ps:List Pr):ps.map U5=(ps.map Pr.pair).map fun p:Nat×Nat=>((p.1:Int),(p.2:Int)):=by rw[Qbt];rfl
theorem BE: ∀{l m:List (Nat×Nat)},(l.map fun p:Nat×Nat=>((p.1:Int),(p.2:Int)))=(m.map fun p:Nat×Nat=>((p.1:Int),(p.2:Int)))->l=m
 | [],[],_=>rfl
 | [],_::_,h=>by cases h
 | _::_,[],h=>by cases h
 | p::l,q::m,h=>by
  obtain ⟨h1,h2⟩:=List.cons.inj h
  obtain ⟨a,b⟩:=Prod.mk.inj h1
  rw[BE h2,Prod.ext (Qe8 a) (Qe8 b)]
theorem zX {band:Nat} {ws:List (List Nat)}: ∀{n:Nat}, ∀p∈bO band ws n,p.1<n:=fun {n} p hp=>by
 unfold bO at hp
 obtain ⟨c,hc,h⟩:=Qby.mp hp
 unfold eH at h
 obtain ⟨i,_,rfl⟩:=Qav.mp h
 exact Qa3.mp hc
noncomputable def pz (p:Nat×Nat):Int×Int:=(p.1,p.2)
theorem zY (band c:Nat) (w:List Nat): ∀n,(eH band c w n).Pairwise fun x y=>b8 (pz y) (pz x)=false:=fun n=>by
 unfold eH
 rw[Qbg]
 refine (List.Pairwise.filter _ Qeq).imp fun {i j} h=>?_
 unfold b8 pz
 simp
 lia
theorem nA (band:Nat) (ws:List (List Nat)): ∀n,n<=ws.length->(bO band ws n).Pairwise fun x y=>b8 (pz y) (pz x)=false
 | 0,_=>List.Pairwise.nil
 | n+1,h=>by
  rw[gu (LJ (by lia:n<ws.length)),Qc4]
  refine ⟨nA band ws n (by lia),zY _ _ _ _,fun x hx y hy=>?_⟩
  have h1:=zX x hx
  unfold eH at hy
  obtain ⟨i,_,rfl⟩:=Qav.mp hy
  unfold b8 pz
  simp
  lia
theorem qj (band:Nat) {ws:List (List Nat)} (hw: ∀w∈ws,w.length<=12): ∀n,n<=ws.length->(bO band ws n).length<=12*n
 | 0,_=>Sq _
 | n+1,h=>by
  have hn:n<ws.length:=by lia
  rw[gu (LJ hn),V7]
  have h1:=qj band hw n (by lia)
  have h2:=C8 band n ws[n] ws[n].length
  have h3:=hw _ (Qay hn)
  lia
local macro_rules | `(tactic| walk_at "rd") => `(tactic| repeat (first
 | refine ⟨_,rfl,?_⟩
 | refine ⟨_,_,rfl,rfl,?_⟩
 | refine ⟨rfl,?_⟩
 | refine And.intro (by first | decide | omega | assumption | exact Qev rfl | exact .inl ⟨by decide,by decide⟩ | exact .inr ⟨by decide,by decide⟩ | exact ⟨by decide,by decide⟩ | exact ⟨by omega,by omega⟩) ?_))
local macro_rules | `(tactic| walk_at "wk") => `(tactic| repeat (first
 | refine ⟨_,rfl,?_⟩
 | refine ⟨_,_,rfl,rfl,?_⟩
 | refine ⟨_,_,_,rfl,rfl,by first | assumption | omega,by assumption,?_⟩
 | refine ⟨rfl,?_⟩
 | refine And.intro (by first | decide | omega | assumption | exact Qev rfl | exact .inl ⟨by decide,by decide⟩ | exact .inr ⟨by decide,by decide⟩ | exact ⟨by decide,by decide⟩ | exact ⟨by omega,by omega⟩) ?_))
local macro_rules | `(tactic| walk_at "bd") => `(tactic| first | assumption | exact YK _ | exact apl (by walk_at "bd") (by walk_at "bd"))
noncomputable def top (i:Nat):Stmt:=PySem.Challenge.pw_mustmeet_k33_taut_drawings.main.body.getD i (.Pass ⟨0,0,0,0⟩)
noncomputable abbrev ko:Stmt:=top 1
noncomputable abbrev qk:Stmt:=top 2
noncomputable abbrev vm:Stmt:=top 4
noncomputable abbrev gF:Stmt:=top 5
noncomputable abbrev iD:Stmt:=top 7
noncomputable abbrev gG:Stmt:=top 9
noncomputable abbrev jx:Stmt:=top 11
noncomputable abbrev kr:Stmt:=top 12
noncomputable abbrev zZ:Stmt:=top 13
noncomputable abbrev z4:Stmt:=top 14
noncomputable abbrev gc:Stmt:=top 16
noncomputable abbrev gH:Stmt:=top 19
noncomputable abbrev iE:Stmt:=top 20
noncomputable abbrev mP:Stmt:=top 21
noncomputable abbrev mQ:Stmt:=top 22
noncomputable abbrev gI:Stmt:=top 23
noncomputable abbrev gf:Stmt:=top 24
noncomputable abbrev gJ:Stmt:=top 25
noncomputable abbrev iF:Stmt:=top 26
noncomputable abbrev z5:Stmt:=top 27
noncomputable abbrev z6:Stmt:=top 29
noncomputable abbrev vn:Stmt:=top 30
noncomputable abbrev ql:Stmt:=top 31
noncomputable abbrev vp:Stmt:=top 32
noncomputable abbrev qm:Stmt:=top 33
noncomputable abbrev vq:Stmt:=top 34
noncomputable abbrev qp:Stmt:=top 35
noncomputable abbrev qq:Stmt:=top 36
noncomputable abbrev qr:Stmt:=top 37
noncomputable abbrev Gu:Stmt:=top 38
noncomputable abbrev mR:Stmt:=top 39
noncomputable abbrev mS:Stmt:=top 40
noncomputable abbrev mT:Stmt:=top 41
noncomputable abbrev mU:Stmt:=top 42
noncomputable abbrev qt:Stmt:=top 43
noncomputable abbrev qu:Stmt:=top 44
noncomputable abbrev mV:Stmt:=top 45
noncomputable abbrev z7:Stmt:=top 46
noncomputable abbrev ku:Stmt:=top 47
noncomputable abbrev qv:Stmt:=top 48
noncomputable abbrev iG:Stmt:=top 49
noncomputable abbrev jy:Stmt:=top 50
noncomputable abbrev qw:Stmt:=top 51
noncomputable abbrev Gv:Stmt:=top 52
structure bo (K:PySem.W.Frag) (mg:Str->Option Value) (x:Str) (st:Stmt) (ps:List Str) (f:Addr) (fd:FuncData):Prop where
 fn:HK K x x st f fd
 mg:mg x=some (.ref f)
 bd:Binds K fd ps []
noncomputable abbrev jO:Stmt:=Wq (top 17) 0
noncomputable abbrev g7:Stmt:=Wq (top 18) 0
structure Txt (K:PySem.W.Frag) (mg:Str->Option Value) (f0 f1 f2 f3 f4 f5 f6 f7 f8 f9 Oi Gw Gx Oj Ol Om Oo Oq Ot Ou Ov Ow Ox Oy Oz OA OB OC OD OE OF OG OH OI OJ OK OL OM ON OO OP OQ OR OS aL aY ka gK:Addr) (d0 d1 d2 d3 d4 d5 d6 d7 d8 d9 OT OU OV KR OW OX OY OZ O0 O1 O2 O3 O4 JE O5 O6 O7 O8 O9 O_ Pa Pb Pc JF Pd Pe Ph Pj Pk Pl Pn Po Pp Pq xG qx:FuncData):Prop where
 F0:bo K mg "contrary" ko ["letter"] f0 d0
 F1:bo K mg "turned" qk ["word"] f1 d1
 F2:bo K mg "bands" vm ["yard"] f2 d2
 F3:bo K mg "steps_round" gF ["yard","start","end"] f3 d3
 F4:bo K mg "strands_in" iD ["words","band"] f4 d4
 F5:bo K mg "corner_ends" gG ["word","place"] f5 d5
 F6:bo K mg "shortened" jx ["word"] f6 d6
 F7:bo K mg "shortest" kr ["word"] f7 d7
 F8:bo K mg "ring" zZ ["word"] f8 d8
 F9:bo K mg "root" z4 ["word"] f9 d9
 SF:bo K mg "corner_steps" gc ["yard","word","place"] Oi OT
 xZ:bo K mg "steps_ahead" gH ["seen","start","end"] Gw OU
 x3:bo K mg "steps_back" iE ["seen","start","end"] Gx OV
 Nf:bo K mg "parting" mP ["steps","one","other","enough"] Oj KR
 Ng:bo K mg "side_of" mQ ["seen"] Ol OW
 SG:bo K mg "comes_ahead" gI ["one","other"] Om OX
 SH:bo K mg "number_among" gf ["order","seen"] Oo OY
 SI:bo K mg "seen_strand" gJ ["words","ways","strand"] Oq OZ
 SJ:bo K mg "taut_order" iF ["words","ways","band"] Ot O0
 Nh:bo K mg "taut" z5 ["yard","words"] Ou O1
 SK:bo K mg "_law_box" z6 ["_law_script","_law_k"] Ov O2
 gL:bo K mg "_law_take" vn ["_law_box_here","_law_many"] Ow O3
 eV:bo K mg "_law_other" ql ["_law_letter"] Ox O4
 SM:bo K mg "_law_yard" vp ["_law_box_here","_law_few","_law_top"] Oy JE
 Dm:bo K mg "_law_short" qm ["_law_box_here","_law_yard_here","_law_top"] Oz O5
 SN:bo K mg "_law_near" vq ["_law_box_here","_law_yard_here","_law_word","_law_top"] OA O6
 Ni:bo K mg "_law_order" qp ["_law_box_here","_law_things"] OB O7
 Nj:bo K mg "_law_bands" qq ["_law_yard_here"] OC O8
 Nk:bo K mg "_law_round" qr ["_law_yard_here","_law_x","_law_y","_law_z"] OD O9
 gh:bo K mg "_law_on" Gu ["_law_word","_law_k"] OE O_
 SO:bo K mg "_law_across" mR ["_law_yard_here","_law_w","_law_i","_law_v","_law_j"] OF Pa
 SQ:bo K mg "_law_shared" mS ["_law_w","_law_i","_law_v","_law_j","_law_counter"] OG Pb
 Nl:bo K mg "_law_begins" mT ["_law_yard_here","_law_w","_law_i","_law_v","_law_j","_law_counter"] OH Pc
 SR:bo K mg "_law_forced" mU ["_law_yard_here","_law_words_here"] OI JF
 SS:bo K mg "_law_times" qt ["_law_word"] OJ Pd
 SU:bo K mg "_law_least" qu ["_law_yard_here","_law_words_here"] OK Pe
 SV:bo K mg "_law_points" mV ["_law_yard_here","_law_drawing"] OL Ph
 SX:bo K mg "_law_met" z7 ["_law_yard_here","_law_drawing"] OM Pj
 SY:bo K mg "_law_strands" ku ["_law_yard_here","_law_words_here"] ON Pk
 S0:bo K mg "_law_words" qv ["_law_box_here","_law_yard_here","_law_many","_law_top"] OO Pl
 S3:bo K mg "_law_many_times" iG ["_law_box_here","_law_yard_here"] OP Pn
 S4:bo K mg "_law_any_words" jy ["_law_box_here","_law_yard_here","_law_is_first"] OQ Po
 S5:bo K mg "_law_right" qw ["_law_yard_here","_law_words_here"] OR Pp
 YL:bo K mg "law" Gv ["_law_script"] OS Pq
 Gy:mg "Seen"=some (.ref aL)
 dJ:Hx K aL
 n_Seen_strand:eh K aL "strand"
 n_Seen_way:eh K aL "way"
 n_Seen_place:eh K aL "place"
 KS:mg "Way"=some (.ref aY)
 gw:Hx K aY
 n_Way_size:eh K aY "size"
 n_Way_root_size:eh K aY "root_size"
 n_Way_leads:eh K aY "leads"
 n_Way_onward:eh K aY "onward"
 n_Way_backward:eh K aY "backward"
 KU:Mk K aY ka
 RB:HK K "__init__" "Way.__init__" jO ka xG
 KW:Binds K xG ["self","yard","word","longest"] []
 Gz:Mk K aL gK
 Nm:HK K "__init__" "Seen.__init__" g7 gK qx
 GA:Binds K qx ["self","strand","way","place"] []
 z_all:mg "all"=none
 z_dict:mg "dict"=none
 z_enumerate:mg "enumerate"=none
 z_int:mg "int"=none
 z_isinstance:mg "isinstance"=none
 z_len:mg "len"=none
 z_list:mg "list"=none
 z_max:mg "max"=none
 z_min:mg "min"=none
 z_range:mg "range"=none
 z_reversed:mg "reversed"=none
 z_set:mg "set"=none
 z_sorted:mg "sorted"=none
 z_str:mg "str"=none
 z_sum:mg "sum"=none
 z_tuple:mg "tuple"=none
theorem xH:aG ["letter"] ["letter"] (au ko):=⟨rfl,rfl,rfl,by decide+kernel,rfl,by decide+kernel,by decide+kernel⟩
theorem Dp:aG ["word"] ["word"] (au qk):=⟨rfl,rfl,rfl,by decide+kernel,rfl,by decide+kernel,by decide+kernel⟩
theorem GB:aG ["yard"] ["yard"] (au vm):=⟨rfl,rfl,rfl,by decide+kernel,rfl,by decide+kernel,by decide+kernel⟩
theorem qy:aG ["yard","start","end"] ["yard","start","end"] (au gF):=⟨rfl,rfl,rfl,by decide+kernel,rfl,by decide+kernel,by decide+kernel⟩
theorem cT:aG ["words","band","found","cord","word","place","letter"] ["words","band"] (au iD):=⟨rfl,rfl,rfl,by decide+kernel,rfl,by decide+kernel,by decide+kernel⟩
theorem qz:aG ["word","place"] ["word","place"] (au gG):=⟨rfl,rfl,rfl,by decide+kernel,rfl,by decide+kernel,by decide+kernel⟩
theorem iH:aG ["word","kept","letter"] ["word"] (au jx):=⟨rfl,rfl,rfl,by decide+kernel,rfl,by decide+kernel,by decide+kernel⟩
theorem dW:aG ["word","left","start","end"] ["word"] (au kr):=⟨rfl,rfl,rfl,by decide+kernel,rfl,by decide+kernel,by decide+kernel⟩
theorem jP:aG ["word","whole","least","start","begun"] ["word"] (au zZ):=⟨rfl,rfl,rfl,by decide+kernel,rfl,by decide+kernel,by decide+kernel⟩
theorem oE:aG ["word","whole","size","times"] ["word"] (au z4):=⟨rfl,rfl,rfl,by decide+kernel,rfl,by decide+kernel,by decide+kernel⟩
theorem iN:aG ["yard","word","place","ends"] ["yard","word","place"] (au gc):=⟨rfl,rfl,rfl,by decide+kernel,rfl,by decide+kernel,by decide+kernel⟩
theorem jz:aG ["seen","start","end","first"] ["seen","start","end"] (au gH):=⟨rfl,rfl,rfl,by decide+kernel,rfl,by decide+kernel,by decide+kernel⟩
theorem kc:aG ["seen","start","end","first"] ["seen","start","end"] (au iE):=⟨rfl,rfl,rfl,by decide+kernel,rfl,by decide+kernel,by decide+kernel⟩
theorem dM:aG ["steps","one","other","enough","many","size"] ["steps","one","other","enough"] (au mP):=⟨rfl,rfl,rfl,by decide+kernel,rfl,by decide+kernel,by decide+kernel⟩
theorem kx:aG ["seen","way","cord"] ["seen"] (au mQ):=⟨rfl,rfl,rfl,by decide+kernel,rfl,by decide+kernel,by decide+kernel⟩
theorem eI:aG ["one","other","enough","ahead","back"] ["one","other"] (au gI):=⟨rfl,rfl,rfl,by decide+kernel,rfl,by decide+kernel,by decide+kernel⟩
theorem cg:aG ["order","seen","low","high","middle"] ["order","seen"] (au gf):=⟨rfl,rfl,rfl,by decide+kernel,rfl,by decide+kernel,by decide+kernel⟩
theorem gg:aG ["words","ways","strand","word","place"] ["words","ways","strand"] (au gJ):=⟨rfl,rfl,rfl,by decide+kernel,rfl,by decide+kernel,by decide+kernel⟩
theorem fh:aG ["words","ways","band","order","strand","seen"] ["words","ways","band"] (au iF):=⟨rfl,rfl,rfl,by decide+kernel,rfl,by decide+kernel,by decide+kernel⟩
theorem vv:aG ["yard","words","longest","ways"] ["yard","words"] (au z5):=⟨rfl,rfl,rfl,by decide+kernel,rfl,by decide+kernel,by decide+kernel⟩
theorem lP:aG ["_law_script","_law_k","_law_cell","_law_seed"] ["_law_script","_law_k"] (au z6):=⟨rfl,rfl,rfl,by decide+kernel,rfl,by decide+kernel,by decide+kernel⟩
theorem qA:aG ["_law_box_here","_law_many","_law_digit","_law_one"] ["_law_box_here","_law_many"] (au vn):=⟨rfl,rfl,rfl,by decide+kernel,rfl,by decide+kernel,by decide+kernel⟩
theorem mW:aG ["_law_letter","_law_small","_law_capital"] ["_law_letter"] (au ql):=⟨rfl,rfl,rfl,by decide+kernel,rfl,by decide+kernel,by decide+kernel⟩
theorem fA:aG ["_law_box_here","_law_few","_law_top","_law_left","_law_ends","_law_k","_law_letter","_law_found"] ["_law_box_here","_law_few","_law_top"] (au vp):=⟨rfl,rfl,rfl,by decide+kernel,rfl,by decide+kernel,by decide+kernel⟩
theorem cU:aG ["_law_box_here","_law_yard_here","_law_top","_law_many","_law_form","_law_word","_law_letter"] ["_law_box_here","_law_yard_here","_law_top"] (au qm):=⟨rfl,rfl,rfl,by decide+kernel,rfl,by decide+kernel,by decide+kernel⟩
theorem jA:aG ["_law_box_here","_law_yard_here","_law_word","_law_top","_law_form","_law_at","_law_letter","_law_some"] ["_law_box_here","_law_yard_here","_law_word","_law_top"] (au vq):=⟨rfl,rfl,rfl,by decide+kernel,rfl,by decide+kernel,by decide+kernel⟩
theorem mX:aG ["_law_box_here","_law_things","_law_left","_law_found"] ["_law_box_here","_law_things"] (au qp):=⟨rfl,rfl,rfl,by decide+kernel,rfl,by decide+kernel,by decide+kernel⟩
theorem Dq:aG ["_law_yard_here"] ["_law_yard_here"] (au qq):=⟨rfl,rfl,rfl,by decide+kernel,rfl,by decide+kernel,by decide+kernel⟩
theorem mY:aG ["_law_yard_here","_law_x","_law_y","_law_z","_law_at","_law_rest"] ["_law_yard_here","_law_x","_law_y","_law_z"] (au qr):=⟨rfl,rfl,rfl,by decide+kernel,rfl,by decide+kernel,by decide+kernel⟩
theorem Nn:aG ["_law_word","_law_k"] ["_law_word","_law_k"] (au Gu):=⟨rfl,rfl,rfl,by decide+kernel,rfl,by decide+kernel,by decide+kernel⟩
theorem eW:aG ["_law_yard_here","_law_w","_law_i","_law_v","_law_j","_law_a","_law_b","_law_p","_law_q","_law_at","_law_rest"] ["_law_yard_here","_law_w","_law_i","_law_v","_law_j"] (au mR):=⟨rfl,rfl,rfl,by decide+kernel,rfl,by decide+kernel,by decide+kernel⟩
theorem iI:aG ["_law_w","_law_i","_law_v","_law_j","_law_counter","_law_many","_law_other_here"] ["_law_w","_law_i","_law_v","_law_j","_law_counter"] (au mS):=⟨rfl,rfl,rfl,by decide+kernel,rfl,by decide+kernel,by decide+kernel⟩
theorem de:aG ["_law_yard_here","_law_w","_law_i","_law_v","_law_j","_law_counter","_law_many","_law_p","_law_q","_law_behind","_law_last","_law_one"] ["_law_yard_here","_law_w","_law_i","_law_v","_law_j","_law_counter"] (au mT):=⟨rfl,rfl,rfl,by decide+kernel,rfl,by decide+kernel,by decide+kernel⟩
theorem bK:aG ["_law_yard_here","_law_words_here","_law_found","_law_places","_law_c","_law_word","_law_i","_law_d","_law_j","_law_w","_law_v","_law_many","_law_there"] ["_law_yard_here","_law_words_here"] (au mU):=⟨rfl,rfl,rfl,by decide+kernel,rfl,by decide+kernel,by decide+kernel⟩
theorem tq:aG ["_law_word","_law_many"] ["_law_word"] (au qt):=⟨rfl,rfl,rfl,by decide+kernel,rfl,by decide+kernel,by decide+kernel⟩
theorem Dr:aG ["_law_yard_here","_law_words_here"] ["_law_yard_here","_law_words_here"] (au qu):=⟨rfl,rfl,rfl,by decide+kernel,rfl,by decide+kernel,by decide+kernel⟩
theorem dN:aG ["_law_yard_here","_law_drawing","_law_words_here","_law_orders","_law_names","_law_found","_law_end","_law_some"] ["_law_yard_here","_law_drawing"] (au mV):=⟨rfl,rfl,rfl,by decide+kernel,rfl,by decide+kernel,by decide+kernel⟩
theorem dH:aG ["_law_yard_here","_law_drawing","_law_at","_law_chords","_law_c","_law_word","_law_i","_law_letter","_law_back","_law_many","_law_k","_law_one"] ["_law_yard_here","_law_drawing"] (au z7):=⟨rfl,rfl,rfl,by decide+kernel,rfl,by decide+kernel,by decide+kernel⟩
theorem dX:aG ["_law_yard_here","_law_words_here","_law_found","_law_band","_law_some","_law_c","_law_word"] ["_law_yard_here","_law_words_here"] (au ku):=⟨rfl,rfl,rfl,by decide+kernel,rfl,by decide+kernel,by decide+kernel⟩
theorem jQ:aG ["_law_box_here","_law_yard_here","_law_many","_law_top","_law_found","_law_k","_law_one"] ["_law_box_here","_law_yard_here","_law_many","_law_top"] (au qv):=⟨rfl,rfl,rfl,by decide+kernel,rfl,by decide+kernel,by decide+kernel⟩
theorem cw:aG ["_law_box_here","_law_yard_here","_law_root_word","_law_word","_law_letters","_law_fit","_law_near_here"] ["_law_box_here","_law_yard_here"] (au iG):=⟨rfl,rfl,rfl,by decide+kernel,rfl,by decide+kernel,by decide+kernel⟩
theorem fO:aG ["_law_box_here","_law_yard_here","_law_is_first","_law_form","_law_many","_law_top"] ["_law_box_here","_law_yard_here","_law_is_first"] (au jy):=⟨rfl,rfl,rfl,by decide+kernel,rfl,by decide+kernel,by decide+kernel⟩
theorem tw:aG ["_law_yard_here","_law_words_here","_law_found"] ["_law_yard_here","_law_words_here"] (au qw):=⟨rfl,rfl,rfl,by decide+kernel,rfl,by decide+kernel,by decide+kernel⟩
theorem mZ:aG ["_law_script","_law_asked","_law_k","_law_box_here","_law_yard_here","_law_words_here"] ["_law_script"] (au Gv):=⟨rfl,rfl,rfl,by decide+kernel,rfl,by decide+kernel,by decide+kernel⟩
theorem qB:aG ["self","yard","word","longest","steps","rounds"] ["self","yard","word","longest"] (au jO):=⟨rfl,rfl,rfl,by decide+kernel,rfl,by decide+kernel,by decide+kernel⟩
theorem Ds:aG ["self","strand","way","place"] ["self","strand","way","place"] (au g7):=⟨rfl,rfl,rfl,by decide+kernel,rfl,by decide+kernel,by decide+kernel⟩
section
variable {P:Program} {w:World} {K:PySem.W.Frag} {mg:Str->Option Value} {base:Heap} {f0 f1 f2 f3 f4 f5 f6 f7 f8 f9 Oi Gw Gx Oj Ol Om Oo Oq Ot Ou Ov Ow Ox Oy Oz OA OB OC OD OE OF OG OH OI OJ OK OL OM ON OO OP OQ OR OS aL aY ka gK:Addr} {d0 d1 d2 d3 d4 d5 d6 d7 d8 d9 OT OU OV KR OW OX OY OZ O0 O1 O2 O3 O4 JE O5 O6 O7 O8 O9 O_ Pa Pb Pc JF Pd Pe Ph Pj Pk Pl Pn Po Pp Pq xG qx:FuncData}
variable (T:Txt K mg f0 f1 f2 f3 f4 f5 f6 f7 f8 f9 Oi Gw Gx Oj Ol Om Oo Oq Ot Ou Ov Ow Ox Oy Oz OA OB OC OD OE OF OG OH OI OJ OK OL OM ON OO OP OQ OR OS aL aY ka gK d0 d1 d2 d3 d4 d5 d6 d7 d8 d9 OT OU OV KR OW OX OY OZ O0 O1 O2 O3 O4 JE O5 O6 O7 O8 O9 O_ Pa Pb Pc JF Pd Pe Ph Pj Pk Pl Pn Po Pp Pq xG qx)
include T
theorem z8:bF P w K mg base fD 1 OE O_ ["_law_word","_law_k"] (Fc K):=by
 refine T.gh.fn.ok Nn (fun vs H Q E h=>IT h) (fun _ _ _ _ H vs Q E hr h=>?_)
 refine ⟨_,(aj (aF (aN gB (pv 0) (av dv (pv 1) (ar aH rfl T.z_len Qac (aa (pv 0) ae))) (fun _ _=>rfl)))),?_⟩
 obtain ⟨w,k,rfl,hw,hz,q⟩:=h
 have hs:=Zs1
 have pw:(0:Int)<(w.length:Int):=by have:=V9.mpr hw;lia
 exact ⟨_,rfl,_,rfl,_,rfl,w,rfl,by lia,_,_,rfl,rfl,pw,w,_,_,rfl,rfl,by lia,Mz hw _,q⟩
theorem cV:bF P w K mg base fD 1 Ox O4 ["_law_letter"] (r9 K):=by
 refine T.eV.fn.ok mW (fun vs H Q E h=>y6 h) (fun _ _ _ _ H vs Q E hr h=>?_)
 refine ⟨_,(ah (aq (i:=1) mW.nd rfl (Or.inl rfl) (i4 [97,98,99,100,101,102,103,104,105,106,107,108,109,110,111,112,113,114,115,116,117,118,119,120,121,122] (by decide+kernel)))
   (ah (aq (i:=2) mW.nd rfl (Or.inl rfl) (i4 [65,66,67,68,69,70,71,72,73,74,75,76,77,78,79,80,81,82,83,84,85,86,87,88,89,90] (by decide+kernel)))
   (ah (bC (aD Ee (pv 0) (pv 1) (by with_unfolding_all rfl)) (aj (aF (aN gB (pv 2) (ba K rfl Qao Qbq Qbp dQ (pv 1) (aa (pv 0) ae)) (fun _ _=>rfl)))) aV)
   (aj (aF (aN gB (pv 1) (ba K rfl Qao Qbq Qbp dQ (pv 2) (aa (pv 0) ae)) (fun _ _=>rfl))))))),?_⟩
 obtain ⟨c,rfl,hc,q⟩:=h
 refine ⟨_,rfl,_,rfl,c,aU,rfl,rfl,_,rfl,bp (fun e=>?_) (fun e=>?_)⟩
 ·have hm:c∈aU:=of_decide_eq_true e
  exact ⟨_,rfl,_,rfl,rfl,_,rfl,aU,c,rfl,rfl,hm,ie,_,aB c,rfl,rfl,by decide,wG c hm,q⟩
 ·have hm:c∈ie:=hc.resolve_left fun z=>e (decide_eq_true z)
  exact ⟨_,rfl,_,rfl,rfl,_,rfl,ie,c,rfl,rfl,hm,aU,_,aB c,rfl,rfl,by decide,CC c hm,q⟩
theorem z9:bF P w K mg base fD 2 OG Pb ["_law_w","_law_i","_law_v","_law_j","_law_counter"] (pQ K):=by
 have fB:=z8 (P:=P) (w:=w) (base:=base) T
 walk_at"k"
 refine T.SQ.fn.ok iI (fun vs H Q E h=>w5 h) (fun _ _ _ _ H vs Q E hr h=>?_)
 refine ⟨_,(ah (cD PassesOwn.never rfl (fP rfl T.z_range (aa (av aW (ar aH rfl T.z_len Qac (aa (pv 0) ae)) (ar aH rfl T.z_len Qac (aa (pv 2) ae))) ae)) (aC (i:=5) iI.nd rfl (Or.inl rfl)) (ah (aq (i:=6) iI.nd rfl (Or.inl rfl) (ak fB (hr.mono (by decide)) rfl T.gh.mg T.gh.fn.kp T.gh.bd .nil ay (aa (pv 2) (aa (av aW (pv 3) (pv 5)) ae))))
   (ah (bC (eM (pv 4)) (aj (aq (i:=6) iI.nd rfl (Or.inl rfl) (ak aX (hr.mono (by decide)) rfl T.eV.mg T.eV.fn.kp T.eV.bd .nil ay (aa (ak fB (hr.mono (by decide)) rfl T.gh.mg T.gh.fn.kp T.gh.bd .nil ay (aa (pv 2) (aa (av b6 (pv 3) (pv 5)) ae))) ae)))) aV)
   (aj (bC (aD Eo (ak fB (hr.mono (by decide)) rfl T.gh.mg T.gh.fn.kp T.gh.bd .nil ay (aa (pv 0) (aa (av aW (pv 1) (pv 5)) ae))) (pv 6) (aE _)) (aj (aF (pv 5))) aV)))))
   (aj (aF (gi dZ ai)))),?_⟩
 obtain ⟨w,i,v,j,b,rfl,hw,hv,lv,wz,vz,q⟩:=h
 have hs:=Zs1
 refine ⟨_,rfl,w,rfl,by lia,_,rfl,v,rfl,by lia,_,_,rfl,rfl,_,rfl,by lia,by lia,?_⟩
 rw[show ((w.length:Int)+(v.length:Int)).toNat=w.length+v.length by lia]
 refine eO (fun k σ H'=>H'=H/\ ∃mv ov:Option V,σ=[some (.str (S w)),some (.int i),some (.str (S v)),some (.int j),some (.bl b),mv,ov]/\ ∀t:Nat,t<k->sq w i t=wq v j b t) ⟨rfl,none,none,rfl,fun t ht=>absurd ht (Qco _)⟩ ?_ ?_
 ·rintro k σ H1 hk ⟨rfl,mv,ov,rfl,al⟩
  have stop:sq w i k≠wq v j b k->xU (sq w i) (wq v j b) (w.length+v.length)=((0:Int)+(k:Int)):=fun e=>by
   unfold xU
   rw[ze al e hk,if_neg (by lia)]
   lia
  have go:sq w i k=wq v j b k-> ∀t:Nat,t<k+1->sq w i t=wq v j b t:=fun e t ht=>by
   by_cases z:t=k
   ·rw[z];exact e
   ·exact al t (by lia)
  refine ⟨_,rfl,_,rfl,_,rfl,_,_,rfl,rfl,v,_,rfl,hv,by lia,?_⟩
  cases b with
  | false=>
   refine ⟨_,rfl,_,rfl,?_⟩
   refine kf ?_
   refine ⟨_,rfl,_,rfl,_,rfl,_,_,rfl,rfl,w,_,rfl,hw,by lia,_,rfl,_,_,rfl,rfl,_,rfl,bp (fun z=>?_) (fun z=>?_)⟩
   ·have e:sq w i k≠wq v j false k:=fun g=>by
     have g':rd w (i+(0+(k:Int)))=rd v (j+(0+(k:Int))):=by rw[Qcu];exact g
     rw[g']at z;simp at z
    rw[stop e]at q
    exact ⟨_,rfl,q⟩
   ·have e:sq w i k=wq v j false k:=by
     have g':rd w (i+(0+(k:Int)))=rd v (j+(0+(k:Int))):=by simpa using z
     rw[Qcu]at g';exact g'
    exact ⟨rfl,_,_,rfl,go e⟩
  | true=>
   refine ⟨_,rfl,_,rfl,?_⟩
   refine t9 ?_
   refine ⟨_,rfl,_,rfl,_,rfl,_,_,rfl,rfl,v,_,rfl,hv,by lia,_,rfl,lv _ (iu hv _),?_⟩
   refine ⟨_,rfl,_,rfl,_,rfl,_,_,rfl,rfl,w,_,rfl,hw,by lia,_,rfl,_,_,rfl,rfl,_,rfl,bp (fun z=>?_) (fun z=>?_)⟩
   ·have e:sq w i k≠wq v j true k:=fun g=>by
     have g':rd w (i+(0+(k:Int)))=aB (rd v (j - (0+(k:Int)))):=by rw[Qcu];exact g
     rw[g']at z;simp at z
    rw[stop e]at q
    exact ⟨_,rfl,q⟩
   ·have e:sq w i k=wq v j true k:=by
     have g':rd w (i+(0+(k:Int)))=aB (rd v (j - (0+(k:Int)))):=by simpa using z
     rw[Qcu]at g';exact g'
    exact ⟨rfl,_,_,rfl,go e⟩
 ·rintro σ H1 ⟨rfl,mv,ov,rfl,al⟩
  have e:xU (sq w i) (wq v j b) (w.length+v.length)= -1:=by unfold xU;rw[E1 al,if_pos rfl]
  rw[e]at q
  exact ⟨_,rfl,q⟩
theorem Dt:bF P w K mg base fD 1 OJ Pd ["_law_word"] (sZ K):=by
 refine T.SS.fn.ok tq (fun vs H Q E h=>zS h) (fun _ _ _ _ H vs Q E hr h=>?_)
 refine ⟨_,(ah (cD PassesOwn.never rfl (lV rfl T.z_range (aa ai (aa (ar aH rfl T.z_len Qac (aa (pv 0) ae)) ae))) (aC (i:=1) tq.nd rfl (Or.inl rfl)) (aj (bC (PW.pt (eN (aD eQ (av dv (ar aH rfl T.z_len Qac (aa (pv 0) ae)) (pv 1)) ai (aE _)) (dF (aD gC (pv 0) (av kP (bh hZ (pv 0) ck (bf (pv 1))) (av dA (ar aH rfl T.z_len Qac (aa (pv 0) ae)) (pv 1))) (aE _))))) (aj (aF (av dA (ar aH rfl T.z_len Qac (aa (pv 0) ae)) (pv 1)))) aV)))
   (aj (aF ai))),?_⟩
 obtain ⟨w',rfl,hn,hz,q⟩:=h
 have hs:=Zs1
 have h1:1<=w'.length:=V9.mpr hn
 have kA:w'.length<=sizeLine:=by lia
 walk_at "wk"
 refine ⟨_,_,rfl,⟨by decide,by decide,by lia,by lia⟩,?_⟩
 refine eO (fun i σ H'=>H'=H/\(∀j,1<=j->j<=i-> ¬eE w' j)/\ ∃sv,σ=[some (.str (S w')),sv]) ⟨rfl,fun j h1 h2=>by lia,none,rfl⟩ ?_ ?_
 ·rintro i σ H2 hi ⟨rfl,JG,sv,rfl⟩
  have e1:(1:Int)+(i:Int)=((i+1:Nat):Int):=by lia
  rw[e1]
  have e2:(w'.length:Int) / ((i+1:Nat):Int)=((w'.length / (i+1):Nat):Int):=(Qdy _ _).symm
  have e3:(w'.length:Int)%((i+1:Nat):Int)=((w'.length%(i+1):Nat):Int):=(Qdx _ _).symm
  have hd:=Qfr w'.length (i+1)
  have hmul:(w'.take (i+1)).length*(w'.length / (i+1))<=sizeLine:=by
   have h1:(w'.take (i+1)).length<=i+1:=by rw[Qak];lia
   have h2:=Nat.mul_div_le w'.length (i+1)
   have h3:=Qd1 (w'.length / (i+1)) h1
   lia
  have next: ¬eE w' (i+1)-> ∀j,1<=j->j<=i+1-> ¬eE w' j:=fun z1 j j1 j2=>by
   by_cases y:j=i+1
   ·rw[y];exact z1
   ·exact JG j j1 (by lia)
  have HS:i+1<w'.length:=by lia
  walk_at "wk"
  refine bp (fun zm=>?_) (fun zm=>?_)
  ·walk_at "wk"
   refine ⟨⟨by rw[e2];exact Qeb _,by rw[e2];exact Int.ofNat_le.mpr (Qa8 hd (by lia:w'.length<=1000000))⟩,by rw[e2,cX,XQ];exact hmul,?_⟩
   walk_at "wk"
   walk_at"i"
   ·have z1:eE w' (i+1):=by
     have:=of_decide_eq_true z
     rw[e2,cX,XQ]at this
     exact this.symm
    walk_at "wk"
    show Q (.int ((w'.length:Int) / ((i+1:Nat):Int))) H2
    rw[e2]
    exact q _ (.inr ⟨by lia,by lia,z1,fun j j1 j2=>JG j j1 (by lia)⟩)
   ·have z1: ¬eE w' (i+1):=fun y=>z (decide_eq_true (by
     rw[e2,cX,XQ]
     exact (show dh _ _=_ from y).symm))
    exact ⟨rfl,next z1,_,rfl⟩
  ·refine ⟨rfl,next fun y=>zm (decide_eq_true ?_),_,rfl⟩
   have hp:=IM (by lia) y
   have hm:=Qdi w'.length (i+1)
   rw[Qb6]at hm
   rw[e3]
   lia
 ·rintro σ H2 ⟨rfl,JG,sv,rfl⟩
  have k:=q w'.length (.inr ⟨h1,Sq _,sj w' hn,fun j j1 j2=>JG j j1 (by lia)⟩)
  rw[Nat.div_self h1]at k
  exact k
theorem jB:bF P w K mg base fD 1 Gw OU ["seen","start","end"] (f_ K aY aL):=by
 refine T.xZ.fn.ok jz (fun vs H Q E h=>nR h) (fun _ _ _ _ H vs Q E hr h=>?_)
 refine ⟨_,(ah (aq (i:=3) jz.nd rfl (Or.inl rfl) (av aW (bM K rfl (pv 0) rfl) ai))
   (aj (aF (bh hZ (bM K rfl (bM K rfl (pv 0) rfl) rfl) (bf (av aW (pv 3) (pv 1))) (bf (av aW (pv 3) (pv 2))))))),?_⟩
 obtain ⟨y,lg,s,x,z,rfl,hz,hs,U6,q⟩:=h
 obtain ⟨d1,e1⟩:=hs.ob
 obtain ⟨d2,e2⟩:=hs.wy.ob
 have:=hs.wy.uz
 have:=hs.wy.lz
 have h1:1<=s.u.length:=Qbc (Qaa _) hs.pz
 have rl:=lL (lg:=lg) h1
 have S6:(100000:Nat)<sizeLine:=by decide
 refine ⟨_,rfl,s.a,aL,d1,_,_,rfl,e1,T.dJ,T.n_Seen_place,lK,?_⟩
 walk_at "rd"
 refine ⟨s.a,aL,d1,_,_,rfl,e1,T.dJ,T.n_Seen_way,mL,s.wy,aY,d2,_,_,rfl,e2,T.gw,T.n_Way_onward,Rx,?_⟩
 walk_at "rd"
 refine ⟨by rw[sV,dq];lia,?_⟩
 rw[show (s.p:Int)+1=((s.p+1:Nat):Int) by lia,Bm U6]
 exact q
theorem ke:bF P w K mg base fD 1 Gx OV ["seen","start","end"] (gE K aY aL):=by
 refine T.x3.fn.ok kc (fun vs H Q E h=>p_ h) (fun _ _ _ _ H vs Q E hr h=>?_)
 refine ⟨_,(ah (aq (i:=3) kc.nd rfl (Or.inl rfl) (av b6 (av b6 (bM K rfl (bM K rfl (pv 0) rfl) rfl) ai) (bM K rfl (pv 0) rfl)))
   (aj (aF (bh hZ (bM K rfl (bM K rfl (pv 0) rfl) rfl) (bf (av aW (pv 3) (pv 1))) (bf (av aW (pv 3) (pv 2))))))),?_⟩
 obtain ⟨y,lg,s,x,z,rfl,hz,hs,U6,q⟩:=h
 obtain ⟨d1,e1⟩:=hs.ob
 obtain ⟨d2,e2⟩:=hs.wy.ob
 have:=hs.wy.uz
 have:=hs.wy.lz
 have hp:=hs.pz
 have h1:1<=s.u.length:=Qbc (Qaa _) hs.pz
 have rl:=lL (lg:=lg) h1
 have S6:(100000:Nat)<sizeLine:=by decide
 refine ⟨_,rfl,s.a,aL,d1,_,_,rfl,e1,T.dJ,T.n_Seen_way,mL,s.wy,aY,d2,_,_,rfl,e2,T.gw,T.n_Way_size,Bl,?_⟩
 walk_at "rd"
 refine ⟨s.a,aL,d1,_,_,rfl,e1,T.dJ,T.n_Seen_place,lK,?_⟩
 walk_at "rd"
 refine ⟨s.a,aL,d1,_,_,rfl,e1,T.dJ,T.n_Seen_way,mL,s.wy,aY,d2,_,_,rfl,e2,T.gw,T.n_Way_backward,Jr,?_⟩
 walk_at "rd"
 refine ⟨by rw[sV,Qaz,dq];lia,?_⟩
 rw[show (s.u.length:Int) - 1 - s.p=((s.u.length - 1 - s.p:Nat):Int) by lia,Bm U6]
 exact q
theorem z_:bF P w K mg base fD 2 Oj KR ["steps","one","other","enough"] (qb K aY aL Gw Gx):=by
 have cx:=jB (P:=P) (w:=w) (base:=base) T
 have cO:=ke (P:=P) (w:=w) (base:=base) T
 refine T.Nf.fn.ok dM (fun vs H Q E h=>xr h) (fun _ _ _ _ H vs Q E hr h=>?_)
 refine ⟨_,(ah (aq (i:=4) dM.nd rfl (Or.inl rfl) ai)
   (ah (aq (i:=5) dM.nd rfl (Or.inl rfl) ai)
   (ff (dR PassesOwn.never (PW.pt (eN (aD gj (pv 4) (pv 3) (aE _)) (dF (aD gC (kX (pv 0) cx (hr.mono (by decide)) T.xZ.fn.kp T.xZ.bd cO (hr.mono (by decide)) T.x3.fn.kp T.x3.bd ay (aa (pv 1) (aa (pv 4) (aa (av aW (pv 4) (pv 5)) ae)))) (kX (pv 0) cx (hr.mono (by decide)) T.xZ.fn.kp T.xZ.bd cO (hr.mono (by decide)) T.x3.fn.kp T.x3.bd ay (aa (pv 2) (aa (pv 4) (aa (av aW (pv 4) (pv 5)) ae)))) (aE _))))) (ah (lU (i:=4) dM.nd rfl (Or.inl rfl) (pv 5) yk)
   (aj (lU (i:=5) dM.nd rfl (Or.inl rfl) ai Mp))))
   (ff (dR PassesOwn.never (aD kE (pv 5) ai (aE _)) (ah (lU (i:=5) dM.nd rfl (Or.inl rfl) ai Ir)
   (aj (bC (aD gC (kX (pv 0) cx (hr.mono (by decide)) T.xZ.fn.kp T.xZ.bd cO (hr.mono (by decide)) T.x3.fn.kp T.x3.bd ay (aa (pv 1) (aa (pv 4) (aa (av aW (pv 4) (pv 5)) ae)))) (kX (pv 0) cx (hr.mono (by decide)) T.xZ.fn.kp T.xZ.bd cO (hr.mono (by decide)) T.x3.fn.kp T.x3.bd ay (aa (pv 2) (aa (pv 4) (aa (av aW (pv 4) (pv 5)) ae)))) (aE _)) (aj (lU (i:=4) dM.nd rfl (Or.inl rfl) (pv 5) yk)) aV))))
   (aj (aF (pv 4))))))),?_⟩
 obtain ⟨y,lg,s1,t1,b,en,rfl,hz,hs,ht,Np,q⟩:=h
 have call: ∀(u:Sn) (x d:Nat) (t:TA) (σ:L2.St) (Q':VK),σ[0]? =some (some (V.ref (if b=true then Gw else Gx)))->jq H aY aL y lg u->(∀R:List V->Hp->Prop,R [V.ref u.a,V.int x,V.int ((x:Int)+d)] H->t σ H R)->Q' (V.str (S (seg (M0 b y lg u) x (x+d)))) H->EL Gw Gx (f_ K aY aL) (gE K aY aL) E0 (Ld 0) t σ H Q':=by
  intro u x d t σ Q' h0 hu S7 hq
  refine ⟨_,h0,?_⟩
  cases b
  ·exact .inr ⟨rfl,S7 _ ⟨y,lg,u,x,x+d,by rw[Qba],hz,hu,by lia,hq⟩⟩
  ·exact .inl ⟨rfl,S7 _ ⟨y,lg,u,x,x+d,by rw[Qba],hz,hu,by lia,hq⟩⟩
 generalize (if b=true then Gw else Gx)=fx at call ⊢
 generalize el:M0 b y lg s1=l at q
 generalize em:M0 b y lg t1=m at q
 walk_at "rd"
 refine ⟨fun σ H'=> ∃(mn sz e:Nat),σ=[some (.ref fx),some (.ref s1.a),some (.ref t1.a),some (.int en),some (.int mn),some (.int sz)]/\H'=H/\sz=2 ^ e/\sz<=1000000/\mn<=1000000/\jr l m mn/\(en<=mn\/ ∃k,mn<=k/\k<mn+sz/\l[k]?≠ m[k]?),?_,?_⟩
 ·refine ⟨fun w σ H'=> ∃(mn sz e:Nat),σ=[some (.ref fx),some (.ref s1.a),some (.ref t1.a),some (.int en),some (.int mn),some (.int sz)]/\H'=H/\w=en - mn/\sz=2 ^ e/\mn+1=sz/\mn<=2*en/\jr l m mn,⟨_,0,1,0,rfl,rfl,rfl,rfl,rfl,Qaa _,fun k hk=>absurd hk (Qco _)⟩,?_⟩
  rintro w' σ H2 ⟨mn,sz,e,rfl,rfl,rfl,he,hms,Sy,ha⟩
  walk_at "rd"
  walk_at"i"
  ·have z1:(mn:Int)<en:=of_decide_eq_true z
   refine call s1 mn sz _ _ _ rfl hs (fun R hR=>⟨_,rfl,_,rfl,_,rfl,_,rfl,_,_,rfl,rfl,hR⟩) ?_
   refine call t1 mn sz _ _ _ rfl ht (fun R hR=>⟨_,rfl,_,rfl,_,rfl,_,rfl,_,_,rfl,rfl,hR⟩) ?_
   rw[el,em]
   walk_at "rd"
   refine bp (fun y1=>?_) (fun y1=>?_)
   ·have y2:seg l mn (mn+sz)=seg m mn (mn+sz):=by simpa using of_decide_eq_true y1
    refine ⟨_,rfl,_,rfl,_,_,rfl,rfl,_,rfl,_,_,rfl,rfl, .inl ⟨by lia,by lia⟩,?_⟩
    refine ⟨en - (mn+sz),by lia,mn+sz,sz*2,e+1,by rw[Qba,Qfu];rfl,rfl,rfl,by rw[he,Nat.pow_succ],by lia,by lia,ha.more y2⟩
   ·have y2:seg l mn (mn+sz)≠seg m mn (mn+sz):=fun w=>y1 (decide_eq_true (by rw[w]))
    exact ⟨mn,sz,e,rfl,rfl,he,by lia,by lia,ha, .inr (FX y2)⟩
  ·have z1: ¬(mn:Int)<en:=fun w=>z (decide_eq_true w)
   exact ⟨mn,sz,e,rfl,rfl,he,by lia,by lia,ha, .inl (by lia)⟩
 ·rintro σ H2 ⟨mn,sz,e,rfl,rfl,he,hsz,Sy,ha,hb⟩
  refine ⟨fun σ H'=> ∃mn:Nat,σ=[some (.ref fx),some (.ref s1.a),some (.ref t1.a),some (.int en),some (.int mn),some (.int 1)]/\H'=H2/\jr l m mn/\(en<=mn\/l[mn]?≠ m[mn]?),?_,?_⟩
  ·refine ⟨fun w σ H'=> ∃(mn sz e:Nat),σ=[some (.ref fx),some (.ref s1.a),some (.ref t1.a),some (.int en),some (.int mn),some (.int sz)]/\H'=H2/\sz=w/\sz=2 ^ e/\sz<=1000000/\mn<=3000000 - 2*sz/\jr l m mn/\(en<=mn\/ ∃k,mn<=k/\k<mn+sz/\l[k]?≠ m[k]?),⟨_,mn,sz,e,rfl,rfl,rfl,he,hsz,by lia,ha,hb⟩,?_⟩
   rintro w' σ H3 ⟨mn,sz,e,rfl,rfl,rfl,he,hsz,Sy,ha,hb⟩
   walk_at "rd"
   walk_at"i"
   ·have z1:(1:Int)<sz:=of_decide_eq_true z
    obtain ⟨e',rfl⟩: ∃e',e=e'+1:=⟨e - 1,by
     cases e with
     | zero=>rw[he]at z1;simp at z1
     | succ e=>rfl⟩
    have hh:sz=2*2 ^ e':=by rw[he,Nat.pow_succ,Qb6]
    have hp:0<2 ^ e':=Nat.pow_pos (by decide)
    generalize RC:2 ^ e'=h2 at hh hp
    have U7:=RC.symm
    have ed:(sz:Int) / 2=(h2:Nat):=by lia
    refine ⟨_,rfl,_,_,rfl,rfl,⟨by decide,by decide⟩,?_⟩
    refine call s1 mn h2 _ _ _ rfl hs (fun R hR=>⟨_,rfl,_,rfl,_,rfl,_,rfl,_,_,rfl,rfl,by rw[ed];exact hR⟩) ?_
    refine call t1 mn h2 _ _ _ rfl ht (fun R hR=>⟨_,rfl,_,rfl,_,rfl,_,rfl,_,_,rfl,rfl,by rw[ed];exact hR⟩) ?_
    rw[el,em]
    walk_at "rd"
    have RD: ∃e2,h2=2 ^ e2:=⟨e',U7⟩
    obtain ⟨e2,WH⟩:=RD
    refine bp (fun y1=>?_) (fun y1=>?_)
    ·have y2:seg l mn (mn+h2)=seg m mn (mn+h2):=by simpa using of_decide_eq_true y1
     refine ⟨_,rfl,_,rfl,_,_,rfl,rfl,?_⟩
     refine ⟨h2,by lia,mn+h2,h2,e2,by rw[Qba, <-ed];rfl,rfl,rfl,WH,by lia,by lia,ha.more y2,?_⟩
     rcases hb with hb | ⟨k,k1,k2,k3⟩
     ·exact .inl (by lia)
     ·refine .inr ⟨k,Classical.byContradiction fun w=>k3 (zM.mp y2 k k1 (by lia)),by lia,k3⟩
    ·have y2:seg l mn (mn+h2)≠seg m mn (mn+h2):=fun w=>y1 (decide_eq_true (by rw[w]))
     exact ⟨h2,by lia,mn,h2,e2,by rw[<-ed];rfl,rfl,rfl,WH,by lia,by lia,ha, .inr (FX y2)⟩
   ·have z1: ¬(1:Int)<sz:=fun w=>z (decide_eq_true w)
    have hp:0<2 ^ e:=Nat.pow_pos (by decide)
    have e1:sz=1:=by lia
    subst e1
    exact ⟨mn,rfl,rfl,ha,hb.imp id fun ⟨k,k1,k2,k3⟩=>by rwa [show k=mn by lia]at k3⟩
  ·rintro σ H3 ⟨mn,rfl,rfl,ha,hb⟩
   exact ⟨_,rfl,q mn ha hb⟩
theorem Aa:bF P w K mg base fD 1 Ol OW ["seen"] (qc K aY aL):=by
 refine T.Ng.fn.ok kx (fun vs H Q E h=>xt h) (fun _ _ _ _ H vs Q E hr h=>?_)
 refine ⟨_,(ah (aq (i:=1) kx.nd rfl (Or.inl rfl) (bM K rfl (pv 0) rfl))
   (ah (aq (i:=2) kx.nd rfl (Or.inl rfl) (aN (bQ K rfl) (bM K rfl (pv 0) rfl) ai (fun _ _=>rfl)))
   (ah (bC (eM (bM K rfl (pv 1) rfl)) (aj (aF (bc (aa (pv 2) (aa (av dA (bM K rfl (pv 0) rfl) (bM K rfl (pv 1) rfl)) ae))))) aV)
   (aj (aF (bc (aa (gi dZ (pv 2)) (aa (gi dZ (av dA (av b6 (av b6 (bM K rfl (pv 1) rfl) ai) (bM K rfl (pv 0) rfl)) (bM K rfl (pv 1) rfl))) ae)))))))),?_⟩
 obtain ⟨y,lg,s1,rfl,hs,q⟩:=h
 obtain ⟨d1,e1⟩:=hs.ob
 obtain ⟨d2,e2⟩:=hs.wy.ob
 have hp:=hs.pz
 have rp:=jt hs.wy.sw.ne hs.wy.rt
 have u1:=hs.wy.uz
 have u2:=hs.wy.lz
 refine ⟨_,rfl,s1.a,aL,d1,_,_,rfl,e1,T.dJ,T.n_Seen_way,mL,?_⟩
 refine ⟨_,rfl,s1.a,aL,d1,_,_,rfl,e1,T.dJ,T.n_Seen_strand,sS,s1.t,_,0,_,rfl,rfl,bE.of hs.st,rfl,?_⟩
 refine ⟨_,rfl,s1.wy,aY,d2,_,_,rfl,e2,T.gw,T.n_Way_leads,FW,?_⟩
 walk_at "rd"
 have YM:(s1.p:Int) / (s1.r:Int)=((s1.p / s1.r:Nat):Int):=(Qdy _ _).symm
 have YN:((s1.u.length:Int) - 1 - s1.p) / (s1.r:Int)=(((s1.u.length - 1 - s1.p) / s1.r:Nat):Int):=by
  rw[Qdy];congr 1;lia
 walk_at"i"
 ·refine ⟨_,rfl,_,rfl,s1.a,aL,d1,_,_,rfl,e1,T.dJ,T.n_Seen_place,lK,_,rfl,s1.wy,aY,d2,_,_,rfl,e2,T.gw,T.n_Way_root_size,oA,_,_,rfl,rfl,⟨by lia,by lia⟩,by show 2<=sizeLine;decide,fun p np=>?_⟩
  refine q p _ np ?_ (ao.upd np)
  rw[ag]
  unfold zN
  rw[if_pos z, <-YM]
 ·refine ⟨_,rfl,_,rfl,_,rfl,s1.wy,aY,d2,_,_,rfl,e2,T.gw,T.n_Way_size,Bl,_,_,rfl,rfl,_,rfl,s1.a,aL,d1,_,_,rfl,e1,T.dJ,T.n_Seen_place,lK,_,_,rfl,rfl,_,rfl,s1.wy,aY,d2,_,_,rfl,e2,T.gw,T.n_Way_root_size,oA,_,_,rfl,rfl,⟨by lia,by lia⟩,_,rfl,by show 2<=sizeLine;decide,fun p np=>?_⟩
  refine q p _ np ?_ (ao.upd np)
  rw[ag]
  unfold zN
  rw[if_neg z, <-YN]
theorem qC:bF P w K mg base fD 3 Om OX ["one","other"] (js K aY aL):=by
 have tD:=z_ (P:=P) (w:=w) (base:=base) T
 have tE:=Aa (P:=P) (w:=w) (base:=base) T
 have cx:=jB (P:=P) (w:=w) (base:=base) T
 have cO:=ke (P:=P) (w:=w) (base:=base) T
 refine T.SG.fn.ok eI (fun vs H Q E h=>nS h) (fun _ _ _ _ H vs Q E hr h=>?_)
 refine ⟨_,(ah (aq (i:=2) eI.nd rfl (Or.inl rfl) (av aW (bM K rfl (bM K rfl (pv 0) rfl) rfl) (bM K rfl (bM K rfl (pv 1) rfl) rfl)))
   (ah (aq (i:=3) eI.nd rfl (Or.inl rfl) (ak tD (hr.mono (by decide)) rfl T.Nf.mg T.Nf.fn.kp T.Nf.bd .nil ay (aa (An (v:= .ref Gw) rfl T.xZ.mg rfl) (aa (pv 0) (aa (pv 1) (aa (pv 2) ae))))))
   (ah (aq (i:=4) eI.nd rfl (Or.inl rfl) (ak tD (hr.mono (by decide)) rfl T.Nf.mg T.Nf.fn.kp T.Nf.bd .nil ay (aa (An (v:= .ref Gx) rfl T.x3.mg rfl) (aa (pv 0) (aa (pv 1) (aa (pv 2) ae))))))
   (ah (bC (aD DY (ar (BX rfl) rfl T.z_min boot_min (aa (pv 3) (aa (pv 4) ae))) (pv 2) (aE _)) (aj (aF (d_ (uh K rfl hr) (ak tE (hr.mono (by decide)) rfl T.Ng.mg T.Ng.fn.kp T.Ng.bd .nil ay (aa (pv 0) ae)) (ak tE (hr.mono (by decide)) rfl T.Ng.mg T.Ng.fn.kp T.Ng.bd .nil ay (aa (pv 1) ae)) (aE _)))) aV)
   (ah (bC (aD Kc (pv 3) (pv 4) (aE _)) (aj (aF (d_ uc (ak cx (hr.mono (by decide)) rfl T.xZ.mg T.xZ.fn.kp T.xZ.bd .nil ay (aa (pv 0) (aa (pv 3) (aa (av aW (pv 3) ai) ae)))) (ak cx (hr.mono (by decide)) rfl T.xZ.mg T.xZ.fn.kp T.xZ.bd .nil ay (aa (pv 1) (aa (pv 3) (aa (av aW (pv 3) ai) ae)))) (aE _)))) aV)
   (aj (aF (d_ uc (ak cO (hr.mono (by decide)) rfl T.x3.mg T.x3.fn.kp T.x3.bd .nil ay (aa (pv 0) (aa (pv 4) (aa (av aW (pv 4) ai) ae)))) (ak cO (hr.mono (by decide)) rfl T.x3.mg T.x3.fn.kp T.x3.bd .nil ay (aa (pv 1) (aa (pv 4) (aa (av aW (pv 4) ai) ae)))) (aE _))))))))),?_⟩
 obtain ⟨y,lg,s1,t1,rfl,hy,hz,hs,ht,h0,q⟩:=h
 obtain ⟨d1,e1⟩:=hs.ob
 obtain ⟨d2,e2⟩:=hs.wy.ob
 obtain ⟨d3,e3⟩:=ht.ob
 obtain ⟨d4,e4⟩:=ht.wy.ob
 have rp:=jt hs.wy.sw.ne hs.wy.rt
 have rp':=jt ht.wy.sw.ne ht.wy.rt
 have u1:=hs.wy.uz
 have u1':=ht.wy.uz
 have u2:=hs.wy.lz
 have ns:=hs.wy.sw.ne
 have nt:=ht.wy.sw.ne
 have lf:=bz hs.wy.sw (s1.p:Int)
 have S8:=bz ht.wy.sw (t1.p:Int)
 have as:=sW (lg:=lg) (s:=s1) (en:=s1.r+t1.r) hs.pz (by lia)
 have at':=sW (lg:=lg) (s:=t1) (en:=s1.r+t1.r) ht.pz (by lia)
 refine ⟨_,rfl,s1.a,aL,d1,_,_,rfl,e1,T.dJ,T.n_Seen_way,mL,s1.wy,aY,d2,_,_,rfl,e2,T.gw,T.n_Way_root_size,oA,_,rfl,t1.a,aL,d3,_,_,rfl,e3,T.dJ,T.n_Seen_way,mL,t1.wy,aY,d4,_,_,rfl,e4,T.gw,T.n_Way_root_size,oA,_,_,rfl,rfl,?_⟩
 refine ⟨_,rfl,_,rfl,_,rfl,y,lg,s1,t1,true,s1.r+t1.r,by rw[Qba];rfl,hz,hs,ht,by lia,fun m N_ Ck=>?_⟩
 refine ⟨_,rfl,_,rfl,_,rfl,y,lg,s1,t1,false,s1.r+t1.r,by rw[Qba];rfl,hz,hs,ht,by lia,fun n YO vM=>?_⟩
 have U8:jr (DK y lg s1) (DK y lg t1) m:=N_
 have RE:s1.r+t1.r<=m\/(DK y lg s1)[m]?≠ (DK y lg t1)[m]?:= Ck
 have U9:jr (DL y lg s1) (DL y lg t1) n:=YO
 have RF:s1.r+t1.r<=n\/(DL y lg s1)[n]?≠ (DL y lg t1)[n]?:= vM
 have ga: ∀k,k<s1.r+t1.r->(DK y lg s1)[k]? =some (xY (fJ y (sq s1.u s1.p) (k+1)))/\(DK y lg t1)[k]? =some (xY (fJ y (sq t1.u t1.p) (k+1))):=fun k hk=>⟨FY ns (by lia),FY nt (by lia)⟩
 have gb: ∀k,k<s1.r+t1.r->(DL y lg s1)[k]? =some (xY (fJ y (sq s1.u s1.p) (-(k:Int))))/\(DL y lg t1)[k]? =some (xY (fJ y (sq t1.u t1.p) (-(k:Int)))):=fun k hk=>⟨FZ ns hs.pz (by lia),FZ nt ht.pz (by lia)⟩
 refine ⟨_,rfl,_,rfl,_,_,rfl,?_⟩
 walk_at "rd"
 by_cases par: ∀k,sq s1.u s1.p k=sq t1.u t1.p k
 ·have ef:sq s1.u s1.p=sq t1.u t1.p:=funext par
  have m1:s1.r+t1.r<=m:=Bs (fun k hk=>by rw[(ga k hk).1,(ga k hk).2,ef]) RE
  have n1:s1.r+t1.r<=n:=Bs (fun k hk=>by rw[(gb k hk).1,(gb k hk).2,ef]) RF
  refine bp (fun z=>?_) (fun z=>absurd (decide_eq_true (show ((s1.r:Int)+t1.r)<=(if (n:Int)<m then (n:Int) else m) by split<;>lia)) z)
  refine ⟨_,rfl,y,lg,s1,rfl,hs,fun p1 H1 np1 hV RG=>⟨_,rfl,y,lg,t1,rfl,ht.same RG,fun p2 H2 Nq kz bV=>?_⟩⟩
  refine ⟨p1,p2,_,_,_,_,rfl,rfl,bE.of (bV _ _ hV),bE.of kz,?_⟩
  have e:i8 (zN s1).1 (zN s1).2 (zN t1).1 (zN t1).2=bg (jV y (2*lg) s1) (jV y (2*lg) t1):=by
   unfold jV
   rw[ef,fv,Jt]
  have kq:=q H2 (RG.trans bV)
  rw[<-e]at kq
  exact kq
 ·have di: ∃k,sq s1.u s1.p k≠sq t1.u t1.p k:=Classical.byContradiction fun z=>par fun k=>Classical.byContradiction fun w=>z ⟨k,w⟩
  have z0:sq s1.u s1.p 0=sq t1.u t1.p 0:=by unfold sq;rw[Qc9,Qc9];exact h0
  obtain ⟨a,b,rn,ha,hb⟩:=dB (p:=s1.r) (q:=t1.r) (by lia) (by lia) (Bo ns hs.wy.rt s1.p) (Bo nt ht.wy.rt t1.p) z0 di
  have pf:=Bq hy lf
  have pg:=Bq hy S8
  have key:=mE hy lf S8 rn [(zN s1).1,(zN s1).2] [(zN t1).1,(zN t1).2] (2*lg) 0 (Qaa _) (Qaa _) (by lia) (by lia)
  have sa:fJ y (sq s1.u s1.p) (a+1)≠fJ y (sq t1.u t1.p) (a+1):=fun w=>rn.hi (by
   unfold fJ at w
   rw[show (a:Int)+1 - 1=a by lia, <-rn.lF a (by lia) (by lia)]at w
   exact lG (hy.cl _ (lf.bP _)) (lf.bP _) (S8.bP _) w)
  have sb:fJ y (sq s1.u s1.p) (-(b:Int))≠fJ y (sq t1.u t1.p) (-(b:Int)):=fun w=>by
   have c:=zA hy lf S8 (rn.lF (-(b:Int)) (by lia) (by lia)) rn.lo
   unfold j6 at c
   rw[w]at c
   simp at c
  have em:m=a:=Br ha (fun k hk=>by
   rw[(ga k (by lia)).1,(ga k (by lia)).2]
   unfold fJ
   rw[show (k:Int)+1 - 1=k by lia,rn.lF k (by lia) (by lia),rn.lF (k+1) (by lia) (by lia)]) (fun w=>sa (Bp (pf _) (pg _) (by rw[(ga a ha).1,(ga a ha).2]at w;exact Qan w))) U8 RE
  have en:n=b:=Br hb (fun k hk=>by
   rw[(gb k (by lia)).1,(gb k (by lia)).2]
   unfold fJ
   rw[rn.lF (-(k:Int)) (by lia) (by lia),rn.lF (-(k:Int) - 1) (by lia) (by lia)]) (fun w=>sb (Bp (pf _) (pg _) (by rw[(gb b hb).1,(gb b hb).2]at w;exact Qan w))) U9 RF
  subst em
  subst en
  refine bp (fun z=>absurd (show ((s1.r:Int)+t1.r)<=(if (n:Int)<m then (n:Int) else m) from of_decide_eq_true z) (by split<;>lia)) (fun z=>?_)
  walk_at "rd"
  have Ek:(m:Int)+1=((m+1:Nat):Int):=by lia
  have Jq:(n:Int)+1=((n+1:Nat):Int):=by lia
  refine bp (fun z2=>?_) (fun z2=>?_)
  ·have z3:m<=n:=by have:=of_decide_eq_true z2;lia
   refine ⟨_,rfl,_,rfl,_,rfl,_,_,rfl,rfl,y,lg,s1,m,m+1,by rw[<-Ek];rfl,hz,hs,by lia,?_⟩
   refine ⟨_,rfl,_,rfl,_,rfl,_,_,rfl,rfl,y,lg,t1,m,m+1,by rw[<-Ek];rfl,hz,ht,by lia,?_⟩
   refine ⟨_,_,rfl,rfl,?_⟩
   rw[if_pos z3]at key
   have e:decide (seg (DK y lg s1) m (m+1)<seg (DK y lg t1) m (m+1))=bg (jV y (2*lg) s1) (jV y (2*lg) t1):=by
    rw[oB (ga m ha).1,oB (ga m ha).2,Ga]
    exact (decide_eq_decide.mpr (F_ (pf _) (pg _))).trans key.symm
   have kq:=q H (ao.refl H)
   rw[<-e]at kq
   exact kq
  ·have z3: ¬m<=n:=fun w=>z2 (decide_eq_true (by lia))
   refine ⟨_,rfl,_,rfl,_,rfl,_,_,rfl,rfl,y,lg,s1,n,n+1,by rw[<-Jq];rfl,hz,hs,by lia,?_⟩
   refine ⟨_,rfl,_,rfl,_,rfl,_,_,rfl,rfl,y,lg,t1,n,n+1,by rw[<-Jq];rfl,hz,ht,by lia,?_⟩
   refine ⟨_,_,rfl,rfl,?_⟩
   rw[if_neg z3]at key
   have e:decide (seg (DL y lg s1) n (n+1)<seg (DL y lg t1) n (n+1))=bg (jV y (2*lg) s1) (jV y (2*lg) t1):=by
    rw[oB (gb n hb).1,oB (gb n hb).2,Ga]
    exact (decide_eq_decide.mpr (F_ (pf _) (pg _))).trans key.symm
   have kq:=q H (ao.refl H)
   rw[<-e]at kq
   exact kq
theorem JH:bF P w K mg base fD 1 Ov O2 ["_law_script","_law_k"] (AL K):=by
 refine T.SK.fn.ok lP (fun vs H Q E h=>EN h) (fun _ _ _ _ H vs Q E hr h=>?_)
 refine ⟨_,(ah (aq (i:=2) lP.nd rfl (Or.inl rfl) (av aW (av iZ ai (pv 1)) ai))
   (ah (bC (aD gj (pv 1) (ar (aT K rfl) rfl T.z_len Qac (aa (pv 0) ae)) (aE _)) (aj (aq (i:=2) lP.nd rfl (Or.inl rfl) (aN (bu K rfl) (pv 0) (pv 1) (fun _ _=>rfl)))) (aj (bC (aD kE (ar (aT K rfl) rfl T.z_len Qac (aa (pv 0) ae)) ai (aE _)) (aj (aq (i:=2) lP.nd rfl (Or.inl rfl) (av aW (pv 2) (av iZ (av dv (aN (bu K rfl) (pv 0) (av dv (pv 1) (ar (aT K rfl) rfl T.z_len Qac (aa (pv 0) ae))) (fun _ _=>rfl)) ai) ai)))) aV)))
   (ah (aq (i:=3) lP.nd rfl (Or.inl rfl) (av dv (av DU (av aW (av aW (av dv (pv 2) ai) (av iZ ai (pv 1))) ai) ai) ai))
   (aj (aF (cu (aa (aN (bu K rfl) (cu (aa ai (aa (pv 2) ae))) (cF rE rfl T.z_int boot_int (aa (d_ DY (pv 2) (av DU ai ai) (aE _)) ae)) (fun _ _=>rfl)) (aa (av aW (av dv (pv 3) ai) ai) ae)))))))),?_⟩
 obtain ⟨a,ns,k,rfl,hS,hk,q⟩:=h
 have hp:(0:Int)<2147483629:=by decide
 walk_at "rd"
 refine ⟨a,_,rfl, .inl hS,?_⟩
 walk_at "rd"
 refine bp (fun e=>?_) (fun e=>?_)
 ·have e':(k:Int)<((ns.map V.int).length:Nat):=of_decide_eq_true e
  rw[V6]at e'
  obtain ⟨z,hz⟩:=AN (ns:=ns) (i:=k) (by lia)
  walk_at "rd"
  refine ⟨a,_,k,_,rfl,rfl,hS,bL hz,?_⟩
  walk_at "rd"
  refine fun p1 n1=>?_
  walk_at "rd"
  refine .inr ⟨_,rfl,?_⟩
  obtain ⟨y,hy⟩:=y9 _ z
  refine ⟨p1,_,_,_,rfl,rfl,aZ.of ag,hy,?_⟩
  walk_at "rd"
  walk_at"u"
 ·walk_at "rd"
  refine ⟨a,_,rfl, .inl hS,?_⟩
  walk_at "rd"
  refine bp (fun e2=>?_) (fun e2=>?_)
  ·have e':(0:Int)<((ns.map V.int).length:Nat):=of_decide_eq_true e2
   have hl:(0:Int)<(ns.length:Int):=by rw[V6]at e';exact e'
   have m1:0<=(k:Int)%(ns.length:Int):=Qbo _ (by lia)
   have m2:(k:Int)%(ns.length:Int)<(ns.length:Int):=Qbm _ hl
   obtain ⟨z,hz⟩:=AN (ns:=ns) (i:=((k:Int)%(ns.length:Int)).toNat) (by lia)
   have Rc:oM (ns.map V.int) ((k:Int)%((ns.map V.int).length:Nat))=some (V.int z):=by
    have:=bL hz
    rw[Int.toNat_of_nonneg m1]at this
    rw[V6]
    exact this
   walk_at "rd"
   refine ⟨a,_,rfl, .inl hS,?_⟩
   walk_at "rd"
   refine ⟨a,_,_,_,rfl,rfl,hS,Rc,?_⟩
   walk_at "rd"
   refine fun p1 n1=>?_
   walk_at "rd"
   refine .inr ⟨_,rfl,?_⟩
   obtain ⟨y,hy⟩:=y9 _ _
   refine ⟨p1,_,_,_,rfl,rfl,aZ.of ag,hy,?_⟩
   walk_at "rd"
   walk_at"u"
  ·walk_at "rd"
   refine fun p1 n1=>?_
   walk_at "rd"
   refine .inr ⟨_,rfl,?_⟩
   obtain ⟨y,hy⟩:=y9 _ _
   refine ⟨p1,_,_,_,rfl,rfl,aZ.of ag,hy,?_⟩
   walk_at "rd"
   walk_at"u"
theorem g8:bF P w K mg base fD 1 Ow O3 ["_law_box_here","_law_many"] (wH K):=by
 refine T.gL.fn.ok qA (fun vs H Q E h=>CD h) (fun _ _ _ _ H vs Q E hr h=>?_)
 refine ⟨_,(ah (bC (aD kE (aN (bu K rfl) (pv 0) ai (fun _ _=>rfl)) ai (aE _)) (ah (aq (i:=2) qA.nd rfl (Or.inl rfl) (av dv (aN (bu K rfl) (pv 0) ai (fun _ _=>rfl)) (pv 1)))
   (ah (oI (av dA (aN (bu K rfl) (pv 0) ai (fun _ _=>rfl)) (pv 1)) (DS (pv 0) ai set_list))
   (aj (aF (pv 2))))) aV)
   (ah (aq (i:=3) qA.nd rfl (Or.inl rfl) (av dv (av iZ (aN (bu K rfl) (pv 0) ai (fun _ _=>rfl)) ai) ai))
   (ah (oI (av aW (av dv (av aW (av iZ (pv 3) ai) ai) ai) ai) (DS (pv 0) ai set_list))
   (aj (aF (av dv (av dA (av aW (av iZ (pv 3) ai) (aN (bu K rfl) (pv 0) ai (fun _ _=>rfl))) ai) (pv 1))))))),?_⟩
 obtain ⟨b,m,rfl,⟨x,y,hb⟩,h1,h2,q⟩:=h
 have fin: ∀(r x' y':Int),0<=r->r<m->Q (.int r) (upd H b (.lst [.int x', .int y'])):=fun r x' y' h3 h4=>by
  have e:r=((r.toNat:Nat):Int):=by lia
  rw[e]
  exact q r.toNat _ (by lia) ⟨x',y',ag⟩ (aO.upd b H _)
 refine ⟨_,rfl,b,_,0,_,rfl,rfl,aZ.of hb,rfl,_,_,rfl,rfl,_,rfl,bp (fun e=>?_) (fun e=>?_)⟩
 ·refine ⟨_,rfl,b,_,0,_,rfl,rfl,aZ.of hb,rfl,_,rfl,_,_,rfl,rfl,(by lia:0<m),?_⟩
  refine ⟨_,rfl,b,_,0,_,rfl,rfl,aZ.of hb,rfl,_,rfl,_,_,rfl,rfl,⟨by lia,by lia⟩,_,rfl,b,_,0,0,rfl,rfl,hb,rfl,_,rfl,?_⟩
  exact fin (x%m) (x / m) y (Qbo _ (by lia)) (Qbm _ (by lia))
 ·refine ⟨_,rfl,b,_,1,_,rfl,rfl,aZ.of hb,rfl,_,_,rfl,rfl, .inr ⟨by decide,by decide⟩,_,_,rfl,rfl,(by decide:(0:Int)<2147483647),?_⟩
  refine ⟨_,rfl,_,_,rfl,rfl, .inr ⟨by decide,by decide⟩,_,_,rfl,rfl,_,_,rfl,rfl,(by decide:(0:Int)<2147483629),_,_,rfl,rfl,_,rfl,b,_,1,1,rfl,rfl,hb,rfl,?_⟩
  refine ⟨_,rfl,_,_,rfl,rfl, .inr ⟨by decide,by decide⟩,_,rfl,b,_,1,_,rfl,rfl,aZ.of ag,rfl,_,_,rfl,rfl,_,_,rfl,rfl,⟨by decide,by decide⟩,_,rfl,_,_,rfl,rfl,(by lia:0<m),?_⟩
  exact fin _ _ _ (Qbo _ (by lia)) (Qbm _ (by lia))
theorem GC:bF P w K mg base fD 2 Oy JE ["_law_box_here","_law_few","_law_top"] (wI K):=by
 walk_at"C"
 walk_at"k"
 refine T.SM.fn.ok fA (fun vs H Q E h=>CF h) (fun _ _ _ _ H vs Q E hr h=>?_)
 refine ⟨_,(ah (aq (i:=3) fA.nd rfl (Or.inl rfl) (cF (oQ rfl) rfl T.z_list boot_list (aa (i4 [97,98,99,100,101,102,103,104,105,106,107,108,109,110,111,112,113,114,115,116,117,118,119,120,121,122] (by decide+kernel)) ae)))
   (ah (aq (i:=4) fA.nd rfl (Or.inl rfl) (cu ae))
   (ah (cD PassesOwn.never rfl (fP rfl T.z_range (aa (av aW (pv 1) (ak bU (hr.mono (by decide)) rfl T.gL.mg T.gL.fn.kp T.gL.bd .nil ay (aa (pv 0) (aa (av aW (av b6 (pv 2) (pv 1)) ai) ae)))) ae)) (aC (i:=5) fA.nd rfl (Or.inl rfl)) (ah (aq (i:=6) fA.nd rfl (Or.inl rfl) (ba K rfl Qam Qdv Qdu oO (pv 3) (aa (ak bU (hr.mono (by decide)) rfl T.gL.mg T.gL.fn.kp T.gL.bd .nil ay (aa (pv 0) (aa (ar (aT K rfl) rfl T.z_len Qac (aa (pv 3) ae)) ae))) ae)))
   (aj (aq (i:=4) fA.nd rfl (Or.inl rfl) (av Ea (pv 4) (cu (aa (pv 6) (aa (ak aX (hr.mono (by decide)) rfl T.eV.mg T.eV.fn.kp T.eV.bd .nil ay (aa (pv 6) ae)) ae))))))))
   (ah (aq (i:=7) fA.nd rfl (Or.inl rfl) (i4 [] (by decide+kernel)))
   (ah (dR PassesOwn.never (aD kE (ar (aT K rfl) rfl T.z_len Qac (aa (pv 4) ae)) ai (aE _)) (aj (aq (i:=7) fA.nd rfl (Or.inl rfl) (av eY (pv 7) (ba K rfl Qam Qdv Qdu oO (pv 4) (aa (ak bU (hr.mono (by decide)) rfl T.gL.mg T.gL.fn.kp T.gL.bd .nil ay (aa (pv 0) (aa (ar (aT K rfl) rfl T.z_len Qac (aa (pv 4) ae)) ae))) ae))))))
   (aj (aF (pv 7)))))))),?_⟩
 obtain ⟨b,sd,top,rfl,hb,h1,h2,h3,q⟩:=h
 have hs:=Zs1
 walk_at "rd"
 intro p1 n1
 walk_at "rd"
 intro p2 n2
 have s1:ao H (upd (upd H p1 (.lst (bW aU))) p2 (.lst [])):=(ao.upd n1).trans (ao.upd n2)
 have Nr:p1≠b:=hb.ne n1
 have Nq:H p2=none:=ao.free (ao.upd n1) n2
 have RH:p2≠b:=hb.ne Nq
 have KY:p1≠p2:=fun z=>by rw[<-z,ag]at n2;cases n2
 walk_at "rd"
 refine ⟨b,_,rfl,hb.same s1,by lia,by lia,fun n H1 hn ux s2=>?_⟩
 walk_at "rd"
 refine eO (fun i σ H'=> ∃(pe:Addr) (L E:List Nat) (kv lv:Option V),σ=[some (.ref b),some (.int sd),some (.int top),some (.ref p1),some (.ref pe),kv,lv,none]/\Mq i L E/\H' p1=some (.lst (bW L))/\H' pe=some (.lst (bW E))/\p1≠pe/\H pe=none/\bX H' b/\aO b H H')
  ⟨p2,aU,[],none,none,rfl,Mq.start,s2 _ _ (by rw[az KY,ag];rfl) Nr,s2 _ _ ag RH,KY,Nq,ux,(aO.of s1).trans s2⟩ ?_ ?_
 ·rintro i σ H2 hi ⟨pe,L,E,kv,lv,rfl,yw,hV,g9,WI,S9,me,s3⟩
  show yh _ _ _ _ _
  refine nh fun Dx Nt=>?_
  have Mo:i<26:=by simp at hi;lia
  have N8:=yw.ll
  have BF:=yw.el
  refine ⟨_,rfl, .inl ⟨rfl,_,aZ.of hV⟩,?_⟩
  walk_at "rd"
  refine ⟨p1,_,rfl, .inl (aZ.of hV),b,_,rfl,me,by rw[aK];lia,by rw[aK];lia,fun r H3 WJ q5 s4=>?_⟩
  rw[aK]at WJ
  have KZ:r<L.length:=by lia
  have U_:=s4 _ _ hV Nr
  have Va:=s4 _ _ g9 (hb.ne S9)
  refine ⟨p1,_,_,r,_,rfl,rfl,U_,by lia,by lia,by rw[aK,seqIndex_of (by lia) (by lia),XQ],y_ KZ,?_⟩
  rw[mi]
  have cE:Lt L[r]:= .inl (yw.sm _ (Qay KZ))
  have RI:(upd H3 p1 (.lst (bW (L.eraseIdx r)))) pe=some (.lst (bW E)):=by rw[az (Ne.symm WI)];exact Va
  walk_at "rd"
  intro p3 n3
  have e3:pe≠p3:=ax RI n3
  refine ⟨pe,p3,_,_,rfl,rfl,by rw[az e3];exact RI,ag,by rw[aK];show E.length+2<=_;lia,fun p4 n4=>?_⟩
  have WK:H p3=none:=((s3.trans s4).cZ n1).none n3 (q5.cZ Nr |>.ne n3)
  have WL:=(q5.cZ (o:= .lst (bW (L.eraseIdx r))) Nr).cZ (o:= .lst [V.str (S [L[r]]),V.str (S [aB L[r]])]) (hb.ne WK)
  have WM:=((s3.trans s4).cZ (o:= .lst (bW (L.eraseIdx r))) n1).cZ (o:= .lst [V.str (S [L[r]]),V.str (S [aB L[r]])]) WK
  have Vb:H p4=none:=WM.none n4 (WL.ne n4)
  have WN:p1≠p4:=fun z=>by rw[<-z]at n4;by_cases z3:p1=p3<;>simp[upd,z3]at n4
  have YQ:p1≠p3:=fun z=>by rw[<-z,ag]at n3;cases n3
  refine Nt _ _ ⟨p4,L.eraseIdx r,E++[L[r],aB L[r]],_,_,rfl,yw.turn Mo KZ,by rw[az WN,az YQ,ag],?_,WN,Vb,WL.cZ (hb.ne Vb),WM.cZ Vb⟩
  rw[ag, <-Iw]
  rfl
 ·rintro σ H2 ⟨pe,L,E,kv,lv,rfl,yw,hV,g9,WI,S9,me,s3⟩
  have BF:=yw.el
  have GX:=hb.ne S9
  walk_at "rd"
  refine ⟨fun m σ H'=> ∃F E':List Nat,σ=[some (.ref b),some (.int sd),some (.int top),some (.ref p1),some (.ref pe),kv,lv,some (.str (S F))]/\m=E'.length/\(F++E').Perm E/\H' pe=some (.lst (bW E'))/\bX H' b/\aO b H H',⟨_,[],E,rfl,rfl,Qe2 _,g9,me,s3⟩,?_⟩
  rintro m σ H3 ⟨F,E',rfl,rfl,kB,JI,q5,s4⟩
  have hlen:=kB.length_eq
  rw[V7]at hlen
  have vM:(sd:Int)+n<=9:=by lia
  have YR:E.length<=100:=by rw[BF];lia
  walk_at "rd"
  refine ⟨pe,_,rfl, .inl (aZ.of JI),_,_,rfl,rfl,_,rfl,bp (fun e=>?_) (fun e=>?_)⟩
  ·have e':(0:Int)<((bW E').length:Nat):=of_decide_eq_true e
   rw[aK]at e'
   refine ⟨_,rfl,_,rfl, .inl ⟨rfl,_,aZ.of JI⟩,?_⟩
   walk_at "rd"
   refine ⟨pe,_,rfl, .inl (aZ.of JI),b,_,rfl,q5,by rw[aK];lia,by rw[aK];lia,fun r H4 KZ x4 s5=>?_⟩
   rw[aK]at KZ
   have Nu:r<E'.length:=by lia
   refine ⟨pe,_,_,r,_,rfl,rfl,s5 _ _ JI GX,by lia,by lia,by rw[aK,seqIndex_of (by lia) (by lia),XQ],y_ Nu,?_⟩
   rw[mi]
   have hp:=ik (LJ Nu)
   have iT:=hp.length_eq
   rw[Qar]at iT
   refine ⟨F,_,rfl,rfl,by show F.length+1<=_;lia,(E'.eraseIdx r).length,by lia,F++[E'[r]],E'.eraseIdx r,rfl,rfl,?_,ag,x4.cZ GX,(s4.trans s5).cZ S9⟩
   rw[Qb9]
   exact (List.Perm.append_left F hp).trans kB
  ·have e':E'=[]:=by
    cases E' with
    | nil=>rfl
    | cons c r=>exact absurd (decide_eq_true (by rw[aK];show (0:Int)<((r.length+1:Nat):Int);lia)) e
   subst e'
   rw[Qaw]at kB
   have m7:=kB.length_eq
   refine ⟨_,rfl,q F H3 (yw.yd.perm kB.symm) ?_ ?_ q5 s4⟩
   ·rw[m7,BF];lia
   ·rw[m7,BF];lia
theorem m4:bF P w K mg base fD 2 Oz O5 ["_law_box_here","_law_yard_here","_law_top"] (sG K):=by
 walk_at"C"
 walk_at"k"
 refine T.Dm.fn.ok cU (fun vs H Q E h=>zg h) (fun _ _ _ _ H vs Q E hr h=>?_)
 refine ⟨_,(ah (aq (i:=3) cU.nd rfl (Or.inl rfl) (av aW ai (ak bU (hr.mono (by decide)) rfl T.gL.mg T.gL.fn.kp T.gL.bd .nil ay (aa (pv 0) (aa (pv 2) ae)))))
   (ah (aq (i:=4) cU.nd rfl (Or.inl rfl) (ak bU (hr.mono (by decide)) rfl T.gL.mg T.gL.fn.kp T.gL.bd .nil ay (aa (pv 0) (aa ai ae))))
   (ah (aq (i:=5) cU.nd rfl (Or.inl rfl) (i4 [] (by decide+kernel)))
   (ff (dR PassesOwn.never (aD gj (ar aH rfl T.z_len Qac (aa (pv 5) ae)) (pv 3) (aE _)) (ah (aq (i:=6) cU.nd rfl (Or.inl rfl) (aN gB (pv 1) (ak bU (hr.mono (by decide)) rfl T.gL.mg T.gL.fn.kp T.gL.bd .nil ay (aa (pv 0) (aa (ar aH rfl T.z_len Qac (aa (pv 1) ae)) ae))) (fun _ _=>rfl)))
   (ff (bC (PW.pt (eN (aD eQ (pv 4) ai (aE _)) (eN (aD kE (ar aH rfl T.z_len Qac (aa (pv 5) ae)) ai (aE _)) (dF (aD gj (ar aH rfl T.z_len Qac (aa (pv 5) ae)) ai (aE _)))))) (aj (aq (i:=6) cU.nd rfl (Or.inl rfl) (aN gB (pv 5) (av dv (ar aH rfl T.z_len Qac (aa (pv 5) ae)) ai) (fun _ _=>rfl)))) aV)
   (aj (bC (PW.pt (rB (aD gC (pv 5) (i4 [] (by decide+kernel)) (aE _)) (tN (aD Eo (pv 6) (ak aX (hr.mono (by decide)) rfl T.eV.mg T.eV.fn.kp T.eV.bd .nil ay (aa (aN gB (pv 5) (gi dZ ai) (fun _ _=>rfl)) ae)) (aE _))))) (aj (aq (i:=5) cU.nd rfl (Or.inl rfl) (av eY (pv 5) (pv 6)))) (aj (aq (i:=5) cU.nd rfl (Or.inl rfl) (av eY (pv 5) (aN gB (pv 5) (gi dZ ai) (fun _ _=>rfl))))))))))
   (ff (dR PassesOwn.never (PW.pt (eN (aD kE (ar aH rfl T.z_len Qac (aa (pv 5) ae)) ai (aE _)) (dF (aD gC (aN gB (pv 5) ai (fun _ _=>rfl)) (ak aX (hr.mono (by decide)) rfl T.eV.mg T.eV.fn.kp T.eV.bd .nil ay (aa (aN gB (pv 5) (gi dZ ai) (fun _ _=>rfl)) ae)) (aE _))))) (aj (aq (i:=5) cU.nd rfl (Or.inl rfl) (bh hZ (pv 5) ck (bf (gi dZ ai))))))
   (ff (bC (PW.pt (eN (aD eQ (pv 4) ai (aE _)) (dF (aD Kc (av iZ (ar aH rfl T.z_len Qac (aa (pv 5) ae)) ai) (pv 2) (aE _))))) (aj (aq (i:=5) cU.nd rfl (Or.inl rfl) (av eY (pv 5) (pv 5)))) aV)
   (aj (aF (pv 5))))))))),?_⟩
 obtain ⟨b,y,top,rfl,hb,hy,x5,x6,Hl,Du,q⟩:=h
 have hs:=Zs1
 have RJ:y.length<=sizeLine:=by lia
 refine ⟨_,rfl,_,rfl,b,_,rfl,hb,by lia,by lia,fun n H1 hn ux s1=>?_⟩
 refine ⟨_,_,rfl,rfl,_,rfl,b,5,rfl,ux,by decide,by decide,fun fm H2 Pt me s2=>?_⟩
 have hnt:n+1<=top:=by lia
 have DN:=s1.trans s2
 walk_at "wk"
 refine ⟨fun σ' H'=> ∃(w:List Nat) (lv:Option V),σ'=[some (.ref b),some (.str (S y)),some (.int top),some (.int (1+(n:Int))),some (.int fm),some (.str (S w)),lv]/\Wd y w/\1<=w.length/\w.length<=n+1/\bX H' b/\aO b H H',?_,?_⟩
 ·refine ⟨fun k σ H'=> ∃(w:List Nat) (lv:Option V),σ=[some (.ref b),some (.str (S y)),some (.int top),some (.int (1+(n:Int))),some (.int fm),some (.str (S w)),lv]/\k=n+1 - w.length/\Wd y w/\w.length<=n+1/\bX H' b/\aO b H H',⟨_,[],none,rfl,rfl,⟨CO.nil,fun _ h=>absurd h Qae⟩,Qaa _,me,DN⟩,?_⟩
  rintro k σ H3 ⟨w,lv,rfl,rfl,hw,kA,q5,s3⟩
  have nW:w.length<=sizeLine:=by lia
  refine ⟨_,rfl,w,rfl,nW,_,rfl,_,_,rfl,rfl,_,rfl,bp (fun z=>?_) (fun z=>?_)⟩
  ·have z1:(w.length:Int)<1+(n:Int):=of_decide_eq_true z
   refine ⟨_,rfl,_,rfl,_,rfl,y,rfl,RJ,b,_,rfl,q5,by lia,by lia,fun r H4 KZ x4 s4=>?_⟩
   have hr:r<y.length:=by lia
   refine ⟨y,_,_,rfl,rfl,RJ,bL (LJ hr),?_⟩
   have AD:y[r]∈y:=Qay hr
   generalize y[r]=c at AD ⊢
   refine ⟨fun σ' H'=>H'=H4/\ ∃e,e∈y/\σ'=[some (.ref b),some (.str (S y)),some (.int top),some (.int (1+(n:Int))),some (.int fm),some (.str (S w)),some (.str (S [e]))],?_,?_⟩
   ·refine ⟨_,rfl,_,_,rfl,rfl,_,rfl,bp (fun f1=>?_) (fun f1=>?_)⟩
    ·refine ⟨_,rfl,w,rfl,nW,_,_,rfl,rfl,_,rfl,bp (fun f2=>?_) (fun f2=>?_)⟩
     ·have g2:(1:Int)<w.length:=of_decide_eq_true f2
      have di:w≠[]:=fun g=>by rw[g]at g2;simp at g2
      refine ⟨_,rfl,w,rfl,nW,_,_,rfl,rfl,_,rfl,bp (fun f3=>?_) (fun f3=>?_)⟩
      ·refine ⟨_,rfl,_,rfl,w,rfl,nW,_,_,rfl,rfl,by show (0:Int)<2;decide,w,_,_,rfl,rfl,nW,gU (by show -(w.length:Int)<=(w.length:Int)%2;lia) (by show (w.length:Int)%2<_;lia),?_⟩
       exact ⟨rfl,_,hw.bP _ (iu di _),rfl⟩
      ·exact ⟨rfl,c,AD,rfl⟩
     ·refine kf ?_
      exact ⟨rfl,c,AD,rfl⟩
    ·refine kf ?_
     exact ⟨rfl,c,AD,rfl⟩
   rintro σ5 H5 ⟨rfl,e,zI,rfl⟩
   have s5:=s3.trans s4
   refine ⟨_,rfl,w,[],rfl,rfl,_,rfl,bp (fun f=>?_) (fun f=>?_)⟩
   ·have GD:w=[]:=of_decide_eq_true f
    refine t9 ?_
    refine ⟨_,rfl,_,rfl,w,[e],rfl,rfl,by show w.length+1<=_;lia,?_⟩
    exact ⟨n+1 - (w++[e]).length,by rw[V7];show n+1 - (w.length+1)<_;lia,w++[e],_,rfl,rfl,hw.more zI fun g=>absurd GD g,by rw[V7];show w.length+1<=_;lia,x4,s5⟩
   ·have di:w≠[]:=fun g=>f (decide_eq_true g)
    have qT:0<w.length:=V9.mpr di
    have Jo:rd w (-1)∈y:=hw.bP _ (iu di _)
    have xQ:oM w (-1)=some (rd w (-1)):=gU (by lia) (by lia)
    refine ⟨_,rfl,_,rfl,_,rfl,w,_,_,rfl,rfl,nW,xQ,_,rfl,hy.lt _ Jo,[e],_,rfl,rfl,_,rfl,bp (fun f2=>?_) (fun f2=>?_)⟩
    ·have Vc:e≠aB (rd w (-1)):=fun g=>by rw[g]at f2;simp at f2
     refine ⟨_,rfl,_,rfl,w,[e],rfl,rfl,by show w.length+1<=_;lia,?_⟩
     exact ⟨n+1 - (w++[e]).length,by rw[V7];show n+1 - (w.length+1)<_;lia,w++[e],_,rfl,rfl,hw.more zI fun _=>Vc,by rw[V7];show w.length+1<=_;lia,x4,s5⟩
    ·refine ⟨_,rfl,_,rfl,_,rfl,w,_,_,rfl,rfl,nW,xQ,w,[rd w (-1)],rfl,rfl,by show w.length+1<=_;lia,?_⟩
     exact ⟨n+1 - (w++[rd w (-1)]).length,by rw[V7];show n+1 - (w.length+1)<_;lia,w++[rd w (-1)],_,rfl,rfl,hw.more Jo fun _ g=>ig (hy.lt _ Jo) g.symm,by rw[V7];show w.length+1<=_;lia,x4,s5⟩
  ·have z1: ¬(w.length:Int)<1+(n:Int):=fun g=>z (decide_eq_true g)
   exact ⟨w,lv,rfl,hw,by lia,kA,q5,s3⟩
 rintro σ6 H3 ⟨w,lv,rfl,hw,Pw,kA,q5,s3⟩
 refine ⟨fun σ' H'=>H'=H3/\ ∃w:List Nat,σ'=[some (.ref b),some (.str (S y)),some (.int top),some (.int (1+(n:Int))),some (.int fm),some (.str (S w)),lv]/\SW y w/\w.length<=n+1,?_,?_⟩
 ·refine ⟨fun k σ H'=>H'=H3/\ ∃w:List Nat,σ=[some (.ref b),some (.str (S y)),some (.int top),some (.int (1+(n:Int))),some (.int fm),some (.str (S w)),lv]/\k=w.length/\Wd y w/\1<=w.length/\w.length<=n+1,⟨_,rfl,w,rfl,rfl,hw,Pw,kA⟩,?_⟩
  clear hw kA Pw w
  rintro k σ H4 ⟨rfl,w,rfl,rfl,hw,Pw,kA⟩
  have nW:w.length<=sizeLine:=by lia
  have di:w≠[]:=fun g=>by rw[g]at Pw;simp at Pw
  have Jo: ∀k,rd w k∈y:=fun k=>hw.bP _ (iu di k)
  refine ⟨_,rfl,w,rfl,nW,_,_,rfl,rfl,_,rfl,bp (fun f=>?_) (fun f=>?_)⟩
  ·have g1:(1:Int)<w.length:=of_decide_eq_true f
   have xQ:oM w (-1)=some (rd w (-1)):=gU (by lia) (by lia)
   refine ⟨_,rfl,w,_,_,rfl,rfl,nW,gU (k:=0) (by lia) (by lia),_,rfl,_,rfl,w,_,_,rfl,rfl,nW,xQ,_,rfl,hy.lt _ (Jo _),[rd w 0],_,rfl,rfl,_,rfl,bp (fun f2=>?_) (fun f2=>?_)⟩
   ·refine ⟨_,rfl,_,rfl,_,rfl,w,rfl,nW,?_⟩
    rw[xb]
    exact ⟨(w.take (w.length - 1)).length,by rw[Qak];lia,rfl,w.take (w.length - 1),rfl,rfl,⟨hw.E6.take _,fun c hc=>hw.bP c (Qbx hc)⟩,by rw[Qak];lia,by rw[Qak];lia⟩
   ·have Vc:rd w 0≠aB (rd w (-1)):=fun g=>f2 (by simp[g])
    exact ⟨rfl,w,rfl,hw.sw di Vc,kA⟩
  ·have g1: ¬(1:Int)<w.length:=fun g=>f (decide_eq_true g)
   refine kf ?_
   exact ⟨rfl,w,rfl,hw.one hy (by lia),kA⟩
 rintro σ7 H7 ⟨rfl,w7,rfl,sw,YS⟩
 clear hw Pw kA w
 refine ⟨fun σ' H'=>H'=H7/\ ∃w:List Nat,σ'=[some (.ref b),some (.str (S y)),some (.int top),some (.int (1+(n:Int))),some (.int fm),some (.str (S w)),lv]/\SW y w/\w.length<=top,?_,?_⟩
 ·refine ⟨_,rfl,_,_,rfl,rfl,_,rfl,bp (fun f=>?_) (fun f=>?_)⟩
  ·refine ⟨_,rfl,w7,rfl,by lia,_,_,rfl,rfl, .inl ⟨by lia,by lia⟩,_,rfl,_,_,rfl,rfl,_,rfl,bp (fun f2=>?_) (fun f2=>?_)⟩
   ·have g2:(w7.length:Int)*2<=top:=of_decide_eq_true f2
    refine ⟨_,rfl,_,rfl,w7,w7,rfl,rfl,by lia,?_⟩
    exact ⟨rfl,_,rfl,sw.twice,by rw[V7];lia⟩
   ·exact ⟨rfl,_,rfl,sw,by lia⟩
  ·refine kf ?_
   exact ⟨rfl,_,rfl,sw,by lia⟩
 rintro σ8 H8 ⟨rfl,w8,rfl,YT,Vd⟩
 exact ⟨_,rfl,q w8 _ YT Vd q5 s3⟩
theorem tF:bF P w K mg base fD 2 OB O7 ["_law_box_here","_law_things"] (sI K):=by
 walk_at"C"
 refine T.Ni.fn.ok mX (fun vs H Q E h=>zh h) (fun _ _ _ _ H vs Q E hr h=>?_)
 refine ⟨_,(ah (aq (i:=2) mX.nd rfl (Or.inl rfl) (cF (oQ rfl) rfl T.z_list boot_list (aa (pv 1) ae)))
   (ah (aq (i:=3) mX.nd rfl (Or.inl rfl) (cu ae))
   (ah (dR PassesOwn.never (aD kE (ar (aT K rfl) rfl T.z_len Qac (aa (pv 2) ae)) ai (aE _)) (aj (bY (ba K rfl Qam Qa1 Qa0 b_ (pv 3) (aa (ba K rfl Qam Qdv Qdu oO (pv 2) (aa (ak bU (hr.mono (by decide)) rfl T.gL.mg T.gL.fn.kp T.gL.bd .nil ay (aa (pv 0) (aa (ar (aT K rfl) rfl T.z_len Qac (aa (pv 2) ae)) ae))) ae)) ae)))))
   (aj (aF (pv 3)))))),?_⟩
 obtain ⟨b,l,rfl,hb,hz,q⟩:=h
 have hs:=Zs1
 refine ⟨_,rfl,l,rfl,by lia,fun p1 n1=>?_⟩
 walk_at "wk"
 intro p2 n2
 have s1:ao H (upd (upd H p1 (.lst (bW l))) p2 (.lst [])):=(ao.upd n1).trans (ao.upd n2)
 have Nr:p1≠b:=hb.ne n1
 have Nq:H p2=none:=ao.free (ao.upd n1) n2
 have RH:p2≠b:=hb.ne Nq
 have KY:p1≠p2:=fun z=>by rw[<-z,ag]at n2;cases n2
 refine ⟨fun m σ H'=> ∃F E':List Nat,σ=[some (.ref b),some (.str (S l)),some (.ref p1),some (.ref p2)]/\m=E'.length/\(F++E').Perm l/\H' p1=some (.lst (bW E'))/\H' p2=some (.lst (bW F))/\bX H' b/\aO b H H',⟨_,[],l,rfl,rfl,Qe2 _,by rw[az KY,ag],ag,hb.same s1,aO.of s1⟩,?_⟩
 rintro m σ H3 ⟨F,E',rfl,rfl,kB,hV,kz,q5,s4⟩
 have hlen:=kB.length_eq
 rw[V7]at hlen
 walk_at "wk"
 refine ⟨p1,_,rfl, .inl (aZ.of hV),_,_,rfl,rfl,_,rfl,bp (fun e=>?_) (fun e=>?_)⟩
 ·have e':(0:Int)<((bW E').length:Nat):=of_decide_eq_true e
  rw[aK]at e'
  refine ⟨_,rfl, .inl ⟨rfl,_,aZ.of kz⟩,_,rfl, .inl ⟨rfl,_,aZ.of hV⟩,?_⟩
  walk_at "wk"
  refine ⟨p1,_,rfl, .inl (aZ.of hV),b,_,rfl,q5,by rw[aK];lia,by rw[aK];lia,fun r H4 KZ x4 s5=>?_⟩
  rw[aK]at KZ
  have Nu:r<E'.length:=by lia
  refine ⟨p1,_,_,r,_,rfl,rfl,s5 _ _ hV Nr,by lia,by lia,by rw[aK,seqIndex_of (by lia) (by lia),XQ],y_ Nu,?_⟩
  rw[mi]
  have g9:=ik (LJ Nu)
  have iT:=g9.length_eq
  rw[Qar]at iT
  refine ⟨p2,_,_,rfl,rfl,by rw[az (Ne.symm KY)];exact s5 _ _ kz RH,by rw[aK];lia,?_⟩
  rw[cR]
  refine ⟨(E'.eraseIdx r).length,by lia,F++[E'[r]],E'.eraseIdx r,rfl,rfl,?_,by rw[az KY,ag],ag,(x4.cZ Nr).cZ RH,((s4.trans s5).cZ n1).cZ Nq⟩
  rw[Qb9]
  exact (List.Perm.append_left F g9).trans kB
 ·have e':E'=[]:=by
   cases E' with
   | nil=>rfl
   | cons c r=>exact absurd (decide_eq_true (by rw[aK];show (0:Int)<((r.length+1:Nat):Int);lia)) e
  subst e'
  rw[Qaw]at kB
  exact ⟨_,rfl,q p2 F H3 Nq RH kz kB q5 s4⟩
theorem q8:bF P w K mg base fD 3 OP Pn ["_law_box_here","_law_yard_here"] (j5 K):=by
 have g_:=m4 (P:=P) (w:=w) (base:=base) T
 have qD:=tF (P:=P) (w:=w) (base:=base) T
 walk_at"k"
 refine T.S3.fn.ok cw (fun vs H Q E h=>pT h) (fun _ _ _ _ H vs Q E hr h=>?_)
 refine ⟨_,(ah (aq (i:=2) cw.nd rfl (Or.inl rfl) (ak g_ (hr.mono (by decide)) rfl T.Dm.mg T.Dm.fn.kp T.Dm.bd .nil ay (aa (pv 0) (aa (pv 1) (aa ai ae)))))
   (ah (aq (i:=3) cw.nd rfl (Or.inr rfl) (av kP (pv 2) (av dA ai (ar aH rfl T.z_len Qac (aa (pv 2) ae)))))
   (ah (aq (i:=4) cw.nd rfl (Or.inl rfl) (ak qD (hr.mono (by decide)) rfl T.Ni.mg T.Ni.fn.kp T.Ni.bd .nil ay (aa (pv 0) (aa (pv 1) ae))))
   (ah (En (i:=5) ["_law_letter","_law_word"] [none,some 3] cw.nd rfl (Or.inl rfl) (fi K rfl (pv 4)) ⟨⟨rfl,rfl,by first | exact .inl rfl | exact .inr rfl⟩,trivial⟩ (fun _ _ _ _=>(aC (i:=0) (by decide+kernel:List.Nodup (["_law_letter","_law_word"]:List Str)) rfl (Or.inl rfl))) (fun _ _ _ _=>(lZ (aD (Aw K rfl) (pv 0) (bc (aa (ak aX (hr.mono (by decide)) rfl T.eV.mg T.eV.fn.kp T.eV.bd .nil ay (aa (aN gB (pv 1) (gi dZ ai) (fun _ _=>rfl)) ae)) (aa (ak aX (hr.mono (by decide)) rfl T.eV.mg T.eV.fn.kp T.eV.bd .nil ay (aa (aN gB (pv 1) ai (fun _ _=>rfl)) ae)) (aa (aN gB (pv 1) (gi dZ ai) (fun _ _=>rfl)) ae)))) (by with_unfolding_all rfl)))) (fun _ _ _ _=>(pv 0)))
   (ah (aq (i:=6) cw.nd rfl (Or.inl rfl) (bh hZ (pv 3) ck (bf (gi dZ (ar aH rfl T.z_len Qac (aa (pv 2) ae))))))
   (ff (bC (aD (yK K rfl hr) (pv 5) (cu ae) (aE _)) (aj (aq (i:=6) cw.nd rfl (Or.inl rfl) (av eY (bh hZ (pv 3) ck (bf (gi dZ ai))) (aN (bu K rfl) (pv 5) ai (fun _ _=>rfl))))) aV)
   (aj (aF (bc (aa (pv 3) (aa (pv 6) ae))))))))))),?_⟩
 obtain ⟨b,y,rfl,hb,hy,x5,x6,q⟩:=h
 have hs:=Zs1
 refine ⟨_,rfl,_,rfl,b,y,3,rfl,hb,hy,x5,x6,by decide,by decide,fun r H1 sr rl ux s1=>?_⟩
 have rp:0<r.length:=V9.mpr sr.ne
 have YU: ∃k:Nat,(12:Int) / (r.length:Int)=k/\4<=k/\k*r.length<=12/\k<=12:=by
  have h3:r.length=1\/r.length=2\/r.length=3:=by lia
  rcases h3 with g | g | g<;>rw[g]
  ·exact ⟨12,rfl,by decide,by decide,by decide⟩
  ·exact ⟨6,rfl,by decide,by decide,by decide⟩
  ·exact ⟨4,rfl,by decide,by decide,by decide⟩
 obtain ⟨k,hk,YV,YW,hkz⟩:=YU
 have pr:(0:Int)<(r.length:Int):=by lia
 refine ⟨_,rfl,_,rfl,r,rfl,by lia,_,_,rfl,rfl,⟨by lia,by lia⟩,?_⟩
 have yE:(12:Int) / (r.length:Int)=k:=hk
 refine ⟨r,k,rfl,congrArg V.int yE,⟨by lia,by lia⟩,by rw[XQ,Qb6];lia,?_⟩
 rw[XQ]
 have sw:SW y (cI k r):=sr.dh (by lia)
 have wl:=om k r
 have Nv:=Ff (r:=r) (k:=k) rp (by lia)
 have sn:SW y (cI (k - 1) r):=sr.dh (by lia)
 have nl:=om (k - 1) r
 have Yj:(k - 1)*r.length<=k*r.length:=Qd1 _ (by lia)
 have YX:4*1<=k*r.length:=Nat.mul_le_mul YV rp
 show rC 3 (V.str (S (cI k r))) _ _ _
 generalize cI k r=w at sw wl Nv ⊢
 generalize cI (k - 1) r=nr at sn nl Nv
 have kA:w.length<=sizeLine:=by lia
 have ly: ∀j,Lt (rd w j):=fun j=>hy.lt _ (sw.rd j)
 refine ⟨_,rfl,_,rfl,b,y,rfl,ux,by lia,fun p l H2 np pb hp hl me s2=>?_⟩
 have N8:=hl.length_eq
 refine ⟨_,rfl,p,rfl,⟨_,aZ.of hp⟩,?_⟩
 refine jF (K:=K) (a:=p) (xs:=bW l) (fun i acc H'=>ao H2 H'/\acc=bW ((l.take i).filter (zk w))) (by rw[aK];lia) (fun i acc H' h=>aZ.of (h.1 _ _ hp)) ⟨ao.refl _,rfl⟩ ?_ ?_
 ·rintro i x acc H3 Nx hi hx gN ⟨s3,rfl⟩ nx
  obtain ⟨e,he,rfl⟩:=e_ hx
  have ef:=gp (p:=zk w) he
  refine ⟨⟨rfl,trivial⟩,?_⟩
  refine ⟨_,rfl,_,rfl,_,rfl,w,_,_,rfl,rfl,kA,gU (k:= -2) (by lia) (by lia),_,rfl,ly _,?_⟩
  refine ⟨_,rfl,w,_,_,rfl,rfl,kA,gU (k:=0) (by lia) (by lia),_,rfl,ly _,?_⟩
  refine ⟨_,rfl,_,rfl,w,_,_,rfl,rfl,kA,gU (k:= -1) (by lia) (by lia),by show 3<=sizeLine;decide,fun t nt=>?_⟩
  have st:=s3.trans (ao.upd (o:= .tup (bW [aB (rd w (-2)),aB (rd w 0),rd w (-1)])) nt)
  refine ⟨t,bW [aB (rd w (-2)),aB (rd w 0),rd w (-1)],rfl, .inr (bE.of ag),rfl,rfl,?_⟩
  have iv:(if true=true then !B8 (.str (S [e])) (bW [aB (rd w (-2)),aB (rd w 0),rd w (-1)]) else B8 (.str (S [e])) (bW [aB (rd w (-2)),aB (rd w 0),rd w (-1)]))=zk w e:=by rw[if_pos rfl,ue];rfl
  rw[iv]
  refine ⟨_,rfl,bp (fun z=>?_) (fun z=>?_)⟩
  ·rw[if_pos z]at ef
   exact ⟨_,rfl,nx _ _ (by simpa using gN) ⟨st,by rw[ef, <-cR]⟩⟩
  ·rw[if_neg z,Qaw]at ef
   exact nx _ _ (Qcs gN) ⟨st,by rw[ef]⟩
 rintro acc H3 D gN ⟨s3,rfl⟩ hD
 rw[kZ]
 have Ve:(l.filter (zk w)).length<=l.length:=Qc1 _ _
 have Pt: ∀e∈l.filter (zk w),e∈y/\e∉[aB (rd w (-2)),aB (rd w 0),rd w (-1)]:=fun e he=>by
  have h1:=Qa5.mp he
  exact ⟨hl.mem_iff.mp h1.1,by have:=h1.2;unfold zk at this;simpa using this⟩
 generalize l.filter (zk w)=F at Ve Pt ⊢
 have Vf:upd H3 D (.lst (bW F)) D=some (.lst (bW F)):=ag
 have s4:=s3.trans (ao.upd (o:= .lst (bW F)) hD)
 generalize upd H3 D (.lst (bW F))=H4 at Vf s4 ⊢
 have x4:=me.same s4
 have Nw:aO b H H4:=(s1.trans s2).after s4
 refine ⟨_,rfl,_,rfl,r,rfl,by lia,_,rfl,_,rfl,w,rfl,kA,?_⟩
 rw[Nv]
 refine ⟨fun σ' H'=>ao H4 H'/\ ∃u:List Nat,SW y u/\u.length<=12/\σ'=[some (.ref b),some (.str (S y)),some (.str (S r)),some (.str (S w)),some (.ref p),some (.ref D),some (.str (S u))],?_,?_⟩
 ·refine ⟨_,rfl,Qaa _,fun p0 n0=>?_⟩
  have s5:=ao.upd (o:= .lst []) n0
  have YY: ∀c∈F,c<128:=fun c hc=>(hy.lt c (Pt c hc).1).lt
  have Vg:(PyData.list (uE (ones F))).depth<=60:=by show PyData.depthAll (uE (ones F))+1<=60;rw[jH];decide
  refine ⟨.list (uE (ones F)), .list [], .lst (aZ.of (by rw[s5 _ _ Vf,EY])) (je _), .lst (aZ.of ag) .nil,⟨lj (IG YY),rfl⟩,Vg,?_⟩
  cases F with
  | nil=>
   refine ⟨_,rfl,uC rfl ?_⟩
   exact ⟨s5,nr,sn,by lia,rfl⟩
  | cons e F=>
   refine ⟨_,rfl,Iy rfl ?_⟩
   obtain ⟨zI,Np⟩:=Pt e XS
   refine ⟨_,rfl,_,rfl,_,rfl,w,rfl,kA,_,rfl,D,_,0,_,rfl,rfl,aZ.of (s5 _ _ Vf),bL (xs:=bW (e::F)) (j:=0) rfl,?_⟩
   rw[xb]
   refine ⟨w.take (w.length - 1),[e],rfl,rfl,by rw[Qak];show _+1<=_;lia,?_⟩
   refine ⟨s5,w.take (w.length - 1)++[e],?_,by rw[V7,Qak];show _+1<=_;lia,rfl⟩
   refine SW.snoc hy (sw.E6.take _) (fun a ha=>sw.bP a (Qbx ha)) zI (fun a ha g=>?_) fun a ha g=>?_
   ·rw[<-C0 (by lia) ha]at g
    exact Np (by rw[g];simp)
   ·rw[<-CZ ha sw.ne]at g
    exact Np (by rw[g];simp)
 rintro σ5 H5 ⟨s5,u,su,ul,rfl⟩
 refine ⟨_,rfl,_,rfl,by show 2<=sizeLine;decide,fun t nt=>?_⟩
 have S_:=x4.same s5
 have tb:=S_.ne nt
 have Ta:=Nw.after s5
 have Px:=Ta.none nt tb
 exact q t [w,u] _ Px tb ag (IW sw su (by lia) ul) (S_.cZ tb) (Ta.cZ Px)
theorem GF:bF P w K mg base fD 3 OA O6 ["_law_box_here","_law_yard_here","_law_word","_law_top"] (wZ K):=by
 walk_at"C"
 walk_at"k"
 have g_:=m4 (P:=P) (w:=w) (base:=base) T
 refine T.SN.fn.ok jA (fun vs H Q E h=>CU h) (fun _ _ _ _ H vs Q E hr h=>?_)
 refine ⟨_,(ah (aq (i:=4) jA.nd rfl (Or.inl rfl) (ak bU (hr.mono (by decide)) rfl T.gL.mg T.gL.fn.kp T.gL.bd .nil ay (aa (pv 0) (aa ai ae))))
   (ah (aq (i:=5) jA.nd rfl (Or.inl rfl) (ak bU (hr.mono (by decide)) rfl T.gL.mg T.gL.fn.kp T.gL.bd .nil ay (aa (pv 0) (aa (ar aH rfl T.z_len Qac (aa (pv 2) ae)) ae))))
   (ah (bC (aD eQ (pv 4) ai (aE _)) (aj (aF (av eY (bh hZ (pv 2) (bf (pv 5)) ck) (bh hZ (pv 2) ck (bf (pv 5)))))) aV)
   (ah (bC (aD eQ (pv 4) ai (aE _)) (aj (aF (ba K rfl Qao Qci Qch (gS K rfl) (i4 [] (by decide+kernel)) (aa (bA ["_law_letter"] [none] (Em rfl T.z_reversed (aa (pv 2) ae)) trivial (fun _ _ _ _=>(aC (i:=0) (by decide+kernel:List.Nodup (["_law_letter"]:List Str)) rfl (Or.inl rfl))) (fun _ _ _ _=>dI) (fun _ _ _ _=>(ak aX (hr.mono (by decide)) rfl T.eV.mg T.eV.fn.kp T.eV.bd .nil ay (aa (pv 0) ae)))) ae)))) aV)
   (ah (bC (aD eQ (pv 4) ai (aE _)) (ah (aq (i:=6) jA.nd rfl (Or.inl rfl) (aN gB (pv 1) (ak bU (hr.mono (by decide)) rfl T.gL.mg T.gL.fn.kp T.gL.bd .nil ay (aa (pv 0) (aa (ar aH rfl T.z_len Qac (aa (pv 1) ae)) ae))) (fun _ _=>rfl)))
   (ah (aq (i:=7) jA.nd rfl (Or.inl rfl) (av eY (bh hZ (pv 2) ck (bf (pv 5))) (pv 6)))
   (aj (bC (aD (Aw K rfl) (pv 6) (cu (aa (ak aX (hr.mono (by decide)) rfl T.eV.mg T.eV.fn.kp T.eV.bd .nil ay (aa (aN gB (pv 7) ai (fun _ _=>rfl)) ae)) (aa (ak aX (hr.mono (by decide)) rfl T.eV.mg T.eV.fn.kp T.eV.bd .nil ay (aa (aN gB (bh hZ (pv 7) (bf (gi dZ ai)) ck) ai (fun _ _=>rfl)) ae)) ae))) (by with_unfolding_all rfl)) (aj (aF (pv 7))) aV)))) aV)
   (aj (aF (ak g_ (hr.mono (by decide)) rfl T.Dm.mg T.Dm.fn.kp T.Dm.bd .nil ay (aa (pv 0) (aa (pv 1) (aa (pv 3) ae))))))))))),?_⟩
 obtain ⟨b,y,w,top,rfl,hb,hy,x5,x6,Hl,Du,sw,jW,q⟩:=h
 have hs:=Zs1
 have RJ:y.length<=sizeLine:=by lia
 have kA:w.length<=sizeLine:=by lia
 have qT:0<w.length:=V9.mpr sw.ne
 have lw: ∀c∈w,Lt c:=fun c hc=>hy.lt c (sw.bP c hc)
 refine ⟨_,rfl,b,5,rfl,hb,by decide,by decide,fun fm H1 Pt ux s1=>?_⟩
 refine ⟨_,rfl,_,rfl,w,rfl,kA,b,_,rfl,ux,by lia,by lia,fun at' H2 N9 me s2=>?_⟩
 have DN:=s1.trans s2
 have YZ:at'<w.length:=by lia
 refine ⟨_,rfl,_,_,rfl,rfl,_,rfl,bp (fun f0=>?_) (fun f0=>?_)⟩
 ·have hlen:(cut w (some (at':Int)) none).length+(cut w none (some (at':Int))).length<=sizeLine:=by rw[cX,fq,Qat,Qak];lia
  have Ab:cut w (some (at':Int)) none++cut w none (some (at':Int))=w.drop at'++w.take at':=by rw[cX,fq]
  refine ⟨_,rfl,_,rfl,_,rfl,w,rfl,kA,_,rfl,_,rfl,_,rfl,w,rfl,kA,_,_,rfl,rfl,hlen,?_⟩
  rw[Ab]
  exact q _ _ (sw.hW (by lia)) (by rw[V7,Qat,Qak];lia) me DN
 ·refine ⟨_,rfl,_,_,rfl,rfl,_,rfl,bp (fun f1=>?_) (fun f1=>?_)⟩
  ·refine ⟨rfl,_,rfl,w,rfl,by lia,?_⟩
   rw[AM]
   refine i7 (xs:=bW w.reverse) (fun i acc H'=>ao H2 H'/\acc=bW ((w.reverse.take i).map aB)) (by rw[aK,Qaz];lia) ⟨ao.refl H2,rfl⟩ ?_ ?_
   ·rintro i x acc H3 Nx hi hx hl ⟨s3,rfl⟩ nx
    obtain ⟨c,qO,rfl⟩:=e_ hx
    refine ⟨trivial,cL ⟨_,rfl,c,rfl,lw c (Qel.mp (Qab qO)),nx _ _ (by simpa using hl) ⟨s3,?_⟩⟩⟩
    rw[cR, <-take_snoc qO,XN]
    rfl
   ·rintro acc H3 D hl ⟨s3,rfl⟩ hD
    refine ⟨D,(gM w).map fun c=>[c],rfl,rfl,aZ.of ?_,?_,?_⟩
    ·rw[ag, <-dj,aK,Qau (Sq _),Qc7]
     rfl
    ·rw[y8]
     unfold gM
     rw[Qaz,V6]
     lia
    ·rw[pG]
     exact q _ _ (sw.gM hy) (by rw[cC];lia) ((me.same s3).same (ao.upd hD)) (DN.after (s3.trans (ao.upd hD)))
  ·refine ⟨_,rfl,_,_,rfl,rfl,_,rfl,bp (fun f2=>?_) (fun f2=>?_)⟩
   ·refine ⟨_,rfl,_,rfl,_,rfl,y,rfl,RJ,b,_,rfl,me,by lia,by lia,fun r H3 WJ q5 s3=>?_⟩
    have K0:=DN.trans s3
    have hr:r<y.length:=by lia
    refine ⟨y,_,_,rfl,rfl,RJ,bL (LJ hr),?_⟩
    have AD:y[r]∈y:=Qay hr
    generalize y[r]=c at AD ⊢
    have hlc:=hy.lt c AD
    have hlen:(cut w none (some (at':Int))).length+[c].length<=sizeLine:=by rw[cX,Qak];show _+1<=_;lia
    refine ⟨_,rfl,_,rfl,_,rfl,w,rfl,kA,_,rfl,_,_,rfl,rfl,hlen,?_⟩
    rw[cX]
    have qN:(w.take at').length=at':=by rw[Qak];lia
    have RK:=sw.E6.take at'
    have Ny: ∀a∈w.take at',a∈y:=fun a ha=>sw.bP a (Qbx ha)
    generalize w.take at'=u at qN RK Ny ⊢
    have S6:(u++[c]).length=at'+1:=by rw[V7,qN];rfl
    have RL:u++[c]≠[]:=by simp
    have WO: ∀a∈u++[c],a∈y:=fun a ha=>(Qaf.mp ha).elim (Ny a) fun g=>by rw[V8.mp g];exact AD
    have g0:oM (u++[c]) (0:Int)=some (rd (u++[c]) 0):=gU (by lia) (by lia)
    have Y0:cut (u++[c]) (some (-2)) none=(u++[c]).drop (at'+1 - 2):=by rw[Mw,S6]
    have Oa:((u++[c]).drop (at'+1 - 2)).length=at'+1 - (at'+1 - 2):=by rw[Qat,S6]
    have RM:(u++[c]).drop (at'+1 - 2)≠[]:=fun z=>by rw[z]at Oa;simp at Oa;lia
    have g2:oM ((u++[c]).drop (at'+1 - 2)) (0:Int)=some (rd ((u++[c]).drop (at'+1 - 2)) 0):=gU (by lia) (by lia)
    have WQ:=WO _ (iu RL 0)
    have WR:=WO _ (Qd2 (iu RM 0))
    have e0: ∀a,u.head? =some a->rd (u++[c]) 0=a:=fun a ha=>by
     have h1:=lB RL
     cases u with
     | nil=>cases ha
     | cons x r=>exact (Qan (h1.symm.trans (show (x::r++[c]).head? =some a from ha)))
    have e2: ∀a,u.getLast? =some a->rd ((u++[c]).drop (at'+1 - 2)) 0=a:=fun a ha=>by
     have h1:=lB RM
     have IX:u≠[]:=fun z=>by rw[z]at ha;cases ha
     have hV:=V9.mpr IX
     rw[Qer, Qb5,Qa9 (by lia)]at h1
     rw[Qcm, qN]at ha
     rw[show at'+1 - 2+0=at' - 1 by lia]at h1
     exact Qan (h1.symm.trans ha)
    generalize rd (u++[c]) 0=x0 at g0 WQ e0
    generalize rd ((u++[c]).drop (at'+1 - 2)) 0=x2 at g2 WR e2
    refine ⟨_,rfl,_,rfl,_,_,_,rfl,rfl,by lia,g0,_,rfl,hy.lt _ WQ,?_⟩
    refine ⟨_,rfl,_,rfl,_,rfl,u++[c],rfl,by lia,?_⟩
    rw[Y0]
    refine ⟨_,_,_,rfl,rfl,by rw[Oa];lia,g2,_,rfl,hy.lt _ WR,by show 2<=sizeLine;decide,fun p np=>?_⟩
    have Vh:=q5.ne np
    have WS:=K0.none np Vh
    refine ⟨p,_,rfl, .inl (aZ.of ag),rfl,rfl,?_⟩
    have iv:=AB c (aB x0) (aB x2)
    rw[show (if true=true then !B8 (.str (S [c])) [.str (S [aB x0]), .str (S [aB x2])] else B8 (.str (S [c])) [.str (S [aB x0]), .str (S [aB x2])])=!(decide (c=aB x0)||decide (c=aB x2)) by rw[if_pos rfl,iv]]
    refine ⟨_,rfl,bp (fun f3=>?_) (fun f3=>?_)⟩
    ·have hn:c≠aB x0/\c≠aB x2:=by simpa using f3
     refine ⟨_,rfl,q (u++[c]) _ (SW.snoc hy RK Ny AD (fun a ha=>by rw[<-e2 a ha];exact hn.2) fun a ha=>by rw[<-e0 a ha];exact hn.1) (by lia) (q5.cZ Vh) (K0.cZ WS)⟩
    ·exact ⟨_,rfl,_,rfl,_,rfl,b,y,top,rfl,q5.cZ Vh,hy,x5,x6,Hl,Du,fun l H4 hl xQ x4 s4=>q l H4 hl xQ x4 ((K0.cZ WS).trans s4)⟩
   ·exact ⟨_,rfl,_,rfl,_,rfl,b,y,top,rfl,me,hy,x5,x6,Hl,Du,fun l H3 hl xQ q5 s3=>q l H3 hl xQ q5 (DN.trans s3)⟩
theorem Dw:bF P w K mg base fD 4 OO Pl ["_law_box_here","_law_yard_here","_law_many","_law_top"] (sL K):=by
 have g_:=m4 (P:=P) (w:=w) (base:=base) T
 walk_at"C"
 have JJ:=GF (P:=P) (w:=w) (base:=base) T
 refine T.S0.fn.ok jQ (fun vs H Q E h=>zj h) (fun _ _ _ _ H vs Q E hr h=>?_)
 refine ⟨_,(ah (aq (i:=4) jQ.nd rfl (Or.inl rfl) (cu (aa (ak g_ (hr.mono (by decide)) rfl T.Dm.mg T.Dm.fn.kp T.Dm.bd .nil ay (aa (pv 0) (aa (pv 1) (aa (pv 3) ae)))) ae)))
   (ah (cD PassesOwn.never rfl (fP rfl T.z_range (aa (ak bU (hr.mono (by decide)) rfl T.gL.mg T.gL.fn.kp T.gL.bd .nil ay (aa (pv 0) (aa (pv 2) ae))) ae)) (aC (i:=5) jQ.nd rfl (Or.inl rfl)) (ah (aq (i:=6) jQ.nd rfl (Or.inl rfl) (aN (bu K rfl) (pv 4) (ak bU (hr.mono (by decide)) rfl T.gL.mg T.gL.fn.kp T.gL.bd .nil ay (aa (pv 0) (aa (ar (aT K rfl) rfl T.z_len Qac (aa (pv 4) ae)) ae))) (fun _ _=>rfl)))
   (aj (bC (aD eQ (ak bU (hr.mono (by decide)) rfl T.gL.mg T.gL.fn.kp T.gL.bd .nil ay (aa (pv 0) (aa ai ae))) ai (aE _)) (aj (bY (ba K rfl Qam Qa1 Qa0 b_ (pv 4) (aa (ak g_ (hr.mono (by decide)) rfl T.Dm.mg T.Dm.fn.kp T.Dm.bd .nil ay (aa (pv 0) (aa (pv 1) (aa (pv 3) ae)))) ae)))) (aj (bY (ba K rfl Qam Qa1 Qa0 b_ (pv 4) (aa (ak JJ (hr.mono (by decide)) rfl T.SN.mg T.SN.fn.kp T.SN.bd .nil ay (aa (pv 0) (aa (pv 1) (aa (pv 6) (aa (pv 3) ae))))) ae))))))))
   (aj (aF (cF (eB K rfl) rfl T.z_tuple boot_tuple (aa (pv 4) ae)))))),?_⟩
 obtain ⟨b,y,many,top,rfl,hb,hy,x5,x6,N_,Ck,Hl,Du,hmt,q⟩:=h
 have hs:=Zs1
 refine ⟨_,rfl,_,rfl,_,rfl,b,y,top,rfl,hb,hy,x5,x6,Hl,by lia,fun w1 H1 Y1 Y2 ux s1=>?_⟩
 refine ⟨by show 1<=sizeLine;decide,fun t nt=>?_⟩
 have tb:t≠b:=ux.ne nt
 have Px:=s1.none nt tb
 have RN:upd H1 t (.lst [.str (S w1)]) t=some (.lst (iR [w1])):=ag
 have me:=ux.cZ (o:= .lst [.str (S w1)]) tb
 have s2:=s1.cZ (o:= .lst [.str (S w1)]) Px
 generalize upd H1 t (.lst [.str (S w1)])=H2 at RN me s2 ⊢
 refine ⟨_,rfl,_,rfl,b,many,rfl,me,by lia,by lia,fun r H3 hr q5 s3=>?_⟩
 refine ⟨_,rfl,by lia,by lia,?_⟩
 rw[XQ]
 have hrm:r<many:=by lia
 refine eO (fun i σ H'=> ∃(ws:List (List Nat)) (kv ov:Option V),σ=[some (.ref b),some (.str (S y)),some (.int many),some (.int top),some (.ref t),kv,ov]/\H' t=some (.lst (iR ws))/\ws.length=i+1/\(∀w∈ws,SW y w/\w.length<=top)/\bX H' b/\aO b H H')
  ⟨[w1],none,none,rfl,s3 _ _ RN tb,rfl,fun w hw=>by rw[V8.mp hw];exact ⟨Y1,Y2⟩,q5,s2.trans s3⟩ ?_ ?_
 ·rintro i σ H4 hi ⟨ws,kv,ov,rfl,JK,Py,Nz,x4,s4⟩
  refine ⟨_,rfl,_,rfl,_,rfl,t,_,rfl, .inl (aZ.of JK),b,_,rfl,x4,by rw[bG];lia,by rw[bG];lia,fun r5 H5 Nu S_ s5=>?_⟩
  rw[bG]at Nu
  have RO:r5<ws.length:=by lia
  refine ⟨t,_,_,_,rfl,rfl,aZ.of (s5 _ _ JK tb),bL (jd RO),?_⟩
  obtain ⟨so,lo⟩:=Nz _ (Qay RO)
  generalize ws[r5]=one at so lo ⊢
  refine ⟨_,rfl,b,3,rfl,S_,by decide,by decide,fun r6 H6 hr6 GG s6=>?_⟩
  have BG:=s6 _ _ (s5 _ _ JK tb) tb
  have WT:=s4.trans (s5.trans s6)
  refine ⟨_,_,rfl,rfl,_,rfl,bp (fun f=>?_) (fun f=>?_)⟩
  ·refine ⟨_,rfl, .inl ⟨rfl,_,aZ.of BG⟩,_,rfl,_,rfl,_,rfl,b,y,top,rfl,GG,hy,x5,x6,Hl,by lia,fun w7 H7 Vi Vj Vk s7=>?_⟩
   refine ⟨t,iR ws,_,rfl,rfl,s7 _ _ BG tb,by rw[bG];lia,?_⟩
   refine ⟨ws++[w7],_,_,rfl,by rw[ag,wK],by rw[V7,Py];rfl,fun w hw=>?_,Vk.cZ tb,(WT.trans s7).cZ Px⟩
   rcases Qaf.mp hw with g | g
   ·exact Nz w g
   ·rw[V8.mp g];exact ⟨Vi,Vj⟩
  ·refine ⟨_,rfl, .inl ⟨rfl,_,aZ.of BG⟩,_,rfl,_,rfl,_,rfl,_,rfl,b,y,one,top,rfl,GG,hy,x5,x6,Hl,by lia,so,lo,fun w7 H7 Vi Vj Vk s7=>?_⟩
   refine ⟨t,iR ws,_,rfl,rfl,s7 _ _ BG tb,by rw[bG];lia,?_⟩
   refine ⟨ws++[w7],_,_,rfl,by rw[ag,wK],by rw[V7,Py];rfl,fun w hw=>?_,Vk.cZ tb,(WT.trans s7).cZ Px⟩
   rcases Qaf.mp hw with g | g
   ·exact Nz w g
   ·rw[V8.mp g];exact ⟨Vi,Vj⟩
 ·rintro σ H4 ⟨ws,kv,ov,rfl,JK,Py,Nz,x4,s4⟩
  refine ⟨_,rfl,t,_,rfl, .inl ⟨aZ.of JK,fun u nu=>?_⟩⟩
  have ub:u≠b:=x4.ne nu
  have Tb:=s4.none nu ub
  have iT:(places ws).length<=ws.length*top:=oo (fun w hw=>(Nz w hw).2) ws.length (Sq _)
  have hmul:ws.length*top<=many*top:=Qd1 _ (by lia)
  exact q u ws _ Tb ub ag ⟨fun w hw=>⟨(Nz w hw).1,by have:=(Nz w hw).2;lia⟩,by lia,by lia⟩ (x4.cZ ub) (s4.cZ Tb)
theorem vw:bF P w K mg base fD 5 OQ Po ["_law_box_here","_law_yard_here","_law_is_first"] (lE K):=by
 walk_at"C"
 have vx:=q8 (P:=P) (w:=w) (base:=base) T
 have GH:=Dw (P:=P) (w:=w) (base:=base) T
 refine T.S4.fn.ok fO (fun vs H Q E h=>qY h) (fun _ _ _ _ H vs Q E hr h=>?_)
 refine ⟨_,(@ah _ _ _ _ _ (aq (i:=3) fO.nd rfl (Or.inl rfl) (ak bU (hr.mono (by decide)) rfl T.gL.mg T.gL.fn.kp T.gL.bd .nil ay (@aa _ _ _ _ _ (pv 0) (@aa _ _ _ _ _ ai ae rfl) rfl))) (ff (bC (PW.pt (eN (aD eQ (pv 3) ai (aE _)) (dF (eM (pv 2))))) (aj (aF (ak vx (hr.mono (by decide)) rfl T.S3.mg T.S3.fn.kp T.S3.bd .nil ay (@aa _ _ _ _ _ (pv 0) (@aa _ _ _ _ _ (pv 1) ae rfl) rfl)))) aV) (@ah _ _ _ _ _ (@oI _ _ _ _ _ _ (@aN _ _ _ _ _ _ _ (bu K rfl) (@cu _ _ _ _ (@aa _ _ _ _ _ (@bc _ _ _ _ _ (@aa _ _ _ _ _ ai (@aa _ _ _ _ _ ai ae rfl) rfl)) (@aa _ _ _ _ _ (@bc _ _ _ _ _ (@aa _ _ _ _ _ ai (@aa _ _ _ _ _ ai ae rfl) rfl)) (@aa _ _ _ _ _ (@bc _ _ _ _ _ (@aa _ _ _ _ _ ai (@aa _ _ _ _ _ ai ae rfl) rfl)) (@aa _ _ _ _ _ (@bc _ _ _ _ _ (@aa _ _ _ _ _ ai (@aa _ _ _ _ _ ai ae rfl) rfl)) ae rfl) rfl) rfl) rfl)) (pv 3) (fun _ _=>rfl)) (cK (n:=2) K rfl rfl (aP (aC (i:=4) fO.nd rfl (Or.inl rfl)) (aP (aC (i:=5) fO.nd rfl (Or.inl rfl)) cJ))) rfl rfl rfl) (aj (aF (ak GH (hr.mono (by decide)) rfl T.S0.mg T.S0.fn.kp T.S0.bd .nil ay (@aa _ _ _ _ _ (pv 0) (@aa _ _ _ _ _ (pv 1) (@aa _ _ _ _ _ (pv 4) (@aa _ _ _ _ _ (pv 5) ae rfl) rfl) rfl) rfl))))))),?_⟩
 obtain ⟨b,y,f,rfl,hb,hy,x5,x6,q⟩:=h
 have hs:=Zs1
 refine ⟨_,rfl,b,4,rfl,hb,by decide,by decide,fun fm H1 Pt ux s1=>?_⟩
 have Y3:fm<4:=by lia
 have q1: ∀H2:Hp,aO b H H2->bX H2 b->Told b H2 Q y:=fun H2 s2 me t ws H' nt tb ht ok MC s'=>q t ws H' (s2.none nt tb) tb ht ok MC (s2.trans s')
 refine ⟨fun σ' H'=>H'=H1/\σ'=[some (.ref b),some (.str (S y)),some (.bl f),some (.int fm),none,none],?_,?_⟩
 ·refine ⟨_,rfl,_,_,rfl,rfl,_,rfl,bp (fun z=>?_) (fun z=>?_)⟩
  ·refine ⟨_,rfl,_,rfl,?_⟩
   cases f with
   | false=>exact kf ⟨rfl,rfl⟩
   | true=>
    refine t9 ?_
    exact ⟨_,rfl,_,rfl,b,y,rfl,ux,hy,x5,x6,q1 _ s1 ux⟩
  ·refine kf ?_
   exact ⟨rfl,rfl⟩
 rintro σ2 H2 ⟨rfl,rfl⟩
 refine ⟨by show 2<=sizeLine;decide,fun a1 n1=>?_⟩
 have t1:=ao.upd (o:= .tup [.int 4, .int 6]) n1
 have e1:upd H2 a1 (.tup [.int 4, .int 6]) a1=some (.tup [.int 4, .int 6]):=ag
 generalize upd H2 a1 (.tup [.int 4, .int 6])=G1 at t1 e1 ⊢
 refine ⟨by show 2<=sizeLine;decide,fun a2 n2=>?_⟩
 have t2:=ao.upd (o:= .tup [.int 3, .int 8]) n2
 have e2:upd G1 a2 (.tup [.int 3, .int 8]) a2=some (.tup [.int 3, .int 8]):=ag
 generalize upd G1 a2 (.tup [.int 3, .int 8])=G2 at t2 e2 ⊢
 refine ⟨by show 2<=sizeLine;decide,fun a3 n3=>?_⟩
 have t3:=ao.upd (o:= .tup [.int 2, .int 12]) n3
 have e3:upd G2 a3 (.tup [.int 2, .int 12]) a3=some (.tup [.int 2, .int 12]):=ag
 generalize upd G2 a3 (.tup [.int 2, .int 12])=G3 at t3 e3 ⊢
 refine ⟨by show 2<=sizeLine;decide,fun a4 n4=>?_⟩
 have t4:=ao.upd (o:= .tup [.int 4, .int 6]) n4
 have e4:upd G3 a4 (.tup [.int 4, .int 6]) a4=some (.tup [.int 4, .int 6]):=ag
 generalize upd G3 a4 (.tup [.int 4, .int 6])=G4 at t4 e4 ⊢
 refine ⟨by show 4<=sizeLine;decide,fun l nl=>?_⟩
 have t5:=ao.upd (o:= .lst [.ref a1, .ref a2, .ref a3, .ref a4]) nl
 have hl:upd G4 l (.lst [.ref a1, .ref a2, .ref a3, .ref a4]) l=some (.lst [.ref a1, .ref a2, .ref a3, .ref a4]):=ag
 generalize upd G4 l (.lst [.ref a1, .ref a2, .ref a3, .ref a4])=H6 at t5 hl ⊢
 have e1:=t5 _ _ (t4 _ _ (t3 _ _ (t2 _ _ e1)))
 have e2:=t5 _ _ (t4 _ _ (t3 _ _ e2))
 have e3:=t5 _ _ (t4 _ _ e3)
 have e4:=t5 _ _ e4
 have WU:=t1.trans (t2.trans (t3.trans (t4.trans t5)))
 have GG:=ux.same WU
 have s6:=s1.after WU
 refine ⟨_,rfl,?_⟩
 have four:fm=0\/fm=1\/fm=2\/fm=3:=by lia
 rcases four with g | g | g | g<;>subst g
 ·refine ⟨l,_,0,_,rfl,rfl,aZ.of hl,bL (j:=0) rfl,?_⟩
  refine ⟨a1,_,rfl,bE.of e1,rfl,_,_,rfl,_,_,rfl,rfl,?_⟩
  exact ⟨_,rfl,_,rfl,_,rfl,_,rfl,b,y,4,6,rfl,GG,hy,x5,x6,by decide,by decide,by decide,by decide,by decide,q1 _ s6 GG⟩
 ·refine ⟨l,_,1,_,rfl,rfl,aZ.of hl,bL (j:=1) rfl,?_⟩
  refine ⟨a2,_,rfl,bE.of e2,rfl,_,_,rfl,_,_,rfl,rfl,?_⟩
  exact ⟨_,rfl,_,rfl,_,rfl,_,rfl,b,y,3,8,rfl,GG,hy,x5,x6,by decide,by decide,by decide,by decide,by decide,q1 _ s6 GG⟩
 ·refine ⟨l,_,2,_,rfl,rfl,aZ.of hl,bL (j:=2) rfl,?_⟩
  refine ⟨a3,_,rfl,bE.of e3,rfl,_,_,rfl,_,_,rfl,rfl,?_⟩
  exact ⟨_,rfl,_,rfl,_,rfl,_,rfl,b,y,2,12,rfl,GG,hy,x5,x6,by decide,by decide,by decide,by decide,by decide,q1 _ s6 GG⟩
 ·refine ⟨l,_,3,_,rfl,rfl,aZ.of hl,bL (j:=3) rfl,?_⟩
  refine ⟨a4,_,rfl,bE.of e4,rfl,_,_,rfl,_,_,rfl,rfl,?_⟩
  exact ⟨_,rfl,_,rfl,_,rfl,_,rfl,b,y,4,6,rfl,GG,hy,x5,x6,by decide,by decide,by decide,by decide,by decide,q1 _ s6 GG⟩
theorem gz:bF P w K mg base fD 1 f0 d0 ["letter"] (ng K):=by
 refine T.F0.fn.ok xH (fun vs H Q E h=>uA h) (fun _ _ _ _ H vs Q E hr h=>?_)
 refine ⟨_,(ah (bC (eM (h_ K rfl Qao Qei Qeh kg (pv 0))) (aj (aF (h_ K rfl Qao PySem.F.slot_str_upper PySem.F.type_str_upper Ef (pv 0)))) aV)
   (aj (aF (h_ K rfl Qao PySem.F.slot_str_lower PySem.F.type_str_lower vV (pv 0))))),?_⟩
 obtain ⟨c,rfl,hc,q⟩:=h
 refine ⟨_,rfl,rfl,c,rfl,rfl,hc,_,rfl,bp (fun e=>?_) (fun e=>?_)⟩
 ·refine ⟨_,rfl,rfl,c,rfl,rfl,hc,?_⟩
  have z:aB c=PyProof.Rows.up1 c:=if_pos e
  rw[<-z]
  exact q
 ·refine ⟨_,rfl,rfl,c,rfl,rfl,hc,?_⟩
  have z:aB c=PyProof.Rows.lo1 c:=if_neg e
  rw[<-z]
  exact q
theorem tG:bF P w K mg base fD 2 f1 d1 ["word"] (r_ K):=by
 have dP:=gz (P:=P) (w:=w) (base:=base) T
 refine T.F1.fn.ok Dp (fun vs H Q E h=>y7 h) (fun _ _ _ _ H vs Q E hr h=>?_)
 refine ⟨_,(aj (aF (ba K rfl Qao Qci Qch (gS K rfl) (i4 [] (by decide+kernel)) (aa (bA ["letter"] [none] (Em rfl T.z_reversed (aa (pv 0) ae)) trivial (fun _ _ _ _=>(aC (i:=0) (by decide+kernel:List.Nodup (["letter"]:List Str)) rfl (Or.inl rfl))) (fun _ _ _ _=>dI) (fun _ _ _ _=>(ak dP (hr.mono (by decide)) rfl T.F0.mg T.F0.fn.kp T.F0.bd .nil ay (aa (pv 0) ae)))) ae)))),?_⟩
 obtain ⟨l,rfl,hc,hz,q⟩:=h
 have hs:(1000:Nat)<sizeLine:=by decide
 refine ⟨rfl,_,rfl,l,rfl,by lia,?_⟩
 rw[AM]
 refine i7 (xs:=bW l.reverse) (fun i acc H'=>ao H H'/\acc=bW ((l.reverse.take i).map aB)) (by rw[aK,Qaz];lia) ⟨ao.refl H,rfl⟩ ?_ ?_
 ·rintro i x acc H1 Nx hi hx hl ⟨s1,rfl⟩ nx
  obtain ⟨c,qO,rfl⟩:=e_ hx
  refine ⟨trivial,cL ⟨_,rfl,c,rfl,hc c (Qel.mp (Qab qO)),nx _ _ (by simpa using hl) ⟨s1,?_⟩⟩⟩
  rw[cR, <-take_snoc qO,XN]
  rfl
 ·rintro acc H1 D hl ⟨s1,rfl⟩ hD
  refine ⟨D,(gM l).map fun c=>[c],rfl,rfl,aZ.of ?_,?_,?_⟩
  ·rw[ag, <-dj,aK,Qau (Sq _),Qc7]
   rfl
  ·rw[y8]
   unfold gM
   rw[Qaz,V6]
   lia
  ·rw[pG]
   exact q _ (s1.trans (ao.upd hD))
theorem GI:bF P w K mg base fD 1 f2 d2 ["yard"] (wQ K):=by
 refine T.F2.fn.ok GB (fun vs H Q E h=>CN h) (fun _ _ _ _ H vs Q E hr h=>?_)
 refine ⟨_,(aj (aF (ba K rfl Qao Qci Qch (gS K rfl) (i4 [] (by decide+kernel)) (aa (ar (kQ K rfl) rfl T.z_sorted boot_sorted (aa (bA ["letter"] [none] (oX (pv 0)) trivial (fun _ _ _ _=>(aC (i:=0) (by decide+kernel:List.Nodup (["letter"]:List Str)) rfl (Or.inl rfl))) (fun _ _ _ _=>(lZ (eM (h_ K rfl Qao Qei Qeh kg (pv 0))))) (fun _ _ _ _=>(pv 0))) ae)) ae)))),?_⟩
 obtain ⟨l,rfl,hl,hz,q⟩:=h
 have hs:(1000:Nat)<sizeLine:=by decide
 refine ⟨rfl,_,rfl,l,rfl,?_⟩
 refine i7 (xs:=bW l) (fun i acc H'=>ao H H'/\acc=bW ((l.take i).filter aA)) (by rw[aK];lia) ⟨ao.refl H,rfl⟩ ?_ ?_
 ·rintro i x acc H1 Nx hi hx gN ⟨s1,rfl⟩ nx
  obtain ⟨c,hc,rfl⟩:=e_ hx
  have e:=gp (p:=aA) hc
  refine ⟨trivial,?_⟩
  refine ⟨_,rfl,rfl,c,rfl,rfl,hl c (Qab hc),_,rfl,?_⟩
  walk_at"i"
  ·rw[if_pos z]at e
   exact ⟨_,rfl,nx _ _ (by simpa using gN) ⟨s1,by rw[e, <-cR]⟩⟩
  ·rw[if_neg z,Qaw]at e
   exact nx _ _ (Qcs gN) ⟨s1,by rw[e]⟩
 ·rintro acc H1 D gN ⟨s1,rfl⟩ hD
  rw[kZ,dj]
  have Ve:(l.filter aA).length<=l.length:=Qc1 _ _
  refine ⟨D,(l.filter aA).map fun c=>[c],rfl,aZ.of ag,by rw[V6];lia,fun p ls hp kB RD=>?_⟩
  obtain ⟨l',rfl,pl⟩:=Az kB
  have x_:=pl.length_eq
  refine ⟨p,l'.map fun c=>[c],rfl,rfl,aZ.of ag,by rw[y8];lia,?_⟩
  rw[pG]
  exact q l' _ pl (AA RD) ((s1.trans (ao.upd hD)).trans (ao.upd hp))
theorem q_:bF P w K mg base fD 1 f4 d4 ["words","band"] (j9 K):=by
 refine T.F4.fn.ok cT (fun vs H Q E h=>qd h) (fun _ _ _ _ H vs Q E hr h=>?_)
 refine ⟨_,(ah (aq (i:=2) cT.nd rfl (Or.inl rfl) (cu ae))
   (ah (cD PassesOwn.never rfl (kR K rfl rfl T.z_enumerate (aa (pv 0) ae)) (cK (n:=2) K rfl rfl (aP (aC (i:=3) cT.nd rfl (Or.inl rfl)) (aP (aC (i:=4) cT.nd rfl (Or.inl rfl)) cJ))) (aj (cD PassesOwn.never rfl (o6 rfl T.z_enumerate (aa (pv 4) ae)) (cK (n:=2) K rfl rfl (aP (aC (i:=5) cT.nd rfl (Or.inl rfl)) (aP (aC (i:=6) cT.nd rfl (Or.inl rfl)) cJ))) (aj (bC (aD gC (h_ K rfl Qao PySem.F.slot_str_lower PySem.F.type_str_lower vV (pv 6)) (pv 1) (aE _)) (aj (bY (ba K rfl Qam Qa1 Qa0 b_ (pv 2) (aa (bc (aa (pv 3) (aa (pv 5) ae))) ae)))) aV)))))
   (aj (aF (pv 2))))),?_⟩
 obtain ⟨wt,ws,band,rfl,jW,hf,hw,hb,q⟩:=h
 have hs:=Zs1
 walk_at "wk"
 intro p1 n1
 refine ⟨_,rfl,wt,rfl,⟨_,bE.of ((ao.upd n1) _ _ jW)⟩,?_⟩
 refine jG (K:=K) (a:=wt) (xs:=iR ws) (fun j σ H'=> ∃(ps:List Pr) (cv wv pv lv:Option V),σ=[some (.ref wt),some (.str (S [band])),some (.ref p1),cv,wv,pv,lv]/\H' p1=some (.lst (jn ps))/\(∀p∈ps,iS H' p)/\ps.map Pr.pair=bO band ws j/\ps.length<=12*j/\ao H H')
  ⟨[],none,none,none,none,rfl,ag,fun _ h=>absurd h Qae,rfl,Qaa _,ao.upd n1⟩ (fun j σ H' _ ⟨_,_,_,_,_,_,_,_,_,_,h⟩=>bE.of (h _ _ jW)) ?_ ?_
 ·rintro j x σ H1 T hx ⟨ps,cv,wv,pv,lv,rfl,hp,qE,g9,iT,s1⟩ nT
  have hj:j<ws.length:=by
   have:=(LK.mp hx).1
   rwa [bG]at this
  rw[jd hj]at hx
  cases hx
  have Hm:ws[j]? =some ws[j]:=LJ hj
  obtain ⟨yC,kA⟩:=hw _ (Qay hj)
  generalize ws[j]=w at Hm yC kA ⊢
  walk_at"r"
  have sT:=ao.upd (o:= .tup [.int j, .str (S w)]) nT
  refine ⟨_,rfl,w,rfl,?_⟩
  refine v_ (l:=w) (fun m σ H'=> ∃(us:List Pr) (pv lv:Option V),σ=[some (.ref wt),some (.str (S [band])),some (.ref p1),some (.int j),some (.str (S w)),pv,lv]/\H' p1=some (.lst (jn us))/\(∀p∈us,iS H' p)/\us.map Pr.pair=bO band ws j++eH band j w m/\us.length<=12*j+m/\ao H H')
   ⟨ps,pv,lv,rfl,sT _ _ hp,fun p xS=>(qE p xS).same sT,by rw[g9];show _=_++[];rw[Qaw],by lia,s1.trans sT⟩ ?_ ?_
  ·rintro m l σ H2 T2 hm ⟨us,Y4,Y5,rfl,kz,jE,jC,qN,s2⟩ Vl
   have Y6:m<w.length:=(LK.mp hm).1
   have N8:=yC l (Qab hm)
   have es:=p7 (band:=band) (c:=j) hm
   have Tc:=ao.upd (o:= .tup [.int m, .str (S [l])]) Vl
   refine ⟨T2,_,rfl,bE.of ag,rfl,_,_,rfl,_,_,rfl,rfl,?_⟩
   refine ⟨_,rfl,rfl,l,rfl,rfl,N8.lt,_,rfl,[PyProof.Rows.lo1 l],[band],rfl,rfl,_,rfl,?_⟩
   have ev:decide ([PyProof.Rows.lo1 l]=[band])=xX band l:=by rw[<-FN hb N8];simp
   rw[ev]
   have NA:=Tc _ _ kz
   walk_at"i"
   ·rw[if_pos z]at es
    refine ⟨_,rfl, .inl ⟨rfl,_,aZ.of NA⟩,_,rfl,_,rfl,by show 2<=sizeLine;decide,fun t nt=>?_⟩
    have DO:=(ao.upd (o:= .tup [.int j, .int m]) nt) _ _ NA
    have s3:=Tc.trans (ao.upd (o:= .tup [.int j, .int m]) nt)
    refine ⟨p1,_,_,rfl,rfl,DO,by rw[fN];lia,?_⟩
    refine ⟨us++[⟨t,j,m⟩],_,_,rfl,by rw[ag];exact congrArg (fun x=>some (HO.lst x)) (xm us ⟨t,j,m⟩),fun p xS=>?_,by rw[XN,jC,es,Qb9];rfl,by rw[V7];show us.length+1<=_;lia,fun a o ea=>by rw[az (ax ea n1)];exact s3 _ _ (s2 a o ea)⟩
    rcases Qaf.mp xS with g | g
    ·exact ((jE p g).same s3).ts (aR.mf DO)
    ·have e2:=V8.mp g
     subst e2
     exact iS.ts (H:=upd (upd H2 T2 (.tup [.int m, .str (S [l])])) t (.tup [.int j, .int m])) ⟨ag,by show j<1000;lia,by show m<1000;lia⟩ (aR.mf DO)
   ·rw[if_neg z,Qaw]at es
    exact ⟨us,_,_,rfl,NA,fun p xS=>(jE p xS).same Tc,by rw[jC,es],by lia,s2.trans Tc⟩
  ·rintro σ H2 ⟨us,Y4,Y5,rfl,kz,jE,jC,qN,s2⟩
   exact ⟨us,_,_,_,_,rfl,kz,jE,by rw[jC,gu Hm],by lia,s2⟩
 ·rintro σ H1 ⟨ps,cv,wv,pv,lv,rfl,hp,qE,g9,iT,s1⟩
  rw[bG]at g9
  exact ⟨_,rfl,q p1 ps H1 n1 hp qE g9 s1⟩
theorem Dy:bF P w K mg base fD 1 gK qx ["self","strand","way","place"] (sU K aL):=by
 refine T.Nm.ok Ds (fun vs H Q E h=>zL h) (fun _ _ _ _ H vs Q E hr h=>?_)
 refine ⟨_,(ah (i0 (pv 0) (pv 1) rfl)
   (ah (i0 (pv 0) (pv 2) rfl)
   (aj (i0 (pv 0) (pv 3) rfl)))),?_⟩
 obtain ⟨x,dx,t,w',p,rfl,hx,q⟩:=h
 refine ⟨_,rfl,_,rfl,x,aL,dx,_,rfl,hx,T.dJ,T.n_Seen_strand,by show 0<1000;decide,?_⟩
 refine ⟨_,rfl,_,rfl,x,aL,dx,_,rfl,ag,T.dJ,T.n_Seen_way,Qbc (da _ _ _) (by show 0+1<1000;decide),?_⟩
 refine ⟨_,rfl,_,rfl,x,aL,dx,_,rfl,ag,T.dJ,T.n_Seen_place,Qbc (da _ _ _) (Qbc (Qbw (da _ _ _)) (by show 0+1+1<1000;decide)),?_⟩
 exact q _ ag fun b o e z=>by rw[az z,az z,az z];exact e
theorem qF:bF P w K mg base fD 3 Oq OZ ["words","ways","strand"] (ju K aY aL):=by
 have xI:=Dy (P:=P) (w:=w) (base:=base) T
 refine T.SI.fn.ok gg (fun vs H Q E h=>nU h) (fun _ _ _ _ H vs Q E hr h=>?_)
 refine ⟨_,(ah (aq (i:=3) gg.nd rfl (Or.inl rfl) (aN (bQ K rfl) (pv 0) (aN (bQ K rfl) (pv 2) ai (fun _ _=>rfl)) (fun _ _=>rfl)))
   (ah (aq (i:=4) gg.nd rfl (Or.inl rfl) (aN (bQ K rfl) (pv 2) ai (fun _ _=>rfl)))
   (ah (bC (eM (h_ K rfl Qao Qei Qeh kg (aN gB (pv 3) (pv 4) (fun _ _=>rfl)))) (aj (aF (n6 T.Gz xI (hr.mono (by decide)) rfl T.Gy T.GA .nil ay (aa (pv 2) (aa (aN (bQ K rfl) (aN (bu K rfl) (pv 1) (aN (bQ K rfl) (pv 2) ai (fun _ _=>rfl)) (fun _ _=>rfl)) ai (fun _ _=>rfl)) (aa (pv 4) ae)))))) aV)
   (aj (aF (n6 T.Gz xI (hr.mono (by decide)) rfl T.Gy T.GA .nil ay (aa (pv 2) (aa (aN (bQ K rfl) (aN (bu K rfl) (pv 1) (aN (bQ K rfl) (pv 2) ai (fun _ _=>rfl)) (fun _ _=>rfl)) ai (fun _ _=>rfl)) (aa (av b6 (av b6 (ar aH rfl T.z_len Qac (aa (pv 3) ae)) ai) (pv 4)) ae))))))))),?_⟩
 obtain ⟨y,lg,wt,vt,st,w',ws,lS,p,c,i,rfl,hy,jW,Td,nC,hw,hp,ok,hi,q⟩:=h
 have hs:=Zs1
 have kA:=ok.on.uz
 have WV:=ok.on.lz
 have LQ:=ok.on.sw
 have h8:(rd w' i)<128:=(hy.lt _ (LQ.rd _)).lt
 have hc:(iR ws)[c]? =some (V.str (S w')):=by
  have hl:=(LK.mp hw).1
  rw[jd hl,(LK.mp hw).2]
 refine ⟨_,rfl,_,rfl,st,_,0,_,rfl,rfl,bE.of nC,rfl,wt,_,_,_,rfl,rfl,bE.of jW,bL hc,?_⟩
 refine ⟨_,rfl,st,_,1,_,rfl,rfl,bE.of nC,rfl,?_⟩
 refine ⟨_,rfl,_,rfl,w',_,_,rfl,rfl,by lia,by rw[gU (by lia) (by lia)],?_⟩
 have made: ∀(x dx:Addr) (H':Hp) (t w2:Addr) (pl:Nat),H x=none->H dx=none->dx≠x->aO x (L2.upd (L2.upd H dx (.own x)) x (.ins aL dx [])) H'->ao H H':=fun x dx H' t w2 pl nx M5 ne sm a o e=>by
  refine sm a o ?_ (ax e nx)
  rw[az (ax e nx),az (ax e M5)]
  exact e
 refine ⟨rfl,_,rfl,rfl,h8,?_⟩
 walk_at "rd"
 walk_at"i"
 ·refine ⟨_,rfl,_,rfl,_,rfl,st,_,0,_,rfl,rfl,bE.of nC,rfl,vt,_,_,_,rfl,rfl,aZ.of Td,bL (Gb hp),p.t,_,0,_,rfl,rfl,bE.of ok.tp,rfl,_,rfl,fun x dx nx M5 ne=>⟨x,dx,st,p.a,i,rfl,ag,fun H' hx sm=>⟨rfl,?_⟩⟩⟩
  have NB:=made x dx H' st p.a i nx M5 ne sm
  exact q ⟨x,st,p.a,c,i,w',i,p.r⟩ H' ⟨rfl,rfl,by rw[if_pos z],by rw[if_pos z]⟩ rfl ⟨⟨dx,hx⟩,NB _ _ nC,ok.on.same NB,hi⟩ nx NB
 ·have ei:(w'.length:Int) - 1 - i=((w'.length - 1 - i:Nat):Int):=by lia
  refine ⟨_,rfl,_,rfl,_,rfl,st,_,0,_,rfl,rfl,bE.of nC,rfl,vt,_,_,_,rfl,rfl,aZ.of Td,bL (Gb hp),p.t,_,1,_,rfl,rfl,bE.of ok.tp,rfl,_,rfl,w',rfl,by lia,_,_,rfl,rfl,_,rfl,_,_,rfl,rfl,fun x dx nx M5 ne=>⟨x,dx,st,p.b,w'.length - 1 - i,by rw[<-ei];rfl,ag,fun H' hx sm=>⟨rfl,?_⟩⟩⟩
  have NB:=made x dx H' st p.b 0 nx M5 ne sm
  exact q ⟨x,st,p.b,c,i,gM w',w'.length - 1 - i,p.q⟩ H' ⟨rfl,rfl,by rw[if_neg z],by rw[if_neg z]⟩ rfl ⟨⟨dx,hx⟩,NB _ _ nC,ok.bk.same NB,by show w'.length - 1 - i<(gM w').length;rw[cC];lia⟩ nx NB
theorem nX:bF P w K mg base fD 4 Oo OY ["order","seen"] (iM K aY aL):=by
 have rh:=qC (P:=P) (w:=w) (base:=base) T
 refine T.SH.fn.ok cg (fun vs H Q E h=>mN h) (fun _ _ _ _ H vs Q E hr h=>?_)
 refine ⟨_,(ah (aq (i:=2) cg.nd rfl (Or.inl rfl) ai)
   (ah (aq (i:=3) cg.nd rfl (Or.inl rfl) (ar (aT K rfl) rfl T.z_len Qac (aa (pv 0) ae)))
   (ah (dR PassesOwn.never (aD gj (pv 2) (pv 3) (aE _)) (ah (aq (i:=4) cg.nd rfl (Or.inl rfl) (av dA (av aW (pv 2) (pv 3)) ai))
   (aj (bC (eM (ak rh (hr.mono (by decide)) rfl T.SG.mg T.SG.fn.kp T.SG.bd .nil ay (aa (aN (bu K rfl) (pv 0) (pv 4) (fun _ _=>rfl)) (aa (pv 1) ae)))) (aj (aq (i:=2) cg.nd rfl (Or.inl rfl) (av aW (pv 4) ai))) (aj (aq (i:=3) cg.nd rfl (Or.inl rfl) (pv 4)))))))
   (aj (aF (pv 2)))))),?_⟩
 obtain ⟨y,lg,a,ss,t1,rfl,hy,hz,ha,GJ,ht,up,hn,q⟩:=h
 have hs:=Zs1
 have key:=Qcl.mp up
 refine ⟨_,rfl,a,_,rfl, .inl (aZ.of ha),?_⟩
 walk_at "rd"
 refine ⟨fun m σ H'=> ∃(lo hi:Nat) (mv:Option V),σ=[some (.ref a),some (.ref t1.a),some (.int lo),some (.int hi),mv]/\m=hi - lo/\lo<=hi/\hi<=ss.length/\(∀k s,ss[k]? =some s->k<lo->bg (jV y (2*lg) s) (jV y (2*lg) t1)=true)/\(∀k s,ss[k]? =some s->hi<=k->bg (jV y (2*lg) s) (jV y (2*lg) t1)=false)/\ao H H',⟨_,0,ss.length,none,by rw[lM];rfl,rfl,Qaa _,Sq _,fun k s _ hk=>absurd hk (Qco _),(fun k s e hk=>by rw[Qck hk]at e;cases e),ao.refl H⟩,?_⟩
 rintro m σ H2 ⟨lo,hi,mv,rfl,rfl,h1,h2,h3,h4,s2⟩
 walk_at "rd"
 walk_at"i"
 ·have z1:(lo:Int)<hi:=of_decide_eq_true z
  have em:(((lo:Int)+hi) / 2)=(((lo+hi) / 2:Nat):Int):=by lia
  have hm:(lo+hi) / 2<ss.length:=by lia
  have hg:ss[(lo+hi) / 2]? =some ss[(lo+hi) / 2]:=LJ hm
  obtain ⟨ok,e0⟩:=GJ _ (Qay hm)
  walk_at "rd"
  refine ⟨a,_,((lo:Int)+hi) / 2,_,rfl,rfl,aZ.of (s2 _ _ ha),by rw[em];exact bL (M1 hg),_,rfl,y,lg,ss[(lo+hi) / 2],t1,rfl,hy,hz,ok.same s2,ht.same s2,e0,fun H3 s3=>?_⟩
  walk_at "rd"
  refine bp (fun y1=>?_) (fun y1=>?_)
  ·walk_at "rd"
   have e1:((lo:Int)+hi) / 2+1=(((lo+hi) / 2+1:Nat):Int):=by lia
   refine ⟨hi - ((lo+hi) / 2+1),by lia,(lo+hi) / 2+1,hi,_,by rw[<-e1];rfl,rfl,by lia,h2,fun k s e hk=>?_,h4,s2.trans s3⟩
   by_cases q1:k=(lo+hi) / 2
   ·subst q1
    rw[hg]at e
    cases e
    exact y1
   ·obtain ⟨yE,ek⟩:=LK.mp e
    have RP:=key k ((lo+hi) / 2) yE hm (by lia)
    rw[ek]at RP
    cases r:bg (jV y (2*lg) s) (jV y (2*lg) t1)
    ·have:=L2.uw _ _ _ r RP
     rw[this]at y1
     cases y1
    ·rfl
  ·walk_at "rd"
   have y2:bg (jV y (2*lg) ss[(lo+hi) / 2]) (jV y (2*lg) t1)=false:=by simpa using y1
   refine ⟨(lo+hi) / 2 - lo,by lia,lo,(lo+hi) / 2,_,by rw[<-em];rfl,rfl,by lia,by lia,h3,fun k s e hk=>?_,s2.trans s3⟩
   by_cases q1:k=(lo+hi) / 2
   ·subst q1
    rw[hg]at e
    cases e
    exact y2
   ·obtain ⟨yE,ek⟩:=LK.mp e
    have RP:=key ((lo+hi) / 2) k hm yE (by lia)
    rw[ek]at RP
    exact L2.uw _ _ _ y2 RP
 ·have z1: ¬(lo:Int)<hi:=fun w=>z (decide_eq_true w)
  walk_at "rd"
  have e:hi=lo:=by lia
  subst e
  exact q hi H2 h2 h3 h4 s2
theorem rj:bF P w K mg base fD 5 Ot O0 ["words","ways","band"] (j_ K aY aL):=by
 have vy:=q_ (P:=P) (w:=w) (base:=base) T
 have rk:=qF (P:=P) (w:=w) (base:=base) T
 have qG:=nX (P:=P) (w:=w) (base:=base) T
 refine T.SJ.fn.ok fh (fun vs H Q E h=>qe h) (fun _ _ _ _ H vs Q E hr h=>?_)
 refine ⟨_,(ah (aq (i:=3) fh.nd rfl (Or.inl rfl) (cu ae))
   (ah (cD PassesOwn.never rfl (fi K rfl (ak vy (hr.mono (by decide)) rfl T.F4.mg T.F4.fn.kp T.F4.bd .nil ay (aa (pv 0) (aa (pv 2) ae)))) (aC (i:=4) fh.nd rfl (Or.inl rfl)) (ah (aq (i:=5) fh.nd rfl (Or.inl rfl) (ak rk (hr.mono (by decide)) rfl T.SI.mg T.SI.fn.kp T.SI.bd .nil ay (aa (pv 0) (aa (pv 1) (aa (pv 4) ae)))))
   (aj (bY (ba K rfl Qam PySem.F.slot_list_insert PySem.F.type_list_insert Cw (pv 3) (aa (ak qG (hr.mono (by decide)) rfl T.SH.mg T.SH.fn.kp T.SH.bd .nil ay (aa (pv 3) (aa (pv 5) ae))) (aa (pv 5) ae)))))))
   (aj (aF (cF (eB K rfl) rfl T.z_tuple boot_tuple (aa (bA ["seen"] [none] (fi K rfl (pv 3)) trivial (fun _ _ _ _=>(aC (i:=0) (by decide+kernel:List.Nodup (["seen"]:List Str)) rfl (Or.inl rfl))) (fun _ _ _ _=>dI) (fun _ _ _ _=>(bM K rfl (pv 0) rfl))) ae)))))),?_⟩
 obtain ⟨y,lg,wt,vt,ws,lS,band,rfl,hy,hz,jW,Vm,x8,hb,Td,yC,NC,q⟩:=h
 have hs:=Zs1
 walk_at "rd"
 intro a na
 have s0:=ao.upd (o:= .lst []) na
 refine ⟨_,rfl,_,rfl,wt,ws,band,rfl,s0 _ _ jW,Vm,fun w hw=>⟨fun c hc=>hy.lt c ((x8 w hw).1.bP c hc),(x8 w hw).2⟩,hb,fun b ps H1 nb ux qE g9 s1=>?_⟩
 have JL:=s0.trans s1
 have Y7:b≠a:=fun z=>by rw[z,ag]at nb;cases nb
 have Y8:ps.length<=48:=by
  have h1:(ps.map Pr.pair).length<=48:=by
   rw[g9]
   have:=jv band (fun w hw=>(x8 w hw).2) ws.length (Sq _)
   lia
  rwa [V6]at h1
 have pin: ∀p∈ps, ∃w,ws[p.c]? =some w/\p.i<w.length/\xX band (rd w p.i)=true:=fun p hp=>by
  have hm:p.pair∈bO band ws ws.length:=by rw[<-g9];exact Qav.mpr ⟨p,hp,rfl⟩
  exact zR hm
 refine ⟨b,rfl,⟨_,aZ.of ux⟩,?_⟩
 refine kD (K:=K) (a:=b) (xs:=jn ps) (fun k σ H'=> ∃(ss:List Sn) (sv nv:Option V),σ=[some (.ref wt),some (.ref vt),some (.str (S [band])),some (.ref a),sv,nv]/\H' a=some (.lst (Bt ss))/\(∀s∈ss,jq H' aY aL y lg s/\rd s.u s.p=band/\ ∃w,ws[s.c]? =some w/\zO w s.c s.i s/\s.i<w.length)/\(ss.map fun s=>(s.c,s.i)).Perm ((ps.take k).map Pr.pair)/\De y (2*lg) ss/\aO a H1 H')
  ⟨[],none,none,rfl,s1 _ _ ag,fun _ h=>absurd h Qae, .nil,List.Pairwise.nil,aO.refl _ _⟩ (fun k σ H' _ ⟨_,_,_,_,_,_,_,_,h⟩=>aZ.of (h _ _ ux Y7)) ?_ ?_
 ·rintro k x σ H2 hx ⟨ss,sv,nv,rfl,ha,GJ,kB,Pz,s2⟩
  show yh _ _ _ _ _
  refine nh fun Dx Nt=>?_
  obtain ⟨p,hp,rfl⟩:=zE hx
  have hk:k<ps.length:=(LK.mp hp).1
  have RQ:=Qab hp
  obtain ⟨w,hw,hi,ho⟩:=pin p RQ
  have Y9:=Qab hw
  have Kn:p.c<lS.length:=by rw[yC];exact (LK.mp hw).1
  have bZ:=NC p.c w lS[p.c] hw (LJ Kn)
  have go: ∀c o,H c=some o->H2 c=some o:=fun c o e=>s2 _ _ (JL c o e) (ax e na)
  have Vn:=(qE p RQ).tp
  have Y_:p.t≠a:=fun z=>by rw[z,s1 _ _ ag]at Vn;cases Vn
  have Vo:=s2 _ _ Vn Y_
  have Za:ss.length=k:=by
   have:=kB.length_eq
   rw[V6,V6,Qak]at this
   lia
  refine ⟨_,rfl,_,rfl,_,rfl,y,lg,wt,vt,p.t,w,ws,lS,lS[p.c],p.c,p.i,rfl,hy,go _ _ jW,go _ _ Td,Vo,hw,LJ Kn,bZ.same go,hi,fun s H3 Ha nC WW hnn s3=>?_⟩
  have Ez:=Ha.band hy (x8 w Y9).1 hi hb ho
  refine ⟨_,rfl, .inl ⟨rfl,_,aZ.of (s3 _ _ ha)⟩,_,rfl,_,rfl,y,lg,a,ss,s,rfl,hy,hz,s3 _ _ ha,fun t ht=>⟨(GJ t ht).1.same s3,by rw[(GJ t ht).2.1,Ez]⟩,WW,Pz,by lia,fun n H4 hn h1 h2 s4=>?_⟩
  have WX:=s4 _ _ (s3 _ _ ha)
  refine ⟨_,rfl,a,_,n,_,rfl,rfl,WX,by rw[lM];exact hn,by rw[lM];lia,?_⟩
  have e1:(Bt ss).take n++V.ref s.a::(Bt ss).drop n=Bt (ss.take n++s::ss.drop n):=by
   unfold Bt
   rw[XN,Qej,Qa7,List.map_drop]
  rw[e1]
  have su: ∀t,jq H4 aY aL y lg t->jq (L2.upd H4 a (.lst (Bt (ss.take n++s::ss.drop n)))) aY aL y lg t:=fun t ot=>by
   have ne: ∀{c:Addr} {o:HO},H4 c=some o->(∀l,o≠ .lst l)->c≠a:=fun {c o} e no z=>by rw[z,WX]at e;exact no _ (Qan e).symm
   obtain ⟨dx,eo⟩:=ot.ob
   obtain ⟨dw,ew⟩:=ot.wy.ob
   exact ⟨⟨dx,by rw[az (ne eo (fun l z=>by cases z))];exact eo⟩,by rw[az (ne ot.st (fun l z=>by cases z))];exact ot.st,⟨⟨dw,by rw[az (ne ew (fun l z=>by cases z))];exact ew⟩,ot.wy.sw,ot.wy.uz,ot.wy.lz,ot.wy.rt⟩,ot.pz⟩
  refine Nt _ _ ⟨ss.take n++s::ss.drop n,_,_,rfl,ag,fun t ht=>?_,?_,M3 Pz h1 h2,fun c o e z=>by rw[az z];exact s4 _ _ (s3 _ _ (s2 c o e z))⟩
  ·have:t=s\/t∈ss:=by
    rcases Qaf.mp ht with r | r
    ·exact .inr (Qbx r)
    ·rcases Qah.mp r with r | r
     ·exact .inl r
     ·exact .inr (Qd2 r)
   rcases this with r | r
   ·subst r
    refine ⟨su _ (WW.same s4),Ez,w,?_,?_,?_⟩
    ·rw[Ha.ec];exact hw
    ·rw[Ha.ec,Ha.ei];exact Ha
    ·rw[Ha.ei];exact hi
   ·exact ⟨su _ (((GJ t r).1.same s3).same s4),(GJ t r).2⟩
  ·rw[XN,Qa7, <-take_snoc hp,XN,Ha.ec,Ha.ei]
   have p1:(ss.take n).map (fun s=>(s.c,s.i))++(p.c,p.i)::(ss.drop n).map (fun s=>(s.c,s.i)) |>.Perm ((p.c,p.i)::ss.map fun s=>(s.c,s.i)):=by
    refine List.perm_middle.trans (List.Perm.cons _ ?_)
    rw[<-XN,Qbn]
   exact p1.trans ((List.Perm.cons _ kB).trans (List.perm_append_singleton _ _).symm)
 ·rintro σ H2 ⟨ss,sv,nv,rfl,ha,GJ,kB,Pz,s2⟩
  rw[fN,Qbb,g9]at kB
  have Za:ss.length<=48:=by
   have:=kB.length_eq
   rw[V6, <-g9,V6]at this
   lia
  have DN:ao H H2:=fun c o e=>s2 _ _ (JL c o e) (ax e na)
  refine ⟨_,rfl,a,rfl,⟨_,aZ.of ha⟩,?_⟩
  refine jF (K:=K) (a:=a) (xs:=Bt ss) (fun i acc H'=>H'=H2/\acc=(ss.take i).map fun s=>V.ref s.t) (by rw[lM];lia) (fun i acc H' h=>by rw[h.1];exact aZ.of ha) ⟨rfl,rfl⟩ ?_ ?_
  ·rintro i x acc H3 Nx hi hx hl ⟨rfl,rfl⟩ nx
   obtain ⟨t,ht,rfl⟩:=Ju hx
   obtain ⟨dx,e⟩:=(GJ t (Qab ht)).1.ob
   refine ⟨trivial,cL ⟨_,rfl,t.a,aL,dx,_,_,rfl,e,T.dJ,T.n_Seen_strand,sS,nx _ _ (by simpa using hl) ⟨rfl,?_⟩⟩⟩
   rw[<-take_snoc ht,XN]
   rfl
  ·rintro acc H3 D hl ⟨rfl,rfl⟩ hD
   rw[lM,Qbb]
   refine ⟨D,_,rfl, .inl ⟨aZ.of ag,fun t nt=>?_⟩⟩
   have sA:=(ao.upd (o:= .lst (ss.map fun s=>V.ref s.t)) hD).trans (ao.upd (o:= .tup (ss.map fun s=>V.ref s.t)) nt)
   have ep:(ss.map fun s=>(⟨s.t,s.c,s.i⟩:Pr)).map Pr.pair=ss.map fun s=>(s.c,s.i):=by rw[Qbt];rfl
   refine q t (ss.map fun s=>(⟨s.t,s.c,s.i⟩:Pr)) _ (ao.free (DN.trans (ao.upd hD)) nt) (by rw[ag];unfold jn;rw[Qbt];rfl) (fun p hp=>?_) (by rw[ep];exact kB) ?_ (DN.trans sA)
   ·obtain ⟨s,QF,rfl⟩:=Qav.mp hp
    obtain ⟨ok,_,w,hw,_,hi⟩:=GJ s QF
    have h1:=(LK.mp hw).1
    have h2:=(x8 w (Qab hw)).2
    exact ⟨sA _ _ ok.st,by show s.c<1000;lia,by show s.i<1000;lia⟩
   ·rw[ep]
    unfold zQ
    rw[Qbg]
    refine Qdh (fun {s t} h1 h2 h=>?_) Pz
    obtain ⟨o1,_,w1,e1,i1,l1⟩:=GJ s h1
    obtain ⟨o2,_,w2,e2,i2,l2⟩:=GJ t h2
    have g1:ws.getD s.c []=w1:=by rw[XO,e1];rfl
    have g2:ws.getD t.c []=w2:=by rw[XO,e2];rfl
    rw[<-Bu hy (x8 w1 (Qab e1)).1 l1 g1 i1 o1.wy.rt, <-Bu hy (x8 w2 (Qab e2)).1 l2 g2 i2 o2.wy.rt]
    exact h
theorem vA:bF P w K mg base fD 2 f6 d6 ["word"] (lh K):=by
 have dP:=gz (P:=P) (w:=w) (base:=base) T
 refine T.F6.fn.ok iH (fun vs H Q E h=>qX h) (fun _ _ _ _ H vs Q E hr h=>?_)
 refine ⟨_,(ah (aq (i:=1) iH.nd rfl (Or.inl rfl) (cu ae))
   (ah (cD PassesOwn.never rfl (oX (pv 0)) (aC (i:=2) iH.nd rfl (Or.inl rfl)) (aj (bC (PW.pt (eN (HY K rfl (pv 1)) (dF (aD gC (aN (bu K rfl) (pv 1) (gi dZ ai) (fun _ _=>rfl)) (ak dP (hr.mono (by decide)) rfl T.F0.mg T.F0.fn.kp T.F0.bd .nil ay (aa (pv 2) ae)) (aE _))))) (aj (bY (h_ K rfl Qam Qdv Qdu LF (pv 1)))) (aj (bY (ba K rfl Qam Qa1 Qa0 b_ (pv 1) (aa (pv 2) ae)))))))
   (aj (aF (ba K rfl Qao Qci Qch (gS K rfl) (i4 [] (by decide+kernel)) (aa (pv 1) ae)))))),?_⟩
 obtain ⟨l,rfl,hl,hz,q⟩:=h
 have hs:=Zs1
 walk_at "rd"
 intro p1 n1
 refine ⟨_,rfl,l,rfl,?_⟩
 refine Av (xs:=bW l) (fun i σ H'=> ∃lv,σ=[some (.str (S l)),some (.ref p1),lv]/\H' p1=some (.lst (bW (red (l.take i))))/\aO p1 H H') ⟨none,rfl,ag,aO.of (ao.upd n1)⟩ ?_ ?_
 ·rintro i x σ H1 hx ⟨lv,rfl,hp,s1⟩
  obtain ⟨c,hc,rfl⟩:=e_ hx
  have hi:i<l.length:=(LK.mp hc).1
  have h8:c<128:=(hl c (Qab hc)).lt
  have UW:(red (l.take i)).length<=1000:=Qa8 (k_ _) (by rw[Qak];lia)
  have fin: ∀st,st=fH (red (l.take i)) c-> ∃lv,[some (V.str (S l)),some (V.ref p1),some (V.str (S [c]))]=[some (V.str (S l)),some (.ref p1),lv]/\(upd H1 p1 (.lst (bW st))) p1=some (.lst (bW (red (l.take (i+1)))))/\aO p1 H (upd H1 p1 (.lst (bW st))):=fun st e=>
   ⟨_,rfl,by rw[ag,ER hc,e],fun b o e z=>by rw[az z];exact s1 b o e z⟩
  refine ⟨_,rfl,p1,_,rfl,aZ.of hp,?_⟩
  rcases snoc_cases (red (l.take i)) with e | ⟨m,a,e⟩
  ·rw[e]at hp ⊢
   refine uC rfl ?_
   refine kf ?_
   refine ⟨_,rfl, .inl ⟨rfl,_,aZ.of hp⟩,_,rfl,p1,_,_,rfl,rfl,hp,by rw[aK];exact (by decide:(0:Nat)<sizeLine),?_⟩
   rw[cR]
   refine fin _ ?_
   rw[e]
   unfold fH
   rw[if_neg (by simp)]
  ·rw[e]at hp UW ⊢
   have hml:m.length<=1000:=by simp at UW;lia
   rw[<-cR]at hp ⊢
   refine Iy (by simp) ?_
   refine ⟨_,rfl,_,rfl,p1,_,_,_,rfl,rfl,aZ.of hp,D5 _ _,_,rfl,c,rfl,h8,[a],[aB c],rfl,rfl,_,rfl,bp (fun z=>?_) (fun z=>?_)⟩
   ·have ea:a=aB c:=by simpa using of_decide_eq_true z
    refine ⟨_,rfl, .inl ⟨rfl,_,aZ.of hp⟩,p1,_,V.str (S [a]),rfl,rfl,hp,by simp,?_⟩
    rw[Qe1]
    refine fin _ ?_
    rw[e]
    unfold fH
    rw[if_pos (by simp[ea]),Qe1]
   ·have ea:a≠aB c:=fun w=>z (decide_eq_true (by rw[w]))
    refine ⟨_,rfl, .inl ⟨rfl,_,aZ.of hp⟩,_,rfl,p1,_,_,rfl,rfl,hp,by rw[V7,aK];show m.length+1<sizeLine;lia,?_⟩
    rw[cR,cR]
    refine fin _ ?_
    rw[e]
    unfold fH
    rw[if_neg (by simpa using ea)]
 ·rintro σ H1 ⟨lv,rfl,hp,s1⟩
  rw[kZ]at hp
  refine ⟨rfl,_,rfl,p1,(red l).map fun c=>[c],rfl,rfl,aZ.of (by rw[<-dj];exact hp),?_,?_⟩
  ·rw[y8]
   have:=k_ l
   lia
  ·rw[pG]
   exact q _ (fun b o e=>s1 b o e (ax e n1))
theorem xJ:bF P w K mg base fD 3 f7 d7 ["word"] (ni K):=by
 have xK:=vA (P:=P) (w:=w) (base:=base) T
 have dP:=gz (P:=P) (w:=w) (base:=base) T
 refine T.F7.fn.ok dW (fun vs H Q E h=>uD h) (fun _ _ _ _ H vs Q E hr h=>?_)
 refine ⟨_,(ah (aq (i:=1) dW.nd rfl (Or.inl rfl) (ak xK (hr.mono (by decide)) rfl T.F6.mg T.F6.fn.kp T.F6.bd .nil ay (aa (pv 0) ae)))
   (ah (aq (i:=2) dW.nd rfl (Or.inl rfl) ai)
   (ah (aq (i:=3) dW.nd rfl (Or.inl rfl) (ar aH rfl T.z_len Qac (aa (pv 1) ae)))
   (ah (dR PassesOwn.never (PW.pt (eN (aD DY (av b6 (pv 3) (pv 2)) ai (aE _)) (dF (aD gC (aN gB (pv 1) (pv 2) (fun _ _=>rfl)) (ak dP (hr.mono (by decide)) rfl T.F0.mg T.F0.fn.kp T.F0.bd .nil ay (aa (aN gB (pv 1) (av b6 (pv 3) ai) (fun _ _=>rfl)) ae)) (aE _))))) (ah (lU (i:=2) dW.nd rfl (Or.inl rfl) ai yk)
   (aj (lU (i:=3) dW.nd rfl (Or.inl rfl) ai Lk))))
   (aj (aF (bh hZ (pv 1) (bf (pv 2)) (bf (pv 3))))))))),?_⟩
 obtain ⟨l,rfl,hl,hz,q⟩:=h
 have hs:=Zs1
 refine ⟨_,rfl,l,rfl,hl,hz,fun H1 s1=>?_⟩
 have Kq:=k_ l
 have cE:=Ms hl
 generalize red l=r at Kq cE q ⊢
 have WY:r.length<=sizeLine:=by lia
 walk_at "rd"
 refine ⟨fun m σ H'=> ∃(a e:Nat),σ=[some (.str (S l)),some (.str (S r)),some (.int a),some (.int e)]/\m=e - a/\a<=e/\e<=r.length/\core (DH r a e)=core r/\H'=H1,⟨_,0,r.length,rfl,rfl,Qaa _,Sq _,by rw[IC],rfl⟩,?_⟩
 rintro m σ H2 ⟨a,e,rfl,rfl,h1,h2,hc,rfl⟩
 have fin:core (DH r a e)=DH r a e->Q (.str (S (cut r (some (a:Int)) (some (e:Int))))) H2:=fun z=>by
  have e1:cut r (some (a:Int)) (some (e:Int))=DH r a e:=by
   unfold cut DH
   rw[HT.gk,HT.gk]
   have e1:min a r.length=a:=by lia
   have e2:min e r.length=e:=by lia
   rw[e1,e2]
  rw[e1, <-z,hc]
  exact q H2 s1
 walk_at "rd"
 walk_at"i"
 ·have z1:(2:Int)<=(e:Int) - (a:Int):=of_decide_eq_true z
  have ha:a<r.length:=by lia
  have he:e - 1<r.length:=by lia
  have g0:oM r (a:Int)=some r[a]:=bL (LJ ha)
  have g1:oM r ((e:Int) - 1)=some r[e - 1]:=by
   have:(e:Int) - 1=((e - 1:Nat):Int):=by lia
   rw[this];exact bL (LJ he)
  have h8:r[e - 1]<128:=(cE _ (Qay he)).lt
  have hw:=Mt (l:=r) (s:=a) (e:=e) (by lia) h2
  refine ⟨_,rfl,_,rfl,r,_,_,rfl,rfl,WY,g0,?_⟩
  walk_at "rd"
  refine ⟨r,_,_,rfl,rfl,WY,g1,?_⟩
  walk_at "rd"
  refine bp (fun y=>?_) (fun y=>?_)
  ·have ey:r[a]=aB r[e - 1]:=by simpa using of_decide_eq_true y
   walk_at "rd"
   refine ⟨(e - 1) - (a+1),by lia,a+1,e - 1,?_,rfl,by lia,by lia,?_,rfl⟩
   ·have e1:(a:Int)+1=((a+1:Nat):Int):=by lia
    have e2:(e:Int) - 1=((e - 1:Nat):Int):=by lia
    rw[<-e1, <-e2]
    rfl
   ·rw[<-hc,hw,AQ ey]
  ·have ey:r[a]≠aB r[e - 1]:=fun w=>y (decide_eq_true (by rw[w]))
   walk_at "rd"
   exact fin (by rw[hw,mj ey])
 ·have z1: ¬(2:Int)<=(e:Int) - (a:Int):=fun w=>z (decide_eq_true w)
  walk_at "rd"
  exact fin (il (by rw[IB h2];lia))
theorem BH:bF P w K mg base fD 4 f8 d8 ["word"] (AR K):=by
 have Ac:=xJ (P:=P) (w:=w) (base:=base) T
 refine T.F8.fn.ok jP (fun vs H Q E h=>EU h) (fun _ _ _ _ H vs Q E hr h=>?_)
 refine ⟨_,(ah (aq (i:=1) jP.nd rfl (Or.inl rfl) (ak Ac (hr.mono (by decide)) rfl T.F7.mg T.F7.fn.kp T.F7.bd .nil ay (aa (pv 0) ae)))
   (ah (aq (i:=2) jP.nd rfl (Or.inl rfl) (pv 1))
   (ah (cD PassesOwn.never rfl (lV rfl T.z_range (aa ai (aa (ar aH rfl T.z_len Qac (aa (pv 1) ae)) ae))) (aC (i:=3) jP.nd rfl (Or.inl rfl)) (ah (aq (i:=4) jP.nd rfl (Or.inl rfl) (av eY (bh hZ (pv 1) (bf (pv 3)) ck) (bh hZ (pv 1) ck (bf (pv 3)))))
   (aj (bC (aD uc (pv 4) (pv 2) (aE _)) (aj (aq (i:=2) jP.nd rfl (Or.inl rfl) (pv 4))) aV))))
   (aj (aF (pv 2)))))),?_⟩
 obtain ⟨l,rfl,hl,hz,q⟩:=h
 have hs:=Zs1
 refine ⟨_,rfl,l,rfl,hl,hz,fun H1 s1=>?_⟩
 have Zb:(core (red l)).length<=1000:=Qa8 (wN _) (Qa8 (k_ l) hz)
 unfold dS fI at q
 generalize core (red l)=c at Zb q ⊢
 have Zc:c.length<=sizeLine:=by lia
 walk_at "rd"
 refine ⟨_,_,rfl,⟨by decide,by decide,by lia,by lia⟩,?_⟩
 refine eO (fun i σ H'=>H'=H1/\ ∃sv bv,σ=[some (.str (S l)),some (.str (S c)),some (.str (S (cn c (lq c i)))),sv,bv]) ⟨rfl,none,none,rfl⟩ ?_ ?_
 ·rintro i σ H2 hi ⟨rfl,sv,bv,rfl⟩
  have e1:(1:Int)+(i:Int)=((i+1:Nat):Int):=by lia
  rw[e1]
  have hlen:(cut c (some ((i+1:Nat):Int)) none).length+(cut c none (some ((i+1:Nat):Int))).length<=sizeLine:=by rw[cX,fq,Qat,Qak];lia
  have Ab:cut c (some ((i+1:Nat):Int)) none++cut c none (some ((i+1:Nat):Int))=hW c (i+1):=by rw[cX,fq];rfl
  walk_at "rd"
  rw[Ab]
  walk_at"i"
  ·have z':hW c (i+1)<cn c (lq c i):=of_decide_eq_true z
   have hle:cn c (lq c (i+1))=hW c (i+1):=by rw[se,iq];unfold cW;rw[if_pos z']
   refine ⟨_,rfl,?_⟩
   rw[hle]
   exact ⟨rfl,_,_,rfl⟩
  ·have z': ¬hW c (i+1)<cn c (lq c i):=fun y=>z (decide_eq_true y)
   have hle:cn c (lq c (i+1))=cn c (lq c i):=by rw[se,iq];unfold cW;rw[if_neg z']
   rw[hle]
   exact ⟨rfl,_,_,rfl⟩
 ·rintro σ H2 ⟨rfl,sv,bv,rfl⟩
  have e:((c.length:Int) - 1).toNat=c.length - 1:=by lia
  rw[e]
  exact ⟨_,rfl,q _ s1⟩
theorem JM:bF P w K mg base fD 5 f9 d9 ["word"] (AS K):=by
 have vB:=BH (P:=P) (w:=w) (base:=base) T
 refine T.F9.fn.ok oE (fun vs H Q E h=>EW h) (fun _ _ _ _ H vs Q E hr h=>?_)
 refine ⟨_,(ah (aq (i:=1) oE.nd rfl (Or.inl rfl) (ak vB (hr.mono (by decide)) rfl T.F8.mg T.F8.fn.kp T.F8.bd .nil ay (aa (pv 0) ae)))
   (ah (cD PassesOwn.never rfl (lV rfl T.z_range (aa ai (aa (av aW (ar aH rfl T.z_len Qac (aa (pv 1) ae)) ai) ae))) (aC (i:=2) oE.nd rfl (Or.inl rfl)) (ah (aq (i:=3) oE.nd rfl (Or.inl rfl) (av dA (ar aH rfl T.z_len Qac (aa (pv 1) ae)) (pv 2)))
   (aj (bC (aD gC (av kP (bh hZ (pv 1) ck (bf (pv 2))) (pv 3)) (pv 1) (aE _)) (aj (aF (bc (aa (bh hZ (pv 1) ck (bf (pv 2))) (aa (pv 3) ae))))) aV))))
   (aj (aF (bc (aa (i4 [] (by decide+kernel)) (aa ai ae))))))),?_⟩
 obtain ⟨l,rfl,hl,hz,q⟩:=h
 have hs:=Zs1
 walk_at "wk"
 intro H1 s1
 have hw:(dS l).length<=1000:=Qa8 (CK l) hz
 generalize dS l=c at hw q ⊢
 have Zc:c.length<=sizeLine:=by lia
 walk_at "wk"
 refine ⟨_,_,rfl,⟨by decide,by decide,by lia,by lia⟩,?_⟩
 refine eO (fun i σ H'=>H'=H1/\(∀j,1<=j->j<=i-> ¬eE c j)/\ ∃sv tv,σ=[some (.str (S l)),some (.str (S c)),sv,tv]) ⟨rfl,fun j h1 h2=>by lia,none,none,rfl⟩ ?_ ?_
 ·rintro i σ H2 hi ⟨rfl,JG,sv,tv,rfl⟩
  have e1:(1:Int)+(i:Int)=((i+1:Nat):Int):=by lia
  rw[e1]
  have e2:(c.length:Int) / ((i+1:Nat):Int)=((c.length / (i+1):Nat):Int):=(Qdy _ _).symm
  have hd:=Qfr c.length (i+1)
  have hmul:(c.take (i+1)).length*(c.length / (i+1))<=sizeLine:=by
   have h1:(c.take (i+1)).length<=i+1:=by rw[Qak];lia
   have h2:=Nat.mul_div_le c.length (i+1)
   have h3:=Qd1 (c.length / (i+1)) h1
   lia
  walk_at "wk"
  refine ⟨⟨by rw[e2];exact Qeb _,by rw[e2];exact Int.ofNat_le.mpr (Qa8 hd (by lia:c.length<=1000000))⟩,by rw[e2,cX,XQ];exact hmul,?_⟩
  walk_at "wk"
  walk_at"i"
  ·have z1:eE c (i+1):=by
    have:=of_decide_eq_true z
    rw[e2,cX,XQ]at this
    exact this
   walk_at "wk"
   intro p np
   refine q p (i+1) _ (ao.free s1 np) ?_ (.inr ⟨by lia,by lia,z1,fun j j1 j2=>JG j j1 (by lia)⟩) (s1.trans (ao.upd np))
   rw[ag]
   unfold Kt
   rw[<-cX, <-e2]
  ·have z1: ¬eE c (i+1):=fun y=>z (decide_eq_true (by
    rw[e2,cX,XQ]
    exact y))
   refine ⟨rfl,fun j j1 j2=>?_,_,_,rfl⟩
   by_cases y:j=i+1
   ·rw[y];exact z1
   ·exact JG j j1 (by lia)
 ·rintro σ H2 ⟨rfl,JG,sv,tv,rfl⟩
  have hc:c=[]:=by
   by_cases z:c=[]
   ·exact z
   ·have hl:0<c.length:=V9.mpr z
    exact absurd (sj c z) (JG _ hl (by lia))
  subst hc
  walk_at "wk"
  intro p np
  exact q p 0 _ (ao.free s1 np) (by rw[ag];rfl) (.inl ⟨rfl,rfl⟩) (s1.trans (ao.upd np))
theorem qH:bF P w K mg base fD 2 f5 d5 ["word","place"] (ji K):=by
 have dP:=gz (P:=P) (w:=w) (base:=base) T
 refine T.F5.fn.ok qz (fun vs H Q E h=>nQ h) (fun _ _ _ _ H vs Q E hr h=>?_)
 refine ⟨_,(aj (aF (bc (aa (ak dP (hr.mono (by decide)) rfl T.F0.mg T.F0.fn.kp T.F0.bd .nil ay (aa (aN gB (pv 0) (av b6 (pv 1) ai) (fun _ _=>rfl)) ae)) (aa (aN gB (pv 0) (pv 1) (fun _ _=>rfl)) ae))))),?_⟩
 obtain ⟨w,i,rfl,hl,hz,hi,q⟩:=h
 have hs:=Zs1
 have di:w≠[]:=fun z=>by rw[z]at hi;simp at hi
 refine ⟨_,rfl,_,rfl,_,_,rfl,rfl,w,_,_,rfl,rfl,by lia,gU (by lia) (by lia),_,rfl,(hl _ (iu di _)).lt,?_⟩
 refine ⟨_,rfl,_,rfl,w,_,_,rfl,rfl,by lia,gU (by lia) (by lia),by show 2<=sizeLine;decide,fun t nt=>?_⟩
 exact q t _ nt ag (ao.upd nt)
theorem qI:bF P w K mg base fD 1 f3 d3 ["yard","start","end"] (jg K):=by
 refine T.F3.fn.ok qy (fun vs H Q E h=>nN h) (fun _ _ _ _ H vs Q E hr h=>?_)
 refine ⟨_,(aj (aF (av dv (av b6 (ba K rfl Qao PySem.F.slot_str_find PySem.F.type_str_find vU (pv 0) (aa (pv 2) ae)) (ba K rfl Qao PySem.F.slot_str_find PySem.F.type_str_find vU (pv 0) (aa (pv 1) ae))) (ar aH rfl T.z_len Qac (aa (pv 0) ae))))),?_⟩
 obtain ⟨y,a,b,rfl,ha,hb,hz,q⟩:=h
 have hs:(1000:Nat)<sizeLine:=by decide
 have hp:(0:Int)<(y.length:Int):=by have:=List.length_pos_of_mem ha;lia
 refine ⟨_,rfl,rfl,_,rfl,y,b,rfl,rfl,?_⟩
 rw[if_pos hb]
 refine ⟨_,rfl,rfl,_,rfl,y,a,rfl,rfl,?_⟩
 rw[if_pos ha]
 exact ⟨_,_,rfl,rfl,_,rfl,y,rfl,by lia,_,_,rfl,rfl,hp,q⟩
theorem nY:bF P w K mg base fD 3 Oi OT ["yard","word","place"] (iL K):=by
 have rm:=qH (P:=P) (w:=w) (base:=base) T
 have rq:=qI (P:=P) (w:=w) (base:=base) T
 refine T.SF.fn.ok iN (fun vs H Q E h=>mM h) (fun _ _ _ _ H vs Q E hr h=>?_)
 refine ⟨_,(ah (aq (i:=3) iN.nd rfl (Or.inl rfl) (ak rm (hr.mono (by decide)) rfl T.F5.mg T.F5.fn.kp T.F5.bd .nil ay (aa (pv 1) (aa (pv 2) ae))))
   (aj (aF (ak rq (hr.mono (by decide)) rfl T.F3.mg T.F3.fn.kp T.F3.bd .nil ay (aa (pv 0) (aa (aN (bQ K rfl) (pv 3) ai (fun _ _=>rfl)) (aa (aN (bQ K rfl) (pv 3) ai (fun _ _=>rfl)) ae))))))),?_⟩
 obtain ⟨y,w,i,rfl,hy,hz,hw,kA,hi,q⟩:=h
 refine ⟨_,rfl,_,rfl,w,i,rfl,fun c hc=>hy.lt c (hw.bP c hc),kA,hi,fun p H1 np hp s1=>?_⟩
 refine ⟨_,rfl,_,rfl,p,_,0,_,rfl,rfl,bE.of hp,rfl,_,rfl,p,_,1,_,rfl,rfl,bE.of hp,rfl,y,_,_,rfl,hy.cl _ (hw.rd _),hw.rd _,by lia,?_⟩
 have rg:=eT (hy.cl _ (hw.rd ((i:Int) - 1))) (hw.rd i) (Ne.symm (hw.red i))
 obtain ⟨n,hn⟩: ∃n:Nat,cst y w i=n:=⟨(cst y w i).toNat,by have:=rg.1;unfold cst;lia⟩
 have:=rg.2.1
 have e:xV y (aB (rd w ((i:Int) - 1))) (rd w i)=n:=hn
 have key:=q n H1 hn (by lia) s1
 rw[<-e]at key
 exact key
theorem GK:bF P w K mg base fD 6 ka xG ["self","yard","word","longest"] (xq K aY):=by
 have ND:=JM (P:=P) (w:=w) (base:=base) T
 have vB:=BH (P:=P) (w:=w) (base:=base) T
 have qJ:=tG (P:=P) (w:=w) (base:=base) T
 have qK:=nY (P:=P) (w:=w) (base:=base) T
 refine T.RB.ok qB (fun vs H Q E h=>Dd h) (fun _ _ _ _ H vs Q E hr h=>?_)
 refine ⟨_,(ah (i0 (pv 0) (ar aH rfl T.z_len Qac (aa (pv 2) ae)) rfl)
   (ah (i0 (pv 0) (ar aH rfl T.z_len Qac (aa (aN (bQ K rfl) (ak ND (hr.mono (by decide)) rfl T.F9.mg T.F9.fn.kp T.F9.bd .nil ay (aa (pv 2) ae)) ai (fun _ _=>rfl)) ae)) rfl)
   (ah (i0 (pv 0) (d_ uc (ak vB (hr.mono (by decide)) rfl T.F8.mg T.F8.fn.kp T.F8.bd .nil ay (aa (pv 2) ae)) (ak vB (hr.mono (by decide)) rfl T.F8.mg T.F8.fn.kp T.F8.bd .nil ay (aa (ak qJ (hr.mono (by decide)) rfl T.F1.mg T.F1.fn.kp T.F1.bd .nil ay (aa (pv 2) ae)) ae)) (aE _)) rfl)
   (ah (aq (i:=4) qB.nd rfl (Or.inl rfl) (ba K rfl Qao Qci Qch (gS K rfl) (i4 [] (by decide+kernel)) (aa (bA ["place","yard","word"] [none,some 1,some 2] (fP rfl T.z_range (aa (ar aH rfl T.z_len Qac (aa (pv 2) ae)) ae)) ⟨⟨rfl,rfl,by first | exact .inl rfl | exact .inr rfl⟩,⟨⟨rfl,rfl,by first | exact .inl rfl | exact .inr rfl⟩,trivial⟩⟩ (fun _ _ _ _=>(aC (i:=0) (by decide+kernel:List.Nodup (["place","yard","word"]:List Str)) rfl (Or.inl rfl))) (fun _ _ _ _=>dI) (fun _ _ _ _=>(cF Cs rfl T.z_str boot_str (aa (ak qK (hr.mono (by decide)) rfl T.SF.mg T.SF.fn.kp T.SF.bd .nil ay (aa (pv 1) (aa (pv 2) (aa (pv 0) ae)))) ae)))) ae)))
   (ah (aq (i:=5) qB.nd rfl (Or.inl rfl) (av aW ai (av dA (pv 3) (ar (BW rfl) rfl T.z_max boot_max (aa (ar aH rfl T.z_len Qac (aa (pv 2) ae)) (aa ai ae))))))
   (ah (i0 (pv 0) (av kP (pv 4) (pv 5)) rfl)
   (aj (i0 (pv 0) (av kP (Io (pv 4) (bf (gi dZ ai))) (pv 5)) rfl)))))))),?_⟩
 obtain ⟨x,dx,y,w',lg,rfl,hx,hy,hz,hw,yC,Te,q⟩:=h
 have hs:=Zs1
 have cE: ∀c∈w',Lt c:=fun c hc=>hy.lt c (hw.bP c hc)
 have h8: ∀c∈w',c<128:=fun c hc=>(cE c hc).lt
 have ht:=hw.gM hy
 have Zd: ∀c∈gM w',Lt c:=fun c hc=>hy.lt c (ht.bP c hc)
 have h1:1<=w'.length:=V9.mpr hw.ne
 have rl:=lL (lg:=lg) h1
 obtain ⟨rt,Tf⟩:=AZ hw.ne
 refine ⟨_,rfl,w',rfl,by lia,_,rfl,x,aY,dx,_,rfl,hx,T.gw,T.n_Way_size,by show 0<1000;decide,?_⟩
 refine ⟨_,rfl,w',rfl,cE,by lia,fun p1 s1 H1 n1 hV Kq RG=>?_⟩
 obtain ⟨er,el⟩:=CQ hy hw Kq Tf
 subst er
 have et:((dS w').take s1).length=s1:=by
  rw[Qak,el]
  rcases Tf with ⟨z,_⟩ | ⟨_,h2,_⟩
  ·exact absurd z hw.ne
  ·lia
 have Ze:s1<=w'.length:=by
  rcases Tf with ⟨z,_⟩ | ⟨_,h2,_⟩
  ·exact absurd z hw.ne
  ·exact h2
 have UU:=RG _ _ (ag (H:=H) (a:=x))
 refine ⟨p1,_,0,_,rfl,rfl,bE.of hV,rfl,_,rfl,by rw[et];lia,_,rfl,x,aY,dx,_,rfl,UU,T.gw,T.n_Way_root_size,Qbc (da _ _ _) (by show 0+1<1000;decide),?_⟩
 rw[et]
 refine ⟨_,rfl,w',rfl,cE,by lia,fun H2 s2=>⟨_,rfl,w',rfl,h8,by lia,fun H3 s3=>⟨gM w',rfl,Zd,by rw[cC];lia,fun H4 s4=>?_⟩⟩⟩
 have WZ:=s2.trans (s3.trans s4)
 have NF:=WZ _ _ (ag (a:=x))
 refine ⟨_,_,rfl,rfl,_,rfl,x,aY,dx,_,rfl,NF,T.gw,T.n_Way_leads,Qbc (da _ _ _) (Qbc (Qbw (da _ _ _)) (by show 0+1+1<1000;decide)),?_⟩
 have Zf:decide (dS w'<dS (gM w'))=leads w':=by
  unfold leads
  rw[hw.dS hy,ht.dS hy]
 refine ⟨rfl,_,rfl,w',rfl,by lia,_,rfl,by lia,by lia,?_⟩
 rw[XQ]
 refine vW (fun i acc H'=>ao _ H'/\acc=bW ((stx y w').take i)) (by lia) ⟨ao.refl _,rfl⟩ ?_ ?_
 ·rintro i acc H5 Nx hi hl ⟨s5,rfl⟩ nx
  refine ⟨⟨rfl,rfl,trivial⟩,cL ⟨_,rfl,_,rfl,_,rfl,y,w',i,by rw[Qcu];rfl,hy,hz,hw,by lia,hi,fun n H6 hn h8' s6=>⟨n,rfl,by lia,nx _ _ (by simpa using hl) ⟨s5.trans s6,?_⟩⟩⟩⟩
  have eg:(stx y w')[i]? =some (48+n):=by
   unfold stx
   rw[Qaj,List.getElem?_range hi]
   show some (xY (cst y w' i))=_
   rw[hn]
   unfold xY
   congr 1
  rw[MZ n (by lia),cR,take_snoc eg]
 ·rintro acc H5 D hl ⟨s5,rfl⟩ hD
  have Zg:(stx y w').take w'.length=stx y w':=Qau (by rw[dq];exact Sq _)
  rw[Zg]at hl ⊢
  refine ⟨D,(stx y w').map fun c=>[c],rfl,rfl,aZ.of (by rw[ag, <-dj]),by rw[y8,dq];lia,?_⟩
  rw[pG]
  have W0:=s5.trans (ao.upd (o:= .lst (bW (stx y w'))) hD)
  have JN:=W0 _ _ (ag (a:=x))
  have Vp:(if (1:Int)>(w'.length:Int) then (1:Int) else (w'.length:Int))=(max w'.length 1:Nat):=by split<;>lia
  have NG:(3:Int)+(lg:Int) / (if (1:Int)>(w'.length:Int) then (1:Int) else (w'.length:Int))=(jo lg w'.length:Nat):=by
   rw[Vp]
   unfold jo
   rw[Qba,Qdy]
   rfl
  have rb:jo lg w'.length<=1003:=by unfold jo;have:=Qfr lg (max w'.length 1);lia
  refine ⟨_,rfl,_,rfl,w',rfl,by lia,_,_,rfl,_,_,rfl,rfl,⟨by rw[Vp];lia,by rw[Vp];lia⟩,_,_,rfl,rfl,?_⟩
  have l3: ∀(a b c:V),(ee "leads" a (ee "root_size" b (ee "size" c []))).length<=3:=fun a b c=>Qa8 (da _ _ _) (Qbw (Qa8 (da _ _ _) (Qbw (da _ _ _))))
  refine ⟨_,rfl,_,rfl,stx y w',_,rfl,rfl,⟨by rw[NG];lia,by rw[NG];lia⟩,by rw[NG,XQ,dq];lia,_,rfl,x,aY,dx,_,rfl,JN,T.gw,T.n_Way_onward,Qbc (l3 _ _ _) (by decide),?_⟩
  refine ⟨_,rfl,1,rfl,_,rfl,rfl,stx y w',rfl,by rw[dq];lia,_,rfl,(stx y w').reverse,_,rfl,rfl,⟨by rw[NG];lia,by rw[NG];lia⟩,by rw[NG,XQ,Qaz,dq];lia,_,rfl,x,aY,dx,_,rfl,ag,T.gw,T.n_Way_backward,Qbc (da _ _ _) (Qbc (Qbw (l3 _ _ _)) (by decide)),?_⟩
  refine q s1 _ Tf ?_ fun b o eb zb=>?_
  ·rw[ag]
   unfold mK
   rw[<-Zf,NG,XQ]
  ·rw[az zb,az zb]
   refine W0 _ _ ?_
   rw[az zb]
   refine WZ _ _ ?_
   rw[az zb]
   refine RG _ _ ?_
   rw[az zb]
   exact eb
theorem JO:bF P w K mg base fD 8 Ou O1 ["yard","words"] (By K):=by
 have qJ:=tG (P:=P) (w:=w) (base:=base) T
 have JP:=GI (P:=P) (w:=w) (base:=base) T
 have vC:=rj (P:=P) (w:=w) (base:=base) T
 have BI:=GK (P:=P) (w:=w) (base:=base) T
 refine T.Nh.fn.ok vv (fun vs H Q E h=>Gn h) (fun _ _ _ _ H vs Q E hr h=>?_)
 refine ⟨_,(ah (aq (i:=2) vv.nd rfl (Or.inr rfl) (Iq K rfl rfl rfl T.z_max (aa (bA ["word"] [none] (h7 K rfl (pv 1)) trivial (fun _ _ _ _=>(aC (i:=0) (by decide+kernel:List.Nodup (["word"]:List Str)) rfl (Or.inl rfl))) (fun _ _ _ _=>dI) (fun _ _ _ _=>(ar aH rfl T.z_len Qac (aa (pv 0) ae)))) ae)))
   (ah (aq (i:=3) vv.nd rfl (Or.inr rfl) (bA ["word","yard","longest"] [none,some 0,some 2] (h7 K rfl (pv 1)) ⟨⟨rfl,rfl,by first | exact .inl rfl | exact .inr rfl⟩,⟨⟨rfl,rfl,by first | exact .inl rfl | exact .inr rfl⟩,trivial⟩⟩ (fun _ _ _ _=>(aC (i:=0) (by decide+kernel:List.Nodup (["word","yard","longest"]:List Str)) rfl (Or.inl rfl))) (fun _ _ _ _=>dI) (fun _ _ _ _=>(bc (aa (n6 T.KU BI (hr.mono (by decide)) rfl T.KS T.KW .nil ay (aa (pv 1) (aa (pv 0) (aa (pv 2) ae)))) (aa (n6 T.KU BI (hr.mono (by decide)) rfl T.KS T.KW .nil ay (aa (pv 1) (aa (ak qJ (hr.mono (by decide)) rfl T.F1.mg T.F1.fn.kp T.F1.bd .nil ay (aa (pv 0) ae)) (aa (pv 2) ae)))) ae))))))
   (aj (aF (bc (aa (cF (eB K rfl) rfl T.z_tuple boot_tuple (aa (pv 1) ae)) (aa (cF (eB K rfl) rfl T.z_tuple boot_tuple (aa (bA ["band","words","ways"] [none,some 1,some 3] (oX (ak JP (hr.mono (by decide)) rfl T.F2.mg T.F2.fn.kp T.F2.bd .nil ay (aa (pv 0) ae))) ⟨⟨rfl,rfl,by first | exact .inl rfl | exact .inr rfl⟩,⟨⟨rfl,rfl,by first | exact .inl rfl | exact .inr rfl⟩,trivial⟩⟩ (fun _ _ _ _=>(aC (i:=0) (by decide+kernel:List.Nodup (["band","words","ways"]:List Str)) rfl (Or.inl rfl))) (fun _ _ _ _=>dI) (fun _ _ _ _=>(ak vC (hr.mono (by decide)) rfl T.SJ.mg T.SJ.fn.kp T.SJ.bd .nil ay (aa (pv 1) (aa (pv 2) (aa (pv 0) ae)))))) ae)) ae))))))),?_⟩
 obtain ⟨y,wt,ws,rfl,hy,hz,jW,Vm,x8,q⟩:=h
 have hs:=Zs1
 have Zh: ∀c∈y,c<128:=Rn hy.lt
 have Vq:=fX hy
 obtain ⟨lg,W2,Zi,Te⟩:=qf fun w hw=>(x8 w hw).2
 refine ⟨_,rfl,wt,rfl,⟨_,bE.of jW⟩,?_⟩
 refine fT (K:=K) (a:=wt) (xs:=iR ws) (fun i acc H'=>H'=H/\acc=(Hj (ws.take i)).map V.int) (by rw[bG];lia) (fun i acc H' h=>by rw[h.1];exact bE.of jW) ⟨rfl,rfl⟩ ?_ ?_
 ·rintro i x acc H1 Nx hi hx hl ⟨rfl,rfl⟩ nx
  rw[bG]at hi
  rw[jd hi]at hx
  cases hx
  have NH:=x8 ws[i] (Qay hi)
  refine ⟨trivial,cL ⟨_,rfl,ws[i],rfl,by lia,nx _ _ (by simpa using hl) ⟨rfl,?_⟩⟩⟩
  rw[<-take_snoc (LJ hi)]
  unfold Hj
  rw[XN,XN]
  rfl
 ·rintro acc H1 D hl ⟨rfl,rfl⟩ hD
  rw[bG,Qbb]
  refine ⟨D,Hj ws,rfl,aZ.of ag,?_⟩
  rw[W2]
  have sD:=ao.upd (o:= .lst ((Hj ws).map V.int)) hD
  refine ⟨_,rfl,wt,rfl,⟨_,bE.of (sD _ _ jW)⟩,?_⟩
  refine fT (K:=K) (a:=wt) (xs:=iR ws) (fun i acc H'=>ao H1 H'/\ ∃lS:List Wp,acc=Hg lS/\lS.length=i/\ ∀(c:Nat) (w:List Nat) (p:Wp),ws[c]? =some w->lS[c]? =some p->u5 H' aY y lg w p) (by rw[bG];lia) (fun i acc H' h=>bE.of (h.1 _ _ jW)) ⟨sD,[],rfl,rfl,fun c w p _ h=>by simp at h⟩ ?_ ?_
  ·rintro i x acc H2 Nx hi hx m7 ⟨s2,lS,rfl,yC,NC⟩ nx
   rw[bG]at hi
   rw[jd hi]at hx
   cases hx
   have NH:=x8 ws[i] (Qay hi)
   have W3:ws[i]? =some ws[i]:=LJ hi
   have RS:=Te ws[i] (Qay hi)
   generalize ws[i]=w' at NH W3 RS ⊢
   have h8: ∀c∈w',c<128:=fun c hc=>(hy.lt c (NH.1.bP c hc)).lt
   refine ⟨⟨rfl,rfl,trivial⟩,cL ?_⟩
   refine ⟨_,rfl,_,rfl,_,rfl,fun x1 W4 Zj Vr ne1=>⟨x1,W4,y,w',lg,rfl,ag,hy,hz,NH.1,RS,by lia,fun r H3 hr Zk Zl=>⟨rfl,?_⟩⟩⟩
   have Zm:=sX Zj Vr Zl
   refine ⟨_,rfl,_,rfl,w',rfl,h8,by lia,fun H4 Tg=>⟨_,rfl,fun x2 W5 Zn Vs ne2=>⟨x2,W5,y,gM w',lg,rfl,ag,hy,hz,NH.1.gM hy,by rw[cC];exact RS,by lia,fun r2 H5 Ri JN Zo=>⟨rfl,?_⟩⟩⟩⟩
   have Zp:=sX Zn Vs Zo
   refine ⟨by show 2<=sizeLine;decide,fun t nt=>?_⟩
   have W6:=ao.upd (o:= .tup [.ref x1, .ref x2]) nt
   have PB:=Tg.trans (Zp.trans W6)
   have all:=Zm.trans PB
   refine nx _ _ (by simpa using m7) ⟨s2.trans all,lS++[⟨t,x1,x2,r,r2⟩],Gd lS ⟨t,x1,x2,r,r2⟩,by rw[V7,yC];rfl,Jw yC (fun c w p a b=>(NC c w p a b).same all) W3 ⟨ag,⟨⟨W4,PB _ _ Zk⟩,NH.1,RS,by lia,hr⟩,⟨⟨W5,W6 _ _ JN⟩,NH.1.gM hy,by rw[cC];exact RS,by lia,Ri⟩⟩⟩
  ·rintro acc H2 D2 m7 ⟨s2,lS,rfl,yC,NC⟩ Vt
   rw[bG]at yC
   have W7:=ao.upd (o:= .lst (Hg lS)) Vt
   have DN:=s2.trans W7
   refine ⟨_,rfl,wt,_,rfl, .inr ⟨bE.of (DN _ _ jW),?_⟩⟩
   refine ⟨_,rfl,y,rfl,Zh,by lia,fun l' H3 x_ Zq s3=>?_⟩
   have el:=uW x_ Zq
   subst el
   refine ⟨_,rfl,?_⟩
   have K0:=DN.trans s3
   have Zr:=s3 _ _ (ag (H:=H2) (a:=D2) (o:=HO.lst (Hg lS)))
   refine i7 (xs:=bW (cY y)) (fun i acc H'=>ao H3 H'/\ ∃os:List Od,acc=mH os/\(∀o∈os,C7 H' o)/\os.length=i/\(∀(j:Nat) (o:Od) (b:Nat),os[j]? =some o->(cY y)[j]? =some b->(o.ps.map Pr.pair).Perm (bO b ws ws.length))/\ ∀o∈os,zQ y ws (2*lg) (o.ps.map Pr.pair)) (by rw[aK];lia) ⟨ao.refl _,[],rfl,fun _ h=>absurd h Qae,rfl,fun j o b h=>by simp at h,fun _ h=>absurd h Qae⟩ ?_ ?_
   ·rintro i x acc H4 Nx hi hx gN ⟨s4,os,rfl,JQ,yS,Vu,Th⟩ nx
    obtain ⟨b,hb,rfl⟩:=e_ hx
    have Zs:=xu hy (Qab hb)
    refine ⟨⟨rfl,rfl,trivial⟩,cL ?_⟩
    refine ⟨_,rfl,_,rfl,_,rfl,y,lg,wt,D2,ws,lS,b,rfl,hy,hz,s4 _ _ (K0 _ _ jW),Vm,x8,Zs,s4 _ _ Zr,yC,fun c w p a1 a2=>(NC c w p a1 a2).same (W7.trans (s3.trans s4)),fun t ps H5 nt ht qE kB Pz s5=>?_⟩
    have WV:ps.length<=100:=by
     have h1:=kB.length_eq
     have h2:=jv b (fun w hw=>(x8 w hw).2) ws.length (Sq _)
     rw[V6]at h1
     lia
    refine nx _ _ (by simpa using gN) ⟨s4.trans s5,os++[⟨t,ps⟩],pZ os ⟨t,ps⟩,fun o ho=>?_,by rw[V7,yS];rfl,fun j o b' ho MC=>?_,fun o ho=>?_⟩
    ·rcases Qaf.mp ho with g | g
     ·exact (JQ o g).same s5
     ·rw[V8.mp g]
      exact ⟨ht,qE,WV⟩
    ·by_cases z:j<os.length
     ·rw[Qa9 z]at ho
      exact Vu j o b' ho MC
     ·rw[Qbj (by lia)]at ho
      have:j=i:=by
       have:=(LK.mp ho).1
       simp at this
       lia
      subst this
      rw[yS,Qfc]at ho
      cases ho
      rw[hb]at MC
      cases MC
      exact kB
    ·rcases Qaf.mp ho with g | g
     ·exact Th o g
     ·rw[V8.mp g]
      exact Pz
   ·rintro acc H4 D3 gN ⟨s4,os,rfl,JQ,yS,Vu,Th⟩ Zt
    rw[aK]at yS
    refine ⟨D3,_,rfl, .inl ⟨aZ.of ag,fun t nt=>?_⟩⟩
    refine ⟨by show 2<=sizeLine;decide,fun dr Vv=>?_⟩
    have sA:=(ao.upd (o:= .lst (mH os)) Zt).trans ((ao.upd (o:= .tup (mH os)) nt).trans (ao.upd (o:= .tup [.ref wt, .ref t]) Vv))
    have Zu:t≠dr:=fun z=>by rw[<-z,ag]at Vv;cases Vv
    have Nw:=K0.trans s4
    exact q dr os _ ⟨⟨wt,t,ag,sA _ _ (Nw _ _ jW),by rw[az Zu,ag]⟩,fun o ho=>(JQ o ho).same sA⟩ ⟨2*lg,fun w hw v hv=>by have:=Te w hw;have:=Te v hv;lia,⟨yS,Vu⟩,Th⟩ (by unfold SE SD;rw[W2,XQ];exact Th) (Nw.trans sA)
theorem tH:bF P w K mg base fD 1 OC O8 ["_law_yard_here"] (sk K):=by
 refine T.Nj.fn.ok Dq (fun vs H Q E h=>zd h) (fun _ _ _ _ H vs Q E hr h=>?_)
 refine ⟨_,(aj (aF (ar (kQ K rfl) rfl T.z_sorted boot_sorted (aa (bA ["_law_letter"] [none] (oX (pv 0)) trivial (fun _ _ _ _=>(aC (i:=0) (by decide+kernel:List.Nodup (["_law_letter"]:List Str)) rfl (Or.inl rfl))) (fun _ _ _ _=>(lZ (aD Ee (pv 0) (i4 [97,98,99,100,101,102,103,104,105,106,107,108,109,110,111,112,113,114,115,116,117,118,119,120,121,122] (by decide+kernel)) (by with_unfolding_all rfl)))) (fun _ _ _ _=>(pv 0))) ae)))),?_⟩
 obtain ⟨y,rfl,hz,q⟩:=h
 have hs:(1000:Nat)<sizeLine:=by decide
 refine ⟨_,rfl,y,rfl,?_⟩
 refine i7 (xs:=bW y) (fun i acc H'=>ao H H'/\acc=bW ((y.take i).filter fun c=>decide (c∈aU))) (by rw[aK];lia) ⟨ao.refl H,rfl⟩ ?_ ?_
 ·rintro i x acc H1 Nx hi hx gN ⟨s1,rfl⟩ nx
  obtain ⟨c,hc,rfl⟩:=e_ hx
  have e:=gp (p:=fun c=>decide (c∈aU)) hc
  refine ⟨trivial,?_⟩
  refine ⟨_,rfl,c,aU,rfl,rfl,_,rfl,?_⟩
  walk_at"i"
  ·rw[if_pos z]at e
   exact ⟨_,rfl,nx _ _ (by simpa using gN) ⟨s1,by rw[e, <-cR]⟩⟩
  ·rw[if_neg z,Qaw]at e
   exact nx _ _ (Qcs gN) ⟨s1,by rw[e]⟩
 ·rintro acc H1 D gN ⟨s1,rfl⟩ hD
  rw[kZ,dj]
  have Ve:(y.filter fun c=>decide (c∈aU)).length<=y.length:=Qc1 _ _
  refine ⟨D,(y.filter fun c=>decide (c∈aU)).map fun c=>[c],rfl,aZ.of ag,by rw[V6];lia,fun p ls hp kB RD=>?_⟩
  obtain ⟨l',rfl,pl⟩:=Az kB
  refine q p l' _ (ao.free (ao.trans s1 (ao.upd hD)) hp) (by rw[ag, <-dj]) pl (AA RD) ((s1.trans (ao.upd hD)).trans (ao.upd hp))
theorem xM:bF P w K mg base fD 2 ON Pk ["_law_yard_here","_law_words_here"] (nz K):=by
 have qL:=tH (P:=P) (w:=w) (base:=base) T
 walk_at"k"
 refine T.SY.fn.ok dX (fun vs H Q E h=>ve h) (fun _ _ _ _ H vs Q E hr h=>?_)
 refine ⟨_,(ah (aq (i:=2) dX.nd rfl (Or.inl rfl) (cu ae))
   (ah (cD PassesOwn.never rfl (fi K rfl (ak qL (hr.mono (by decide)) rfl T.Nj.mg T.Nj.fn.kp T.Nj.bd .nil ay (aa (pv 0) ae))) (aC (i:=3) dX.nd rfl (Or.inr rfl)) (ah (aq (i:=4) dX.nd rfl (Or.inl rfl) (cu ae))
   (ah (cD PassesOwn.never rfl (kR K rfl rfl T.z_enumerate (aa (pv 1) ae)) (cK (n:=2) K rfl rfl (aP (aC (i:=5) dX.nd rfl (Or.inr rfl)) (aP (aC (i:=6) dX.nd rfl (Or.inl rfl)) cJ))) (aj (bY (ba K rfl Qam Qdg Qdf jD (pv 4) (aa (bA ["_law_i","_law_letter","_law_c","_law_band"] [none,none,some 5,some 3] (o6 rfl T.z_enumerate (aa (pv 6) ae)) ⟨⟨rfl,rfl,by first | exact .inl rfl | exact .inr rfl⟩,⟨⟨rfl,rfl,by first | exact .inl rfl | exact .inr rfl⟩,trivial⟩⟩ (fun _ _ _ _=>(cK (n:=2) K rfl rfl (aP (aC (i:=0) (by decide+kernel:List.Nodup (["_law_i","_law_letter","_law_c","_law_band"]:List Str)) rfl (Or.inl rfl)) (aP (aC (i:=1) (by decide+kernel:List.Nodup (["_law_i","_law_letter","_law_c","_law_band"]:List Str)) rfl (Or.inl rfl)) cJ)))) (fun _ _ _ _=>(lZ (aD (Ep K rfl) (pv 1) (bc (aa (pv 3) (aa (ak aX (hr.mono (by decide)) rfl T.eV.mg T.eV.fn.kp T.eV.bd .nil ay (aa (pv 3) ae)) ae))) (by with_unfolding_all rfl)))) (fun _ _ _ _=>(bc (aa (pv 2) (aa (pv 0) ae))))) ae)))))
   (aj (bY (ba K rfl Qam Qa1 Qa0 b_ (pv 2) (aa (pv 4) ae)))))))
   (aj (aF (pv 2))))),?_⟩
 obtain ⟨y,wt,ws,rfl,hy,hz,jW,hw,q⟩:=h
 have hs:=Zs1
 have Zv:=hw.sd
 refine ⟨by show 0<=sizeLine;decide,fun p1 n1=>?_⟩
 refine ⟨_,rfl,y,rfl,by lia,fun p2 l2 H1 n2 kz m7 Zw s1=>?_⟩
 rw[pY hy.lt]at m7
 have el:=uW m7 Zw
 subst el
 have KY:p1≠p2:=fun z=>by rw[<-z,ag]at n2;cases n2
 have JL:ao H H1:=(ao.upd n1).trans s1
 have hV:H1 p1=some (.lst []):=s1 _ _ ag
 have Vq:=fX hy
 refine ⟨p2,rfl,⟨_,aZ.of kz⟩,?_⟩
 refine kD (K:=K) (a:=p2) (xs:=bW (cY y)) (fun i σ H'=> ∃(os:List Od) (bv sv cv wv:Option V),σ=[some (.str (S y)),some (.ref wt),some (.ref p1),bv,sv,cv,wv]/\H' p1=some (.lst (mH os))/\(∀o∈os,nV H' o/\o.o≠p1)/\os.map jw=((cY y).take i).map (fun b=>bO b ws ws.length)/\aO p1 H1 H')
  ⟨[],none,none,none,none,rfl,hV,fun _ h=>absurd h Qae,rfl,aO.refl _ _⟩ (fun i σ H' _ ⟨_,_,_,_,_,_,_,_,_,h⟩=>aZ.of (h _ _ kz (Ne.symm KY))) ?_ ?_
 ·rintro i x σ H2 hx ⟨os,bv,sv,cv,wv,rfl,hV,JQ,DP,s2⟩
  obtain ⟨band,GL,rfl⟩:=e_ hx
  have hi:i<(cY y).length:=(LK.mp GL).1
  have Vw:Lt band:=hy.lt band (Qa5.mp ((eU y).mem_iff.mp (Qab GL))).1
  have yS:os.length=i:=by
   have:=congrArg List.length DP
   rw[V6,V6,Qak]at this
   lia
  refine ⟨by show 0<=sizeLine;decide,fun p3 n3=>?_⟩
  have RT:=s2 _ _ (JL _ _ jW) (ax jW n1)
  refine ⟨_,rfl,wt,rfl,⟨_,bE.of ((ao.upd n3) _ _ RT)⟩,?_⟩
  refine jG (K:=K) (a:=wt) (xs:=iR ws) (fun j σ H'=> ∃(ps:List Pr) (cv wv:Option V),σ=[some (.str (S y)),some (.ref wt),some (.ref p1),some (.str (S [band])),some (.ref p3),cv,wv]/\H' p3=some (.lst (jn ps))/\(∀p∈ps,iS H' p)/\ps.map Pr.pair=bO band ws j/\ps.length<=12*j/\ao H2 H')
   ⟨[],cv,wv,rfl,ag,fun _ h=>absurd h Qae,rfl,Qaa _,ao.upd n3⟩ (fun j σ H' _ ⟨_,_,_,_,_,_,_,_,h⟩=>bE.of (h _ _ RT)) ?_ ?_
  ·rintro j x σ H3 T MY ⟨ps,Zx,Zy,rfl,DO,qE,g9,iT,s3⟩ nT
   have hj:j<ws.length:=by
    have:=(LK.mp MY).1
    rwa [bG]at this
   rw[jd hj]at MY
   cases MY
   have Hm:ws[j]? =some ws[j]:=LJ hj
   obtain ⟨PC,kA⟩:=hw.all _ (Qay hj)
   generalize ws[j]=w at Hm PC kA ⊢
   walk_at"r"
   have W8:=ao.upd (o:= .tup [.int j, .str (S w)]) nT
   have RU:=W8 _ _ DO
   refine ⟨_,rfl, .inl ⟨rfl,_,aZ.of RU⟩,_,rfl,w,rfl,?_⟩
   refine Cj (l:=w) (fun m acc H'=>ao (upd H3 T (.tup [.int j, .str (S w)])) H'/\ ∃vs:List Pr,acc=jn vs/\(∀p∈vs,iS H' p)/\vs.map Pr.pair=eH band j w m/\vs.length<=m) (by lia) ⟨ao.refl _,[],rfl,fun _ h=>absurd h Qae,rfl,Sq _⟩ ?_ ?_
   ·rintro m l acc H4 T2 Nx hm gN ⟨s4,vs,rfl,Ti,Tj,Zz⟩ Vl nx
    have Y6:m<w.length:=(LK.mp hm).1
    have es:=p7 (band:=band) (c:=j) hm
    rw[show xX band l=(decide (l=band)||decide (l=aB band)) from rfl]at es
    refine ⟨T2,_,rfl,bE.of ag,rfl,_,_,rfl,_,_,rfl,rfl,?_⟩
    refine ⟨⟨rfl,rfl,trivial⟩,?_⟩
    have ZA:=ao.upd (o:= .tup [.int m, .str (S [l])]) Vl
    refine ⟨_,rfl,_,rfl,_,rfl,band,rfl,Vw,by show 2<=sizeLine;decide,fun t nt=>?_⟩
    refine ⟨t,_,rfl, .inr (bE.of ag),rfl,rfl,_,rfl,?_⟩
    have RV:=ZA.trans (ao.upd (o:= .tup [.str (S [band]), .str (S [aB band])]) nt)
    generalize upd (upd H4 T2 (.tup [.int m, .str (S [l])])) t (.tup [.str (S [band]), .str (S [aB band])])=H5 at RV ⊢
    show if B8 (.str (S [l])) [.str (S [band]), .str (S [aB band])]=true then _ else _
    rw[AB]
    walk_at"i"
    ·rw[if_pos z]at es
     refine ⟨_,rfl,_,rfl,by show 2<=sizeLine;decide,fun t2 PD=>?_⟩
     refine nx _ _ (by simpa using gN) ⟨(s4.trans RV).trans (ao.upd PD),vs++[⟨t2,j,m⟩],xm vs ⟨t2,j,m⟩,fun p hp=>?_,by rw[XN,Tj,es];rfl,by rw[V7];show vs.length+1<=_;lia⟩
     rcases Qaf.mp hp with g | g
     ·exact (Ti p g).same (RV.trans (ao.upd PD))
     ·have e2:=V8.mp g
      subst e2
      exact ⟨ag,by show j<1000;lia,by show m<1000;lia⟩
    ·rw[if_neg z,Qaw]at es
     exact nx _ _ (Qcs gN) ⟨s4.trans RV,vs,rfl,fun p hp=>(Ti p hp).same RV,by rw[es];exact Tj,by lia⟩
   ·rintro acc H4 D gN ⟨s4,vs,rfl,Ti,Tj,Zz⟩ hD
    have RW:=s4 _ _ RU
    refine ⟨p3,D,_,_,rfl,rfl,(ao.upd hD) _ _ RW,ag,by rw[fN,fN];lia,?_⟩
    rw[Jm]
    have Tg:ao H3 (upd H4 D (.lst (jn vs))):=(W8.trans s4).trans (ao.upd hD)
    have RX:=(ao.upd (o:= .lst (jn vs)) hD) _ _ RW
    have ZC:H2 p3=none:=n3
    refine ⟨ps++vs,_,_,rfl,ag,fun p hp=>?_,by rw[XN,g9,Tj,gu Hm],by rw[V7];lia,fun a o ea=>by rw[az (ax ea ZC)];exact Tg _ _ (s3 a o ea)⟩
    rcases Qaf.mp hp with g | g
    ·exact ((qE p g).same Tg).ts (aR.mf RX)
    ·exact ((Ti p g).same (ao.upd hD)).ts (aR.mf RX)
  ·rintro σ H3 ⟨ps,Zx,Zy,rfl,DO,qE,g9,iT,s3⟩
   rw[bG]at g9 iT
   have JR:=s3 _ _ hV
   have W9:p3≠p1:=fun z=>by rw[z,hV]at n3;cases n3
   refine ⟨_,rfl, .inl ⟨rfl,_,aZ.of JR⟩,_,rfl,p1,_,_,rfl,rfl,JR,by rw[oz];lia,?_⟩
   refine ⟨os++[⟨p3,ps⟩],_,_,_,_,rfl,by rw[ag];exact congrArg (fun x=>some (HO.lst x)) (pZ os ⟨p3,ps⟩),fun o ho=>?_,?_,fun a o ea z=>by rw[az z];exact s3 _ _ (s2 a o ea z)⟩
   ·rcases Qaf.mp ho with g | g
    ·exact ⟨((JQ o g).1.same s3).mf JR (JQ o g).2,(JQ o g).2⟩
    ·rw[V8.mp g]
     exact ⟨nV.mf (o:=⟨p3,ps⟩) ⟨DO,qE⟩ JR W9,W9⟩
   ·rw[XN,DP, <-take_snoc GL,XN]
    exact congrArg (fun z=>_++[z]) g9
 ·rintro σ H2 ⟨os,bv,sv,cv,wv,rfl,hV,JQ,DP,s2⟩
  rw[aK,Qbb]at DP
  exact ⟨_,rfl,q p1 os H2 n1 hV (fun o ho=>(JQ o ho).1) DP fun a o ea=>s2 _ _ (JL a o ea) (ax ea n1)⟩
theorem Ad:bF P w K mg base fD 2 OL Ph ["_law_yard_here","_law_drawing"] (qh K):=by
 have qL:=tH (P:=P) (w:=w) (base:=base) T
 walk_at"k"
 refine T.SV.fn.ok dN (fun vs H Q E h=>xB h) (fun _ _ _ _ H vs Q E hr h=>?_)
 refine ⟨_,(ah (oI (pv 1) (cK (n:=2) K rfl rfl (aP (aC (i:=2) dN.nd rfl (Or.inl rfl)) (aP (aC (i:=3) dN.nd rfl (Or.inl rfl)) cJ))))
   (ah (aq (i:=4) dN.nd rfl (Or.inl rfl) (ak qL (hr.mono (by decide)) rfl T.Nj.mg T.Nj.fn.kp T.Nj.bd .nil ay (aa (pv 0) ae)))
   (ah (aq (i:=5) dN.nd rfl (Or.inl rfl) (cu ae))
   (ah (cD PassesOwn.never rfl (oX (pv 0)) (aC (i:=6) dN.nd rfl (Or.inr rfl)) (aj (bC (aD (Ep K rfl) (pv 6) (pv 4) (by with_unfolding_all rfl)) (aj (bY (ba K rfl Qam Qdg Qdf jD (pv 5) (aa (bA ["_law_strand","_law_end"] [none,some 6] (h7 K rfl (aN (bQ K rfl) (pv 3) (ba K rfl Qam PySem.F.slot_list_index PySem.F.type_list_index (rV K rfl) (pv 4) (aa (pv 6) ae)) (fun _ _=>rfl))) ⟨⟨rfl,rfl,by first | exact .inl rfl | exact .inr rfl⟩,trivial⟩ (fun _ _ _ _=>(aC (i:=0) (by decide+kernel:List.Nodup (["_law_strand","_law_end"]:List Str)) rfl (Or.inl rfl))) (fun _ _ _ _=>dI) (fun _ _ _ _=>(bc (aa (pv 1) (aa (pv 0) ae))))) ae)))) (ah (aq (i:=7) dN.nd rfl (Or.inl rfl) (aN (bQ K rfl) (pv 3) (ba K rfl Qam PySem.F.slot_list_index PySem.F.type_list_index (rV K rfl) (pv 4) (aa (ak aX (hr.mono (by decide)) rfl T.eV.mg T.eV.fn.kp T.eV.bd .nil ay (aa (pv 6) ae)) ae)) (fun _ _=>rfl)))
   (aj (bY (ba K rfl Qam Qdg Qdf jD (pv 5) (aa (bA ["_law_strand","_law_end"] [none,some 6] (Ij K rfl rfl T.z_reversed (aa (pv 7) ae)) ⟨⟨rfl,rfl,by first | exact .inl rfl | exact .inr rfl⟩,trivial⟩ (fun _ _ _ _=>(aC (i:=0) (by decide+kernel:List.Nodup (["_law_strand","_law_end"]:List Str)) rfl (Or.inl rfl))) (fun _ _ _ _=>dI) (fun _ _ _ _=>(bc (aa (pv 1) (aa (pv 0) ae))))) ae))))))))
   (aj (aF (pv 5))))))),?_⟩
 obtain ⟨y,dr,ws,os,rfl,hy,hz,DP,hd,q⟩:=h
 have hs:=Zs1
 have Vq:=fX hy
 have yS:=DP.1
 obtain ⟨⟨wt,ot,d1,d2,d3⟩,dO⟩:=id hd
 refine ⟨_,rfl,dr,_,rfl,bE.of d1,rfl,_,_,rfl,_,_,rfl,rfl,?_⟩
 refine ⟨_,rfl,y,rfl,by lia,fun p0 l0 H0 n0 W_ Xa GD s0=>?_⟩
 rw[pY hy.lt]at Xa
 have el:=uW Xa GD
 subst el
 refine ⟨by show 0<=sizeLine;decide,fun p1 n1=>?_⟩
 have ZD:H p1=none:=ao.free s0 n1
 have h01:p0≠p1:=ax W_ n1
 have JL:=s0.trans (ao.upd (o:=HO.lst []) n1)
 refine ⟨_,rfl,y,rfl,?_⟩
 refine Av (xs:=bW y) (fun i σ H'=> ∃(ev sv:Option V) (ps:List Pu),σ=[some (.str (S y)),some (.ref dr),some (.ref wt),some (.ref ot),some (.ref p0),some (.ref p1),ev,sv]/\H' p1=some (.lst (ny ps))/\(∀p∈ps,u_ H' p)/\ps.map Pu.is=(y.take i).flatMap (dE y os)/\ps.length<=100*i/\ao H0 H')
  ⟨none,none,[],rfl,ag,fun _ h=>absurd h Qae,rfl,Qaa _,ao.upd n1⟩ ?_ ?_
 ·rintro i x σ H1 hx ⟨ev,sv,ps,rfl,hV,qE,g9,iT,s1⟩
  obtain ⟨e,he,rfl⟩:=e_ hx
  have zI:=Qab he
  have hi:i<y.length:=(LK.mp he).1
  have BF:=hy.lt e zI
  obtain ⟨o,o1,o2,o3⟩:=p6 (os:=os) hy zI (by lia)
  have ofw:=(dO o o1).fw
  have sH:=s0.trans s1
  have GN:=s1 _ _ W_
  have ok:=(dO o o1).same sH
  have Qz:=FK hy zI
  have Xb:(y.take (i+1)).flatMap (dE y os)=(y.take i).flatMap (dE y os)++dE y os e:=by
   rw[<-take_snoc he,Qbi,Qc3,Qfo,Qaw]
  refine ⟨_,rfl,_,rfl,p0,_,rfl, .inl (aZ.of GN),rfl,Et _,_,rfl,bp (fun z=>?_) (fun z=>?_)⟩
  ·have Xc:e∈aU:=by
    have z':B8 (.str (S [e])) (bW (cY y))=true:=z
    rw[ue]at z'
    have:=(Qa5.mp ((eU y).mem_iff.mp (of_decide_eq_true z'))).2
    rw[fQ BF]at this
    exact of_decide_eq_true this
   have hc:e∉ie:=fun z=>ml e z Xc
   rw[(a_ e Xc).2.1]at o2 Qz
   have Q8:xn y os e=o.ps:=by
    unfold xn
    rw[KH e BF.mem,decide_eq_false hc,if_neg (by decide),o3]
   refine ⟨_,rfl, .inl ⟨rfl,_,aZ.of hV⟩,?_⟩
   refine ⟨_,rfl,_,rfl, .inl ⟨rfl,_,aZ.of GN⟩,_,rfl,p0,cY y,e,rfl,rfl,GN,Qz,ot,_,_,_,rfl,rfl,bE.of (sH _ _ d3),bL (FL o2),o.o,rfl,⟨_,bE.of ok.tp⟩,?_⟩
   refine fT (K:=K) (a:=o.o) (xs:=jn o.ps) (fun j acc H'=>ao H1 H'/\ ∃us:List Pu,acc=ny us/\(∀p∈us,u_ H' p)/\us.map Pu.is=((o.ps.take j).map fun p=>(p.c,p.i,e))/\us.length=j) (by rw[fN];lia) (fun i acc H' h=>bE.of (h.1 _ _ ok.tp)) ⟨ao.refl _,[],rfl,fun _ h=>absurd h Qae,rfl,rfl⟩ ?_ ?_
   ·rintro j x acc H2 Nx hj hx m7 ⟨s2,us,rfl,jE,jC,qN⟩ nx
    obtain ⟨p,kB,rfl⟩:=zE hx
    have RY:=(ok.pr p (Qab kB)).same s2
    refine ⟨⟨rfl,trivial⟩,cL ⟨_,rfl,_,rfl,by show 2<=sizeLine;decide,fun t nt=>?_⟩⟩
    have st:=ao.upd (o:=HO.tup [V.str (S [e]),V.ref p.t]) nt
    refine nx _ _ (by simpa using m7) ⟨s2.trans st,us++[⟨t,e,p⟩],xA us ⟨t,e,p⟩,fun u hu=>?_,?_,by simp[qN]⟩
    ·rcases Qaf.mp hu with g | g
     ·exact (jE u g).ts (aR.of st)
     ·rw[V8.mp g];exact ⟨ag,RY.same st⟩
    ·rw[XN,jC, <-take_snoc kB,XN];rfl
   ·rintro acc H2 D m7 ⟨s2,us,rfl,jE,jC,qN⟩ hD
    rw[fN]at jC qN
    rw[Qbb]at jC
    have sD:=ao.upd (o:=HO.lst (ny us)) hD
    have GO:=sD _ _ (s2 _ _ hV)
    refine ⟨p1,D,_,_,rfl,rfl,GO,ag,by rw[jN,jN];lia,?_⟩
    have tU:aR (upd H2 D (.lst (ny us))) (upd (upd H2 D (.lst (ny us))) p1 (.lst (ny ps++ny us))):=aR.mf GO
    have tA:=((aR.of s2).trans (aR.of sD)).trans tU
    refine ⟨_,_,ps++us,rfl,by rw[ag,Bw],fun u hu=>?_,?_,by rw[V7];lia,fun a u ea=>?_⟩
    ·rcases Qaf.mp hu with g | g
     ·exact (qE u g).ts tA
     ·exact (jE u g).ts ((aR.of sD).trans tU)
    ·rw[XN,g9,jC,Xb]
     unfold dE
     rw[Q8]
    ·rw[az (ax ea n1)];exact sD _ _ (s2 _ _ (s1 a u ea))
  ·have hc:e∈ie:=by
    have z': ¬B8 (.str (S [e])) (bW (cY y))=true:=z
    rw[ue]at z'
    rcases BF with g | g
    ·exact absurd (decide_eq_true ((eU y).mem_iff.mpr (Qa5.mpr ⟨zI,(a_ e g).1⟩))) z'
    ·exact g
   rw[(bJ e hc).2.1]at o2 Qz
   have Q8:xn y os e=o.ps.reverse:=by
    unfold xn
    rw[KH e BF.mem,decide_eq_true hc,if_pos rfl,o3]
   refine ⟨_,rfl,_,rfl, .inl ⟨rfl,_,aZ.of GN⟩,_,rfl,e,rfl,BF,p0,cY y,aB e,rfl,rfl,GN,Qz,ot,_,_,_,rfl,rfl,bE.of (sH _ _ d3),bL (FL o2),?_⟩
   refine ⟨_,rfl, .inl ⟨rfl,_,aZ.of hV⟩,?_⟩
   refine ⟨_,rfl,o.o,_,rfl,bE.of ok.tp,?_⟩
   refine Cv (K:=K) (a:=o.o) (xs:=jn o.ps) (fun j acc H'=>ao H1 H'/\ ∃us:List Pu,acc=ny us/\(∀p∈us,u_ H' p)/\us.map Pu.is=((o.ps.reverse.take j).map fun p=>(p.c,p.i,e))/\us.length=j) (by rw[fN];lia) (fun i acc H' h=>bE.of (h.1 _ _ ok.tp)) ⟨ao.refl _,[],rfl,fun _ h=>absurd h Qae,rfl,rfl⟩ ?_ ?_
   ·rintro j x acc H2 Nx hj hx m7 ⟨s2,us,rfl,jE,jC,qN⟩ nx
    rw[Jn]at hx
    obtain ⟨p,kB,rfl⟩:=zE hx
    have RY:=(ok.pr p (Qel.mp (Qab kB))).same s2
    refine ⟨⟨rfl,trivial⟩,cL ⟨_,rfl,_,rfl,by show 2<=sizeLine;decide,fun t nt=>?_⟩⟩
    have st:=ao.upd (o:=HO.tup [V.str (S [e]),V.ref p.t]) nt
    refine nx _ _ (by simpa using m7) ⟨s2.trans st,us++[⟨t,e,p⟩],xA us ⟨t,e,p⟩,fun u hu=>?_,?_,by simp[qN]⟩
    ·rcases Qaf.mp hu with g | g
     ·exact (jE u g).ts (aR.of st)
     ·rw[V8.mp g];exact ⟨ag,RY.same st⟩
    ·rw[XN,jC, <-take_snoc kB,XN];rfl
   ·rintro acc H2 D m7 ⟨s2,us,rfl,jE,jC,qN⟩ hD
    rw[fN]at jC qN
    rw[<-Qaz (as:=o.ps),Qbb]at jC
    have sD:=ao.upd (o:=HO.lst (ny us)) hD
    have GO:=sD _ _ (s2 _ _ hV)
    refine ⟨p1,D,_,_,rfl,rfl,GO,ag,by rw[jN,jN];lia,?_⟩
    have tU:aR (upd H2 D (.lst (ny us))) (upd (upd H2 D (.lst (ny us))) p1 (.lst (ny ps++ny us))):=aR.mf GO
    have tA:=((aR.of s2).trans (aR.of sD)).trans tU
    refine ⟨_,_,ps++us,rfl,by rw[ag,Bw],fun u hu=>?_,?_,by rw[V7];lia,fun a u ea=>?_⟩
    ·rcases Qaf.mp hu with g | g
     ·exact (qE u g).ts tA
     ·exact (jE u g).ts ((aR.of sD).trans tU)
    ·rw[XN,g9,jC,Xb]
     unfold dE
     rw[Q8]
    ·rw[az (ax ea n1)];exact sD _ _ (s2 _ _ (s1 a u ea))
 ·rintro σ H1 ⟨ev,sv,ps,rfl,hV,qE,g9,iT,s1⟩
  rw[aK]at iT g9
  rw[Qbb]at g9
  exact ⟨_,rfl,q p1 ps H1 ZD hV qE g9 (by lia) (s0.trans s1)⟩
theorem JS:bF P w K mg base fD 3 OM Pj ["_law_yard_here","_law_drawing"] (Bx K):=by
 have Dz:=Ad (P:=P) (w:=w) (base:=base) T
 walk_at"k"
 refine T.SX.fn.ok dH (fun vs H Q E h=>Gj h) (fun _ _ _ _ H vs Q E hr h=>?_)
 refine ⟨_,(ah (aq (i:=2) dH.nd rfl (Or.inl rfl) (cF (yW (P:=P) (w:=w) rfl rfl hr rfl) rfl T.z_dict boot_dict (aa (bA ["_law_k","_law_point"] [none,none] (we K rfl rfl T.z_enumerate (aa (ak Dz (hr.mono (by decide)) rfl T.SV.mg T.SV.fn.kp T.SV.bd .nil ay (aa (pv 0) (aa (pv 1) ae))) ae)) trivial (fun _ _ _ _=>(cK (n:=2) K rfl rfl (aP (aC (i:=0) (by decide+kernel:List.Nodup (["_law_k","_law_point"]:List Str)) rfl (Or.inl rfl)) (aP (aC (i:=1) (by decide+kernel:List.Nodup (["_law_k","_law_point"]:List Str)) rfl (Or.inl rfl)) cJ)))) (fun _ _ _ _=>dI) (fun _ _ _ _=>(bc (aa (pv 1) (aa (pv 0) ae))))) ae)))
   (ah (aq (i:=3) dH.nd rfl (Or.inl rfl) (cu ae))
   (ah (cD PassesOwn.never rfl (kR K rfl rfl T.z_enumerate (aa (aN (bQ K rfl) (pv 1) ai (fun _ _=>rfl)) ae)) (cK (n:=2) K rfl rfl (aP (aC (i:=4) dH.nd rfl (Or.inl rfl)) (aP (aC (i:=5) dH.nd rfl (Or.inl rfl)) cJ))) (aj (cD PassesOwn.never rfl (o6 rfl T.z_enumerate (aa (pv 5) ae)) (cK (n:=2) K rfl rfl (aP (aC (i:=6) dH.nd rfl (Or.inl rfl)) (aP (aC (i:=7) dH.nd rfl (Or.inl rfl)) cJ))) (ah (aq (i:=8) dH.nd rfl (Or.inl rfl) (av dv (av b6 (pv 6) ai) (ar aH rfl T.z_len Qac (aa (pv 5) ae))))
   (aj (bY (ba K rfl Qam Qa1 Qa0 b_ (pv 3) (aa (ar (qW K rfl) rfl T.z_sorted boot_sorted (aa (cu (aa (wA (P:=P) (w:=w) rfl rfl (EH hr) (pv 2) (bc (aa (ak aX (hr.mono (by decide)) rfl T.eV.mg T.eV.fn.kp T.eV.bd .nil ay (aa (aN gB (pv 5) (pv 8) (fun _ _=>rfl)) ae)) (aa (bc (aa (pv 4) (aa (pv 8) ae))) ae))) (fun _ _=>rfl)) (aa (wA (P:=P) (w:=w) rfl rfl (EH hr) (pv 2) (bc (aa (pv 7) (aa (bc (aa (pv 4) (aa (pv 6) ae))) ae))) (fun _ _=>rfl)) ae))) ae)) ae))))))))
   (ah (aq (i:=9) dH.nd rfl (Or.inl rfl) ai)
   (ah (cD PassesOwn.never rfl (we K rfl rfl T.z_enumerate (aa (pv 3) ae)) (cK (n:=2) K rfl rfl (aP (aC (i:=10) dH.nd rfl (Or.inl rfl)) (aP (aC (i:=11) dH.nd rfl (Or.inr rfl)) cJ))) (aj (aq (i:=9) dH.nd rfl (Or.inl rfl) (av aW (pv 9) (ar (aT K rfl) rfl T.z_len Qac (aa (bA ["_law_two","_law_one"] [none,some 11] (fi K rfl (bh (oY K rfl) (pv 3) ck (bf (pv 10)))) ⟨⟨rfl,rfl,by first | exact .inl rfl | exact .inr rfl⟩,trivial⟩ (fun _ _ _ _=>(aC (i:=0) (by decide+kernel:List.Nodup (["_law_two","_law_one"]:List Str)) rfl (Or.inl rfl))) (fun _ _ _ _=>(lZ (aD LW (vL gj gj (aN (bu K rfl) (pv 1) ai (fun _ _=>rfl)) (aN (bu K rfl) (pv 0) ai (fun _ _=>rfl)) (aN (bu K rfl) (pv 1) ai (fun _ _=>rfl))) (vL gj gj (aN (bu K rfl) (pv 1) ai (fun _ _=>rfl)) (aN (bu K rfl) (pv 0) ai (fun _ _=>rfl)) (aN (bu K rfl) (pv 1) ai (fun _ _=>rfl))) (aE _)))) (fun _ _ _ _=>(pv 0))) ae))))))
   (aj (aF (pv 9)))))))),?_⟩
 obtain ⟨y,dr,ws,os,rfl,hy,hz,x8,DP,hd,q⟩:=h
 have hs:=Zs1
 have Mi:=FP hy DP
 obtain ⟨⟨wt,ot,d1,d2,d3⟩,dO⟩:=id hd
 refine Ro fun N0 h0=>?_
 refine ⟨_,rfl,_,rfl,y,dr,ws,os,rfl,hy,hz,DP,hd,fun p1 ps H1 n1 h1 qE g9 iT s1=>?_⟩
 refine ⟨p1,rfl,⟨_,aZ.of h1⟩,?_⟩
 refine yY (K:=K) (a:=p1) (xs:=ny ps) (fun j acc H'=>ao H1 H'/\ ∃es:List Kp,acc=es.map (fun e=>V.ref e.t)/\(∀e∈es,AG H' e)/\es.map (·.k)=((fZ y os).take j).map lN/\(∀(m:Nat) (e:Kp),es[m]? =some e->e.n=((0+m:Nat):Int))/\es.length=j) (by rw[jN];lia) (fun i acc H' h=>aZ.of (h.1 _ _ h1)) ⟨ao.refl _,[],rfl,fun _ h=>absurd h Qae,rfl,fun m e h=>by simp at h,rfl⟩ ?_ ?_
 ·rintro j x acc H2 T2 Nx hx m7 ⟨s2,es,rfl,RZ,PH,Np,BF⟩ nT nx
  obtain ⟨p,hp,rfl⟩:=M_ hx
  have RY:=(qE p (Qab hp)).ts (aR.of s2)
  have ZE:(fZ y os)[j]? =some p.is:=by rw[<-g9,Qaj,hp];rfl
  have sT:=ao.upd (o:=HO.tup [V.int j,V.ref p.t]) nT
  refine ⟨T2,_,rfl,bE.of ag,rfl,_,_,rfl,_,_,rfl,rfl,trivial,cL ?_⟩
  refine ⟨_,rfl,_,rfl,by show 2<=sizeLine;decide,fun t nt=>?_⟩
  have st:=sT.trans (ao.upd (o:=HO.tup [V.ref p.t,V.int j]) nt)
  refine nx _ _ (by simpa using m7) ⟨s2.trans st,es++[⟨t,p.t,lN p.is,j⟩],by rw[XN];rfl,fun e he=>?_,?_,fun m e hm=>?_,by simp[BF]⟩
  ·rcases Qaf.mp he with g | g
   ·exact ⟨st _ _ (RZ e g).tp,(RZ e g).ky.ts (aR.of st)⟩
   ·rw[V8.mp g];exact ⟨ag,(RY.ts (aR.of st)).key⟩
  ·rw[XN,PH, <-take_snoc ZE,XN];rfl
  ·by_cases z:m<es.length
   ·rw[Qa9 z]at hm;exact Np m e hm
   ·have KI:m=es.length:=by
     have:=(LK.mp hm).1
     rw[V7,Qex]at this
     lia
    subst KI
    rw[Qbj (Sq _),Qfc]at hm
    cases hm
    show (j:Int)=_
    lia
 ·rintro acc H2 D m7 ⟨s2,es,rfl,RZ,PH,Np,BF⟩ hD
  have Vx:ps.length=(fZ y os).length:=by rw[<-g9,V6]
  rw[jN]at PH BF
  rw[Vx,Qbb]at PH
  have sD:=ao.upd (o:=HO.lst (es.map fun e=>V.ref e.t)) hD
  have R0: ∀e∈es,AG (upd H2 D (HO.lst (es.map fun e=>V.ref e.t))) e:=fun e he=>⟨sD _ _ (RZ e he).tp,(RZ e he).ky.ts (aR.of sD)⟩
  have ZF:(es.map (·.k)).Nodup:=by
   rw[PH]
   show (List.map _ _).Pairwise (· ≠ ·)
   rw[Qbg]
   exact Mi.imp fun {a b} g z=>g (xC z)
  refine ⟨D,es,rfl,ag,R0,ZF,by lia,fun dc ZG=>?_⟩
  have sC:=ao.upd (o:=Hb P w dc (Ct es)) ZG
  have Rv:upd (upd H2 D (HO.lst (es.map fun e=>V.ref e.t))) dc (Hb P w dc (Ct es)) dc=some (Hb P w dc (Ct es)):=ag
  have GP: ∀e∈Ct es,jb (upd (upd H2 D (HO.lst (es.map fun e=>V.ref e.t))) dc (Hb P w dc (Ct es))) e.1 e.2.1:=fun e he=>by
   unfold Ct at he
   obtain ⟨e',xR,rfl⟩:=Qav.mp he
   exact (R0 e' xR).ky.ts (aR.of sC)
  have s3:ao H (upd (upd H2 D (HO.lst (es.map fun e=>V.ref e.t))) dc (Hb P w dc (Ct es))):=((s1.trans s2).trans sD).trans sC
  generalize upd (upd H2 D (HO.lst (es.map fun e=>V.ref e.t))) dc (Hb P w dc (Ct es))=H3 at Rv GP s3 ⊢
  have K1: ∀x∈fZ y os,((Ct es).find? fun z=>decide (z.1=lN x)).map (·.2.2)=some (((fZ y os).idxOf x:Nat):Int):=fun x hx=>by
   have:=KN (fZ y os) es 0 PH Np hx
   rw[Qeo]at this
   exact this
  refine h0 _ _ ⟨by show 0<=sizeLine;decide,fun p5 n5=>?_⟩
  refine Mr fun N1 h1=>?_
  have PB:=ao.upd (o:=HO.lst []) n5
  have Zv:=x8.sd
  have KR:=s3 _ _ d1
  have JE:=s3 _ _ d2
  refine ⟨_,rfl,dr,_,0,_,rfl,rfl,bE.of (PB _ _ KR),rfl,?_⟩
  refine ⟨wt,rfl,⟨_,bE.of (PB _ _ JE)⟩,?_⟩
  refine jG (K:=K) (a:=wt) (xs:=iR ws) (fun j σ H'=> ∃(us:List Ch) (cv wv iv lv bv:Option V),σ=[some (.str (S y)),some (.ref dr),some (.ref dc),some (.ref p5),cv,wv,iv,lv,bv,none,none,none]/\H' p5=some (.lst (q0 us))/\(∀u∈us,xE H' u/\u.t≠p5)/\us.map Ch.v=gv (fZ y os) ws j/\us.length<=12*j/\ao H3 H')
   ⟨[],none,none,none,none,none,rfl,ag,fun _ h=>absurd h Qae,rfl,Qaa _,PB⟩ (fun j σ H' _ ⟨_,_,_,_,_,_,_,_,_,_,_,h⟩=>bE.of (h _ _ JE)) ?_ ?_
  ·rintro j x σ H4 T hx ⟨us,cv,wv,iv,lv,bv,rfl,RW,jE,jC,qN,s4⟩ nT
   have hj:j<ws.length:=by
    have:=(LK.mp hx).1
    rwa [bG]at this
   rw[jd hj]at hx
   cases hx
   have Hm:ws[j]? =some ws[j]:=LJ hj
   obtain ⟨PC,kA⟩:=x8.all _ (Qay hj)
   generalize ws[j]=w0 at Hm PC kA ⊢
   have sT:=ao.upd (o:= .tup [.int j, .str (S w0)]) nT
   walk_at"r"
   refine ⟨_,rfl,w0,rfl,?_⟩
   refine v_ (l:=w0) (fun i σ H'=> ∃(us:List Ch) (iv lv bv:Option V),σ=[some (.str (S y)),some (.ref dr),some (.ref dc),some (.ref p5),some (.int j),some (.str (S w0)),iv,lv,bv,none,none,none]/\H' p5=some (.lst (q0 us))/\(∀u∈us,xE H' u/\u.t≠p5)/\us.map Ch.v=gv (fZ y os) ws j++mI (fZ y os) j w0 i/\us.length<=12*j+i/\ao H3 H')
    ⟨us,iv,lv,bv,rfl,sT _ _ RW,fun u hu=>⟨sT _ _ (jE u hu).1,(jE u hu).2⟩,by rw[jC];show _=_++[];rw[Qaw],by lia,s4.trans sT⟩ ?_ ?_
   ·clear jE jC qN RW s4 sT nT
    rintro i l σ H5 T5 hl ⟨us,iv,lv,bv,rfl,NI,jE,jC,qN,s5⟩ nT
    have hi:=(LK.mp hl).1
    have sT:=ao.upd (o:=HO.tup [V.int i,V.str (S [l])]) nT
    refine ⟨T5,_,rfl,bE.of ag,rfl,_,_,rfl,_,_,rfl,rfl,?_⟩
    show yh _ _ _ _ _
    refine nh fun Dx Nt=>?_
    have JT:=sT _ _ NI
    have Vy:=s5.trans sT
    have R1: ∀u∈us,xE (upd H5 T5 (HO.tup [V.int i,V.str (S [l])])) u/\u.t≠p5:=fun u hu=>⟨sT _ _ (jE u hu).1,(jE u hu).2⟩
    generalize upd H5 T5 (HO.tup [V.int i,V.str (S [l])])=H6 at JT Vy R1 ⊢
    have iT:=FR hi
    have e1:w0[uX w0.length i]? =some (w0.getD (uX w0.length i) 0):=by rw[XO,LJ iT];rfl
    have e2:w0.getD i 0=l:=by rw[XO,hl];rfl
    have m1:=K1 _ (FQ hy DP Hm e1 (PC _ (Qab e1)) (.inr rfl))
    have m2:=K1 _ (FQ hy DP Hm hl (PC _ (Qab hl)) (.inl rfl))
    have NC:(0:Int)<(w0.length:Int):=by lia
    have ZH:=Bj hi
    refine ⟨_,rfl,_,_,rfl,rfl,_,rfl,w0,rfl,by lia,_,_,rfl,rfl,NC,?_⟩
    have Vz:(fun i j:Int=>V.int (i%j)) ((i:Int) - 1) (w0.length:Int)=V.int ((uX w0.length i:Nat):Int):=congrArg V.int ZH
    rw[Vz]
    have xQ:=hy.lt _ (PC _ (Qab e1))
    have Tn:fz (fZ y os) j w0 i=(j,i,(fZ y os).idxOf (j,uX w0.length i,aB (w0.getD (uX w0.length i) 0)),(fZ y os).idxOf (j,i,l)):=by unfold fz;rw[e2]
    generalize w0.getD (uX w0.length i) 0=l1 at e1 m1 xQ Tn
    generalize (fZ y os).idxOf (j,uX w0.length i,aB l1)=k1 at m1 Tn
    generalize (fZ y os).idxOf (j,i,l)=k2 at m2 Tn
    refine ⟨_,rfl, .inl ⟨rfl,_,aZ.of JT⟩,?_⟩
    refine ⟨_,rfl,_,rfl,_,rfl,w0,_,l1,rfl,rfl,by lia,bL e1,l1,rfl,xQ,_,rfl,_,rfl,by show 2<=sizeLine;decide,fun t1 ZI=>⟨by show 2<=sizeLine;decide,fun t2 PD=>?_⟩⟩
    have vD:=ao.upd (o:=HO.tup [V.int j,V.int (uX w0.length i:Nat)]) ZI
    have tP:=ao.upd (o:=HO.tup [V.str (S [aB l1]),V.ref t1]) PD
    have Xd:jb (upd (upd H6 t1 (HO.tup [V.int j,V.int (uX w0.length i:Nat)])) t2 (HO.tup [V.str (S [aB l1]),V.ref t1])) (lN (j,uX w0.length i,aB l1)) t2:=⟨t1,ag,tP _ _ ag⟩
    have To:=vD.trans tP
    generalize upd (upd H6 t1 (HO.tup [V.int j,V.int (uX w0.length i:Nat)])) t2 (HO.tup [V.str (S [aB l1]),V.ref t1])=H7 at To Xd ⊢
    have VA:=Vy.trans To
    refine ⟨dc,_,_,t2,_,rfl,VA _ _ Rv,fun e he=>(GP e he).ts (aR.of VA),rfl,Xd,m1,?_⟩
    refine ⟨_,rfl,_,rfl,_,rfl,_,rfl,by show 2<=sizeLine;decide,fun t3 ZJ=>⟨by show 2<=sizeLine;decide,fun t4 ZK=>?_⟩⟩
    have Lo:=ao.upd (o:=HO.tup [V.int j,V.int i]) ZJ
    have Xe:=ao.upd (o:=HO.tup [V.str (S [l]),V.ref t3]) ZK
    have Xf:jb (upd (upd H7 t3 (HO.tup [V.int j,V.int i])) t4 (HO.tup [V.str (S [l]),V.ref t3])) (lN (j,i,l)) t4:=⟨t3,ag,Xe _ _ ag⟩
    have Tp:=Lo.trans Xe
    generalize upd (upd H7 t3 (HO.tup [V.int j,V.int i])) t4 (HO.tup [V.str (S [l]),V.ref t3])=H9 at Tp Xf ⊢
    have Xg:=VA.trans Tp
    refine ⟨dc,_,_,t4,_,rfl,Xg _ _ Rv,fun e he=>(GP e he).ts (aR.of Xg),rfl,Xf,m2,by show 2<=sizeLine;decide,fun t5 ZL=>?_⟩
    have G0:=ao.upd (o:=HO.lst [V.int (k1:Nat),V.int (k2:Nat)]) ZL
    refine ⟨t5,[((k1:Nat):Int),((k2:Nat):Int)],rfl,aZ.of ag,by show 2<64;decide,fun t6 ms VB pm pw=>?_⟩
    have em:ms=JD (fz (fZ y os) j w0 i):=Nb (by rw[Tn];exact pm) pw
    subst em
    have ZM:=ao.upd (o:=HO.lst ((JD (fz (fZ y os) j w0 i)).map V.int)) VB
    have BG:upd (upd H9 t5 (HO.lst [V.int (k1:Nat),V.int (k2:Nat)])) t6 (HO.lst ((JD (fz (fZ y os) j w0 i)).map V.int)) t6=some (.lst ((JD (fz (fZ y os) j w0 i)).map V.int)):=ag
    have Tq:=((To.trans Tp).trans G0).trans ZM
    have R3:=Tq _ _ JT
    have Xh:t6≠p5:=fun z=>by rw[z,((To.trans Tp).trans G0) _ _ JT]at VB;cases VB
    generalize upd (upd H9 t5 (HO.lst [V.int (k1:Nat),V.int (k2:Nat)])) t6 (HO.lst ((JD (fz (fZ y os) j w0 i)).map V.int))=HA at Tq R3 BG ⊢
    refine ⟨p5,_,_,rfl,rfl,R3,by rw[lO];lia,?_⟩
    refine Nt _ _ ⟨us++[⟨t6,fz (fZ y os) j w0 i⟩],_,_,_,rfl,by rw[ag];exact congrArg (fun x=>some (HO.lst x)) (xD us ⟨t6,fz (fZ y os) j w0 i⟩),fun u hu=>?_,by rw[XN,jC,xo,Qb9];rfl,by rw[V7];show us.length+1<=_;lia,fun a o ea=>by rw[az (ax ea n5)];exact Tq _ _ (Vy a o ea)⟩
    rcases Qaf.mp hu with g | g
    ·obtain ⟨g1,g2⟩:=R1 u g
     exact ⟨by unfold xE;rw[az g2];exact Tq _ _ g1,g2⟩
    ·rw[V8.mp g]
     exact ⟨by unfold xE;rw[az Xh];exact BG,Xh⟩
   ·rintro σ H5 ⟨us,iv,lv,bv,rfl,NI,jE,jC,qN,s5⟩
    exact ⟨us,_,_,_,_,_,rfl,NI,jE,by rw[jC,uY Hm],by lia,s5⟩
  ·rintro σ H4 ⟨us,cv,wv,iv,lv,bv,rfl,NI,jE,jC,qN,s4⟩
   rw[bG]at jC qN
   have VC:us.map Ch.v=j8 y ws os:=jC
   refine h1 _ _ ?_
   refine Mr fun N2 h2=>?_
   refine ⟨_,rfl,p5,rfl,⟨_,aZ.of NI⟩,?_⟩
   refine Ci (K:=K) (a:=p5) (xs:=q0 us) (fun k σ H'=> ∃v10 v11:Option V,σ=[some (.str (S y)),some (.ref dr),some (.ref dc),some (.ref p5),cv,wv,iv,lv,bv,some (.int (vd ((j8 y ws os).take k):Nat)),v10,v11]/\ao H4 H') ⟨none,none,rfl,ao.refl _⟩ (fun k σ H' _ ⟨_,_,_,h⟩=>aZ.of (h _ _ NI)) ?_ ?_
   ·rintro k x σ H5 T hx ⟨v10,v11,rfl,s5⟩ nT
    obtain ⟨u,hu,rfl⟩:=Gk hx
    have sT:=s5.trans (ao.upd (o:= .tup [.int k, .ref u.t]) nT)
    walk_at"r"
    generalize upd H5 T (.tup [.int k, .ref u.t])=H6 at sT ⊢
    refine nh fun Dx Nt=>?_
    have hk:k<us.length:=(LK.mp hu).1
    have ZN:(j8 y ws os)[k]? =some u.v:=by rw[<-VC,Qaj,hu];rfl
    refine ⟨_,rfl,_,rfl,_,rfl,_,rfl,p5,_,rfl,aZ.of (sT _ _ NI),fun p1 n1=>?_⟩
    have ec:nH (q0 us) none (some (k:Int))=q0 (us.take k):=by
     show cut (q0 us) none (some (k:Int))=_
     rw[cX]
     unfold q0
     rw[Qej]
    rw[ec]
    have s7:=sT.trans (ao.upd (o:= .lst (q0 (us.take k))) n1)
    have hV:upd H6 p1 (.lst (q0 (us.take k))) p1=some (.lst (q0 (us.take k))):=ag
    generalize upd H6 p1 (.lst (q0 (us.take k)))=H7 at s7 hV ⊢
    have hsz:(q0 (us.take k)).length<sizeLine:=by rw[lO,Qak];lia
    have JU:xE H7 u:=s7 _ _ (jE u (Qab hu)).1
    refine ⟨p1,rfl,⟨_,aZ.of hV⟩,?_⟩
    refine jF (K:=K) (a:=p1) (xs:=q0 (us.take k)) (fun j acc H'=>H'=H7/\acc=q0 (((us.take k).take j).filter fun z=>meets u.v z.v)) hsz (fun j acc H' h=>by rw[h.1];exact aZ.of hV) ⟨rfl,rfl⟩ ?_ ?_
    ·rintro j x acc H8 Nx hj hx gN ⟨rfl,rfl⟩ nx
     obtain ⟨z,Rc,rfl⟩:=Gk hx
     have PJ:xE H8 z:=s7 _ _ (jE z (Qbx (Qab Rc))).1
     have e:=Dg (p:=fun z:Ch=>meets u.v z.v) Rc
     have cm:=Gi u.v z.v
     unfold xE JD at JU PJ
     generalize ((min u.v.2.2.1 u.v.2.2.2:Nat):Int)=lo at JU cm
     generalize ((max u.v.2.2.1 u.v.2.2.2:Nat):Int)=hi at JU cm
     generalize ((min z.v.2.2.1 z.v.2.2.2:Nat):Int)=z0 at PJ cm
     generalize ((max z.v.2.2.1 z.v.2.2.2:Nat):Int)=z1 at PJ cm
     refine ⟨⟨rfl,trivial⟩,?_⟩
     refine Rp fun Q' hQ=>?_
     have fin: ∀b,b=meets u.v z.v->Q' b H8:=fun b eb=>hQ _ _ (by
      subst eb
      by_cases zm:meets u.v z.v=true
      ·exact Iy zm ⟨_,rfl,nx _ _ (by simpa using gN) ⟨rfl,by rw[e,if_pos zm, <-xD]⟩⟩
      ·exact uC (Qdz _ |>.mp zm) (nx _ _ (Qcs gN) ⟨rfl,by rw[e,if_neg zm,Qaw]⟩))
     clear hQ nx gN e
     refine ⟨_,rfl,u.t,_,_,_,rfl,rfl,aZ.of JU,rfl,_,rfl,z.t,_,_,_,rfl,rfl,aZ.of PJ,rfl,_,_,rfl,rfl,_,rfl,bp (fun a1=>?_) (fun a1=>?_)⟩
     ·refine ⟨_,rfl,u.t,_,_,_,rfl,rfl,aZ.of JU,rfl,_,_,rfl,rfl,_,rfl,u.t,_,_,_,rfl,rfl,aZ.of JU,rfl,_,rfl,z.t,_,_,_,rfl,rfl,aZ.of PJ,rfl,_,_,rfl,rfl,_,rfl,bp (fun a2=>?_) (fun a2=>?_)⟩
      ·exact ⟨_,rfl,u.t,_,_,_,rfl,rfl,aZ.of JU,rfl,_,_,rfl,rfl,_,_,rfl,rfl,_,rfl,fin _ ((YG _ (decide (z0<hi)) _ (decide (z1<hi)) a1 a2).trans cm)⟩
      ·exact ⟨_,_,rfl,rfl,_,rfl,fin _ ((YH _ (decide (z0<hi)) _ (decide (z1<hi)) a1 a2).trans cm)⟩
     ·refine ⟨_,rfl,u.t,_,_,_,rfl,rfl,aZ.of JU,rfl,_,rfl,z.t,_,_,_,rfl,rfl,aZ.of PJ,rfl,_,_,rfl,rfl,_,rfl,bp (fun a2=>?_) (fun a2=>?_)⟩
      ·exact ⟨_,rfl,u.t,_,_,_,rfl,rfl,aZ.of JU,rfl,_,_,rfl,rfl,_,_,rfl,rfl,_,rfl,fin _ ((YI _ (decide (z0<hi)) _ (decide (z1<hi)) a1 a2).trans cm)⟩
      ·exact ⟨_,_,rfl,rfl,_,rfl,fin _ ((YJ _ (decide (z0<hi)) _ (decide (z1<hi)) a1 a2).trans cm)⟩
    ·rintro acc H8 D gN ⟨rfl,rfl⟩ hD
     rw[lO,Qbb]
     refine ⟨D,_,rfl, .inl (aZ.of ag),_,_,rfl,rfl,?_⟩
     refine Nt _ _ ⟨some (.int k),some (.ref u.t),?_,s7.trans (ao.upd hD)⟩
     have e3:=Df ZN
     have e4:((j8 y ws os).take k).filter (meets u.v)=((us.take k).filter fun z=>meets u.v z.v).map Ch.v:=by
      rw[<-VC, <-Qej,Qeu]
      rfl
     rw[e3,e4,V6,lO]
     rfl
   ·rintro σ H5 ⟨v10,v11,rfl,s5⟩
    rw[lO,show us.length=(j8 y ws os).length by rw[<-VC,V6],Qbb]
    exact h2 _ _ ⟨_,rfl,q H5 ((s3.trans s4).trans s5)⟩
theorem Ae:bF P w K mg base fD 2 OF Pa ["_law_yard_here","_law_w","_law_i","_law_v","_law_j"] (pP K):=by
 walk_at"k"
 have fB:=z8 (P:=P) (w:=w) (base:=base) T
 refine T.SO.fn.ok eW (fun vs H Q E h=>w4 h) (fun _ _ _ _ H vs Q E hr h=>?_)
 refine ⟨_,(ah (oI (bc (aa (ak aX (hr.mono (by decide)) rfl T.eV.mg T.eV.fn.kp T.eV.bd .nil ay (aa (ak fB (hr.mono (by decide)) rfl T.gh.mg T.gh.fn.kp T.gh.bd .nil ay (aa (pv 1) (aa (av b6 (pv 2) ai) ae))) ae)) (aa (ak fB (hr.mono (by decide)) rfl T.gh.mg T.gh.fn.kp T.gh.bd .nil ay (aa (pv 1) (aa (pv 2) ae))) ae))) (cK (n:=2) K rfl rfl (aP (aC (i:=5) eW.nd rfl (Or.inl rfl)) (aP (aC (i:=6) eW.nd rfl (Or.inr rfl)) cJ))))
   (ah (yi (i:=7) (j:=8) rfl eW.nd rfl rfl (by decide) rfl rfl (aa (ak aX (hr.mono (by decide)) rfl T.eV.mg T.eV.fn.kp T.eV.bd .nil ay (aa (ak fB (hr.mono (by decide)) rfl T.gh.mg T.gh.fn.kp T.gh.bd .nil ay (aa (pv 3) (aa (av b6 (pv 4) ai) ae))) ae)) (aa (ak fB (hr.mono (by decide)) rfl T.gh.mg T.gh.fn.kp T.gh.bd .nil ay (aa (pv 3) (aa (pv 4) ae))) ae)) rfl)
   (ah (bC (aD gj (ar wo rfl T.z_len Qac (aa (cF (Co K rfl rfl) rfl T.z_set boot_set (aa (cu (aa (pv 5) (aa (pv 6) (aa (pv 7) (aa (pv 8) ae))))) ae)) ae)) ai (aE _)) (aj (aF rA)) aV)
   (ah (aq (i:=9) eW.nd rfl (Or.inl rfl) (ba K rfl Qao Qbq Qbp dQ (pv 0) (aa (pv 5) ae)))
   (ah (aq (i:=10) eW.nd rfl (Or.inr rfl) (av eY (bh hZ (pv 0) (bf (pv 9)) ck) (bh hZ (pv 0) ck (bf (pv 9)))))
   (aj (aF (d_ eQ (ar (aT K rfl) rfl T.z_len Qac (aa (bA ["_law_end","_law_rest","_law_b"] [none,some 10,some 6] (h7 K rfl (bc (aa (pv 7) (aa (pv 8) ae)))) ⟨⟨rfl,rfl,by first | exact .inl rfl | exact .inr rfl⟩,⟨⟨rfl,rfl,by first | exact .inl rfl | exact .inr rfl⟩,trivial⟩⟩ (fun _ _ _ _=>(aC (i:=0) (by decide+kernel:List.Nodup (["_law_end","_law_rest","_law_b"]:List Str)) rfl (Or.inl rfl))) (fun _ _ _ _=>(lZ (aD gj (ba K rfl Qao Qbq Qbp dQ (pv 1) (aa (pv 0) ae)) (ba K rfl Qao Qbq Qbp dQ (pv 1) (aa (pv 2) ae)) (aE _)))) (fun _ _ _ _=>(pv 0))) ae)) ai (aE _))))))))),?_⟩
 obtain ⟨y,w,i,v,j,rfl,hy,hz,hw,hv,wz,vz,hi,hj,q⟩:=h
 have hs:=Zs1
 have lw: ∀k,Lt (rd w k):=fun k=>hy.lt _ (hw.rd k)
 have lv: ∀k,Lt (rd v k):=fun k=>hy.lt _ (hv.rd k)
 refine ⟨_,rfl,_,rfl,_,_,rfl,rfl,w,_,rfl,hw.ne,by lia,_,rfl,lw _,?_⟩
 refine ⟨_,rfl,_,rfl,w,_,rfl,hw.ne,by lia,by show 2<=sizeLine;decide,fun t nt=>?_⟩
 refine ⟨t,_,rfl,bE.of ag,rfl,_,_,rfl,_,_,rfl,rfl,?_⟩
 refine ⟨_,rfl,_,rfl,_,_,rfl,rfl,v,_,rfl,hv.ne,by lia,_,rfl,lv _,?_⟩
 refine ⟨_,rfl,_,rfl,v,_,rfl,hv.ne,by lia,_,_,rfl,?_⟩
 have ma:=hy.cl _ (hw.rd ((i:Int) - 1))
 have mb:=hw.rd i
 have mc:=hy.cl _ (hv.rd ((j:Int) - 1))
 have md:=hv.rd j
 have ab:rd w i≠aB (rd w ((i:Int) - 1)):=hw.red i
 have cd:rd v j≠aB (rd v ((j:Int) - 1)):=hv.red j
 unfold Kw at q
 have s1:=ao.upd (o:= .tup [.str (S [aB (rd w ((i:Int) - 1))]), .str (S [rd w i])]) nt
 generalize upd H t (.tup [.str (S [aB (rd w ((i:Int) - 1))]), .str (S [rd w i])])=H1 at s1 ⊢
 generalize aB (rd w ((i:Int) - 1))=a at q ma ab ⊢
 generalize rd w i=b at q mb ab ⊢
 generalize aB (rd v ((j:Int) - 1))=c at q mc cd ⊢
 generalize rd v j=d at q md cd ⊢
 unfold ac at q
 refine ⟨_,rfl,_,rfl,_,rfl,_,rfl,by show 4<=sizeLine;decide,fun l nl=>?_⟩
 refine ⟨l,[[a],[b],[c],[d]],rfl,aZ.of ag,by show 4<=20;decide,fun st ns=>?_⟩
 have s3:=s1.trans ((ao.upd (o:= .lst [.str (S [a]), .str (S [b]), .str (S [c]), .str (S [d])]) nl).trans (ao.upd (o:=Cn st (dd [] (([[a],[b],[c],[d]]:List (List Nat)).map S)).length) ns))
 have sd:=Fd (a:=a) (b:=b) (c:=c) (d:=d)
 refine ⟨st,_,rfl,ag,by lia,_,_,rfl,rfl,_,rfl,bp (fun z=>?_) (fun z=>?_)⟩
 ·have hn: ¬(a≠b/\a≠c/\a≠d/\b≠c/\b≠d/\c≠d):=fun g=>by
   rw[xa.mpr g]at z
   exact absurd (of_decide_eq_true z) (by decide)
  have e:c=a\/c=b\/d=a\/d=b:=Classical.byContradiction fun g=>hn ⟨Ne.symm ab,fun g2=>g (.inl g2.symm),fun g2=>g (.inr (.inr (.inl g2.symm))),fun g2=>g (.inr (.inl g2.symm)),fun g2=>g (.inr (.inr (.inr g2.symm))),Ne.symm cd⟩
  rw[if_pos e]at q
  exact q _ s3
 ·have hn:a≠b/\a≠c/\a≠d/\b≠c/\b≠d/\c≠d:=xa.mp (by
   have: ¬((dd ([]:List Str) (([[a],[b],[c],[d]]:List (List Nat)).map S)).length:Int)<4:=fun g=>z (decide_eq_true g)
   lia)
  obtain ⟨h1,h2,h3,h4,h5,h6⟩:=hn
  rw[if_neg (fun g=>g.elim (fun g=>h2 g.symm) fun g=>g.elim (fun g=>h4 g.symm) fun g=>g.elim (fun g=>h3 g.symm) fun g=>h5 g.symm)]at q
  generalize upd (upd H1 l (.lst [.str (S [a]), .str (S [b]), .str (S [c]), .str (S [d])])) st (Cn st (dd [] (([[a],[b],[c],[d]]:List (List Nat)).map S)).length)=H3 at s3 ⊢
  walk_at"R"
  walk_at"V"
  walk_at"4"
  refine ⟨_,rfl,rfl,_,rfl,y,a,rfl,rfl,ma,?_⟩
  refine ⟨_,rfl,_,rfl,_,rfl,y,rfl,by lia,_,rfl,_,rfl,_,rfl,y,rfl,by lia,_,_,rfl,rfl,hlen,?_⟩
  rw[Ab]
  refine ⟨_,rfl,_,rfl,by show 2<=sizeLine;decide,fun t2 PD=>?_⟩
  have JK:upd H3 t2 (.tup [.str (S [c]), .str (S [d])]) t2=some (.tup (bW [c,d])):=ag
  have s4:=s3.trans (ao.upd (o:= .tup [.str (S [c]), .str (S [d])]) PD)
  generalize upd H3 t2 (.tup [.str (S [c]), .str (S [d])])=H4 at JK s4 ⊢
  refine ⟨t2,rfl,⟨_,bE.of JK⟩,?_⟩
  refine fT (K:=K) (a:=t2) (xs:=bW [c,d]) (fun n acc H'=>H'=H4/\acc=bW (([c,d].take n).filter fun e=>gr y a e b)) (by rw[aK];show 2<sizeLine;decide) (fun n acc H' h=>by rw[h.1];exact bE.of JK) ⟨rfl,rfl⟩ ?_ ?_
  ·rintro n x acc H5 Nx hn hx gN ⟨rfl,rfl⟩ nx
   obtain ⟨e,he,rfl⟩:=e_ hx
   have zI:e∈y:=by
    rcases Qah.mp (Qab he) with g | g
    ·rw[g];exact mc
    ·rw[V8.mp g];exact md
   have ef:=gp (p:=fun e=>gr y a e b) he
   refine ⟨⟨rfl,rfl,trivial⟩,?_⟩
   refine ⟨_,rfl,rfl,_,rfl,_,e,rfl,rfl,hm e zI,_,rfl,rfl,_,rfl,_,b,rfl,rfl,hm b mb,_,_,rfl,rfl,_,rfl,?_⟩
   have eg:=wX (y:=y) hy.nd ma zI mb
   refine bp (fun z2=>?_) (fun z2=>?_)
   ·rw[if_pos (eg.symm.trans z2)]at ef
    exact ⟨_,rfl,nx _ _ (by simpa using gN) ⟨rfl,by rw[ef, <-cR]⟩⟩
   ·rw[if_neg (fun g=>z2 (eg.trans g)),Qaw]at ef
    exact nx _ _ (Qcs gN) ⟨rfl,by rw[ef]⟩
  ·rintro acc H5 D gN ⟨rfl,rfl⟩ hD
   rw[aK,Qbb]
   refine ⟨D,_,rfl, .inl (aZ.of ag),_,_,rfl,rfl,?_⟩
   have e1:=MI (gr y a c b) (gr y a d b) c d (fun e=>gr y a e b) rfl rfl
   rw[<-e1]at q
   have:=q _ (s4.trans (ao.upd (o:= .lst (bW ([c,d].filter fun e=>gr y a e b))) hD))
   rw[aK]
   exact this
theorem DA:bF P w K mg base fD 1 OD O9 ["_law_yard_here","_law_x","_law_y","_law_z"] (sJ K):=by
 refine T.Nk.fn.ok mY (fun vs H Q E h=>zi h) (fun _ _ _ _ H vs Q E hr h=>?_)
 refine ⟨_,(ah (aq (i:=4) mY.nd rfl (Or.inl rfl) (ba K rfl Qao Qbq Qbp dQ (pv 0) (aa (pv 1) ae)))
   (ah (aq (i:=5) mY.nd rfl (Or.inl rfl) (av eY (bh hZ (pv 0) (bf (pv 4)) ck) (bh hZ (pv 0) ck (bf (pv 4)))))
   (aj (aF (d_ gj (ba K rfl Qao Qbq Qbp dQ (pv 5) (aa (pv 2) ae)) (ba K rfl Qao Qbq Qbp dQ (pv 5) (aa (pv 3) ae)) (aE _)))))),?_⟩
 obtain ⟨y,a,b,c,rfl,hn,ha,hb,hc,hz,q⟩:=h
 have hs:=Zs1
 walk_at"R"
 walk_at"V"
 walk_at"4"
 refine ⟨_,rfl,rfl,_,rfl,y,a,rfl,rfl,ha,?_⟩
 refine ⟨_,rfl,_,rfl,_,rfl,y,rfl,by lia,_,rfl,_,rfl,_,rfl,y,rfl,by lia,_,_,rfl,rfl,hlen,?_⟩
 rw[Ab]
 refine ⟨_,rfl,rfl,_,rfl,_,b,rfl,rfl,hm b hb,_,rfl,rfl,_,rfl,_,c,rfl,rfl,hm c hc,_,_,rfl,rfl,?_⟩
 rw[<-wX hn ha hb hc]at q
 exact q
theorem Af:bF P w K mg base fD 3 OH Pc ["_law_yard_here","_law_w","_law_i","_law_v","_law_j","_law_counter"] (pR K):=by
 have DB:=z9 (P:=P) (w:=w) (base:=base) T
 walk_at"k"
 have fB:=z8 (P:=P) (w:=w) (base:=base) T
 have xN:=DA (P:=P) (w:=w) (base:=base) T
 refine T.Nl.fn.ok de (fun vs H Q E h=>w6 h) (fun _ _ _ _ H vs Q E hr h=>?_)
 refine ⟨_,(ah (aq (i:=6) de.nd rfl (Or.inl rfl) (ak DB (hr.mono (by decide)) rfl T.SQ.mg T.SQ.fn.kp T.SQ.bd .nil ay (aa (pv 1) (aa (pv 2) (aa (pv 3) (aa (pv 4) (aa (pv 5) ae)))))))
   (ah (yi (i:=7) (j:=8) rfl de.nd rfl rfl (by decide) rfl rfl (aa (ak aX (hr.mono (by decide)) rfl T.eV.mg T.eV.fn.kp T.eV.bd .nil ay (aa (ak fB (hr.mono (by decide)) rfl T.gh.mg T.gh.fn.kp T.gh.bd .nil ay (aa (pv 1) (aa (av b6 (pv 2) ai) ae))) ae)) (aa (ak aX (hr.mono (by decide)) rfl T.eV.mg T.eV.fn.kp T.eV.bd .nil ay (aa (ak fB (hr.mono (by decide)) rfl T.gh.mg T.gh.fn.kp T.gh.bd .nil ay (aa (pv 3) (aa (av b6 (pv 4) ai) ae))) ae)) ae)) rfl)
   (ah (bC (eM (pv 5)) (aj (aq (i:=8) de.nd rfl (Or.inl rfl) (ak fB (hr.mono (by decide)) rfl T.gh.mg T.gh.fn.kp T.gh.bd .nil ay (aa (pv 3) (aa (av aW (pv 4) ai) ae))))) aV)
   (ah (bC (PW.pt (rB (aD gj (pv 6) ai (aE _)) (tN (aD gC (pv 7) (pv 8) (aE _))))) (aj (aF ai)) aV)
   (ah (aq (i:=9) de.nd rfl (Or.inl rfl) (ak fB (hr.mono (by decide)) rfl T.gh.mg T.gh.fn.kp T.gh.bd .nil ay (aa (pv 3) (aa (av aW (pv 4) (pv 6)) ae))))
   (ah (bC (eM (pv 5)) (aj (aq (i:=9) de.nd rfl (Or.inl rfl) (ak aX (hr.mono (by decide)) rfl T.eV.mg T.eV.fn.kp T.eV.bd .nil ay (aa (ak fB (hr.mono (by decide)) rfl T.gh.mg T.gh.fn.kp T.gh.bd .nil ay (aa (pv 3) (aa (av b6 (pv 4) (pv 6)) ae))) ae)))) aV)
   (ah (aq (i:=10) de.nd rfl (Or.inl rfl) (ak aX (hr.mono (by decide)) rfl T.eV.mg T.eV.fn.kp T.eV.bd .nil ay (aa (ak fB (hr.mono (by decide)) rfl T.gh.mg T.gh.fn.kp T.gh.bd .nil ay (aa (pv 1) (aa (av b6 (av aW (pv 2) (pv 6)) ai) ae))) ae)))
   (ah (aq (i:=11) de.nd rfl (Or.inl rfl) (ak xN (hr.mono (by decide)) rfl T.Nk.mg T.Nk.fn.kp T.Nk.bd .nil ay (aa (pv 0) (aa (pv 7) (aa (pv 8) (aa (ak fB (hr.mono (by decide)) rfl T.gh.mg T.gh.fn.kp T.gh.bd .nil ay (aa (pv 1) (aa (pv 2) ae))) ae))))))
   (aj (aF (av iZ (pv 6) (cF rE rfl T.z_int boot_int (aa (d_ LV (pv 11) (ak xN (hr.mono (by decide)) rfl T.Nk.mg T.Nk.fn.kp T.Nk.bd .nil ay (aa (pv 0) (aa (ak fB (hr.mono (by decide)) rfl T.gh.mg T.gh.fn.kp T.gh.bd .nil ay (aa (pv 1) (aa (av aW (pv 2) (pv 6)) ae))) (aa (pv 9) (aa (pv 10) ae))))) (aE _)) ae))))))))))))),?_⟩
 obtain ⟨y,w,i,v,j,b,rfl,hy,hz,hw,hv,wz,vz,q⟩:=h
 have hs:=Zs1
 have lw: ∀k,Lt (rd w k):=fun k=>hy.lt _ (hw.rd k)
 have lv: ∀k,Lt (rd v k):=fun k=>hy.lt _ (hv.rd k)
 have gy: ∀k,wq v j b k∈y:=fun k=>by
  unfold wq
  cases b
  ·rw[if_neg (by decide)];exact hv.rd _
  ·rw[if_pos rfl];exact hy.cl _ (hv.rd _)
 have R4:=gW (f:=sq w i) (g:=wq v j b) hw.ne hv.ne (cN w i) (ME v j b)
 refine ⟨_,rfl,_,rfl,_,rfl,_,rfl,_,rfl,w,i,v,j,b,rfl,hw.ne,hv.ne,fun c hc=>hy.lt c (hv.bP c hc),wz,vz,?_⟩
 refine ⟨_,rfl,_,rfl,_,_,rfl,rfl,w,_,rfl,hw.ne,by lia,_,rfl,lw _,?_⟩
 refine ⟨_,rfl,_,rfl,_,_,rfl,rfl,v,_,rfl,hv.ne,by lia,_,rfl,lv _,_,_,rfl,?_⟩
 have q1:=q _ (ao.refl H)
 clear q
 refine ⟨_,rfl,?_⟩
 cases b with
 | false=>
  refine ⟨_,rfl,?_⟩
  refine kf ?_
  have JV:aB (wq v j false (-1))=aB (rd v ((j:Int) - 1)):=rfl
  refine ⟨_,rfl,_,_,rfl,rfl,_,rfl,bp (fun z=>?_) (fun z=>?_)⟩
  ·have HJ: ¬0<xU (sq w i) (wq v j false) (w.length+v.length):=by have:=of_decide_eq_true z;lia
   refine t9 ?_
   rw[A2 HJ R4]at q1
   exact q1
  ·have HJ:0<xU (sq w i) (wq v j false) (w.length+v.length):=by
    by_cases g:0<xU (sq w i) (wq v j false) (w.length+v.length)
    ·exact g
    ·exact absurd (decide_eq_true (by lia)) z
   obtain ⟨e1,e2,e3⟩:=A1 (y:=y) HJ
   walk_at"Z"
   ·have e4:aB (rd w ((i:Int) - 1))=aB (rd v ((j:Int) - 1)):=by simpa using z2
    rw[<-JV]at e4
    have e5:=fg (lw ((i:Int) - 1)) (hy.lt _ (gy _)) e4
    rw[A3 (f:=sq w i) e5]at q1
    exact q1
   ·have e4:sq w i (-1)≠wq v j false (-1):=fun g=>z2 (by
     have g2:aB (rd w ((i:Int) - 1))=aB (rd v ((j:Int) - 1)):=by rw[<-JV, <-g];rfl
     simp[g2])
    rw[A4 e3 e4]at q1
    have dl:ft (sq w i) (wq v j false) (w.length+v.length) 0<=w.length+v.length:=by have:=(cS (sq w i) (wq v j false) (w.length+v.length) 0).2.1;lia
    rw[e1]
    generalize ft (sq w i) (wq v j false) (w.length+v.length) 0=m at q1 dl e2 ⊢
    refine ⟨_,rfl,_,rfl,_,rfl,_,_,rfl,rfl,v,_,rfl,hv.ne,by lia,?_⟩
    refine ⟨_,rfl,_,rfl,?_⟩
    refine kf ?_
    refine ⟨_,rfl,_,rfl,_,rfl,_,_,rfl,rfl,_,_,rfl,rfl,w,_,rfl,hw.ne,by lia,_,rfl,lw _,?_⟩
    walk_at"K"
    walk_at"I"
    have f0:sq w i 0=rd w i:=by unfold sq;rw[Qc9]
    have f1:sq w i ((m:Int) - 1)=rd w ((i:Int)+m - 1):=by unfold sq;congr 1;lia
    rw[f0,f1,JV]at q1
    refine ⟨_,_,rfl,rfl,?_⟩
    refine .inr ⟨_,rfl,_,_,rfl,rfl, .inl ⟨by lia,by lia⟩,?_⟩
    have e6: ∀(a b:Bool),((m:Int)*(if decide (a=b) then 1 else 0))=(((if a=b then m else 0:Nat)):Int):=fun a b=>by
     by_cases g:a=b
     ·rw[if_pos (decide_eq_true g),if_pos g];lia
     ·rw[if_neg (fun z=>g (of_decide_eq_true z)),if_neg g];lia
    rw[<-e6]at q1
    exact q1
 | true=>
  refine ⟨_,rfl,?_⟩
  refine t9 ?_
  refine ⟨_,rfl,_,rfl,_,_,rfl,rfl,v,_,rfl,hv.ne,by lia,?_⟩
  have JV:aB (wq v j true (-1))=rd v ((j:Int)+1):=by show aB (aB (rd v ((j:Int) - -1)))=_;rw[aM (lv _)];congr 1
  refine ⟨_,rfl,_,_,rfl,rfl,_,rfl,bp (fun z=>?_) (fun z=>?_)⟩
  ·have HJ: ¬0<xU (sq w i) (wq v j true) (w.length+v.length):=by have:=of_decide_eq_true z;lia
   refine t9 ?_
   rw[A2 HJ R4]at q1
   exact q1
  ·have HJ:0<xU (sq w i) (wq v j true) (w.length+v.length):=by
    by_cases g:0<xU (sq w i) (wq v j true) (w.length+v.length)
    ·exact g
    ·exact absurd (decide_eq_true (by lia)) z
   obtain ⟨e1,e2,e3⟩:=A1 (y:=y) HJ
   walk_at"Z"
   ·have e4:aB (rd w ((i:Int) - 1))=rd v ((j:Int)+1):=by simpa using z2
    rw[<-JV]at e4
    have e5:=fg (lw ((i:Int) - 1)) (hy.lt _ (gy _)) e4
    rw[A3 (f:=sq w i) e5]at q1
    exact q1
   ·have e4:sq w i (-1)≠wq v j true (-1):=fun g=>z2 (by
     have g2:aB (rd w ((i:Int) - 1))=rd v ((j:Int)+1):=by rw[<-JV, <-g];rfl
     simp[g2])
    rw[A4 e3 e4]at q1
    have dl:ft (sq w i) (wq v j true) (w.length+v.length) 0<=w.length+v.length:=by have:=(cS (sq w i) (wq v j true) (w.length+v.length) 0).2.1;lia
    rw[e1]
    generalize ft (sq w i) (wq v j true) (w.length+v.length) 0=m at q1 dl e2 ⊢
    refine ⟨_,rfl,_,rfl,_,rfl,_,_,rfl,rfl,v,_,rfl,hv.ne,by lia,?_⟩
    refine ⟨_,rfl,_,rfl,?_⟩
    refine t9 ?_
    refine ⟨_,rfl,_,rfl,_,rfl,_,_,rfl,rfl,v,_,rfl,hv.ne,by lia,_,rfl,lv _,?_⟩
    refine ⟨_,rfl,_,rfl,_,rfl,_,_,rfl,rfl,_,_,rfl,rfl,w,_,rfl,hw.ne,by lia,_,rfl,lw _,?_⟩
    walk_at"K"
    walk_at"I"
    have f0:sq w i 0=rd w i:=by unfold sq;rw[Qc9]
    have f1:sq w i ((m:Int) - 1)=rd w ((i:Int)+m - 1):=by unfold sq;congr 1;lia
    rw[f0,f1,JV]at q1
    refine ⟨_,_,rfl,rfl,?_⟩
    refine .inr ⟨_,rfl,_,_,rfl,rfl, .inl ⟨by lia,by lia⟩,?_⟩
    have e6: ∀(a b:Bool),((m:Int)*(if decide (a=b) then 1 else 0))=(((if a=b then m else 0:Nat)):Int):=fun a b=>by
     by_cases g:a=b
     ·rw[if_pos (decide_eq_true g),if_pos g];lia
     ·rw[if_neg (fun z=>g (of_decide_eq_true z)),if_neg g];lia
    rw[<-e6]at q1
    exact q1
theorem Ag:bF P w K mg base fD 4 OI JF ["_law_yard_here","_law_words_here"] (pN K):=by
 have DC:=Ae (P:=P) (w:=w) (base:=base) T
 have tI:=Af (P:=P) (w:=w) (base:=base) T
 refine T.SR.fn.ok bK (fun vs H Q E h=>wY h) (fun _ _ _ _ H vs Q E hr h=>?_)
 refine ⟨_,(ah (aq (i:=2) bK.nd rfl (Or.inl rfl) (cu ae))
   (ah (aq (i:=3) bK.nd rfl (Or.inl rfl) (cu ae))
   (ah (cD PassesOwn.never rfl (kR K rfl rfl T.z_enumerate (aa (pv 1) ae)) (cK (n:=2) K rfl rfl (aP (aC (i:=4) bK.nd rfl (Or.inr rfl)) (aP (aC (i:=5) bK.nd rfl (Or.inl rfl)) cJ))) (aj (bY (ba K rfl Qam Qdg Qdf jD (pv 3) (aa (bA ["_law_i","_law_c"] [none,some 4] (fP rfl T.z_range (aa (ar aH rfl T.z_len Qac (aa (pv 5) ae)) ae)) ⟨⟨rfl,rfl,by first | exact .inl rfl | exact .inr rfl⟩,trivial⟩ (fun _ _ _ _=>(aC (i:=0) (by decide+kernel:List.Nodup (["_law_i","_law_c"]:List Str)) rfl (Or.inl rfl))) (fun _ _ _ _=>dI) (fun _ _ _ _=>(bc (aa (pv 1) (aa (pv 0) ae))))) ae)))))
   (ah (cD PassesOwn.never rfl (fi K rfl (pv 3)) (cK (n:=2) K rfl rfl (aP (aC (i:=4) bK.nd rfl (Or.inr rfl)) (aP (aC (i:=6) bK.nd rfl (Or.inl rfl)) cJ))) (aj (cD PassesOwn.never rfl (fi K rfl (pv 3)) (cK (n:=2) K rfl rfl (aP (aC (i:=7) bK.nd rfl (Or.inl rfl)) (aP (aC (i:=8) bK.nd rfl (Or.inl rfl)) cJ))) (ah (yi (i:=9) (j:=10) rfl bK.nd rfl rfl (by decide) rfl rfl (aa (aN (bQ K rfl) (pv 1) (pv 4) (fun _ _=>rfl)) (aa (aN (bQ K rfl) (pv 1) (pv 7) (fun _ _=>rfl)) ae)) rfl)
   (ff (bC (PW.pt (eN (aD (uh K rfl hr) (bc (aa (pv 4) (aa (pv 6) ae))) (bc (aa (pv 7) (aa (pv 8) ae))) (aE _)) (dF (eM (ak DC (hr.mono (by decide)) rfl T.SO.mg T.SO.fn.kp T.SO.bd .nil ay (aa (pv 0) (aa (pv 9) (aa (pv 6) (aa (pv 10) (aa (pv 8) ae)))))))))) (aj (bY (ba K rfl Qam Qa1 Qa0 b_ (pv 2) (aa (bc (aa (pv 4) (aa (pv 6) (aa (pv 7) (aa (pv 8) (aa ai (aa (i4 [97,99,114,111,115,115] (by decide+kernel)) ae))))))) ae)))) aV)
   (ah (aq (i:=11) bK.nd rfl (Or.inl rfl) (ak tI (hr.mono (by decide)) rfl T.Nl.mg T.Nl.fn.kp T.Nl.bd .nil ay (aa (pv 0) (aa (pv 9) (aa (pv 6) (aa (pv 10) (aa (pv 8) (aa rA ae))))))))
   (ff (bC (PW.pt (eN (aD (uh K rfl hr) (bc (aa (pv 4) (aa (pv 6) ae))) (bc (aa (pv 7) (aa (pv 8) ae))) (aE _)) (dF (aD kE (pv 11) ai (aE _))))) (aj (bY (ba K rfl Qam Qa1 Qa0 b_ (pv 2) (aa (bc (aa (pv 4) (aa (pv 6) (aa (pv 7) (aa (pv 8) (aa (pv 11) (aa (i4 [97,108,111,110,103] (by decide+kernel)) ae))))))) ae)))) aV)
   (ah (aq (i:=11) bK.nd rfl (Or.inl rfl) (ak tI (hr.mono (by decide)) rfl T.Nl.mg T.Nl.fn.kp T.Nl.bd .nil ay (aa (pv 0) (aa (pv 9) (aa (pv 6) (aa (pv 10) (aa (pv 8) (aa rA ae))))))))
   (ah (aq (i:=12) bK.nd rfl (Or.inl rfl) (bc (aa (av dv (av aW (av b6 (pv 8) (pv 11)) ai) (ar aH rfl T.z_len Qac (aa (pv 10) ae))) (aa (av dv (av b6 (av aW (pv 6) (pv 11)) ai) (ar aH rfl T.z_len Qac (aa (pv 9) ae))) ae))))
   (aj (bC (PW.pt (eN (aD kE (pv 11) ai (aE _)) (dF (PW.pt (rB (aD gj (pv 4) (pv 7) (aE _)) (tN (PW.pt (eN (aD eQ (pv 4) (pv 7) (aE _)) (dF (aD (uh K rfl hr) (bc (aa (pv 6) (aa (pv 8) ae))) (pv 12) (aE _))))))))))) (aj (bY (ba K rfl Qam Qa1 Qa0 b_ (pv 2) (aa (bc (aa (pv 4) (aa (pv 6) (aa (pv 7) (aa (pv 8) (aa (pv 11) (aa (i4 [97,103,97,105,110,115,116] (by decide+kernel)) ae))))))) ae)))) aV)))))))))))
   (aj (aF (ar (uk K rfl) rfl T.z_sorted boot_sorted (aa (pv 2) ae)))))))),?_⟩
 obtain ⟨y,wt,ws,rfl,hy,hz,ok,hw,q⟩:=h
 have hs:=Zs1
 have LQ: ∀w∈ws,SW y w:=fun w h=>(ok.sw w h).1
 have D7:=ok.sd
 have Eb:=ok.all
 have ZO: ∀n,n<=ws.length->(qM ws n).length<=n*12:=oo fun w h=>(ok.sw w h).2
 walk_at "wk"
 intro t nt
 walk_at "wk"
 intro u nu
 have tu:t≠u:=fun z=>by rw[<-z,ag]at nu;cases nu
 have Tb:H u=none:=ao.free (ao.upd nt) nu
 have s0:=(ao.upd (o:= .lst []) nt).trans (ao.upd (o:= .lst []) nu)
 have PK:upd (upd H t (.lst [])) u (.lst []) t=some (.lst (j4 [])):=by rw[az tu,ag];rfl
 have Of:upd (upd H t (.lst [])) u (.lst []) u=some (.lst (pM [])):=ag
 have GD:=s0 _ _ hw
 generalize upd (upd H t (.lst [])) u (.lst [])=H0 at s0 PK Of GD ⊢
 have wu:wt≠u:=fun z=>by rw[z,Of]at GD;cases GD
 refine Mr fun N1 h1=>?_
 refine ⟨_,rfl,wt,rfl,⟨_,bE.of GD⟩,?_⟩
 refine jG (K:=K) (a:=wt) (xs:=iR ws) (fun n σ H'=> ∃(ps:List Sd) (cv wv:Option V),σ=[some (.str (S y)),some (.ref wt),some (.ref t),some (.ref u),cv,wv,none,none,none,none,none,none,none]/\H' u=some (.lst (pM ps))/\Kx H' ps/\ps.map Sd.pair=qM ws n/\aO u H0 H')
  ⟨[],none,none,rfl,Of,fun _ h=>absurd h Qae,rfl,aO.refl _ _⟩ (fun n σ H' _ ⟨_,_,_,_,_,_,_,s⟩=>bE.of (s _ _ GD wu)) ?_ ?_
 ·rintro n x σ H1 T hx ⟨ps,cv,wv,rfl,IX,qE,g9,s1⟩ nT
  have hn:n<ws.length:=by
   have:=(LK.mp hx).1
   rwa [bG]at this
  rw[getD_at hn]at hx
  cases hx
  have kA:=(ok.sw _ (getD_in hn)).2
  have sT:=ao.upd (o:= .tup [.int n, .str (S (ws.getD n []))]) nT
  walk_at"r"
  generalize upd H1 T (.tup [.int n, .str (S (ws.getD n []))])=H2 at sT ⊢
  have VD:=sT _ _ IX
  refine ⟨_,rfl, .inl ⟨rfl,_,aZ.of VD⟩,_,rfl,ws.getD n [],rfl,by lia,_,rfl,by lia,by lia,?_⟩
  rw[XQ]
  refine vW (fun k acc H'=>ao H2 H'/\ ∃us:List Sd,acc=pM us/\Kx H' us/\us.map Sd.pair=(List.range k).map fun i=>(n,i)) (by lia) ⟨ao.refl _,[],rfl,fun _ h=>absurd h Qae,rfl⟩ ?_ ?_
  ·rintro k acc H3 Nx hk gN ⟨s3,us,rfl,jE,jC⟩ nx
   refine ⟨⟨rfl,trivial⟩,cL ?_⟩
   refine ⟨_,rfl,_,rfl,by show 2<=sizeLine;decide,fun r nr=>?_⟩
   rw[Qcu]
   refine nx _ _ (by simpa using gN) ⟨s3.trans (ao.upd nr),us++[⟨r,n,k⟩],E_ us ⟨r,n,k⟩,fun p hp=>?_,by rw[XN,jC,Qbf,XN];rfl⟩
   rcases Qaf.mp hp with g | g
   ·exact (ao.upd nr) _ _ (jE p g)
   ·rw[V8.mp g];exact ag
  ·rintro acc H3 D gN ⟨s3,us,rfl,jE,jC⟩ hD
   have sD:=s3.trans (ao.upd (o:= .lst (pM us)) hD)
   have qN:us.length=(ws.getD n []).length:=by
    have:=congrArg List.length jC
    rwa [V6,V6,Qb8]at this
   have ZP:ps.length=(qM ws n).length:=by rw[<-g9,V6]
   have:=ZO n (by lia)
   refine ⟨u,D,pM ps,pM us,rfl,rfl,sD _ _ VD,ag,by rw[lD,lD];lia,?_⟩
   have Xi:aR (upd H3 D (.lst (pM us))) (upd (upd H3 D (.lst (pM us))) u (.lst (pM ps++pM us))):=aR.mf (sD _ _ VD)
   refine ⟨ps++us,_,_,rfl,by rw[ag,IS],fun p hp=>?_,?_,fun a o e z=>by rw[az z];exact sD _ _ (sT _ _ (s1 a o e z))⟩
   ·rcases Qaf.mp hp with g | g
    ·exact Xi _ _ (sD _ _ (sT _ _ (qE p g)))
    ·exact Xi _ _ ((ao.upd hD) _ _ (jE p g))
   ·rw[XN,g9,jC]
    rfl
 rintro σ H3 ⟨ps,cv,wv,rfl,Tr,qE,g9,s3⟩
 rw[bG]at g9
 have g9:ps.map Sd.pair=places ws:=g9
 have Ky:=s3 _ _ PK tu
 have Xj:=s3 _ _ GD wu
 have iT:ps.length=(places ws).length:=by rw[<-g9,V6]
 have K0:ao H H3:=fun a o e=>s3 _ _ (s0 a o e) (ax e Tb)
 clear s3 Of PK GD s0
 refine h1 _ _ ?_
 refine Ro fun N2 h2=>?_
 refine ⟨_,rfl,u,rfl,⟨_,aZ.of Tr⟩,?_⟩
 refine kD (K:=K) (a:=u) (xs:=pM ps) (fun n σ H'=> ∃(L:List Fa) (v4 v5 v6 v7 v8 v9 va vb vc:Option V),σ=[some (.str (S y)),some (.ref wt),some (.ref t),some (.ref u),v4,v5,v6,v7,v8,v9,va,vb,vc]/\CY t H3 H' L/\L.map Fa.x=((places ws).take n).flatMap (fun o=>(places ws).flatMap fun p=>mB y ws o p)/\L.length<=72*n)
  ⟨[],_,_,_,_,_,_,_,_,_,rfl,⟨Ky,dU.nil _,aO.refl _ _⟩,rfl,Qaa _⟩ (fun n σ H' _ ⟨_,_,_,_,_,_,_,_,_,_,_,F,_⟩=>aZ.of (F.sb _ _ Tr (Ne.symm tu))) ?_ ?_
 ·rintro n x σ H4 hx ⟨L,v4,v5,v6,v7,v8,v9,va,vb,vc,rfl,F4,NF,Py⟩
  obtain ⟨o,ho,rfl⟩:=Fb hx
  have hn:n<ps.length:=(LK.mp ho).1
  have VE:(places ws)[n]? =some (o.c,o.i):=by rw[<-g9,Qaj,ho];rfl
  obtain ⟨o1,o2⟩:=w_ (Qab VE)
  have ZQ:=qE o (Qab ho)
  refine ⟨o.t,_,rfl,bE.of (aO.ts Ky F4.sb _ _ ZQ),rfl,_,_,rfl,_,_,rfl,rfl,?_⟩
  refine nh fun Dj ZR=>?_
  refine ⟨_,rfl,u,rfl,⟨_,aZ.of (F4.sb _ _ Tr (Ne.symm tu))⟩,?_⟩
  refine kD (K:=K) (a:=u) (xs:=pM ps) (fun k σ H'=> ∃(L:List Fa) (v7 v8 v9 va vb vc:Option V),σ=[some (.str (S y)),some (.ref wt),some (.ref t),some (.ref u),some (.int o.c),v5,some (.int o.i),v7,v8,v9,va,vb,vc]/\CY t H3 H' L/\L.map Fa.x=((places ws).take n).flatMap (fun o=>(places ws).flatMap fun p=>mB y ws o p)++((places ws).take k).flatMap (fun p=>mB y ws (o.c,o.i) p)/\L.length<=72*n+3*k)
   ⟨L,_,_,_,_,_,_,rfl,F4,by rw[NF];simp,by lia⟩ (fun n σ H' _ ⟨_,_,_,_,_,_,_,_,F,_⟩=>aZ.of (F.sb _ _ Tr (Ne.symm tu))) ?_ ?_
  ·rintro k x σ H5 hx ⟨L5,w7,w8,w9,wa,wb,wc,rfl,F5,JN,VF⟩
   obtain ⟨p,hp,rfl⟩:=Fb hx
   have hk:k<ps.length:=(LK.mp hp).1
   have kz:(places ws)[k]? =some (p.c,p.i):=by rw[<-g9,Qaj,hp];rfl
   obtain ⟨p1,p2⟩:=w_ (Qab kz)
   have Ts:=aO.ts Ky F5.sb
   obtain ⟨sw,wz⟩:=ok.sw _ (getD_in o1)
   obtain ⟨sv,vz⟩:=ok.sw _ (getD_in p1)
   refine ⟨p.t,_,rfl,bE.of (Ts _ _ (qE p (Qab hp))),rfl,_,_,rfl,_,_,rfl,rfl,?_⟩
   show yh _ _ _ _ _
   refine nh fun Dk Xk=>?_
   refine ⟨_,rfl,_,rfl,wt,_,_,_,rfl,rfl,bE.of (Ts _ _ Xj),bL (getD_at o1),_,rfl,_,rfl,wt,_,_,_,rfl,rfl,bE.of (Ts _ _ Xj),bL (getD_at p1),_,_,rfl,?_⟩
   have Xl:=IK (ws:=ws) (o:=(o.c,o.i)) (p:=(p.c,p.i)) hy sw
   have PL:=sM (fun p=>mB y ws (o.c,o.i) p) kz
   rw[<-Xl]at PL
   unfold U0 at PL
   have ZS:L5.length+3<=72*n+3*(k+1):=by lia
   have We:L5.length+3<sizeLine:=by lia
   clear Ts Xl VF kz VE NF Py F4
   generalize ws.getD o.c []=w at*
   generalize ws.getD p.c []=v at*
   obtain ⟨Z1,h1⟩: ∃Z:List Fm,Z=if i8 o.c o.i p.c p.i=true/\Kw y w v o.i p.i=true then [⟨o.c,o.i,p.c,p.i,0,og⟩] else []:=⟨_,rfl⟩
   obtain ⟨Z2,h2⟩: ∃Z:List Fm,Z=if i8 o.c o.i p.c p.i=true/\0<DI y w v o.i p.i then [⟨o.c,o.i,p.c,p.i,DI y w v o.i p.i,uH⟩] else []:=⟨_,rfl⟩
   obtain ⟨Z3,h3⟩: ∃Z:List Fm,Z=if 0<eJ y w v o.i p.i/\(o.c<p.c\/(o.c=p.c/\i8 o.i p.i (((p.i:Int) - eJ y w v o.i p.i+1)%v.length) (((o.i:Int)+eJ y w v o.i p.i - 1)%w.length)=true)) then [⟨o.c,o.i,p.c,p.i,eJ y w v o.i p.i,gX⟩] else []:=⟨_,rfl⟩
   simp only at PL
   rw[<-h1, <-h2, <-h3]at PL
   have fin: ∀(L:List Fa) (H':Hp) (a b c d e f:Option V),CY t H3 H' L->L.map Fa.x=L5.map Fa.x++Z1++Z2++Z3->L.length<=L5.length+3->Dk.nx [some (.str (S y)),some (.ref wt),some (.ref t),some (.ref u),some (.int o.c),v5,some (.int o.i),a,b,c,d,e,f] H':=fun L H' a b c d e f F g1 g2=>Xk _ _ ⟨L,a,b,c,d,e,f,rfl,F,by rw[g1,JN,PL];simp only[Qb9],by lia⟩
   clear Xk PL JN ZS
   generalize hB:L5.map Fa.x=B at fin
   refine ⟨fun σ' H'=>σ'=[some (.str (S y)),some (.ref wt),some (.ref t),some (.ref u),some (.int o.c),v5,some (.int o.i),some (.int p.c),some (.int p.i),some (.str (S w)),some (.str (S v)),wb,wc]/\ ∃L1:List Fa,CY t H3 H' L1/\L1.map Fa.x=B++Z1/\L1.length<=L5.length+1,?_,?_⟩
   ·refine nh fun Dv NJ=>?_
    refine ⟨_,rfl,_,rfl,by show 2<=sizeLine;decide,fun a1 n1=>⟨_,rfl,_,rfl,by show 2<=sizeLine;decide,fun a2 n2=>?_⟩⟩
    have F:=F5.same ((ao.upd (o:= .tup [.int o.c, .int o.i]) n1).trans (ao.upd (o:= .tup [.int p.c, .int p.i]) n2))
    refine ⟨a1,a2,_,_,_,_,rfl,rfl,bE.of ((ao.upd n2) _ _ ag),bE.of ag,_,rfl,bp (fun z=>?_) (fun z=>?_)⟩
    ·refine ⟨_,rfl,_,rfl,_,rfl,_,rfl,_,rfl,y,_,o.i,_,p.i,rfl,hy,hz,sw,sv,wz,vz,o2,p2,fun H6 s6=>?_⟩
     have F:=F.same s6
     refine ⟨_,rfl,bp (fun z2=>?_) (fun z2=>?_)⟩
     ·refine ⟨_,rfl, .inl ⟨rfl,_,aZ.of F.ls⟩,_,rfl,_,rfl,_,rfl,_,rfl,by show 6<=sizeLine;decide,fun a3 n3=>?_⟩
      refine ⟨t,j4 L5,_,rfl,rfl,(ao.upd n3) _ _ F.ls,by rw[lC];lia,?_⟩
      exact NJ _ _ ⟨rfl,_,F.put (x:=⟨o.c,o.i,p.c,p.i,0,og⟩) n3,by rw[XN,hB,h1,if_pos ⟨z,z2⟩];rfl,by simp⟩
     ·exact NJ _ _ ⟨rfl,L5,F,by rw[hB,h1,if_neg fun g=>z2 g.2,Qaw],by lia⟩
    ·exact kf (NJ _ _ ⟨rfl,L5,F,by rw[hB,h1,if_neg fun g=>z g.1,Qaw],by lia⟩)
   clear F5 hB h1
   rintro σ6 H6 ⟨rfl,L6,F6,Tt,ZT⟩
   refine ⟨_,rfl,_,rfl,_,rfl,_,rfl,_,rfl,y,_,o.i,_,p.i,false,rfl,hy,hz,sw,sv,wz,vz,fun H7 s7=>?_⟩
   have F7:=F6.same s7
   have el:al y (sq w o.i) (wq v p.i false) (w.length+v.length)=DI y w v o.i p.i:=rfl
   rw[el]
   generalize DI y w v o.i p.i=m2 at h2 ⊢
   refine ⟨fun σ' H'=>σ'=[some (.str (S y)),some (.ref wt),some (.ref t),some (.ref u),some (.int o.c),v5,some (.int o.i),some (.int p.c),some (.int p.i),some (.str (S w)),some (.str (S v)),some (.int m2),wc]/\ ∃L1:List Fa,CY t H3 H' L1/\L1.map Fa.x=B++Z1++Z2/\L1.length<=L5.length+2,?_,?_⟩
   ·refine nh fun Dv NJ=>?_
    refine ⟨_,rfl,_,rfl,by show 2<=sizeLine;decide,fun a1 n1=>⟨_,rfl,_,rfl,by show 2<=sizeLine;decide,fun a2 n2=>?_⟩⟩
    have F:=F7.same ((ao.upd (o:= .tup [.int o.c, .int o.i]) n1).trans (ao.upd (o:= .tup [.int p.c, .int p.i]) n2))
    refine ⟨a1,a2,_,_,_,_,rfl,rfl,bE.of ((ao.upd n2) _ _ ag),bE.of ag,_,rfl,bp (fun z=>?_) (fun z=>?_)⟩
    ·refine ⟨_,rfl,_,_,rfl,rfl,_,rfl,bp (fun z2=>?_) (fun z2=>?_)⟩
     ·refine ⟨_,rfl, .inl ⟨rfl,_,aZ.of F.ls⟩,_,rfl,_,rfl,_,rfl,_,rfl,_,rfl,by show 6<=sizeLine;decide,fun a3 n3=>?_⟩
      refine ⟨t,j4 L6,_,rfl,rfl,(ao.upd n3) _ _ F.ls,by rw[lC];lia,?_⟩
      exact NJ _ _ ⟨rfl,_,F.put (x:=⟨o.c,o.i,p.c,p.i,m2,uH⟩) n3,by rw[XN,Tt,h2,if_pos ⟨z,Qcz.mp (of_decide_eq_true z2)⟩];rfl,by simp;lia⟩
     ·exact NJ _ _ ⟨rfl,L6,F,by rw[Tt,h2,if_neg fun g=>z2 (decide_eq_true (Qcz.mpr g.2)),Qaw],by lia⟩
    ·exact kf (NJ _ _ ⟨rfl,L6,F,by rw[Tt,h2,if_neg fun g=>z g.1,Qaw],by lia⟩)
   clear F6 F7 s7 Tt h2 ZT
   rintro σ8 H8 ⟨rfl,L8,F8,VG,hl8⟩
   refine ⟨_,rfl,_,rfl,_,rfl,_,rfl,_,rfl,y,_,o.i,_,p.i,true,rfl,hy,hz,sw,sv,wz,vz,fun H9 s9=>?_⟩
   have eg:al y (sq w o.i) (wq v p.i true) (w.length+v.length)=eJ y w v o.i p.i:=rfl
   rw[eg]
   have mz:eJ y w v o.i p.i<=w.length+v.length:=Rt _ _ _ _
   generalize eJ y w v o.i p.i=m3 at h3 mz ⊢
   refine ⟨_,rfl,_,rfl,_,_,rfl,rfl,_,_,rfl,rfl,_,rfl,v,rfl,by lia,_,_,rfl,rfl,by lia,?_⟩
   refine ⟨_,rfl,_,rfl,_,_,rfl,rfl,_,_,rfl,rfl,_,rfl,w,rfl,by lia,_,_,rfl,rfl,by lia,by show 2<=sizeLine;decide,fun th ZU=>?_⟩
   have F9:=(F8.same s9).same (ao.upd (o:= .tup [.int (((p.i:Int) - (m3:Nat)+1)%(v.length:Int)), .int (((o.i:Int)+(m3:Nat) - 1)%(w.length:Int))]) ZU)
   have Tu:=ag (H:=H9) (a:=th) (o:=HO.tup [.int (((p.i:Int) - (m3:Nat)+1)%(v.length:Int)), .int (((o.i:Int)+(m3:Nat) - 1)%(w.length:Int))])
   generalize upd H9 th (.tup [.int (((p.i:Int) - (m3:Nat)+1)%(v.length:Int)), .int (((o.i:Int)+(m3:Nat) - 1)%(w.length:Int))])=HA at F9 Tu ⊢
   generalize ((p.i:Int) - (m3:Nat)+1)%(v.length:Int)=p9 at h3 Tu
   generalize ((o.i:Int)+(m3:Nat) - 1)%(w.length:Int)=q9 at h3 Tu
   have no: ∀{H':Hp} {a b c d e f:Option V},CY t H3 H' L8-> ¬(0<m3/\(o.c<p.c\/(o.c=p.c/\i8 o.i p.i p9 q9=true)))->Dk.nx [some (.str (S y)),some (.ref wt),some (.ref t),some (.ref u),some (.int o.c),v5,some (.int o.i),a,b,c,d,e,f] H':=fun F g=>fin L8 _ _ _ _ _ _ _ F (by rw[VG,h3,if_neg g,Qaw]) (by lia)
   have yes: ∀{H':Hp} {a3:Addr} {a b c d e f:Option V},CY t H3 H' L8->H' a3=none->(0<m3/\(o.c<p.c\/(o.c=p.c/\i8 o.i p.i p9 q9=true)))->Dk.nx [some (.str (S y)),some (.ref wt),some (.ref t),some (.ref u),some (.int o.c),v5,some (.int o.i),a,b,c,d,e,f] (upd (upd H' a3 (.tup (A0 ⟨o.c,o.i,p.c,p.i,m3,gX⟩))) t (.lst (j4 L8++[V.ref a3]))):=fun F n g=>fin _ _ _ _ _ _ _ _ (F.put (x:=⟨o.c,o.i,p.c,p.i,m3,gX⟩) n) (by rw[XN,VG,h3,if_pos g];rfl) (by simp;lia)
   clear fin VG h3 mz
   refine ⟨_,rfl,_,_,rfl,rfl,_,rfl,bp (fun z=>?_) (fun z=>?_)⟩
   ·have hm:0<m3:=Qcz.mp (of_decide_eq_true z)
    refine ⟨_,rfl,_,rfl,_,_,rfl,rfl,_,rfl,bp (fun z1=>?_) (fun z1=>?_)⟩
    ·refine t9 ?_
     refine ⟨_,rfl, .inl ⟨rfl,_,aZ.of F9.ls⟩,_,rfl,_,rfl,_,rfl,_,rfl,_,rfl,by show 6<=sizeLine;decide,fun a3 n3=>?_⟩
     exact ⟨t,j4 L8,_,rfl,rfl,(ao.upd n3) _ _ F9.ls,by rw[lC];lia,yes F9 n3 ⟨hm, .inl (Qcz.mp (of_decide_eq_true z1))⟩⟩
    ·have oH: ¬o.c<p.c:=fun g=>z1 (decide_eq_true (Qcz.mpr g))
     walk_at"Z"
     ·refine ⟨_,rfl,_,rfl,by show 2<=sizeLine;decide,fun r nr=>?_⟩
      have sr:=ao.upd (o:= .tup [.int o.i, .int p.i]) nr
      have F:=F9.same sr
      refine ⟨_,rfl,r,th,_,_,_,_,rfl,rfl,bE.of ag,bE.of (sr _ _ Tu),_,rfl,bp (fun z3=>?_) (fun z3=>?_)⟩
      ·refine ⟨_,rfl, .inl ⟨rfl,_,aZ.of F.ls⟩,_,rfl,_,rfl,_,rfl,_,rfl,_,rfl,by show 6<=sizeLine;decide,fun a3 n3=>?_⟩
       exact ⟨t,j4 L8,_,rfl,rfl,(ao.upd n3) _ _ F.ls,by rw[lC];lia,yes F n3 ⟨hm, .inr ⟨Qe8 (of_decide_eq_true z2),z3⟩⟩⟩
      ·exact no F fun g=>g.2.elim oH fun g=>z3 g.2
     ·exact kf (no F9 fun g=>g.2.elim oH fun g=>z2 (decide_eq_true (by rw[g.1])))
   ·exact kf (no F9 fun g=>z (decide_eq_true (Qcz.mpr g.1)))
  ·rintro σ H5 ⟨L5,w7,w8,w9,wa,wb,wc,rfl,F5,JN,VF⟩
   rw[lD,iT,Qbb]at JN
   rw[lD]at VF
   exact ZR _ _ ⟨L5,_,_,_,_,_,_,_,_,_,rfl,F5,by rw[JN,sM _ VE],by lia⟩
 ·rintro σ H4 ⟨L,v4,v5,v6,v7,v8,v9,va,vb,vc,rfl,F4,NF,Py⟩
  rw[lD,iT,Qbb]at NF
  have hx:L.map Fa.x=nP y ws:=NF
  have Nw:ao H H4:=fun a ob e=>F4.sb _ _ (K0 a ob e) (ax e nt)
  refine h2 _ _ ?_
  refine ⟨_,rfl,t,j4 L,_,4,rfl, .inl (aZ.of F4.ls),Kz F4.fa,CV hy LQ hx,fun r nr=>?_⟩
  exact q r L _ (ao.free Nw nr) ag (F4.fa.ts (aR.cZ nr)) hx (Nw.trans (ao.upd nr))
theorem DD:bF P w K mg base fD 5 OK Pe ["_law_yard_here","_law_words_here"] (s_ K):=by
 have DE:=Ag (P:=P) (w:=w) (base:=base) T
 have GQ:=Dt (P:=P) (w:=w) (base:=base) T
 refine T.SU.fn.ok Dr (fun vs H Q E h=>zT h) (fun _ _ _ _ H vs Q E hr h=>?_)
 refine ⟨_,(aj (aF (av aW (ar (aT K rfl) rfl T.z_len Qac (aa (ak DE (hr.mono (by decide)) rfl T.SR.mg T.SR.fn.kp T.SR.bd .nil ay (aa (pv 0) (aa (pv 1) ae))) ae)) (ar (Cq K rfl rfl) rfl T.z_sum boot_sum (aa (bA ["_law_word"] [none] (h7 K rfl (pv 1)) trivial (fun _ _ _ _=>(aC (i:=0) (by decide+kernel:List.Nodup (["_law_word"]:List Str)) rfl (Or.inl rfl))) (fun _ _ _ _=>dI) (fun _ _ _ _=>(av b6 (ak GQ (hr.mono (by decide)) rfl T.SS.mg T.SS.fn.kp T.SS.bd .nil ay (aa (pv 0) ae)) ai))) ae))))),?_⟩
 obtain ⟨y,wt,ws,rfl,hy,hz,hk,jW,q⟩:=h
 have hs:=Zs1
 refine ⟨_,rfl,_,rfl,y,wt,ws,rfl,hy,hz,hk,jW,fun p L H1 np hp hL ZV s1=>?_⟩
 have ZW:L.length=(nP y ws).length:=by rw[<-V6 (f:=Fa.x),ZV]
 refine ⟨p,_,rfl, .inl (aZ.of hp),?_⟩
 have R5:=s1 _ _ jW
 have D7:=hk.sd
 refine ⟨_,rfl,wt,rfl,⟨_,bE.of R5⟩,?_⟩
 let g:Nat->Int:=fun c=>(((ws.getD c []).length / Ry (ws.getD c []):Nat):Int) - 1
 refine fT (K:=K) (a:=wt) (xs:=iR ws) (fun i acc H'=>ao H1 H'/\acc=((List.range i).map g).map V.int) (by rw[bG];lia) (fun i acc H' h=>bE.of (h.1 _ _ R5)) ⟨ao.refl _,rfl⟩ ?_ ?_
 ·rintro i x acc H4 Nx hi hx gN ⟨s4,rfl⟩ nx
  rw[bG]at hi
  rw[getD_at hi]at hx
  cases hx
  have hw:=hk.sw _ (getD_in hi)
  refine ⟨trivial,cL ?_⟩
  refine ⟨_,rfl,_,rfl,hw.1.ne,by lia,fun r hr=>?_⟩
  refine ⟨_,_,rfl,rfl,nx _ _ (by rw[V7];exact Qbw gN) ⟨s4,?_⟩⟩
  rw[wW hw.1.ne hr (zP hw.1.ne),Qbf,XN,XN]
  rfl
 ·rintro acc H4 D4 gN ⟨s4,rfl⟩ Xm
  have k:=q _ (s1.trans (s4.trans (ao.upd (o:= .lst (((List.range (iR ws).length).map g).map V.int)) Xm)))
  refine ⟨D4,_,rfl,aZ.of ag,_,_,rfl,rfl,?_⟩
  have e: ∀n,((List.range n).map g).sum=sm n fun c=>g c.toNat:=fun n=>by
   induction n with
   | zero=>rfl
   | succ n ih=>
    rw[Qbf,XN,Qfs,ih]
    simp[sm]
  have e2:M8 y ws=((j4 L).length:Nat)+((List.range (iR ws).length).map g).sum:=by
   rw[e,bG,lC,ZW]
   rfl
  rw[e2]at k
  exact k
theorem DF:bF P w K mg base fD 9 OR Pp ["_law_yard_here","_law_words_here"] (tf K):=by
 have GR:=JO (P:=P) (w:=w) (base:=base) T
 have Ah:=xM (P:=P) (w:=w) (base:=base) T
 have NK:=JS (P:=P) (w:=w) (base:=base) T
 have GS:=DD (P:=P) (w:=w) (base:=base) T
 refine T.S5.fn.ok tw (fun vs H Q E h=>zU h) (fun _ _ _ _ H vs Q E hr h=>?_)
 refine ⟨_,(ah (aq (i:=2) tw.nd rfl (Or.inl rfl) (ak GR (hr.mono (by decide)) rfl T.Nh.mg T.Nh.fn.kp T.Nh.bd .nil ay (aa (pv 0) (aa (pv 1) ae))))
   (ah (bC (PW.pt (rB (yg (eM (ar (kj K rfl) rfl T.z_isinstance boot_isinstance (aa (pv 2) (aa (tM (v:= .ty "tuple") rfl T.z_tuple boot_tuple rfl) ae))))) (rB (aD LU (ar (aT K rfl) rfl T.z_len Qac (aa (pv 2) ae)) ai (aE _)) (rB (aD (yK K rfl hr) (aN (bQ K rfl) (pv 2) ai (fun _ _=>rfl)) (pv 1) (aE _)) (tN (yg (eM (ar (kj K rfl) rfl T.z_isinstance boot_isinstance (aa (aN (bQ K rfl) (pv 2) ai (fun _ _=>rfl)) (aa (tM (v:= .ty "tuple") rfl T.z_tuple boot_tuple rfl) ae)))))))))) (aj (aF rA)) aV)
   (ah (bC (yg (eM (ar (rQ K rfl rfl) rfl T.z_all boot_all (aa (bA ["_law_order_here"] [none] (h7 K rfl (aN (bQ K rfl) (pv 2) ai (fun _ _=>rfl))) trivial (fun _ _ _ _=>(aC (i:=0) (by decide+kernel:List.Nodup (["_law_order_here"]:List Str)) rfl (Or.inl rfl))) (fun _ _ _ _=>dI) (fun _ _ _ _=>(ar (kj K rfl) rfl T.z_isinstance boot_isinstance (aa (pv 0) (aa (tM (v:= .ty "tuple") rfl T.z_tuple boot_tuple rfl) ae))))) ae)))) (aj (aF rA)) aV)
   (ah (bC (aD (yK K rfl hr) (bA ["_law_order_here"] [none] (h7 K rfl (aN (bQ K rfl) (pv 2) ai (fun _ _=>rfl))) trivial (fun _ _ _ _=>(aC (i:=0) (by decide+kernel:List.Nodup (["_law_order_here"]:List Str)) rfl (Or.inl rfl))) (fun _ _ _ _=>dI) (fun _ _ _ _=>(ar (uv K rfl) rfl T.z_sorted boot_sorted (aa (pv 0) ae)))) (ak Ah (hr.mono (by decide)) rfl T.SY.mg T.SY.fn.kp T.SY.bd .nil ay (aa (pv 0) (aa (pv 1) ae))) (aE _)) (aj (aF rA)) aV)
   (aj (aF (Lh (d_ eQ (ak NK (hr.mono (by decide)) rfl T.SX.mg T.SX.fn.kp T.SX.bd .nil ay (aa (pv 0) (aa (pv 2) ae))) (ak GS (hr.mono (by decide)) rfl T.SU.mg T.SU.fn.kp T.SU.bd .nil ay (aa (pv 0) (aa (pv 1) ae))) (aE _)) (Lg (d_ (LX K rfl hr) (ak GR (hr.mono (by decide)) rfl T.Nh.mg T.Nh.fn.kp T.Nh.bd .nil ay (aa (pv 0) (aa (pv 1) ae))) (pv 2) (aE _)))))))))),?_⟩
 obtain ⟨y,wt,ws,rfl,hy,hz,hk,jW,q⟩:=h
 have hs:=Zs1
 have VH: ∀l∈ws, ∀c∈l,c<128:=fun l hl c hc=>(hy.lt c ((hk.sw l hl).1.bP c hc)).lt
 have Vq:=fX hy
 refine ⟨_,rfl,_,rfl,y,wt,ws,rfl,hy,hz,jW,hk.sd,hk.sw,fun dr os H1 VI ht up s1=>?_⟩
 obtain ⟨M,_,ok,_⟩:=id ht
 obtain ⟨⟨w1,ot,d1,d2,d3⟩,dO⟩:=id VI
 have yS:=ok.1
 have K2: ∀{i:Nat} {x:V},(mH os)[i]? =some x-> ∃o,os[i]? =some o/\x=V.ref o.o:=fun {i x} h=>by
  unfold mH at h
  rw[Qaj]at h
  obtain ⟨o,ho,rfl⟩:=Qdo.mp h
  exact ⟨o,ho,rfl⟩
 refine ⟨_,rfl,dr,_,rfl,d1,_,rfl,uC rfl ?_⟩
 refine ⟨_,rfl,dr,_,rfl, .inr (bE.of d1),_,_,rfl,rfl,_,rfl,uC rfl ?_⟩
 refine ⟨_,rfl,dr,_,_,_,rfl,rfl,bE.of d1,rfl,_,rfl, .tuple (uE ws), .tuple (uE ws), .tup (bE.of d2) (je _), .tup (bE.of (s1 _ _ jW)) (je _),⟨lj VH,lj VH⟩,by show PyData.depthAll (uE ws)+1<=60;rw[jH];decide,_,rfl,uC (by rw[eqv_refl (.tuple (uE ws)) (show PyData.hasDictAll (uE ws)=false from pL _)];rfl) ?_⟩
 refine ⟨_,rfl,dr,_,_,_,rfl,rfl,bE.of d1,rfl,ot,_,rfl,d3,_,rfl,uC rfl ?_⟩
 refine ⟨_,rfl,dr,_,_,_,rfl,rfl,bE.of d1,rfl,ot,rfl,⟨_,bE.of d3⟩,?_⟩
 refine fT (K:=K) (a:=ot) (xs:=mH os) (fun i acc H'=>H'=H1/\acc=(List.replicate i true).map V.bl) (by rw[oz];lia) (fun i acc H' h=>by rw[h.1];exact bE.of d3) ⟨rfl,rfl⟩ ?_ ?_
 ·rintro i x acc H2 Nx hi hx gN ⟨rfl,rfl⟩ nx
  obtain ⟨o,ho,rfl⟩:=K2 hx
  exact ⟨trivial,cL ⟨_,rfl,o.o,_,rfl,(dO o (Qab ho)).tp,nx _ _ (by simpa using gN) ⟨rfl,wJ _⟩⟩⟩
 rintro acc H2 D gN ⟨rfl,rfl⟩ hD
 have s2:=ao.upd (o:= .lst ((List.replicate (mH os).length true).map V.bl)) hD
 refine ⟨D,_,rfl,aZ.of ag,?_⟩
 rw[AO]
 generalize upd H2 D (.lst ((List.replicate (mH os).length true).map V.bl))=H3 at s2 ⊢
 refine ⟨_,rfl,uC rfl ?_⟩
 have JF:=s2 _ _ d3
 refine ⟨_,rfl,dr,_,_,_,rfl,rfl,bE.of (s2 _ _ d1),rfl,ot,rfl,⟨_,bE.of JF⟩,?_⟩
 refine fT (K:=K) (a:=ot) (xs:=mH os) (fun i acc H'=>ao H3 H'/\ ∃us:List Od,acc=mH us/\(∀o∈us,nV H' o)/\us.map jw=(mO y ws).take i) (by rw[oz];lia) (fun i acc H' h=>bE.of (h.1 _ _ JF)) ⟨ao.refl _,[],rfl,fun _ h=>absurd h Qae,rfl⟩ ?_ ?_
 ·rintro i x acc H4 Nx hi hx gN ⟨s4,us,rfl,jE,jC⟩ nx
  obtain ⟨o,ho,rfl⟩:=K2 hx
  have Wr:=(LK.mp ho).1
  have hb:i<(cY y).length:=by lia
  have pm:=ok.2 i o _ ho (LJ hb)
  have o4:=(dO o (Qab ho)).same (s2.trans s4)
  have hlen:o.ps.length<=48:=by
   have:=pm.length_eq
   rw[V6]at this
   rw[this]
   have:=qj (cY y)[i] (fun w hw=>(hk.sw w hw).2) ws.length (Sq _)
   have:=hk.sd
   lia
  refine ⟨trivial,cL ⟨_,rfl,o.o,jn o.ps,_,rfl, .inr (bE.of o4.tp),KP o4.pr,by rw[fN];lia,fun qa idx VJ nq=>?_⟩⟩
  obtain ⟨KQ,e1,e2,e3⟩:=Nd VJ
  rw[e1]
  have s5:=ao.upd (o:= .lst (jn KQ)) nq
  have ep:KQ.map Pr.pair=bO (cY y)[i] ws ws.length:=by
   refine BE ?_
   rw[<-xF]
   refine BD ?_ e3 ?_
   ·rw[xF]
    exact ((e2.map Pr.pair).trans pm).map _
   ·rw[Qbg]
    exact nA _ ws ws.length (Sq _)
  refine nx _ _ (by rw[V7];simpa using gN) ⟨s4.trans s5,us++[⟨qa,KQ⟩],pZ us ⟨qa,KQ⟩,fun r hr=>?_,?_⟩
  ·rcases Qaf.mp hr with g | g
   ·exact (jE r g).same s5
   ·rw[V8.mp g]
    exact ⟨ag,fun p hp=>(o4.pr p (e2.mem_iff.mp hp)).same s5⟩
  ·have ea:(mO y ws)[i]? =some (bO (cY y)[i] ws ws.length):=by unfold mO;rw[Qaj,LJ hb];rfl
   rw[XN,jC, <-take_snoc ea]
   exact congrArg (fun z=>_++[z]) ep
 rintro acc H4 D2 gN ⟨s4,us,rfl,jE,jC⟩ Vt
 have VL:us.map jw=mO y ws:=by
  rw[jC,oz]
  refine Qau ?_
  unfold mO
  rw[V6, <-ok.1]
  exact Sq _
 have s5:=ao.upd (o:= .lst (mH us)) Vt
 have Xn:upd H4 D2 (.lst (mH us)) D2=some (.lst (mH us)):=ag
 have R6: ∀o∈us,nV (upd H4 D2 (.lst (mH us))) o:=fun o ho=>(jE o ho).same s5
 generalize upd H4 D2 (.lst (mH us))=H5 at s5 Xn R6 ⊢
 have Ta:=s1.trans (s2.trans (s4.trans s5))
 refine ⟨_,rfl,_,rfl,y,wt,ws,rfl,hy,hz,Ta _ _ jW,hk.ok,fun q3 os3 H6 n3 ZX ZY ZZ s6=>?_⟩
 have R7:(PyData.list (DM (mO y ws))).canLay0=true:=Gp _
 refine ⟨.list (DM (mO y ws)), .list (DM (mO y ws)), .lst (aZ.of (s6 _ _ Xn)) (by rw[<-VL];exact vh fun o ho=>(R6 o ho).same s6), .lst (aZ.of ZX) (by rw[<-ZZ];exact vh ZY),⟨R7,R7⟩,by show PyData.depthAll (DM (mO y ws))+1<=60;have:=Gr (mO y ws);lia,_,rfl,uC (by rw[eqv_refl (.list (DM (mO y ws))) (show PyData.hasDictAll (DM (mO y ws))=false from BB _)];rfl) ?_⟩
 have VM:=s2.trans (s4.trans (s5.trans s6))
 refine ⟨_,rfl,_,rfl,y,dr,ws,os,rfl,hy,hz,hk.ok,ok,VI.same VM,fun H7 s7=>?_⟩
 refine ⟨_,rfl,_,rfl,y,wt,ws,rfl,hy,hz,hk,(s1.trans (VM.trans s7)) _ _ jW,fun H8 s8=>?_⟩
 have em:((vd (j8 y ws os):Nat):Int)=M8 y ws:=Gh hy (fun w hw=>(hk.sw w hw).1) ht
 refine ⟨_,_,rfl,rfl,_,rfl,Iy (decide_eq_true em) ?_⟩
 have VN:=VM.trans (s7.trans s8)
 refine ⟨_,rfl,_,rfl,y,wt,ws,rfl,hy,hz,(s1.trans VN) _ _ jW,hk.sd,hk.sw,fun dr' G6 H9 VO S7 M4 s9=>?_⟩
 obtain ⟨_,_,Rz,_⟩:=id S7
 have e1:=Gm hy hk Rz M4 ok up
 have Xo:=KO (K:=K) VO
 rw[e1]at Xo
 have R8:(RA ws (os.map jw)).canLay0=true:=by
  show (PyData.canLayAll0 (uE ws)&&(PyData.canLayAll0 (Hk (os.map jw))&&true))=true
  rw[lj VH,Gq];rfl
 refine ⟨_,rfl,RA ws (os.map jw),RA ws (os.map jw),Xo,KO (VI.same (VN.trans s9)),⟨R8,R8⟩,?_,?_⟩
 ·show max (PyData.depthAll (uE ws)+1) (max (PyData.depthAll (Hk (os.map jw))+1) 0)+1<=60
  rw[jH]
  have:=Gs (os.map jw)
  lia
 ·rw[eqv_refl (RA ws (os.map jw)) (show (PyData.hasDictAll (uE ws)||(PyData.hasDictAll (Hk (os.map jw))||false))=false by rw[pL,BC];rfl)]
  exact q H9 (s1.trans (VN.trans s9))
theorem NL:bF P w K mg base fD 10 OS Pq ["_law_script"] (lX K):=by
 have NM:=JH (P:=P) (w:=w) (base:=base) T
 have JW:=GC (P:=P) (w:=w) (base:=base) T
 have xO:=vw (P:=P) (w:=w) (base:=base) T
 have qD:=tF (P:=P) (w:=w) (base:=base) T
 have GU:=DF (P:=P) (w:=w) (base:=base) T
 refine T.YL.fn.ok mZ (fun vs H Q E h=>Iv h) (fun _ _ _ _ H vs Q E hr h=>?_)
 refine ⟨_,(ah (aq (i:=1) mZ.nd rfl (Or.inl rfl) (cu ae))
   (ah (cD PassesOwn.never rfl (fP rfl T.z_range (aa (av aW ai (ar (aT K rfl) rfl T.z_len Qac (aa (bh (oY K rfl) (pv 0) (bf ai) (bf ai)) ae))) ae)) (aC (i:=2) mZ.nd rfl (Or.inl rfl)) (ah (aq (i:=3) mZ.nd rfl (Or.inl rfl) (ak NM (hr.mono (by decide)) rfl T.SK.mg T.SK.fn.kp T.SK.bd .nil ay (aa (pv 0) (aa (pv 2) ae))))
   (ah (aq (i:=4) mZ.nd rfl (Or.inl rfl) (ak JW (hr.mono (by decide)) rfl T.SM.mg T.SM.fn.kp T.SM.bd .nil ay (aa (pv 3) (aa ai (aa ai ae)))))
   (ah (aq (i:=5) mZ.nd rfl (Or.inl rfl) (ak xO (hr.mono (by decide)) rfl T.S4.mg T.S4.fn.kp T.S4.bd .nil ay (aa (pv 3) (aa (pv 4) (aa (d_ eQ (pv 2) ai (aE _)) ae)))))
   (ah (bY (ba K rfl Qam Qa1 Qa0 b_ (pv 1) (aa (bc (aa (pv 4) (aa (pv 5) ae))) ae)))
   (aj (bC (aD eQ (pv 2) ai (aE _)) (aj (bY (ba K rfl Qam Qa1 Qa0 b_ (pv 1) (aa (bc (aa (ba K rfl Qao Qci Qch (gS K rfl) (i4 [] (by decide+kernel)) (aa (ak qD (hr.mono (by decide)) rfl T.Ni.mg T.Ni.fn.kp T.Ni.bd .nil ay (aa (pv 3) (aa (pv 4) ae))) ae)) (aa (pv 5) ae))) ae)))) aV)))))))
   (aj (aF (ar (rQ K rfl rfl) rfl T.z_all boot_all (aa (bA ["_law_yard_here","_law_words_here"] [none,none] (fi K rfl (av Ea (pv 1) (bh (oY K rfl) (pv 1) (bf ai) (bf ai)))) trivial (fun _ _ _ _=>(cK (n:=2) K rfl rfl (aP (aC (i:=0) (by decide+kernel:List.Nodup (["_law_yard_here","_law_words_here"]:List Str)) rfl (Or.inl rfl)) (aP (aC (i:=1) (by decide+kernel:List.Nodup (["_law_yard_here","_law_words_here"]:List Str)) rfl (Or.inl rfl)) cJ)))) (fun _ _ _ _=>dI) (fun _ _ _ _=>(ak GU (hr.mono (by decide)) rfl T.S5.mg T.S5.fn.kp T.S5.bd .nil ay (aa (pv 0) (aa (pv 1) ae))))) ae)))))),?_⟩
 obtain ⟨a,ns,rfl,hS,hl,q⟩:=h
 have hs:=Zs1
 walk_at "wk"
 intro t nt
 have s0:=ao.upd (o:= .lst []) nt
 have PK:upd H t (.lst []) t=some (.lst (iV [])):=ag
 generalize upd H t (.lst [])=H0 at s0 PK ⊢
 have Z0:=s0.seq hS
 refine ⟨_,rfl,_,rfl,_,rfl,a,_,rfl,Z0,fun p1 n1=>?_⟩
 have Kn:=m6 (ns.map V.int) (some 2) (some 6)
 have Z4:(nH (ns.map V.int) (some 2) (some 6)).length<=4:=by unfold nH;rw[Qak];exact Qa8 (Nat.min_le_left _ _) (by have e1: ∀n d:Nat,HT.hU n d (some ((2:Nat):Int))=min 2 n:=fun n d=>HT.gk _ _ _;have e2: ∀n d:Nat,HT.hU n d (some ((6:Nat):Int))=min 6 n:=fun n d=>HT.gk _ _ _;show HT.hU _ _ (some ((6:Nat):Int)) - HT.hU _ _ (some ((2:Nat):Int))<=4;rw[e1,e2];lia)
 refine ⟨p1,_,rfl, .inl (aZ.of ag),_,_,rfl,rfl,?_⟩
 have s1:=ao.upd (o:= .lst (nH (ns.map V.int) (some 2) (some 6))) n1
 have Hl:=s1 _ _ PK
 have JL:=s0.trans s1
 generalize (nH (ns.map V.int) (some 2) (some 6)).length=m at Z4 ⊢
 generalize upd H0 p1 (.lst (nH (ns.map V.int) (some 2) (some 6)))=H1 at s1 Hl JL ⊢
 refine ⟨_,rfl,by lia,by lia,?_⟩
 rw[show ((2:Int)+(m:Int)).toNat=2+m by lia]
 have Z5:aO t H H1:=aO.of JL
 refine eO (fun i σ H'=> ∃(ks:List Ask) (v2 v3 v4 v5:Option V),σ=[some (.ref a),some (.ref t),v2,v3,v4,v5]/\H' t=some (.lst (iV ks))/\ks.length<=2*i/\(∀k∈ks,qg H' k)/\aO t H H')
  ⟨[],none,none,none,none,rfl,Hl,Qaa _,fun _ h=>absurd h Qae,Z5⟩ ?_ ?_
 ·rintro i σ H2 hi ⟨ks,v2,v3,v4,v5,rfl,Du,Z6,hk,s2⟩
  have Me:aZ K H2 a (ns.map V.int):=UZ hS nt s2
  refine ⟨_,rfl,_,rfl,a,ns,i,by rw[Qcu];rfl,Me,by lia,fun b H3 nb bx s3=>?_⟩
  refine ⟨_,rfl,b,1,4,rfl,bx,by decide,by decide,by decide,fun y H4 hy x5 x6 Z7 s4=>?_⟩
  refine ⟨_,rfl,_,rfl,_,rfl,_,_,rfl,rfl,b,y,_,rfl,Z7,hy,by lia,by lia,fun wt ws H5 nwt wtb jW ok Xp s5=>?_⟩
  have VP:ao H2 H5:=aO.same nb s3 (s4.trans s5)
  have tb:t≠b:=fun z=>by rw[z,nb]at Du;cases Du
  have R9:=VP _ _ Du
  refine ⟨_,rfl, .inl ⟨rfl,_,aZ.of R9⟩,_,rfl,_,rfl,by show 2<=sizeLine;decide,fun a1 n1=>?_⟩
  have a1t:a1≠t:=fun z=>by rw[z,R9]at n1;cases n1
  have Z8:=Xp.ne n1
  refine ⟨t,iV ks,_,rfl,rfl,(ao.upd n1) _ _ R9,by rw[jM];lia,?_⟩
  have Tv:=Bv (x:=⟨a1,y,wt,ws⟩) Du hk (aR.of VP) R9 n1 rfl jW hy (by lia) ok
  have BG:upd (upd H5 a1 (.tup [.str (S y), .ref wt])) t (.lst (iV ks++[V.ref a1])) t=some (.lst (iV (ks++[⟨a1,y,wt,ws⟩]))):=by rw[ag, <-xx]
  have Xq:upd (upd H5 a1 (.tup [.str (S y), .ref wt])) t (.lst (iV ks++[V.ref a1])) wt=some (.tup (iR ws)):=by
   rw[az (fun z=>by rw[z,R9]at jW;cases jW)]
   exact (ao.upd n1) _ _ jW
  have VQ:bX (upd (upd H5 a1 (.tup [.str (S y), .ref wt])) t (.lst (iV ks++[V.ref a1]))) b:=(Xp.cZ Z8).cZ tb
  have s6:aO t H (upd (upd H5 a1 (.tup [.str (S y), .ref wt])) t (.lst (iV ks++[V.ref a1]))):=fun c o e z=>by
   rw[az z]
   exact (ao.upd n1) _ _ (VP _ _ (s2 c o e z))
  have Z9:(ks++[(⟨a1,y,wt,ws⟩:Ask)]).length<=2*i+1:=by rw[V7];show ks.length+1<=_;lia
  generalize upd (upd H5 a1 (.tup [.str (S y), .ref wt])) t (.lst (iV ks++[V.ref a1]))=H6 at Tv BG Xq VQ s6 ⊢
  generalize ks++[(⟨a1,y,wt,ws⟩:Ask)]=us at Tv BG Z9
  refine ⟨_,rfl,_,_,rfl,rfl,_,rfl,bp (fun f=>?_) (fun f=>?_)⟩
  ·refine ⟨_,rfl, .inl ⟨rfl,_,aZ.of BG⟩,rfl,_,rfl,_,rfl,b,y,rfl,VQ,by lia,fun p l H7 np pb hp VR bx7 s7=>?_⟩
   have N8:=VR.length_eq
   refine ⟨p,l.map fun c=>[c],rfl,rfl,aZ.of (by rw[hp,dj]),by rw[y8];lia,?_⟩
   rw[pG]
   refine ⟨_,rfl,by show 2<=sizeLine;decide,fun a2 n2=>?_⟩
   have Xr:=s7 _ _ BG tb
   have Xs:aR H6 H7:=fun c xs e=>s7 _ _ e fun z=>by rw[z]at e;obtain ⟨x,w,g⟩:=VQ;rw[g]at e;cases e
   refine ⟨t,iV us,_,rfl,rfl,(ao.upd n2) _ _ Xr,by rw[jM];lia,?_⟩
   have Z_:=Bv (x:=⟨a2,l,wt,ws⟩) BG Tv Xs Xr n2 rfl (Xs _ _ Xq) (hy.perm VR.symm) (by show l.length<=8;lia) (ok.perm VR.symm)
   refine ⟨us++[⟨a2,l,wt,ws⟩],_,_,_,_,rfl,by rw[ag, <-xx],by rw[V7];show us.length+1<=_;lia,Z_,fun c o e z=>?_⟩
   rw[az z]
   have cb:c≠b:=fun zb=>by
    have h1:=s2 c o e z
    rw[zb,nb]at h1;cases h1
   exact (ao.upd n2) _ _ (s7 _ _ (s6 c o e z) cb)
  ·exact ⟨us,_,_,_,_,rfl,BG,by lia,Tv,s6⟩
 ·rintro σ H2 ⟨ks,v2,v3,v4,v5,rfl,Du,Z6,hk,s2⟩
  refine ⟨_,rfl,_,rfl,_,rfl,_,rfl,t,_,rfl,aZ.of Du,fun p2 n2=>?_⟩
  rw[Jz]
  have aaa:(cut ks (some 1) (some 2)).length<=ks.length:=HQ _ _ _
  have hcm: ∀k∈ks++cut ks (some 1) (some 2),k∈ks:=fun k yE=>(Qaf.mp yE).elim id IA
  have tp2:t≠p2:=ax Du n2
  refine ⟨t,p2,_,_,rfl,rfl,(ao.upd n2) _ _ Du,ag,by rw[jM,jM];lia,fun p3 n3=>?_⟩
  rw[Jy]
  have VS: ∀k∈ks++cut ks (some 1) (some 2),qg (upd (upd H2 p2 (.lst (iV (cut ks (some 1) (some 2))))) p3 (.lst (iV (ks++cut ks (some 1) (some 2))))) k:=fun k yE=>(hk k (hcm k yE)).ts ((aR.cZ n2).trans (aR.cZ n3))
  have DO:upd (upd H2 p2 (.lst (iV (cut ks (some 1) (some 2))))) p3 (.lst (iV (ks++cut ks (some 1) (some 2)))) p3=some (.lst (iV (ks++cut ks (some 1) (some 2)))):=ag
  have qN:(ks++cut ks (some 1) (some 2)).length<=100:=by rw[V7];lia
  generalize upd (upd H2 p2 (.lst (iV (cut ks (some 1) (some 2))))) p3 (.lst (iV (ks++cut ks (some 1) (some 2))))=H3 at VS DO ⊢
  generalize ks++cut ks (some 1) (some 2)=us at VS DO qN ⊢
  refine ⟨p3,rfl,⟨_,aZ.of DO⟩,?_⟩
  refine jF (K:=K) (a:=p3) (xs:=iV us) (fun i acc H'=>ao H3 H'/\acc=(List.replicate i true).map V.bl) (by rw[jM];lia) (fun i acc H' h=>aZ.of (h.1 _ _ DO)) ⟨ao.refl _,rfl⟩ ?_ ?_
  ·rintro i x acc H4 Nx hi hx gN ⟨s4,rfl⟩ nx
   obtain ⟨k,yE,rfl⟩:=M9 hx
   have ok:=(VS k (Qab yE)).ts (aR.of s4)
   refine ⟨k.t,_,rfl,bE.of ok.tp,rfl,_,_,rfl,_,_,rfl,rfl,trivial,cL ?_⟩
   refine ⟨_,rfl,_,rfl,k.y,k.wt,k.ws,rfl,ok.yd,ok.yz,ok.ok,ok.wp,fun H5 s5=>?_⟩
   exact nx _ _ (by simpa using gN) ⟨s4.trans s5,wJ _⟩
  ·rintro acc H4 D4 gN ⟨s4,rfl⟩ Xm
   refine ⟨D4,_,rfl,aZ.of ag,?_⟩
   rw[AO]
   exact q _
end
theorem b5 {M:List Value->Prop} (h:M []): ∀us:List Value,us.length=0->M us
 | [],_=>h
theorem aI {M:List Value->Prop} {n:Nat} (h: ∀(a:Value) (us:List Value),us.length=n->M (a::us)): ∀us:List Value,us.length=n+1->M us
 | a::us,e=>h a us (Nat.succ.inj e)
def Dn (K:PySem.W.Frag) (x:Str) (st:Stmt) (f:Addr) (fd:FuncData):Prop:=PySem.W.nsIn K mainGlobals x=some (some (.ref f))/\HK K x x st f fd
theorem dn {K:PySem.W.Frag} {x:Str} {st:Stmt} {f:Addr} {oc:Value} {od an:Option Addr} {G7:Array (Option Value)} {kV doc pm cP ct:Value} (a:PySem.W.nsIn K mainGlobals x=some (some (.ref f))) (l:K.lookup f=some ⟨oc,od, .func (PySem.W.fnOf x x (fK st) (eX st) (au st) .none kV doc pm an cP ct),G7⟩) (c:PySem.W.codeIn K cP x=true) (k:PySem.W.keepIn K (.ref f)=true):Dn K x st f (PySem.W.fnOf x x (fK st) (eX st) (au st) .none kV doc pm an cP ct):=⟨a,yD l c k⟩
theorem gA {K:PySem.W.Frag} {h:Heap} {mg:Str->Option Value} {x:Str} {st:Stmt} {f:Addr} {fd:FuncData} {ps:List Str} (X:K.In h) (G:h.Ns mainGlobals mg) (a:Dn K x st f fd) (b: ∀(kV doc pm:Value) (an:Option Addr) (cP ct:Value) (us:List Value),us.length=ps.length->bindArgs (PySem.W.fnOf x x (fK st) (eX st) (au st) .none kV doc pm an cP ct) ⟨us,[]⟩=pure (ps.zip us)):bo K mg x st ps f fd:=⟨a.2,Qe6 X G a.1,a.2.binds b⟩
theorem all_mk {l:PySem.W.OpenLaw} {w:World} {K:PySem.W.Frag} {h:Heap} {mg:Str->Option Value} {fa f0 f1 f2 f3 f4 f5 f6 f7 f8 f9 Oi Gw Gx Oj Ol Om Oo Oq Ot Ou Ov Ow Ox Oy Oz OA OB OC OD OE OF OG OH OI OJ OK OL OM ON OO OP OQ OR OS aL aY ka gK:Addr} (X:K.In h) (G:h.Ns mainGlobals mg) (Sw:mg "law"=some (.ref fa))
  {d0 d1 d2 d3 d4 d5 d6 d7 d8 d9 OT OU OV KR OW OX OY OZ O0 O1 O2 O3 O4 JE O5 O6 O7 O8 O9 O_ Pa Pb Pc JF Pd Pe Ph Pj Pk Pl Pn Po Pp Pq:FuncData}
  {NN NO JX JY:Option Addr} {NP JZ:Array (Option Value)} {NQ NR NS NT GV NU J0 J1 J2 J3 BJ J4:Value}
  (a0:Dn K "contrary" ko f0 d0)
  (a1:Dn K "turned" qk f1 d1)
  (a2:Dn K "bands" vm f2 d2)
  (a3:Dn K "steps_round" gF f3 d3)
  (a4:Dn K "strands_in" iD f4 d4)
  (a5:Dn K "corner_ends" gG f5 d5)
  (a6:Dn K "shortened" jx f6 d6)
  (a7:Dn K "shortest" kr f7 d7)
  (a8:Dn K "ring" zZ f8 d8)
  (a9:Dn K "root" z4 f9 d9)
  (a10:Dn K "corner_steps" gc Oi OT)
  (a11:Dn K "steps_ahead" gH Gw OU)
  (a12:Dn K "steps_back" iE Gx OV)
  (a13:Dn K "parting" mP Oj KR)
  (a14:Dn K "side_of" mQ Ol OW)
  (a15:Dn K "comes_ahead" gI Om OX)
  (a16:Dn K "number_among" gf Oo OY)
  (a17:Dn K "seen_strand" gJ Oq OZ)
  (a18:Dn K "taut_order" iF Ot O0)
  (a19:Dn K "taut" z5 Ou O1)
  (a20:Dn K "_law_box" z6 Ov O2)
  (a21:Dn K "_law_take" vn Ow O3)
  (a22:Dn K "_law_other" ql Ox O4)
  (a23:Dn K "_law_yard" vp Oy JE)
  (a24:Dn K "_law_short" qm Oz O5)
  (a25:Dn K "_law_near" vq OA O6)
  (a26:Dn K "_law_order" qp OB O7)
  (a27:Dn K "_law_bands" qq OC O8)
  (a28:Dn K "_law_round" qr OD O9)
  (a29:Dn K "_law_on" Gu OE O_)
  (a30:Dn K "_law_across" mR OF Pa)
  (a31:Dn K "_law_shared" mS OG Pb)
  (a32:Dn K "_law_begins" mT OH Pc)
  (a33:Dn K "_law_forced" mU OI JF)
  (a34:Dn K "_law_times" qt OJ Pd)
  (a35:Dn K "_law_least" qu OK Pe)
  (a36:Dn K "_law_points" mV OL Ph)
  (a37:Dn K "_law_met" z7 OM Pj)
  (a38:Dn K "_law_strands" ku ON Pk)
  (a39:Dn K "_law_words" qv OO Pl)
  (a40:Dn K "_law_many_times" iG OP Pn)
  (a41:Dn K "_law_any_words" jy OQ Po)
  (a42:Dn K "_law_right" qw OR Pp)
  (a43:Dn K "law" Gv OS Pq)
  (q_Seen:PySem.W.nsIn K mainGlobals "Seen"=some (some (.ref aL)))
  (pg_Seen:PySem.W.plainGet K aL Str.empty=true)
  (hd_Seen:PySem.W.hasDictIn K aL=true)
  (po_Seen:PySem.W.plainOver K aL=true)
  (sa_Seen:PySem.W.findIn K (.ref aL) "__setattr__"=some (some (.builtin "object.__setattr__")))
  (n_Seen_strand:PySem.W.findIn K (.ref aL) "strand"=some none)
  (n_Seen_way:PySem.W.findIn K (.ref aL) "way"=some none)
  (n_Seen_place:PySem.W.findIn K (.ref aL) "place"=some none)
  (q_Way:PySem.W.nsIn K mainGlobals "Way"=some (some (.ref aY)))
  (pg_Way:PySem.W.plainGet K aY Str.empty=true)
  (hd_Way:PySem.W.hasDictIn K aY=true)
  (po_Way:PySem.W.plainOver K aY=true)
  (sa_Way:PySem.W.findIn K (.ref aY) "__setattr__"=some (some (.builtin "object.__setattr__")))
  (n_Way_size:PySem.W.findIn K (.ref aY) "size"=some none)
  (n_Way_root_size:PySem.W.findIn K (.ref aY) "root_size"=some none)
  (n_Way_leads:PySem.W.findIn K (.ref aY) "leads"=some none)
  (n_Way_onward:PySem.W.findIn K (.ref aY) "onward"=some none)
  (n_Way_backward:PySem.W.findIn K (.ref aY) "backward"=some none)
  (mk_Way:PySem.W.makesIn K aY=true)
  (qi_Way:PySem.W.findIn K (.ref aY) "__init__"=some (some (.ref ka)))
  (fi_Way:PySem.W.isFn K (.ref ka)=true)
  (kc_Way:PySem.W.keepIn K (.ref aY)=true)
  (li_Way:K.lookup ka=some ⟨NQ,NN, .func (PySem.W.fnOf "__init__" "Way.__init__" (fK jO) (eX jO) (au jO) .none NR NS NT NO GV NU),NP⟩)
  (ci_Way:PySem.W.codeIn K GV "Way.__init__"=true)
  (ki_Way:PySem.W.keepIn K (.ref ka)=true)
  (mk_Seen:PySem.W.makesIn K aL=true)
  (qi_Seen:PySem.W.findIn K (.ref aL) "__init__"=some (some (.ref gK)))
  (fi_Seen:PySem.W.isFn K (.ref gK)=true)
  (kc_Seen:PySem.W.keepIn K (.ref aL)=true)
  (li_Seen:K.lookup gK=some ⟨J0,JX, .func (PySem.W.fnOf "__init__" "Seen.__init__" (fK g7) (eX g7) (au g7) .none J1 J2 J3 JY BJ J4),JZ⟩)
  (ci_Seen:PySem.W.codeIn K BJ "Seen.__init__"=true)
  (ki_Seen:PySem.W.keepIn K (.ref gK)=true)
  (z_all:PySem.W.nsIn K mainGlobals "all"=some none)
  (z_dict:PySem.W.nsIn K mainGlobals "dict"=some none)
  (z_enumerate:PySem.W.nsIn K mainGlobals "enumerate"=some none)
  (z_int:PySem.W.nsIn K mainGlobals "int"=some none)
  (z_isinstance:PySem.W.nsIn K mainGlobals "isinstance"=some none)
  (z_len:PySem.W.nsIn K mainGlobals "len"=some none)
  (z_list:PySem.W.nsIn K mainGlobals "list"=some none)
  (z_max:PySem.W.nsIn K mainGlobals "max"=some none)
  (z_min:PySem.W.nsIn K mainGlobals "min"=some none)
  (z_range:PySem.W.nsIn K mainGlobals "range"=some none)
  (z_reversed:PySem.W.nsIn K mainGlobals "reversed"=some none)
  (z_set:PySem.W.nsIn K mainGlobals "set"=some none)
  (z_sorted:PySem.W.nsIn K mainGlobals "sorted"=some none)
  (z_str:PySem.W.nsIn K mainGlobals "str"=some none)
  (z_sum:PySem.W.nsIn K mainGlobals "sum"=some none)
  (z_tuple:PySem.W.nsIn K mainGlobals "tuple"=some none):
  ∃fd:FuncData,(∀(s:Shared) (v:Value),BindsTo s fd ⟨[v],[]⟩ [("_law_script",v)])/\ ∀base:Heap,K.In base->base.Ns mainGlobals mg->bF l.prog w K mg base fD 10 fa fd ["_law_script"] (lX K):=by
 have e:=Sw.symm.trans (Qe6 X G a43.1)
 cases e
 obtain ⟨_,_,_,_,_,_,_,_,_,rfl,_⟩:=a43.2.ex
 have GW:=yD (st:=jO) li_Way ci_Way ki_Way
 have NV:=GW.binds (ps:=["self","yard","word","longest"]) fun _ _ _ _ _ _=>aI fun _=>aI fun _=>aI fun _=>aI fun _=>b5 rfl
 have BK:=yD (st:=g7) li_Seen ci_Seen ki_Seen
 have J5:=BK.binds (ps:=["self","strand","way","place"]) fun _ _ _ _ _ _=>aI fun _=>aI fun _=>aI fun _=>aI fun _=>b5 rfl
 have T:Txt K mg _ _ _ _ _ _ _ _ _ _ _ _ _ _ _ _ _ _ _ _ _ _ _ _ _ _ _ _ _ _ _ _ _ _ _ _ _ _ _ _ _ _ _ _ _ _ _ _ _ _ _ _ _ _ _ _ _ _ _ _ _ _ _ _ _ _ _ _ _ _ _ _ _ _ _ _ _ _ _ _ _ _ _ _ _ _ _ _ _ _ _ _ _ _:=⟨gA X G a0 fun _ _ _ _ _ _=>aI fun _=>b5 rfl,gA X G a1 fun _ _ _ _ _ _=>aI fun _=>b5 rfl,gA X G a2 fun _ _ _ _ _ _=>aI fun _=>b5 rfl,gA X G a3 fun _ _ _ _ _ _=>aI fun _=>aI fun _=>aI fun _=>b5 rfl,gA X G a4 fun _ _ _ _ _ _=>aI fun _=>aI fun _=>b5 rfl,gA X G a5 fun _ _ _ _ _ _=>aI fun _=>aI fun _=>b5 rfl,gA X G a6 fun _ _ _ _ _ _=>aI fun _=>b5 rfl,gA X G a7 fun _ _ _ _ _ _=>aI fun _=>b5 rfl,gA X G a8 fun _ _ _ _ _ _=>aI fun _=>b5 rfl,gA X G a9 fun _ _ _ _ _ _=>aI fun _=>b5 rfl,gA X G a10 fun _ _ _ _ _ _=>aI fun _=>aI fun _=>aI fun _=>b5 rfl,gA X G a11 fun _ _ _ _ _ _=>aI fun _=>aI fun _=>aI fun _=>b5 rfl,gA X G a12 fun _ _ _ _ _ _=>aI fun _=>aI fun _=>aI fun _=>b5 rfl,gA X G a13 fun _ _ _ _ _ _=>aI fun _=>aI fun _=>aI fun _=>aI fun _=>b5 rfl,gA X G a14 fun _ _ _ _ _ _=>aI fun _=>b5 rfl,gA X G a15 fun _ _ _ _ _ _=>aI fun _=>aI fun _=>b5 rfl,gA X G a16 fun _ _ _ _ _ _=>aI fun _=>aI fun _=>b5 rfl,gA X G a17 fun _ _ _ _ _ _=>aI fun _=>aI fun _=>aI fun _=>b5 rfl,gA X G a18 fun _ _ _ _ _ _=>aI fun _=>aI fun _=>aI fun _=>b5 rfl,gA X G a19 fun _ _ _ _ _ _=>aI fun _=>aI fun _=>b5 rfl,gA X G a20 fun _ _ _ _ _ _=>aI fun _=>aI fun _=>b5 rfl,gA X G a21 fun _ _ _ _ _ _=>aI fun _=>aI fun _=>b5 rfl,gA X G a22 fun _ _ _ _ _ _=>aI fun _=>b5 rfl,gA X G a23 fun _ _ _ _ _ _=>aI fun _=>aI fun _=>aI fun _=>b5 rfl,gA X G a24 fun _ _ _ _ _ _=>aI fun _=>aI fun _=>aI fun _=>b5 rfl,gA X G a25 fun _ _ _ _ _ _=>aI fun _=>aI fun _=>aI fun _=>aI fun _=>b5 rfl,gA X G a26 fun _ _ _ _ _ _=>aI fun _=>aI fun _=>b5 rfl,gA X G a27 fun _ _ _ _ _ _=>aI fun _=>b5 rfl,gA X G a28 fun _ _ _ _ _ _=>aI fun _=>aI fun _=>aI fun _=>aI fun _=>b5 rfl,gA X G a29 fun _ _ _ _ _ _=>aI fun _=>aI fun _=>b5 rfl,gA X G a30 fun _ _ _ _ _ _=>aI fun _=>aI fun _=>aI fun _=>aI fun _=>aI fun _=>b5 rfl,gA X G a31 fun _ _ _ _ _ _=>aI fun _=>aI fun _=>aI fun _=>aI fun _=>aI fun _=>b5 rfl,gA X G a32 fun _ _ _ _ _ _=>aI fun _=>aI fun _=>aI fun _=>aI fun _=>aI fun _=>aI fun _=>b5 rfl,gA X G a33 fun _ _ _ _ _ _=>aI fun _=>aI fun _=>b5 rfl,gA X G a34 fun _ _ _ _ _ _=>aI fun _=>b5 rfl,gA X G a35 fun _ _ _ _ _ _=>aI fun _=>aI fun _=>b5 rfl,gA X G a36 fun _ _ _ _ _ _=>aI fun _=>aI fun _=>b5 rfl,gA X G a37 fun _ _ _ _ _ _=>aI fun _=>aI fun _=>b5 rfl,gA X G a38 fun _ _ _ _ _ _=>aI fun _=>aI fun _=>b5 rfl,gA X G a39 fun _ _ _ _ _ _=>aI fun _=>aI fun _=>aI fun _=>aI fun _=>b5 rfl,gA X G a40 fun _ _ _ _ _ _=>aI fun _=>aI fun _=>b5 rfl,gA X G a41 fun _ _ _ _ _ _=>aI fun _=>aI fun _=>aI fun _=>b5 rfl,gA X G a42 fun _ _ _ _ _ _=>aI fun _=>aI fun _=>b5 rfl,gA X G a43 fun _ _ _ _ _ _=>aI fun _=>b5 rfl,Qe6 X G q_Seen,⟨pg_Seen,hd_Seen,po_Seen,sa_Seen⟩,n_Seen_strand,n_Seen_way,n_Seen_place,Qe6 X G q_Way,⟨pg_Way,hd_Way,po_Way,sa_Way⟩,n_Way_size,n_Way_root_size,n_Way_leads,n_Way_onward,n_Way_backward,⟨mk_Way,qi_Way,fi_Way,kc_Way⟩,GW,NV,⟨mk_Seen,qi_Seen,fi_Seen,kc_Seen⟩,BK,J5,Qa2 X G z_all,Qa2 X G z_dict,Qa2 X G z_enumerate,Qa2 X G z_int,Qa2 X G z_isinstance,Qa2 X G z_len,Qa2 X G z_list,Qa2 X G z_max,Qa2 X G z_min,Qa2 X G z_range,Qa2 X G z_reversed,Qa2 X G z_set,Qa2 X G z_sorted,Qa2 X G z_str,Qa2 X G z_sum,Qa2 X G z_tuple⟩
 exact ⟨_,fun s v=> .of_eq rfl,fun base _ _=>NL T⟩
theorem walk {l:PySem.W.OpenLaw} {q:Program} {loose:List Str} {XP:(Str->Option Value)->Heap->Prop} {YP:World->Heap->Prop} {d:DefRec} {K:Params->PySem.W.Frag} (hn:l.most=some 63) (Qy:d.params.defaults=[])
  (hY: ∀(w:World) (h:Heap),YP w h->(K w.params).In h)
  (F: ∀(w:World) (mg:Str->Option Value) (fa:Addr) (h:Heap),(K w.params).In h->h.Ns mainGlobals mg->mg d.name=some (.ref fa)->
   ∃fd:FuncData,(∀(s:Shared) (u:Value),BindsTo s fd ⟨[u],[]⟩ [("_law_script",u)])/\ ∀base:Heap,(K w.params).In base->base.Ns mainGlobals mg->bF l.prog w (K w.params) mg base fD 10 fa fd ["_law_script"] (lX (K w.params))):
  PySem.W.WalkO q loose XP YP l.row.toRowW d [] (fun f vs=>PySem.call f vs):=
 L2.Au (n:=63) (k:=10) (x:="_law_script") (CX:=fun _=>fD) (sp:=fun w=>lX (K w.params)) hn (by decide) Qy ⟨rfl,by decide,by decide,rfl⟩ hY F (fun _ _ a ns hl _ hS=>⟨a,ns,rfl,hS,hl,fun _=>rfl⟩) fun _ _ _ _ _ z=>z
end My
structure PySem.W.Fast:Prop where (tw1002750254219632944 tw10097006388817646505 tw10235386395127021097 tw10292030857483052018 tw10332046366218999375 tw10332733102454469986 tw10377129410594022136 tw10427857608485680750 tw10603678608964859935 tw10693546188269387267 tw10757757026833050745 tw10876415521573862983 tw11019055887367175153 tw1103746419795957958 tw11091269481368550226 tw11095685586286205373 tw11185958945362473119 tw11351369565803414681 tw11359673902954985316 tw11437920508415711891 tw11476100777591894241 tw11687139522490234758 tw1178527878911663154 tw11787269535344269409 tw11813609020020992974 tw1189403458043590632 tw11910979591561736323 tw11961454522327607125 tw12010487312171723075 tw12174849162366462306 tw12178862508706290113 tw12295243022295435236 tw12330896475226707923 tw12400790932226461553 tw12503759623883826669 tw12616853257477732336 tw12771294627697380272 tw12872348697633853664 tw12879549142442240942 tw12932908356143023752 tw13182852371418791969 tw13198182853816885611 tw13344718749291152584 tw13372770758293024599 tw13460374481188463533 tw13717672121550358610 tw13801625978673425665 tw14202373622456230896 tw14332971985945869080 tw14396814166186443056 tw14459862194740946137 tw14473747940762933822 tw14580105597865255076 tw14608455887417960519 tw14818487134846989127 tw14870208150468389131 tw14959074034921289863 tw15549421994554171633 tw15571907566460536382 tw1558943513170209956 tw15658068387997554353 tw15898412369103419424 tw15925012760684044274 tw15995347267079909136 tw16139543852522859734 tw16149952773529627934 tw16168312499036207505 tw16227688693195804683 tw16248451736956915684 tw16317761041458658527 tw16445857033443362145 tw16494544897347825495 tw16544930525819599818 tw16572185132250341289 tw16616801294760231804 tw16758276683587389736 tw16821800168212973197 tw16825048253450532170 tw16917278914369081540 tw17133028475687785998 tw17410068812010200496 tw17467077199589571098 tw17513532378753598953 tw17706684041284716575 tw1778053703087799304 tw17839368530518635481 tw17843868259310674531 tw17857130955280084800 tw18210325384501231733 tw18363331105478698861 tw18364352232343371428 tw18425818602044807607 tw18436526013298833808 tw1899317075284707544 tw2221690836493970048 tw2416477881095721342 tw2515510425779959368 tw2591732921619018585 tw2595303986014392317 tw265979699145267820 tw2823757359835521597 tw2854848585725101256 tw2872258894267204553 tw2896996996936151451 tw2913424680103460370 tw2947054393650823753 tw3043096290469038212 tw3205392351946686515 tw3274382374094784325 tw3322783513593946782 tw3333747888884964010 tw3379019527619063111 tw3415943064378503130 tw3549987721878457713 tw3577235916902240614 tw3604465821664186008 tw3662133543374022896 tw3674538268769055297 tw3686731225992279907 tw3766442021117555415 tw3822142113702830009 tw3829915200905263191 tw3917250095072921028 tw3942663980716849518 tw3997433314747556584 tw4105598446117830033 tw4141321902457966447 tw4154615714380032190 tw4195209759632423061 tw4278552775980001756 tw4293184914129748152 tw4556182362470293058 tw4565733020281976685 tw4585610389705898817 tw4774670704611128018 tw4785685566079599418 tw4855690067065883202 tw4960027799897370609 tw5099642755248713190 tw5239073913475277813 tw5404610318644701378 tw5535335557274755391 tw5644801193332471978 tw5727184408142833863 tw5823570433690949552 tw5837731701100173194 tw5847251497209383413 tw5887538555907908231 tw5888430009136419460 tw5943811424088108214 tw5953247485458118143 tw5975603132900673700 tw6013877722958908530 tw6072136420455233867 tw6172094288165232369 tw6201234661018246271 tw6328009625150298961 tw6418488824368086689 tw645009926852887414 tw6488548101420529003 tw6532426704011917308 tw6544381499329603634 tw6551522308397068969 tw6628562251822564490 tw6630608120461788677 tw6777213952085623142 tw6824530321100467776 tw6842904539865842655 tw6915891071408809713 tw694833344989512229 tw7025986581083158262 tw7067273944961666620 tw7070386348050009680 tw7083216783608712335 tw7118657566219460619 tw7294323515619122980 tw7407352292434633420 tw7464113120179637089 tw757399877095354255 tw7762035007093990745 tw7807886737515612101 tw7824474766871902405 tw78878180996090910 tw7901745483465819032 tw8093442151998949546 tw8115413998852810491 tw8127865910780762162 tw8378815702520980667 tw8581357276169535589 tw8990513395048510635 tw915967963402695561 tw9216034517303116138 tw9302265532368037912 tw9306625050428152309 tw9424747278005429188 tw9489695269798919666 tw9604927105324958762 tw9788155251108343322 tw9830837570943290819 tw9844702355372695485:True)
open PySem PySem.W PyProof.Rows
set_option maxRecDepth 100000 in
set_option maxHeartbeats 0 in
theorem PySem.Challenge.cw_mustmeet_k33_taut_drawings_holds : PySem.Challenge.rw_mustmeet_k33_taut_drawings.Holds := by
 w_on;o_law;k_head;(case hw=>w_witness2)
 k_fill
 refine My.walk (l:=PySem.Challenge.rw_mustmeet_k33_taut_drawings) rfl rfl (fun w h Y=>PySem.W.kIn_of Y) ?F
 case F=>
  intro w mg fa h KX G hmg
  refine' My.all_mk KX G hmg (My.dn ?a0 ?l0 ?c0 ?k0) (My.dn ?a1 ?l1 ?c1 ?k1) (My.dn ?a2 ?l2 ?c2 ?k2) (My.dn ?a3 ?l3 ?c3 ?k3) (My.dn ?a4 ?l4 ?c4 ?k4) (My.dn ?a5 ?l5 ?c5 ?k5) (My.dn ?a6 ?l6 ?c6 ?k6) (My.dn ?a7 ?l7 ?c7 ?k7) (My.dn ?a8 ?l8 ?c8 ?k8) (My.dn ?a9 ?l9 ?c9 ?k9) (My.dn ?a10 ?l10 ?c10 ?k10) (My.dn ?a11 ?l11 ?c11 ?k11) (My.dn ?a12 ?l12 ?c12 ?k12) (My.dn ?a13 ?l13 ?c13 ?k13) (My.dn ?a14 ?l14 ?c14 ?k14) (My.dn ?a15 ?l15 ?c15 ?k15) (My.dn ?a16 ?l16 ?c16 ?k16) (My.dn ?a17 ?l17 ?c17 ?k17) (My.dn ?a18 ?l18 ?c18 ?k18) (My.dn ?a19 ?l19 ?c19 ?k19) (My.dn ?a20 ?l20 ?c20 ?k20) (My.dn ?a21 ?l21 ?c21 ?k21) (My.dn ?a22 ?l22 ?c22 ?k22) (My.dn ?a23 ?l23 ?c23 ?k23) (My.dn ?a24 ?l24 ?c24 ?k24) (My.dn ?a25 ?l25 ?c25 ?k25) (My.dn ?a26 ?l26 ?c26 ?k26) (My.dn ?a27 ?l27 ?c27 ?k27) (My.dn ?a28 ?l28 ?c28 ?k28) (My.dn ?a29 ?l29 ?c29 ?k29) (My.dn ?a30 ?l30 ?c30 ?k30) (My.dn ?a31 ?l31 ?c31 ?k31) (My.dn ?a32 ?l32 ?c32 ?k32) (My.dn ?a33 ?l33 ?c33 ?k33) (My.dn ?a34 ?l34 ?c34 ?k34) (My.dn ?a35 ?l35 ?c35 ?k35) (My.dn ?a36 ?l36 ?c36 ?k36) (My.dn ?a37 ?l37 ?c37 ?k37) (My.dn ?a38 ?l38 ?c38 ?k38) (My.dn ?a39 ?l39 ?c39 ?k39) (My.dn ?a40 ?l40 ?c40 ?k40) (My.dn ?a41 ?l41 ?c41 ?k41) (My.dn ?a42 ?l42 ?c42 ?k42) (My.dn ?a43 ?l43 ?c43 ?k43) ?q_Seen ?pg_Seen ?hd_Seen ?po_Seen ?sa_Seen ?n_Seen_strand ?n_Seen_way ?n_Seen_place ?q_Way ?pg_Way ?hd_Way ?po_Way ?sa_Way ?n_Way_size ?n_Way_root_size ?n_Way_leads ?n_Way_onward ?n_Way_backward ?mk_Way ?qi_Way ?fi_Way ?kc_Way ?li_Way ?ci_Way ?ki_Way ?mk_Seen ?qi_Seen ?fi_Seen ?kc_Seen ?li_Seen ?ci_Seen ?ki_Seen ?z_all ?z_dict ?z_enumerate ?z_int ?z_isinstance ?z_len ?z_list ?z_max ?z_min ?z_range ?z_reversed ?z_set ?z_sorted ?z_str ?z_sum ?z_tuple
  case a0|l0|c0|k0|a1|l1|c1|k1|a2|l2|c2|k2|a3|l3|c3|k3|a4|l4|c4|k4|a5|l5|c5|k5|a6|l6|c6|k6|a7|l7|c7|k7|a8|l8|c8|k8|a9|l9|c9|k9|a10|l10|c10|k10|a11|l11|c11|k11|a12|l12|c12|k12|a13|l13|c13|k13|a14|l14|c14|k14|a15|l15|c15|k15|a16|l16|c16|k16|a17|l17|c17|k17|a18|l18|c18|k18|a19|l19|c19|k19|a20|l20|c20|k20|a21|l21|c21|k21|a22|l22|c22|k22|a23|l23|c23|k23|a24|l24|c24|k24|a25|l25|c25|k25|a26|l26|c26|k26|a27|l27|c27|k27|a28|l28|c28|k28|a29|l29|c29|k29|a30|l30|c30|k30|a31|l31|c31|k31|a32|l32|c32|k32|a33|l33|c33|k33|a34|l34|c34|k34|a35|l35|c35|k35|a36|l36|c36|k36|a37|l37|c37|k37|a38|l38|c38|k38|a39|l39|c39|k39|a40|l40|c40|k40|a41|l41|c41|k41|a42|l42|c42|k42|a43|l43|c43|k43|q_Seen|pg_Seen|hd_Seen|po_Seen|sa_Seen|n_Seen_strand|n_Seen_way|n_Seen_place|q_Way|pg_Way|hd_Way|po_Way|sa_Way|n_Way_size|n_Way_root_size|n_Way_leads|n_Way_onward|n_Way_backward|mk_Way|qi_Way|fi_Way|kc_Way|li_Way|ci_Way|ki_Way|mk_Seen|qi_Seen|fi_Seen|kc_Seen|li_Seen|ci_Seen|ki_Seen|z_all|z_dict|z_enumerate|z_int|z_isinstance|z_len|z_list|z_max|z_min|z_range|z_reversed|z_set|z_sorted|z_str|z_sum|z_tuple=>k_is
