import PyProof.Rows.All
import Wide.All
import OpenK.AllK
import Wide.FinOn
import Lean
import PyProof.EqAt
import PyProof.EqKinds
import PyProof.TupleCall
import PySem.Challenge.RW_mustmeet_k35_whole_any_drawing_has_no_fe
set_option maxHeartbeats 4000000
set_option Elab.async false
set_option linter.all false
set_option maxRecDepth 100000
set_option hygiene false
open PySem.W renaming Frag→Fr
abbrev Z:=List Nat
local macro_rules|`(term|($x :))=>`(($x).length)
local macro_rules|`(term|())=>`(by lia)
local macro_rules|`(term|$a|||$b)=>`(List.getD $a $b [])
local macro_rules|`(term|∅)=>`(by decide)
local macro_rules|`(term|⋯)=>`(by decide +kernel)
local macro_rules|`(tactic|walk_at"a")=>`(tactic|intro X hP hw hK hc i pins s σ H E I hf st hg)
local macro_rules|`(tactic|walk_at"b")=>`(tactic|intro pins s σ H x y v u Q I rx ry h)
local macro_rules|`(tactic|walk_at"c")=>`(tactic|have s0:∀(w:Z) (i:Int),sq w i 0=rd w i:=λw i=>by unfold sq;rw[show i+0=i by lia])
local macro_rules|`(tactic|walk_at"d")=>`(tactic|obtain ⟨f0,f1,f2,f3,f4,f5⟩:=hf it (by simp))
local macro_rules|`(tactic|walk_at"e")=>`(tactic|refine cf (λz=>?_) (λz=>?_))
local macro_rules|`(tactic|walk_at"f")=>`(tactic|intro pins s σ H xs us Q I r h)
local macro_rules|`(tactic|walk_at"g")=>`(tactic|obtain ⟨t,rfl⟩:=rx)
local macro_rules|`(tactic|walk_at"h")=>`(tactic|intro pins s σ H Q I h)
local macro_rules|`(tactic|walk_at"i")=>`(tactic|refine ⟨λi m σ H=>m=(xs:) - i/\i<=(xs:)/\Pv i σ H,⟨(xs:),by simp,Qao _,h0⟩,?_⟩)
local macro_rules|`(tactic|walk_at"j")=>`(tactic|refine ⟨T,_,rfl,cu.of ae,rfl,_,_,rfl,_,_,rfl,rfl,?_⟩)
local macro_rules|`(tactic|walk_at"k")=>`(tactic|have b0:∀(w:Z) (i:Int),bq w i 0=ak (rd w i):=λw i=>by unfold bq;rw[show i - 0=i by lia])
local macro_rules|`(tactic|walk_at"l")=>`(tactic|refine wpAny_bind (wpAny_callSpecial?_slot (name:=Str.ofString "__next__") hi.typeIs F.slot_tuple_iterator_next (wpAny_call_entry F.slot_tuple_iterator_next hi.typeIs F.entry_tuple_iterator_next ?_ (F.args_tuple_iterator_next_1 _))))
local macro_rules|`(tactic|walk_at"m")=>`(tactic|refine Call_ (iq I hg hm boot_enumerate (Qb1 (cJ (ha pos pins s σ H _ I h) λus s1 ⟨vs,H1,I1,r1,q1⟩=>?_) hs rfl)))
local macro_rules|`(tactic|walk_at"n")=>`(tactic|have b4:=eZ (P:=P) (w:=w) (base:=base) T)
local macro_rules|`(tactic|walk_at"o")=>`(tactic|have Qj:∀y∈scope.names,y.2= .free->∃c,X.env.cells.lookup y.1=some c:=λy hy e=>I.ok.has y.1 (J4 y hy e))
local macro_rules|`(tactic|walk_at"p")=>`(tactic|have W:=WalksT.enumerateD D e BW (by simp;exact ⟨BW,Ne.symm S_⟩) (by simp))
local macro_rules|`(tactic|walk_at"q")=>`(tactic|refine wpAny_bind (wpAny_of_eq (a:=Unit.unit) (by first | rfl | kernel_rfl) ?_))
local macro_rules|`(tactic|walk_at"r")=>`(tactic|obtain ⟨z,its,n,r,hl,e⟩:=I.tW hH)
local macro_rules|`(tactic|walk_at"s")=>`(tactic|have bK:=hV (P:=P) (w:=w) (base:=base) T)
local macro_rules|`(tactic|walk_at"t")=>`(tactic|intro pins s σ H x xs v us Q I rx rv h)
local macro_rules|`(tactic|walk_at"u")=>`(tactic|intro pins s σ H x vs v us Q I rx rv h)
local macro_rules|`(tactic|walk_at"v")=>`(tactic|simp only[Qci,Qbw,if_false])
local macro_rules|`(tactic|walk_at"x")=>`(tactic|have s0:∀(w:Z) (i:Int),sq w i 0=rd w i:=λw i=>by unfold sq;rw[show i+0=i by omega])
local macro_rules|`(tactic|walk_at"y")=>`(tactic|exact λp2 n2=>q p2 _ (aj.free (aj.upd n1) n2) ⟨_,_,ae⟩ ((aj.upd n1).trans (aj.upd n2)))
local macro_rules|`(tactic|walk_at"z")=>`(tactic|have Du:p1≠p2:=λz=>by rw[<-z,ae]at n2;cases n2)
local macro_rules|`(tactic|walk_at"A")=>`(tactic|refine wpAny_bind (wpAny_field ho hd (x:=rawInt (i:Int)) rfl ?_))
local macro_rules|`(tactic|walk_at"B")=>`(tactic|rw[show its.toArray.any (yh x)=its.any (yh x) by simp,mw r fs])
local macro_rules|`(tactic|walk_at"C")=>`(tactic|intro pins s σ H D I h)
local macro_rules|`(tactic|walk_at"D")=>`(tactic|refine wpAny_bind (wpAny_of_eq (a:=(Value.ref it,[])) rfl ?_))
local macro_rules|`(tactic|walk_at"E")=>`(tactic|have mE:∀{x:Str} {c:Addr},(jv X.env scope.names []).lookup x=some c->X.env.cells.lookup x=some c:=λ{x c} e=>nX scope.names [] (λy d q=>by simp at q) e)
local macro_rules|`(tactic|walk_at"F")=>`(tactic|have e1:=h.MF (a:=(ak (f (-1)),a)) (b:=(ak (g (-1)),a')) (c:=(f 0,b)) (by simp) (by simp) (by simp) (by show ak _=ak _;rw[z1]) (cw ya (hf.bO 0) (Ne.symm r1)))
local macro_rules|`(tactic|walk_at"G")=>`(tactic|exact I1.pW (YS _) (I1.cy.fresh (YS _)))
local macro_rules|`(tactic|walk_at"H")=>`(tactic|refine wpAny_bind ?_)
local macro_rules|`(tactic|walk_at"I")=>`(tactic|exact ⟨o,e,λv z=>by rw[d]at z;cases z⟩)
local macro_rules|`(tactic|walk_at"J")=>`(tactic|rw[show fg f v ((k,x)::r)=(if k=f then (k,v)::r else (k,x)::fg f v r) from rfl])
local macro_rules|`(tactic|walk_at"K")=>`(tactic|refine wpAny_bind (wpAny_rule ?_))
local macro_rules|`(tactic|walk_at"L")=>`(tactic|refine W.go elts k pos i T { s with heap:=h',toks:=tk } _ _ yr λh2 yt Aq=>?_)
local macro_rules|`(tactic|walk_at"M")=>`(tactic|refine ⟨(E'.eraseIdx r:),by omega,F++[E'[r]],E'.eraseIdx r,rfl,rfl,?_,by rw[aq Du,ae],ae,(pT.bL Ff).bL IU,((s4.trans s5).bL n1).bL IQ⟩)
local macro_rules|`(tactic|walk_at"N")=>`(tactic|rw[show (0:Int)=bH (w:) (v:) (λ_ _=>0) by unfold bH;rw[show (λ_:Int=>sm (v:) λ_=>0)=λ_=>0 from funext λ_=>dH _,dH]])
local macro_rules|`(tactic|walk_at"O")=>`(tactic|refine wpAny_bind (wpAny_setField ho hd (by simp) ?_))
local macro_rules|`(tactic|walk_at"P")=>`(tactic|intro value slice pins s σ H x y v u Q I rx ry h hs)
local macro_rules|`(tactic|walk_at"Q")=>`(tactic|have e2:=h.same (a:=(ak (f (-1)),a)) (b:=(g 0,b')) (c:=(f 0,b)) (by simp) (by simp) (by simp) z0.symm (cw ya (hf.bO 0) (Ne.symm r1)))
local macro_rules|`(tactic|walk_at"R")=>`(tactic|have lw:=YR.mpr hw.ne)
local macro_rules|`(tactic|walk_at"S")=>`(tactic|have c_:=gs (P:=P) (w:=w) (base:=base) T)
local macro_rules|`(tactic|walk_at"T")=>`(tactic|show ((x::l).filter (p z):)+((l.filter (p x):)+cl p l)=((z::l).filter (p x):)+((l.filter (p z):)+cl p l))
local macro_rules|`(tactic|walk_at"U")=>`(tactic|obtain ⟨t',rfl⟩:=ry)
local macro_rules|`(tactic|walk_at"V")=>`(tactic|intro pins s σ H R I h)
local macro_rules|`(tactic|walk_at"W")=>`(tactic|refine wpAny_bind (m:=firstArgMember _ _) (wpAny_of_eq (a:=Value.none) (by first | rfl | (simp only[firstArgMember];rfl)) ?_))
local macro_rules|`(tactic|walk_at"X")=>`(tactic|show jv env r (if (k==NameKind.free)=true then (match env.cells.lookup n with | some a=>(n,a)::acc | none=>acc) else acc)=_)
local macro_rules|`(tactic|walk_at"Y")=>`(tactic|refine W.done s _ _ ?_ λh' tk hk=>⟨rfl,I.wb (t':=tk) hk hf⟩)
local macro_rules|`(tactic|walk_at"Z")=>`(tactic|have I1:Inv X pins σ H { s with heap:=h',toks:=tk }:=I.turned (λb o hb e=>kk b o (by simpa using hb) e) f0 f1 f3 f4 f5)
local macro_rules|`(tactic|walk_at"0")=>`(tactic|refine wpAny_setField (Qb3 _ ho (Obj.isFreed_of_fields (Obj.data_mapFields hd _))) (Obj.data_mapFields hd _) (by simp) ?_)
local macro_rules|`(tactic|walk_at"1")=>`(tactic|refine wpAny_pure ?_)
local macro_rules|`(tactic|walk_at"2")=>`(tactic|refine cJ (hl pins s σ H _ I h) λv s1 ⟨x,H1,I1,r1,q1⟩=>?_)
local macro_rules|`(tactic|walk_at"3")=>`(tactic|refine Call_ (iq I hg hm boot_reversed (Qb1 (cJ (ha pos pins s σ H _ I h) λus s1 ⟨vs,H1,I1,r1,q1⟩=>?_) hs rfl)))
local macro_rules|`(tactic|walk_at"4")=>`(tactic|obtain ⟨t,rfl⟩:=r1)
local macro_rules|`(tactic|walk_at"5")=>`(tactic|have I1:Inv X pins σ H { s with heap:=h' }:=I.turned (t':=s.toks) (λb o hb e=>(sb.2 b hb).trans e) f0 f1 f3 f4 f5)
local macro_rules|`(tactic|walk_at"6")=>`(tactic|refine ⟨p1,_,_,r,_,rfl,rfl,s5 _ _ gp Ff,by omega,by omega,by rw[seqIndex_of (by omega) (by omega),YQ],NT JI,?_⟩)
local macro_rules|`(tactic|walk_at"7")=>`(tactic|refine nx _ _ (by simpa using jK) ⟨s2.trans st,us++[⟨t,e,p⟩],zl us ⟨t,e,p⟩,λu hu=>?_,?_,by simp[qF]⟩)
local macro_rules|`(tactic|walk_at"8")=>`(tactic|have I1:Inv X pins σ H { s with heap:=h',toks:=tk }:=I.turned (λb o hb e=>(sb.2 b hb).trans e) f0 f1 f3 f4 f5)
local macro_rules|`(tactic|walk_at"9")=>`(tactic|refine yO (n:=m) (by rw[hl];exact hm) (by rw[hl];exact hr) ?_)
open List renaming getElem?_eq_getElem→NT,getElem?_eq_some_iff→NU,length_map→Qi,length_append→U3,length_pos_iff→YR,getD_eq_getElem?_getD→Qaa,mem_singleton→Qab,mem_cons_self→Qac,map_append→Qad,mem_cons_of_mem→Qae,mem_append→Qaf,getElem?_map→Qag,size_toArray→Qah,mem_of_getElem?→Qai,mem_cons→Qak,not_mem_nil→Qal,mem_map→Qam,idxOf_lt_length_of_mem→Qan,length_take→Qas,map_cons→Qav,flatMap_append→Qaw,mem_range→Qax,length_cons→Qaz,length_drop→Qa0,getElem_mem→Qa1,flatMap_cons→Qa3,append_nil→Qa4,filter_cons_of_neg→Qa6,mem_filter→Qa8,mem_append_right→Qa9,take_of_length_le→Qba,length_reverse→Qbb,nodup_cons→Qbc,append_assoc→Qbd,filter_cons_of_pos→Qbe,take_length→Qbg,mem_flatMap→Qbh,getElem?_append_left→Qbi,drop_eq_getElem_cons→Qbj,map_map→Qbq,take_append_drop→Qbr,getElem?_eq_none→Qbv,lookup_cons→Qbx,pairwise_map→Qby,getElem?_append_right→Qb0,nodup_append→Qb2,mem_of_mem_take→Qb4,pairwise_cons→Qb5,range_succ→Qb7,getElem_map→Qb9,length_eq_zero_iff→Qca,getElem_idxOf→Qcb,flatten_cons→Qcd,filter_append→Qcg,length_range→Qck,flatMap_singleton→Qcl,drop_of_length_le→Qcm,map_congr_left→Qco,find?_cons→Qcp,getElem?_drop→Qcr,sum_cons→Qcs,any_cons→Qct,mem_of_mem_drop→Qcu,dropLast_concat→Qcv,getElem?_range→Qcx,all_eq_true→Qc3,getElem?_reverse→Qc4,pairwise_iff_getElem→Qc5,foldl_cons→Qc8,pairwise_append→Qda,getElem_of_mem→Qdb,nodup_range→Qdd,filter_cons→Qde,cons_append→Qdf,drop_eq_nil_of_le→Qdh,nil_append→Qdj,perm_append_comm_assoc→Qdr,ext_getElem?→Qds,map_reverse→Qdw,getLast?_eq_getElem?→Qdy,getElem?_take→Qd3,eraseIdx_cons_succ→Qd4,lt_irrefl→Qd8,filter_congr→Qd9,perm_append_comm→Qea,length_filter_le→Qeb,countP_mono_left→Qec,mem_reverse→Qed,mem_flatten→Qee,flatMap_nil→Qef,mem_append_left→Qeg,eq_nil_of_length_eq_zero→Qeh,forIn_cons→Qek,take_add_one→Qew,foldl_append→Qex,sublist_cons_self→Qfe,head?_eq_getElem?→Qff,filter_map→Qfj,cons_lt_cons_iff→Qfl,nodup_nil→Qfo,idxOf_cons_self→Qfp,replicate_succ→Qfr,flatten_append→Qfs,filterMap_cons→Qft,map_take→Qfx,any_eq_false→Qf4,any_eq_true→Qf8,map_id→Qf9,of_mem_zip→Qgb,length_set→Qgc,length_nil→Qgd,idxOf_cons→Qge
open Int renaming toNat_natCast→YQ,emod_eq_of_lt→Qa7,natCast_add→Qbk,emod_lt_of_pos→Qcc,emod_nonneg→Qcf,emod_eq_emod_iff_emod_sub_eq_zero→Qcw,zero_add→Qcz,add_emod_right→Qdi,emod_add_emod→Qdt,emod_emod_of_dvd→Qdu,natCast_mul→Qel,sub_zero→Qep,sub_emod→Qeq,mul_comm→Qer,add_zero→Qes,add_mul_emod_self_left→Qeu,add_assoc→Qe1,natCast_emod→Qe3,natCast_ediv→Qe4,emod_add_mul_ediv→Qfn,natCast_nonneg→Qf1,dvd_refl→Qf6,le_refl→Qga
open Nat renaming le_refl→YS,zero_le→Qao,ne_of_lt→Qay,lt_of_lt_of_le→Qa2,le_trans→Qbf,lt_of_le_of_lt→Qbn,le_of_lt→Qbo,mod_eq_of_lt→Qbs,lt_irrefl→Qbu,min_eq_left→Qb6,min_eq_right→Qb8,lt_or_gt_of_ne→Qcq,lt_trans→Qcy,le_succ→Qc0,succ_le_succ→Qc1,lt_succ_self→Qc2,not_lt_zero→Qc6,max_eq_left→Qc7,mul_comm→Qc9,max_eq_right→Qdc,mod_lt→Qdg,lt_succ_of_lt→Qdp,le_succ_of_le→Qdq,succ_ne_zero→Qdv,zero_add→Qd5,succ_mul→Qd6,dvd_of_mod_eq_zero→Qd7,div_add_mod→Qej,mod_self→Qem,lt_asymm→Qen,add_comm→Qeo,succ_ne_self→Qe2,sub_self→Qfb,not_lt→Qfc,ne_of_gt→Qfd,mod_add_div→Qfh,le_antisymm→Qfi,div_lt_iff_lt_mul→Qfk,le_of_dvd→Qfv,add_assoc→Qfw,mod_eq_sub_mod→Qf0,succ_pos→Qf3,le_add_right→Qf7
open PySem.Heap renaming get?_push_of_some→YT,get?_push_size→Qat,lt_size→Qau,get?_update_other→Qbp,get?_update_self→Qb3,size_push→Qei
open Option.some renaming inj→Qaj
open Bool renaming false_ne_true→Qap,and_eq_true→Qbt,false_eq_true→Qbw,and_eq_true_iff→Qch,not_true→Qci,eq_iff_iff→Qdk,not_eq_true→Qdx,true_and→Qd2,not_false→Qev,and_false→Qfq,or_false→Qfy,false_or→Qfz,decide_and→Qgf
open PySem renaming boot_len→Qaq,mem_of_lookup→Qdz
open PySem.F renaming plainAttrs_list→Qar,plainAttrs_str→Qa5,type_list_append→Qbl,slot_list_append→Qbm,plain_max_loop→Qcj,type_str_join→Qdl,type_list_pop→Qdm,slot_str_join→Qdn,slot_list_pop→Qdo,type_list_extend→Qd0,slot_list_extend→Qd1,type_str_islower→Qez,slot_str_islower→Qe0,type_str_lower→Qe6,type_str_index→Qe7,slot_str_lower→Qe8,slot_str_index→Qe9,entry_max_loop→Qfa
open PySem.W renaming mg_none_of→Qbz,callWith_K→Qet,mg_of→Qfu
open PyProof.Rows renaming callWith_type1→Qb1
open List.Pairwise renaming imp_of_mem→Qce,imp→Qf5
open List.Perm renaming refl→Qcn,append_left→Qfm
open PySem.Heap.SameBut renaming update→Qey
open Array renaming toList_inj→Qe5,forIn_toList→Qf2
open Option renaming map_some→Qfg
namespace L2
open PySem PySem.Spec PyProof.Rows
abbrev Key:=Sum Int Str
noncomputable def uC:Key->Value->Bool
 | .inl k,v=>Value.isInt k v
 | .inr x,v=>Value.isStrOf x v
noncomputable def V6(w:World):Key->Int
 | .inl k=>hashInt k
 | .inr x=>hashStr w x
theorem cI:∀{k:Key} {v:Value},uC k v=true->(∃i t,k=Sum.inl i/\v=Value.int i t)\/(∃x t,k=Sum.inr x/\v=Value.str x t)
 | .inl i,v,h=>by
  obtain ⟨t,e⟩:=Value.isInt_shape (k:=i) (v:=v) h
  exact .inl ⟨i,t,rfl,e⟩
 | .inr x,v,h=>by
  obtain ⟨t,e⟩:=Value.isStrOf_shape (x:=x) (v:=v) h
  exact .inr ⟨x,t,rfl,e⟩
theorem DB(i:Int)(t:Tok):uC (.inl i) (.int i t)=true:=by simp[uC,Value.isInt]
theorem DC(x:Str)(t:Tok):uC (.inr x) (.str x t)=true:=by simp[uC,Value.isStrOf]
theorem M8(a b:Int):decide ((Sum.inl a:Key)=Sum.inl b)=(a==b):=by
 by_cases e:a=b
 ·subst e;simp
 ·have h: ¬(Sum.inl a:Key)=Sum.inl b:=λq=>e (Sum.inl.inj q)
  rw[decide_eq_false h]
  exact (beq_eq_false_iff_ne.mpr e).symm
theorem M9(a b:Str):decide ((Sum.inr a:Key)=Sum.inr b)=decide (a=b):=by
 by_cases e:a=b
 ·subst e;simp
 ·have h: ¬(Sum.inr a:Key)=Sum.inr b:=λq=>e (Sum.inr.inj q)
  rw[decide_eq_false h,decide_eq_false e]
theorem M_(a:Int)(b:Str):decide ((Sum.inl a:Key)=Sum.inr b)=false:=decide_eq_false (λq=>nomatch q)
theorem Na(a:Str)(b:Int):decide ((Sum.inr a:Key)=Sum.inl b)=false:=decide_eq_false (λq=>nomatch q)
noncomputable def bQ(prog:Program)(w:World):PySem.KeyKind prog w Key where
 is:=uC
 hash:=V6 w
 inj:=λv a b ha hb=>by
  rcases cI ha with ⟨i,t,rfl,rfl⟩ | ⟨x,t,rfl,rfl⟩
  ·rcases cI hb with ⟨j,u,rfl,e⟩ | ⟨y,u,rfl,e⟩
   ·injection e with e1 _;rw[e1]
   ·exact nomatch e
  ·rcases cI hb with ⟨j,u,rfl,e⟩ | ⟨y,u,rfl,e⟩
   ·exact nomatch e
   ·injection e with e1 _;rw[e1]
 byValue:=λk v h=>by
  rcases cI h with ⟨i,t,rfl,rfl⟩ | ⟨x,t,rfl,rfl⟩<;>rfl
 pyHash:=λhv h=>by
  rcases cI hv with ⟨i,t,rfl,rfl⟩ | ⟨x,t,rfl,rfl⟩
  ·exact wpAny_pyHash_int h
  ·exact wpAny_pyHash_str h
 eqBool:=λhu hv h=>by
  rcases cI hu with ⟨i,t,rfl,rfl⟩ | ⟨x,t,rfl,rfl⟩
  ·rcases cI hv with ⟨j,u,rfl,rfl⟩ | ⟨y,u,rfl,rfl⟩
   ·rw[M8]at h;exact wpAny_eqBool_int h
   ·rw[M_]at h;exact SeqAt.EqAt.int_str i t y u _ _ _ _ h
  ·rcases cI hv with ⟨j,u,rfl,rfl⟩ | ⟨y,u,rfl,rfl⟩
   ·rw[Na]at h;exact SeqAt.EqAt.str_int x t j u _ _ _ _ h
   ·rw[M9]at h;exact wpAny_eqBool_str h
 «strs» :=λk x t v h=>by
  rcases cI h with ⟨i,u,rfl,e⟩ | ⟨y,u,rfl,e⟩
  ·exact nomatch e
  ·injection e with e1 _
   subst e1
   cases v<;>rfl
theorem xS(prog:Program)(w:World)(i:Int)(t:Tok):(bQ prog w).is (.inl i) (.int i t)=true:=DB i t
theorem xT(prog:Program)(w:World)(x:Str)(t:Tok):(bQ prog w).is (.inr x) (.str x t)=true:=DC x t
inductive V where
 | gE | bl (b:Bool) | int (i:Int) | str (x:Str) | BF (b:Array UInt8) | UP (b:UInt64) | ref (a:Addr) | ty (n:String)
 deriving DecidableEq
def RelV:V->Value->Prop
 | .gE,u=>u=Value.none
 | .bl b,u=>u=Value.bool b
 | .int i,u=>∃t,u=Value.int i t
 | .str x,u=>∃t,u=Value.str x t
 | .BF b,u=>∃t,u=Value.bytes b t
 | .UP b,u=>∃t,u=Value.float b t
 | .ref a,u=>u=Value.ref a
 | .ty n,u=>u=Value.type n
abbrev Vals:List V->List Value->Prop:=Paired RelV
theorem Vals.length{xs:List V}{us:List Value}(r:Vals xs us):(xs:)=(us:):=Paired.length r
theorem Vals.get:∀{xs:List V} {us:List Value} {i:Nat} {x:V},Vals xs us->xs[i]? =some x->∃u,us[i]? =some u/\RelV x u
 | _,_,_,_,.nil,e=>by simp at e
 | _,_,0,_,.cons r _,e=>by simp at e;subst e;exact ⟨_,rfl,r⟩
 | _,_,i+1,x,.cons _ t,e=>by
  obtain ⟨u,h1,h2⟩:=Vals.get (i:=i) (x:=x) t (by simpa using e)
  exact ⟨u,by simpa using h1,h2⟩
theorem Vals.set{x:V}{u:Value}(r:RelV x u):∀{xs:List V} {us:List Value} (i:Nat),Vals xs us->Vals (xs.set i x) (us.set i u)
 | _,_,_,.nil=> .nil
 | _,_,0,.cons _ t=> .cons r t
 | _,_,i+1,.cons q t=> .cons q (Vals.set r i t)
theorem Vals.append:∀{xs ys:List V} {us ws:List Value},Vals xs us->Vals ys ws->Vals (xs++ys) (us++ws)
 | _,_,_,_,.nil,s=>s
 | _,_,_,_,.cons r t,s=> .cons r (Vals.append t s)
theorem Vals.take:∀{xs:List V} {us:List Value} (n:Nat),Vals xs us->Vals (xs.take n) (us.take n)
 | _,_,0,_=> .nil
 | _,_,_+1,.nil=> .nil
 | _,_,n+1,.cons r t=> .cons r (Vals.take n t)
theorem Vals.drop:∀{xs:List V} {us:List Value} (n:Nat),Vals xs us->Vals (xs.drop n) (us.drop n)
 | _,_,0,r=>r
 | _,_,_+1,.nil=> .nil
 | _,_,n+1,.cons _ t=>Vals.drop n t
def nS:Option V->Option Value->Prop
 | some v,some u=>RelV v u
 | none,none=>True
 | _,_=>False
def KV{κ:Type}:List (κ×V)->List (κ×Value)->Prop:=Paired λ(p:κ×V) (q:κ×Value)=>p.1=q.1/\RelV p.2 q.2
noncomputable def kV:Key->V
 | .inl i=> .int i
 | .inr x=> .str x
inductive HO where
  | lst (xs:List V)
  | tup (xs:List V)
  | dK (aL:List (Key×V)) | dT (aL:List (List Key×V))
  | set (S:Int->Bool) (n:Nat)
  | ins (C dx:Addr) (fs:List (Str×V))
  | own (x:Addr)
  | xd (fs:List (Str×V))
  | met (f x:Addr)
  | V7 (lo hi:Int)
  | Jl (o:Obj) (u:HO)
  | Nb (ps:Array Value)
  | ext (φ:Heap->Prop)
abbrev Hp:=Addr->Option HO
noncomputable def upd(H:Hp)(a:Addr)(o:HO):Hp:=λb=>if b=a then some o else H b
theorem ae{H:Hp}{a:Addr}{o:HO}:upd H a o a=some o:=by unfold upd;rw[if_pos rfl]
theorem aq{H:Hp}{a b:Addr}{o:HO}(h:b≠a):upd H a o b=H b:=by unfold upd;rw[if_neg h]
theorem RQ{H:Hp}{a b:Addr}{o u:HO}(h:H a=some o)(h':H b=some u)(d:o≠u):a≠b:=by
 intro e;subst e;rw[h]at h';exact d (Qaj h')
theorem au{H:Hp}{a b:Addr}{o:HO}(h:H a=some o)(h':H b=none):a≠b:=by
 intro e;subst e;rw[h]at h';cases h'
section
variable(P:Program)(w:World)
def cM(H:Hp)(h:Heap)(a:Addr):HO->Prop
 | .lst xs=>(xs:)<=sizeLine/\∃(its:List Value) (n:Nat),Vals xs its/\h.get? a=some { cls:= .type "list",data:= .seq its.toArray n }
 | .tup xs=>(xs:)<=sizeLine/\∃its:List Value,Vals xs its/\IsTup h a its.toArray
 | .dK aL=>(aL:)<=sizeLine/\(a==sysModules)=false/\∃vs,KV aL vs/\h.DictOf (bQ P w) a vs
 | .dT aL=>(aL:)<=sizeLine/\(a==sysModules)=false/\∃xs:List (List Key×Addr×Value),
   Paired (λ(p:List Key×V) (q:List Key×Addr×Value)=>p.1=q.1/\H q.2.1=some (.tup (p.1.map kV))/\RelV p.2 q.2.2) aL xs/\
   ∃o es ep,h.get? a=some o/\o.ExactDict/\o.data= .dict es ep/\es.toList=xs.map (entryOfKey (tupleKind (bQ P w)))/\(xs.map (·.1)).Nodup
 | .set S n=>h.SetOf (intKind P w) a S n
 | .ins C dx fs=>H dx=some (.own a)/\(fs:)<=1000/\dx≠a/\h.get? a=some (PySem.W.instObj C dx)/\
   ∃mA,h.Ns1 dx mA/\(∀f,nS (fs.lookup f) (mA f))/\PySem.Within mA (fs.map (·.1))
 | .own _=>∃o,h.get? a=some o
 | .xd fs=>∃mA,h.Ns1 a mA/\∀f,nS (fs.lookup f) (mA f)
 | .V7 lo hi=>∃t u v,h.get? a=some { cls:= .type "range",data:= .fields #[.int lo t,.int hi u,.int 1 v] }
 | .Jl o u=>h.get? a=some o/\cM H h a u
 | .Nb ps=>h.get? a=some { cls:= .none,data:= .fields ps }
 | .met f x=>h.get? a=some (PySem.W.methodObj (.ref f) (.ref x))
 | .ext φ=>φ h/\(∃o,h.get? a=some o)/\∀h1 h2:Heap,φ h1->(∀o,h1.get? a=some o->h2.get? a=some o)->φ h2
def kU(H:Hp)(h:Heap):Prop:=∀a o,H a=some o->cM P w H h a o
end
section
variable{P:Program}{w:World}{H H':Hp}{h h':Heap}{a:Addr}{o:HO}
theorem cM.lt(x:cM P w H h a o):a<h.objs.size:=by
 cases o with
 | lst xs=>obtain ⟨_,_,_,_,e⟩:=x;exact Qau e
 | tup xs=>obtain ⟨_,_,_,p⟩:=x;exact p.lt
 | dK aL=>obtain ⟨_,_,_,_,o,_,_,e,_⟩:=x;exact Qau e
 | dT aL=>obtain ⟨_,_,_,_,o,_,_,e,_⟩:=x;exact Qau e
 | set S n=>obtain ⟨o,_,_,_,e,_⟩:=x;exact Qau e
 | ins C dx fs=>obtain ⟨_,_,_,e,_⟩:=x;exact Qau e
 | own y=>obtain ⟨_,e⟩:=x;exact Qau e
 | xd fs=>obtain ⟨_,⟨_,_,_,e,_⟩,_⟩:=x;exact Qau e
 | V7 lo hi=>obtain ⟨_,_,_,e⟩:=x;exact Qau e
 | Jl ob u=>obtain ⟨e,_⟩:=x;exact Qau e
 | Nb ps=>exact Qau (show h.get? a=some _ from x)
 | met f y=>exact Qau (show h.get? a=some _ from x)
 | ext φ=>obtain ⟨_,⟨_,e⟩,_⟩:=x;exact Qau e
theorem Paired.Nd{α β:Type}{F G:α->β->Prop}:∀{l₁:List α} {l₂:List β},Paired F l₁ l₂->(∀a b,F a b->G a b)->Paired G l₁ l₂
 | _,_,.nil,_=> .nil
 | _,_,.cons r t,f=> .cons (f _ _ r) (Paired.Nd t f)
theorem cM.xU(x:cM P w H h a o)(k:∀b u,(b=a\/H b=some (.own a))->h.get? b=some u->h'.get? b=some u)
  (ho:∀b,H b=some (.own a)->H' b=some (.own a)) (ht:∀b xs,H b=some (.tup xs)->H' b=some (.tup xs)):cM P w H' h' a o:=by
 induction o with
 | lst xs=>obtain ⟨z,its,n,r,e⟩:=x;exact ⟨z,its,n,r,k _ _ (.inl rfl) e⟩
 | tup xs=>obtain ⟨z,its,r,ob,e,c⟩:=x;exact ⟨z,its,r,ob,k _ _ (.inl rfl) e,c⟩
 | dK aL=>obtain ⟨z,y,vs,r,ob,es,ep,e,c⟩:=x;exact ⟨z,y,vs,r,ob,es,ep,k _ _ (.inl rfl) e,c⟩
 | dT aL=>
  obtain ⟨z,y,xs,r,ob,es,ep,e,c⟩:=x
  exact ⟨z,y,xs,Paired.Nd r λp q z=>⟨z.1,ht _ _ z.2.1,z.2.2⟩,ob,es,ep,k _ _ (.inl rfl) e,c⟩
 | set S n=>obtain ⟨ob,es,ep,t,e,c⟩:=x;exact ⟨ob,es,ep,t,k _ _ (.inl rfl) e,c⟩
 | ins C dx fs=>
  obtain ⟨d,z,ne,e,mA,⟨od,es,ep,e2,c⟩,r⟩:=x
  exact ⟨ho _ d,z,ne,k _ _ (.inl rfl) e,mA,⟨od,es,ep,k _ _ (.inr d) e2,c⟩,r⟩
 | own y=>obtain ⟨ob,e⟩:=x;exact ⟨ob,k _ _ (.inl rfl) e⟩
 | xd fs=>obtain ⟨mA,⟨od,es,ep,e,c⟩,r⟩:=x;exact ⟨mA,⟨od,es,ep,k _ _ (.inl rfl) e,c⟩,r⟩
 | V7 lo hi=>obtain ⟨t,u,v,e⟩:=x;exact ⟨t,u,v,k _ _ (.inl rfl) e⟩
 | Jl ob u ih=>obtain ⟨e,q⟩:=x;exact ⟨k _ _ (.inl rfl) e,ih q⟩
 | Nb ps=>
  have e:h.get? a=some { cls:= .none,data:= .fields ps }:=x
  show h'.get? a=some { cls:= .none,data:= .fields ps }
  exact k a _ (.inl rfl) e
 | met f y=>
  have e:h.get? a=some (PySem.W.methodObj (.ref f) (.ref y)):=x
  show h'.get? a=some (PySem.W.methodObj (.ref f) (.ref y))
  exact k a _ (.inl rfl) e
 | ext φ=>obtain ⟨p,⟨o,e⟩,st⟩:=x;exact ⟨st _ _ p λo q=>k _ _ (.inl rfl) q,⟨o,k _ _ (.inl rfl) e⟩,st⟩
theorem kU.lt(x:kU P w H h)(e:H a=some o):a<h.objs.size:=(x a o e).lt
theorem kU.fresh(x:kU P w H h)(e:h.objs.size<=a):H a=none:=by
 cases q:H a with
 | none=>rfl
 | some u=>exact absurd (Qa2 (x.lt q) e) (Qbu _)
theorem kU.kept(x:kU P w H h)(k:∀b u,h.get? b=some u->h'.get? b=some u):kU P w H h':=λa o e=>
 (x a o e).xU (λb u _ q=>k b u q) (λ_ q=>q) λ_ _ q=>q
theorem kU.laid(x:kU P w H h)(k:∀b u,h.get? b=some u->h'.get? b=some u)(hp:h.objs.size<=a)(new:cM P w (upd H a o) h' a o):kU P w (upd H a o) h':=λb u e=>by
 have hn:=x.fresh hp
 by_cases hb:b=a
 ·subst hb;rw[ae]at e;cases e;exact new
 ·rw[aq hb]at e
  exact (x b u e).xU (λc v _ q=>k c v q) (λc q=>by rw[aq (au q hn)];exact q) λc xs q=>by rw[aq (au q hn)];exact q
end
def Rd(H:Hp)(a:Addr)(u:HO):Prop:=H a=some u\/∃o,H a=some (.Jl o u)
theorem Rd.ok{P:Program}{w:World}{H:Hp}{h:Heap}{a:Addr}{u:HO}(r:Rd H a u)(x:kU P w H h):cM P w H h a u:=by
 rcases r with r | ⟨o,r⟩
 ·exact x a u r
 ·obtain ⟨_,q⟩:=x a _ r
  exact q
def RS:Option HO->Prop
 | some (.lst _)=>True
 | some (.dK _)=>True
 | some (.dT _)=>True
 | some (.set _ _)=>True
 | some (.ins _ _ _)=>True
 | some (.ext _)=>True
 | _=>False
section
variable{P:Program}{w:World}{H:Hp}{h h':Heap}{x e:Addr}{o':HO}
theorem kU.write(ok:kU P w H h)(mu:RS (H x))(he:e=x\/H e=some (.own x))(k:∀b u,b≠e->h.get? b=some u->h'.get? b=some u)(Qd:∃u,h'.get? e=some u)
  (new:cM P w (upd H x o') h' x o'):kU P w (upd H x o') h':=λb u q=>by
 have RT:∀c y,H c=some (.own y)->c≠x:=λc y r z=>by subst z;rw[r]at mu;exact mu
 have V8:∀c xs,H c=some (.tup xs)->c≠x:=λc xs r z=>by subst z;rw[r]at mu;exact mu
 by_cases hb:b=x
 ·subst hb;rw[ae]at q;cases q;exact new
 ·rw[aq hb]at q
  by_cases Jm:b=e
  ·have q':H b=some (.own x):=by
    rcases he with z | z
    ·exact absurd (Jm.trans z) hb
    ·rw[Jm];exact z
   rw[q]at q';cases q'
   obtain ⟨v,hv⟩:=Qd
   exact ⟨v,by rw[Jm];exact hv⟩
  ·refine (ok b u q).xU (λc v hc r=>k c v ?_ r) (λc r=>by rw[aq (RT c b r)];exact r) λc xs r=>by rw[aq (V8 c xs r)];exact r
   rcases hc with rfl | hc
   ·exact Jm
   ·rintro rfl
    rcases he with z | z
    ·exact RT c b hc z
    ·rw[hc]at z;cases z;exact hb rfl
end
structure Un(fs ex:List Addr)(H H':Hp)(h h':Heap):Prop where
 keep:∀b o,h.get? b=some o->H b=none->b∉fs->b∉ex->h'.get? b=some o
 slot:∀b o,h.get? b=some o->H b=none->b∈fs->b∉ex->∃sl,h'.get? b=some { o with slots:=sl }
 free:∀b o,h.get? b=some o->H b=none->b∉ex->H' b=none
 there:∀b o,h.get? b=some o->b∉ex->∃o',h'.get? b=some o'
 tN:∀b xs,H b=some (.tup xs)->H' b=some (.tup xs)
 qG:∀b o u,H b=some (.Jl o u)->H' b=some (.Jl o u)
 vN:∀b ps,H b=some (.Nb ps)->∃more,H' b=some (.Nb (ps++more))
section
variable{fs fs' ex ex':List Addr}{H H1 H2:Hp}{h h1 h2 h':Heap}{a x e:Addr}{o:HO}
theorem Un.any(u:Un fs ex H H1 h h1){b:Addr}{ob:Obj}(q:h.get? b=some ob)(n:H b=none)(hx:b∉ex):∃sl,h1.get? b=some { ob with slots:=sl }:=by
 by_cases hb:b∈fs
 ·exact u.slot b ob q n hb hx
 ·exact ⟨ob.slots,u.keep b ob q n hb hx⟩
theorem Un.kept(k:∀b u,h.get? b=some u->h'.get? b=some u):Un fs ex H H h h':=
 ⟨λb ob q _ _ _=>k b ob q,λb ob q _ _ _=>⟨ob.slots,k b ob q⟩,λ_ _ _ n _=>n,λb ob q _=>⟨ob,k b ob q⟩,λ_ _ q=>q,λ_ _ _ q=>q,λ_ ps q=>⟨#[],by rw[q];simp⟩⟩
theorem Un.refl:Un fs ex H H h h:=Un.kept λ_ _ q=>q
theorem Un.laid(k:∀b u,h.get? b=some u->h'.get? b=some u)(hp:h.objs.size<=a)(hn:H a=none):Un fs ex H (upd H a o) h h' where
 keep:=λb u q _ _ _=>k b u q
 slot:=λb u q _ _ _=>⟨u.slots,k b u q⟩
 free:=λb u q n _=>by rw[aq (Qay (Qa2 (Qau q) hp))];exact n
 there:=λb u q _=>⟨u,k b u q⟩
 tN:=λb xs q=>by rw[aq (au q hn)];exact q
 qG:=λb u xs q=>by rw[aq (au q hn)];exact q
 vN:=λb ps q=>⟨#[],by rw[aq (au q hn),q];simp⟩
theorem Un.write(mu:RS (H x))(he:e=x\/H e=some (.own x))(k:∀b u,b≠e->h.get? b=some u->h'.get? b=some u)(Qd:∃u,h'.get? e=some u):Un fs ex H (upd H x o) h h':=by
 have hx:∀b,H b=none->b≠x:=λb n z=>by subst z;rw[n]at mu;exact mu
 have hb:∀b,H b=none->b≠e:=λb n z=>by
  subst z
  rcases he with r | r
  ·exact hx b n r
  ·rw[n]at r;cases r
 have hm:∀b u,H b=some u-> ¬RS (some u)->b≠x:=λb u q nm z=>by subst z;rw[q]at mu;exact nm mu
 refine ⟨λb u q n _ _=>k b u (hb b n) q,λb u q n _ _=>⟨u.slots,k b u (hb b n) q⟩,λb u q n _=>by rw[aq (hx b n)];exact n,λb u q _=>?_,
  λb xs q=>by rw[aq (hm b _ q λz=>z)];exact q,λb u xs q=>by rw[aq (hm b _ q λz=>z)];exact q,λb ps q=>⟨#[],by rw[aq (hm b _ q λz=>z),q];simp⟩⟩
 by_cases Jm:b=e
 ·subst Jm;exact Qd
 ·exact ⟨u,k b u Jm q⟩
end
noncomputable def UQ(h:Heap)(H:Hp):List Addr:=(List.range h.objs.size).filter λa=>(H a).isSome
noncomputable def vO(h:Heap)(H:Hp):Heap:=PySem.W.hideAll h (UQ h H)
theorem DD(h:Heap)(H:Hp):(vO h H).objs.size=h.objs.size:=PySem.W.hideAll_size _ _
theorem FD{h:Heap}{H:Hp}{b:Addr}{o:Obj}(e:h.get? b=some o)(n:H b=none):(vO h H).get? b=some o:=
 PySem.W.hideAll_get _ e λhm=>by
  have q:(H b).isSome=true:=(Qa8.mp hm).2
  rw[n]at q;simp at q
theorem JL{h:Heap}{H:Hp}{b:Addr}{o:Obj}(e:(vO h H).get? b=some o):h.get? b=some o/\H b=none:=by
 have e':h.get? b=some o:=PySem.W.of_hideAll (UQ h H) e
 refine ⟨e',?_⟩
 cases q:H b with
 | none=>rfl
 | some x=>
  have hm:b∈UQ h H:=Qa8.mpr ⟨Qax.mpr (Qau e'),by simp[q]⟩
  have z:(vO h H).get? b=none:=PySem.W.hideAll_none (UQ h H) hm
  rw[z]at e;cases e
structure Mod(K:Fr)(mg:Str->Option Value)(base:Heap):Prop where
 Qe:K.In base
 glob:base.Ns mainGlobals mg
 blt:∃mb,base.Ns builtinsNs mb/\∀x:Str,x≠"__name__"->mb x=bootBuiltins x
 nolimit:base.NoLimit
structure Cx where
 prog:Program
 w:World
 K:Fr
 mg:Str->Option Value
 base:Heap
 A:Around
 N:List Str
 s₀:Shared
 H₀:Hp
 env:Env
 outer:List Env
 stack:List Env
 ex:List Addr
 fn:Str->Bool
 calm:Bool
 pn:List (Addr×Obj)
 xe:Value->Shared->Prop
noncomputable def BG(l:List Env):List Addr:=l.filterMap (·.frame)
noncomputable abbrev Cx.fs(X:Cx):List Addr:=BG X.outer
def RU(sc:Scope)(x:Str):Prop:=sc.names.lookup x=some .local\/sc.names.lookup x=some .cell\/sc.names.lookup x=some .free
def Loc(sc:Scope)(x:Str):Prop:=sc.names.lookup x=some .local\/sc.names.lookup x=some .cell
def Look(env:Env)(h:Heap)(m:Str->Option Value)(x:Str)(u:Value):Prop:=
 (env.kindOf x=some .local/\m x=some u)\/((env.kindOf x=some .cell\/env.kindOf x=some .free)/\∃c,env.cells.lookup x=some c/\h.IsCell c (some u))
structure Cx.Ok(X:Cx):Prop where
 mod:Mod X.K X.mg X.base
 kind:X.env.scope.kind= .function
 glob:X.env.globals=mainGlobals
 blt:X.env.builtins=builtinsNs
 above:X.s₀.heap.objs.size<=X.env.locals
 inj:∀x y c,X.env.cells.lookup x=some c->X.env.cells.lookup y=some c->x=y
 has:∀x,(X.env.kindOf x=some .cell\/X.env.kindOf x=some .free)->∃c,X.env.cells.lookup x=some c
 RV:∀x c,X.fn x=true->X.env.cells.lookup x=some c->X.s₀.heap.objs.size<=c
 hd:X.calm=true->X.A.handled=none
 frames:X.A.frames=some X.stack
 UR:X.stack=X.outer\/(X.stack=X.env::X.outer/\X.env.frame=some X.env.locals)
 YD:∀b∈X.ex,b≠X.env.locals/\∀x c,X.env.cells.lookup x=some c->c≠b
 bs:∀b o,X.base.get? b=some o->X.s₀.heap.get? b=some o/\X.H₀ b=none
 JM:X.base.objs.size<=X.s₀.heap.objs.size
 FE:∀b o,X.base.get? b=some o->b∉X.ex
 JN:∀b∈X.ex,b∉X.fs
 pU:X.s₀.heap.FunFrames X.base X.outer
 Nf:∀b∈X.fs,X.H₀ b=none
structure Inv(X:Cx)(pins:List (Addr×Obj))(σ:List (Option V))(H:Hp)(s:Shared):Prop where
 ok:X.Ok
 os:s.os=X.s₀.os
 bare:AllBare s.gens
 base:Un X.fs X.ex X.H₀ H X.s₀.heap s.heap
 loc:∃m,s.heap.Ns X.env.locals m/\∀(i:Nat) (x:Str) (v:V),X.N[i]? =some x->σ[i]? =some (some v)->RU X.env.scope x->∃u,RelV v u/\Look X.env s.heap m x u
 cell:∀x c,X.env.cells.lookup x=some c->∃v,s.heap.IsCell c v
 free:H X.env.locals=none
 jF:∀x c,X.env.cells.lookup x=some c->H c=none
 pin:∀p∈X.pn++pins,s.heap.get? p.1=some p.2/\H p.1=none/\p.1≠X.env.locals/\p.1∉X.fs/\∀v,p.2.data≠ .cell v
 cy:kU X.prog X.w H s.heap
 len:σ.length=X.N.length
section
variable{X:Cx}{pins:List (Addr×Obj)}{σ:List (Option V)}{H H':Hp}{s:Shared}{h':Heap}
theorem Cx.Ok.V9(ok:X.Ok){b:Addr}{o:Obj}(e:X.base.get? b=some o):b∉X.fs:=λhb=>by
 have:=(ok.pU.mem hb).1
 rw[e]at this;cases this
theorem Inv.bs(I:Inv X pins σ H s):∀b o,X.base.get? b=some o->s.heap.get? b=some o/\H b=none:=λb o e=>
 ⟨I.base.keep b o (I.ok.bs b o e).1 (I.ok.bs b o e).2 (I.ok.V9 e) (I.ok.FE b o e),I.base.free b o (I.ok.bs b o e).1 (I.ok.bs b o e).2 (I.ok.FE b o e)⟩
theorem Inv.bk(I:Inv X pins σ H s):∀b o,X.base.get? b=some o->s.heap.get? b=some o:=λb o e=>(I.bs b o e).1
theorem Inv.mod(I:Inv X pins σ H s):Mod X.K X.mg X.base:=I.ok.mod
theorem Inv.DE(I:Inv X pins σ H s):X.K.In s.heap:=I.ok.mod.Qe.keeps I.bk
theorem Inv.lt(I:Inv X pins σ H s):X.env.locals<s.heap.objs.size:=let ⟨_,hn,_⟩:=I.loc;hn.lt
theorem Inv.sz(I:Inv X pins σ H s):X.s₀.heap.objs.size<=s.heap.objs.size:=Qbf I.ok.above (Qbo I.lt)
theorem Inv.Ng(I:Inv X pins σ H s){a:Addr}(h:s.heap.objs.size<=a):a∉X.fs:=λhb=>by
 obtain ⟨_,o,ho,_⟩:=I.ok.pU.mem hb
 exact absurd (Qa2 (Qau ho) (Qbf I.sz h)) (Qbu _)
theorem Inv.Nh(I:Inv X pins σ H s):∀x c,X.env.cells.lookup x=some c->c≠X.env.locals:=λx c e z=>by
 obtain ⟨v,o,ho,hd⟩:=I.cell x c e
 obtain ⟨m,⟨o',es,ep,xJ,xV,_⟩,_⟩:=I.loc
 rw[z,xJ]at ho;cases ho;rw[xV]at hd;cases hd
theorem Inv.pU(I:Inv X pins σ H s):s.heap.FunFrames X.base X.outer:=by
 have all:∀(l:List Env),(∀b∈BG l,b∈X.fs)->X.s₀.heap.FunFrames X.base l->s.heap.FunFrames X.base l:=by
  intro l
  induction l with
  | nil=>intro _ _;trivial
  | cons env r ih=>
   intro hs hl
   obtain ⟨hk,⟨L,o,hf,hn,ho,hd⟩,hr⟩:=hl
   have hL:L∈X.fs:=hs L (by unfold BG;rw[Qft,hf];exact Qac)
   obtain ⟨sl,e⟩:=I.base.slot L o ho (I.ok.Nf L hL) hL λz=>I.ok.JN L z hL
   exact ⟨hk,⟨L,_,hf,hn,e,hd⟩,ih (λb hb=>hs b (by unfold BG;rw[Qft,hf];exact Qae _ hb)) hr⟩
 exact all X.outer (λ_ hb=>hb) I.ok.pU
theorem Inv.stack(I:Inv X pins σ H s):s.heap.FunFrames X.base X.stack:=by
 rcases I.ok.UR with e | ⟨e,hf⟩
 ·rw[e];exact I.pU
 ·rw[e]
  obtain ⟨m,hn,_⟩:=I.loc
  refine .cons (by rw[I.ok.kind];decide) hf hn ?_ I.pU
  exact Heap.get?_none_of_le (Qbf I.ok.JM I.ok.above)
theorem Inv.qH(I:Inv X pins σ H s):∀b∈BG X.stack,b∈X.env.locals::X.fs:=λb hb=>by
 rcases I.ok.UR with e | ⟨e,hf⟩
 ·rw[e]at hb;exact Qae _ hb
 ·rw[e]at hb
  unfold BG at hb
  rw[Qft,hf]at hb
  exact hb
theorem Inv.BH(I:Inv X pins σ H s):∀b∈BG X.stack,H b=none:=λb hb=>by
 rcases Qak.mp (I.qH b hb) with e | hb
 ·rw[e];exact I.free
 ·obtain ⟨_,o,ho,_⟩:=I.ok.pU.mem hb
  exact I.base.free b o ho (I.ok.Nf b hb) λz=>I.ok.JN b z hb
theorem Inv.step{g':Array GenState}{t':Nat}{d':Drawn}{ch:List Addr}(I:Inv X pins σ H s)
  (Jn:∀b∈ch,(b∈X.ex\/X.s₀.heap.objs.size<=b)/\b≠X.env.locals/\(∀x c,X.env.cells.lookup x=some c->c≠b)/\∀p∈X.pn++pins,p.1≠b)
  (keep:∀b o,b≠X.env.locals->b∉X.fs->b∉ch->s.heap.get? b=some o->H b=none->h'.get? b=some o)
  (slot:∀b o,b≠X.env.locals->b∈X.fs->b∉ch->s.heap.get? b=some o->H b=none->∃sl,h'.get? b=some { o with slots:=sl }) (free:∀b o,b∉ch->s.heap.get? b=some o->H b=none->H' b=none)
  (there:∀b o,b∉ch->s.heap.get? b=some o->∃o',h'.get? b=some o')
  (tN:∀b xs,H b=some (.tup xs)->H' b=some (.tup xs)) (qG:∀b o u,H b=some (.Jl o u)->H' b=some (.Jl o u)) (vN:∀b ps,H b=some (.Nb ps)->∃more,H' b=some (.Nb (ps++more)))
  (ns:∀m,s.heap.Ns X.env.locals m->h'.Ns X.env.locals m) (cy:kU X.prog X.w H' h') (hg:AllBare g'):
  Inv X pins σ H' { s with heap:=h',gens:=g',drawn:=d',toks:=t' }:=by
 have YE:∀b o,X.s₀.heap.get? b=some o->b≠X.env.locals:=λb o e=>Qay (Qa2 (Qau e) I.ok.above)
 have Ni:∀b o,X.s₀.heap.get? b=some o->b∉X.ex->b∉ch:=λb o e hx hb=>by
  rcases (Jn b hb).1 with z | z
  ·exact hx z
  ·exact absurd (Qa2 (Qau e) z) (Qbu _)
 have cellK:∀x c,X.env.cells.lookup x=some c->∀v,s.heap.IsCell c v->h'.IsCell c v:=λx c e v ⟨o,ho,hd⟩=>by
  have RW:c∉ch:=λz=>(Jn c z).2.2.1 x c e rfl
  by_cases hc:c∈X.fs
  ·obtain ⟨sl,q⟩:=slot c o (I.Nh x c e) hc RW ho (I.jF x c e)
   exact ⟨_,q,hd⟩
  ·exact ⟨o,keep c o (I.Nh x c e) hc RW ho (I.jF x c e),hd⟩
 refine ⟨I.ok,I.os,hg,⟨λb o e n hb hx=>?_,λb o e n hb hx=>?_,λb o e n hx=>?_,λb o e hx=>?_,λb xs e=>tN b xs (I.base.tN b xs e),λb o xs e=>qG b o xs (I.base.qG b o xs e),λb ps e=>?_⟩,?_,λx c e=>?_,?_,λx c e=>?_,λp hp=>?_,cy,I.len⟩
 ·exact keep b o (YE b o e) hb (Ni b o e hx) (I.base.keep b o e n hb hx) (I.base.free b o e n hx)
 ·obtain ⟨sl,e1⟩:=I.base.slot b o e n hb hx
  obtain ⟨sl',e2⟩:=slot b _ (YE b o e) hb (Ni b o e hx) e1 (I.base.free b o e n hx)
  exact ⟨sl',e2⟩
 ·obtain ⟨o',e1⟩:=I.base.there b o e hx
  exact free b o' (Ni b o e hx) e1 (I.base.free b o e n hx)
 ·obtain ⟨o',e1⟩:=I.base.there b o e hx
  exact there b o' (Ni b o e hx) e1
 ·obtain ⟨m1,e1⟩:=I.base.vN b ps e
  obtain ⟨m2,e2⟩:=vN b _ e1
  exact ⟨m1++m2,by rw[e2,Array.append_assoc]⟩
 ·obtain ⟨m,hn,hl⟩:=I.loc
  refine ⟨m,ns m hn,λi x v e1 e2 e3=>?_⟩
  obtain ⟨u,r,l⟩:=hl i x v e1 e2 e3
  refine ⟨u,r,?_⟩
  rcases l with l | ⟨k,c,e,z⟩
  ·exact .inl l
  ·exact .inr ⟨k,c,e,cellK x c e _ z⟩
 ·obtain ⟨v,z⟩:=I.cell x c e
  exact ⟨v,cellK x c e v z⟩
 ·obtain ⟨m,⟨o,_,_,ho,_⟩,_⟩:=I.loc
  exact free _ o (λz=>(Jn _ z).2.1 rfl) ho I.free
 ·obtain ⟨v,o,ho,hd⟩:=I.cell x c e
  exact free c o (λz=>(Jn c z).2.2.1 x c e rfl) ho (I.jF x c e)
 ·obtain ⟨e,n,ne,nf,d⟩:=I.pin p hp
  have RW:p.1∉ch:=λz=>(Jn p.1 z).2.2.2 p hp rfl
  exact ⟨keep p.1 p.2 ne nf RW e n,free p.1 p.2 RW e n,ne,nf,d⟩
theorem Inv.un{t':Nat}(I:Inv X pins σ H s)(u:Un X.fs [] H H' s.heap h')(cy:kU X.prog X.w H' h'):Inv X pins σ H' { s with heap:=h',toks:=t' }:=by
 obtain ⟨m,⟨o,es,ep,ho,r⟩,_⟩:=id I.loc
 obtain ⟨sl,hL⟩:=u.any ho I.free (by simp)
 exact I.step (g':=s.gens) (d':=s.drawn) (ch:=[]) (λ_ z=>nomatch z) (λb o _ hb _ e n=>u.keep b o e n hb (by simp)) (λb o _ hb _ e n=>u.slot b o e n hb (by simp)) (λb o _ e n=>u.free b o e n (by simp)) (λb o _ e=>u.there b o e (by simp)) u.tN u.qG u.vN (λm' hm=>by
  obtain ⟨o',RX,JO,xJ,r'⟩:=hm
  rw[ho]at xJ;cases xJ
  exact ⟨_,RX,JO,hL,r'⟩) cy I.bare
theorem Inv.call{g':Array GenState}{t':Nat}{d':Drawn}{ch:List Addr}(I:Inv X pins σ H s)(u:Un (BG X.stack) ch H H' s.heap h')(cy:kU X.prog X.w H' h')(hg:AllBare g')
  (Jn:∀b∈ch,(b∈X.ex\/X.s₀.heap.objs.size<=b)/\b≠X.env.locals/\(∀x c,X.env.cells.lookup x=some c->c≠b)/\∀p∈X.pn++pins,p.1≠b):
  Inv X pins σ H' { s with heap:=h',gens:=g',drawn:=d',toks:=t' }:=by
 obtain ⟨m,⟨o,es,ep,ho,r⟩,_⟩:=id I.loc
 obtain ⟨sl,hL⟩:=u.any ho I.free λz=>(Jn _ z).2.1 rfl
 exact I.step (ch:=ch) Jn (λb o hL hb hc e n=>u.keep b o e n (λz=>(Qak.mp (I.qH b z)).elim hL hb) hc) (λb o _ _ hc e n=>u.any e n hc) (λb o hc e n=>u.free b o e n hc) (λb o hc e=>u.there b o e hc) u.tN u.qG u.vN (λm' hm=>by
  obtain ⟨o',RX,JO,xJ,r'⟩:=hm
  rw[ho]at xJ;cases xJ
  exact ⟨_,RX,JO,hL,r'⟩) cy hg
theorem Inv.turned{t':Nat}{it:Addr}(I:Inv X pins σ H s)(k:∀b o,b≠it->s.heap.get? b=some o->h'.get? b=some o)(hn:H it=none)(hL:it≠X.env.locals)
  (h1:it∈X.ex\/X.s₀.heap.objs.size<=it) (h2:∀x c,X.env.cells.lookup x=some c->c≠it) (h3:∀p∈X.pn++pins,p.1≠it):Inv X pins σ H { s with heap:=h',toks:=t' }:=by
 have L6:∀b u,H b=some u->b≠it:=λb u e z=>by rw[z,hn]at e;cases e
 refine I.step (g':=s.gens) (d':=s.drawn) (ch:=[it]) (λb hb=>?_) (λb o _ _ hc e _=>k b o (λz=>hc (by simp[z])) e) (λb o _ _ hc e _=>⟨o.slots,k b o (λz=>hc (by simp[z])) e⟩) (λ_ _ _ _ n=>n)
  (λb o hc e=>⟨o,k b o (λz=>hc (by simp[z])) e⟩) (λ_ _ e=>e) (λ_ _ _ e=>e) (λb ps e=>⟨#[],by rw[e];simp⟩) (λm hm=>?_) (λb u e=>?_) I.bare
 ·have e:b=it:=by simpa using hb
  subst e
  exact ⟨h1,hL,h2,h3⟩
 ·obtain ⟨o,es,ep,ho,r⟩:=hm
  exact ⟨o,es,ep,k _ o (Ne.symm hL) ho,r⟩
 ·refine (I.cy b u e).xU (λc v hc q=>k c v ?_ q) (λ_ q=>q) λ_ _ q=>q
  rcases hc with z | z
  ·rw[z];exact L6 b u e
  ·exact L6 c _ z
theorem Inv.tok(I:Inv X pins σ H s)(t:Nat):Inv X pins σ H { s with toks:=t }:=I.un (h':=s.heap) (t':=t) Un.refl I.cy
theorem Inv.kept{t':Nat}(I:Inv X pins σ H s)(k:∀b u,s.heap.get? b=some u->h'.get? b=some u):Inv X pins σ H { s with heap:=h',toks:=t' }:=I.un (Un.kept k) (I.cy.kept k)
theorem Inv.laid{a:Addr}{o:HO}{t':Nat}(I:Inv X pins σ H s)(k:∀b u,s.heap.get? b=some u->h'.get? b=some u)(hp:s.heap.objs.size<=a)(new:cM X.prog X.w (upd H a o) h' a o):
  Inv X pins σ (upd H a o) { s with heap:=h',toks:=t' }:=I.un (Un.laid k hp (I.cy.fresh hp)) (I.cy.laid k hp new)
theorem Inv.write{x e:Addr}{o:HO}{t':Nat}(I:Inv X pins σ H s)(mu:RS (H x))(he:e=x\/H e=some (.own x))(k:∀b u,b≠e->s.heap.get? b=some u->h'.get? b=some u)(Qd:∃u,h'.get? e=some u)
  (new:cM X.prog X.w (upd H x o) h' x o):Inv X pins σ (upd H x o) { s with heap:=h',toks:=t' }:=I.un (Un.write mu he k Qd) (I.cy.write mu he k Qd new)
theorem Inv.weak{σ':List (Option V)}(I:Inv X pins σ H s)(hl:σ'.length=σ.length)(w:∀(i:Nat) v,σ'[i]? =some (some v)->σ[i]? =some (some v)):Inv X pins σ' H s:=
 ⟨I.ok,I.os,I.bare,I.base,let ⟨m,hn,xW⟩:=I.loc;⟨m,hn,λi x v e1 e2 e3=>xW i x v e1 (w i v e2) e3⟩,I.cell,I.free,I.jF,I.pin,I.cy,hl.trans I.len⟩
theorem Inv.mi{BI:List (Addr×Obj)}(I:Inv X pins σ H s)(h:∀p∈BI,s.heap.get? p.1=some p.2/\H p.1=none/\p.1≠X.env.locals/\p.1∉X.fs/\∀v,p.2.data≠ .cell v):Inv X BI σ H s:=
 ⟨I.ok,I.os,I.bare,I.base,I.loc,I.cell,I.free,I.jF,λp hp=>(Qaf.mp hp).elim (λz=>I.pin p (Qeg _ z)) (h p),I.cy,I.len⟩
theorem xX{N:List Str}(hN:N.Nodup){i j:Nat}{x:Str}(a:N[i]? =some x)(b:N[j]? =some x):i=j:=by
 obtain ⟨h1,e1⟩:=NU.mp a
 obtain ⟨h2,e2⟩:=NU.mp b
 exact (List.getElem_inj hN).mp (e1.trans e2.symm)
theorem DF{M:Model}{A:Around}{E:Value->Shared->Prop}{i:Nat}{x:Str}{v:V}{u:Value}{Q:Unit->Shared->Prop}(I:Inv X pins σ H s)(hN:X.N.Nodup)(hi:X.N[i]? =some x)(hx:Loc X.env.scope x)(r:RelV v u)
  (h:∀s',Inv X pins (σ.set i (some v)) H s'->(∃a,Heap.SameBut a s.heap s'.heap/\(a=X.env.locals\/X.env.cells.lookup x=some a))->Q Unit.unit s') (hf:X.fn x=true\/X.env.scope.names.lookup x=some .local:=by first | exact .inl rfl | exact .inr rfl | assumption):wpAny M A (storeName X.env x u) Q E s:=by
 obtain ⟨m,hn,hl⟩:=id I.loc
 have V_:(X.env.scope.kind== .class||(X.env.scope.kind== .module&&X.env.locals != X.env.globals))=false:=by rw[I.ok.kind];rfl
 have YF:i<σ.length:=by rw[I.len];exact (NU.mp hi).1
 have Nh:=I.Nh
 have tracked:∀{a:Addr} {h':Heap},(∃o,s.heap.get? a=some o/\H a=none)->Heap.SameBut a s.heap h'->kU X.prog X.w H h':=λ{a h'} ha hs b ob e=>by
  obtain ⟨_,_,L7⟩:=ha
  refine (I.cy b ob e).xU (λc w' hc q=>(hs.2 c ?_).trans q) (λ_ q=>q) λ_ _ q=>q
  rintro rfl
  rcases hc with rfl | hc
  ·rw[L7]at e;cases e
  ·rw[L7]at hc;cases hc
 rcases hx with hk | hk
 ·refine wpAny_storeName_local hk hn (λh' US hs=>?_) V_
  obtain ⟨oL,_,_,RY,_⟩:=id hn
  refine h _ ⟨I.ok,I.os,I.bare,⟨λb o e n hb hx=>?_,λb o e n hb hx=>?_,I.base.free,λb o e hx=>?_,I.base.tN,I.base.qG,I.base.vN⟩,⟨_,US,λj y v' e1 e2 e3=>?_⟩,λy c e=>?_,I.free,I.jF,λp hp=>?_,tracked ⟨oL,RY,I.free⟩ hs,by simpa using I.len⟩ ⟨_,hs,.inl rfl⟩
  ·exact (hs.2 b (Qay (Qa2 (Qau e) I.ok.above))).trans (I.base.keep b o e n hb hx)
  ·obtain ⟨sl,e1⟩:=I.base.slot b o e n hb hx
   exact ⟨sl,(hs.2 b (Qay (Qa2 (Qau e) I.ok.above))).trans e1⟩
  ·obtain ⟨o',e1⟩:=I.base.there b o e hx
   exact ⟨o',(hs.2 b (Qay (Qa2 (Qau e) I.ok.above))).trans e1⟩
  ·by_cases hj:j=i
   ·subst hj
    rw[hi]at e1;cases e1
    rw[List.getElem?_set_self YF]at e2
    cases e2
    exact ⟨u,r,.inl ⟨hk,by simp⟩⟩
   ·rw[List.getElem?_set_ne (Ne.symm hj)]at e2
    obtain ⟨u',r',q⟩:=hl j y v' e1 e2 e3
    refine ⟨u',r',?_⟩
    rcases q with ⟨k,e⟩ | ⟨k,c,e,z⟩
    ·refine .inl ⟨k,?_⟩
     have:y≠x:=λe=>hj (xX hN e1 (e▸hi))
     simp[this,e]
    ·exact .inr ⟨k,c,e,z.sameBut hs (Nh y c e)⟩
  ·obtain ⟨w',z⟩:=I.cell y c e
   exact ⟨w',z.sameBut hs (Nh y c e)⟩
  ·obtain ⟨e,n,ne,nf,d⟩:=I.pin p hp
   exact ⟨(hs.2 p.1 ne).trans e,n,ne,nf,d⟩
 ·have Wa:X.fn x=true:=by
   rcases hf with z | z
   ·exact z
   ·rw[z]at hk;cases hk
  obtain ⟨c,hc⟩:=I.ok.has x (.inl hk)
  obtain ⟨w',z⟩:=I.cell x c hc
  refine wpAny_storeName_cell I.ok.kind hk hc z (λh' iW hs=>?_)
  obtain ⟨oc,YG,Wb⟩:=id z
  refine h { s with heap:=h' } ⟨I.ok,I.os,I.bare,⟨λb o e n hb hx=>?_,λb o e n hb hx=>?_,I.base.free,λb o e hx=>?_,I.base.tN,I.base.qG,I.base.vN⟩,⟨m,hn.sameBut hs (Ne.symm (Nh x c hc)),λj y v' e1 e2 e3=>?_⟩,λy c' e=>?_,I.free,I.jF,λp hp=>?_,tracked ⟨oc,YG,I.jF x c hc⟩ hs,by simpa using I.len⟩ ⟨c,hs,.inr hc⟩
  ·exact (hs.2 b (Qay (Qa2 (Qau e) (I.ok.RV x c Wa hc)))).trans (I.base.keep b o e n hb hx)
  ·obtain ⟨sl,e1⟩:=I.base.slot b o e n hb hx
   exact ⟨sl,(hs.2 b (Qay (Qa2 (Qau e) (I.ok.RV x c Wa hc)))).trans e1⟩
  ·obtain ⟨o',e1⟩:=I.base.there b o e hx
   exact ⟨o',(hs.2 b (Qay (Qa2 (Qau e) (I.ok.RV x c Wa hc)))).trans e1⟩
  ·by_cases hj:j=i
   ·subst hj
    rw[hi]at e1;cases e1
    rw[List.getElem?_set_self YF]at e2
    cases e2
    exact ⟨u,r,.inr ⟨.inl hk,c,hc,iW⟩⟩
   ·rw[List.getElem?_set_ne (Ne.symm hj)]at e2
    obtain ⟨u',r',q⟩:=hl j y v' e1 e2 e3
    refine ⟨u',r',?_⟩
    rcases q with q | ⟨k,c',e,z'⟩
    ·exact .inl q
    ·refine .inr ⟨k,c',e,z'.sameBut hs ?_⟩
     rintro rfl
     exact hj (xX hN e1 (I.ok.inj _ _ _ e hc▸hi))
  ·by_cases Qf:c'=c
   ·subst Qf;exact ⟨_,iW⟩
   ·obtain ⟨w2,z2⟩:=I.cell y c' e
    exact ⟨w2,z2.sameBut hs Qf⟩
  ·obtain ⟨e,n,ne,nf,d⟩:=I.pin p hp
   refine ⟨(hs.2 p.1 ?_).trans e,n,ne,nf,d⟩
   intro q
   rw[q,YG]at e
   have q':oc=p.2:=Qaj e
   exact d w' (by rw[<-q'];exact Wb)
theorem mj{M:Model}{A:Around}{E:Value->Shared->Prop}{i:Nat}{x:Str}{v:V}{u:Value}{Q:Unit->Shared->Prop}(I:Inv X pins σ H s)(hN:X.N.Nodup)(hi:X.N[i]? =some x)(hx:Loc X.env.scope x)(r:RelV v u)
  (h:∀s',Inv X pins (σ.set i (some v)) H s'->Q Unit.unit s') (hf:X.fn x=true\/X.env.scope.names.lookup x=some .local:=by first | exact .inl rfl | exact .inr rfl | assumption):wpAny M A (storeName X.env x u) Q E s:=
 DF I hN hi hx r (λs' I' _=>h s' I') hf
theorem Inv.RZ{s':Shared}{ch:List Addr}(I:Inv X pins σ H s)(ho:s'.os=s.os)(u:Un (BG X.stack) ch H H' s.heap s'.heap)(cy:kU X.prog X.w H' s'.heap)(hg:AllBare s'.gens)
  (Jn:∀b∈ch,(b∈X.ex\/X.s₀.heap.objs.size<=b)/\b≠X.env.locals/\(∀x c,X.env.cells.lookup x=some c->c≠b)/\∀p∈X.pn++pins,p.1≠b):Inv X pins σ H' s':=by
 obtain ⟨h',g',d',t',o'⟩:=s'
 have e:o'=s.os:=ho
 subst e
 exact I.call (g':=g') (t':=t') (d':=d') u cy hg Jn
end
abbrev XK:=Value->Option Addr->Hp->Prop
abbrev St:=List (Option V)
abbrev VK:=V->Hp->Prop
abbrev TE:=St->Hp->VK->Prop
abbrev TT:=St->Hp->(Bool->Hp->Prop)->Prop
abbrev TA:=St->Hp->(List V->Hp->Prop)->Prop
structure Ends where
 nx:St->Hp->Prop
 rt:VK
 bk:St->Hp->Prop:=λ_ _=>False
 ct:St->Hp->Prop:=λ_ _=>False
abbrev TS:=Ends->St->Hp->Prop
def EP(X:Cx)(pins:List (Addr×Obj))(σ:St)(Q:VK)(u:Value)(s':Shared):Prop:=∃v H',Inv X pins σ H' s'/\RelV v u/\Q v H'
def TP(X:Cx)(pins:List (Addr×Obj))(σ:St)(Q:Bool->Hp->Prop)(b:Bool)(s':Shared):Prop:=∃H',Inv X pins σ H' s'/\Q b H'
def AP(X:Cx)(pins:List (Addr×Obj))(σ:St)(Q:List V->Hp->Prop)(us:List Value)(s':Shared):Prop:=∃vs H',Inv X pins σ H' s'/\Vals vs us/\Q vs H'
def SP(X:Cx)(pins:List (Addr×Obj))(D:Ends)(f:Flow)(s':Shared):Prop:=
 match f with
 | .next=>∃σ' H',Inv X pins σ' H' s'/\D.nx σ' H'
 | .brk=>∃σ' H',Inv X pins σ' H' s'/\D.bk σ' H'
 | .cont=>∃σ' H',Inv X pins σ' H' s'/\D.ct σ' H'
 | .ret u=>∃v σ' H',Inv X pins σ' H' s'/\RelV v u/\D.rt v H'
def PE(X:Cx)(e:Expr)(t:TE):Prop:=
 ∀(pins:List (Addr×Obj)) (s:Shared) (σ:St) (H:Hp) (Q:VK),Inv X pins σ H s->t σ H Q->wpAny (model X.prog X.w) X.A (eval e X.env) (EP X pins σ Q) X.xe s
def PT(X:Cx)(e:Expr)(t:TT):Prop:=
 ∀(pins:List (Addr×Obj)) (s:Shared) (σ:St) (H:Hp) (Q:Bool->Hp->Prop),Inv X pins σ H s->t σ H Q->wpAny (model X.prog X.w) X.A (isTrue e X.env (eval e X.env)) (TP X pins σ Q) X.xe s
def PW(X:Cx)(e:Expr)(t:TT):Prop:=
 ∀(whole:Sem Value) (pins:List (Addr×Obj)) (s:Shared) (σ:St) (H:Hp) (Q:Bool->Hp->Prop),Inv X pins σ H s->t σ H Q->wpAny (model X.prog X.w) X.A (isTrue e X.env whole) (TP X pins σ Q) X.xe s
theorem PW.pt{X:Cx}{e:Expr}{t:TT}(h:PW X e t):PT X e t:=h _
def PA(X:Cx)(es:List Expr)(t:TA):Prop:=
 ∀(pos:Pos) (pins:List (Addr×Obj)) (s:Shared) (σ:St) (H:Hp) (Q:List V->Hp->Prop),Inv X pins σ H s->t σ H Q->wpAny (model X.prog X.w) X.A (spliced (backTo pos (starEach es X.env))) (AP X pins σ Q) X.xe s
def PS(X:Cx)(st:Stmt)(t:TS):Prop:=
 ∀(pins:List (Addr×Obj)) (s:Shared) (σ:St) (H:Hp) (D:Ends),Inv X pins σ H s->t D σ H->wpAny (model X.prog X.w) X.A (exec st X.env) (SP X pins D) X.xe s
def zR(X:Cx)(st:List Stmt)(t:TS):Prop:=
 ∀(pins:List (Addr×Obj)) (s:Shared) (σ:St) (H:Hp) (D:Ends),Inv X pins σ H s->t D σ H->wpAny (model X.prog X.w) X.A (execs st X.env) (SP X pins D) X.xe s
theorem cJ{α:Type}{t:Sem α}{Q Q':α->Shared->Prop}{M:Model}{A:Around}{E:Value->Shared->Prop}{s:Shared}(h:wpAny M A t Q E s)(hQ:∀a s,Q a s->Q' a s):wpAny M A t Q' E s:=wpAny_mono h hQ λ_ _ x=>x
section
variable{X:Cx}
def Nj(i:Nat):TE:=λσ H Q=>∃v,σ[i]? =some (some v)/\Q v H
def tC(v:V):TE:=λ_ H Q=>Q v H
theorem Nk{i:Nat}{x:Str}{pos:Pos}(hN:X.N[i]? =some x)(hv:RU X.env.scope x)(hd:(x==("__debug__":Str))=false:=by decide)(ji:(x==("__classdict__":Str))=false:=by decide):PE X (.Name x pos) (Nj i):=by
 walk_at"h"
 obtain ⟨v,e,h⟩:=h
 obtain ⟨m,hn,hl⟩:=I.loc
 obtain ⟨u,r,l⟩:=hl i x v hN e hv
 have fin:EP X pins σ Q u s:=⟨v,H,I,r,h⟩
 rcases l with ⟨hk,hm⟩ | ⟨hk,c,hc,iJ⟩
 ·exact wpAny_Name (wpAny_loadName_local I.ok.kind hk hn hm fin) hd
 ·rcases hk with hk | hk
  ·exact wpAny_Name (wpAny_loadName_cell I.ok.kind hk hc iJ fin) hd
  ·exact wpAny_Name (wpAny_loadName_free I.ok.kind hk hc iJ fin ji) hd
theorem ai{i j pos}:PE X (.Constant (.int i) j pos) (tC (.int i)):=λ_ _ _ H _ I h=>wpAny_Constant_int ⟨.int i,H,I.tok _,⟨_,rfl⟩,h⟩
theorem L8{b j pos}:PE X (.Constant (.bool b) j pos) (tC (.bl b)):=λ_ _ _ H _ I h=>Constant_bool ⟨.bl b,H,I,rfl,h⟩
theorem Nl{x j pos}:PE X (.Constant (.str x) j pos) (tC (.str x)):=λ_ _ _ H _ I h=>Calls.Constant_str ⟨.str x,H,I.tok _,⟨_,rfl⟩,h⟩
def Gl(X:Cx)(x:Str):Prop:=X.env.kindOf x=some .globalImplicit
theorem vP{E:Value->Shared->Prop}{pins:List (Addr×Obj)}{s:Shared}{σ:St}{H:Hp}{x:Str}{u:Value}{pos:Pos}{Q:Value->Shared->Prop}(I:Inv X pins σ H s)(hg:Gl X x)(hm:X.mg x=some u)(h:Q u s)
  (hd:(x==("__debug__":Str))=false:=by decide):wpAny (model X.prog X.w) X.A (eval (.Name x pos) X.env) Q E s:=
 Calls.Name_function_global I.ok.kind hg (Calls.loadGlobal_global (by rw[I.ok.glob];exact I.mod.glob.keeps I.bk) hm h) hd
theorem iq{E:Value->Shared->Prop}{pins:List (Addr×Obj)}{s:Shared}{σ:St}{H:Hp}{x:Str}{u:Value}{pos:Pos}{Q:Value->Shared->Prop}(I:Inv X pins σ H s)(hg:Gl X x)(hm:X.mg x=none)(hv:bootBuiltins x=some u)(h:Q u s)
  (hn:x≠"__name__":=by decide) (hd:(x==("__debug__":Str))=false:=by decide):wpAny (model X.prog X.w) X.A (eval (.Name x pos) X.env) Q E s:=by
 obtain ⟨mb,h1,h2⟩:=I.mod.blt
 exact Calls.Name_function_global I.ok.kind hg (Calls.loadGlobal_builtin (by rw[I.ok.glob];exact I.mod.glob.keeps I.bk) hm (by rw[I.ok.blt];exact h1.keeps I.bk) ((h2 x hn).trans hv) h) hd
theorem BJ{x:Str}{v:V}{u:Value}{pos:Pos}(hg:Gl X x)(hm:X.mg x=some u)(r:RelV v u)(hd:(x==("__debug__":Str))=false:=by decide):PE X (.Name x pos) (tC v):=
 λ_ _ _ H _ I h=>vP I hg hm ⟨v,H,I,r,h⟩ hd
variable{a b:Expr}{ta tb:TE}{pos:Pos}
def tB(t:TE):TT:=λσ H Q=>t σ H λx H1=>∃c,x= .bl c/\Q c H1
theorem lI{e:Expr}{t:TE}(h:PE X e t)(he:∀whole,isTrue e X.env whole=(do let v <-whole;standAt e.pos;holding [v] (truthy v)):=by intro _;rfl):PT X e (tB t):=by
 intro pins s σ H Q I hw
 refine isTrue_plain (cJ (h pins s σ H _ I hw) λv s1 ⟨x,H1,I1,r1,q1⟩=>?_) (he _)
 obtain ⟨d,rfl,q⟩:=q1
 cases r1
 exact wpAny_truthy_bool ⟨H1,I1,q⟩
variable{tA UT:TT}{rest:List Expr}
def Wc(t u:TT):TT:=λσ H Q=>t σ H λc H1=>if c=true then u σ H1 Q else Q false H1
def tOr(t u:TT):TT:=λσ H Q=>t σ H λc H1=>if c=true then Q true H1 else u σ H1 Q
def We(t:TT):TT:=λσ H Q=>t σ H λc H1=>Q (!c) H1
theorem kB(ha:PT X a tA):PW X (.BoolOp .And [a] pos) tA:=by
 intro wh pins s σ H Q I h
 refine isTrue_and (cJ (ha pins s σ H Q I h) λc s1 e=>?_)
 cases c with
 | true=>exact isTrue_and_nil e
 | false=>exact e
theorem Nm(ha:PT X a tA):PW X (.BoolOp .Or [a] pos) tA:=by
 intro wh pins s σ H Q I h
 refine isTrue_or (cJ (ha pins s σ H Q I h) λc s1 e=>?_)
 cases c with
 | false=>exact isTrue_or_nil e
 | true=>exact e
theorem lJ(ha:PT X a tA)(hb:PW X (.BoolOp .And (b::rest) pos) UT):PW X (.BoolOp .And (a::b::rest) pos) (Wc tA UT):=by
 intro wh pins s σ H Q I h
 refine isTrue_and (cJ (ha pins s σ H _ I h) λc s1 ⟨H1,I1,q1⟩=>?_)
 cases c with
 | true=>exact hb wh pins s1 σ H1 Q I1 q1
 | false=>exact ⟨H1,I1,q1⟩
theorem R0(ha:PT X a tA)(hb:PW X (.BoolOp .Or (b::rest) pos) UT):PW X (.BoolOp .Or (a::b::rest) pos) (tOr tA UT):=by
 intro wh pins s σ H Q I h
 refine isTrue_or (cJ (ha pins s σ H _ I h) λc s1 ⟨H1,I1,q1⟩=>?_)
 cases c with
 | true=>exact ⟨H1,I1,q1⟩
 | false=>exact hb wh pins s1 σ H1 Q I1 q1
theorem Nn(ha:PT X a tA):PT X (.UnaryOp .Not a pos) (We tA):=by
 walk_at"h"
 exact isTrue_not (ha pins s σ H (λc H1=>Q (!c) H1) I h)
end
def bf(K:Fr)(H:Hp)(a:Addr)(xs:List V):Prop:=
 Rd H a (.lst xs)\/
  ∃(o:Obj) (its:Array Value) (n:Nat),K.lookup a=some o/\o.cls= .type "list"/\o.dict=none/\o.data= .seq its n/\its.size<=sizeLine/\Vals xs its.toList
def cu(K:Fr)(H:Hp)(a:Addr)(xs:List V):Prop:=
 Rd H a (.tup xs)\/
  ∃(o:Obj) (its:Array Value) (n:Nat),K.lookup a=some o/\o.cls= .type "tuple"/\o.data= .seq its n/\its.size<=sizeLine/\Vals xs its.toList
noncomputable def Wf:Value->Option V
 | .none=>some .gE
 | .bool b=>some (.bl b)
 | .int i _=>some (.int i)
 | .str x _=>some (.str x)
 | .bytes b _=>some (.BF b)
 | .float b _=>some (.UP b)
 | .ref a=>some (.ref a)
 | .type n=>some (.ty n)
 | _=>none
theorem RelV.abs{x:V}{u:Value}(r:RelV x u):Wf u=some x:=by
 cases x with
 | gE=>cases r;rfl
 | bl _=>cases r;rfl
 | int _=>obtain ⟨t,rfl⟩:=r;rfl
 | str _=>obtain ⟨t,rfl⟩:=r;rfl
 | BF _=>obtain ⟨t,rfl⟩:=r;rfl
 | UP _=>obtain ⟨t,rfl⟩:=r;rfl
 | ref _=>cases r;rfl
 | ty _=>cases r;rfl
theorem RelV.inj{x y:V}{u:Value}(r:RelV x u)(q:RelV y u):x=y:=Qaj (r.abs.symm.trans q.abs)
theorem Vals.inj:∀{xs ys:List V} {us:List Value},Vals xs us->Vals ys us->xs=ys
 | _,_,_,.nil,.nil=>rfl
 | _,_,_,.cons r t,.cons r' t'=>by rw[r.inj r',Vals.inj t t']
section
variable{X:Cx}{pins:List (Addr×Obj)}{σ:St}{H:Hp}{s:Shared}{a:Addr}{xs ys:List V}
theorem bf.of{K:Fr}(h:H a=some (.lst xs)):bf K H a xs:= .inl (.inl h)
theorem cu.of{K:Fr}(h:H a=some (.tup xs)):cu K H a xs:= .inl (.inl h)
theorem Inv.list(I:Inv X pins σ H s)(h:bf X.K H a xs):∃its:List Value,Vals xs its/\PlainL s.heap a its.toArray/\(xs:)<=sizeLine:=by
 rcases h with h | ⟨o,its,n,hk,hc,hd,hs,hz,r⟩
 ·obtain ⟨z,its,n,r,e⟩:=h.ok I.cy
  exact ⟨its,r,⟨_,n,e,rfl,rfl,rfl⟩,z⟩
 ·refine ⟨its.toList,r,⟨o,n,I.DE a o hk,hc,hd,by simpa using hs⟩,?_⟩
  have e:=(r:)
  simp only[Array.length_toList]at e
  lia
theorem Inv.tuple(I:Inv X pins σ H s)(h:cu X.K H a xs):∃its:List Value,Vals xs its/\IsTup s.heap a its.toArray/\(xs:)<=sizeLine:=by
 rcases h with h | ⟨o,its,n,hk,hc,hs,hz,r⟩
 ·obtain ⟨z,its,r,p⟩:=h.ok I.cy
  exact ⟨its,r,p,z⟩
 ·refine ⟨its.toList,r,⟨o,I.DE a o hk,hc,n,by simpa using hs⟩,?_⟩
  have e:=(r:)
  simp only[Array.length_toList]at e
  lia
theorem Inv.xY(I:Inv X pins σ H s)(h:bf X.K H a xs)(h':bf X.K H a ys):xs=ys:=by
 obtain ⟨its,r,⟨o,n,e,_,_,d⟩,_⟩:=I.list h
 obtain ⟨its',r',⟨o',n',e',_,_,d'⟩,_⟩:=I.list h'
 rw[e]at e';cases e'
 rw[d]at d'
 injection d' with d1 _
 have:its=its':=by simpa using congrArg Array.toList d1
 subst this
 exact r.inj r'
theorem Inv.nU(I:Inv X pins σ H s)(h:cu X.K H a xs)(h':cu X.K H a ys):xs=ys:=by
 obtain ⟨its,r,⟨o,e,_,n,d⟩,_⟩:=I.tuple h
 obtain ⟨its',r',⟨o',e',_,n',d'⟩,_⟩:=I.tuple h'
 rw[e]at e';cases e'
 rw[d]at d'
 injection d' with d1 _
 have:its=its':=by simpa using congrArg Array.toList d1
 subst this
 exact r.inj r'
end
noncomputable abbrev Cx.tP(X:Cx)(E:Value->Shared->Prop):Cx:={ X with xe:=E }
noncomputable abbrev Cx.UU(X:Cx):Cx:=X.tP λ_ _=>False
theorem Cx.Ok.tP{X:Cx}(ok:X.Ok)(E:Value->Shared->Prop):(X.tP E).Ok:=
 ⟨ok.mod,ok.kind,ok.glob,ok.blt,ok.above,ok.inj,ok.has,ok.RV,ok.hd,ok.frames,ok.UR,ok.YD,ok.bs,ok.JM,ok.FE,ok.JN,ok.pU,ok.Nf⟩
theorem Cx.Ok.jG{X:Cx}{E:Value->Shared->Prop}(ok:(X.tP E).Ok):X.Ok:=
 ⟨ok.mod,ok.kind,ok.glob,ok.blt,ok.above,ok.inj,ok.has,ok.RV,ok.hd,ok.frames,ok.UR,ok.YD,ok.bs,ok.JM,ok.FE,ok.JN,ok.pU,ok.Nf⟩
section
variable{X:Cx}{pins:List (Addr×Obj)}{σ:St}{H:Hp}{s:Shared}{E:Value->Shared->Prop}
theorem Inv.tP(I:Inv X pins σ H s)(E:Value->Shared->Prop):Inv (X.tP E) pins σ H s:=⟨I.ok.tP E,I.os,I.bare,I.base,I.loc,I.cell,I.free,I.jF,I.pin,I.cy,I.len⟩
theorem Inv.jG(I:Inv (X.tP E) pins σ H s):Inv X pins σ H s:=⟨I.ok.jG,I.os,I.bare,I.base,I.loc,I.cell,I.free,I.jF,I.pin,I.cy,I.len⟩
theorem SP.jG{D:Ends}{f:Flow}{s':Shared}(h:SP (X.tP E) pins D f s'):SP X pins D f s':=by
 cases f with
 | next=>obtain ⟨σ',H',I,q⟩:=h;exact ⟨σ',H',I.jG,q⟩
 | brk=>obtain ⟨σ',H',I,q⟩:=h;exact ⟨σ',H',I.jG,q⟩
 | cont=>obtain ⟨σ',H',I,q⟩:=h;exact ⟨σ',H',I.jG,q⟩
 | ret u=>obtain ⟨v,σ',H',I,r,q⟩:=h;exact ⟨v,σ',H',I.jG,r,q⟩
theorem zR.UU{st:List Stmt}{t:TS}(h:zR X.UU st t):zR X st t:=λpins s σ H D I hw=>
 wpAny_mono (h pins s σ H D (I.tP _) hw) (λ_ _ q=>q.jG) λ_ _ z=>False.elim z
end
section
variable{X:Cx}{st:Stmt}{rest:List Stmt}{t u:TS}{e:Expr}{te:TE}{pos:Pos}
def R1:TS:=λD σ H=>D.nx σ H
def zS(t u:TS):TS:=λD σ H=>t { D with nx:=u D } σ H
theorem b9:zR X [] R1:=λ_ _ σ H _ I h=>wpAny_execs_nil ⟨σ,H,I,h⟩
theorem ag(h1:PS X st t)(h2:zR X rest u):zR X (st::rest) (zS t u):=by
 walk_at"C"
 refine wpAny_execs_cons (cJ (h1 pins s σ H { D with nx:=u D } I h) λf s1 q=>?_)
 cases f with
 | next=>
  obtain ⟨σ',H',I',q⟩:=q
  exact h2 pins s1 σ' H' D I' q
 | ret v=>exact q
 | brk=>exact q
 | cont=>exact q
theorem ah(h1:PS X st t):zR X [st] t:=by
 walk_at"C"
 refine wpAny_execs_cons (cJ (h1 pins s σ H D I h) λf s1 q=>?_)
 cases f with
 | next=>exact wpAny_execs_nil q
 | ret v=>exact q
 | brk=>exact q
 | cont=>exact q
theorem Inv.quiet{pins:List (Addr×Obj)}{σ:St}{H:Hp}{s:Shared}(I:Inv X pins σ H s):interactive X.env=false:=by simp[interactive,I.ok.kind]
def R3(te:TE):TS:=λD σ H=>te σ H λ_ H1=>D.nx σ H1
theorem cj(he:PE X e te)(hs:swapsWith e none pos.line X.env=pure false:=by rfl):PS X (.Expr e pos) (R3 te):=by
 walk_at"C"
 exact wpAny_Expr_any (cJ (he pins s σ H _ I h) λv s1 ⟨x,H1,I1,r1,q1⟩=>⟨σ,H1,I1,q1⟩) I.quiet hs
def Wg(te:TE):TS:=λD σ H=>te σ H D.rt
theorem aH(he:PE X e te):PS X (.Return (some e) pos) (Wg te):=by
 walk_at"C"
 exact wpAny_Return_some (cJ (he pins s σ H _ I h) λv s1 ⟨x,H1,I1,r1,q1⟩=>⟨x,σ,H1,I1,r1,q1⟩)
def Wh(c:TT)(t u:TS):TS:=λD σ H=>c σ H λb H1=>if b=true then t D σ H1 else u D σ H1
theorem cK{c:Expr}{a b:List Stmt}{tc:TT}(hc:PT X c tc)(ha:zR X a t)(hb:zR X b u):PS X (.If c a b pos) (Wh tc t u):=by
 walk_at"C"
 refine wpAny_If (cJ (hc pins s σ H _ I h) λd s1 ⟨H1,I1,q1⟩=>?_)
 cases d with
 | true=>exact ha pins s1 σ H1 D I1 q1
 | false=>exact hb pins s1 σ H1 D I1 q1
end
abbrev TG:=V->St->Hp->(St->Hp->Prop)->Prop
abbrev L9:=List V->St->Hp->(St->Hp->Prop)->Prop
def PG(X:Cx)(target:Expr)(t:TG):Prop:=
 ∀(pins:List (Addr×Obj)) (s:Shared) (σ:St) (H:Hp) (v:V) (u:Value) (Q:St->Hp->Prop),Inv X pins σ H s->RelV v u->t v σ H Q->
  wpAny (model X.prog X.w) X.A (assign target X.env u) (λ_ s'=>∃σ' H',Inv X pins σ' H' s'/\Q σ' H') X.xe s
def R4(X:Cx)(ts:List Expr)(t:L9):Prop:=
 ∀(pins:List (Addr×Obj)) (s:Shared) (σ:St) (H:Hp) (vs:List V) (us:List Value) (Q:St->Hp->Prop),Inv X pins σ H s->Vals vs us->t vs σ H Q->
  wpAny (model X.prog X.w) X.A (assignInOrder ((assignEach ts X.env).map (·.2)) us) (λ_ s'=>∃σ' H',Inv X pins σ' H' s'/\Q σ' H') X.xe s
abbrev Np:=V->V->V->Hp->(Hp->Prop)->Prop
def R5(X:Cx)(t:Np):Prop:=
 ∀(pins:List (Addr×Obj)) (s:Shared) (σ:St) (H:Hp) (o i v:V) (ov iv u:Value) (Q:Hp->Prop),Inv X pins σ H s->RelV o ov->RelV i iv->RelV v u->t o i v H Q->
  wpAny (model X.prog X.w) X.A (setItem ov iv u) (λ_ s'=>∃H',Inv X pins σ H' s'/\Q H') X.xe s
abbrev UW:=V->V->Hp->VK->Prop
def R6(X:Cx)(op:Operator)(t:UW):Prop:=
 ∀(pins:List (Addr×Obj)) (s:Shared) (σ:St) (H:Hp) (x y:V) (v u:Value) (Q:VK),Inv X pins σ H s->RelV x v->RelV y u->t x y H Q->
  wpAny (model X.prog X.w) X.A (inplaceOp op v u) (EP X pins σ Q) X.xe s
section
variable{X:Cx}{pos:Pos}
def uD(i:Nat):TG:=λv σ H Q=>Q (σ.set i (some v)) H
theorem aB{i:Nat}{x:Str}(hN:X.N.Nodup)(hi:X.N[i]? =some x)(hx:Loc X.env.scope x)(hf:X.fn x=true\/X.env.scope.names.lookup x=some .local:=by first | exact .inl rfl | exact .inr rfl | assumption):PG X (.Name x pos) (uD i):=by
 intro pins s σ H v u Q I r h
 exact wpAny_assign_Name (mj I hN hi hx r (λs' I'=>⟨_,H,I',h⟩) hf)
def Wi:L9:=λvs σ H Q=>vs=[]/\Q σ H
def R7(t:TG)(u:L9):L9:=λvs σ H Q=>∃v r,vs=v::r/\t v σ H λσ' H'=>u r σ' H' Q
theorem dD:R4 X [] Wi:=by
 intro pins s σ H vs us Q I r h
 obtain ⟨e,h⟩:=h
 subst e
 cases r
 exact assignInOrder_nil ⟨σ,H,I,h⟩
theorem aZ{e:Expr}{es:List Expr}{t:TG}{u:L9}(h1:PG X e t)(h2:R4 X es u)
  (hs:(assignEach (e::es) X.env).map (·.2)=assign e X.env::(assignEach es X.env).map (·.2):=by rfl):R4 X (e::es) (R7 t u):=by
 intro pins s σ H vs us Q I r h
 obtain ⟨v,vr,e1,h⟩:=h
 subst e1
 cases r with
 | cons r rr=>
  rw[hs]
  refine assignInOrder_cons (cJ (h1 pins s σ H _ _ _ I r h) λ_ s1 ⟨σ1,H1,I1,q1⟩=>?_)
  exact h2 pins s1 σ1 H1 _ _ Q I1 rr q1
def R8(K:Fr)(n:Nat)(t:L9):TG:=λv σ H Q=>∃a xs,v= .ref a/\cu K H a xs/\(xs:)=n/\t xs σ H Q
theorem Nq{es:List Expr}{k:Nat}{t:L9}{n:Nat}(hc:X.calm=true)(h:R4 X es t)
  (hn:(assignEach es X.env:)=n:=by rfl) (mf:(assignEach es X.env).findIdx? (·.1)=none:=by rfl):PG X (.Tuple es k pos) (R8 X.K n t):=by
 intro pins s σ H v u Q I r hw
 obtain ⟨a,xs,e1,hq,hl,hw⟩:=hw
 subst e1
 cases r
 obtain ⟨its,rv,ht,hz⟩:=I.tuple hq
 refine assign_Tuple_tuple (I.ok.hd hc) ht (by simp[hn, <-hl,(rv:)]) mf λh' hx=>?_
 have I1:Inv X pins σ H { s with heap:=h' }:=I.kept (t':=s.toks) λb o e=>hx b o (Qay (Qau e)) e
 exact h pins _ σ H xs _ Q I1 (by simpa using rv) hw
def Wj(to ti:TE)(t:Np):TG:=λv σ H Q=>to σ H λo H1=>ti σ H1 λi H2=>t o i v H2 λH3=>Q σ H3
theorem qI{o i:Expr}{to ti:TE}{t:Np}(ho:PE X o to)(hi:PE X i ti)(hs:R5 X t)
  (ha:∀v,assign (.Subscript o i pos) X.env v=(do
   let ov <-holding [v] (eval o X.env)
   let iv <-holding [v,ov] (eval i X.env)
   standAt pos
   holding [v,ov,iv] (setItem ov iv v)
   release [v,ov,iv] []):=by intro _;rfl):PG X (.Subscript o i pos) (Wj to ti t):=by
 intro pins s σ H v u Q I r h
 rw[ha]
 refine wpAny_bind (wpAny_holding (cJ (ho pins s σ H _ I h) λov s1 ⟨x,H1,I1,r1,q1⟩=>?_))
 refine wpAny_bind (wpAny_holding (cJ (hi pins s1 σ H1 _ I1 q1) λiv s2 ⟨y,H2,I2,r2,q2⟩=>?_))
 refine wpAny_bind (wpAny_standAt (wpAny_bind (wpAny_holding (cJ (hs pins s2 σ H2 x y v ov iv u _ I2 r1 r2 r q2) λ_ s3 ⟨H3,I3,q3⟩=>?_))))
 exact wpAny_release ⟨σ,H3,I3,q3⟩
def JP(te:TE)(g:TG):TS:=λD σ H=>te σ H λx H1=>g x σ H1 D.nx
theorem qJ{tg e:Expr}{te:TE}{g:TG}(he:PE X e te)(hg:PG X tg g)(hs:swapsWithSole [tg] e pos.line X.env=pure false:=by rfl)(hw:swappedStores [tg] e X.env=pure none:=by rfl)
  (h1:(assignEach [tg] X.env).map (·.2)=[assign tg X.env]:=by rfl):PS X (.Assign [tg] e pos) (JP te g):=by
 walk_at"C"
 refine wpAny_Assign_stores (cJ (he pins s σ H _ I h) λv s1 ⟨x,H1,I1,r1,q1⟩=>?_) hs hw
 rw[h1]
 exact cJ (hg pins s1 σ H1 x v _ I1 r1 q1) λ_ s2 q=>q
theorem ar{i:Nat}{x:Str}{e:Expr}{te:TE}{pos':Pos}(hN:X.N.Nodup)(hi:X.N[i]? =some x)(hx:Loc X.env.scope x)(he:PE X e te)(hs:swapsWith e (some (.Name x pos')) pos.line X.env=pure false:=by rfl)(hf:X.fn x=true\/X.env.scope.names.lookup x=some .local:=by first | exact .inl rfl | exact .inr rfl | assumption):
  PS X (.Assign [.Name x pos'] e pos) (JP te (uD i)):=by
 walk_at"C"
 refine wpAny_Assign_Name (cJ (he pins s σ H _ I h) λv s1 ⟨y,H1,I1,r1,q1⟩=>?_) hs
 exact mj I1 hN hi hx r1 (λs2 I2=>⟨_,H1,I2,q1⟩) hf
def Wl(i:Nat)(te:TE)(ti:UW):TS:=λD σ H=>∃x,σ[i]? =some (some x)/\te σ H λy H1=>ti x y H1 λz H2=>D.nx (σ.set i (some z)) H2
theorem lK{i:Nat}{x:Str}{e:Expr}{te:TE}{op:Operator}{ti:UW}{pos':Pos}(hN:X.N.Nodup)(hi:X.N[i]? =some x)(hx:Loc X.env.scope x)(he:PE X e te)(ho:R6 X op ti)(hf:X.fn x=true\/X.env.scope.names.lookup x=some .local:=by first | exact .inl rfl | exact .inr rfl | assumption):
  PS X (.AugAssign (.Name x pos') op e pos) (Wl i te ti):=by
 walk_at"C"
 obtain ⟨v,e1,h⟩:=h
 obtain ⟨m,hn,hl⟩:=I.loc
 have vis:RU X.env.scope x:=by rcases hx with k | k;exact .inl k;exact .inr (.inl k)
 obtain ⟨u,r,l⟩:=hl i x v hi e1 vis
 refine wpAny_AugAssign_Name ?_
 have go:wpAny (model X.prog X.w) X.A (eval e X.env) (λw s₂=>wpAny (model X.prog X.w) X.A (inplaceOp op u w) (λr s₃=>wpAny (model X.prog X.w) X.A (storeName X.env x r) (λ_=>SP X pins D .next) X.xe s₃) X.xe s₂) X.xe s:=by
  refine cJ (he pins s σ H _ I h) λw s1 ⟨y,H1,I1,r1,q1⟩=>?_
  refine cJ (ho pins s1 σ H1 v y u w _ I1 r r1 q1) λz s2 ⟨zv,H2,I2,r2,q2⟩=>?_
  exact mj I2 hN hi hx r2 (λs3 I3=>⟨_,H2,I3,q2⟩) hf
 rcases l with ⟨hk,hm⟩ | ⟨hk,c,hc,iJ⟩
 ·exact wpAny_loadName_local I.ok.kind hk hn hm go
 ·rcases hk with hk | hk
  ·exact wpAny_loadName_cell I.ok.kind hk hc iJ go
  ·rcases hx with k | k
   ·have:X.env.scope.names.lookup x=some .free:=hk
    rw[k]at this;cases this
   ·have:X.env.scope.names.lookup x=some .free:=hk
    rw[k]at this;cases this
def YH(f:Int->Int->Int):UW:=λx y H Q=>∃i j,x= .int i/\y= .int j/\Q (.int (f i j)) H
theorem vQ:R6 X .Add (YH λi j=>i+j):=by
 intro pins s σ H x y v u Q I r1 r2 h
 obtain ⟨i,j,e1,e2,q⟩:=h
 subst e1;subst e2
 walk_at"4"
 obtain ⟨t',rfl⟩:=r2
 exact iadd_int ⟨.int _,H,I.tok _,⟨_,rfl⟩,q⟩
theorem Nr:R6 X .Sub (YH λi j=>i - j):=by
 intro pins s σ H x y v u Q I r1 r2 h
 obtain ⟨i,j,e1,e2,q⟩:=h
 subst e1;subst e2
 walk_at"4"
 obtain ⟨t',rfl⟩:=r2
 exact isub_int ⟨.int _,H,I.tok _,⟨_,rfl⟩,q⟩
end
structure It where
 go:Nat->Hp->Prop
 FF:Nat->Hp->V->Hp->Prop
 stop:Nat->Hp->Prop
def pV(X:Cx)(pins:List (Addr×Obj))(H:Hp)(b:Addr):Prop:=
 H b=none/\b≠X.env.locals/\b∉X.fs/\(b∈X.ex\/X.s₀.heap.objs.size<=b)/\(∀x c,X.env.cells.lookup x=some c->c≠b)/\∀p∈X.pn++pins,p.1≠b
theorem Inv.pW{X:Cx}{pins:List (Addr×Obj)}{σ:St}{H H':Hp}{s:Shared}{b:Addr}(I:Inv X pins σ H s)(hb:s.heap.objs.size<=b)(hn:H' b=none):pV X pins H' b:=by
 refine ⟨hn,Qfd (Qa2 I.lt hb),I.Ng hb,.inr (Qbf I.sz hb),λx c e z=>?_,λp hp z=>?_⟩
 ·obtain ⟨v,q⟩:=I.cell x c e
  exact absurd (Qa2 q.lt (by rw[z];exact hb)) (Qbu _)
 ·exact absurd (Qa2 (Qau (I.pin p hp).1) (by rw[z];exact hb)) (Qbu _)
structure Turn(P:Program)(w:World)(K:Fr)(tg:Expr)(J:It)(fp:List Addr)(it:Addr)(tn:Nat->Heap->Prop):Prop where
 mem:it∈fp
 obj:∀i h,tn i h->∀b∈fp,∃o,h.get? b=some o/\∀v,o.data≠ .cell v
 keep:∀i h h',tn i h->(∀b∈fp,∀o,h.get? b=some o->h'.get? b=some o)->tn i h'
 item:∀(X:Cx),X.prog=P->X.w=w->X.K=K->X.calm=true->∀(i:Nat) (pins:List (Addr×Obj)) (s:Shared) (σ:St) (H:Hp) (E:Value->Shared->Prop),Inv X pins σ H s->(∀b∈fp,pV X pins H b)->tn i s.heap->J.go i H->
  wpAny (model P w) X.A (pyNext (.ref it)) (λr s1=>∃u,r=some u/\
   wpAny (model P w) X.A (letOwnedTupleGo tg (.ref it) u) (λ_ s2=>∃x H',Inv X pins σ H' s2/\RelV x u/\J.FF i H x H'/\tn (i+1) s2.heap/\∀b∈fp,H' b=none) E s1) E s
 done:∀(X:Cx),X.prog=P->X.w=w->X.K=K->X.calm=true->∀(i:Nat) (pins:List (Addr×Obj)) (s:Shared) (σ:St) (H:Hp) (E:Value->Shared->Prop),Inv X pins σ H s->(∀b∈fp,pV X pins H b)->tn i s.heap->J.stop i H->
  wpAny (model P w) X.A (pyNext (.ref it)) (λr s1=>r=none/\Inv X pins σ H s1) E s
 self:∀(A:Around) (i:Nat) (s:Shared) (Q:Value->Shared->Prop) (E:Value->Shared->Prop),tn i s.heap->Q (.ref it) s->wpAny (model P w) A (pyIter (.ref it)) Q E s
abbrev TI:=St->Hp->(It->Hp->Prop)->Prop
def YI(X:Cx)(pins:List (Addr×Obj))(σ:St)(tg:Expr)(R:It->Hp->Prop)(Wm:Value)(s2:Shared):Prop:=
 ∃(it:Addr) (fp:List Addr) (tn:Nat->Heap->Prop) (J:It) (H':Hp),Wm= .ref it/\Inv X pins σ H' s2/\Turn X.prog X.w X.K tg J fp it tn/\tn 0 s2.heap/\(∀b∈fp,pV X pins H' b)/\R J H'
def PI(X:Cx)(tg iter:Expr)(wi:TI):Prop:=
 ∀(pins:List (Addr×Obj)) (s:Shared) (σ:St) (H:Hp) (R:It->Hp->Prop),Inv X pins σ H s->wi σ H R->
  wpAny (model X.prog X.w) X.A (eval iter X.env) (λv s1=>wpAny (model X.prog X.w) X.A (pyIter v) (YI X pins σ tg R) X.xe s1) X.xe s
theorem uE{M:Model}{A:Around}{E:Value->Shared->Prop}{s:Shared}{tg:Expr}{it:Addr}{u:Value}{o:Obj}{n:String}{vs:Array Value}{Q:Unit->Shared->Prop}(ho:s.heap.get? it=some o)(hc:o.cls= .type n)(hd:o.data= .fields vs)
  (hn:["enumerate","zip","dict_itemiterator","dict_reverseitemiterator","odict_iterator","itertools.zip_longest","itertools.pairwise"].contains n=false) (hQ:Q Unit.unit s):wpAny M A (letOwnedTupleGo tg (.ref it) u) Q E s:=by
 unfold letOwnedTupleGo
 cases tg<;>first
  | exact wpAny_pure hQ
  |(cases u<;>first
    | exact wpAny_pure hQ
    |(refine wpAny_bind (wpAny_load ho ?_)
      rw[hc,hd]
      show wpAny M A (if (["enumerate","zip","dict_itemiterator","dict_reverseitemiterator","odict_iterator","itertools.zip_longest","itertools.pairwise"].contains n&&vs[0]? ==some (rawInt _))=true then _ else _) Q E s
      rw[if_neg (by intro h;rw[hn,Bool.false_and]at h;cases h)]
      exact wpAny_pure hQ))
noncomputable def Qg(K:Fr)(a:Addr):It:=
 ⟨λi H=>∃xs x,bf K H a xs/\xs[i]? =some x,λi H x H'=>H'=H/\∀xs,bf K H a xs->xs[i]? =some x,λi H=>∃xs,bf K H a xs/\(xs:)<=i⟩
noncomputable def Wn(K:Fr)(a:Addr):It:=
 ⟨λi H=>∃xs x,cu K H a xs/\xs[i]? =some x,λi H x H'=>H'=H/\∀xs,cu K H a xs->xs[i]? =some x,λi H=>∃xs,cu K H a xs/\(xs:)<=i⟩
noncomputable def L_(lo:Int)(n:Nat):It:=⟨λi _=>i<n,λi H x H'=>H'=H/\x= .int (lo+i),λi _=>n<=i⟩
theorem DG{P:Program}{w:World}{K:Fr}{tg:Expr}(a it:Addr):Turn P w K tg (Qg K a) [it] it (λi h=>h.IsListIter it a i) where
 mem:=by simp
 obj:=λi h st b hb=>by
  have e:b=it:=by simpa using hb
  subst e
  obtain ⟨o,e,c,d⟩:=st
  walk_at"I"
 keep:=λi h h' st k=>st.at λo e=>k it (by simp) o e
 item:=by
  walk_at"a"
  subst hP hw hK
  obtain ⟨xs,x,hq,hx⟩:=hg
  obtain ⟨its,rv,p,hz⟩:=I.list hq
  obtain ⟨u,hu,ru⟩:=rv.get hx
  walk_at"d"
  refine wpAny_pyNext_list_item st p.isList (x:=u) (by simpa using hu) λh' tQ sb=>?_
  walk_at"5"
  obtain ⟨o,e,c,d⟩:=id tQ
  exact ⟨u,rfl,uE (s:={ s with heap:=h' }) e c d ∅ ⟨x,H,I1,ru,⟨rfl,λys hy=>by rw[I.xY hy hq];exact hx⟩,tQ,λb hb=>(hf b hb).1⟩⟩
 done:=by
  walk_at"a"
  subst hP hw hK
  obtain ⟨xs,hq,hx⟩:=hg
  obtain ⟨its,rv,p,hz⟩:=I.list hq
  walk_at"d"
  have hl:=(rv:)
  exact wpAny_pyNext_list_end (I.ok.hd hc) st p.isList (by simp;lia) λh' eb=>⟨rfl,I.turned (t':=s.toks) (λb o hb e=>eb b o hb e) f0 f1 f3 f4 f5⟩
 self:=λ_ _ _ _ _ st h=>wpAny_pyIter_listiter st h
theorem zT{P:Program}{w:World}{K:Fr}{tg:Expr}(a it:Addr):Turn P w K tg (Wn K a) [it] it (λi h=>h.IsTupleIter it a i) where
 mem:=by simp
 obj:=λi h st b hb=>by
  have e:b=it:=by simpa using hb
  subst e
  obtain ⟨o,e,c,d⟩:=st
  walk_at"I"
 keep:=λi h h' st k=>st.at λo e=>k it (by simp) o e
 item:=by
  walk_at"a"
  subst hP hw hK
  obtain ⟨xs,x,hq,hx⟩:=hg
  obtain ⟨its,rv,p,hz⟩:=I.tuple hq
  obtain ⟨u,hu,ru⟩:=rv.get hx
  walk_at"d"
  refine wpAny_pyNext_tuple_item st (show s.heap.IsTuple a its.toArray from p) (x:=u) (by simpa using hu) λh' tQ sb=>?_
  walk_at"5"
  obtain ⟨o,e,c,d⟩:=id tQ
  exact ⟨u,rfl,uE (s:={ s with heap:=h' }) e c d ∅ ⟨x,H,I1,ru,⟨rfl,λys hy=>by rw[I.nU hy hq];exact hx⟩,tQ,λb hb=>(hf b hb).1⟩⟩
 done:=by
  walk_at"a"
  subst hP hw hK
  obtain ⟨xs,hq,hx⟩:=hg
  obtain ⟨its,rv,p,hz⟩:=I.tuple hq
  walk_at"d"
  have hl:=(rv:)
  exact wpAny_pyNext_tuple_end (I.ok.hd hc) st (show s.heap.IsTuple a its.toArray from p) (by simp;lia) λh' eb=>⟨rfl,I.turned (t':=s.toks) (λb o hb e=>eb b o hb e) f0 f1 f3 f4 f5⟩
 self:=λ_ _ _ _ _ st h=>wpAny_pyIter_tupleiter st h
theorem zU{P:Program}{w:World}{K:Fr}{tg:Expr}(it:Addr)(lo:Int)(n:Nat):Turn P w K tg (L_ lo n) [it] it (λi h=>IsRangeIter h it (lo+(i:Nat)*1) ((n:Int) - (i:Nat)) 1) where
 mem:=by simp
 obj:=λi h st b hb=>by
  have e:b=it:=by simpa using hb
  subst e
  exact ⟨_,st,λv z=>by
   have z':Data.fields _=Data.cell v:=z
   cases z'⟩
 keep:=λi h h' st k=>k it (by simp) _ st
 item:=by
  walk_at"a"
  subst hP hw hK
  walk_at"d"
  have W:=Walks.range (prog:=X.prog) (w:=X.w) (I.ok.hd hc) it lo 1 n
  refine W.item i s _ _ hg st λv h' tk hv tQ kk=>?_
  obtain ⟨t,rfl⟩:=hv
  walk_at"Z"
  refine ⟨_,rfl,uE (s:={ s with heap:=h',toks:=tk }) (n:="range_iterator") tQ rfl rfl ∅ ⟨.int (lo+i),H,I1,⟨t,?_⟩,⟨rfl,rfl⟩,tQ,λb hb=>(hf b hb).1⟩⟩
  rw[Int.mul_one]
 done:=by
  walk_at"a"
  subst hP hw hK
  walk_at"d"
  exact wpAny_pyNext_range_end (I.ok.hd hc) st (by have:n<=i:=hg;lia) λh' eb=>⟨rfl,I.turned (t':=s.toks) (λb o hb e=>eb b o hb e) f0 f1 f3 f4 f5⟩
 self:=λ_ _ _ _ _ st h=>wpAny_pyIter_rangeiter st h
section
variable{X:Cx}{tg:Expr}
def Ma(K:Fr)(tl:TE):TI:=λσ H R=>tl σ H λx H1=>∃a,x= .ref a/\(∃xs,bf K H1 a xs)/\R (Qg K a) H1
def R9(K:Fr)(tl:TE):TI:=λσ H R=>tl σ H λx H1=>∃a,x= .ref a/\(∃xs,cu K H1 a xs)/\R (Wn K a) H1
theorem JQ{l:Expr}{tl:TE}(hl:PE X l tl):PI X tg l (Ma X.K tl):=by
 walk_at"V"
 walk_at"2"
 obtain ⟨a,e,⟨xs,hq⟩,q⟩:=q1
 subst e
 cases r1
 obtain ⟨its,rv,p,hz⟩:=I1.list hq
 refine wpAny_pyIter_list p.isList ?_
 refine ⟨s1.heap.objs.size,[s1.heap.objs.size],_,_,H1,rfl,I1.kept (t':=s1.toks) λb o e=>YT _ e,DG a _,⟨_,Qat _ rfl,rfl,rfl⟩,λb hb=>?_,q⟩
 have e:b=s1.heap.objs.size:=by simpa using hb
 subst e
 walk_at"G"
theorem Nt{l:Expr}{tl:TE}(hl:PE X l tl):PI X tg l (R9 X.K tl):=by
 walk_at"V"
 walk_at"2"
 obtain ⟨a,e,⟨xs,hq⟩,q⟩:=q1
 subst e
 cases r1
 obtain ⟨its,rv,p,hz⟩:=I1.tuple hq
 refine wpAny_pyIter_tuple (show s1.heap.IsTuple a its.toArray from p) ?_
 refine ⟨s1.heap.objs.size,[s1.heap.objs.size],_,_,H1,rfl,I1.kept (t':=s1.toks) λb o e=>YT _ e,zT a _,⟨_,Qat _ rfl,rfl,rfl⟩,λb hb=>?_,q⟩
 have e:b=s1.heap.objs.size:=by simpa using hb
 subst e
 walk_at"G"
theorem xZ{pins:List (Addr×Obj)}{σ:St}{H:Hp}{s:Shared}{R:It->Hp->Prop}{E:Value->Shared->Prop}{lo hi:Int}{t u v:Tok}{tk:Nat}(I:Inv X pins σ H s)(h1: -(2 ^ 62)<=lo)(h2:lo<2 ^ 62)(h3: -(2 ^ 62)<=hi)(h4:hi<2 ^ 62)
  (q:R (L_ lo (hi - lo).toNat) H):wpAny (model X.prog X.w) X.A (pyIter (.ref s.heap.objs.size)) (YI X pins σ tg R) E { s with heap:=s.heap.push { cls:= .type "range",data:= .fields #[.int lo t,.int hi u,.int 1 v] },toks:=tk }:=by
 refine wpAny_pyIter_range (IsRange.new ..) (small_one h1 h2 h3 h4) ?_
 have I1:Inv X pins σ H { s with heap:=s.heap.push { cls:= .type "range",data:= .fields #[.int lo t,.int hi u,.int 1 v] },toks:=tk }:=I.kept λb o e=>YT _ e
 refine ⟨(s.heap.push { cls:= .type "range",data:= .fields #[.int lo t,.int hi u,.int 1 v] }).objs.size,[(s.heap.push { cls:= .type "range",data:= .fields #[.int lo t,.int hi u,.int 1 v] }).objs.size],_,_,H,rfl,
  I1.kept (t':=tk) λb o e=>YT _ e,zU _ lo (hi - lo).toNat,?_,λb hb=>?_,q⟩
 ·have e1:lo+((0:Nat):Int)*1=lo:=by simp
  have e2:(((hi - lo).toNat:Nat):Int) - ((0:Nat):Int)=Builtin.Range.rangeSize lo hi 1:=by rw[rangeSize_one];split<;>lia
  show IsRangeIter _ _ (lo+((0:Nat):Int)*1) ((((hi - lo).toNat:Nat):Int) - ((0:Nat):Int)) 1
  rw[e1,e2]
  exact Qat _ rfl
 ·have e:b=(s.heap.push { cls:= .type "range",data:= .fields #[.int lo t,.int hi u,.int 1 v] }).objs.size:=by simpa using hb
  subst e
  walk_at"G"
def R_(ta:TA):TI:=λσ H R=>ta σ H λvs H1=>∃j:Int,vs=[.int j]/\ -(2 ^ 62)<=j/\j<2 ^ 62/\R (L_ 0 j.toNat) H1
def Sa(ta:TA):TI:=λσ H R=>ta σ H λvs H1=>∃i j:Int,vs=[.int i,.int j]/\(-(2 ^ 62)<=i/\i<2 ^ 62/\ -(2 ^ 62)<=j/\j<2 ^ 62)/\R (L_ i (j - i).toNat) H1
theorem eU{a:Expr}{ta:TA}{p pos:Pos}(hg:Gl X "range")(hm:X.mg "range"=none)(ha:PA X [a] ta)(hs:starEach [a] X.env=[(false,eval a X.env)]:=by rfl):PI X tg (.Call (.Name "range" p) [a] [] pos) (R_ ta):=by
 walk_at"V"
 refine Call_ (iq I hg hm boot_range (Qb1 (cJ (ha pos pins s σ H _ I h) λus s1 ⟨vs,H1,I1,r1,q1⟩=>?_) hs rfl))
 obtain ⟨j,e,q1,q2,q⟩:=q1
 subst e
 cases r1 with
 | cons r rr=>
  cases rr
  obtain ⟨t,rfl⟩:=r
  exact call_range_1 (xZ I1 () () q1 q2 (by simpa using q))
theorem uF{a b:Expr}{ta:TA}{p pos:Pos}(hg:Gl X "range")(hm:X.mg "range"=none)(ha:PA X [a,b] ta)(hs:starEach [a,b] X.env=[(false,eval a X.env),(false,eval b X.env)]:=by rfl)(Sb:starEach [b] X.env=[(false,eval b X.env)]:=by rfl):
  PI X tg (.Call (.Name "range" p) [a,b] [] pos) (Sa ta):=by
 walk_at"V"
 refine Call_ (iq I hg hm boot_range (Qb1 (cJ (ha pos pins s σ H _ I h) λus s1 ⟨vs,H1,I1,r1,q1⟩=>?_) (by rw[hs,Sb]) (by rw[Sb];rfl)))
 obtain ⟨i,j,e,⟨q1,q2,q3,q4⟩,q⟩:=q1
 subst e
 cases r1 with
 | cons r rr=>
  cases rr with
  | cons r' rr=>
   cases rr
   obtain ⟨t,rfl⟩:=r
   obtain ⟨t',rfl⟩:=r'
   exact call_range_2 (xZ I1 q1 q2 q3 q4 q)
def Wo(wi:TI)(g:TG)(tb:TS):TS:=λD σ H=>wi σ H λJ H1=>∃W:Nat->Nat->St->Hp->Prop,(∃m,W 0 m σ H1)/\∀i m σ H,W i m σ H->
 (J.stop i H/\D.nx σ H)\/(J.go i H/\∃N:St->Hp->Prop,(∀σ' H',N σ' H'->∃m',m'<m/\W (i+1) m' σ' H')/\∀x H',J.FF i H x H'->g x σ H' λσ2 H2=>tb { D with nx:=N,ct:=N,bk:=D.nx } σ2 H2)
noncomputable def qK(fp:List Addr)(h:Heap):List (Addr×Obj):=fp.filterMap λb=>(h.get? b).map λo=>(b,o)
theorem iY{fp:List Addr}{h:Heap}{b:Addr}{o:Obj}(hb:b∈fp)(e:h.get? b=some o):(b,o)∈qK fp h:=List.mem_filterMap.mpr ⟨b,hb,by rw[e];rfl⟩
theorem DH{fp:List Addr}{h:Heap}{p:Addr×Obj}(hp:p∈qK fp h):p.1∈fp/\h.get? p.1=some p.2:=by
 obtain ⟨b,hb,e⟩:=List.mem_filterMap.mp hp
 cases q:h.get? b with
 | none=>rw[q]at e;cases e
 | some o=>
  rw[q]at e
  have e':(b,o)=p:=Qaj e
  subst e'
  exact ⟨hb,q⟩
theorem Inv.pinned{pins:List (Addr×Obj)}{σ:St}{H:Hp}{s:Shared}{fp:List Addr}(I:Inv X pins σ H s)(hf:∀b∈fp,pV X pins H b)(ho:∀b∈fp,∃o,s.heap.get? b=some o/\∀v,o.data≠ .cell v):Inv X (pins++qK fp s.heap) σ H s:=
 I.mi λp hp=>(Qaf.mp hp).elim (λz=>I.pin p (Qa9 _ z)) λz=>by
  obtain ⟨hb,e⟩:=DH z
  obtain ⟨f0,f1,f2,_⟩:=hf p.1 hb
  obtain ⟨o,e',d⟩:=ho p.1 hb
  rw[e]at e';cases e'
  exact ⟨e,f0,f1,f2,d⟩
theorem Inv.jH{pins pl:List (Addr×Obj)}{σ:St}{H:Hp}{s:Shared}(I:Inv X (pins++pl) σ H s):Inv X pins σ H s:=I.mi λp hp=>I.pin p (Qa9 _ (Qeg _ hp))
theorem cn{iter:Expr}{body:List Stmt}{wi:TI}{g:TG}{tb:TS}{pos:Pos}(hp:PassesOwn (model X.prog X.w) X.A X.env X.xe)(hc:X.calm=true)(hi:PI X tg iter wi)(hg:PG X tg g)(hb:zR X body tb)
  (hs:∀x,foldedSetIterable iter X.env x=pure x:=by intro _;rfl):PS X (.For tg iter body [] pos) (Wo wi g tb):=by
 walk_at"C"
 refine wpAny_For (cJ (hi pins s σ H _ I h) λv s1 h1=>cJ h1 λWm s2 h2=>?_) hs
 obtain ⟨it,fp,tn,J,H2,e,I2,T,vR,f2,W,⟨m0,w0⟩,turn⟩:=h2
 subst e
 -- Sd stays true of FG Nu objects through FG loop
 have Nv:∀{H':Hp},(∀b∈fp,H' b=none)->∀b∈fp,pV X pins H' b:=λhn b hb=>⟨hn b hb,(f2 b hb).2⟩
 refine codeAny_forLoop_any (λn s'=>∃i σ' H',Inv X pins σ' H' s'/\tn i s'.heap/\(∀b∈fp,H' b=none)/\W i n σ' H') ?_ m0 ⟨0,σ,H2,I2,vR,λb hb=>(f2 b hb).1,w0⟩
 rintro n s3 ⟨i,σ3,H3,I3,Nw,Se,w3⟩
 rcases turn i n σ3 H3 w3 with ⟨stop,qn⟩ | ⟨go,N,hN,step⟩
 ·refine wpAny_passesOwn hp (cJ (T.done X rfl rfl rfl hc i pins s3 σ3 H3 X.xe I3 (Nv Se) Nw stop) λr s4 ⟨hr,I4⟩=>?_)
  subst hr
  exact wpAny_execs_nil ⟨σ3,H3,I4,qn⟩
 ·refine wpAny_passesOwn hp (cJ (T.item X rfl rfl rfl hc i pins s3 σ3 H3 X.xe I3 (Nv Se) Nw go) λr s4 ⟨u,hr,h4⟩=>?_)
  subst hr
  refine wpAny_passesOwn hp (cJ h4 λ_ s5 ⟨x,H5,I5,r5,y5,Jo,Wq⟩=>?_)
  have Wr:=I5.pinned (Nv Wq) (T.obj _ _ Jo)
  refine wpAny_passesOwn hp (cJ (hg _ s5 σ3 H5 x u _ Wr r5 (step x H5 y5)) λ_ s6 ⟨σ6,H6,I6,q6⟩=>?_)
  refine wpAny_passesOwn hp (cJ (hb _ s6 σ6 H6 _ I6 q6) λf s7 q7=>?_)
  have again:∀{σ7:St} {H7:Hp},Inv X (pins++qK fp s5.heap) σ7 H7 s7->N σ7 H7->∃m,m<n/\∃i σ' H',Inv X pins σ' H' s7/\tn i s7.heap/\(∀b∈fp,H' b=none)/\W i m σ' H':=λ{σ7 H7} I7 n7=>by
   obtain ⟨m',hm,w7⟩:=hN σ7 H7 n7
   refine ⟨m',hm,i+1,σ7,H7,I7.jH,T.keep _ _ _ Jo λb hb o e=>(I7.pin (b,o) (Qa9 _ (Qa9 _ (iY hb e)))).1,λb hb=>?_,w7⟩
   obtain ⟨o,e,d⟩:=T.obj _ _ Jo b hb
   exact (I7.pin (b,o) (Qa9 _ (Qa9 _ (iY hb e)))).2.1
  cases f with
  | next=>obtain ⟨σ7,H7,I7,n7⟩:=q7;exact again I7 n7
  | cont=>obtain ⟨σ7,H7,I7,n7⟩:=q7;exact again I7 n7
  | brk=>obtain ⟨σ7,H7,I7,q7⟩:=q7;exact ⟨σ7,H7,I7.jH,q7⟩
  | ret v=>obtain ⟨x7,σ7,H7,I7,r7,q7⟩:=q7;exact ⟨x7,σ7,H7,I7.jH,r7,q7⟩
end
theorem iK{K:Fr}{a:Addr}{xs:List V}{g:TG}{tb:TS}{D:Ends}{σ:St}{H:Hp}(Pv:Nat->St->Hp->Prop)(h0:Pv 0 σ H)(hl:∀i σ H,i<=(xs:)->Pv i σ H->bf K H a xs)
  (hs:∀i x σ H,xs[i]? =some x->Pv i σ H->g x σ H λσ2 H2=>tb { D with nx:=Pv (i+1),ct:=Pv (i+1),bk:=D.nx } σ2 H2) (hd:∀σ H,Pv (xs:) σ H->D.nx σ H):
  ∃W:Nat->Nat->St->Hp->Prop,(∃m,W 0 m σ H)/\∀i m σ H,W i m σ H->
   ((Qg K a).stop i H/\D.nx σ H)\/((Qg K a).go i H/\∃N:St->Hp->Prop,(∀σ' H',N σ' H'->∃m',m'<m/\W (i+1) m' σ' H')/\∀x H',(Qg K a).FF i H x H'->g x σ H' λσ2 H2=>tb { D with nx:=N,ct:=N,bk:=D.nx } σ2 H2):=by
 walk_at"i"
 rintro i m σ H ⟨rfl,hi,p⟩
 have q:=hl i σ H hi p
 by_cases dy:i<(xs:)
 ·refine .inr ⟨⟨xs,xs[i],q,by simp[dy]⟩,Pv (i+1),λσ' H' p'=>⟨(xs:) - (i+1),(),rfl,dy,p'⟩,λx H' y=>?_⟩
  obtain ⟨e,y⟩:=y
  subst e
  exact hs i x σ _ (y xs q) p
 ·have e:i=(xs:):=by lia
  subst e
  exact .inl ⟨⟨xs,q,YS _⟩,hd σ H p⟩
theorem fH{lo:Int}{n:Nat}{g:TG}{tb:TS}{D:Ends}{σ:St}{H:Hp}(Pv:Nat->St->Hp->Prop)(h0:Pv 0 σ H)
  (hs:∀i σ H,i<n->Pv i σ H->g (.int (lo+i)) σ H λσ2 H2=>tb { D with nx:=Pv (i+1),ct:=Pv (i+1),bk:=D.nx } σ2 H2) (hd:∀σ H,Pv n σ H->D.nx σ H):
  ∃W:Nat->Nat->St->Hp->Prop,(∃m,W 0 m σ H)/\∀i m σ H,W i m σ H->
   ((L_ lo n).stop i H/\D.nx σ H)\/((L_ lo n).go i H/\∃N:St->Hp->Prop,(∀σ' H',N σ' H'->∃m',m'<m/\W (i+1) m' σ' H')/\∀x H',(L_ lo n).FF i H x H'->g x σ H' λσ2 H2=>tb { D with nx:=N,ct:=N,bk:=D.nx } σ2 H2):=by
 refine ⟨λi m σ H=>m=n - i/\i<=n/\Pv i σ H,⟨n,by simp,Qao _,h0⟩,?_⟩
 rintro i m σ H ⟨rfl,hi,p⟩
 by_cases dy:i<n
 ·refine .inr ⟨dy,Pv (i+1),λσ' H' p'=>⟨n - (i+1),(),rfl,dy,p'⟩,λx H' y=>?_⟩
  obtain ⟨e,y⟩:=y
  subst e y
  exact hs i σ _ dy p
 ·have e:i=n:=by lia
  subst e
  exact .inl ⟨YS _,hd σ H p⟩
abbrev R2:=V->V->Hp->VK->Prop
def js(X:Cx)(f:Value->Value->Sem Value)(r:R2):Prop:=
 ∀(pins:List (Addr×Obj)) (s:Shared) (σ:St) (H:Hp) (x y:V) (v u:Value) (Q:VK),Inv X pins σ H s->RelV x v->RelV y u->r x y H Q->
  wpAny (model X.prog X.w) X.A (f v u) (EP X pins σ Q) X.xe s
def Ws(X:Cx)(f:Value->Sem Value)(r:V->Hp->VK->Prop):Prop:=
 ∀(pins:List (Addr×Obj)) (s:Shared) (σ:St) (H:Hp) (x:V) (v:Value) (Q:VK),Inv X pins σ H s->RelV x v->r x H Q->
  wpAny (model X.prog X.w) X.A (f v) (EP X pins σ Q) X.xe s
def dM(X:Cx)(f:Value)(r:List V->Hp->VK->Prop):Prop:=
 ∀(pins:List (Addr×Obj)) (s:Shared) (σ:St) (H:Hp) (xs:List V) (us:List Value) (Q:VK),Inv X pins σ H s->Vals xs us->r xs H Q->
  wpAny (model X.prog X.w) X.A (call f us) (EP X pins σ Q) X.xe s
def Wt(X:Cx)(r:V->Hp->(Bool->Hp->Prop)->Prop):Prop:=
 ∀(pins:List (Addr×Obj)) (s:Shared) (σ:St) (H:Hp) (x:V) (v:Value) (Q:Bool->Hp->Prop),Inv X pins σ H s->RelV x v->r x H Q->
  wpAny (model X.prog X.w) X.A (truthy v) (TP X pins σ Q) X.xe s
def UX(r:R2)(ta tb:TE):TE:=λσ H Q=>ta σ H λx H1=>tb σ H1 λy H2=>r x y H2 Q
def tUn(r:V->Hp->VK->Prop)(ta:TE):TE:=λσ H Q=>ta σ H λx H1=>r x H1 Q
def rI(C:Int->Int->Prop)(g:Int->Int->V):R2:=λx y H Q=>∃i j,x= .int i/\y= .int j/\C i j/\Q (g i j) H
def JR(g:Int->Int->V):R2:=λx y H Q=>∃i j,x= .int i/\y= .int j/\Q (g i j) H
def rU(g:Int->V):V->Hp->VK->Prop:=λx H Q=>∃i,x= .int i/\Q (g i) H
section
variable{X:Cx}{a b c:Expr}{ta tb tc:TE}{pos:Pos}
theorem Ny(ha:PE X a ta)(hb:PE X b tb){pins:List (Addr×Obj)}{s:Shared}{σ:St}{H:Hp}{R:V->V->Hp->Prop}(I:Inv X pins σ H s)
  (h:ta σ H λx H1=>tb σ H1 λy H2=>R x y H2) {Q:Value->Shared->Prop} {f:Value->Value->Sem Value}
  (hf:∀v u s2 x y H2,Inv X pins σ H2 s2->RelV x v->RelV y u->R x y H2->wpAny (model X.prog X.w) X.A (f v u) Q X.xe s2):
  wpAny (model X.prog X.w) X.A (eval a X.env) (λv s₁=>wpAny (model X.prog X.w) X.A (eval b X.env) (λu s₂=>wpAny (model X.prog X.w) X.A (f v u) Q X.xe s₂) X.xe s₁) X.xe s:=by
 refine cJ (ha pins s σ H _ I h) λv s1 ⟨x,H1,I1,r1,q1⟩=>?_
 refine cJ (hb pins s1 σ H1 _ I1 q1) λu s2 ⟨y,H2,I2,r2,q2⟩=>?_
 exact hf v u s2 x y H2 I2 r1 r2 q2
theorem aC{op:Operator}{r:R2}(ho:js X (binaryOp op) r)(ha:PE X a ta)(hb:PE X b tb):PE X (.BinOp a op b pos) (UX r ta tb):=by
 walk_at"h"
 exact wpAny_BinOp (Ny ha hb I h λv u s2 x y H2 I2 rx ry q=>ho pins s2 σ H2 x y v u Q I2 rx ry q)
theorem mq{op:UnaryOp}{r:V->Hp->VK->Prop}(ho:Ws X (unaryOp op) r)(ha:PE X a ta):PE X (.UnaryOp op a pos) (tUn r ta):=by
 walk_at"h"
 exact UnaryOp_ (cJ (ha pins s σ H _ I h) λv s1 ⟨x,H1,I1,r1,q1⟩=>ho pins s1 σ H1 x v Q I1 r1 q1)
theorem UY{f:Value->Value->Sem Value}{C:Int->Int->Prop}{g:Int->Int->Int}
  (rule:∀(i j:Int) (t u:Tok) (s:Shared) (Q:Value->Shared->Prop) (E:Value->Shared->Prop),C i j->Q (.int (g i j) s.toks) { s with toks:=s.toks+1 }->wpAny (model X.prog X.w) X.A (f (.int i t) (.int j u)) Q E s):
  js X f (rI C λi j=> .int (g i j)):=by
 walk_at"b"
 obtain ⟨i,j,rfl,rfl,hc,q⟩:=h
 walk_at"g"
 walk_at"U"
 exact rule i j t t' s _ _ hc ⟨.int (g i j),H,I.tok _,⟨_,rfl⟩,q⟩
theorem Sf{f:Value->Value->Sem Value}{g:Int->Int->Int}
  (rule:∀(i j:Int) (t u:Tok) (s:Shared) (Q:Value->Shared->Prop) (E:Value->Shared->Prop),Q (.int (g i j) s.toks) { s with toks:=s.toks+1 }->wpAny (model X.prog X.w) X.A (f (.int i t) (.int j u)) Q E s):
  js X f (JR λi j=> .int (g i j)):=by
 walk_at"b"
 obtain ⟨i,j,rfl,rfl,q⟩:=h
 walk_at"g"
 walk_at"U"
 exact rule i j t t' s _ _ ⟨.int (g i j),H,I.tok _,⟨_,rfl⟩,q⟩
theorem JS{f:Value->Value->Sem Value}{g:Int->Int->Bool}
  (rule:∀(i j:Int) (t u:Tok) (s:Shared) (Q:Value->Shared->Prop) (E:Value->Shared->Prop),Q (.bool (g i j)) s->wpAny (model X.prog X.w) X.A (f (.int i t) (.int j u)) Q E s):
  js X f (JR λi j=> .bl (g i j)):=by
 walk_at"b"
 obtain ⟨i,j,rfl,rfl,q⟩:=h
 walk_at"g"
 walk_at"U"
 exact rule i j t t' s _ _ ⟨.bl (g i j),H,I,rfl,q⟩
def Wu(i j:Int):Prop:=0<j/\j<1073741824
def Wv(i j:Int):Prop:=0<=j/\j<=1000000/\i.natAbs<2 ^ 64
def JT(i j:Int):Prop:=(-(2 ^ 64)<i/\i<2 ^ 64)\/(-(2 ^ 64)<j/\j<2 ^ 64)
theorem JT.ok{i j:Int}(h:JT i j):IntMulOk i j:=by
 rcases h with ⟨h1,h2⟩ | ⟨h1,h2⟩
 ·exact .of_left (intBits_le_64 h1 h2)
 ·exact .of_right (intBits_le_64 h1 h2)
theorem bp:js X (binaryOp .Add) (JR λi j=> .int (i+j)):=Sf λ_ _ _ _ _ _ _ q=>add_int q
theorem d_:js X (binaryOp .Sub) (JR λi j=> .int (i - j)):=Sf λ_ _ _ _ _ _ _ q=>sub_int q
theorem lL:js X (binaryOp .Mult) (rI JT λi j=> .int (i*j)):=UY λ_ _ _ _ _ _ _ hc q=>mul_int q hc.ok
theorem fI:js X (binaryOp .Mod) (rI (λ_ j=>0<j) λi j=> .int (i%j)):=UY λi j _ _ _ _ _ hc q=>by
 have h1:(0:Int)<j:=hc
 exact mod_int' () (by rw[Int.fmod_eq_emod_of_nonneg i ()];exact q)
theorem FH:js X (binaryOp .Pow) (rI Wv λi j=> .int (i ^ j.toNat)):=UY λ_ _ _ _ _ _ _ hc q=>pow_int_small hc.1 hc.2.1 hc.2.2 q
theorem unI{f:Value->Sem Value}{g:Int->Int}
  (rule:∀(i:Int) (t:Tok) (s:Shared) (Q:Value->Shared->Prop) (E:Value->Shared->Prop),Q (.int (g i) s.toks) { s with toks:=s.toks+1 }->wpAny (model X.prog X.w) X.A (f (.int i t)) Q E s):
  Ws X f (rU λi=> .int (g i)):=by
 intro pins s σ H x v Q I rx h
 obtain ⟨i,rfl,q⟩:=h
 walk_at"g"
 exact rule i t s _ _ ⟨.int (g i),H,I.tok _,⟨_,rfl⟩,q⟩
theorem iZ:Ws X (unaryOp .USub) (rU λi=> .int (-i)):=unI λ_ _ _ _ _ q=>neg_int q
end
noncomputable def Sg:V->V->Bool
 | .gE,.gE=>true | .gE,.int _=>true | .int _,.gE=>true | .gE,.bl _=>true | .bl _,.gE=>true | .gE,.str _=>true | .str _,.gE=>true
 | .int _,.int _=>true | .bl _,.bl _=>true | .str _,.str _=>true | .BF _, .BF _=>true
 | .int _,.str _=>true | .str _,.int _=>true | .bl _,.str _=>true | .str _,.bl _=>true
 | _,_=>false
def rEq:R2:=λx y H Q=>Sg x y=true/\Q (.bl (decide (x=y))) H
def rNe:R2:=λx y H Q=>Sg x y=true/\Q (.bl (!decide (x=y))) H
theorem BK{i j:Int}:decide (V.int i=V.int j)=(i==j):=by
 rw[Qdk]
 simp
theorem FI{i j:Bool}:decide (V.bl i=V.bl j)=(i==j):=by
 rw[Qdk]
 simp
theorem BL{i j:Str}:decide (V.str i=V.str j)=(i==j):=by
 rw[Qdk]
 simp
theorem BM{i j:Array UInt8}:decide (V.BF i=V.BF j)=(i.toList==j.toList):=by
 rw[Qdk]
 cases i
 cases j
 simp
section
variable{X:Cx}{a b c:Expr}{ta tb tc:TE}{pos:Pos}
theorem bI{pins:List (Addr×Obj)}{σ:St}{H:Hp}{s:Shared}{Q:VK}{k k':Bool}(I:Inv X pins σ H s)(q:Q (.bl k) H)(e:k=k'):EP X pins σ Q (.bool k') s:=by
 subst e
 exact ⟨.bl k,H,I,rfl,q⟩
theorem Mb:js X (compareOp .Eq) rEq:=by
 walk_at"b"
 obtain ⟨hs,q⟩:=h
 cases x with
 | gE=>
  cases rx
  cases y with
  | gE=>cases ry;exact PySem.EqNone.eq_none_none (bI I q (by simp))
  | bl j=>cases ry;exact PySem.EqNone.eq_none_bool (bI I q (by simp))
  | int j=>obtain ⟨t',rfl⟩:=ry;exact PySem.EqNone.eq_none_int (bI I q (by simp))
  | str j=>obtain ⟨t',rfl⟩:=ry;exact PySem.EqNone.eq_none_str (bI I q (by simp))
  | _=>exact absurd (show false=true from hs) Qap
 | bl i=>
  cases rx
  cases y with
  | gE=>cases ry;exact PySem.EqNone.eq_bool_none (bI I q (by simp))
  | bl j=>cases ry;exact eq_bool (bI I q FI)
  | str j=>obtain ⟨t',rfl⟩:=ry;exact PySem.EqMixed.eq_bool_str (bI I q (by simp))
  | _=>exact absurd (show false=true from hs) Qap
 | int i=>
  walk_at"g"
  cases y with
  | gE=>cases ry;exact PySem.EqNone.eq_int_none (bI I q (by simp))
  | int j=>obtain ⟨t',rfl⟩:=ry;exact eq_int (bI I q BK)
  | str j=>obtain ⟨t',rfl⟩:=ry;exact PySem.EqMixed.eq_int_str (bI I q (by simp))
  | _=>exact absurd (show false=true from hs) Qap
 | str i=>
  walk_at"g"
  cases y with
  | gE=>cases ry;exact PySem.EqNone.eq_str_none (bI I q (by simp))
  | bl j=>cases ry;exact PySem.EqMixed.eq_str_bool (bI I q (by simp))
  | int j=>obtain ⟨t',rfl⟩:=ry;exact PySem.EqMixed.eq_str_int (bI I q (by simp))
  | str j=>obtain ⟨t',rfl⟩:=ry;exact eq_str (bI I q BL)
  | _=>exact absurd (show false=true from hs) Qap
 | BF i=>
  walk_at"g"
  cases y with
  | BF j=>obtain ⟨t',rfl⟩:=ry;exact PySem.W.eq_bytes (bI I q BM)
  | _=>exact absurd (show false=true from hs) Qap
 | _=>cases y<;>exact absurd (show false=true from hs) Qap
theorem Mc:js X (compareOp .NotEq) rNe:=by
 walk_at"b"
 obtain ⟨hs,q⟩:=h
 cases x with
 | gE=>
  cases rx
  cases y with
  | gE=>cases ry;exact PySem.EqNone.ne_none_none (bI I q (by simp))
  | bl j=>cases ry;exact PySem.EqNone.ne_none_bool (bI I q (by simp))
  | int j=>obtain ⟨t',rfl⟩:=ry;exact PySem.EqNone.ne_none_int (bI I q (by simp))
  | str j=>obtain ⟨t',rfl⟩:=ry;exact PySem.EqNone.ne_none_str (bI I q (by simp))
  | _=>exact absurd (show false=true from hs) Qap
 | bl i=>
  cases rx
  cases y with
  | gE=>cases ry;exact PySem.EqNone.ne_bool_none (bI I q (by simp))
  | bl j=>cases ry;exact ne_bool (bI I q (congrArg not FI))
  | str j=>obtain ⟨t',rfl⟩:=ry;exact PySem.EqMixed.ne_bool_str (bI I q (by simp))
  | _=>exact absurd (show false=true from hs) Qap
 | int i=>
  walk_at"g"
  cases y with
  | gE=>cases ry;exact PySem.EqNone.ne_int_none (bI I q (by simp))
  | int j=>obtain ⟨t',rfl⟩:=ry;exact ne_int (bI I q (congrArg not BK))
  | str j=>obtain ⟨t',rfl⟩:=ry;exact PySem.EqMixed.ne_int_str (bI I q (by simp))
  | _=>exact absurd (show false=true from hs) Qap
 | str i=>
  walk_at"g"
  cases y with
  | gE=>cases ry;exact PySem.EqNone.ne_str_none (bI I q (by simp))
  | bl j=>cases ry;exact PySem.EqMixed.ne_str_bool (bI I q (by simp))
  | int j=>obtain ⟨t',rfl⟩:=ry;exact PySem.EqMixed.ne_str_int (bI I q (by simp))
  | str j=>obtain ⟨t',rfl⟩:=ry;exact ne_str (bI I q (congrArg not BL))
  | _=>exact absurd (show false=true from hs) Qap
 | BF i=>
  walk_at"g"
  cases y with
  | BF j=>obtain ⟨t',rfl⟩:=ry;exact PySem.W.ne_bytes (bI I q (congrArg not BM))
  | _=>exact absurd (show false=true from hs) Qap
 | _=>cases y<;>exact absurd (show false=true from hs) Qap
theorem jI:js X (compareOp .Lt) (JR λi j=> .bl (decide (i<j))):=JS λ_ _ _ _ _ _ _ q=>lt_int q
theorem Md:js X (compareOp .LtE) (JR λi j=> .bl (decide (i<=j))):=JS λ_ _ _ _ _ _ _ q=>le_int q
theorem o9:js X (compareOp .Gt) (JR λi j=> .bl (decide (j<i))):=JS λ_ _ _ _ _ _ _ q=>gt_int q
theorem BN:js X (compareOp .GtE) (JR λi j=> .bl (decide (j<=i))):=JS λ_ _ _ _ _ _ _ q=>ge_int q
theorem DI:js X (compareOp .Lt) (λx y H Q=>∃i j,x= .str i/\y= .str j/\Q (.bl (decide (i.cps.toList<j.cps.toList))) H):=by
 walk_at"b"
 obtain ⟨i,j,rfl,rfl,q⟩:=h
 walk_at"g"
 walk_at"U"
 exact lt_str (bI I q rfl)
theorem DJ:js X (compareOp .In) (λx y H Q=>∃i j,x= .str i/\y= .str j/\Q (.bl (!(Builtin.Str.occurrences j i 0 (j:) 1).isEmpty)) H):=by
 walk_at"b"
 obtain ⟨i,j,rfl,rfl,q⟩:=h
 walk_at"g"
 walk_at"U"
 exact in_str (bI I q rfl)
theorem aX(b:Expr){op:CmpOp}(h:op≠ .In:=by decide)(h2:op≠ .NotIn:=by decide):behindInMarks op b=false:=by
 have e1:(op==CmpOp.In)=false:=by cases op<;>first | rfl | exact absurd rfl h
 have e2:(op==CmpOp.NotIn)=false:=by cases op<;>first | rfl | exact absurd rfl h2
 cases b<;>simp[behindInMarks,e1,e2]
theorem kC{op:CmpOp}{r:R2}(ho:js X (compareOp op) r)(ha:PE X a ta)(hb:PE X b tb)(hm:behindInMarks op b=false):PE X (.Compare a [op] [b] pos) (UX r ta tb):=by
 walk_at"h"
 exact wpAny_Compare1 (Ny ha hb I h λv u s2 x y H2 I2 rx ry q=>ho pins s2 σ H2 x y v u Q I2 rx ry q) hm
def Sh(t:TE):TT:=λσ H Q=>t σ H λx H'=>∃k,x= .bl k/\Q k H'
theorem aK{op:CmpOp}{r:R2}(ho:js X (compareOp op) r)(ha:PE X a ta)(hb:PE X b tb)(hm:behindInMarks op b=false):PT X (.Compare a [op] [b] pos) (Sh (UX r ta tb)):=by
 walk_at"h"
 refine wpAny_isTrue_Compare1 (cJ (ha pins s σ H _ I h) λv s1 ⟨x,H1,I1,r1,q1⟩=>cJ (hb pins s1 σ H1 _ I1 q1) λu s2 ⟨y,H2,I2,r2,q2⟩=>
  cJ (ho pins s2 σ H2 x y v u _ I2 r1 r2 q2) λc s3 ⟨z,H3,I3,r3,k,e,q3⟩=>?_) hm
 subst e
 cases r3
 exact wpAny_truthy_bool ⟨H3,I3,q3⟩
def Nz(r r':R2)(ta tb tc:TE):TE:=λσ H Q=>ta σ H λx H1=>tb σ H1 λy H2=>r x y H2 λz H3=>∃k,z= .bl k/\
 (if k=true then tc σ H3 λw' H4=>r' y w' H4 Q else Q (.bl false) H3)
theorem x9{op Ww:CmpOp}{r r':R2}(ho:js X (compareOp op) r)(xJ:js X (compareOp Ww) r')(ha:PE X a ta)(hb:PE X b tb)(hc:PE X c tc)
  (hm:lastMarks [op,Ww] [b,c]=false:=by with_unfolding_all rfl):PE X (.Compare a [op,Ww] [b,c] pos) (Nz r r' ta tb tc):=by
 walk_at"h"
 refine Compare_chain (cJ (ha pins s σ H _ I h) λv s1 ⟨x,H1,I1,r1,q1⟩=>chain_link (cJ (hb pins s1 σ H1 _ I1 q1) λu s2 ⟨y,H2,I2,r2,q2⟩=>
  cJ (ho pins s2 σ H2 x y v u _ I2 r1 r2 q2) λd s3 ⟨z,H3,I3,r3,k,e,q3⟩=>?_)) hm
 subst e
 cases r3
 refine wpAny_truthy_bool ?_
 cases k with
 | false=>exact ite_ff ⟨.bl false,H3,I3,rfl,q3⟩
 | true=>exact ite_tt (chain_last (cJ (hc pins s3 σ H3 _ I3 q3) λw' s4 ⟨z',H4,I4,r4,q4⟩=>xJ pins s4 σ H4 y z' u w' Q I4 r2 r4 q4))
def Wx(K:Fr)(x:V)(H:Hp)(k:Bool):Prop:=
 match x with
 | .gE=>k=false
 | .bl b=>k=b
 | .int i=>k=(i != 0)
 | .str y=>(y:)<=sizeLine/\k=(((y:):Int) != 0)
 | .BF y=>y.size<=sizeLine/\k=((y.size:Int) != 0)
 | .ref p=>(∃xs,bf K H p xs/\k=!xs.isEmpty)\/(∃xs,cu K H p xs/\k=!xs.isEmpty)\/∃aL,H p=some (.dK aL)/\k=!aL.isEmpty
 | _=>False
theorem zV{κ:Type}{aL:List (κ×V)}{vs:List (κ×Value)}(r:KV aL vs):(!vs.isEmpty)=!aL.isEmpty:=by
 cases r<;>rfl
theorem qL{xs:List V}{its:List Value}(r:Vals xs its):(!its.toArray.isEmpty)=!xs.isEmpty:=by
 cases r<;>simp
theorem fJ:(sizeLine:Nat)<2 ^ 63:=by rw[sizeLine_eq];decide
theorem NA:Wt X (λx H Q=>∃k,Wx X.K x H k/\Q k H):=by
 intro pins s σ H x v Q I rx h
 obtain ⟨k,e,q⟩:=h
 have hl:=fJ
 have hs:sizeLine=16777216:=sizeLine_eq
 cases x with
 | gE=>
  cases rx
  have e':k=false:=e
  subst e'
  exact truthy_none ⟨H,I,q⟩
 | bl b=>
  cases rx
  have e':k=b:=e
  subst e'
  exact wpAny_truthy_bool ⟨H,I,q⟩
 | int i=>
  walk_at"g"
  have e':k=(i != 0):=e
  subst e'
  exact PySem.P.truthy_int ⟨H,I,q⟩
 | str y=>
  walk_at"g"
  obtain ⟨hy,e'⟩:(y:)<=sizeLine/\k=(((y:):Int) != 0):=e
  subst e'
  exact PySem.P.truthy_str () ⟨H,I.tok _,q⟩
 | BF y=>
  walk_at"g"
  obtain ⟨hy,e'⟩:y.size<=sizeLine/\k=((y.size:Int) != 0):=e
  subst e'
  exact PySem.W.truthy_bytes () ⟨H,I.tok _,q⟩
 | ref p=>
  cases rx
  have e':(∃xs,bf X.K H p xs/\k=!xs.isEmpty)\/(∃xs,cu X.K H p xs/\k=!xs.isEmpty)\/∃aL,H p=some (.dK aL)/\k=!aL.isEmpty:=e
  rcases e' with ⟨xs,hx,e'⟩ | ⟨xs,hx,e'⟩ | ⟨aL,hx,e'⟩
  ·subst e'
   obtain ⟨its,r,pl,hz⟩:=I.list hx
   have hlen:=(r:)
   exact wpAny_truthy_list pl.isList (by simp only[Qah];lia) ⟨H,I.tok _,by rw[qL r];exact q⟩
  ·subst e'
   obtain ⟨its,r,pl,hz⟩:=I.tuple hx
   have hlen:=(r:)
   exact truthy_tuple pl (by simp only[Qah];lia) ⟨H,I.tok _,by rw[qL r];exact q⟩
  ·subst e'
   obtain ⟨hz,hS,vs,r,m⟩:(aL:)<=sizeLine/\(p==sysModules)=false/\∃vs,KV aL vs/\s.heap.DictOf (bQ X.prog X.w) p vs:=I.cy p _ hx
   have hlen:(aL:)=(vs:):=Paired.length r
   exact wpAny_truthy_dict hS m () ⟨H,I.tok _,by rw[zV r];exact q⟩
 | _=>exact (show False from e).elim
theorem zW:js X (binaryOp .Add) (λx y H Q=>∃i j,x= .str i/\y= .str j/\(i:)+(j:)<=sizeLine/\Q (.str (i++j)) H):=by
 walk_at"b"
 obtain ⟨i,j,rfl,rfl,hz,q⟩:=h
 walk_at"g"
 walk_at"U"
 exact add_str (λt' tk=>⟨.str (i++j),H,I.tok _,⟨_,rfl⟩,q⟩) hz
theorem vals1{x:V}{us:List Value}(r:Vals [x] us):∃u,us=[u]/\RelV x u:=by
 cases r with
 | cons r1 r2=>cases r2;exact ⟨_,rfl,r1⟩
theorem vals2{x y:V}{us:List Value}(r:Vals [x,y] us):∃u w',us=[u,w']/\RelV x u/\RelV y w':=by
 cases r with
 | cons r1 r2=>
  cases r2 with
  | cons r3 r4=>cases r4;exact ⟨_,_,rfl,r1,r3⟩
theorem DK(hc:X.calm=true):dM X (.builtin "max") (λxs H Q=>∃i j,xs=[.int i,.int j]/\Q (.int (if j>i then j else i)) H):=by
 walk_at"f"
 obtain ⟨i,j,rfl,q⟩:=h
 obtain ⟨u,w',rfl,⟨t,rfl⟩,⟨t',rfl⟩⟩:=vals2 r
 refine max_two_ints (I.ok.hd hc) λh' tk k=>⟨_,H,I.kept k,?_,q⟩
 by_cases hj:j>i
 ·rw[if_pos hj,if_pos hj];exact ⟨_,rfl⟩
 ·rw[if_neg hj,if_neg hj];exact ⟨_,rfl⟩
theorem uG(hc:X.calm=true):dM X (.builtin "min") (λxs H Q=>∃i j,xs=[.int i,.int j]/\Q (.int (if j<i then j else i)) H):=by
 walk_at"f"
 obtain ⟨i,j,rfl,q⟩:=h
 obtain ⟨u,w',rfl,⟨t,rfl⟩,⟨t',rfl⟩⟩:=vals2 r
 refine min_two_ints (I.ok.hd hc) λh' tk k=>⟨_,H,I.kept k,?_,q⟩
 by_cases hj:j<i
 ·rw[if_pos hj,if_pos hj];exact ⟨_,rfl⟩
 ·rw[if_neg hj,if_neg hj];exact ⟨_,rfl⟩
theorem DL:dM X (.type "int") (λxs H Q=>(∃i,xs=[.int i]/\Q (.int i) H)\/∃k,xs=[.bl k]/\Q (.int (if k then 1 else 0)) H):=by
 walk_at"f"
 rcases h with ⟨i,rfl,q⟩ | ⟨k,rfl,q⟩
 ·obtain ⟨u,rfl,t,rfl⟩:=vals1 r
  exact call_int_int ⟨.int i,H,I,⟨_,rfl⟩,q⟩
 ·obtain ⟨u,rfl,r1⟩:=vals1 r
  cases r1
  exact call_int_bool ⟨.int (if k then 1 else 0),H,I.tok _,⟨_,rfl⟩,q⟩
theorem vS:dM X (.type "str") (λxs H Q=>∃i,xs=[.int i]/\i.natAbs.log2<1920/\Q (.str (toString i)) H):=by
 walk_at"f"
 obtain ⟨i,rfl,hz,q⟩:=h
 obtain ⟨u,rfl,t,rfl⟩:=vals1 r
 exact PySem.P.str_of_int hz ⟨.str _,H,I.tok _,⟨_,rfl⟩,q⟩
end
structure DM(h:Heap)(x dx C:Addr)(mA:Str->Option Value):Prop where
 obj:h.get? x=some (PySem.W.instObj C dx)
 ns:h.Ns1 dx mA
 ne:dx≠x
theorem DN{h:Heap}{dx:Addr}{mA:Str->Option Value}(n:h.Ns1 dx mA):∃od,h.get? dx=some od/\∀name,PySem.W.lookIn name od=some (mA name):=by
 obtain ⟨o,es,ep,ho,hd,hk,_,hm⟩:=n
 refine ⟨o,ho,λname=>?_⟩
 have e:=hm name
 unfold nsFind findBy at e
 rw[<-Array.find?_toList]at e
 unfold PySem.W.lookIn
 rw[hd]
 dsimp only
 split
 ·rename_i y q
  rw[q]at e
  exact congrArg some e
 ·rename_i q
  rw[q]at e
  have a:es.toList.any (·.refKey)=false:=by
   rw[Qf4]
   intro y hy
   obtain ⟨z,t,Wy⟩:=hk y (Array.mem_toList_iff.mp hy)
   simp[DictEntry.refKey,Wy]
  have a': ¬es.toList.any (·.refKey)=true:=by rw[a];exact Qap
  rw[if_neg a']
  exact congrArg some e
theorem DM.look{h:Heap}{x dx C:Addr}{mA:Str->Option Value}(I:DM h x dx C mA):∃od,PySem.W.InstAt h x (PySem.W.instObj C dx) C (some od)/\∀name,PySem.W.lookIn name od=some (mA name):=
 let ⟨od,ho,hl⟩:=DN I.ns
 ⟨od,⟨I.obj,rfl,rfl,ho⟩,hl⟩
section
variable{prog:Program}{w:World}{A:Around}{E:Value->Shared->Prop}{s:Shared}{K:Fr}{x dx C f:Addr}{mA:Str->Option Value}{name:Str}{v:Value}
theorem get_map{expr:Bool}{Q:Value->Shared->Prop}(X:K.In s.heap)(I:DM s.heap x dx C mA)(hg:PySem.W.plainGet K C name=true)(hh:PySem.W.hasDictIn K C=true)
  (ha:PySem.W.findIn K (.ref C) name=some none) (hv:mA name=some v) (hv':PySem.W.handedIn v=true) (h:Q v { s with toks:=s.toks+1 }):
  wpAny (model prog w) A (getAttr (.ref x) name expr) Q E s:=by
 obtain ⟨od,J,hl⟩:=I.look
 exact PySem.W.get_value X J (PySem.W.plainGet_of hg).1 (PySem.W.findObj_own hh ha rfl (by rw[hl,hv])) hv' h
theorem JU{ns:List Str}{Q:Unit->Shared->Prop}(X:K.In s.heap)(I:DM s.heap x dx C mA)
  (hs:PySem.W.findIn K (.ref C) "__setattr__"=some (some (.builtin "object.__setattr__"))) (hp:PySem.W.plainOver K C=true) (ht:PySem.W.takerIn K C name=some none) (hh:PySem.W.hasDictIn K C=true)
  (hw:PySem.Within mA ns) (hsz:(ns:)<=sizeLine)
  (h:∀h',DM h' x dx C (λy=>if y=name then some v else mA y)->Heap.SameBut dx s.heap h'->Q Unit.unit { s with heap:=h',toks:=s.toks+2 }):
  wpAny (model prog w) A (setAttr (.ref x) name v) Q E s:=by
 obtain ⟨od,J,hl⟩:=I.look
 refine PySem.W.set_plain X J hs (PySem.W.osa_open (s:={ s with toks:=s.toks+1 }) (r:=none) X J hp ht λb=>?_)
 obtain ⟨cd,hc,xV⟩:=PySem.W.any_some hh
 have hx:s.heap.get? x=some ⟨.ref C,some dx,.plain, #[]⟩:=I.obj
 refine wpAny_bind (wpAny_pure (wpAny_bind (wpAny_bind (wpAny_loadPart hx (wpAny_bind (PySem.W.Looks.here (s:={ s with toks:=s.toks+1 }) (PySem.W.looks_clsIn X hc) ?_))))))
 rw[xV]
 refine wpAny_pure (a:=some dx) (wpAny_bind (wpAny_pure (wpAny_bind ?_)))
 refine wpAny_nsSet1 (s:={ s with toks:=s.toks+1 }) I.ns λh' vT Sb=>?_
 obtain ⟨oD,esD,epD,hoD,hdD,hcD⟩:=vT.count (PySem.Within.cons name v hw)
 refine wpAny_bind (wpAny_lookBehind hoD (by rw[hdD];exact pastItsLine_dict (Qbf hcD (by rw[Qaz];lia))) ?_)
 exact wpAny_pure (h _ ⟨(Sb.2 _ (Ne.symm I.ne)).trans I.obj,vT,I.ne⟩ Sb)
theorem FJ{R:Result->Shared->Prop}{vs:List Value}{kw:List (Str×Value)}(X:K.In s.heap)(hm:PySem.W.makesIn K C=true)
  (hi:PySem.W.findIn K (.ref C) "__init__"=some (some (.ref f))) (hf:PySem.W.typeIn K (.ref f)=some (.type "function"))
  (h:codeAny (model prog w) (A.under (.builtin "type.__call__" ⟨.ref C::vs,kw⟩)) (.call (.ref f) ⟨.ref (s.heap.objs.size+1)::vs,kw⟩) (PySem.W.InitBack (s.heap.objs.size+1) R)
   { s with heap:=(s.heap.push PySem.W.emptyDict).push (PySem.W.instObj C s.heap.objs.size) }):
  codeAny (model prog w) A (.call (.ref C) ⟨vs,kw⟩) R s:=by
 obtain ⟨hh,g,d,t,os⟩:=s
 exact PySem.W.make_core (PySem.W.makes_of X hm) (PySem.W.looks_findIn X hi) (λself=>PySem.W.bind_fn X self hf) (.inl rfl) h
end
noncomputable def fg(f:Str)(v:V):List (Str×V)->List (Str×V)
 | []=>[(f,v)]
 |(g,x)::r=>if g=f then (g,v)::r else (g,x)::fg f v r
theorem aM(f g:Str)(v:V):∀fs:List (Str×V),(fg f v fs).lookup g=if g=f then some v else fs.lookup g
 | []=>by
  show List.lookup g [(f,v)]=_
  by_cases h:g=f
  ·have hb:(g==f)=true:=beq_iff_eq.mpr h
   simp only[List.lookup,hb,if_pos h]
  ·have hb:(g==f)=false:=beq_eq_false_iff_ne.mpr h
   simp only[List.lookup,hb,if_neg h]
 |(k,x)::r=>by
  have ih:=aM f g v r
  walk_at"J"
  by_cases hk:k=f
  ·rw[if_pos hk]
   by_cases h:g=k
   ·have hb:(g==k)=true:=beq_iff_eq.mpr h
    simp only[List.lookup,hb,if_pos (h.trans hk)]
   ·have hb:(g==k)=false:=beq_eq_false_iff_ne.mpr h
    simp only[List.lookup,hb,if_neg (λe:g=f=>h (e.trans hk.symm))]
  ·rw[if_neg hk]
   by_cases h:g=k
   ·have hb:(g==k)=true:=beq_iff_eq.mpr h
    simp only[List.lookup,hb,if_neg (λe:g=f=>hk (h.symm.trans e))]
   ·have hb:(g==k)=false:=beq_eq_false_iff_ne.mpr h
    simp only[List.lookup,hb]
    exact ih
theorem nV(f:Str)(v:V):∀fs:List (Str×V),f∈(fg f v fs).map (·.1)/\∀g,g∈fs.map (·.1)->g∈(fg f v fs).map (·.1)
 | []=>⟨by simp[fg],λg h=>by simp at h⟩
 |(k,x)::r=>by
  obtain ⟨i1,i2⟩:=nV f v r
  walk_at"J"
  by_cases hk:k=f
  ·rw[if_pos hk]
   subst hk
   exact ⟨by simp,λg h=>by simpa using h⟩
  ·rw[if_neg hk]
   refine ⟨?_,λg h=>?_⟩
   ·rw[Qav]
    exact Qae _ i1
   ·rw[Qav]at h ⊢
    rcases Qak.mp h with e | e
    ·exact Qak.mpr (.inl e)
    ·exact Qae _ (i2 g e)
theorem o_(f:Str)(v:V):∀fs:List (Str×V),(fg f v fs:)<=(fs:)+1
 | []=>by simp[fg]
 |(k,x)::r=>by
  have ih:=o_ f v r
  walk_at"J"
  by_cases hk:k=f
  ·rw[if_pos hk,Qaz,Qaz];lia
  ·rw[if_neg hk,Qaz,Qaz];lia
theorem nS.some_of{v:V}{o:Option Value}(r:nS (some v) o):∃u,o=some u/\RelV v u:=by
 cases o with
 | none=>exact (show False from r).elim
 | some u=>exact ⟨u,rfl,r⟩
theorem DO{v:V}{u:Value}(r:RelV v u):PySem.W.handedIn u=true:=by
 cases v with
 | gE=>cases (show u=Value.none from r);rfl
 | bl b=>cases (show u=Value.bool b from r);rfl
 | int i=>obtain ⟨t,e⟩:=(show ∃t,u=Value.int i t from r);cases e;rfl
 | str x=>obtain ⟨t,e⟩:=(show ∃t,u=Value.str x t from r);cases e;rfl
 | BF b=>obtain ⟨t,e⟩:=(show ∃t,u=Value.bytes b t from r);cases e;rfl
 | UP b=>obtain ⟨t,e⟩:=(show ∃t,u=Value.float b t from r);cases e;rfl
 | ref a=>cases (show u=Value.ref a from r);rfl
 | ty n=>cases (show u=Value.type n from r);rfl
section
variable{P:Program}{w:World}{H H':Hp}{h h':Heap}{a C dx:Addr}{fs fs':List (Str×V)}
theorem BO(cy:kU P w H h)(e:H a=some (.ins C dx fs)):∃mA,DM h a dx C mA/\(∀f,nS (fs.lookup f) (mA f))/\PySem.Within mA (fs.map (·.1))/\(fs:)<=1000/\H dx=some (.own a):=by
 obtain ⟨d,z,ne,ob,mA,n,r,q⟩:=(show cM P w H h a (.ins C dx fs) from cy a _ e)
 exact ⟨mA,⟨ob,n,ne⟩,r,q,z,d⟩
end
structure Me(K:Fr)(C:Addr):Prop where
 pg:PySem.W.plainGet K C Str.empty=true
 hd:PySem.W.hasDictIn K C=true
 po:PySem.W.plainOver K C=true
 sa:PySem.W.findIn K (.ref C) "__setattr__"=some (some (.builtin "object.__setattr__"))
theorem Me.get{K:Fr}{C:Addr}(c:Me K C)(f:Str):PySem.W.plainGet K C f=true:=c.pg
def fh(K:Fr)(C:Addr)(f:Str):Prop:=PySem.W.findIn K (.ref C) f=some none
theorem fh.Si{K:Fr}{C:Addr}{f:Str}(n:fh K C f):PySem.W.takerIn K C f=some none:=by
 unfold PySem.W.takerIn
 rw[show PySem.W.findIn K (.ref C) f=some none from n]
 rfl
section
variable{X:Cx}{pins:List (Addr×Obj)}{σ:St}{H:Hp}{s:Shared}{a C dx:Addr}{fs:List (Str×V)}{f:Str}{v:V}{A:Around}{E:Value->Shared->Prop}
theorem zX{b:Bool}{Q:Value->Shared->Prop}(I:Inv X pins σ H s)(e:H a=some (.ins C dx fs))(c:Me X.K C)(n:fh X.K C f)(l:fs.lookup f=some v)
  (h:∀u s',Inv X pins σ H s'->RelV v u->Q u s'):wpAny (model X.prog X.w) A (getAttr (.ref a) f b) Q E s:=by
 obtain ⟨mA,O,r,_,_,_⟩:=BO I.cy e
 obtain ⟨u,hu,ru⟩:=nS.some_of (v:=v) (o:=mA f) (by rw[<-l];exact r f)
 exact get_map I.DE O (c.get f) c.hd n hu (DO ru) (h u _ (I.tok _) ru)
theorem zY{y:V}{u:Value}{Q:Unit->Shared->Prop}(I:Inv X pins σ H s)(e:H a=some (.ins C dx fs))(c:Me X.K C)(n:fh X.K C f)(hl:(fs:)<1000)(ry:RelV y u)
  (h:∀s',Inv X pins σ (upd H a (.ins C dx (fg f y fs))) s'->Q Unit.unit s'):wpAny (model X.prog X.w) A (setAttr (.ref a) f u) Q E s:=by
 obtain ⟨mA,O,r,wi,_,ho⟩:=BO I.cy e
 have hz:(fs.map (·.1):)<=sizeLine:=by rw[Qi,sizeLine_eq];lia
 refine JU I.DE O c.sa c.po n.Si c.hd wi hz λh' O' sb=>h _ ?_
 have hd:∃o,h'.get? dx=some o:=let ⟨o,_,_,e',_⟩:=O'.ns;⟨o,e'⟩
 refine I.write (x:=a) (e:=dx) (by rw[e];exact True.intro) (.inr ho) (λb q hb z=>(sb.2 b hb).trans z) hd ?_
 refine ⟨by rw[aq O.ne];exact ho,?_,O.ne,O'.obj,_,O'.ns,λg=>?_,λg hg=>?_⟩
 ·have:=o_ f y fs;lia
 ·show nS ((fg f y fs).lookup g) (if g=f then some u else mA g)
  rw[aM]
  by_cases q:g=f
  ·rw[if_pos q,if_pos q];exact ry
  ·rw[if_neg q,if_neg q];exact r g
 ·by_cases q:g=f
  ·rw[q];exact (nV f y fs).1
  ·refine (nV f y fs).2 g (wi g λz=>hg ?_)
   show (if g=f then some u else mA g)=none
   rw[if_neg q];exact z
theorem Inv.made(I:Inv X pins σ H s):Inv X pins σ (upd (upd H s.heap.objs.size (.own (s.heap.objs.size+1))) (s.heap.objs.size+1) (.ins C s.heap.objs.size []))
  { s with heap:=(s.heap.push PySem.W.emptyDict).push (PySem.W.instObj C s.heap.objs.size) }:=by
 have e1:(s.heap.push PySem.W.emptyDict).get? s.heap.objs.size=some PySem.W.emptyDict:=Qat s.heap rfl
 have e2:((s.heap.push PySem.W.emptyDict).push (PySem.W.instObj C s.heap.objs.size)).get? (s.heap.objs.size+1)=some (PySem.W.instObj C s.heap.objs.size):=by
  have:=Qat (s.heap.push PySem.W.emptyDict) (o:=PySem.W.instObj C s.heap.objs.size) rfl
  rwa [Qei]at this
 have e3:(s.heap.push PySem.W.emptyDict).Ns s.heap.objs.size (λ_=>none):=⟨PySem.W.emptyDict, #[],_,e1,rfl,(λe he=>absurd he (by simp)),λ_=>rfl⟩
 have I1:=I.laid (a:=s.heap.objs.size) (o:= .own (s.heap.objs.size+1)) (h':=s.heap.push PySem.W.emptyDict) (t':=s.toks) (λb u q=>YT _ q) (YS _) ⟨_,e1⟩
 refine I1.laid (a:=s.heap.objs.size+1) (o:= .ins C s.heap.objs.size []) (t':=s.toks) (λb u q=>YT _ q) (Nat.le_of_eq (Qei _ _)) ?_
 have ne:s.heap.objs.size≠s.heap.objs.size+1:=Qay (Qc2 _)
 refine ⟨by rw[aq ne,ae],Qao _,ne,e2,λ_=>none,(Heap.Ns1.of_empty e3).at λo q=>YT _ q,λ_=>True.intro,λy hy=>absurd rfl hy⟩
theorem JV{prog:Program}{w:World}{env:Env}{e:Expr}{f:Str}{pos:Pos}{s:Shared}{Q:Value->Shared->Prop}(hb:attributeBase e f env (eval e env)=eval e env)
  (h:wpAny (model prog w) A (eval e env) (λo s₁=>wpAny (model prog w) A (getAttr o f true) Q E s₁) E s):wpAny (model prog w) A (eval (.Attribute e f pos) env) Q E s:=
 Attribute_any_ h (by rw[arm_eval_Attribute,hb])
end
def Sj(K:Fr)(ta:TE)(f:Str):TE:=λσ H Q=>ta σ H λx H1=>∃a C dx fs v,x= .ref a/\H1 a=some (.ins C dx fs)/\Me K C/\fh K C f/\fs.lookup f=some v/\Q v H1
def Wz(K:Fr)(ta tv:TE)(f:Str):TS:=λD σ H=>tv σ H λy H1=>ta σ H1 λx H2=>∃a C dx fs,x= .ref a/\H2 a=some (.ins C dx fs)/\Me K C/\fh K C f/\(fs:)<1000/\
 D.nx σ (upd H2 a (.ins C dx (fg f y fs)))
section
variable{X:Cx}{o e value:Expr}{f:Str}{pos pos' Sk:Pos}{ta tv:TE}
theorem NB(he:PE X e ta)(hb:attributeBase e f X.env (eval e X.env)=eval e X.env):PE X (.Attribute e f pos) (Sj X.K ta f):=by
 walk_at"h"
 refine JV hb (cJ (he pins s σ H _ I h) λu s1 ⟨x,H1,I1,rx,a,C,dx,fs,v,ex,ea,c,n,l,q⟩=>?_)
 subst ex
 obtain rfl:u=Value.ref a:=rx
 exact zX I1 ea c n l λu' s2 I2 ru=>⟨v,H1,I2,ru,q⟩
theorem jJ(ha:PE X o ta)(hv:PE X value tv)(hs:swapsWith value (some (.Attribute o f pos')) pos.line X.env=pure false):PS X (.Assign [.Attribute o f pos'] value pos) (Wz X.K ta tv f):=by
 walk_at"C"
 refine plainObj_wpAny_Assign_Attribute (cJ (hv pins s σ H _ I h) λu s1 ⟨y,H1,I1,ry,q⟩=>cJ (ha pins s1 σ H1 _ I1 q) λov s2 ⟨x,H2,I2,rx,a,C,dx,fs,ex,ea,c,n,l,q2⟩=>?_) hs
 subst ex
 obtain rfl:ov=Value.ref a:=rx
 exact zY I2 ea c n l ry λs3 I3=>⟨σ,_,I3,q2⟩
end
structure fF(k:Nat)(A:Around):Prop where
 hd:A.handled=none
 dp:A.depth+3*k+5<recursionLimit
 un:A.units+16*k+200<cLine
 gd:A.guards=some []
theorem fF.mono{j k:Nat}{A:Around}(r:fF k A)(h:j<=k):fF j A:=⟨r.hd,by have:=r.dp;lia,by have:=r.un;lia,r.gd⟩
theorem fF.deeper{k:Nat}{A:Around}(r:fF (k+1) A)(env:Env):fF k (A.deeper env):=
 ⟨r.hd,by have:=r.dp;show A.depth+1+3*k+5<_;lia,by have:=r.un;show A.units+3+16*k+200<_;lia,r.gd⟩
theorem zZ{A:Around}{C:Addr}{us:List Value}{kw:List (Str×Value)}:(A.under (.builtin "type.__call__" ⟨.ref C::us,kw⟩)).depth=A.depth+1:=by
 first | rfl | simp[Around.under,Code.weight,Code.isCreation,Code.isGuard,Code.isCaller,Code.frames,Code.isFrame,guardIds]
theorem z6{A:Around}{C:Addr}{us:List Value}{kw:List (Str×Value)}:(A.under (.builtin "type.__call__" ⟨.ref C::us,kw⟩)).units=A.units+1:=by
 first | rfl | simp[Around.under,Code.cUnits,Code.frames,Code.isFrame]
theorem fF.make{k:Nat}{A:Around}(r:fF (k+1) A)(C:Addr)(us:List Value)(kw:List (Str×Value)):fF k (A.under (.builtin "type.__call__" ⟨.ref C::us,kw⟩)):=
 ⟨r.hd,by have:=r.dp;rw[zZ];lia,by have:=r.un;rw[z6];lia,by first | exact r.gd | (simpa [Around.under,Code.guards,Code.isGuard,pushGuards,guardIds]using r.gd)⟩
theorem fF.depth{k:Nat}{A:Around}(r:fF k A):A.depth<recursionLimit:=by have:=r.dp;lia
theorem fF.units{k:Nat}{A:Around}(r:fF k A):A.units+64<cLine:=by have:=r.un;lia
def WA:TA:=λ_ H Q=>Q [] H
def Sl(ta:TE)(tr:TA):TA:=λσ H Q=>ta σ H λx H1=>tr σ H1 λxs H2=>Q (x::xs) H2
section
variable{X:Cx}{e:Expr}{es:List Expr}{te:TE}{t:TA}{pos:Pos}
theorem ab:PA X [] WA:=λ_ _ _ _ H Q I h=>Calls.spliced_nil ⟨[],H,I,.nil,h⟩
theorem aa(ha:PE X e te)(hr:PA X es t)(hs:starEach (e::es) X.env=(false,eval e X.env)::starEach es X.env:=by rfl):PA X (e::es) (Sl te t):=by
 intro pos pins s σ H Q I h
 rw[hs]
 show wpAny _ _ (spliced ((false,eval e X.env)::backTo pos (starEach es X.env))) _ _ s
 refine Calls.spliced_cons (cJ (ha pins s σ H _ I h) λu s1 ⟨x,H1,I1,r1,q1⟩=>?_)
 exact cJ (hr pos pins s1 σ H1 _ I1 q1) λus s2 ⟨xs,H2,I2,r2,q2⟩=>⟨x::xs,H2,I2,.cons r1 r2,q2⟩
def WB(t:TA):TE:=λσ H Q=>t σ H λxs H1=>(xs:)<=sizeLine/\∀p,H1 p=none->Q (.ref p) (upd H1 p (.tup xs))
def WC(t:TA):TE:=λσ H Q=>t σ H λxs H1=>(xs:)<=sizeLine/\∀p,H1 p=none->Q (.ref p) (upd H1 p (.lst xs))
theorem bW{x1}(h:PA X es t):PE X (.Tuple es x1 pos) (WB t):=by
 intro pins s σ H Q I hq
 refine wpAny_Tuple_spliced (cJ (h pos pins s σ H _ I hq) λus s1 ⟨xs,H1,I1,r,z,q⟩=>⟨by rw[<-(r:)];exact z,?_⟩)
 have hf:H1 s1.heap.objs.size=none:=I1.cy.fresh (YS _)
 refine ⟨.ref s1.heap.objs.size,upd H1 s1.heap.objs.size (.tup xs),I1.laid (t':=s1.toks) (λb u e=>YT _ e) (YS _) ?_,rfl,q _ hf⟩
 exact ⟨z,us,r,⟨_,Qat _ rfl,rfl,_,rfl⟩⟩
theorem cP(h:PA X es t):PE X (.List es pos) (WC t):=by
 intro pins s σ H Q I hq
 refine wpAny_List_spliced (cJ (h pos pins s σ H _ I hq) λus s1 ⟨xs,H1,I1,r,z,q⟩=>⟨by rw[<-(r:)];exact z,?_⟩)
 have hf:H1 s1.heap.objs.size=none:=I1.cy.fresh (YS _)
 refine ⟨.ref s1.heap.objs.size,upd H1 s1.heap.objs.size (.lst xs),I1.laid (t':=s1.toks) (λb u e=>YT _ e) (YS _) ?_,rfl,q _ hf⟩
 exact ⟨z,us,0,r,Qat _ rfl⟩
end
abbrev Sp:=List V->Hp->VK->XK->Prop
abbrev DP:=List Env->Hp->Shared->XK->Value->Shared->Prop
structure z7(P:Program)(w:World)(K:Fr)(mg:Str->Option Value)(base:Heap)(A:Around)(outer:List Env)(s:Shared)(H:Hp):Prop where
 frames:A.frames=some outer
 mod:Mod K mg base
 bs:∀b o,base.get? b=some o->s.heap.get? b=some o/\H b=none
 JM:base.objs.size<=s.heap.objs.size
 pU:s.heap.FunFrames base outer
 Nf:∀b∈BG outer,H b=none
 cy:kU P w H s.heap
 bare:AllBare s.gens
def CE(outer:List Env)(P:Program)(w:World)(H:Hp)(s:Shared)(Q:VK)(u:Value)(s':Shared):Prop:=
 ∃v H',s'.os=s.os/\AllBare s'.gens/\Un (BG outer) [] H H' s.heap s'.heap/\kU P w H' s'.heap/\RelV v u/\Q v H'
def CR(CX:DP)(outer:List Env)(P:Program)(w:World)(H:Hp)(s:Shared)(Q:VK)(E:XK)(r:Result)(s':Shared):Prop:=
 match r with
 | .ok (.ret u)=>CE outer P w H s Q u s'
 | .ok _=>False
 | .error e=>CX outer H s E e s'
structure bV(P:Program)(w:World)(K:Fr)(mg:Str->Option Value)(base:Heap)(CX:DP)(k:Nat)(f:Addr)(fd:FuncData)(ps:List Str)(sp:Sp):Prop where
 len:∀vs H Q E,sp vs H Q E->(vs:)=(ps:)
 run:∀(A:Around) (outer:List Env) (s:Shared) (H:Hp) (args:Args) (us:List Value) (vs:List V) (Q:VK) (E:XK),fF k A->z7 P w K mg base A outer s H->BindsTo s fd args (ps.zip us)->Vals vs us->sp vs H Q E->
  codeAny (model P w) A (.call (.ref f) args) (CR CX outer P w H s Q E) s
theorem z7.make{P:Program}{w:World}{K:Fr}{mg:Str->Option Value}{base:Heap}{A:Around}{outer:List Env}{s:Shared}{H:Hp}(e:z7 P w K mg base A outer s H)(C:Addr)(us:List Value)(kw:List (Str×Value)):
  z7 P w K mg base (A.under (.builtin "type.__call__" ⟨.ref C::us,kw⟩)) outer s H:=⟨by first | exact e.frames | (simpa [Around.under,Code.envs,Code.isFrame,pushEnvs]using e.frames),e.mod,e.bs,e.JM,e.pU,e.Nf,e.cy,e.bare⟩
section
variable{X:Cx}{pins:List (Addr×Obj)}{σ:St}{H:Hp}{s s':Shared}
theorem Inv.Sm(I:Inv X pins σ H s):z7 X.prog X.w X.K X.mg X.base X.A X.stack s H:=
 ⟨I.ok.frames,I.ok.mod,I.bs,Qbf I.ok.JM I.sz,I.stack,I.BH,I.cy,I.bare⟩
theorem Inv.after{Q:VK}{u:Value}(I:Inv X pins σ H s)(h:CE X.stack X.prog X.w H s Q u s'):EP X pins σ Q u s':=by
 obtain ⟨v,H',os,bare,un,cy,r,q⟩:=h
 obtain ⟨hh,g,d,t,Mf⟩:=s'
 obtain rfl:Mf=s.os:=os
 exact ⟨v,H',I.call (h':=hh) (g':=g) (d':=d) (t':=t) (ch:=[]) un cy bare (λb z=>absurd z (by simp)),r,q⟩
end
def So(sp:Sp)(dvs:List V)(E:XK)(t:TA):TE:=λσ H Q=>t σ H λvs H1=>sp (vs++dvs) H1 Q E
def Sq(C:Addr)(sp:Sp)(dvs:List V)(E:XK)(t:TA):TE:=λσ H Q=>t σ H λvs H1=>∀x dx,H1 x=none->H1 dx=none->dx≠x->
 sp (.ref x::(vs++dvs)) (upd (upd H1 dx (.own x)) x (.ins C dx [])) (λv H2=>v= .gE/\Q (.ref x) H2) E
def Binds(K:Fr)(fd:FuncData)(ps:List Str)(ds:List Value):Prop:=
 ∀(s:Shared) (us:List Value),K.In s.heap->(us++ds:)=(ps:)->BindsTo s fd ⟨us,[]⟩ (ps.zip (us++ds))
theorem Binds.all{K:Fr}{fd:FuncData}{ps:List Str}(h:∀us:List Value,(us:)=(ps:)->bindArgs fd ⟨us,[]⟩=pure (ps.zip us)):Binds K fd ps []:=λs us _ hl=>by
 rw[Qa4]at hl ⊢
 exact .of_eq (h us hl)
def Passes(CX:DP)(X:Cx)(E:XK):Prop:=∀(pins:List (Addr×Obj)) (σ:St) (H:Hp) (s:Shared) (e:Value) (s':Shared),Inv X pins σ H s->CX X.stack H s E e s'->X.xe e s'
section
variable{X:Cx}{CX:DP}{k:Nat}{f C:Addr}{fd:FuncData}{ps:List Str}{sp:Sp}{dvs:List V}{ds:List Value}{E:XK}{x m:Str}{p pos apos:Pos}{e o:Expr}{es:List Expr}{ta:TE}{t:TA}
theorem z8{pins:List (Addr×Obj)}{σ:St}{H:Hp}{s:Shared}{Q:VK}{us:List Value}{vs:List V}(F:bV X.prog X.w X.K X.mg X.base CX k f fd ps sp)(hr:fF k X.A)(hb:Binds X.K fd ps ds)(hd:Vals dvs ds)(hx:Passes CX X E)
  (I:Inv X pins σ H s) (r:Vals vs us) (h:sp (vs++dvs) H Q E):wpAny (model X.prog X.w) X.A (call (.ref f) us) (EP X pins σ Q) X.xe s:=by
 have r2:Vals (vs++dvs) (us++ds):=r.append hd
 have hl:(us++ds:)=(ps:):=by rw[<-(r2:)];exact F.len _ _ _ _ h
 refine wpAny_call (codeAny_mono (F.run X.A X.stack s H ⟨us,[]⟩ (us++ds) (vs++dvs) Q E hr I.Sm (hb s us I.DE hl) r2 h) λr s' hq=>?_)
 cases r with
 | error e=>exact hx pins σ H s e s' I hq
 | ok fl=>
  cases fl with
  | ret u=>exact I.after hq
  | next=>exact False.elim hq
  | brk=>exact False.elim hq
  | cont=>exact False.elim hq
theorem ao(F:bV X.prog X.w X.K X.mg X.base CX k f fd ps sp)(hr:fF k X.A)(hg:Gl X x)(hm:X.mg x=some (.ref f))(hk:PySem.W.keepIn X.K (.ref f)=true)(hb:Binds X.K fd ps ds)(hd:Vals dvs ds)(hx:Passes CX X E)
  (ha:PA X (e::es) t) (Fp:(x==("__debug__":Str))=false:=by decide) (he:starEach (e::es) X.env=(false,eval e X.env)::starEach es X.env:=by rfl) (gQ:(backTo pos (starEach es X.env)).any (·.1)=false:=by rfl):
  PE X (.Call (.Name x p) (e::es) [] pos) (So sp dvs E t):=by
 walk_at"h"
 refine wpAny_Call_Name_kw (vP I hg hm ?_ Fp)
 refine Qet (h₀:=X.base) I.ok.mod.Qe hk (cJ (ha pos pins s σ H _ I h) λus s1 ⟨vs,H1,I1,r,q⟩=>⟨I1.DE,?_⟩) he gQ
 exact z8 F hr hb hd hx I1 r q
structure Mk(K:Fr)(C f:Addr):Prop where
 makes:PySem.W.makesIn K C=true
 init:PySem.W.findIn K (.ref C) "__init__"=some (some (.ref f))
 fn:PySem.W.isFn K (.ref f)=true
 kp:PySem.W.keepIn K (.ref C)=true
theorem FK{pins:List (Addr×Obj)}{σ:St}{H:Hp}{s:Shared}{Q:VK}{us:List Value}{vs:List V}(M:Mk X.K C f)(F:bV X.prog X.w X.K X.mg X.base CX k f fd ps sp)(hr:fF (k+1) X.A)(hb:Binds X.K fd ps ds)(hd:Vals dvs ds)
  (hx:Passes CX X E) (I:Inv X pins σ H s) (r:Vals vs us)
  (h:∀x dx,H x=none->H dx=none->dx≠x->sp (.ref x::(vs++dvs)) (upd (upd H dx (.own x)) x (.ins C dx [])) (λv H2=>v= .gE/\Q (.ref x) H2) E):
  wpAny (model X.prog X.w) X.A (call (.ref C) us) (EP X pins σ Q) X.xe s:=by
 have hq:=h (s.heap.objs.size+1) s.heap.objs.size (I.cy.fresh (Qc0 _)) (I.cy.fresh (YS _)) (Qay (Qc2 _))
 have I2:=Inv.made (C:=C) I
 have r2:Vals (V.ref (s.heap.objs.size+1)::(vs++dvs)) (Value.ref (s.heap.objs.size+1)::(us++ds)):= .cons rfl (r.append hd)
 have hl:((Value.ref (s.heap.objs.size+1)::us++ds):)=(ps:):=by
  have e:=(r2:)
  rw[F.len _ _ _ _ hq]at e
  exact e.symm
 refine wpAny_call (FJ (f:=f) I.DE M.makes M.init (beq_iff_eq.mp M.fn) (codeAny_mono (F.run _ X.stack _ _ ⟨Value.ref (s.heap.objs.size+1)::us,[]⟩ (Value.ref (s.heap.objs.size+1)::(us++ds)) _ _ E (hr.make C us [])
  (I2.Sm.make C us []) (hb _ (Value.ref (s.heap.objs.size+1)::us) I2.DE hl) r2 hq) λr s' NC=>?_))
 cases r with
 | error e=>exact hx pins σ _ _ e s' I2 NC
 | ok fl=>
  cases fl with
  | ret u=>
   obtain ⟨v,H',I3,rv,ev,q3⟩:=I2.after NC
   subst ev
   exact ⟨rv,⟨V.ref (s.heap.objs.size+1),H',I3,rfl,q3⟩⟩
  | next=>exact False.elim NC
  | brk=>exact False.elim NC
  | cont=>exact False.elim NC
theorem qp(M:Mk X.K C f)(F:bV X.prog X.w X.K X.mg X.base CX k f fd ps sp)(hr:fF (k+1) X.A)(hg:Gl X x)(hm:X.mg x=some (.ref C))(hb:Binds X.K fd ps ds)(hd:Vals dvs ds)(hx:Passes CX X E)
  (ha:PA X (e::es) t) (Fp:(x==("__debug__":Str))=false:=by decide) (he:starEach (e::es) X.env=(false,eval e X.env)::starEach es X.env:=by rfl) (gQ:(backTo pos (starEach es X.env)).any (·.1)=false:=by rfl):
  PE X (.Call (.Name x p) (e::es) [] pos) (Sq C sp dvs E t):=by
 walk_at"h"
 refine wpAny_Call_Name_kw (vP I hg hm ?_ Fp)
 refine Qet (h₀:=X.base) I.ok.mod.Qe M.kp (cJ (ha pos pins s σ H _ I h) λus s1 ⟨vs,H1,I1,r,q⟩=>⟨I1.DE,?_⟩) he gQ
 exact FK M F hr hb hd hx I1 r q
end
structure aF(N P:List Str)(sc:Scope):Prop where
 kind:sc.kind= .function
 co:sc.isCoroutine=false
 gen:sc.isGenerator=false
 nd:N.Nodup
 pre:N.take P.length=P
 par:∀x∈P,sc.names.lookup x=some .local\/sc.names.lookup x=some .cell
 ND:∀y∈sc.names,y.2≠ .free
theorem uH{kindOf:Str->Option NameKind}{x:Str}:∀{binds:List (Str×Value)} {m:Str->Option Value},(∀v,(x,v)∉binds)->bindL kindOf binds m x=m x
 | [],_,_=>rfl
 |(n,v)::r,m,h=>by
  unfold bindL
  rw[uH λw hw=>h w (Qae _ hw)]
  split
  ·have:x≠n:=by rintro rfl;exact h v Qac
   simp[this]
  ·rfl
theorem uI{kindOf:Str->Option NameKind}{x:Str}:∀{binds:List (Str×Value)} {m:Str->Option Value},(∀v,(x,v)∉binds)->bindC kindOf binds m x=m x
 | [],_,_=>rfl
 |(n,v)::r,m,h=>by
  unfold bindC
  rw[uI λw hw=>h w (Qae _ hw)]
  split
  ·rfl
  ·have:x≠n:=by rintro rfl;exact h v Qac
   simp[this]
theorem uJ{kindOf:Str->Option NameKind}{x:Str}{v:Value}:∀{P:List Str} {vs:List Value} {i:Nat} {m:Str->Option Value},P.Nodup->P[i]? =some x->vs[i]? =some v->kindOf x=some .local->
  bindL kindOf (P.zip vs) m x=some v
 | [],_,_,_,_,h,_,_=>by simp at h
 | _::_,[],_,_,_,_,h,_=>by simp at h
 | p::P,w::vs,0,m,nd,h1,h2,hk=>by
  simp at h1 h2;subst h1;subst h2
  show bindL kindOf ((p,w)::P.zip vs) m p=_
  unfold bindL
  rw[uH λv hv=>(Qbc.mp nd).1 (Qgb hv).1,if_pos hk]
  simp
 | p::P,w::vs,i+1,m,nd,h1,h2,hk=>by
  show bindL kindOf ((p,w)::P.zip vs) m x=_
  unfold bindL
  exact uJ (i:=i) (Qbc.mp nd).2 (by simpa using h1) (by simpa using h2) hk
theorem uK{kindOf:Str->Option NameKind}{x:Str}{v:Value}:∀{P:List Str} {vs:List Value} {i:Nat} {m:Str->Option Value},P.Nodup->P[i]? =some x->vs[i]? =some v->kindOf x≠some .local->
  bindC kindOf (P.zip vs) m x=some v
 | [],_,_,_,_,h,_,_=>by simp at h
 | _::_,[],_,_,_,_,h,_=>by simp at h
 | p::P,w::vs,0,m,nd,h1,h2,hk=>by
  simp at h1 h2;subst h1;subst h2
  show bindC kindOf ((p,w)::P.zip vs) m p=_
  unfold bindC
  rw[uI λv hv=>(Qbc.mp nd).1 (Qgb hv).1,if_neg hk]
  simp
 | p::P,w::vs,i+1,m,nd,h1,h2,hk=>by
  show bindC kindOf ((p,w)::P.zip vs) m x=_
  unfold bindC
  exact uK (i:=i) (Qbc.mp nd).2 (by simpa using h1) (by simpa using h2) hk
noncomputable def start(N:List Str)(vs:List V):St:=vs.map some++List.replicate (N.length - (vs:)) none
noncomputable def DQ(CX:DP)(P:Program)(w:World)(K:Fr)(mg:Str->Option Value)(base:Heap)(N:List Str)(qual:Str)(scope:Scope)(f:Addr)(cd:Value)(A:Around)(outer:List Env)(s:Shared)(H:Hp)(E:XK):Cx where
 prog:=P
 w:=w
 K:=K
 mg:=mg
 base:=base
 A:=A.deeper (envOfC qual scope s.heap.objs.size f cd)
 N:=N
 s₀:=s
 H₀:=H
 env:=envOfC qual scope s.heap.objs.size f cd
 outer:=outer
 stack:=envOfC qual scope s.heap.objs.size f cd::outer
 ex:=[]
 calm:=true
 fn:=λ_=>true
 pn:=[]
 xe:=λe s'=>wpAny (model P w) (A.deeper (envOfC qual scope s.heap.objs.size f cd)) (leaving (envOfC qual scope s.heap.objs.size f cd) e) (λ_ NF=>CX outer H s E e NF) (λe' NF=>CX outer H s E e' NF) s'
theorem x_{sc:Scope}{n:Nat}{x:Str}(h:sc.names.lookup x=some .cell):∃c,(cellsFrom n sc.names []).lookup x=some c:=by
 have q:=PySem.W.cellsFrom_some sc.names n [] (.inl h)
 exact Option.isSome_iff_exists.mp q
theorem DR{CX:DP}{P:Program}{w:World}{K:Fr}{mg:Str->Option Value}{base:Heap}{N ps:List Str}{qual:Str}{scope:Scope}{f:Addr}{cd:Value}{A:Around}{outer:List Env}{s s1:Shared}{H:Hp}{E:XK}{us:List Value}{vs:List V}
  (S:aF N ps scope) (hd:A.handled=none) (e0:z7 P w K mg base A outer s H) (hl:(vs:)=(ps:)) (r:Vals vs us)
  (x:InCallC s s.heap.objs.size (bindL (envOfC qual scope s.heap.objs.size f cd).kindOf (ps.zip us) λ_=>none) (cellsFrom (s.heap.objs.size+1) scope.names []) (bindC (envOfC qual scope s.heap.objs.size f cd).kindOf (ps.zip us) λ_=>none) s1):
  Inv (DQ CX P w K mg base N qual scope f cd A outer s H E) [] (start N vs) H s1:=by
 have gQ:(ps:)<=N.length:=by have:=congrArg List.length S.pre;rw[Qas]at this;lia
 obtain ⟨h1,tk,rfl,hk⟩:=x.done
 have Sr:∀b:Addr,b∉(DQ CX P w K mg base N qual scope f cd A outer s H E).ex:=λb z=>absurd (show b∈([]:List Addr) from z) (by simp)
 refine ⟨⟨e0.mod,S.kind,rfl,rfl,YS _,λy z c h1 h2=>?_,λy hy=>?_,λy c _ h=>?_,λ_=>hd,Around.frames_deeper e0.frames,.inr ⟨rfl,rfl⟩,λb z=>absurd z (Sr b),e0.bs,e0.JM,λb _ _=>Sr b,λb z=>absurd z (Sr b),e0.pU,e0.Nf⟩,
  rfl,e0.bare,Un.kept hk,⟨_,x.toInCall.ns,λi y v h1 h2 h3=>?_⟩,λy c h=>⟨_,x.cell y c h⟩,e0.cy.fresh (YS _),λy c h=>?_,λp hp=>absurd (show p∈([]:List (Addr×Obj)) from hp) (by simp),e0.cy.kept hk,?_⟩
 ·exact name_of_addr x.apart (Qdz h1) (Qdz h2)
 ·have hy:scope.names.lookup y=some .cell\/scope.names.lookup y=some .free:=hy
  rcases hy with hy | hy
  ·exact x_ hy
  ·exact absurd rfl (S.ND _ (Qdz hy))
 ·exact Qbo (x.above y c (Qdz h))
 ·have hi:i<(vs:):=by
   unfold start at h2
   by_cases hi:i<(vs:)
   ·exact hi
   ·rw[Qb0 (by simpa using hi)]at h2
    rw[List.getElem?_replicate]at h2
    split at h2<;>cases h2
  have ha:vs[i]? =some v:=by
   unfold start at h2
   rw[Qbi (by simpa using hi),Qag]at h2
   cases e:vs[i]? with
   | none=>rw[e]at h2;cases h2
   | some a=>rw[e]at h2;cases h2;rfl
  obtain ⟨u,hu,rv⟩:=r.get ha
  have hp:ps[i]? =some y:=by
   rw[<-S.pre,List.getElem?_take_of_lt ()];exact h1
  have YJ:ps.Nodup:=by rw[<-S.pre];exact S.nd.sublist (List.take_sublist _ _)
  refine ⟨u,rv,?_⟩
  rcases S.par y (Qai hp) with k | k
  ·exact .inl ⟨k,uJ YJ hp hu k⟩
  ·obtain ⟨c,e⟩:=x_ (n:=s.heap.objs.size+1) k
   refine .inr ⟨.inl k,c,e,?_⟩
   have q:=x.cell y c e
   rw[uK YJ hp hu (by show scope.names.lookup y≠_;rw[k];decide)]at q
   exact q
 ·exact e0.cy.fresh (Qbo (x.above y c (Qdz h)))
 ·unfold start
  show _=N.length
  rw[U3,Qi,List.length_replicate]
  lia
theorem Ss{CX:DP}{P:Program}{w:World}{K:Fr}{mg:Str->Option Value}{base:Heap}{k:Nat}{f:Addr}{name qual:Str}{params:Arguments}{body:List Stmt}{scope:Scope}{dV kV doc pm da ct oc:Value}{an od:Option Addr}
  {Jp:Array (Option Value)} {N ps:List Str} {sp:Sp} (lk:K.lookup f=some ⟨oc,od,.func (PySem.W.fnOf name qual params body scope dV kV doc pm an da ct),Jp⟩) (ji:PySem.W.codeIn K da qual=true) (S:aF N ps scope)
  (len:∀vs H Q E,sp vs H Q E->(vs:)=(ps:))
  (FL:∀(A:Around) (outer:List Env) (s:Shared) (H:Hp) (vs:List V) (Q:VK) (E:XK),fF k (A.deeper (envOfC qual scope s.heap.objs.size f da))->sp vs H Q E->
   ∃t,zR (DQ CX P w K mg base N qual scope f da A outer s H E) body t/\t { nx:=λ_ H'=>Q .gE H',rt:=Q } (start N vs) H):
  bV P w K mg base CX (k+1) f (PySem.W.fnOf name qual params body scope dV kV doc pm an da ct) ps sp:=by
 refine ⟨len,λA outer s H args us vs Q E hr e0 hb r Mg=>?_⟩
 have hl:=len _ _ _ _ Mg
 have KX:K.In s.heap:=e0.mod.Qe.keeps λb o e=>(e0.bs b o e).1
 have lim:s.heap.NoLimit:=e0.mod.nolimit.keeps λb o e=>(e0.bs b o e).1
 have jj:∀y∈ps.zip us,scope.names.lookup y.1=some .local\/(scope.names.lookup y.1=some .cell/\((cellsFrom (s.heap.objs.size+1) scope.names []).lookup y.1).isSome=true):=λ⟨n,v⟩ hy=>by
  rcases S.par n (Qgb hy).1 with q | q
  ·exact .inl q
  ·exact .inr ⟨q,PySem.W.cellsFrom_some _ _ _ (.inl q)⟩
 refine codeAny_call_function hr.depth (KX _ _ lk) rfl S.co S.gen rfl (PySem.W.codeRec_of KX ji) (hb _ _ _ _ ?_)
 refine wpAny_newFunctionEnv_cells S.kind jj λenv he s1 x=>?_
 subst he
 refine ⟨lim.keeps x.toInCall.keep,codeAny_func ?_⟩
 obtain ⟨t,ht,hq⟩:=FL A outer s H vs Q E (hr.deeper _) Mg
 have I:Inv (DQ CX P w K mg base N qual scope f da A outer s H E) [] (start N vs) H s1:=DR S hr.hd e0 hl r x
 refine wpAny_mono (ht [] s1 (start N vs) H _ I hq) (λfl s' hs=>?_) λe s' hs=>hs
 have fin:∀{σ':St} {H':Hp} {v:V} {u:Value},Inv (DQ CX P w K mg base N qual scope f da A outer s H E) [] σ' H' s'->RelV v u->Q v H'->CE outer P w H s Q u s':=
  λ{σ' H' v u} J rv q=>⟨v,H',J.os,J.bare,J.base,J.cy,rv,q⟩
 cases fl with
 | ret u=>
  obtain ⟨v,σ',H',J,rv,q⟩:=hs
  exact fin J rv q
 | next=>
  obtain ⟨σ',H',J,q⟩:=hs
  exact fin (v:=V.gE) (u:=Value.none) J rfl q
 | brk=>
  obtain ⟨_,_,_,q⟩:=hs
  exact False.elim q
 | cont=>
  obtain ⟨_,_,_,q⟩:=hs
  exact False.elim q
section
variable{X:Cx}{x:Str}{p pos:Pos}{e:Expr}{es:List Expr}{t:TA}{id T:String}{r:List V->Hp->VK->Prop}
def YK(r:List V->Hp->VK->Prop)(t:TA):TE:=λσ H Q=>t σ H λvs H1=>r vs H1 Q
theorem aA(hc:dM X (.builtin id) r)(hg:Gl X x)(hm:X.mg x=none)(hv:bootBuiltins x=some (.builtin id))(ha:PA X (e::es) t)(hn:x≠"__name__":=by decide)(Fp:(x==("__debug__":Str))=false:=by decide)
  (he:starEach (e::es) X.env=(false,eval e X.env)::starEach es X.env:=by rfl) (gQ:(backTo pos (starEach es X.env)).any (·.1)=false:=by rfl):PE X (.Call (.Name x p) (e::es) [] pos) (YK r t):=by
 walk_at"h"
 refine wpAny_Call_Name_kw (iq I hg hm hv ?_ hn Fp)
 exact PyProof.Rows.callWith_builtin1 (cJ (ha pos pins s σ H _ I h) λus s1 ⟨vs,H1,I1,r1,q1⟩=>hc pins s1 σ H1 vs us Q I1 r1 q1) he gQ
theorem bB(hc:dM X (.type T) r)(hg:Gl X x)(hm:X.mg x=none)(hv:bootBuiltins x=some (.type T))(ha:PA X (e::es) t)(hn:x≠"__name__":=by decide)(Fp:(x==("__debug__":Str))=false:=by decide)
  (he:starEach (e::es) X.env=(false,eval e X.env)::starEach es X.env:=by rfl) (gQ:(backTo pos (starEach es X.env)).any (·.1)=false:=by rfl):PE X (.Call (.Name x p) (e::es) [] pos) (YK r t):=by
 walk_at"h"
 refine wpAny_Call_Name_kw (iq I hg hm hv ?_ hn Fp)
 exact Qb1 (cJ (ha pos pins s σ H _ I h) λus s1 ⟨vs,H1,I1,r1,q1⟩=>hc pins s1 σ H1 vs us Q I1 r1 q1) he gQ
end
end L2
namespace HT
open PySem PyProof.Rows
section
variable{prog:Program}{w:World}{A:Around}{E:Value->Shared->Prop}{s:Shared}
noncomputable def jk(n d:Nat):Option Int->Nat
 | none=>d
 | some v=>if v<0 then (v+(n:Int)).toNat else min v.toNat n
theorem mr(n d:Nat):jk n d none=d:=rfl
theorem hX(n d k:Nat):jk n d (some (k:Int))=min k n:=by
 show (if (k:Int)<0 then ((k:Int)+(n:Int)).toNat else min (k:Int).toNat n)=min k n
 rw[if_neg (),YQ]
theorem NG(n d:Nat)(hd:d<=n)(o:Option Int):jk n d o<=n:=by
 cases o with
 | none=>exact hd
 | some v=>
  show (if v<0 then (v+(n:Int)).toNat else min v.toNat n)<=n
  by_cases hv:v<0
  ·rw[if_pos hv];lia
  ·rw[if_neg hv];exact Nat.min_le_right _ _
end
end HT
namespace L2
open PySem PySem.Spec PyProof.Rows
abbrev TO:=St->Hp->(Option Int->Hp->Prop)->Prop
def PO(X:Cx)(e:Option Expr)(t:TO):Prop:=
 ∀(pins:List (Addr×Obj)) (s:Shared) (σ:St) (H:Hp) (Q:Option Int->Hp->Prop),Inv X pins σ H s->t σ H Q->
  wpAny (model X.prog X.w) X.A (evalPart e X.env) (λu s'=>∃o H',Inv X pins σ H' s'/\IsPart u o/\Q o H') X.xe s
def JW:TO:=λ_ H Q=>Q none H
def Su(t:TE):TO:=λσ H Q=>t σ H λx H1=>∃i,x= .int i/\Q (some i) H1
section
variable{X:Cx}{e:Expr}{te:TE}{lo hi:Option Expr}{tl th:TO}{pos p2:Pos}
theorem dE:PO X none JW:=by
 walk_at"h"
 rw[evalPart_none]
 exact wpAny_pure ⟨none,H,I,.none,h⟩
theorem bS(h:PE X e te):PO X (some e) (Su te):=by
 intro pins s σ H Q I hw
 rw[evalPart_some]
 refine cJ (h pins s σ H _ I hw) λu s1 ⟨x,H1,I1,r1,q1⟩=>?_
 obtain ⟨i,rfl,q⟩:=q1
 walk_at"4"
 exact ⟨some i,H1,I1,.int i t,q⟩
def UZ(X:Cx)(r:V->Option Int->Option Int->Hp->VK->Prop):Prop:=
 ∀(pins:List (Addr×Obj)) (s:Shared) (σ:St) (H:Hp) (x:V) (v vl vu:Value) (lo hi:Option Int) (sl:Addr) (Q:VK),Inv X pins σ H s->RelV x v->s.heap.IsSliceOf sl vl vu .none->IsPart vl lo->IsPart vu hi->r x lo hi H Q->
  ∃T id,typeLookup (.type T) "__getitem__"=pure (some (.builtin id))/\s.TypeIs v T/\wpAny (model X.prog X.w) X.A (getItem v (.ref sl)) (EP X pins σ Q) X.xe s
def tSl(r:V->Option Int->Option Int->Hp->VK->Prop)(te:TE)(tl th:TO):TE:=λσ H Q=>te σ H λx H1=>tl σ H1 λl H2=>th σ H2 λu H3=>r x l u H3 Q
theorem bZ{r:V->Option Int->Option Int->Hp->VK->Prop}(hr:UZ X r)(he:PE X e te)(hl:PO X lo tl)(hu:PO X hi th):PE X (.Subscript e (.Slice lo hi none p2) pos) (tSl r te tl th):=by
 walk_at"h"
 refine Subscript_ (cJ (he pins s σ H _ I h) λv s1 ⟨x,H1,I1,r1,q1⟩=>?_)
 refine wpAny_Slice (cJ (hl pins s1 σ H1 _ I1 q1) λvl s2 ⟨l,H2,I2,pl,q2⟩=>cJ (hu pins s2 σ H2 _ I2 q2) λvu s3 ⟨u,H3,I3,pu,q3⟩=>?_)
 rw[evalPart_none]
 walk_at"1"
 have I4:Inv X pins σ H3 { s3 with heap:=s3.heap.push { cls:= .type "slice",data:= .fields #[vl,vu,.none] } }:=I3.kept (t':=s3.toks) λb ob q=>YT _ q
 obtain ⟨T,id,hT,ht,hg⟩:=hr pins { s3 with heap:=s3.heap.push { cls:= .type "slice",data:= .fields #[vl,vu,.none] } } σ H3 x v vl vu l u s3.heap.objs.size Q I4 r1 (Heap.IsSliceOf.new ..) pl pu q3
 show wpAny (model X.prog X.w) X.A (subscriptTail e (.Slice lo hi none p2) v (.ref s3.heap.objs.size)) (EP X pins σ Q) X.xe { s3 with heap:=s3.heap.push { cls:= .type "slice",data:= .fields #[vl,vu,.none] } }
 exact tail_any (ops:=[.ref s3.heap.objs.size,v]) ht hT hg (by with_unfolding_all rfl)
noncomputable def tR(xs:List V)(lo hi:Option Int):List V:=(xs.drop (HT.jk (xs:) 0 lo)).take (HT.jk (xs:) (xs:) hi - HT.jk (xs:) 0 lo)
theorem yf(xs:List V)(lo hi:Option Int):(tR xs lo hi:)<=(xs:):=by
 unfold tR
 rw[Qas,Qa0]
 lia
end
noncomputable def Fq(n:Nat)(i:Int):Option Nat:=if 0<=i then (if i<n then some i.toNat else none) else if -(n:Int)<=i then some (i+n).toNat else none
noncomputable def tL{α:Type}(xs:List α)(i:Int):Option α:=(Fq (xs:) i).bind λj=>xs[j]?
theorem BP{n:Nat}{i:Int}{j:Nat}(h:Fq n i=some j):seqIndex? i n=some j/\j<n/\ -(n:Int)<=i/\i<n:=by
 unfold Fq at h
 by_cases h0:0<=i
 ·rw[if_pos h0]at h
  by_cases h1:i<n
  ·rw[if_pos h1]at h
   have e:i.toNat=j:=Qaj h
   exact ⟨by rw[seqIndex_of h0 h1,e],(),(),h1⟩
  ·rw[if_neg h1]at h;cases h
 ·rw[if_neg h0]at h
  by_cases h1: -(n:Int)<=i
  ·rw[if_pos h1]at h
   have e:(i+n).toNat=j:=Qaj h
   exact ⟨by rw[seqIndex_neg () h1,e],(),h1,()⟩
  ·rw[if_neg h1]at h;cases h
theorem vU{α:Type}{xs:List α}{i:Int}{v:α}(h:tL xs i=some v):∃j,seqIndex? i (xs:)=some j/\xs[j]? =some v/\j<(xs:)/\ -((xs:):Int)<=i/\i<(xs:):=by
 unfold tL at h
 cases e:Fq (xs:) i with
 | none=>rw[e]at h;cases h
 | some j=>
  rw[e]at h
  obtain ⟨h1,h2,h3,h4⟩:=BP e
  exact ⟨j,h1,h,h2,h3,h4⟩
theorem bY{α:Type}{xs:List α}{j:Nat}{v:α}(h:xs[j]? =some v):tL xs (j:Int)=some v:=by
 have hj:j<(xs:):=(NU.mp h).1
 have e:Fq (xs:) (j:Int)=some j:=by
  unfold Fq
  rw[if_pos (),if_pos ()];simp
 unfold tL;rw[e];exact h
theorem FN{α:Type}(xs:List α)(v:α):tL (xs++[v]) (-1)=some v:=by
 have hl:(xs++[v]:)=(xs:)+1:=by simp
 have e:Fq (xs++[v]:) (-1)=some (xs:):=by
  unfold Fq
  rw[hl,if_neg ∅,if_pos ()]
  congr 1
  lia
 unfold tL
 rw[e]
 show (xs++[v])[(xs:)]? =some v
 simp
def JX(b:Expr):Prop:=∀o i,subscripted b false o i=operate [o,i] (getItem o i)
def NH(X:Cx)(r:R2):Prop:=
 ∀(value slice:Expr) (pins:List (Addr×Obj)) (s:Shared) (σ:St) (H:Hp) (x y:V) (v u:Value) (Q:VK),Inv X pins σ H s->RelV x v->RelV y u->r x y H Q->
  subscripted slice false v u=operate [v,u] (getItem v u)->wpAny (model X.prog X.w) X.A (subscriptTail value slice v u) (EP X pins σ Q) X.xe s
def BQ(X:Cx)(id:String)(r:V->List V->Hp->VK->Prop):Prop:=
 ∀(pins:List (Addr×Obj)) (s:Shared) (σ:St) (H:Hp) (x:V) (xs:List V) (v:Value) (us:List Value) (Q:VK),Inv X pins σ H s->RelV x v->Vals xs us->r x xs H Q->
  wpAny (model X.prog X.w) X.A (call (.builtin id) (v::us)) (EP X pins σ Q) X.xe s
section
variable{X:Cx}{a b:Expr}{ta tb:TE}{pos:Pos}
theorem aN{r:R2}(hr:NH X r)(ha:PE X a ta)(hb:PE X b tb)(hs:JX b):PE X (.Subscript a b pos) (UX r ta tb):=by
 walk_at"h"
 exact Subscript_ (Ny ha hb I h λv u s2 x y H2 I2 rx ry q=>hr a b pins s2 σ H2 x y v u Q I2 rx ry q (hs _ _))
def Sv(K:Fr):R2:=λx y H Q=>∃p xs i v,x= .ref p/\y= .int i/\bf K H p xs/\tL xs i=some v/\Q v H
def Sw(K:Fr):R2:=λx y H Q=>∃p xs i v,x= .ref p/\y= .int i/\cu K H p xs/\tL xs i=some v/\Q v H
def WD:R2:=λx y H Q=>∃z i c,x= .str z/\y= .int i/\(z:)<=sizeLine/\tL z.cps.toList i=some c/\Q (.str ⟨#[c]⟩) H
theorem JY:NH X (Sv X.K):=by
 walk_at"P"
 obtain ⟨p,xs,i,z,rfl,rfl,hq,he,q⟩:=h
 cases rx
 obtain ⟨t,rfl⟩:=ry
 obtain ⟨its,r,pl,hz⟩:=I.list hq
 obtain ⟨j,h1,h2,h3,h4,h5⟩:=vU he
 obtain ⟨w,ew,yg⟩:=r.get h2
 have hl:=(r:)
 have hn:=fJ
 have fin:EP X pins σ Q w s:=⟨z,H,I,yg,q⟩
 by_cases h0:0<=i
 ·have hj:i.toNat=j:=by
   rw[seqIndex_of h0 h5]at h1
   exact Qaj h1
  exact item_listR pl.isList h0 () (by rw[hj];simpa using ew) fin hs
 ·have hj:(i+(its.toArray.size:Int)).toNat=j:=by
   rw[seqIndex_neg () h4]at h1
   rw[Qah, <-hl]
   exact Qaj h1
  exact subscriptTail_builtinR (x:=w) pl.isList.typeIs slot_list_getitem.lookup
   (wpAny_getItem_list_neg (Q:=λr s'=>r=w/\EP X pins σ Q r s') pl.isList () (by rw[Qah]<;>lia) () (by rw[hj];simpa using ew) ⟨rfl,fin⟩) hs
theorem NI:NH X (Sw X.K):=by
 walk_at"P"
 obtain ⟨p,xs,i,z,rfl,rfl,hq,he,q⟩:=h
 cases rx
 obtain ⟨t,rfl⟩:=ry
 obtain ⟨its,r,pl,hz⟩:=I.tuple hq
 obtain ⟨j,h1,h2,h3,h4,h5⟩:=vU he
 obtain ⟨w,ew,yg⟩:=r.get h2
 have hl:=(r:)
 have hn:=fJ
 have fin:EP X pins σ Q w s:=⟨z,H,I,yg,q⟩
 exact subscriptTail_builtinR (x:=w) pl.typeIs slot_tuple_getitem.lookup
  (getItem_tuple (j:=j) (Q:=λr s'=>r=w/\EP X pins σ Q r s') pl () () (by rw[Qah, <-hl];exact h1) (by simpa using ew) ⟨rfl,fin⟩) hs
theorem NJ:NH X WD:=by
 walk_at"P"
 obtain ⟨z,i,c,rfl,rfl,hz,he,q⟩:=h
 walk_at"g"
 walk_at"U"
 obtain ⟨j,h1,h2,h3,h4,h5⟩:=vU he
 have hl:(z.cps.toList:)=(z:):=by simp[Str.length]
 rw[hl]at h1 h4 h5
 have hn:=fJ
 exact tail_any (typeIs_str s z t) slot_str_getitem.lookup (getItem_str (c:=c) (by
  have e1:decide (i< -(2 ^ 63:Int))=false:=decide_eq_false ()
  have e2:decide (i ≥ 2 ^ 63)=false:=decide_eq_false ()
  rw[e1,e2,Qfy]) (by rw[h1];simpa using h2) ⟨.str ⟨#[c]⟩,H,I.tok _,⟨_,rfl⟩,q⟩) hs
theorem z9(its:List Value)(n j:Nat)(u:Value):Obj.mapSeq (·.setIfInBounds j u) { cls:= .type "list",data:= .seq its.toArray n }={ cls:= .type "list",data:= .seq (its.set j u).toArray n }:=by
 simp[Obj.mapSeq]
theorem Inv.lst{pins:List (Addr×Obj)}{σ:St}{H:Hp}{s:Shared}{p:Addr}{xs:List V}(I:Inv X pins σ H s)(h:H p=some (.lst xs)):
  ∃(its:List Value) (n:Nat),Vals xs its/\s.heap.get? p=some { cls:= .type "list",data:= .seq its.toArray n }/\(xs:)<=sizeLine:=by
 obtain ⟨z,its,n,r,e⟩:=I.cy p _ h
 exact ⟨its,n,r,e,z⟩
theorem Inv.NK{pins:List (Addr×Obj)}{σ:St}{H:Hp}{s:Shared}{p:Addr}{xs ys:List V}{its its':List Value}{n n':Nat}{f:Obj->Obj}(I:Inv X pins σ H s)(h:H p=some (.lst xs))
  (ho:s.heap.get? p=some { cls:= .type "list",data:= .seq its.toArray n }) (hf:f { cls:= .type "list",data:= .seq its.toArray n }={ cls:= .type "list",data:= .seq its'.toArray n' }) (r:Vals ys its') (hz:(ys:)<=sizeLine) (t:Nat):
  Inv X pins σ (upd H p (.lst ys)) { s with heap:=s.heap.update p f,toks:=t }:=by
 have e:(s.heap.update p f).get? p=some { cls:= .type "list",data:= .seq its'.toArray n' }:=by
  rw[Qb3 f ho (by rw[hf]<;>rfl),hf]
 refine I.write (x:=p) (e:=p) (by rw[h];trivial) (.inl rfl) (λb u hb q=>(Qbp _ _ (Ne.symm hb)).trans q) ⟨_,e⟩ ?_
 exact ⟨hz,its',n',r,e⟩
def Sx:V->V->V->Hp->(Hp->Prop)->Prop:=λo i v H Q=>∃p xs k j,o= .ref p/\i= .int k/\H p=some (.lst xs)/\Fq (xs:) k=some j/\Q (upd H p (.lst (xs.set j v)))
theorem set_list:R5 X Sx:=by
 intro pins s σ H o i v ov iv u Q I ro ri rv h
 obtain ⟨p,xs,k,j,rfl,rfl,hp,hj,q⟩:=h
 cases ro
 obtain ⟨t,rfl⟩:=ri
 obtain ⟨its,n,r,ho,hz⟩:=I.lst hp
 obtain ⟨h1,h2,h3,h4⟩:=BP hj
 have hl:=(r:)
 have hn:=fJ
 have I':Inv X pins σ (upd H p (.lst (xs.set j v))) { s with heap:=s.heap.update p (Obj.mapSeq (·.setIfInBounds j u)) }:=
  I.NK hp ho (z9 its n j u) (r.set rv j) (by rw[Qgc];exact hz) s.toks
 by_cases h0:0<=k
 ·have hk:k.toNat=j:=by
   rw[seqIndex_of h0 h4]at h1
   exact Qaj h1
  exact PySem.W.ki_setAt ho h0 () (by rw[Qah, <-hl];exact h4) (by rw[hk];exact ⟨_,I',q⟩)
 ·have hk:(k+(its.toArray.size:Int)).toNat=j:=by
   rw[seqIndex_neg () h3]at h1
   rw[Qah, <-hl]
   exact Qaj h1
  exact PySem.W.ki_setBack ho () (by rw[Qah, <-hl];exact h3) () (by rw[hk];exact ⟨_,I',q⟩)
theorem vV(lo hi:Option Int)(n:Nat):(sliceBounds lo hi none n).1=((HT.jk n 0 lo:Nat):Int)/\(sliceBounds lo hi none n).2.1=((HT.jk n n hi:Nat):Int)/\(sliceBounds lo hi none n).2.2=1:=by
 refine ⟨?_,?_,rfl⟩
 ·cases lo with
  | none=>simp[sliceBounds,HT.jk]
  | some i=>
   simp only[sliceBounds,HT.jk,Option.getD_none,show (1:Int)>0 by decide,if_true]
   by_cases h:i<0
   ·simp only[h,if_true]<;>lia
   ·simp only[h,if_false]<;>lia
 ·cases hi with
  | none=>simp[sliceBounds,HT.jk]
  | some i=>
   simp only[sliceBounds,HT.jk,Option.getD_none,show (1:Int)>0 by decide,if_true]
   by_cases h:i<0
   ·simp only[h,if_true]<;>lia
   ·simp only[h,if_false]<;>lia
theorem tT(its:List Value)(lo hi:Option Int):slicePick its.toArray lo hi none=((its.drop (HT.jk (its:) 0 lo)).take (HT.jk (its:) (its:) hi - HT.jk (its:) 0 lo)).toArray:=by
 obtain ⟨h1,h2,h3⟩:=vV lo hi its.toArray.size
 unfold slicePick
 rw[h1,h2,h3]
 simp only[sliceRange_one,pick_run,Qah]<;>rfl
def Sy(K:Fr):V->Option Int->Option Int->Hp->VK->Prop:=λx lo hi H Q=>∃a xs,x= .ref a/\bf K H a xs/\∀p,H p=none->Q (.ref p) (upd H p (.lst (tR xs lo hi)))
theorem JZ:UZ X (Sy X.K):=by
 intro pins s σ H x v vl vu lo hi sl Q I rx hs pl pu h
 obtain ⟨a,xs,rfl,hx,q⟩:=h
 cases rx
 obtain ⟨its,r,ht,hz⟩:=I.list hx
 have hlen:=(r:)
 refine ⟨"list",_,slot_list_getitem.lookup,ht.isList.typeIs,?_⟩
 refine wpAny_getItem_list_slice ht.isList hs pl pu .none (by simp) ?_ (by rw[Qah]<;>lia)
 rw[tT, <-hlen]
 refine ⟨.ref s.heap.objs.size,_,I.laid (t':=s.toks) (o:= .lst (tR xs lo hi)) (λb ob q=>YT _ q) (YS _) ?_,rfl,q _ (I.cy.fresh (YS _))⟩
 exact ⟨Qbf (yf xs lo hi) hz,_,0,(r.drop (HT.jk (xs:) 0 lo)).take (HT.jk (xs:) (xs:) hi - HT.jk (xs:) 0 lo),Qat _ rfl⟩
noncomputable def lh:V->Bool
 | .gE=>true
 | .bl _=>true
 | .int _=>true
 | .str _=>true
 | _=>false
noncomputable def Jq:V->V->Bool
 | .gE,.gE=>true
 | .bl a,.bl b=>a==b
 | .bl a,.int b=>(if a then 1 else 0)==b
 | .int a,.bl b=>a==(if b then 1 else 0)
 | .int a,.int b=>a==b
 | .str a,.str b=>a==b
 | _,_=>false
theorem NL{A:Around}{s:Shared}{y x:V}{u v:Value}(ry:RelV y u)(rx:RelV x v)(fy:lh y=true)(fx:lh x=true):SeqAt.EqAt A s u v (Jq y x):=by
 cases y with
 | gE=>
  cases ry
  cases x with
  | gE=>cases rx;exact SeqAt.EqAt.same _
  | bl b=>cases rx;exact SeqAt.EqAt.none_bool b
  | int b=>obtain ⟨t,rfl⟩:=rx;exact SeqAt.EqAt.none_int b t
  | str b=>obtain ⟨t,rfl⟩:=rx;exact SeqAt.EqAt.none_str b t
  | _=>exact absurd (show false=true from fx) Qap
 | bl a=>
  cases ry
  cases x with
  | gE=>cases rx;exact SeqAt.EqAt.bool_none a
  | bl b=>cases rx;exact SeqAt.EqAt.bool_bool a b
  | int b=>obtain ⟨t,rfl⟩:=rx;exact SeqAt.EqAt.bool_int a b t
  | str b=>obtain ⟨t,rfl⟩:=rx;exact SeqAt.EqAt.bool_str a b t
  | _=>exact absurd (show false=true from fx) Qap
 | int a=>
  walk_at"U"
  cases x with
  | gE=>cases rx;exact SeqAt.EqAt.int_none a t'
  | bl b=>cases rx;exact SeqAt.EqAt.int_bool a t' b
  | int b=>obtain ⟨t,rfl⟩:=rx;exact SeqAt.EqAt.int_int a t' b t
  | str b=>obtain ⟨t,rfl⟩:=rx;exact SeqAt.EqAt.int_str a t' b t
  | _=>exact absurd (show false=true from fx) Qap
 | str a=>
  walk_at"U"
  cases x with
  | gE=>cases rx;exact SeqAt.EqAt.str_none a t'
  | bl b=>cases rx;exact SeqAt.EqAt.str_bool a t' b
  | int b=>obtain ⟨t,rfl⟩:=rx;exact SeqAt.EqAt.str_int a t' b t
  | str b=>obtain ⟨t,rfl⟩:=rx;exact SeqAt.EqAt.str_str a t' b t
  | _=>exact absurd (show false=true from fx) Qap
 | _=>exact absurd (show false=true from fy) Qap
noncomputable def yh(x:V)(u:Value):Bool:=match u with
 | .none=>Jq .gE x
 | .bool b=>Jq (.bl b) x
 | .int i _=>Jq (.int i) x
 | .str z _=>Jq (.str z) x
 | _=>false
theorem z_{x y:V}{u:Value}(r:RelV y u)(f:lh y=true):yh x u=Jq y x:=by
 cases y with
 | gE=>cases r;rfl
 | bl b=>cases r;rfl
 | int i=>obtain ⟨t,rfl⟩:=r;rfl
 | str z=>obtain ⟨t,rfl⟩:=r;rfl
 | _=>exact absurd (show false=true from f) Qap
theorem mw{x:V}:∀{xs:List V} {us:List Value},Vals xs us->xs.all lh=true->us.any (yh x)=xs.any λy=>Jq y x
 | _,_,.nil,_=>rfl
 | y::xs,u::us,.cons r t,f=>by
  rw[List.all_cons,Qbt]at f
  rw[Qct,Qct,z_ r f.1,mw t f.2]
theorem iL{A:Around}{s:Shared}{x:V}{v:Value}(rx:RelV x v)(fx:lh x=true):∀{xs:List V} {us:List Value},Vals xs us->xs.all lh=true->∀u∈us,SeqAt.EqAt A s u v (yh x u)
 | _,_,.nil,_=>λu hu=>by cases hu
 | y::xs,u::us,.cons r t,f=>λu' hu=>by
  rw[List.all_cons,Qbt]at f
  rcases Qak.mp hu with rfl | hu
  ·rw[z_ r f.1];exact NL r rx f.1 fx
  ·exact iL rx fx t f.2 u' hu
noncomputable def Fs(x:V)(xs:List V):Bool:=xs.any λy=>Jq y x
def U0(K:Fr)(neg:Bool):R2:=λx y H Q=>∃p xs,y= .ref p/\(bf K H p xs\/cu K H p xs)/\lh x=true/\xs.all lh=true/\Q (.bl (if neg then !Fs x xs else Fs x xs)) H
theorem DS:js X (compareOp .In) (U0 X.K false):=by
 walk_at"b"
 obtain ⟨p,xs,rfl,hq,fx,fs,q⟩:=h
 cases ry
 rcases hq with hq | hq
 ·obtain ⟨its,r,pl,hz⟩:=I.list hq
  refine SeqAt.in_listAt (yh x) pl.isList (λw hw=>iL rx fx r fs w (by simpa using hw)) ⟨.bl _,H,I,rfl,?_⟩
  walk_at"B"
  exact q
 ·obtain ⟨its,r,pl,hz⟩:=I.tuple hq
  refine SeqAt.in_tupleAt (yh x) pl (λw hw=>iL rx fx r fs w (by simpa using hw)) ⟨.bl _,H,I,rfl,?_⟩
  walk_at"B"
  exact q
theorem vW:js X (compareOp .NotIn) (U0 X.K true):=by
 walk_at"b"
 obtain ⟨p,xs,rfl,hq,fx,fs,q⟩:=h
 cases ry
 rcases hq with hq | hq
 ·obtain ⟨its,r,pl,hz⟩:=I.list hq
  refine SeqAt.notIn_listAt (yh x) pl.isList (λw hw=>iL rx fx r fs w (by simpa using hw)) ⟨.bl _,H,I,rfl,?_⟩
  walk_at"B"
  exact q
 ·obtain ⟨its,r,pl,hz⟩:=I.tuple hq
  refine SeqAt.notIn_tupleAt (yh x) pl (λw hw=>iL rx fx r fs w (by simpa using hw)) ⟨.bl _,H,I,rfl,?_⟩
  walk_at"B"
  exact q
theorem vX:dM X (.builtin "len") (λxs H Q=>∃p ys,xs=[.ref p]/\(bf X.K H p ys\/cu X.K H p ys)/\Q (.int (ys:)) H):=by
 walk_at"f"
 obtain ⟨p,ys,rfl,hq,q⟩:=h
 obtain ⟨u,rfl,rx⟩:=vals1 r
 cases rx
 have hn:=fJ
 rcases hq with hq | hq
 ·obtain ⟨its,r',pl,hz⟩:=I.list hq
  have hlen:=(r':)
  exact Calls.call_len_list pl.isList (by simp only[Qah]<;>lia) ⟨.int (ys:),H,I.tok _,⟨s.toks+1,by rw[Qah,hlen]⟩,q⟩
 ·obtain ⟨its,r',pl,hz⟩:=I.tuple hq
  have hlen:=(r':)
  exact len_tuple pl (by simp only[Qah]<;>lia) ⟨.int (ys:),H,I.tok _,⟨s.toks+1,by rw[Qah,hlen]⟩,q⟩
theorem vY:dM X (.builtin "len") (λxs H Q=>∃z,xs=[.str z]/\(z:)<=sizeLine/\Q (.int (z:)) H):=by
 walk_at"f"
 obtain ⟨z,rfl,hz,q⟩:=h
 obtain ⟨u,rfl,t,rfl⟩:=vals1 r
 have hn:=fJ
 exact len_str () ⟨.int (z:),H,I.tok _,⟨_,rfl⟩,q⟩
theorem vZ:dM X (.type "list") (λxs H Q=>∃p ys,xs=[.ref p]/\(bf X.K H p ys\/cu X.K H p ys)/\∀l,H l=none->Q (.ref l) (upd H l (.lst ys))):=by
 walk_at"f"
 obtain ⟨p,ys,rfl,hq,q⟩:=h
 obtain ⟨u,rfl,rx⟩:=vals1 r
 cases rx
 have fin:∀(its:List Value),Vals ys its->(ys:)<=sizeLine->∀(h':Heap) (c':Nat),(∀b o',s.heap.get? b=some o'->h'.get? b=some o')->
   h'.get? s.heap.objs.size=some { cls:= .type "list",dict:=none,data:= .seq its.toArray c',slots:= #[] }->EP X pins σ Q (.ref s.heap.objs.size) { s with heap:=h' }:=λits r' hz h' c' kp e=>
  ⟨.ref s.heap.objs.size,_,I.laid (t':=s.toks) kp (YS _) (show cM X.prog X.w _ h' _ (.lst ys) from ⟨hz,its,c',r',e⟩),rfl,q _ (I.cy.fresh (YS _))⟩
 rcases hq with hq | hq
 ·obtain ⟨its,r',pl,hz⟩:=I.list hq
  have hlen:=(r':)
  obtain ⟨o,ho,hc,n,hd⟩:=pl.isList
  exact call_list_seq p (.inl rfl) ho hc hd (λh' c' kp e=>fin its r' hz h' c' kp e) (by simp only[Qah]<;>lia)
 ·obtain ⟨its,r',pl,hz⟩:=I.tuple hq
  have hlen:=(r':)
  obtain ⟨o,ho,hc,n,hd⟩:=pl
  exact call_list_seq p (.inr rfl) ho hc hd (λh' c' kp e=>fin its r' hz h' c' kp e) (by simp only[Qah]<;>lia)
theorem tV:dM X (.type "tuple") (λxs H Q=>∃p ys,xs=[.ref p]/\((bf X.K H p ys/\∀l,H l=none->Q (.ref l) (upd H l (.tup ys)))\/(cu X.K H p ys/\Q (.ref p) H))):=by
 walk_at"f"
 obtain ⟨p,ys,rfl,h⟩:=h
 obtain ⟨u,rfl,rx⟩:=vals1 r
 cases rx
 rcases h with ⟨hq,q⟩ | ⟨hq,q⟩
 ·obtain ⟨its,r',pl,hz⟩:=I.list hq
  have hlen:=(r':)
  refine call_tuple_list pl.isList (λh' kp=>?_) (by simp only[Qah]<;>lia)
  have I1:Inv X pins σ H { s with heap:=h' }:=I.kept (t':=s.toks) kp
  have I2:Inv X pins σ (upd H h'.objs.size (.tup ys)) { s with heap:=h'.push { cls:= .type "tuple",data:= .seq its.toArray } }:=
   I1.laid (t':=s.toks) (λb o e=>YT _ e) (YS _) (show cM X.prog X.w _ _ _ (.tup ys) from ⟨hz,its,r',IsTup.new _ _⟩)
  exact ⟨.ref h'.objs.size,_,I2,rfl,q _ (I1.cy.fresh (YS _))⟩
 ·obtain ⟨its,r',pl,hz⟩:=I.tuple hq
  exact call_tuple_same pl ⟨.ref p,H,I,rfl,q⟩
def WE(K:Fr)(T:String)(x:V)(H:Hp):Prop:=match x with
 | .str _=>T="str"
 | .int _=>T="int"
 | .ref p=>(T="list"/\∃xs,bf K H p xs)\/(T="tuple"/\∃o,K.lookup p=some o/\o.cls= .type "tuple"/\o.dict=none)\/
   (T="dict"/\((∃aL,H p=some (.dK aL))\/∃aL,H p=some (.dT aL)))\/(T="set"/\∃S n,H p=some (.set S n))
 | _=>False
theorem FO{pins:List (Addr×Obj)}{σ:St}{H:Hp}{s:Shared}{T:String}{x:V}{v:Value}(I:Inv X pins σ H s)(r:RelV x v)(ty:WE X.K T x H):
  s.TypeIs v T/\∀a,v= .ref a->∃ob,s.heap.get? a=some ob/\ob.dict=none:=by
 cases x with
 | str z=>
  obtain ⟨t,rfl⟩:=r
  cases (show T="str" from ty)
  exact ⟨typeIs_str s z t,λ_ e=>nomatch e⟩
 | int i=>
  obtain ⟨t,rfl⟩:=r
  cases (show T="int" from ty)
  exact ⟨typeIs_int s i t,λ_ e=>nomatch e⟩
 | ref p=>
  cases r
  rcases ty with ⟨rfl,xs,hq⟩ | ⟨rfl,o,hk,hc,hd⟩ | ⟨rfl,hk⟩ | ⟨rfl,S,n,hk⟩
  ·obtain ⟨its,_,pl,_⟩:=I.list hq
   refine ⟨pl.isList.typeIs,λa e=>?_⟩
   cases e
   obtain ⟨o,n,e,c,hd,_⟩:=pl
   exact ⟨o,e,hd⟩
  ·refine ⟨⟨o,I.DE p o hk,hc⟩,λa e=>?_⟩
   cases e
   exact ⟨o,I.DE _ o hk,hd⟩
  ·have z:∃o,s.heap.get? p=some o/\o.ExactDict:=by
    rcases hk with ⟨aL,hk⟩ | ⟨aL,hk⟩
    ·obtain ⟨_,_,_,_,o,_,_,e,ex,_⟩:=I.cy p _ hk
     exact ⟨o,e,ex⟩
    ·obtain ⟨_,_,_,_,o,_,_,e,ex,_⟩:=I.cy p _ hk
     exact ⟨o,e,ex⟩
   obtain ⟨o,e,ex⟩:=z
   refine ⟨⟨o,e,ex.1⟩,λa e2=>?_⟩
   cases e2
   exact ⟨o,e,ex.2.1⟩
  ·obtain ⟨o,_,_,_,e,ex,_⟩:=I.cy p _ hk
   refine ⟨⟨o,e,ex.1⟩,λa e2=>?_⟩
   cases e2
   exact ⟨o,e,ex.2.1⟩
 | _=>exact False.elim ty
def Sz(K:Fr)(T:String)(r:V->List V->Hp->VK->Prop)(to:TE):TE:=λσ H Q=>to σ H λx H1=>WE K T x H1/\r x [] H1 Q
def YL(K:Fr)(T:String)(r:V->List V->Hp->VK->Prop)(to:TE)(t:TA):TE:=λσ H Q=>to σ H λx H1=>WE K T x H1/\t σ H1 λxs H2=>r x xs H2 Q
variable{o e:Expr}{es:List Expr}{to:TE}{t:TA}{name:Str}{apos jt:Pos}{T id:String}{r:V->List V->Hp->VK->Prop}
theorem NM(pa:PlainAttrs T)(slot:Slot T name id)(NN:typeOf (.builtin id)=pure (.type "method_descriptor"))(hm:BQ X id r)(ho:PE X o to)
  (qM:attributeBase o name X.env (eval o X.env)=eval o X.env:=by rfl) (pb:(apos.endLine==jt.line)=true:=by rfl):PE X (.Call (.Attribute o name apos) [] [] jt) (Sz X.K T r to):=by
 walk_at"h"
 refine wpAny_Call_method0_late qM pb (cJ (ho pins s σ H _ I h) λv s1 ⟨x,H1,I1,r1,ty,q1⟩=>?_)
 obtain ⟨h1,h2⟩:=FO I1 r1 ty
 exact ⟨T,id,pa,slot,NN,h1,h2,Calls.callWith_builtin rfl (PySem.evalArgs_none (hm pins s1 σ H1 x [] v [] Q I1 r1 .nil q1))⟩
theorem SA(pa:PlainAttrs T)(slot:Slot T name id)(NN:typeOf (.builtin id)=pure (.type "method_descriptor"))(hm:BQ X id r)(ho:PE X o to)(ha:PA X (e::es) t)
  (qM:attributeBase o name X.env (eval o X.env)=eval o X.env:=by rfl)
  (NO:((backTo jt (starEach (e::es) X.env)).all (λx=>!x.1)&&(backToKw jt (keywordEach [] X.env)).all (λx=>x.1.isSome)
   &&decide (((e::es):)+(([]:List Keyword):)+(if ([]:List Keyword).isEmpty then 0 else 1)<30))=true:=by rfl)
  (pb:(apos.endLine==jt.line)=true:=by rfl) (hs:starEach (e::es) X.env=(false,eval e X.env)::starEach es X.env:=by rfl) (Aa:(backTo jt (starEach es X.env)).any (·.1)=false:=by rfl):
  PE X (.Call (.Attribute o name apos) (e::es) [] jt) (YL X.K T r to t):=by
 walk_at"h"
 refine wpAny_Call_method_late qM NO pb rfl (cJ (ho pins s σ H _ I h) λv s1 ⟨x,H1,I1,r1,ty,q1⟩=>?_)
 obtain ⟨h1,h2⟩:=FO I1 r1 ty
 refine ⟨T,id,pa,slot,NN,h1,h2,?_⟩
 have hA:=ha jt pins s1 σ H1 _ I1 q1
 rw[hs]at hA ⊢
 refine Calls.callWith_builtin (by show (false||(backTo jt (starEach es X.env)).any (·.1))=false;rw[Aa]<;>rfl) (Calls.evalArgs_plain ?_)
 exact cJ hA λus s2 ⟨vs,H2,I2,r2,q2⟩=>hm pins s2 σ H2 x vs v us Q I2 r1 r2 q2
end
def Qh(X:Cx)(id:String)(r:V->List V->Hp->VK->Prop):Prop:=
 ∀(pins:List (Addr×Obj)) (s:Shared) (σ:St) (H:Hp) (x:V) (xs:List V) (v:Value) (us:List Value) (Q:VK),Inv X pins σ H s->RelV x v->Vals xs us->r x xs H Q->
  wpAny (model X.prog X.w) X.A (call (.builtin id) (v::us)) (EP X pins σ Q) X.xe s
theorem Vals.one:∀{x:V} {us:List Value},Vals [x] us->∃u,us=[u]/\RelV x u
 | _,_,.cons r .nil=>⟨_,rfl,r⟩
theorem Vals.zero:∀{us:List Value},Vals [] us->us=[]
 | _,.nil=>rfl
theorem Vals.dropLast{xs:List V}{us:List Value}(h:Vals xs us):Vals xs.dropLast us.dropLast:=by
 induction h with
 | nil=>exact .nil
 | cons r t ih=>
  cases t with
  | nil=>exact .nil
  | cons q t'=>exact .cons r ih
theorem Vals.eraseIdx:∀{xs:List V} {us:List Value} (i:Nat),Vals xs us->Vals (xs.eraseIdx i) (us.eraseIdx i)
 | _,_,_,.nil=> .nil
 | _,_,0,.cons _ t=>t
 | _,_,i+1,.cons r t=> .cons r (Vals.eraseIdx i t)
theorem Vals.reverse{xs:List V}{us:List Value}(h:Vals xs us):Vals xs.reverse us.reverse:=by
 induction h with
 | nil=>exact .nil
 | cons r t ih=>rw[List.reverse_cons,List.reverse_cons];exact Vals.append ih (.cons r .nil)
theorem Ab{α:Type}(l:List α):l.eraseIdx ((l:) - 1)=l.dropLast:=by
 induction l with
 | nil=>rfl
 | cons a r ih=>
  cases r with
  | nil=>rfl
  | cons b r=>
   have e:((a::b::r):) - 1=(((b::r):) - 1)+1:=by
    have h1:((a::b::r):)=(r:)+2:=rfl
    have h2:((b::r):)=(r:)+1:=rfl
    lia
   rw[e,Qd4,ih]
   all_goals rfl
theorem uL{α:Type}:∀(l:List α) (i:Nat),(l.eraseIdx i:)<=(l:)
 | [],_=>YS _
 | _::_,0=>Qc0 _
 | _::r,i+1=>Qc1 (uL r i)
section
variable{X:Cx}{pins:List (Addr×Obj)}{σ:St}{H:Hp}{s:Shared}{l b:Addr}{xs ys zs:List V}
theorem Inv.DT{its its':List Value}{n:Nat}{f:Array Value->Array Value}{t':Nat}(I:Inv X pins σ H s)(hH:H l=some (.lst xs))
  (e:s.heap.get? l=some { cls:= .type "list",data:= .seq its.toArray n }) (hf:f its.toArray=its'.toArray) (hv:Vals ys its') (hz:(ys:)<=sizeLine):
  Inv X pins σ (upd H l (.lst ys)) { s with heap:=s.heap.update l (Obj.mapSeq f),toks:=t' }:=by
 have q:=PySem.IsL.update e f
 rw[hf]at q
 refine I.write (x:=l) (e:=l) (by rw[hH];exact trivial) (.inl rfl) (λb' u hb hu=>(Qbp s.heap (Obj.mapSeq f) (Ne.symm hb)).trans hu) ⟨_,q⟩ ?_
 exact ⟨hz,its',_,hv,q⟩
theorem Inv.WG{its:List Value}{t':Nat}(I:Inv X pins σ H s)(hv:Vals ys its)(hz:(ys:)<=sizeLine):
  Inv X pins σ (upd H s.heap.objs.size (.lst ys)) { s with heap:=s.heap.push { cls:= .type "list",data:= .seq its.toArray },toks:=t' }:=
 I.laid (λ_ _ q=>YT _ q) (YS _) ⟨hz,its,0,hv,Qat _ rfl⟩
theorem Inv.fresh(I:Inv X pins σ H s):H s.heap.objs.size=none:=I.cy.fresh (YS _)
theorem Inv.tW(I:Inv X pins σ H s)(hH:H l=some (.lst xs)):(xs:)<=sizeLine/\∃(its:List Value) (n:Nat),Vals xs its/\(xs:)=(its:)/\s.heap.get? l=some { cls:= .type "list",data:= .seq its.toArray n }:=by
 obtain ⟨z,its,n,r,e⟩:=I.cy l _ hH
 exact ⟨z,its,n,r,(r:),e⟩
theorem FQ{n:Nat}(h:n<=sizeLine):Builtin.List.listTooLong n=false:=by
 unfold Builtin.List.listTooLong
 exact decide_eq_false ()
end
section
variable{X:Cx}
def J0:V->List V->Hp->VK->Prop:=λx vs H Q=>∃l xs y,x= .ref l/\vs=[y]/\H l=some (.lst xs)/\(xs:)<sizeLine/\Q .gE (upd H l (.lst (xs++[y])))
theorem cG:Qh X "list.append" J0:=by
 walk_at"u"
 obtain ⟨l,xs,y,rfl,rfl,hH,hz,q⟩:=h
 cases rx
 obtain ⟨u,rfl,ru⟩:=rv.one
 walk_at"r"
 refine call_meets F.slot_list_append ⟨_,e,rfl⟩ F.entry_list_append (F.args_list_append_2 _ _) (PySem.list_append l its.toArray n u (by rw[Qah];lia)) ⟨e,?_⟩
 refine ⟨.gE,_,I.DT (its':=its++[u]) hH e (by simp) (r.append (.cons ru .nil)) ?_,rfl,q⟩
 rw[U3,List.length_singleton]
 lia
def J1:V->List V->Hp->VK->Prop:=λx vs H Q=>∃l b xs zs,x= .ref l/\vs=[.ref b]/\H l=some (.lst xs)/\H b=some (.lst zs)/\(xs:)+(zs:)<=sizeLine/\Q .gE (upd H l (.lst (xs++zs)))
theorem kD:Qh X "list.extend" J1:=by
 walk_at"u"
 obtain ⟨l,b,xs,zs,rfl,rfl,hH,hB,hz,q⟩:=h
 cases rx
 obtain ⟨u,rfl,ru⟩:=rv.one
 cases ru
 walk_at"r"
 obtain ⟨z2,yi,n2,r2,jK,e2⟩:=I.tW hB
 have hsz:its.toArray.size+yi.toArray.size<=sizeLine:=by rw[Qah,Qah];lia
 have SD: ¬(!its.toArray.isEmpty&&Builtin.List.listTooLong (its.toArray.size+yi.toArray.size))=true:=by
  rw[FQ hsz,Qfq]
  exact Qap
 refine call_meets F.slot_list_extend ⟨_,e,rfl⟩ F.entry_list_extend (F.args_list_extend_2 _ _)
  (AutoSeq1.list_extend_list_list_0 l its.toArray n b yi.toArray n2 SD (by rw[Qah];lia) ()) ⟨e,e2,?_⟩
 refine ⟨.gE,_,I.DT (its':=its++yi) hH e (by simp) (r.append r2) ?_,rfl,q⟩
 rw[U3]
 lia
def WH:V->List V->Hp->VK->Prop:=λx vs H Q=>∃l xs y,x= .ref l/\vs=[]/\H l=some (.lst xs)/\xs[(xs:) - 1]? =some y/\Q y (upd H l (.lst xs.dropLast))
theorem NP:Qh X "list.pop" WH:=by
 walk_at"u"
 obtain ⟨l,xs,y,rfl,rfl,hH,hy,q⟩:=h
 cases rx
 have ju:=rv.zero
 subst ju
 walk_at"r"
 obtain ⟨u,hu,ru⟩:=r.get hy
 have hy':its.toArray[its.toArray.size - 1]? =some u:=by
  show its.toArray[(its:) - 1]? =some u
  rw[<-Array.getElem?_toList, <-hl]
  exact hu
 refine call_meets F.slot_list_pop ⟨_,e,rfl⟩ F.entry_list_pop (F.args_list_pop_1 _) (MeetsSeq.list_pop_last l its.toArray n u hy' (by rw[Qah];lia)) ⟨e,?_⟩
 refine ⟨y,_,I.DT (its':=its.dropLast) hH e ?_ r.dropLast ?_,ru,q⟩
 ·show its.toArray.eraseIdxIfInBounds (its.toArray.size - 1)=its.dropLast.toArray
  rw[Qah,List.eraseIdxIfInBounds_toArray,Ab]
 ·rw[List.length_dropLast]
  lia
def NQ:V->List V->Hp->VK->Prop:=λx vs H Q=>∃l xs i k y,x= .ref l/\vs=[.int i]/\H l=some (.lst xs)/\ -(2 ^ 63)<=i/\i<2 ^ 63/\seqIndex? i (xs:)=some k/\xs[k]? =some y/\Q y (upd H l (.lst (xs.eraseIdx k)))
theorem mz:Qh X "list.pop" NQ:=by
 walk_at"u"
 obtain ⟨l,xs,i,k,y,rfl,rfl,hH,h1,h2,hk,hy,q⟩:=h
 cases rx
 obtain ⟨u,rfl,ru⟩:=rv.one
 obtain ⟨t,rfl⟩:=ru
 walk_at"r"
 obtain ⟨w,hw,yg⟩:=r.get hy
 refine call_meets F.slot_list_pop ⟨_,e,rfl⟩ F.entry_list_pop (F.args_list_pop_2 _ _)
  (MeetsSeq.list_pop_at l its.toArray n i t k w (fitsIndex_both h1 h2) (by rw[Qah, <-hl];exact hk) (by rw[<-Array.getElem?_toList];exact hw) (by rw[Qah];lia)) ⟨e,?_⟩
 refine ⟨y,_,I.DT (its':=its.eraseIdx k) hH e ?_ (r.eraseIdx k) ?_,yg,q⟩
 ·show its.toArray.eraseIdxIfInBounds k=(its.eraseIdx k).toArray
  rw[List.eraseIdxIfInBounds_toArray]
 ·have:=uL xs k
  lia
def FR:V->List V->Hp->VK->Prop:=λx vs H Q=>∃l xs,x= .ref l/\vs=[]/\H l=some (.lst xs)/\Q .gE (upd H l (.lst xs.reverse))
theorem Ac:Qh X "list.reverse" FR:=by
 walk_at"u"
 obtain ⟨l,xs,rfl,rfl,hH,q⟩:=h
 cases rx
 have ju:=rv.zero
 subst ju
 walk_at"r"
 refine call_meets F.slot_list_reverse ⟨_,e,rfl⟩ F.entry_list_reverse (F.args_list_reverse_1 _) (AutoSeq1.list_reverse_list_0 l its.toArray n (by rw[Qah];lia)) ⟨e,?_⟩
 refine ⟨.gE,_,I.DT (its':=its.reverse) hH e (by simp) r.reverse ?_,rfl,q⟩
 rw[Qbb]
 lia
def WI:R2:=λx y H Q=>∃l b xs zs,x= .ref l/\y= .ref b/\H l=some (.lst xs)/\H b=some (.lst zs)/\(xs:)+(zs:)<=sizeLine/\∀p,H p=none->Q (.ref p) (upd H p (.lst (xs++zs)))
theorem FT:js X (binaryOp .Add) WI:=by
 walk_at"b"
 obtain ⟨l,b,xs,zs,rfl,rfl,hH,hB,hz,q⟩:=h
 cases rx
 cases ry
 walk_at"r"
 obtain ⟨z2,yi,n2,r2,jK,e2⟩:=I.tW hB
 refine PySem.P.add_list e e2 ?_ (by rw[Qah,Qah];lia)
 have ea:its.toArray++yi.toArray=(its++yi).toArray:=by simp
 rw[ea]
 exact ⟨.ref _,_,I.WG (t':=s.toks) (r.append r2) (by rw[U3];lia),rfl,q _ I.fresh⟩
end
end L2
namespace YM
open PySem PySem.W PySem.Calls PyProof.Rows
theorem pX{P:Params}{h:Heap}:∀(ns:List Int) (vs:List Value),WellAll P h vs (ns.map WData.int)->IntsAre vs ns:=by
 intro ns
 induction ns with
 | nil=>
  intro vs w
  rw[List.map_nil]at w
  cases w
  exact .nil
 | cons n ns ih=>
  intro vs w
  rw[Qav]at w
  cases w with
  | cons a b=>
   cases a
   exact .cons _ _ (ih _ b)
theorem DU{l:OpenLaw}{n:Nat}(hn:l.most=some n){P:Params}{h:Heap}{args:List WData}{vals:List Value}
  (J2:l.row.toRowW.claim.pre args=true) (Ad:WellAll P h vals args):
  ∃a vs ns,vals=[Value.ref a]/\args=[WData.list (ns.map WData.int)]/\h.get? a=some { cls:= .type "list",data:= .seq vs.toArray }/\IntsAre vs ns/\(ns:)<=n:=by
 have hsh:WShape.hasAll [] args [.list .int]=true:=(pre_splitW J2).1
 have hc:l.pre.holds [] { args:=args }=true:=(pre_splitW J2).2
 obtain ⟨d,r,rfl,h1,h2⟩:=hasAllW_cons hsh
 obtain rfl:=hasAllW_nil h2
 obtain ⟨xs,rfl,h3⟩:=hasW_list h1
 obtain ⟨ns,rfl⟩:=items_int h3
 have hlen:(ns:)<=n:=by
  unfold OpenLaw.pre at hc
  have h4:(WTm.not (.lt (.lit (.int (n:Int))) (.len (.arg 0)))).holds [] { args:=[.list (ns.map .int)] }=true:=by
   have h4:=(holds_andW hc).1
   rw[hn]at h4
   exact h4
  have h5:=condW_of h4 (w_not (w_lt w_lit (w_len_list (w_arg rfl))))
  rw[Qi]at h5
  refine Nat.le_of_not_lt λq=>?_
  have q':(n:Int)<(((ns:):Nat):Int):=by lia
  first
   |(rw[decide_eq_true q']at h5;exact absurd h5 ∅)
   |(simp at h5;lia)
 cases Ad with
 | cons w1 w2=>
  cases w2
  cases w1 with
  | list ho yj=>exact ⟨_,_,ns,rfl,rfl,ho,pX ns _ yj,hlen⟩
theorem DV(l:OpenLaw)(args:List WData):l.row.toRowW.claim.post args (.bool true) args=true:=
 postW_of (r:=l.row.toRowW) (X:=(true==true))
  (show WShape.has [] (.bool true) .bool=true by first | rfl | decide | simp[WShape.has,WShape.arms,WShape.armsAll])
  (show (WTm.eq .res (.lit (.bool true))).value [] { args:=args,res:=some (.bool true),after:=args }=some (.bool (true==true)) from w_eq_bool (w_res rfl) w_lit) rfl
theorem yk{l:OpenLaw}{n:Nat}{q:Program}{loose:List Str}{XP:(Str->Option Value)->Heap->Prop}{YP:World->Heap->Prop}{d:DefRec}
  (hn:l.most=some n) (SE:d.params.defaults=[])
  (call:∀(w:World) (s₀ s₁:Shared) (mg mb:Str->Option Value) (fa:Addr) (o:Obj) (pm cd doc:Value) (a:Addr) (vs:List Value) (ns:List Int),
   Ground q loose [] XP w s₀ mg mb s₁.heap->YP w s₁.heap->
   s₁.heap.get? fa=some o->o.data= .func (docDef d.name d.params d.body d.scope pm cd doc)->s₁.heap.CodeRec cd d.name->mg d.name=some (.ref fa)->
   s₁.heap.get? a=some { cls:= .type "list",data:= .seq vs.toArray }->IntsAre vs ns->(ns:)<=n->s₁.gens= #[]->
   codeAny (model l.prog w) callerA (.call (.ref fa) ⟨[.ref a],[]⟩) (λr s'=>r= .ok (.ret (.bool true))/\OldK s₁.heap s'.heap/\s'.os=s₁.os/\AllBare s'.gens) s₁):
  WalkO q loose XP YP l.row.toRowW d [] (λf vs=>PySem.call f vs):=by
 intro w s₀ s₁ mg mb G Y fa o pm cd doc dV kV ho hd ji hD hmg hg args vals as J2 aab hrd Ad SF
 obtain rfl:dV= .none:=Dflts.none hD SE
 obtain rfl:kV= .none:=Dflts.noKw hD
 obtain ⟨a,vs,ns,rfl,rfl,NR,hints,hlen⟩:=DU hn J2 Ad
 refine enter_call (codeAny_mono (call w s₀ s₁ mg mb fa o pm cd doc a vs ns G Y ho (fd_plain hd) ji hmg NR hints hlen hg) λr s' hq=>?_)
 obtain ⟨rfl,h2,h3,h4⟩:=hq
 exact ⟨.inl ⟨.bool true,.bool true,[],rfl,λ_=>rfl,.bool true,DV l _,λ_=>⟨List.Pairwise.nil,λ_ hm=>(nomatch hm)⟩⟩,h2,h3,h4⟩
end YM
namespace L2
open PySem PySem.Spec PyProof.Rows
theorem uM:∀{vs:List Value} {ns:List Int},IntsAre vs ns->Vals (ns.map V.int) vs
 | _,_,.nil=> .nil
 | _,_,.cons n t h=> .cons ⟨t,rfl⟩ (uM h)
def NS(H:Hp):Prop:=∀b,H b=none\/∃o xs,H b=some (.Jl o (.lst xs))
theorem FU{P:Program}{w:World}{K:Fr}{mg mb:Str->Option Value}{CX:DP}{k:Nat}{fa a:Addr}{fd:FuncData}{x:Str}{sp:Sp}{s₁:Shared}{vs:List Value}{ns:List Int}
  (KX:K.In s₁.heap) (U1:s₁.heap.Ns mainGlobals mg) (hb:s₁.heap.Ns builtinsNs mb) (hbb:∀x:Str,x≠"__name__"->mb x=bootBuiltins x) (WJ:s₁.heap.NoLimit) (hg:s₁.gens= #[])
  (ha:s₁.heap.get? a=some { cls:= .type "list",data:= .seq vs.toArray }) (hi:IntsAre vs ns) (hl:(ns:)<=sizeLine) (hr:fF k callerA)
  (F:∀base:Heap,K.In base->base.Ns mainGlobals mg->bV P w K mg base CX k fa fd [x] sp) (SG:∀(s:Shared) (u:Value),BindsTo s fd ⟨[u],[]⟩ [(x,u)])
  (Mg:∀H:Hp,NS H->bf K H a (ns.map V.int)->sp [.ref a] H (λv _=>v= .bl true) λ_ _ _=>False)
  (WK:∀H e s',CX [] H s₁ (λ_ _ _=>False) e s'->False):
  codeAny (model P w) callerA (.call (.ref fa) ⟨[.ref a],[]⟩) (λr s'=>r= .ok (.ret (.bool true))/\OldK s₁.heap s'.heap/\s'.os=s₁.os/\AllBare s'.gens) s₁:=by
 have rv:=uM hi
 have WL:=(hi:)
 -- from an abstract heap in YN nothing but FG script may be tracked
 have core:∀H:Hp,NS H->bf K H a (ns.map V.int)->kU P w H s₁.heap->(∀b,H b≠none->b=a)->(H a≠none->K.lookup a=none)->
   codeAny (model P w) callerA (.call (.ref fa) ⟨[.ref a],[]⟩) (λr s'=>r= .ok (.ret (.bool true))/\OldK s₁.heap s'.heap/\s'.os=s₁.os/\AllBare s'.gens) s₁:=by
  intro H hO hS cy hA hK
  have BR:∀{b:Addr} {o:Obj},s₁.heap.get? b=some o->H b=none->(vO s₁.heap H).get? b=some o:=λe n=>FD e n
  have Sr:∀{b:Addr} {o:Obj} {es:Array DictEntry} {ep:Nat},s₁.heap.get? b=some o->o.data= .dict es ep->H b=none:=λ{b o es ep} e d=>by
   cases q:H b with
   | none=>rfl
   | some u=>
    have e':b=a:=hA b (by rw[q];simp)
    subst e'
    rw[ha]at e;cases e
    have d':Data.seq vs.toArray _=Data.dict es ep:=d
    cases d'
  have U2:∀{b:Addr} {m:Str->Option Value},s₁.heap.Ns b m->(vO s₁.heap H).Ns b m:=λ{b m} ⟨o,es,ep,e,d,r⟩=>⟨o,es,ep,BR e (Sr e d),d,r⟩
  have YO:K.In (vO s₁.heap H):=λb o e=>BR (KX b o e) (by
   cases q:H b with
   | none=>rfl
   | some u=>
    have e':b=a:=hA b (by rw[q];simp)
    subst e'
    rw[hK (by rw[q];simp)]at e;cases e)
  have hM:Mod K mg (vO s₁.heap H):=⟨YO,U2 U1,⟨mb,U2 hb,hbb⟩,let ⟨mc,h1,h2⟩:=WJ;⟨mc,U2 h1,h2⟩⟩
  have e0:z7 P w K mg (vO s₁.heap H) callerA [] s₁ H:=⟨rfl,hM,λb o e=>JL e,Nat.le_of_eq (DD _ _),trivial,λb hb=>absurd (show b∈([]:List Addr) from hb) (by simp),cy,.of_eq hg⟩
  refine codeAny_mono ((F _ YO (U2 U1)).run callerA [] s₁ H ⟨[.ref a],[]⟩ [.ref a] [.ref a] _ _ hr e0 (SG s₁ (.ref a)) (.cons rfl .nil) (Mg H hO hS)) λr s' h=>?_
  cases r with
  | error e=>exact (WK H e s' h).elim
  | ok fl=>
   cases fl with
   | next=>exact False.elim h
   | brk=>exact False.elim h
   | cont=>exact False.elim h
   | ret u=>
    obtain ⟨v,H',os,bare,un,WM,r',q⟩:=h
    have q':v= .bl true:=q
    subst q'
    obtain rfl:u=Value.bool true:=r'
    refine ⟨rfl,OldK.of_keep λb o e=>?_,os,bare⟩
    cases q:H b with
    | none=>exact un.keep b o e q (by intro z;exact absurd (show b∈([]:List Addr) from z) (by simp)) (by simp)
    | some u=>
     rcases hO b with z | ⟨ob,xs,z⟩
     ·rw[q]at z;cases z
     ·have z2:=un.qG b ob _ z
      obtain ⟨e1,_⟩:=cy b _ z
      obtain ⟨e2,_⟩:=WM b _ z2
      rw[e]at e1;cases e1
      exact e2
 cases hk:K.lookup a with
 | some o=>
  -- FG script is one of FG FP own objects
  have e:=KX a o hk
  rw[ha]at e
  cases e
  refine core (λ_=>none) (λ_=> .inl rfl) (.inr ⟨_,vs.toArray,_,hk,rfl,rfl,rfl,by rw[Qah,WL];exact hl,by simpa using rv⟩) (λb u z=>by have z':(none:Option HO)=some u:=z;cases z') (λb z=>absurd rfl z) λz=>absurd rfl z
 | none=>
  refine core (λb=>if b=a then some (.Jl { cls:= .type "list",data:= .seq vs.toArray } (.lst (ns.map V.int))) else none) (λb=>?_) (.inl (.inr ⟨{ cls:= .type "list",data:= .seq vs.toArray },if_pos rfl⟩)) (λb u z=>?_) (λb z=>?_) λ_=>hk
  ·by_cases hb:b=a
   ·exact .inr ⟨_,_,if_pos hb⟩
   ·exact .inl (if_neg hb)
  ·by_cases hb:b=a
   ·have z':=(if_pos hb).symm.trans z
    cases z'
    subst hb
    exact ⟨ha,by rw[Qi];exact hl,vs,_,rv,ha⟩
   ·have z':=(if_neg hb).symm.trans z
    cases z'
  ·by_cases hb:b=a
   ·exact hb
   ·exact absurd (if_neg hb) z
theorem BS{l:PySem.W.OpenLaw}{n k:Nat}{q:Program}{loose:List Str}{XP:(Str->Option Value)->Heap->Prop}{YP:World->Heap->Prop}{d:DefRec}{K:Params->Fr}{CX:World->DP}{sp:World->Sp}{x:Str}
  (hn:l.most=some n) (vT:n<=sizeLine) (SE:d.params.defaults=[]) (hr:fF k callerA)
  (hY:∀(w:World) (h:Heap),YP w h->(K w.params).In h)
  (F:∀(w:World) (mg:Str->Option Value) (fa:Addr) (h:Heap),(K w.params).In h->h.Ns mainGlobals mg->mg d.name=some (.ref fa)->
   ∃fd:FuncData,(∀(s:Shared) (u:Value),BindsTo s fd ⟨[u],[]⟩ [(x,u)])/\
    ∀base:Heap,(K w.params).In base->base.Ns mainGlobals mg->bV l.prog w (K w.params) mg base (CX w) k fa fd [x] (sp w))
  (Mg:∀(w:World) (H:Hp) (a:Addr) (ns:List Int),(ns:)<=n->NS H->bf (K w.params) H a (ns.map V.int)->sp w [.ref a] H (λv _=>v= .bl true) λ_ _ _=>False)
  (WK:∀(w:World) (H:Hp) (s:Shared) (e:Value) (s':Shared),CX w [] H s (λ_ _ _=>False) e s'->False):
  PySem.W.WalkO q loose XP YP l.row.toRowW d [] (λf vs=>PySem.call f vs):=by
 refine YM.yk hn SE λw s₀ s₁ mg mb fa o pm cd doc a vs ns G Y ho hd ji hmg NR hints hlen hg=>?_
 have KX:=hY w _ Y
 obtain ⟨fd,hb,hF⟩:=F w mg fa _ KX G.T.g hmg
 exact FU KX G.T.g G.T.b G.T.builtins G.T.nolimit hg NR hints (Qbf hlen vT) hr hF hb (λH hO hS=>Mg w H a ns hlen hO hS) λH e s'=>WK w H s₁ e s'
noncomputable def gF(s:Stmt):Arguments:=match s with
 | .FunctionDef _ a _ _ _ _ _ _ _ _=>a
 | _=>{ posonlyargs:=[],args:=[],vararg:=none,kwonlyargs:=[],kw_defaults:=[],kwarg:=none,defaults:=[] }
noncomputable def fR(s:Stmt):List Stmt:=match s with
 | .FunctionDef _ _ b _ _ _ _ _ _ _=>b
 | _=>[]
noncomputable def ay(s:Stmt):Scope:=match s with
 | .FunctionDef _ _ _ _ _ _ sc _ _ _=>sc
 | _=>{ kind:= .function,names:=[],isGenerator:=false,isCoroutine:=false }
abbrev gu:DP:=λ_ _ _ _ _ _=>False
abbrev E0:XK:=λ_ _ _=>False
theorem aD{X:Cx}:Passes gu X E0:=λ_ _ _ _ _ _ _ h=>h.elim
structure J3(K:Fr)(x qual:Str)(st:Stmt)(f:Addr)(fd:FuncData):Prop where
 ex:∃(oc:Value) (od:Option Addr) (kV doc pm:Value) (an:Option Addr) (da ct:Value) (Jp:Array (Option Value)),
  fd=PySem.W.fnOf x qual (gF st) (fR st) (ay st) .none kV doc pm an da ct/\K.lookup f=some ⟨oc,od,.func fd,Jp⟩/\PySem.W.codeIn K da qual=true
 kp:PySem.W.keepIn K (.ref f)=true
section
variable{P:Program}{w:World}{K:Fr}{mg:Str->Option Value}{base:Heap}
theorem J3.ok{x qual:Str}{st:Stmt}{f:Addr}{fd:FuncData}{N ps:List Str}{k:Nat}{sp:Sp}(F:J3 K x qual st f fd)(S:aF N ps (ay st))(len:∀vs H Q E,sp vs H Q E->(vs:)=(ps:))
  (FL:∀(da:Value) (A:Around) (outer:List Env) (s:Shared) (H:Hp) (vs:List V) (Q:VK) (E:XK),fF k (A.deeper (envOfC qual (ay st) s.heap.objs.size f da))->sp vs H Q E->
   ∃t,zR (DQ gu P w K mg base N qual (ay st) f da A outer s H E).UU (fR st) t/\t { nx:=λ_ H'=>Q .gE H',rt:=Q } (start N vs) H):bV P w K mg base gu (k+1) f fd ps sp:=by
 obtain ⟨oc,od,kV,doc,pm,an,da,ct,Jp,rfl,lk,ji⟩:=F.ex
 refine Ss lk ji S len λA outer s H vs Q E hr Mg=>?_
 obtain ⟨t,h,q⟩:=FL da A outer s H vs Q E hr Mg
 exact ⟨t,h.UU,q⟩
theorem J3.binds{x qual:Str}{st:Stmt}{f:Addr}{fd:FuncData}{ps:List Str}(F:J3 K x qual st f fd)
  (h:∀(kV doc pm:Value) (an:Option Addr) (da ct:Value) (us:List Value),(us:)=(ps:)->bindArgs (PySem.W.fnOf x qual (gF st) (fR st) (ay st) .none kV doc pm an da ct) ⟨us,[]⟩=pure (ps.zip us)):Binds K fd ps []:=by
 obtain ⟨oc,od,kV,doc,pm,an,da,ct,Jp,rfl,lk,ji⟩:=F.ex
 exact .all (h kV doc pm an da ct)
theorem Ae{x qual:Str}{st:Stmt}{f:Addr}{oc:Value}{od an:Option Addr}{Jp:Array (Option Value)}{kV doc pm da ct:Value}(l:K.lookup f=some ⟨oc,od,.func (PySem.W.fnOf x qual (gF st) (fR st) (ay st) .none kV doc pm an da ct),Jp⟩)
  (c:PySem.W.codeIn K da qual=true) (k:PySem.W.keepIn K (.ref f)=true):J3 K x qual st f (PySem.W.fnOf x qual (gF st) (fR st) (ay st) .none kV doc pm an da ct):=⟨⟨oc,od,kV,doc,pm,an,da,ct,Jp,rfl,l,c⟩,k⟩
end
theorem qN{A:Around}{k:Nat}(hr:fF k A):A.units+1<cLine:=Qbn (Nat.add_le_add_left (by decide:1<=64) _) hr.units
section
variable{X:Cx}
theorem pv(i:Nat){x:Str}{pos:Pos}(hN:X.N[i]? =some x:=by rfl)(hv:RU X.env.scope x:=by first | exact Or.inl rfl | exact Or.inr (Or.inl rfl) | exact Or.inr (Or.inr rfl))(hd:(x==("__debug__":Str))=false:=by decide)
  (ji:(x==("__classdict__":Str))=false:=by decide):PE X (.Name x pos) (Nj i):=Nk hN hv hd ji
end
theorem DW{A B:Prop}(h:B):if false=true then A else B:=by
 rw[if_neg Qap]
 exact h
theorem SH{A B:Prop}(h:A):if true=true then A else B:=by
 rw[if_pos rfl]
 exact h
theorem cf{c A B:Prop}[Decidable c](h1:c->A)(h2: ¬c->B):if c then A else B:=by
 by_cases h:c
 ·rw[if_pos h]
  exact h1 h
 ·rw[if_neg h]
  exact h2 h
def aj(H H':Hp):Prop:=∀b o,H b=some o->H' b=some o
theorem aj.refl(H:Hp):aj H H:=λ_ _ h=>h
theorem aj.trans{H H1 H2:Hp}(a:aj H H1)(b:aj H1 H2):aj H H2:=λc o h=>b c o (a c o h)
theorem aj.free{H H':Hp}(e:aj H H'){l:Addr}(h:H' l=Option.none):H l=Option.none:=by
 cases q:H l with
 | none=>rfl
 | some o=>
  rw[e l o q]at h
  cases h
theorem aj.seq{K:Fr}{H H':Hp}{a:Addr}{xs:List V}(e:aj H H')(h:bf K H a xs):bf K H' a xs:=by
 rcases h with (h | ⟨o,h⟩) | h
 ·exact .inl (.inl (e _ _ h))
 ·exact .inl (.inr ⟨o,e _ _ h⟩)
 ·exact .inr h
noncomputable def jv(env:Env):List (Str×NameKind)->List (Str×Addr)->List (Str×Addr)
 | [],acc=>acc
 |(n,k)::r,acc=>jv env r (if k== .free then (match env.cells.lookup n with | some a=>(n,a)::acc | none=>acc) else acc)
theorem gw{env:Env}:∀(names:List (Str×NameKind)) (acc:List (Str×Addr)),(∀y∈names,y.2= .free->∃c,env.cells.lookup y.1=some c)->
  (forIn names acc λ(x:Str×NameKind) (cs:List (Str×Addr))=>(if (x.2==NameKind.free)=true then do let a <-cellOf env x.1;pure (ForInStep.yield ((x.1,a)::cs)) else pure (ForInStep.yield cs):Sem (ForInStep (List (Str×Addr)))))=pure (jv env names acc)
 | [],acc,_=>rfl
 |(n,k)::r,acc,h=>by
  rw[Qek]
  have hr:∀y∈r,y.2= .free->∃c,env.cells.lookup y.1=some c:=λy hy=>h y (Qae _ hy)
  cases hk:(k==NameKind.free) with
  | false=>
   have e1:jv env ((n,k)::r) acc=jv env r acc:=by
    walk_at"X"
    rw[hk,if_neg Qap]
   rw[e1, <-gw r acc hr]
   simp only[hk,Qbw,if_false,pure_bind]
  | true=>
   obtain ⟨c,hc⟩:=h (n,k) Qac (by simpa using hk)
   have e1:jv env ((n,k)::r) acc=jv env r ((n,c)::acc):=by
    have iW:env.cells.lookup n=some c:=hc
    walk_at"X"
    rw[hk,iW,if_pos rfl]
   have e2:cellOf env n=pure c:=by
    have iW:env.cells.lookup n=some c:=hc
    unfold cellOf
    rw[iW]
   rw[e1, <-gw r ((n,c)::acc) hr]
   simp only[hk,if_true,e2,pure_bind]
theorem lj{scope:Scope}{env:Env}(h:∀y∈scope.names,y.2= .free->∃c,env.cells.lookup y.1=some c):closureFor scope env=pure (jv env scope.names []):=by
 have e:=gw scope.names [] h
 simp only[closureFor]
 rw[e]
 rfl
theorem nX{env:Env}{x:Str}{c:Addr}:∀(names:List (Str×NameKind)) (acc:List (Str×Addr)),(∀y d,acc.lookup y=some d->env.cells.lookup y=some d)->(jv env names acc).lookup x=some c->env.cells.lookup x=some c
 | [],acc,ha,h=>ha x c h
 |(n,k)::r,acc,ha,h=>by
  refine nX r _ (λy d q=>?_) h
  by_cases hk:(k==NameKind.free)=true
  ·rw[if_pos hk]at q
   cases e:env.cells.lookup n with
   | none=>rw[e]at q;exact ha y d q
   | some a=>
    rw[e]at q
    have q':List.lookup y ((n,a)::acc)=some d:=q
    rw[Qbx]at q'
    cases hy:(y==n) with
    | true=>
     rw[hy]at q'
     have:y=n:=by simpa using hy
     subst this
     rw[e];exact q'
    | false=>rw[hy]at q';exact ha y d q'
  ·rw[if_neg hk]at q;exact ha y d q
theorem yl{env:Env}{x:Str}:∀(names:List (Str×NameKind)) (acc:List (Str×Addr)),(∃c,acc.lookup x=some c)->∃c,(jv env names acc).lookup x=some c
 | [],acc,h=>h
 |(n,k)::r,acc,⟨c,hc⟩=>by
  refine yl r _ ?_
  by_cases hk:(k==NameKind.free)=true
  ·rw[if_pos hk]
   cases e:env.cells.lookup n with
   | none=>exact ⟨c,hc⟩
   | some a=>
    show ∃c,List.lookup x ((n,a)::acc)=some c
    rw[Qbx]
    cases hy:(x==n) with
    | true=>exact ⟨a,rfl⟩
    | false=>exact ⟨c,hc⟩
  ·rw[if_neg hk];exact ⟨c,hc⟩
theorem qO{env:Env}{x:Str}:∀(names:List (Str×NameKind)) (acc:List (Str×Addr)),(∀y∈names,y.2= .free->∃c,env.cells.lookup y.1=some c)->names.lookup x=some .free->∃c,(jv env names acc).lookup x=some c
 | [],acc,_,h=>by simp at h
 |(n,k)::r,acc,hf,h=>by
  have hr:∀y∈r,y.2= .free->∃c,env.cells.lookup y.1=some c:=λy hy=>hf y (Qae _ hy)
  rw[Qbx]at h
  cases hy:(x==n) with
  | true=>
   rw[hy]at h
   have hk:k= .free:=Qaj h
   subst hk
   have hx:x=n:=by simpa using hy
   subst hx
   obtain ⟨c,hc⟩:=hf (x,.free) Qac rfl
   have iW:env.cells.lookup x=some c:=hc
   refine yl r _ ⟨c,?_⟩
   rw[if_pos (show (NameKind.free==NameKind.free)=true by decide),iW]
   show List.lookup x ((x,c)::acc)=some c
   rw[Qbx]
   simp
  | false=>
   rw[hy]at h
   exact qO r _ hr h
theorem mB{env:Env}:∀{names:List (Str×NameKind)} {x:Str},names.lookup x=some .free->
  ((names.map λ(n,k)=>if (k==NameKind.free&&env.scope.kind== .function&&env.kindOf n==some .cell) then (n,NameKind.cell) else (n,k)).lookup x=some .cell\/
   (names.map λ(n,k)=>if (k==NameKind.free&&env.scope.kind== .function&&env.kindOf n==some .cell) then (n,NameKind.cell) else (n,k)).lookup x=some .free)
 | [],_,h=>by simp at h
 |(n,k)::r,x,h=>by
  have ih:= @mB env r x
  show (List.lookup x ((if (k==NameKind.free&&env.scope.kind== .function&&env.kindOf n==some .cell)=true then (n,NameKind.cell) else (n,k))::_)=_\/List.lookup x ((if (k==NameKind.free&&env.scope.kind== .function&&env.kindOf n==some .cell)=true then (n,NameKind.cell) else (n,k))::_)=_)
  cases hx:x==n with
  | true=>
   simp only[Qbx,hx]at h
   cases h
   by_cases hc:((NameKind.free==NameKind.free)&&env.scope.kind== .function&&env.kindOf n==some .cell)=true
   ·rw[if_pos hc];simp[Qbx,hx]
   ·rw[if_neg hc];simp[Qbx,hx]
  | false=>
   simp only[Qbx,hx]at h
   by_cases hc:(k==NameKind.free&&env.scope.kind== .function&&env.kindOf n==some .cell)=true
   ·rw[if_pos hc];simp only[Qbx,hx];exact ih h
   ·rw[if_neg hc];simp only[Qbx,hx];exact ih h
theorem mC{env:Env}:∀{names:List (Str×NameKind)} {x:Str},(∀y∈names,y.2≠ .cell)->
  ((names.map λ(n,k)=>if (k==NameKind.free&&env.scope.kind== .function&&env.kindOf n==some .cell) then (n,NameKind.cell) else (n,k)).lookup x=some .cell\/
   (names.map λ(n,k)=>if (k==NameKind.free&&env.scope.kind== .function&&env.kindOf n==some .cell) then (n,NameKind.cell) else (n,k)).lookup x=some .free)->names.lookup x=some .free
 | [],_,_,h=>by simp at h
 |(n,k)::r,x,hn,h=>by
  have ih:= @mC env r x (λy hy=>hn y (Qae _ hy))
  have hk:=hn (n,k) Qac
  have h':(List.lookup x ((if (k==NameKind.free&&env.scope.kind== .function&&env.kindOf n==some .cell)=true then (n,NameKind.cell) else (n,k))::(r.map λ(n,k)=>if (k==NameKind.free&&env.scope.kind== .function&&env.kindOf n==some .cell) then (n,NameKind.cell) else (n,k)))=some .cell\/List.lookup x ((if (k==NameKind.free&&env.scope.kind== .function&&env.kindOf n==some .cell)=true then (n,NameKind.cell) else (n,k))::(r.map λ(n,k)=>if (k==NameKind.free&&env.scope.kind== .function&&env.kindOf n==some .cell) then (n,NameKind.cell) else (n,k)))=some .free):=h
  cases hx:x==n with
  | true=>
   rw[Qbx,hx]
   by_cases hc:(k==NameKind.free&&env.scope.kind== .function&&env.kindOf n==some .cell)=true
   ·have:(k==NameKind.free)=true:=by
     rw[Qbt,Qbt]at hc;exact hc.1.1
    have Mh:k= .free:=by simpa using this
    rw[Mh]
   ·rw[if_neg hc]at h'
    simp only[Qbx,hx]at h'
    rcases h' with h' | h'
    ·exact absurd (Qaj h') hk
    ·exact h'
  | false=>
   rw[Qbx,hx]
   by_cases hc:(k==NameKind.free&&env.scope.kind== .function&&env.kindOf n==some .cell)=true
   ·rw[if_pos hc]at h';simp only[Qbx,hx]at h';exact ih h'
   ·rw[if_neg hc]at h';simp only[Qbx,hx]at h';exact ih h'
abbrev Jr:Value->Shared->Prop:=λ_ _=>False
theorem v7{prog:Program}{w:World}{A:Around}{R:Result->Shared->Prop}{s:Shared}{elt target iter:Expr}{ifs:List Expr}{scope:Scope}{pos:Pos}{it acc:Value}{env:Env}(I:Nat->Shared->Prop)
  (turn:∀n s,I n s->wpAny (model prog w) A (pyNext it) (λr s₁=>match r with
   | none=>R (.ok .next) s₁
   | some v=>wpAny (model prog w) A (letOwnedTupleGo target it v) (λ_ YU=>wpAny (model prog w) A (assign target env v) (λ_ s₂=>
     wpAny (model prog w) A (forIn ifs true λc r=>if r=true then do let ok <-isTrue c env (eval c env);pure (ForInStep.yield ok) else pure (ForInStep.yield r)) (λok s₃=>
      if ok=true then wpAny (model prog w) A (eval elt env) (λx s₄=>
       wpAny (model prog w) A (call (.builtin "list.append") [acc,x]) (λ_ s₅=>∃m,m<n/\I m s₅) Jr s₄) Jr s₃
      else ∃m,m<n/\I m s₃) Jr s₂) Jr YU) Jr s₁) Jr s)
  (n:Nat) (h:I n s):codeAny (model prog w) A (.compLoop (.ListComp elt [⟨target,iter,ifs,0⟩] scope pos) 0 it acc env) R s:=by
 refine codeAny_loop rfl I (λn s hI=>?_) n h
 show wpAny _ A ((compTurn (.ListComp elt [⟨target,iter,ifs,0⟩] scope pos) 0 it acc env).onRaise (λx=>do noteFrame x env;theTreesLotGoes x)) _ _ s
 refine wpAny_noted ?_
 rw[compTurn_list]
 have no:∀{F:Value->Shared->Prop} (e:Value) (s':Shared),Jr e s'->F e s':=λ_ _ h=>h.elim
 refine wpAny_bind (wpAny_standAt (wpAny_bind (wpAny_mono (turn n s hI) (λr s₁ h₁=>?_) no)))
 cases r with
 | none=>exact wpAny_pure h₁
 | some v=>
  refine wpAny_bind (wpAny_mono h₁ (λ_ YU h₁'=>?_) no)
  refine wpAny_bind (wpAny_mono h₁' (λ_ s₂ h₂=>wpAny_bind (wpAny_mono h₂ (λok s₃ h₃=>?_) no)) no)
  cases ok with
  | false=>exact wpAny_pure ⟨rfl,h₃⟩
  | true=>
   exact wpAny_bind (wpAny_bind (wpAny_mono h₃ (λx s₄ h₄=>wpAny_bind (wpAny_mono h₄ (λ_ s₅ h₅=>wpAny_pure (wpAny_pure ⟨rfl,h₅⟩)) no)) no))
noncomputable def cq(X:Cx)(scope:Scope)(C:Addr)(Nc:List Str)(s:Shared)(H:Hp)(fp:List Addr):Cx where
 prog:=X.prog
 w:=X.w
 K:=X.K
 mg:=X.mg
 base:=X.base
 A:=X.A
 N:=Nc
 s₀:=s
 H₀:=H
 env:=compEnvC scope (jv X.env scope.names []) C X.env
 outer:=X.stack
 stack:=X.stack
 ex:=fp
 fn:=λ_=>false
 calm:=X.calm
 pn:=[]
 xe:=Jr
def kW(X:Cx)(scope:Scope):List Str->List (Option Nat)->Prop
 | [],[]=>True
 | _::ys,none::os=>kW X scope ys os
 | y::ys,some j::os=>(X.N[j]? =some y/\scope.names.lookup y=some .free/\(X.env.kindOf y=some .cell\/X.env.kindOf y=some .free))/\kW X scope ys os
 | _,_=>False
noncomputable def mD(σ:St)(ix:List (Option Nat)):St:=ix.map λo=>match o with | none=>none | some j=>(σ[j]?).getD none
def Wk:St->St->Prop
 | [],[]=>True
 | none::a,_::b=>Wk a b
 | some v::a,w::b=>w=some v/\Wk a b
 | _,_=>False
theorem Wk.len:∀{a b:St},Wk a b->(a:)=(b:)
 | [],[],_=>rfl
 | none::a,_::b,h=>congrArg (· +1) (Wk.len (a:=a) (b:=b) h)
 | some _::a,_::b,h=>congrArg (· +1) (Wk.len (a:=a) (b:=b) h.2)
theorem Wk.get:∀{a b:St} {i:Nat} {v:V},Wk a b->a[i]? =some (some v)->b[i]? =some (some v)
 | [],[],i,v,_,h=>by simp at h
 | none::a,x::b,0,v,_,h=>by simp at h
 | none::a,x::b,i+1,v,k,h=>by
  have:=Wk.get (a:=a) (b:=b) (i:=i) (v:=v) k (by simpa using h)
  simpa using this
 | some y::a,x::b,0,v,k,h=>by
  have e:y=v:=by simpa using h
  subst e
  simp[k.1]
 | some y::a,x::b,i+1,v,k,h=>by
  have:=Wk.get (a:=a) (b:=b) (i:=i) (v:=v) k.2 (by simpa using h)
  simpa using this
theorem kW.len{X:Cx}{scope:Scope}:∀{N:List Str} {ix:List (Option Nat)},kW X scope N ix->(ix:)=N.length
 | [],[],_=>rfl
 | _::ys,none::os,h=>congrArg (· +1) (kW.len (N:=ys) (ix:=os) h)
 | _::ys,some _::os,h=>congrArg (· +1) (kW.len (N:=ys) (ix:=os) h.2)
theorem kW.get{X:Cx}{scope:Scope}:∀{N:List Str} {ix:List (Option Nat)} {i j:Nat},kW X scope N ix->ix[i]? =some (some j)->∃y,N[i]? =some y/\X.N[j]? =some y/\scope.names.lookup y=some .free/\(X.env.kindOf y=some .cell\/X.env.kindOf y=some .free)
 | [],[],i,j,_,h=>by simp at h
 | y::ys,none::os,0,j,_,h=>by simp at h
 | y::ys,none::os,i+1,j,k,h=>by
  obtain ⟨z,h1,h2⟩:=kW.get (N:=ys) (ix:=os) (i:=i) (j:=j) k (by simpa using h)
  exact ⟨z,by simpa using h1,h2⟩
 | y::ys,some j'::os,0,j,k,h=>by
  have e:j'=j:=by simpa using h
  subst e
  exact ⟨y,by simp,k.1⟩
 | y::ys,some j'::os,i+1,j,k,h=>by
  obtain ⟨z,h1,h2⟩:=kW.get (N:=ys) (ix:=os) (i:=i) (j:=j) k.2 (by simpa using h)
  exact ⟨z,by simpa using h1,h2⟩
theorem DX{σ:St}{ix:List (Option Nat)}{i:Nat}{v:V}(h:(mD σ ix)[i]? =some (some v)):∃j,ix[i]? =some (some j)/\σ[j]? =some (some v):=by
 unfold mD at h
 rw[Qag]at h
 cases e:ix[i]? with
 | none=>rw[e]at h;cases h
 | some o=>
  rw[e]at h
  cases o with
  | none=>cases h
  | some j=>
   refine ⟨j,rfl,?_⟩
   have h':some ((σ[j]?).getD none)=some (some v):=h
   cases q:σ[j]? with
   | none=>rw[q]at h';cases h'
   | some z=>rw[q]at h';cases h';rfl
theorem Af{X:Cx}{pins:List (Addr×Obj)}{σ:St}{H:Hp}{s:Shared}(I:Inv X pins σ H s){scope:Scope}{Nc:List Str}{ix:List (Option Nat)}(Ag:kW X scope Nc ix)(iJ:∀y∈scope.names,y.2≠ .cell)
  (jj:scope.kind= .function) (J4:∀y∈scope.names,y.2= .free->X.env.kindOf y.1=some .cell\/X.env.kindOf y.1=some .free) {fp:List Addr} (hf:∀b∈fp,pV X pins H b) (SI:∀b∈fp,∃o,s.heap.get? b=some o)
  {C:Addr} {h':Heap} {t':Nat} {m0:Str->Option Value} (hC:s.heap.objs.size<=C) (U1:h'.Ns C m0) (k:∀b o,s.heap.get? b=some o->h'.get? b=some o):
  Inv (cq X scope C Nc s H fp) [] (mD σ ix) H { s with heap:=h',toks:=t' }:=by
 walk_at"o"
 walk_at"E"
 refine ⟨⟨I.ok.mod,jj,I.ok.glob,I.ok.blt,hC,λx y c h1 h2=>I.ok.inj x y c (mE h1) (mE h2),λx hx=>?_,λx c h=>?_,I.ok.hd,I.ok.frames,.inl rfl,λb hb=>?_,I.bs,Qbf I.ok.JM I.sz,λb o e hb=>?_,λb hb hs=>?_,I.stack,I.BH⟩,
  rfl,I.bare,Un.kept k,⟨m0,U1,λi x v h1 h2 h3=>?_⟩,λx c e=>?_,I.cy.fresh hC,λx c e=>I.jF x c (mE e),λp hp=>absurd (show p∈([]:List (Addr×Obj)) from hp) (by simp),I.cy.kept k,?_⟩
 ·have DY:scope.names.lookup x=some .free:=mC iJ hx
  exact qO scope.names [] Qj DY
 ·exact absurd (show false=true from h) ∅
 ·refine ⟨?_,λx c e=>(hf b hb).2.2.2.2.1 x c (mE e)⟩
  obtain ⟨o,ho⟩:=SI b hb
  exact Qay (Qa2 (Qau ho) hC)
 ·rcases (hf b hb).2.2.2.1 with z | z
  ·exact I.ok.FE b o e z
  ·exact absurd (Qa2 (Qau e) (Qbf I.ok.JM z)) (Qbu _)
 ·rcases Qak.mp (I.qH b hs) with z | z
  ·exact (hf b hb).2.1 z
  ·exact (hf b hb).2.2.1 z
 ·obtain ⟨j,e1,e2⟩:=DX h2
  obtain ⟨y,y1,y2,y3,y4⟩:=Ag.get e1
  have YV:Nc[i]? =some x:=h1
  rw[y1]at YV
  cases YV
  obtain ⟨m,hn,hl⟩:=I.loc
  have hv:RU X.env.scope x:=by
   rcases y4 with z | z
   ·exact .inr (.inl z)
   ·exact .inr (.inr z)
  obtain ⟨u,r,l⟩:=hl j x v y2 e2 hv
  refine ⟨u,r,.inr ⟨mB y3,?_⟩⟩
  rcases l with ⟨l,_⟩ | ⟨_,c,hc,q⟩
  ·rcases y4 with z | z
   ·rw[z]at l;cases l
   ·rw[z]at l;cases l
  ·obtain ⟨c',iW⟩:=qO scope.names [] Qj y3
   have e:=mE iW
   rw[hc]at e
   cases e
   obtain ⟨o,ho,hd⟩:=q
   exact ⟨c,iW,o,k _ _ ho,hd⟩
 ·obtain ⟨v,o,ho,hd⟩:=I.cell x c (mE e)
  exact ⟨v,o,k _ _ ho,hd⟩
 ·show (mD σ ix:)=Nc.length
  unfold mD
  rw[Qi]
  exact Ag.len
theorem DZ{X:Cx}{pins BI:List (Addr×Obj)}{σ σ':St}{H H':Hp}{s s':Shared}(I:Inv X pins σ H s){scope:Scope}{Nc:List Str}{fp:List Addr}{C D:Addr}(J:Inv (cq X scope C Nc s H fp) BI σ' H' s')
  (hf:∀b∈fp,pV X pins H b) (hD:s.heap.objs.size<=D) (hC:s.heap.objs.size<=C) (NV:D≠C) {its:List Value} {n:Nat} {acc:List V} (eD:s'.heap.get? D=some { cls:= .type "list",data:= .seq its.toArray n }) (r:Vals acc its)
  (hz:(acc:)<=sizeLine) (nD:H' D=none) {oC:Obj} (eC:s'.heap.get? C=some oC) (dC:∀v,oC.data≠ .cell v):Inv X (pins++[(C,oC)]) σ (upd H' D (.lst acc)) s':=by
 have lt:∀b o,s.heap.get? b=some o->b≠D:=λb o e=>Qay (Qa2 (Qau e) hD)
 have U:Un (BG X.stack) fp H H' s.heap s'.heap:=J.base
 have U':Un (BG X.stack) fp H (upd H' D (.lst acc)) s.heap s'.heap:=
  ⟨U.keep,U.slot,λb o e n hx=>by rw[aq (lt b o e)];exact U.free b o e n hx,U.there,λb xs e=>by rw[aq (au (U.tN b xs e) nD)];exact U.tN b xs e,
   λb o u e=>by rw[aq (au (U.qG b o u e) nD)];exact U.qG b o u e,λb ps e=>by
    obtain ⟨more,q⟩:=U.vN b ps e
    exact ⟨more,by rw[aq (au q nD)];exact q⟩⟩
 have cy:kU X.prog X.w (upd H' D (.lst acc)) s'.heap:=λb u e=>by
  by_cases hb:b=D
  ·subst hb
   rw[ae]at e;cases e
   exact ⟨hz,its,n,r,eD⟩
  ·rw[aq hb]at e
   exact (J.cy b u e).xU (λc v _ q=>q) (λc q=>by rw[aq (au q nD)];exact q) λc xs q=>by rw[aq (au q nD)];exact q
 have I':Inv X pins σ (upd H' D (.lst acc)) s':=I.RZ (ch:=fp) J.os U' cy J.bare λb hb=>by
  obtain ⟨_,h1,_,h2,h3,h4⟩:=hf b hb
  exact ⟨h2,h1,h3,h4⟩
 refine I'.mi λp hp=>?_
 rcases Qaf.mp hp with z | z
 ·exact I'.pin p (Qa9 _ z)
 ·have e:p=(C,oC):=Qab.mp z
  subst e
  refine ⟨eC,?_,Qfd (Qa2 I.lt hC),I.Ng hC,dC⟩
  rw[aq (Ne.symm NV)]
  exact J.free
def PF(Y:Cx)(ifs:List Expr)(tc:TT):Prop:=
 ∀(pins:List (Addr×Obj)) (s:Shared) (σ:St) (H:Hp) (Q:Bool->Hp->Prop),Inv Y pins σ H s->tc σ H Q->
  wpAny (model Y.prog Y.w) Y.A (forIn ifs true λc r=>if r=true then do let ok <-isTrue c Y.env (eval c Y.env);pure (ForInStep.yield ok) else pure (ForInStep.yield r)) (TP Y pins σ Q) Y.xe s
def SJ:TT:=λ_ H Q=>Q true H
theorem eO{Y:Cx}:PF Y [] SJ:=λ_ _ _ H _ I h=>wpAny_tests_nil ⟨H,I,h⟩
theorem qP{Y:Cx}{c:Expr}{tc:TT}(h:PT Y c tc):PF Y [c] tc:=λpins s σ H Q I hw=>wpAny_tests_one (h pins s σ H Q I hw)
def mF(J:It)(σc:St)(g:TG)(tc:TT)(te:TE)(Q:VK)(H1:Hp):Prop:=
 ∃W:Nat->Nat->List V->Hp->Prop,(∃m,W 0 m [] H1)/\∀i m acc H,W i m acc H->(acc:)<sizeLine/\
 ((J.stop i H/\∀D,H D=none->Q (.ref D) (upd H D (.lst acc)))\/
  (J.go i H/\∀x H',J.FF i H x H'->g x σc H' λσ2 H2=>Wk σc σ2/\tc σ2 H2 λb H3=>if b=true then te σ2 H3 λv H4=>∃m',m'<m/\W (i+1) m' (acc++[v]) H4 else ∃m',m'<m/\W (i+1) m' acc H3))
def ym(wi:TI)(ix:List (Option Nat))(g:TG)(tc:TT)(te:TE):TE:=λσ H Q=>wi σ H λJ H1=>mF J (mD σ ix) g tc te Q H1
theorem uN{X:Cx}{tg iter elt:Expr}{ifs:List Expr}{scope:Scope}{pos:Pos}{wi:TI}{g:TG}{tc:TT}{te:TE}{Nc:List Str}{ix:List (Option Nat)}(hi:PI X tg iter wi)(lq:X.calm=true)(Ag:kW X scope Nc ix)
  (iJ:∀y∈scope.names,y.2≠ .cell) (jj:scope.kind= .function) (J4:∀y∈scope.names,y.2= .free->X.env.kindOf y.1=some .cell\/X.env.kindOf y.1=some .free)
  (hG:∀C s H fp,PG (cq X scope C Nc s H fp) tg g) (hT:∀C s H fp,PF (cq X scope C Nc s H fp) ifs tc) (hE:∀C s H fp,PE (cq X scope C Nc s H fp) elt te)
  {pins:List (Addr×Obj)} {s:Shared} {σ:St} {H:Hp} {Q:VK} (I:Inv X pins σ H s) (h:ym wi ix g tc te σ H Q) {RR:Value->Addr->Result->Shared->Prop}
  (hRR:∀(D C:Addr) (oC:Obj) (m:Str->Option Value) (H':Hp) (s':Shared),s'.heap.get? C=some oC->s'.heap.Ns C m->pV X pins H' C->Inv X (pins++[(C,oC)]) σ H' s'->Q (.ref D) H'->RR (.ref D) C (.ok .next) s'):
  wpAny (model X.prog X.w) X.A (eval iter X.env) (λv s1=>wpAny (model X.prog X.w) X.A (pyIter v) (λit s2=>wpAny (model X.prog X.w) X.A (newList []) (λacc s3=>
   wpAny (model X.prog X.w) X.A (newFunctionEnv scope X.env.globals (jv X.env scope.names []) [] X.env.qual none .none (some X.env)) (λSK s4=>
    codeAny (model X.prog X.w) X.A (.compStart (.ListComp elt [⟨tg,iter,ifs,0⟩] scope pos) 0 it acc { SK with scope:=relabel scope X.env }) (RR acc SK.locals) s4) X.xe s3) X.xe s2) X.xe s1) X.xe s:=by
 refine cJ (hi pins s σ H _ I h) λv s1 h1=>cJ h1 λWm s2 h2=>?_
 obtain ⟨it,fp,tn,J,H2,e,I2,T,vR,f2,W,⟨m0,w0⟩,turn⟩:=h2
 subst e
 refine wpAny_newObj_type (wpAny_newFunctionEnv iJ (by intro y hy;simp at hy) (λh₁ NW J5=>?_) jj)
 dsimp only at NW J5 ⊢
 generalize Mi:s2.heap.push { cls:= .type "list",dict:=none,data:= .seq ([]:List Value).toArray }=P2 at NW J5 ⊢
 have hC:P2.objs.size=s2.heap.objs.size+1:=by rw[<-Mi,Qei]
 have NV:s2.heap.objs.size≠P2.objs.size:=by rw[hC];exact Qay (Qc2 _)
 have NX:s2.heap.objs.size<=P2.objs.size:=by rw[hC];exact Qc0 _
 have Ni:∀b,b<s2.heap.objs.size->b≠P2.objs.size:=λb hb=>by rw[hC];exact Qay (Qdp hb)
 have old:∀b o,s2.heap.get? b=some o->h₁.get? b=some o:=λb o e=>J5.extBut b o (Ni b (Qau e)) (YT _ (Mi▸YT _ e))
 have Ah:h₁.get? s2.heap.objs.size=some { cls:= .type "list",data:= .seq ([]:List Value).toArray }:=J5.extBut _ _ NV (YT _ (Mi▸Qat _ rfl))
 have YW:tn 0 h₁:=T.keep 0 _ _ vR λb _ o e=>old b o e
 have SI:∀b∈fp,∃o,s2.heap.get? b=some o:=λb hb=>let ⟨o,e,_⟩:=T.obj 0 _ vR b hb;⟨o,e⟩
 have YX:∀b∈fp,s2.heap.objs.size≠b:=λb hb=>let ⟨o,e⟩:=SI b hb;Qfd (Qau e)
 have IY:=Af I2 Ag iJ jj J4 f2 SI (t':=s2.toks+(([]:List (Str×Value)):)) NX NW old
 have WN:∀b,s2.heap.objs.size<=b->b∉BG X.stack:=λb hb hs=>by
  rcases Qak.mp (I2.qH b hs) with z | z
  ·exact absurd (Qa2 I2.lt hb) (by rw[z];exact Qbu _)
  ·exact I2.Ng hb z
 walk_at"E"
 have SM:∀x c,(jv X.env scope.names []).lookup x=some c->c≠s2.heap.objs.size:=λx c e z=>by
  obtain ⟨v,q⟩:=I2.cell x c (mE e)
  exact absurd (q.lt) (by rw[z];exact Qbu _)
 have fY:∀{pl:List (Addr×Obj)} {H':Hp},(∀p∈pl,p.1=s2.heap.objs.size)->(∀b∈fp,H' b=none)->∀b∈fp,pV (cq X scope P2.objs.size Nc s2 H2 fp) pl H' b:=λ{pl H'} gQ hn b hb=>by
  refine ⟨hn b hb,?_,?_,.inl hb,λx c e=>(f2 b hb).2.2.2.2.1 x c (mE e),λp hp=>?_⟩
  ·obtain ⟨o,e⟩:=SI b hb
   exact Ni b (Qau e)
  ·intro hs
   rcases Qak.mp (I2.qH b hs) with z | z
   ·exact (f2 b hb).2.1 z
   ·exact (f2 b hb).2.2.1 z
  ·rw[gQ p hp]
   exact YX b hb
 have loop:∀s₃:Shared,s₃={ s2 with heap:=h₁,toks:=s2.toks+(([]:List (Str×Value)):) }->
   codeAny (model X.prog X.w) X.A (.compLoop (.ListComp elt [⟨tg,iter,ifs,0⟩] scope pos) 0 (.ref it) (.ref s2.heap.objs.size) (compEnvC scope (jv X.env scope.names []) P2.objs.size X.env)) (RR (.ref s2.heap.objs.size) P2.objs.size) s₃:=by
  rintro s₃ rfl
  refine v7 (λn s'=>∃i acc its nn H',Inv (cq X scope P2.objs.size Nc s2 H2 fp) [] (mD σ ix) H' s'/\tn i s'.heap/\(∀b∈fp,H' b=none)/\
   s'.heap.get? s2.heap.objs.size=some { cls:= .type "list",data:= .seq (its:List Value).toArray nn }/\Vals acc its/\H' s2.heap.objs.size=none/\W i n acc H') ?_ m0
   ⟨0,[],[],0,H2,IY,YW,λb hb=>(f2 b hb).1,Ah,.nil,I2.cy.fresh (YS _),w0⟩
  rintro n s3 ⟨i,acc,its,nn,H3,I3,Nw,Se,eD,rv,nD,w3⟩
  obtain ⟨hz,alt⟩:=turn i n acc H3 w3
  have IP:Inv (cq X scope P2.objs.size Nc s2 H2 fp) [(s2.heap.objs.size,{ cls:= .type "list",data:= .seq its.toArray nn })] (mD σ ix) H3 s3:=I3.mi λp hp=>by
   have e:p=(s2.heap.objs.size,_):=Qab.mp hp
   subst e
   refine ⟨eD,nD,NV,WN _ (YS _),λv z=>?_⟩
   have z':Data.seq its.toArray nn=Data.cell v:=z
   cases z'
  have gQ:∀p∈[(s2.heap.objs.size,({ cls:= .type "list",data:= .seq its.toArray nn }:Obj))],p.1=s2.heap.objs.size:=λp hp=>by
   have e:p=(s2.heap.objs.size,_):=Qab.mp hp
   rw[e]
  rcases alt with ⟨stop,fin⟩ | ⟨go,step⟩
  ·refine cJ (T.done (cq X scope P2.objs.size Nc s2 H2 fp) rfl rfl rfl lq i _ s3 _ H3 Jr IP (fY gQ Se) Nw stop) λr s4 zz=>?_
   obtain ⟨hr,I4⟩:=zz
   subst hr
   obtain ⟨m,hn,_⟩:=id I4.loc
   obtain ⟨oC,es,ep,eC,dC,_⟩:=id hn
   have eD4:=(I4.pin (s2.heap.objs.size,_) (Qa9 _ (Qab.mpr rfl))).1
   have WO:=fin _ nD
   refine hRR _ _ oC m _ s4 eC hn ?_ (DZ I2 I4 f2 (YS _) NX NV eD4 rv (Qbo hz) nD eC λv z=>?_) WO
   ·refine I2.pW NX ?_
    rw[aq (Ne.symm NV)]
    exact I4.free
   ·rw[dC]at z;cases z
  ·refine cJ (T.item (cq X scope P2.objs.size Nc s2 H2 fp) rfl rfl rfl lq i _ s3 _ H3 Jr IP (fY gQ Se) Nw go) λr s4 zz=>?_
   obtain ⟨u,hr,h4⟩:=zz
   subst hr
   refine cJ h4 λ_ s5 zz=>?_
   obtain ⟨x,H5,I5,r5,y5,Jo,Wq⟩:=zz
   have Wr:=I5.pinned (fY gQ Wq) (T.obj _ _ Jo)
   refine cJ (hG _ s2 H2 fp _ s5 _ H5 x u _ Wr r5 (step x H5 y5)) λ_ s6 zz=>?_
   obtain ⟨σ6,H6,I6,wk,q6⟩:=zz
   refine cJ (hT _ s2 H2 fp _ s6 σ6 H6 _ I6 q6) λb s7 zz=>?_
   obtain ⟨H7,I7,q7⟩:=zz
   have again:∀{H9:Hp} {s9:Shared} {m':Nat},Inv (cq X scope P2.objs.size Nc s2 H2 fp) ([(s2.heap.objs.size,({ cls:= .type "list",data:= .seq its.toArray nn }:Obj))]++qK fp s5.heap) σ6 H9 s9->
     (s9.heap.get? s2.heap.objs.size=some { cls:= .type "list",data:= .seq its.toArray nn }/\H9 s2.heap.objs.size=none)/\tn (i+1) s9.heap/\(∀b∈fp,H9 b=none)/\Inv (cq X scope P2.objs.size Nc s2 H2 fp) [] (mD σ ix) H9 s9:=λ{H9 s9 m'} I9=>by
    have pD:=I9.pin (s2.heap.objs.size,_) (Qa9 _ (Qeg _ (Qab.mpr rfl)))
    refine ⟨⟨pD.1,pD.2.1⟩,T.keep _ _ _ Jo λb hb o e=>(I9.pin (b,o) (Qa9 _ (Qa9 _ (iY hb e)))).1,λb hb=>?_,?_⟩
    ·obtain ⟨o,e,d⟩:=T.obj _ _ Jo b hb
     exact (I9.pin (b,o) (Qa9 _ (Qa9 _ (iY hb e)))).2.1
    ·exact (I9.weak wk.len λi v e=>wk.get e).mi λp hp=>absurd hp (by simp)
   cases b with
   | false=>
    rw[if_neg Qap]at q7 ⊢
    obtain ⟨m',hm,w7⟩:=q7
    obtain ⟨⟨e7,n7⟩,t7,f7,J7⟩:=again (m':=0) I7
    exact ⟨m',hm,i+1,acc,its,nn,H7,J7,t7,f7,e7,rv,n7,w7⟩
   | true=>
    rw[if_pos rfl]at q7 ⊢
    refine cJ (hE _ s2 H2 fp _ s7 σ6 H7 _ I7 q7) λy s8 zz=>?_
    obtain ⟨v,H8,I8,r8,m',hm,w8⟩:=zz
    obtain ⟨⟨e8,n8⟩,t8,f8,J8⟩:=again (m':=0) I8
    refine wpAny_list_append_plain (items:=its.toArray) ⟨nn,e8⟩ (λh9 hl9 YY=>?_) (by rw[Qah, <-(rv:)];exact Qbo hz)
    obtain ⟨n9,e9⟩:=hl9
    refine ⟨m',hm,i+1,acc++[v],its++[y],n9,H8,J8.turned (t':=s8.toks) (λb o hb e=>(YY.2 b hb).trans e) n8 NV (.inr (YS _)) SM (λp hp=>absurd hp (by simp[cq])),?_,f8,?_,rv.append (.cons r8 .nil),n8,w8⟩
    ·exact T.keep _ _ _ t8 λb hb o e=>(YY.2 b (Ne.symm (YX b hb))).trans e
    ·simpa using e9
 exact codeAny_compStart_list (loop _ rfl) (T.self _ 0 _ _ _ YW (loop _ rfl))
theorem J6{X:Cx}{tg iter elt:Expr}{ifs:List Expr}{scope:Scope}{pos:Pos}{wi:TI}{g:TG}{tc:TT}{te:TE}(Nc:List Str)(ix:List (Option Nat))(hi:PI X tg iter wi)(lq:X.calm=true)(Ag:kW X scope Nc ix)
  (iJ:∀y∈scope.names,y.2≠ .cell) (jj:scope.kind= .function) (J4:∀y∈scope.names,y.2= .free->X.env.kindOf y.1=some .cell\/X.env.kindOf y.1=some .free)
  (Ai:∀x∈scope.names,x.2= .local->scope.names.lookup x.1=some .local)
  (hG:∀C s H fp,PG (cq X scope C Nc s H fp) tg g) (hT:∀C s H fp,PF (cq X scope C Nc s H fp) ifs tc) (hE:∀C s H fp,PE (cq X scope C Nc s H fp) elt te)
  (hs:∀x,foldedSetIterable iter X.env x=pure x:=by intro _;rfl):PE X (.ListComp elt [⟨tg,iter,ifs,0⟩] scope pos) (ym wi ix g tc te):=by
 walk_at"h"
 rw[eval_ListComp]
 walk_at"o"
 refine wpAny_comprehension_free (use:=none) rfl hs (lj Qj) jj Ai (uN hi lq Ag iJ jj J4 hG hT hE I h (RR:=λacc C=>compPost (model X.prog X.w) X.A X.xe none (EP X pins σ Q) acc C) ?_)
 intro D C oC m H' s' eC hn fC I' q
 refine ⟨m,hn,λh' SN=>⟨.ref D,H',?_,rfl,q⟩⟩
 exact I'.jH.turned (t':=s'.toks) (λb o hb e=>(SN.2 b hb).trans e) fC.1 fC.2.1 fC.2.2.2.1 fC.2.2.2.2.1 fC.2.2.2.2.2
theorem J9{X:Cx}{i:Nat}{x:Str}{tg iter elt:Expr}{ifs:List Expr}{scope:Scope}{pos FV pos':Pos}{wi:TI}{g:TG}{tc:TT}{te:TE}(Nc:List Str)(ix:List (Option Nat))(hN:X.N.Nodup)(BU:X.N[i]? =some x)(hx:Loc X.env.scope x)
  (Mj:swapsWith (.ListComp elt [⟨tg,iter,ifs,0⟩] scope pos) (some (.Name x pos')) FV.line X.env=pure true) (hi:PI X tg iter wi) (lq:X.calm=true) (Ag:kW X scope Nc ix)
  (iJ:∀y∈scope.names,y.2≠ .cell) (jj:scope.kind= .function) (J4:∀y∈scope.names,y.2= .free->X.env.kindOf y.1=some .cell\/X.env.kindOf y.1=some .free)
  (Ai:∀x∈scope.names,x.2= .local->scope.names.lookup x.1=some .local)
  (hG:∀C s H fp,PG (cq X scope C Nc s H fp) tg g) (hT:∀C s H fp,PF (cq X scope C Nc s H fp) ifs tc) (hE:∀C s H fp,PE (cq X scope C Nc s H fp) elt te)
  (hs:∀x,foldedSetIterable iter X.env x=pure x:=by intro _;rfl) (hf:X.fn x=true\/X.env.scope.names.lookup x=some .local:=by first | exact .inl rfl | exact .inr rfl | assumption):
  PS X (.Assign [.Name x pos'] (.ListComp elt [⟨tg,iter,ifs,0⟩] scope pos) FV) (JP (ym wi ix g tc te) (uD i)):=by
 intro pins s σ H E I h
 walk_at"o"
 rw[exec_Assign_Name_used _ _ _ _ Mj]
 refine wpAny_bind (wpAny_standAt (wpAny_bind ?_))
 show wpAny _ X.A (do let _ <-comprehension (.ListComp elt [⟨tg,iter,ifs,0⟩] scope pos) scope X.env _ (newList []) false (eval iter X.env) (some (assign (.Name x pos') X.env))) _ _ s
 refine wpAny_bind (wpAny_mono (wpAny_comprehension_free (use:=some (assign (.Name x pos') X.env)) (Q:=λ_ s'=>SP X pins E .next s') rfl hs (lj Qj) jj Ai
  (uN hi lq Ag iJ jj J4 hG hT hE I h (RR:=λacc C=>compPost (model X.prog X.w) X.A X.xe (some (assign (.Name x pos') X.env)) (λ_ s'=>SP X pins E .next s') acc C) ?_)) (λ_ s' hq=>wpAny_pure (wpAny_pure hq)) λ_ _ e=>e)
 intro D C oC m H' s' eC hn fC I' q
 show wpAny _ X.A (assign (.Name x pos') X.env (.ref D)) _ _ _
 refine wpAny_assign_Name (mj I' hN BU hx (show RelV (.ref D) _ from rfl) (λNF YZ=>?_) hf)
 have pC:=YZ.pin (C,oC) (Qa9 _ (Qa9 _ (Qab.mpr rfl)))
 refine ⟨m,?_,λh' SN=>?_⟩
 ·obtain ⟨o,es,ep,e,r⟩:=hn
  rw[eC]at e;cases e
  exact ⟨oC,es,ep,pC.1,r⟩
 ·refine ⟨_,H',YZ.jH.turned (t':=NF.toks) (λb o hb e=>(SN.2 b hb).trans e) fC.1 fC.2.1 fC.2.2.2.1 fC.2.2.2.2.1 fC.2.2.2.2.2,q⟩
noncomputable def S(l:Z):Str:=⟨l.toArray⟩
theorem fK(l:Z):(S l).cps.toList=l:=by simp[S]
theorem dY(l:Z):(S l:)=(l:):=by simp[S,Str.length]
theorem nY(l:Z):(S l).cps.size=(l:):=by simp[S]
theorem SO{a b:Z}(h:S a=S b):a=b:=by
 have:=congrArg (λx:Str=>x.cps.toList) h
 simpa [S]using this
theorem SQ(x:Str):x=S x.cps.toList:=by cases x;simp[S]
theorem SR(a b:Z):S a++S b=S (a++b):=by
 apply Str.ext'
 apply Qe5.mp
 simp[S,Str.cps_append]
theorem Ml{a b:Z}:decide (V.str (S a)=V.str (S b))=decide (a=b):=by
 by_cases h:a=b
 ·subst h;simp
 ·rw[decide_eq_false h,decide_eq_false]
  intro q
  exact h (SO (V.str.inj q))
noncomputable def cut{α:Type}(xs:List α)(lo hi:Option Int):List α:=(xs.drop (HT.jk (xs:) 0 lo)).take (HT.jk (xs:) (xs:) hi - HT.jk (xs:) 0 lo)
theorem yn(n d:Nat)(v:Int):max 0 (min (if v<0 then v+(n:Int) else v) (n:Int))=((HT.jk n d (some v):Nat):Int):=by
 show _=(((if v<0 then (v+(n:Int)).toNat else min v.toNat n):Nat):Int)
 by_cases hv:v<0
 ·simp only[if_pos hv];lia
 ·simp only[if_neg hv];lia
theorem ph(lo hi:Option Int)(n:Nat):Builtin.Str.strSliceIndices lo hi 1 n=(List.range (HT.jk n n hi - HT.jk n 0 lo)).map (HT.jk n 0 lo+ ·):=by
 have h1:(1:Int)>0:=by decide
 rw[<-sliceRange_one]
 unfold Builtin.Str.strSliceIndices
 simp only[h1,if_true]
 congr 1
 ·cases lo with
  | none=>rfl
  | some v=>exact yn n 0 v
 ·cases hi with
  | none=>rfl
  | some v=>exact yn n n v
theorem J_(l:Z)(lo hi:Option Int):Txt.slice (S l) lo hi=S (cut l lo hi):=by
 have hx:((Builtin.Str.strSliceIndices lo hi 1 (S l:)).filterMap ((S l).cps[·]?))=cut l lo hi:=by
  rw[dY,ph,pick_run,fK]
  rfl
 have hlen:(Builtin.Str.strSliceIndices lo hi 1 (S l:):)=HT.jk (l:) (l:) hi - HT.jk (l:) 0 lo:=by
  rw[dY,ph,Qi,Qck]
 unfold Txt.slice
 by_cases hc:((1:Int)==1&&(Builtin.Str.strSliceIndices lo hi 1 (S l:):)==(S l:))=true
 ·rw[if_pos hc]
  rw[hlen,dY]at hc
  have e:HT.jk (l:) (l:) hi - HT.jk (l:) 0 lo=(l:):=by simpa using hc
  have h2:=HT.NG (l:) (l:) (YS _) hi
  have e0:HT.jk (l:) 0 lo=0\/(l:)=0:=by lia
  unfold cut
  rw[e]
  rcases e0 with z | z
  ·rw[z];simp
  ·have:l=[]:=Qeh z
   subst this
   simp
 ·rw[if_neg hc]
  rw[hx]
  rfl
section
variable{X:Cx}
theorem nZ{x:Str}{j pos}(l:Z)(h:x=S l):PE X (.Constant (.str x) j pos) (tC (.str (S l))):=by
 subst h
 exact Nl
def SU:R2:=λx y H Q=>∃a b,x= .str (S a)/\y= .str (S b)/\(a:)+(b:)<=sizeLine/\Q (.str (S (a++b))) H
theorem fj:js X (binaryOp .Add) SU:=by
 walk_at"b"
 obtain ⟨a,b,rfl,rfl,hz,q⟩:=h
 exact zW pins s σ H _ _ v u Q I rx ry ⟨S a,S b,rfl,rfl,by rw[dY,dY];exact hz,by rw[SR];exact q⟩
def SV:R2:=λx y H Q=>∃l i c,x= .str (S l)/\y= .int i/\(l:)<=sizeLine/\tL l i=some c/\Q (.str (S [c])) H
theorem iM:NH X SV:=by
 walk_at"P"
 obtain ⟨l,i,c,rfl,rfl,hz,he,q⟩:=h
 exact NJ value slice pins s σ H _ _ v u Q I rx ry ⟨S l,i,c,rfl,rfl,by rw[dY];exact hz,by rw[fK];exact he,q⟩ hs
def WQ:V->Option Int->Option Int->Hp->VK->Prop:=λx lo hi H Q=>∃l,x= .str (S l)/\(l:)<=sizeLine/\Q (.str (S (cut l lo hi))) H
theorem kX:UZ X WQ:=by
 intro pins s σ H x v vl vu lo hi sl Q I rx hs pl pu h
 obtain ⟨l,rfl,hz,q⟩:=h
 walk_at"g"
 refine ⟨"str",_,F.slot_str_getitem.lookup,typeIs_str _ _ _,?_⟩
 have key:∀(a b:Option (Int×Tok)),vl=partValue a->vu=partValue b->a.map (·.1)=lo->b.map (·.1)=hi->wpAny (model X.prog X.w) X.A (getItem (.str (S l) t) (.ref sl)) (EP X pins σ Q) X.xe s:=by
  rintro a b rfl rfl rfl rfl
  obtain ⟨o,e,c,d⟩:=hs
  refine wpAny_getItem_str_slice (l:=a) (u:=b) (st:=none) ⟨o,e,c,d⟩ rfl (post_val_or_str ⟨?_,λt' k=>?_⟩)
  ·exact Qbf (Txt.slice_le (S l) _ _) (by rw[dY];exact hz)
  ·exact ⟨.str (S (cut l _ _)),H,I.tok _,⟨t',congrArg (λz=>Value.str z t') (J_ l _ _)⟩,q⟩
 cases pl with
 | none=>
  cases pu with
  | none=>exact key none none rfl rfl rfl rfl
  | int i ti=>exact key none (some (i,ti)) rfl rfl rfl rfl
 | int i ti=>
  cases pu with
  | none=>exact key (some (i,ti)) none rfl rfl rfl rfl
  | int j tj=>exact key (some (i,ti)) (some (j,tj)) rfl rfl rfl rfl
theorem aU:dM X (.builtin "len") (λxs H Q=>∃l,xs=[.str (S l)]/\(l:)<=sizeLine/\Q (.int (l:)) H):=by
 walk_at"f"
 obtain ⟨l,rfl,hz,q⟩:=h
 exact vY pins s σ H _ us Q I r ⟨S l,rfl,by rw[dY];exact hz,by rw[dY];exact q⟩
noncomputable def cT(l:Z):List V:=l.map λc=>V.str (S [c])
theorem Aj{l:Z}:∀{acc:List Value},(acc:)=(l:)->(∀j v,acc[j]? =some v->SignAt (S l) j v)->Vals (cT l) acc:=by
 induction l with
 | nil=>intro acc h _;have:acc=[]:=Qeh h;subst this;exact .nil
 | cons c l ih=>
  intro acc h k
  cases acc with
  | nil=>cases h
  | cons a acc=>
   refine .cons ?_ (ih (by simpa using h) λj v e=>?_)
   ·obtain ⟨c',u,e1,e2⟩:=k 0 a rfl
    have:c=c':=by simpa [S]using e1
    subst this
    exact ⟨u,e2⟩
   ·obtain ⟨c',u,e1,e2⟩:=k (j+1) v (by simpa using e)
    exact ⟨c',u,by simpa [S]using e1,e2⟩
theorem qQ(hc:X.calm=true):dM X (.type "list") (λxs H Q=>∃l,xs=[.str (S l)]/\(l:)<=sizeLine/\∀p,H p=none->Q (.ref p) (upd H p (.lst (cT l)))):=by
 walk_at"f"
 obtain ⟨l,rfl,hz,q⟩:=h
 obtain ⟨u,rfl,t,rfl⟩:=vals1 r
 refine call_list_str (I.ok.hd hc) (S l) t (λh' tk cA c' hk e Ah=>?_) (by rw[nY];exact hz)
 obtain ⟨h1,h2⟩:=Ah
 rw[nY]at h1
 refine ⟨.ref s.heap.objs.size,_,I.laid (t':=tk) (o:= .lst (cT l)) hk (YS _) ?_,rfl,q _ I.fresh⟩
 exact ⟨by unfold cT;rw[Qi];exact hz,cA.toList,c',Aj (by simpa using h1) (λj v e=>h2 j v (by simpa using e)),by simpa using e⟩
def WR:R2:=λx y H Q=>∃c l,x= .str (S [c])/\y= .str (S l)/\Q (.bl (decide (c∈l))) H
theorem FW:js X (compareOp .In) WR:=by
 walk_at"b"
 obtain ⟨c,l,rfl,rfl,q⟩:=h
 refine DJ pins s σ H _ _ v u Q I rx ry ⟨S [c],S l,rfl,rfl,?_⟩
 have e:=StrLaws.found_one (S l) c
 rw[fK]at e
 rw[show (S [c])=(⟨#[c]⟩:Str) from rfl,e]
 exact q
end
theorem uO(s sub:Str)(hi:Nat):∀(l:Z) (st:Array Nat×Nat),1<=st.fst.size->(forIn l st (StrLaws.occBody s sub hi 1)).run.fst=st.fst
 | [],st,h=>rfl
 | a::l,st,h=>by
  rw[Qek]
  unfold StrLaws.occBody
  rw[if_neg (λz=>absurd z.1.1.1 (Qfc.mpr h))]
  exact uO s sub hi l _ h
theorem occ_first(s sub:Str)(hi:Nat):∀(l:Z) (free:Nat),(∀i∈l,free<=i)->
  (forIn l ((#[]:Array Nat),free) (StrLaws.occBody s sub hi 1)).run.fst.toList=(l.find? λi=>decide (i+(sub:)<=hi)&&Builtin.Str.subAt s sub i).toList
 | [],free,_=>rfl
 | a::l,free,hf=>by
  rw[Qek,Qcp]
  unfold StrLaws.occBody
  have ha:free<=a:=hf a Qac
  by_cases hc:a+(sub:)<=hi/\Builtin.Str.subAt s sub a=true
  ·rw[if_pos ⟨⟨⟨by simp,ha⟩,hc.1⟩,hc.2⟩]
   have:(decide (a+(sub:)<=hi)&&Builtin.Str.subAt s sub a)=true:=by simp[hc]
   rw[this]
   show (forIn l (#[].push a,a+(sub:)) (StrLaws.occBody s sub hi 1)).run.fst.toList=_
   rw[uO s sub hi l _ (by simp)]
   rfl
  ·rw[if_neg (λz=>hc ⟨z.1.2,z.2⟩)]
   have:(decide (a+(sub:)<=hi)&&Builtin.Str.subAt s sub a)=false:=by
    cases h1:decide (a+(sub:)<=hi) with
    | false=>rfl
    | true=>
     cases h2:Builtin.Str.subAt s sub a with
     | false=>rfl
     | true=>exact absurd ⟨of_decide_eq_true h1,h2⟩ hc
   rw[this]
   exact occ_first s sub hi l free λi jw=>hf i (Qae _ jw)
theorem subAt_one(l:Z)(c i:Nat):Builtin.Str.subAt (S l) (S [c]) i=(l[i]? ==some c):=by
 unfold Builtin.Str.subAt
 rw[dY]
 show ((S l).cps.extract i (i+1)== #[c])=_
 have e:((S l).cps.extract i (i+1))=((l.drop i).take 1).toArray:=by
  apply Qe5.mp
  simp[S,List.take_drop]
 rw[e]
 by_cases h:i<(l:)
 ·have e2:(l.drop i).take 1=[l[i]]:=by
   rw[Qbj h];rfl
  rw[e2,NT h]
  by_cases hc:l[i]=c
  ·rw[hc];simp
  ·have h1:([l[i]].toArray== #[c])=false:=by
    rw[beq_eq_false_iff_ne]
    intro z
    apply hc
    have:=congrArg Array.toList z
    simpa using this
   have h2:(some l[i]==some c)=false:=by simpa using hc
   rw[h1,h2]
 ·have e2:(l.drop i).take 1=[]:=by rw[Qdh ()];rfl
  rw[e2,Qbv ()]
  rfl
theorem qR(l:Z)(c:Nat):∀(k n:Nat),k+n=(l:)+1->((List.range' k n).find? λi=>decide (i+1<=(l:))&&(l[i]? ==some c))=if c∈l.drop k then some (k+(l.drop k).idxOf c) else none
 | k,0,h=>by
  have:l.drop k=[]:=Qdh ()
  rw[this];simp
 | k,n+1,h=>by
  rw[List.range'_succ,Qcp]
  by_cases hk:k<(l:)
  ·have e:l.drop k=l[k]::l.drop (k+1):=Qbj hk
   rw[NT hk,e]
   by_cases hc:l[k]=c
   ·have:(decide (k+1<=(l:))&&(some l[k]==some c))=true:=by simp[hc];lia
    rw[this,if_pos (by simp[hc])]
    simp[hc]
   ·have:(decide (k+1<=(l:))&&(some l[k]==some c))=false:=by simp[hc]
    rw[this,qR l c (k+1) n ()]
    have iW: ¬c=l[k]:=λz=>hc z.symm
    by_cases hm:c∈l.drop (k+1)
    ·rw[if_pos hm,if_pos (Qae _ hm),Qge]
     have:(l[k]==c)=false:=by simpa using hc
     rw[this]
     show some (k+1+List.idxOf c (List.drop (k+1) l))=some (k+(List.idxOf c (List.drop (k+1) l)+1))
     congr 1
     lia
    ·rw[if_neg hm,if_neg (by intro z;rcases Qak.mp z with z | z;exact iW z;exact hm z)]
  ·have:l.drop k=[]:=Qdh ()
   have e1:(decide (k+1<=(l:))&&(l[k]? ==some c))=false:=by
    rw[decide_eq_false ()];rfl
   have e2:l.drop (k+1)=[]:=Qdh ()
   rw[e1,qR l c (k+1) n (),this,e2]
   simp
theorem Mm(l:Z)(c:Nat):Builtin.Str.occurrences (S l) (S [c]) 0 (S l:) 1=if c∈l then [l.idxOf c] else []:=by
 rw[StrLaws.occ_eq,occ_first _ _ _ _ 0 λ_ _=>Qao _]
 have e:(λi=>decide (i+(S [c]:)<=(S l:))&&Builtin.Str.subAt (S l) (S [c]) i)=λi=>decide (i+1<=(l:))&&(l[i]? ==some c):=by
  funext i
  rw[subAt_one,dY,dY]
  rfl
 rw[e,dY,Nat.sub_zero,qR l c 0 ((l:)+1) (),List.drop_zero]
 by_cases h:c∈l
 ·rw[if_pos h,if_pos h,Qd5];rfl
 ·rw[if_neg h,if_neg h];rfl
section
variable{X:Cx}
def Ka:V->List V->Hp->VK->Prop:=λx vs H Q=>∃l c,x= .str (S l)/\vs=[.str (S [c])]/\c∈l/\Q (.int (l.idxOf c:Nat)) H
theorem n_:BQ X "str.index" Ka:=by
 walk_at"t"
 obtain ⟨l,c,rfl,rfl,hc,q⟩:=h
 walk_at"g"
 obtain ⟨u,rfl,t',rfl⟩:=vals1 rv
 exact SC.index (i:=l.idxOf c) (rest:=[]) (by rw[Mm,if_pos hc]) ⟨.int (l.idxOf c:Nat),H,I.tok _,⟨_,rfl⟩,q⟩
def NY:V->List V->Hp->VK->Prop:=λx vs H Q=>∃l c,x= .str (S l)/\vs=[.str (S [c])]/\Q (.int (if c∈l then (l.idxOf c:Nat) else -1)) H
theorem yo:BQ X "str.find" NY:=by
 walk_at"t"
 obtain ⟨l,c,rfl,rfl,q⟩:=h
 walk_at"g"
 obtain ⟨u,rfl,t',rfl⟩:=vals1 rv
 refine SC.find ⟨.int _,H,I.tok _,⟨_,rfl⟩,?_⟩
 have e:Txt.find (S l) (S [c])=(if c∈l then ((l.idxOf c:Nat):Int) else -1):=by
  unfold Txt.find
  rw[Mm]
  by_cases h:c∈l
  ·rw[if_pos h,if_pos h]
  ·rw[if_neg h,if_neg h]
 rw[e]
 exact q
def Mn(f:Nat->Bool):V->List V->Hp->VK->Prop:=λx vs H Q=>∃c,x= .str (S [c])/\vs=[]/\c<128/\Q (.bl (f c)) H
def SX(f:Nat->Nat):V->List V->Hp->VK->Prop:=λx vs H Q=>∃c,x= .str (S [c])/\vs=[]/\c<128/\Q (.str (S [f c])) H
noncomputable def az(c:Nat):Bool:=decide (97<=c)&&decide (c<=122)
noncomputable def isUp(c:Nat):Bool:=decide (65<=c)&&decide (c<=90)
theorem Kb:∀c,c<128->Txt.islower ⟨#[c]⟩=az c:=⋯
theorem NZ:∀c,c<128->Txt.isupper ⟨#[c]⟩=isUp c:=⋯
theorem lM:BQ X "str.islower" (Mn az):=by
 walk_at"t"
 obtain ⟨c,rfl,rfl,hc,q⟩:=h
 walk_at"g"
 have e:us=[]:=by cases rv;rfl
 subst e
 exact SC.islower ⟨.bl (az c),H,I,congrArg Value.bool (Kb c hc),q⟩
theorem Ak:BQ X "str.isupper" (Mn isUp):=by
 walk_at"t"
 obtain ⟨c,rfl,rfl,hc,q⟩:=h
 walk_at"g"
 have e:us=[]:=by cases rv;rfl
 subst e
 exact SC.isupper ⟨.bl (isUp c),H,I,congrArg Value.bool (NZ c hc),q⟩
theorem upper_one{c:Nat}(hc:c<128):Txt.upper (S [c])=S [up1 c]:=by
 rw[upper_ascii (by intro d hd;rw[fK]at hd;simp at hd;lia)]
 simp[S]
theorem uQ{c:Nat}(hc:c<128):Txt.lower (S [c])=S [lo1 c]:=by
 rw[lower_ascii (by intro d hd;rw[fK]at hd;simp at hd;lia)]
 simp[S]
theorem Mo(c:Nat):Builtin.Str.tooLong (S [c]:)=false:=by
 rw[dY]
 show Builtin.Str.tooLong 1=false
 decide
theorem FX:BQ X "str.upper" (SX up1):=by
 walk_at"t"
 obtain ⟨c,rfl,rfl,hc,q⟩:=h
 walk_at"g"
 have e:us=[]:=by cases rv;rfl
 subst e
 exact SC.upper (by rw[upper_one hc];exact Mo _) ⟨.str (S [up1 c]),H,I.tok _,⟨_,congrArg (λz=>Value.str z _) (upper_one hc)⟩,q⟩
theorem qS:BQ X "str.lower" (SX lo1):=by
 walk_at"t"
 obtain ⟨c,rfl,rfl,hc,q⟩:=h
 walk_at"g"
 have e:us=[]:=by cases rv;rfl
 subst e
 exact SC.lower (by rw[uQ hc];exact Mo _) ⟨.str (S [lo1 c]),H,I.tok _,⟨_,congrArg (λz=>Value.str z _) (uQ hc)⟩,q⟩
theorem FY:∀(ls:List Z) (a:Array Nat),(ls.map S).foldl (λacc p=>acc++(S []).cps++p.cps) a=a++ls.flatten.toArray
 | [],a=>by simp
 | l::ls,a=>by
  rw[Qav,Qc8,FY ls]
  simp[S]
theorem N3(ls:List Z):Txt.join (S []) (ls.map S)=S ls.flatten:=by
 unfold Txt.join Builtin.Str.glued
 cases ls with
 | nil=>rfl
 | cons l ls=>
  show Str.mk ((List.map S ls).foldl (λacc p=>acc++(S []).cps++p.cps) (S l).cps)=_
  rw[FY]
  simp[S]
theorem qT:∀{ls:List Z} {us:List Value},Vals (ls.map λl=>V.str (S l)) us->StrsAre us (ls.map S)
 | [],us,r=>by cases r;exact .nil
 | l::ls,us,r=>by
  cases r with
  | cons r1 r2=>
   walk_at"4"
   exact .cons _ t (qT r2)
def FZ(K:Fr):V->List V->Hp->VK->Prop:=λx vs H Q=>∃(p:Addr) (ls:List Z),x= .str (S [])/\vs=[.ref p]/\bf K H p (ls.map λl=>V.str (S l))/\(ls.map List.length).sum<=16777216/\Q (.str (S ls.flatten)) H
theorem F_:BQ X "str.join" (FZ X.K):=by
 walk_at"t"
 obtain ⟨p,ls,rfl,rfl,hq,hz,q⟩:=h
 walk_at"g"
 obtain ⟨u,rfl,ru⟩:=vals1 rv
 cases ru
 obtain ⟨its,r,pl,_⟩:=I.list hq
 have e:(S []:)=0:=rfl
 refine join_list pl.isList (by simpa using qT r) ?_ λt' k=>?_
 ·rw[e,Nat.mul_zero,Nat.add_zero,Qbq]
  have e2:(Str.length ∘ S)=List.length:=by funext l;exact dY l
  have e3:((λx:Str=>(x:)) ∘ S)=List.length:=by funext l;exact dY l
  first | (rw[e2];exact hz) | (rw[e3];exact hz)
 ·exact ⟨.str (S ls.flatten),H,I.tok _,⟨t',congrArg (λz=>Value.str z t') (N3 ls)⟩,q⟩
theorem D0(hc:X.calm=true):dM X (.builtin "all") (λxs H Q=>∃(p:Addr) (bs:List Bool),xs=[.ref p]/\bf X.K H p (bs.map V.bl)/\Q (.bl (bs.all id)) H):=by
 walk_at"f"
 obtain ⟨p,bs,rfl,hq,q⟩:=h
 obtain ⟨u,rfl,ru⟩:=vals1 r
 cases ru
 obtain ⟨its,rv,pl,hz⟩:=I.list hq
 have hlen:(its:)=(bs:):=by rw[<-(rv:),Qi]
 have hp:p<s.heap.objs.size:=by
  obtain ⟨o,n,e,_⟩:=pl
  exact Qau e
 refine call_all_walk (wpAny_pyIter_list pl.isList ?_)
 refine ⟨s.heap.objs.size,_,_,_,_,_,λi=>(bs[i]?).getD true,rfl,Walks.list (A:=X.A.in1) (I.ok.hd hc) s.heap.objs.size p (Qay hp) its.toArray,⟨⟨_,Qat _ rfl,rfl,rfl⟩,?_⟩,λi v s' Q' E' hP hQ=>?_,λh' tk hk=>?_⟩
 ·obtain ⟨o,ho,hr⟩:=pl.isList
  exact ⟨o,YT _ ho,hr⟩
 ·have U4:its[i]? =some v:=by simpa using hP
  have hi:i<(bs:):=by rw[<-hlen];exact (NU.mp U4).1
  have hb:(bs.map V.bl)[i]? =some (V.bl bs[i]):=by rw[Qag,NT hi];rfl
  obtain ⟨u,hu,ru⟩:=rv.get hb
  rw[U4]at hu;cases hu
  cases (show v=Value.bool bs[i] from ru)
  have e:(bs[i]?).getD true=bs[i]:=by rw[NT hi];rfl
  have Y0:Q' ((bs[i]?).getD true) s':=hQ
  rw[e]at Y0
  exact wpAny_pure Y0
 ·have e:((List.range its.toArray.size).all λi=>(bs[i]?).getD true)=bs.all id:=by
   rw[Qah,hlen]
   clear hq rv hlen q
   rw[Qdk,Qc3,Qc3]
   constructor
   ·intro h b hb
    obtain ⟨i,hi,e⟩:=Qdb hb
    have:=h i (Qax.mpr hi)
    rw[NT hi,e]at this
    exact this
   ·intro h i hi
    have jw:=Qax.mp hi
    rw[NT jw]
    exact h _ (Qa1 jw)
  have I1:Inv X pins σ H { s with heap:=h',toks:=tk }:=by
   have I0:Inv X pins σ H { s with heap:=s.heap.push { cls:= .type "list_iterator",data:= .fields #[.ref p,.int 0 0] } }:=I.kept (t':=s.toks) λb o e=>YT _ e
   have f:=I.pW (H':=H) (b:=s.heap.objs.size) (YS _) I.fresh
   have J:=I0.turned (h':=h') (t':=tk) (it:=s.heap.objs.size) (λb o hb e=>hk b o (by simpa using hb) e) f.1 f.2.1 f.2.2.2.1 f.2.2.2.2.1 f.2.2.2.2.2
   exact J
  exact ⟨.bl (bs.all id),H,I1,by rw[e];rfl,q⟩
end
end L2
namespace L2.F2
open PySem PySem.Spec PyProof.Rows
theorem uR:Manifest.owners.lookup (String.ofList ['d','e','s','r','e','v','e','r'].reverse)=some Manifest.sig_reversed:=by kernel_rfl
theorem bP:Slot "reversed" "__next__" "reversed.__next__":=
 .of (owner:="reversed") (n:="__next__") (by rw[typeLookup_type,builtinLookup_eq_fast];kernel_rfl) ⋯ ⋯ ⋯
  (by first | exact .inl ⋯ | exact .inr ⋯) (by rw[isSubtype_type];kernel_rfl)
theorem fk:entryFor table "reversed.__next__"=some Builtin.«reversed.__next__» :=entryFor_of_tree (by kernel_rfl)
theorem eK(a:Value):argsOk "reversed.__next__" ⟨[a],[]⟩:=by
 unfold argsOk;rw[signature?_of (id:="reversed.__next__") (n:=['_','_','t','x','e','n','_','_']) (o:=['d','e','s','r','e','v','e','r']) (by kernel_rfl) uR];kernel_rfl
theorem fS:Slot "reversed" "__iter__" "reversed.__iter__":=
 .of (owner:="reversed") (n:="__iter__") (by rw[typeLookup_type,builtinLookup_eq_fast];kernel_rfl) ⋯ ⋯ ⋯
  (by first | exact .inl ⋯ | exact .inr ⋯) (by rw[isSubtype_type];kernel_rfl)
theorem jl(a:Value):argsOk "reversed.__iter__" ⟨[a],[]⟩:=by
 unfold argsOk;rw[signature?_of (id:="reversed.__iter__") (n:=['_','_','r','e','t','i','_','_']) (o:=['d','e','s','r','e','v','e','r']) (by kernel_rfl) uR];kernel_rfl
theorem jL:entryFor table "reversed.__iter__"=some Builtin.«dict_keyiterator.__iter__» :=
 entryFor_alias (id':="dict_keyiterator.__iter__") (by kernel_rfl) (by first | rfl | decide+kernel | (unfold String.splitOn;simp+decide [String.splitOnAux])) ⋯ (by kernel_rfl)
theorem tX:Slot "reversed" "__init__" "object.__init__":=
 .of (owner:="object") (n:="__init__") (by rw[typeLookup_type,builtinLookup_eq_fast];kernel_rfl) ⋯ ⋯ ⋯
  (by first | exact .inl ⋯ | exact .inr ⋯) (by rw[isSubtype_type];kernel_rfl)
theorem qU:TypeCalled "reversed" "reversed.__new__" "object.__init__":=
 ⟨⋯,⋯,⟨_,_,F.mro_reversed⟩,F.made_reversed,⋯,by rw[isSubtype_type];kernel_rfl,tX⟩
theorem Al:typeLookup (.type "str") "__reversed__"=pure none:=by rw[typeLookup_type,builtinLookup_eq_fast];kernel_rfl
end L2.F2
namespace L2
open PySem PySem.Spec PyProof.Rows
theorem qV(x:Str)(t:Tok)(hz:(x:)<=sizeLine):Meets (Builtin.«reversed.__new__» ⟨[.type "reversed",.str x t],[]⟩) (λ_ R s=>∀tk,R (.ok (.ret (.ref s.heap.objs.size))) { s with heap:=s.heap.push { cls:= .type "reversed",data:= .fields #[.str x t,rawInt (((x:):Int) - 1)] },toks:=tk }):=by
 refine Meets.of_wp λprog w A R s h=>?_
 unfold Builtin.«reversed.__new__»
 refine wpAny_bind (wpAny_of_eq (newClass_reversed _) ?_)
 try dsimp only
 walk_at"q"
 walk_at"q"
 try dsimp only
 refine wpAny_bind (wpAny_specialOf (typeIs_str s x t) F2.Al ?_)
 try dsimp only
 refine wpAny_bind (wpAny_of_eq (a:=true) (by first | rfl | kernel_rfl) ?_)
 rw[if_neg ∅]
 have hn:=fJ
 refine wpAny_bind (len_str () ?_)
 refine wpAny_bind (wpAny_of_eq (a:=some ((x:):Int)) (by first | rfl | kernel_rfl) ?_)
 show wpAny _ _ (Builtin.SmallTypes.newRecord (Value.type "reversed") [Value.str x t,rawInt (((x:):Int) - 1)] >>= _) _ _ _
 walk_at"H"
 unfold Builtin.SmallTypes.newRecord
 refine wpAny_newObj_type ?_ (by size_fits)
 exact wpAny_pure ⟨_,rfl,h _⟩
section
variable{prog:Program}{w:World}{A:Around}{E:Value->Shared->Prop}{s:Shared}
theorem qW{x:Str}{t:Tok}{Q:Value->Shared->Prop}(hz:(x:)<=sizeLine)(h:∀tk,Q (.ref s.heap.objs.size) { s with heap:=s.heap.push { cls:= .type "reversed",data:= .fields #[.str x t,rawInt (((x:):Int) - 1)] },toks:=tk }):
  wpAny (model prog w) A (call (.type "reversed") [.str x t]) Q E s:=
 callType_new F2.qU ⋯ (F.typeCall_reversed_1 _) (F.newCall_reversed_1 _) (λobj=>by unfold argsOk;kernel_rfl) F.entry_reversed_new (qV x t hz)
  λtk=>⟨⟨_,Qat _ rfl,rfl⟩,h tk⟩
def jM(h:Heap)(it:Addr)(x:Str)(t:Tok)(i:Int):Prop:=∃o,h.get? it=some o/\o.cls= .type "reversed"/\o.data= .fields #[.str x t,rawInt i]
theorem jM.typeIs{it:Addr}{x:Str}{t:Tok}{i:Int}(h:jM s.heap it x t i):s.TypeIs (.ref it) "reversed":=let ⟨o,ho,hc,_⟩:=h;⟨o,ho,hc⟩
theorem qX{it:Addr}{x:Str}{t:Tok}{i:Int}{Q:Value->Shared->Prop}(hit:jM s.heap it x t i)(h:Q (.ref it) s):wpAny (model prog w) A (pyIter (.ref it)) Q E s:=by
 refine wpAny_pyIter_slot hit.typeIs F2.fS (wpAny_call_entry F2.fS hit.typeIs F2.jL ?_ (F2.jl _))
 show wpAny _ _ (ret (.ref it)) _ _ s
 exact wpAny_pure ⟨_,rfl,"reversed",_,hit.typeIs,F2.bP.lookup,h⟩
theorem pY{it:Addr}{x:Str}{t:Tok}{i c:Nat}{Q:Option Value->Shared->Prop}(hit:jM s.heap it x t (i:Int))(hx:x.cps[i]? =some c)(hz:(x:)<=sizeLine)
  (hQ:∀h' tk u,jM h' it x t ((i:Int) - 1)->Heap.SameBut it s.heap h'->Q (some (.str ⟨#[c]⟩ u)) { s with heap:=h',toks:=tk }):wpAny (model prog w) A (pyNext (.ref it)) Q E s:=by
 obtain ⟨o,ho,hc,hd⟩:=id hit
 have hn:=fJ
 have hi:i<(x:):=(Array.getElem?_eq_some_iff.mp hx).1
 unfold pyNext
 refine wpAny_bind (wpAny_attempt (wpAny_callSpecial?_slot (name:=Str.ofString "__next__") hit.typeIs F2.bP
  (wpAny_call_entry F2.bP hit.typeIs F2.fk ?_ (F2.eK _))))
 unfold Builtin.«reversed.__next__»
 walk_at"D"
 try dsimp only
 refine wpAny_bind (wpAny_field ho hd (x:= .str x t) rfl ?_)
 walk_at"A"
 show wpAny _ _ (if (i:Int)<0 then _ else _) _ _ s
 rw[if_neg ()]
 refine wpAny_bind (wpAny_specialOf (typeIs_str s x t) F.slot_str_getitem.lookup ?_)
 show wpAny _ _ (if (some (Value.builtin _)).isNone=true then _ else _) _ _ s
 rw[if_neg ∅]
 refine wpAny_bind (wpAny_mkInt ?_)
 refine wpAny_bind (wpAny_attempt (getItem_str (c:=c) (by
  have e1:decide ((i:Int)< -(2 ^ 63:Int))=false:=decide_eq_false ()
  have e2:decide ((i:Int) ≥ 2 ^ 63)=false:=decide_eq_false ()
  rw[e1,e2,Qfy]) (by rw[seqIndex_of () (),YQ];exact hx) ?_))
 show wpAny _ _ (field (Value.ref it) 1 >>= _) _ _ _
 walk_at"A"
 show wpAny _ _ (setField (Value.ref it) 1 (rawInt ((i:Int) - 1)) >>= _) _ _ _
 walk_at"O"
 refine wpAny_pure ⟨_,rfl,wpAny_pure (hQ _ _ _ ?_ (Qey ..))⟩
 exact ⟨_,Qb3 _ ho (Obj.isFreed_of_fields (Obj.data_mapFields hd _)),(Obj.cls_mapFields ..).trans hc,by
  rw[Obj.data_mapFields hd];simp⟩
theorem qY{it:Addr}{x:Str}{t:Tok}{Q:Option Value->Shared->Prop}(hh:A.handled=none)(hit:jM s.heap it x t (-1))
  (hQ:∀h',Heap.ExtBut it s.heap h'->Q none { s with heap:=h' }):wpAny (model prog w) A (pyNext (.ref it)) Q E s:=by
 obtain ⟨o,ho,hc,hd⟩:=id hit
 unfold pyNext
 refine wpAny_bind (wpAny_attempt (wpAny_callSpecial?_slot (name:=Str.ofString "__next__") hit.typeIs F2.bP
  (wpAny_call_entry F2.bP hit.typeIs F2.fk ?_ (F2.eK _))))
 unfold Builtin.«reversed.__next__»
 walk_at"D"
 try dsimp only
 refine wpAny_bind (wpAny_field ho hd (x:= .str x t) rfl ?_)
 refine wpAny_bind (wpAny_field ho hd (x:=rawInt (-1)) rfl ?_)
 show wpAny _ _ (if (-1:Int)<0 then _ else _) _ _ s
 rw[if_pos ∅]
 walk_at"K"
 walk_at"H"
 show wpAny _ _ (setField (Value.ref it) 1 (rawInt (-1)) >>= λ_=>setField (Value.ref it) 0 .none) _ _ _
 walk_at"O"
 walk_at"0"
 first
 | show wpAny _ _ (newExc (.type "StopIteration") [] >>= _) _ _ _
 |(refine wpAny_bind ?_;show wpAny _ _ (newExc (.type "StopIteration") [] >>= _) _ _ _)
 walk_at"H"
 simp only[newExc,newTuple]
 refine wpAny_bind (wpAny_newObj_type ?_ (by size_fits))
 walk_at"W"
 refine wpAny_newObj_type ?_ (by size_fits)
 simp only[raiseNew]
 refine wpAny_bind (wpAny_handled ?_)
 first | rw[show A.in1.handled=none from hh] | rw[hh]
 refine wpAny_bind (wpAny_pure (wpAny_throw ?_))
 refine wpAny_bind (wpAny_isInstance (T:="StopIteration") (b:=true) ⟨_,Qat _ rfl,rfl⟩ isSubtype_stop ?_)
 refine wpAny_pure (hQ _ λb ob hb e=>?_)
 refine YT _ (YT _ ?_)
 exact (Qbp _ _ (Ne.symm hb)).trans ((Qbp _ _ (Ne.symm hb)).trans e)
end
noncomputable def Kc(xs:List V):It:=⟨λi _=>i<(xs:),λi H x H'=>H'=H/\xs[i]? =some x,λi _=>(xs:)<=i⟩
theorem fT{l:Z}{i:Nat}{x:V}(h:(cT l)[i]? =some x):∃c,l[i]? =some c/\x= .str (S [c]):=by
 unfold cT at h
 rw[Qag]at h
 cases e:l[i]? with
 | none=>rw[e]at h;cases h
 | some c=>rw[e]at h;cases h;exact ⟨c,rfl,rfl⟩
theorem aY(l:Z):(cT l:)=(l:):=by unfold cT;rw[Qi]
theorem Ga{P:Program}{w:World}{K:Fr}{tg:Expr}(it:Addr)(l:Z)(t:Tok):Turn P w K tg (Kc (cT l)) [it] it (λi h=>h.IsStrIter it (strIterType (S l)) (S l) t i) where
 mem:=by simp
 obj:=λi h st b hb=>by
  have e:b=it:=by simpa using hb
  subst e
  obtain ⟨o,e,c,d⟩:=st
  walk_at"I"
 keep:=λi h h' st k=>let ⟨o,e,r⟩:=st;⟨o,k it (by simp) o e,r⟩
 item:=by
  walk_at"a"
  subst hP hw hK
  have Mp:i<(l:):=by have:i<(cT l:):=hg;rwa [aY]at this
  walk_at"d"
  have fin:∀(v:Value) (h':Heap) (tk:Nat),SignAt (S l) i v->h'.IsStrIter it (strIterType (S l)) (S l) t (i+1)->(∀b o,b∉[it]->s.heap.get? b=some o->h'.get? b=some o)->
    ∃u,some v=some u/\wpAny (model X.prog X.w) X.A (letOwnedTupleGo tg (.ref it) u) (λ_ s2=>∃x H',Inv X pins σ H' s2/\RelV x u/\(Kc (cT l)).FF i H x H'/\s2.heap.IsStrIter it (strIterType (S l)) (S l) t (i+1)/\∀b∈[it],H' b=none) E { s with heap:=h',toks:=tk }:=by
   intro v h' tk hv tQ kk
   obtain ⟨c,u,e1,e2⟩:=hv
   subst e2
   walk_at"Z"
   obtain ⟨o,e,cc,d⟩:=id tQ
   refine ⟨_,rfl,uE (s:={ s with heap:=h',toks:=tk }) e cc d (by unfold strIterType;split<;>decide) ⟨.str (S [c]),H,I1,⟨u,rfl⟩,⟨rfl,?_⟩,tQ,λb hb=>(hf b hb).1⟩⟩
   unfold cT
   rw[Qag]
   have Am:l[i]? =some c:=by simpa [S]using e1
   rw[Am]
   rfl
  have hsz:i<(S l).cps.size:=by rw[nY];exact Mp
  by_cases ha:(S l).cps.all (· <128)=true
  ·have et:strIterType (S l)="str_ascii_iterator":=by unfold strIterType;rw[if_pos ha]
   rw[et]at st
   exact (Walks.strAscii (prog:=X.prog) (w:=X.w) (I.ok.hd hc) it (S l) t).item i s _ _ hsz st λv h' tk hv tQ kk=>fin v h' tk hv (by rw[et];exact tQ) kk
  ·have et:strIterType (S l)="str_iterator":=by unfold strIterType;rw[if_neg ha]
   rw[et]at st
   exact (Walks.strWide (prog:=X.prog) (w:=X.w) (I.ok.hd hc) it (S l) t).item i s _ _ hsz st λv h' tk hv tQ kk=>fin v h' tk hv (by rw[et];exact tQ) kk
 done:=by
  walk_at"a"
  subst hP hw hK
  walk_at"d"
  have Mp:(l:)<=i:=by have:(cT l:)<=i:=hg;rwa [aY]at this
  have hx:(S l).cps[i]? =none:=by rw[Array.getElem?_eq_none_iff,nY];exact Mp
  by_cases ha:(S l).cps.all (· <128)=true
  ·have et:strIterType (S l)="str_ascii_iterator":=by unfold strIterType;rw[if_pos ha]
   rw[et]at st
   exact wpAny_pyNext_ascii_end (I.ok.hd hc) st hx λh' eb=>⟨rfl,I.turned (t':=s.toks) (λb o hb e=>eb b o hb e) f0 f1 f3 f4 f5⟩
  ·have et:strIterType (S l)="str_iterator":=by unfold strIterType;rw[if_neg ha]
   rw[et]at st
   exact wpAny_pyNext_wide_end (I.ok.hd hc) st hx λh' eb=>⟨rfl,I.turned (t':=s.toks) (λb o hb e=>eb b o hb e) f0 f1 f3 f4 f5⟩
 self:=λ_ _ s _ _ st h=>by
  by_cases ha:(S l).cps.all (· <128)=true
  ·have et:strIterType (S l)="str_ascii_iterator":=by unfold strIterType;rw[if_pos ha]
   rw[et]at st
   exact wpAny_pyIter_striter_ascii st h
  ·have et:strIterType (S l)="str_iterator":=by unfold strIterType;rw[if_neg ha]
   rw[et]at st
   exact wpAny_pyIter_striter_wide st h
theorem Gb{P:Program}{w:World}{K:Fr}{tg:Expr}(it:Addr)(l:Z)(t:Tok)(hz:(l:)<=sizeLine):Turn P w K tg (Kc (cT l).reverse) [it] it (λi h=>i<=(l:)/\jM h it (S l) t (((l:):Int) - 1 - (i:Int))) where
 mem:=by simp
 obj:=λi h st b hb=>by
  have e:b=it:=by simpa using hb
  subst e
  obtain ⟨_,o,e,c,d⟩:=st
  walk_at"I"
 keep:=λi h h' st k=>let ⟨q,o,e,r⟩:=st;⟨q,o,k it (by simp) o e,r⟩
 item:=by
  walk_at"a"
  subst hP hw hK
  have Mp:i<(l:):=by have:i<(cT l).reverse.length:=hg;rwa [Qbb,aY]at this
  walk_at"d"
  obtain ⟨_,st⟩:=st
  have e:((l:):Int) - 1 - (i:Int)=(((l:) - 1 - i:Nat):Int):=by lia
  rw[e]at st
  have dy:(l:) - 1 - i<(l:):=by lia
  refine pY (c:=l[(l:) - 1 - i]) st (by simp[S,dy]) (by rw[dY];exact hz) λh' tk u tQ sb=>?_
  walk_at"8"
  obtain ⟨o,e1,cc,d⟩:=id tQ
  refine ⟨_,rfl,uE (s:={ s with heap:=h',toks:=tk }) e1 cc d ∅ ⟨.str (S [l[(l:) - 1 - i]]),H,I1,⟨u,rfl⟩,⟨rfl,?_⟩,⟨Mp,?_⟩,λb hb=>(hf b hb).1⟩⟩
  ·rw[Qc4 (by rw[aY];exact Mp),aY]
   unfold cT
   rw[Qag,NT dy]
   rfl
  ·have e2:((l:):Int) - 1 - ((i+1:Nat):Int)=(((l:) - 1 - i:Nat):Int) - 1:=by lia
   rw[e2]
   exact tQ
 done:=by
  walk_at"a"
  subst hP hw hK
  walk_at"d"
  have Mp:(l:)<=i:=by have:(cT l).reverse.length<=i:=hg;rwa [Qbb,aY]at this
  obtain ⟨hi,st⟩:=st
  have e:((l:):Int) - 1 - (i:Int)= -1:=by lia
  rw[e]at st
  exact qY (I.ok.hd hc) st λh' eb=>⟨rfl,I.turned (t':=s.toks) (λb o hb e=>eb b o hb e) f0 f1 f3 f4 f5⟩
 self:=λ_ _ _ _ _ st h=>qX st.2 h
section
variable{X:Cx}{tg:Expr}
def WS(tl:TE):TI:=λσ H R=>tl σ H λx H1=>∃l,x= .str (S l)/\R (Kc (cT l)) H1
theorem oe{l:Expr}{tl:TE}(hl:PE X l tl):PI X tg l (WS tl):=by
 walk_at"V"
 walk_at"2"
 obtain ⟨l,rfl,q⟩:=q1
 walk_at"4"
 refine wpAny_pyIter_strU ?_
 refine ⟨s1.heap.objs.size,[s1.heap.objs.size],_,_,H1,rfl,I1.kept (t':=s1.toks) λb o e=>YT _ e,Ga _ l t,⟨_,Qat _ rfl,rfl,rfl⟩,λb hb=>?_,q⟩
 have e:b=s1.heap.objs.size:=by simpa using hb
 subst e
 walk_at"G"
def WT(ta:TA):TI:=λσ H R=>ta σ H λvs H1=>∃l,vs=[.str (S l)]/\(l:)<=sizeLine/\R (Kc (cT l).reverse) H1
theorem Ge{a:Expr}{ta:TA}{p pos:Pos}(hg:Gl X "reversed")(hm:X.mg "reversed"=none)(ha:PA X [a] ta)(hs:starEach [a] X.env=[(false,eval a X.env)]:=by rfl):PI X tg (.Call (.Name "reversed" p) [a] [] pos) (WT ta):=by
 walk_at"V"
 walk_at"3"
 obtain ⟨l,rfl,hz,q⟩:=q1
 obtain ⟨u,rfl,t,rfl⟩:=vals1 r1
 refine qW (by rw[dY];exact hz) λtk=>?_
 have hit:jM (s1.heap.push { cls:= .type "reversed",data:= .fields #[.str (S l) t,rawInt (((S l:):Int) - 1)] }) s1.heap.objs.size (S l) t (((S l:):Int) - 1):=⟨_,Qat _ rfl,rfl,rfl⟩
 refine qX hit ?_
 refine ⟨s1.heap.objs.size,[s1.heap.objs.size],_,_,H1,rfl,I1.kept (t':=tk) λb o e=>YT _ e,Gb _ l t hz,⟨Qao _,?_⟩,λb hb=>?_,q⟩
 ·have e:((l:):Int) - 1 - ((0:Nat):Int)=((S l:):Int) - 1:=by rw[dY];simp
  rw[e]
  exact hit
 ·have e:b=s1.heap.objs.size:=by simpa using hb
  subst e
  walk_at"G"
end
theorem v8{xs:List V}{g:TG}{tb:TS}{D:Ends}{σ:St}{H:Hp}(Pv:Nat->St->Hp->Prop)(h0:Pv 0 σ H)
  (hs:∀i x σ H,xs[i]? =some x->Pv i σ H->g x σ H λσ2 H2=>tb { D with nx:=Pv (i+1),ct:=Pv (i+1),bk:=D.nx } σ2 H2) (hd:∀σ H,Pv (xs:) σ H->D.nx σ H):
  ∃W:Nat->Nat->St->Hp->Prop,(∃m,W 0 m σ H)/\∀i m σ H,W i m σ H->
   ((Kc xs).stop i H/\D.nx σ H)\/((Kc xs).go i H/\∃N:St->Hp->Prop,(∀σ' H',N σ' H'->∃m',m'<m/\W (i+1) m' σ' H')/\∀x H',(Kc xs).FF i H x H'->g x σ H' λσ2 H2=>tb { D with nx:=N,ct:=N,bk:=D.nx } σ2 H2):=by
 walk_at"i"
 rintro i m σ H ⟨rfl,hi,p⟩
 by_cases dy:i<(xs:)
 ·refine .inr ⟨dy,Pv (i+1),λσ' H' p'=>⟨(xs:) - (i+1),(),rfl,dy,p'⟩,λx H' y=>?_⟩
  obtain ⟨e,y⟩:=y
  subst e
  exact hs i x σ _ y p
 ·have e:i=(xs:):=by lia
  subst e
  exact .inl ⟨YS _,hd σ H p⟩
theorem mG{J:It}{n:Nat}{xs:Nat->V->Prop}{σc:St}{g:TG}{tc:TT}{te:TE}{Q:VK}{H1:Hp}(Pv:Nat->List V->Hp->Prop)(hn:n<sizeLine)(hgo:∀i acc H,i<n->Pv i acc H->J.go i H)(SY:∀acc H,Pv n acc H->J.stop n H)
  (hy:∀i acc H x H',i<n->Pv i acc H->J.FF i H x H'->H'=H/\xs i x) (h0:Pv 0 [] H1)
  (hs:∀(i:Nat) (x:V) (acc:List V) (H:Hp) (Nx:List V->Hp->Prop),i<n->xs i x->(acc:)<=i->Pv i acc H->(∀cA H',(cA:)<=i+1->Pv (i+1) cA H'->Nx cA H')->
   g x σc H λσ2 H2=>Wk σc σ2/\tc σ2 H2 λb H3=>if b=true then te σ2 H3 λv H4=>Nx (acc++[v]) H4 else Nx acc H3)
  (hd:∀acc H D,(acc:)<=n->Pv n acc H->H D=none->Q (.ref D) (upd H D (.lst acc))):mF J σc g tc te Q H1:=by
 refine ⟨λi m acc H=>m=n - i/\i<=n/\(acc:)<=i/\Pv i acc H,⟨n,by simp,Qao _,YS _,h0⟩,?_⟩
 rintro i m acc H ⟨rfl,hi,hl,p⟩
 refine ⟨(),?_⟩
 by_cases dy:i<n
 ·refine .inr ⟨hgo i acc H dy p,λx H' y=>?_⟩
  obtain ⟨rfl,y2⟩:=hy i acc H x H' dy p y
  exact hs i x acc _ (λcA H'=>∃m',m'<n - i/\(m'=n - (i+1)/\i+1<=n/\(cA:)<=i+1/\Pv (i+1) cA H')) dy y2 hl p λcA H' h1 h2=>⟨n - (i+1),(),rfl,dy,h1,h2⟩
 ·have e:i=n:=by lia
  subst e
  exact .inl ⟨SY acc H p,λD hD=>hd acc H D hl p hD⟩
theorem jN{xs:List V}{σc:St}{g:TG}{tc:TT}{te:TE}{Q:VK}{H1:Hp}(Pv:Nat->List V->Hp->Prop)(hn:(xs:)<sizeLine)(h0:Pv 0 [] H1)
  (hs:∀(i:Nat) (x:V) (acc:List V) (H:Hp) (Nx:List V->Hp->Prop),i<(xs:)->xs[i]? =some x->(acc:)<=i->Pv i acc H->(∀cA H',(cA:)<=i+1->Pv (i+1) cA H'->Nx cA H')->
   g x σc H λσ2 H2=>Wk σc σ2/\tc σ2 H2 λb H3=>if b=true then te σ2 H3 λv H4=>Nx (acc++[v]) H4 else Nx acc H3)
  (hd:∀acc H D,(acc:)<=(xs:)->Pv (xs:) acc H->H D=none->Q (.ref D) (upd H D (.lst acc))):mF (Kc xs) σc g tc te Q H1:=
 mG (xs:=λi x=>xs[i]? =some x) Pv hn (λi _ _ h _=>h) (λ_ _ _=>YS _) (λi _ H x H' _ _ y=>y) h0 hs hd
theorem qZ{lo:Int}{n:Nat}{σc:St}{g:TG}{tc:TT}{te:TE}{Q:VK}{H1:Hp}(Pv:Nat->List V->Hp->Prop)(hn:n<sizeLine)(h0:Pv 0 [] H1)
  (hs:∀(i:Nat) (acc:List V) (H:Hp) (Nx:List V->Hp->Prop),i<n->(acc:)<=i->Pv i acc H->(∀cA H',(cA:)<=i+1->Pv (i+1) cA H'->Nx cA H')->
   g (.int (lo+i)) σc H λσ2 H2=>Wk σc σ2/\tc σ2 H2 λb H3=>if b=true then te σ2 H3 λv H4=>Nx (acc++[v]) H4 else Nx acc H3)
  (hd:∀acc H D,(acc:)<=n->Pv n acc H->H D=none->Q (.ref D) (upd H D (.lst acc))):mF (L_ lo n) σc g tc te Q H1:=
 mG (xs:=λi x=>x= .int (lo+i)) Pv hn (λi _ _ h _=>h) (λ_ _ _=>YS _) (λi _ H x H' _ _ y=>y) h0 (λi x acc H Nx h1 h2=>by subst h2;exact hs i acc H Nx h1) hd
theorem kE{K:Fr}{a:Addr}{xs:List V}{σc:St}{g:TG}{tc:TT}{te:TE}{Q:VK}{H1:Hp}(Pv:Nat->List V->Hp->Prop)(hn:(xs:)<sizeLine)(hl:∀i acc H,Pv i acc H->bf K H a xs)(h0:Pv 0 [] H1)
  (hs:∀(i:Nat) (x:V) (acc:List V) (H:Hp) (Nx:List V->Hp->Prop),i<(xs:)->xs[i]? =some x->(acc:)<=i->Pv i acc H->(∀cA H',(cA:)<=i+1->Pv (i+1) cA H'->Nx cA H')->
   g x σc H λσ2 H2=>Wk σc σ2/\tc σ2 H2 λb H3=>if b=true then te σ2 H3 λv H4=>Nx (acc++[v]) H4 else Nx acc H3)
  (hd:∀acc H D,(acc:)<=(xs:)->Pv (xs:) acc H->H D=none->Q (.ref D) (upd H D (.lst acc))):mF (Qg K a) σc g tc te Q H1:=
 mG (xs:=λi x=>xs[i]? =some x) Pv hn (λi acc H h p=>⟨xs,xs[i],hl i acc H p,by simp[h]⟩) (λacc H p=>⟨xs,hl _ acc H p,YS _⟩) (λi acc H x H' h p y=>⟨y.1,y.2 xs (hl i acc H p)⟩) h0 hs hd
def Kd(c:TT)(tb:TS):TS:=λD σ H=>∃W:Nat->St->Hp->Prop,(∃m,W m σ H)/\∀m σ H,W m σ H->
 c σ H λb H1=>if b=true then tb { D with nx:=λσ' H'=>∃m',m'<m/\W m' σ' H',ct:=λσ' H'=>∃m',m'<m/\W m' σ' H',bk:=D.nx } σ H1 else D.nx σ H1
theorem dS{X:Cx}{c:Expr}{body:List Stmt}{tc:TT}{tb:TS}{pos:Pos}(hp:PassesOwn (model X.prog X.w) X.A X.env X.xe)(hc:PT X c tc)(hb:zR X body tb):PS X (.While c body [] pos) (Kd tc tb):=by
 walk_at"C"
 obtain ⟨W,⟨m0,w0⟩,turn⟩:=h
 refine wpAny_While (codeAny_whileLoop (λn s'=>∃σ' H',Inv X pins σ' H' s'/\W n σ' H') ?_ m0 ⟨σ,H,I,w0⟩)
 rintro n s1 ⟨σ1,H1,I1,w1⟩
 refine wpAny_passesOwn hp (cJ (hc pins s1 σ1 H1 _ I1 (turn n σ1 H1 w1)) λb s2 ⟨H2,I2,q2⟩=>?_)
 cases b with
 | true=>
  rw[if_pos rfl]at q2 ⊢
  refine wpAny_passesOwn hp (cJ (hb pins s2 σ1 H2 _ I2 q2) λf s3 q3=>?_)
  cases f with
  | next=>
   obtain ⟨σ3,H3,I3,m',hm,w3⟩:=q3
   exact ⟨m',hm,σ3,H3,I3,w3⟩
  | cont=>
   obtain ⟨σ3,H3,I3,m',hm,w3⟩:=q3
   exact ⟨m',hm,σ3,H3,I3,w3⟩
  | brk=>exact q3
  | ret v=>exact q3
 | false=>
  rw[if_neg Qap]at q2 ⊢
  exact wpAny_execs_nil ⟨σ1,H2,I2,q2⟩
noncomputable def v9(X:Cx)(scope:Scope):Bool:=(scope.names.all λy=>y.2 != .cell)&&(scope.kind== .function)&&(scope.names.all λy=>y.2 != .free||X.env.kindOf y.1==some .cell||X.env.kindOf y.1==some .free)&&(scope.names.all λy=>y.2 != .local||scope.names.lookup y.1==some .local)
theorem mH{X:Cx}{scope:Scope}(h:v9 X scope=true):(∀y∈scope.names,y.2≠ .cell)/\scope.kind= .function/\(∀y∈scope.names,y.2= .free->X.env.kindOf y.1=some .cell\/X.env.kindOf y.1=some .free)/\(∀x∈scope.names,x.2= .local->scope.names.lookup x.1=some .local):=by
 unfold v9 at h
 simp only[Qbt]at h
 obtain ⟨⟨⟨h1,h2⟩,h3⟩,h4⟩:=h
 refine ⟨λy hy e=>?_,by simpa using h2,λy hy e=>?_,λy hy e=>?_⟩
 ·have:=Qc3.mp h1 y hy
  rw[e]at this;simp at this
 ·have:=Qc3.mp h3 y hy
  rw[e]at this
  simpa using this
 ·have:=Qc3.mp h4 y hy
  rw[e]at this
  simpa using this
theorem bT{X:Cx}{tg iter elt:Expr}{ifs:List Expr}{scope:Scope}{pos:Pos}{wi:TI}{g:TG}{tc:TT}{te:TE}(Nc:List Str)(ix:List (Option Nat))(hi:PI X tg iter wi)(Ag:kW X scope Nc ix)
  (hG:∀C s H fp,PG (cq X scope C Nc s H fp) tg g) (hT:∀C s H fp,PF (cq X scope C Nc s H fp) ifs tc) (hE:∀C s H fp,PE (cq X scope C Nc s H fp) elt te) (cy:v9 X scope=true:=by rfl) (lq:X.calm=true:=by rfl)
  (hs:∀x,foldedSetIterable iter X.env x=pure x:=by intro _;rfl):PE X (.ListComp elt [⟨tg,iter,ifs,0⟩] scope pos) (ym wi ix g tc te):=
 let ⟨h1,h2,h3,h4⟩:=mH cy
 J6 Nc ix hi lq Ag h1 h2 h3 h4 hG hT hE hs
theorem Gf{X:Cx}{i:Nat}{x:Str}{tg iter elt:Expr}{ifs:List Expr}{scope:Scope}{pos FV pos':Pos}{wi:TI}{g:TG}{tc:TT}{te:TE}(Nc:List Str)(ix:List (Option Nat))(hN:X.N.Nodup)(BU:X.N[i]? =some x)(hx:Loc X.env.scope x)
  (hi:PI X tg iter wi) (Ag:kW X scope Nc ix)
  (hG:∀C s H fp,PG (cq X scope C Nc s H fp) tg g) (hT:∀C s H fp,PF (cq X scope C Nc s H fp) ifs tc) (hE:∀C s H fp,PE (cq X scope C Nc s H fp) elt te)
  (Mj:swapsWith (.ListComp elt [⟨tg,iter,ifs,0⟩] scope pos) (some (.Name x pos')) FV.line X.env=pure true:=by rfl) (cy:v9 X scope=true:=by rfl) (lq:X.calm=true:=by rfl)
  (hs:∀x,foldedSetIterable iter X.env x=pure x:=by intro _;rfl) (hf:X.fn x=true\/X.env.scope.names.lookup x=some .local:=by first | exact .inl rfl | exact .inr rfl | assumption):
  PS X (.Assign [.Name x pos'] (.ListComp elt [⟨tg,iter,ifs,0⟩] scope pos) FV) (JP (ym wi ix g tc te) (uD i)):=
 let ⟨h1,h2,h3,h4⟩:=mH cy
 J9 Nc ix hN BU hx Mj hi lq Ag h1 h2 h3 h4 hG hT hE hs hf
section
variable{X:Cx}
def WU:R2:=λx y H Q=>∃a b,x= .str (S a)/\y= .str (S b)/\Q (.bl (decide (a=b))) H
def WV:R2:=λx y H Q=>∃a b,x= .str (S a)/\y= .str (S b)/\Q (.bl (!decide (a=b))) H
theorem jO:js X (compareOp .Eq) WU:=by
 walk_at"b"
 obtain ⟨a,b,rfl,rfl,q⟩:=h
 exact Mb pins s σ H _ _ v u Q I rx ry ⟨rfl,by rw[Ml];exact q⟩
theorem N4:js X (compareOp .NotEq) WV:=by
 walk_at"b"
 obtain ⟨a,b,rfl,rfl,q⟩:=h
 exact Mc pins s σ H _ _ v u Q I rx ry ⟨rfl,by rw[Ml];exact q⟩
theorem S0{i j:Int}:decide (V.int i=V.int j)=decide (i=j):=by
 by_cases h:i=j
 ·subst h;simp
 ·rw[decide_eq_false h,decide_eq_false]
  intro q
  exact h (V.int.inj q)
theorem S3{i j:Bool}:decide (V.bl i=V.bl j)=decide (i=j):=by
 by_cases h:i=j
 ·subst h;simp
 ·rw[decide_eq_false h,decide_eq_false]
  intro q
  exact h (V.bl.inj q)
theorem lN:js X (compareOp .Eq) (JR λi j=> .bl (decide (i=j))):=by
 walk_at"b"
 obtain ⟨a,b,rfl,rfl,q⟩:=h
 exact Mb pins s σ H _ _ v u Q I rx ry ⟨rfl,by rw[S0];exact q⟩
def rB0(g:Bool->Bool->V):R2:=λx y H Q=>∃i j,x= .bl i/\y= .bl j/\Q (g i j) H
theorem N5:js X (compareOp .NotEq) (rB0 λi j=> .bl (!decide (i=j))):=by
 walk_at"b"
 obtain ⟨a,b,rfl,rfl,q⟩:=h
 exact Mc pins s σ H _ _ v u Q I rx ry ⟨rfl,by rw[S3];exact q⟩
def WW(f:Z->Z->Bool):R2:=λx y H Q=>∃a b,x= .str (S a)/\y= .str (S b)/\Q (.bl (f a b)) H
theorem v_:js X (compareOp .Lt) (WW λa b=>decide (a<b)):=by
 walk_at"b"
 obtain ⟨a,b,rfl,rfl,q⟩:=h
 exact DI pins s σ H _ _ v u Q I rx ry ⟨S a,S b,rfl,rfl,by rw[fK,fK];exact q⟩
end
section
variable{X:Cx}{tg:Expr}
theorem bz(K:Fr)(h:X.K=K):NH X (Sv K):=by subst h;exact JY
theorem bC(K:Fr)(h:X.K=K):NH X (Sw K):=by subst h;exact NI
def S4(K:Fr):List V->Hp->VK->Prop:=λxs H Q=>∃p ys,xs=[.ref p]/\(bf K H p ys\/cu K H p ys)/\Q (.int (ys:)) H
theorem aQ(K:Fr)(h:X.K=K):dM X (.builtin "len") (S4 K):=by subst h;exact vX
theorem jP(K:Fr)(h:X.K=K):BQ X "str.join" (FZ K):=by subst h;exact F_
def S5(K:Fr):List V->Hp->VK->Prop:=λxs H Q=>∃(p:Addr) (bs:List Bool),xs=[.ref p]/\bf K H p (bs.map V.bl)/\Q (.bl (bs.all id)) H
theorem D5(K:Fr)(h:X.K=K)(hc:X.calm=true):dM X (.builtin "all") (S5 K):=by subst h;exact D0 hc
def BV(K:Fr):List V->Hp->VK->Prop:=λxs H Q=>∃p ys,xs=[.ref p]/\(bf K H p ys\/cu K H p ys)/\∀l,H l=none->Q (.ref l) (upd H l (.lst ys))
theorem fU(K:Fr)(h:X.K=K):dM X (.type "list") (BV K):=by subst h;exact vZ
theorem yp(K:Fr)(h:X.K=K):UZ X (Sy K):=by subst h;exact JZ
theorem eB(K:Fr)(h:X.K=K){l:Expr}{tl:TE}(hl:PE X l tl):PI X tg l (Ma K tl):=by subst h;exact JQ hl
theorem qq(K:Fr)(h:X.K=K){l:Expr}{tl:TE}(hl:PE X l tl):PI X tg l (R9 K tl):=by subst h;exact Nt hl
end
section
variable{X:Cx}{o e:Expr}{es:List Expr}{to:TE}{t:TA}{name:Str}{apos jt:Pos}{T id:String}{r:V->List V->Hp->VK->Prop}
theorem fV(K:Fr)(hK:X.K=K)(pa:PlainAttrs T)(slot:Slot T name id)(NN:typeOf (.builtin id)=pure (.type "method_descriptor"))(hm:BQ X id r)(ho:PE X o to)
  (qM:attributeBase o name X.env (eval o X.env)=eval o X.env:=by rfl) (pb:(apos.endLine==jt.line)=true:=by rfl):PE X (.Call (.Attribute o name apos) [] [] jt) (Sz K T r to):=by
 subst hK
 exact NM pa slot NN hm ho qM pb
theorem bE(K:Fr)(hK:X.K=K)(pa:PlainAttrs T)(slot:Slot T name id)(NN:typeOf (.builtin id)=pure (.type "method_descriptor"))(hm:BQ X id r)(ho:PE X o to)(ha:PA X (e::es) t)
  (qM:attributeBase o name X.env (eval o X.env)=eval o X.env:=by rfl)
  (NO:((backTo jt (starEach (e::es) X.env)).all (λx=>!x.1)&&(backToKw jt (keywordEach [] X.env)).all (λx=>x.1.isSome)
   &&decide (((e::es):)+(([]:List Keyword):)+(if ([]:List Keyword).isEmpty then 0 else 1)<30))=true:=by rfl)
  (pb:(apos.endLine==jt.line)=true:=by rfl) (hs:starEach (e::es) X.env=(false,eval e X.env)::starEach es X.env:=by rfl) (Aa:(backTo jt (starEach es X.env)).any (·.1)=false:=by rfl):
  PE X (.Call (.Attribute o name apos) (e::es) [] jt) (YL K T r to t):=by
 subst hK
 exact SA pa slot NN hm ho ha qM NO pb hs Aa
end
section
variable{X:Cx}
def S6(K:Fr)(ta:TE):TT:=λσ H Q=>ta σ H λx H'=>∃p xs,x= .ref p/\bf K H' p xs/\Q (!xs.isEmpty) H'
theorem Ke{a:Expr}{ta:TE}(K:Fr)(h:X.K=K)(ha:PE X a ta)(he:∀whole,isTrue a X.env whole=(do let v <-whole;standAt a.pos;holding [v] (truthy v)):=by intro _;rfl):PT X a (S6 K ta):=by
 subst h
 intro pins s σ H Q I hw
 refine isTrue_plain (cJ (ha pins s σ H _ I hw) λv s1 ⟨x,H1,I1,r1,q1⟩=>?_) (he _)
 obtain ⟨p,xs,rfl,hq,q⟩:=q1
 exact NA pins s1 σ H1 _ v Q I1 r1 ⟨_,.inl ⟨xs,hq,rfl⟩,q⟩
theorem dF(K:Fr)(h:X.K=K){es:List Expr}{k:Nat}{t:L9}{n:Nat}{pos:Pos}(hc:X.calm=true)(hs:R4 X es t)
  (hn:(assignEach es X.env:)=n:=by rfl) (mf:(assignEach es X.env).findIdx? (·.1)=none:=by rfl):PG X (.Tuple es k pos) (R8 K n t):=by
 subst h
 exact Nq hc hs hn mf
end
noncomputable def dz(a b:Z):Z:=if b<a then b else a
noncomputable def cC:Z->List Z->Z
 | a,[]=>a
 | a,b::r=>cC (dz a b) r
theorem argBest_lt(bt:Nat->Nat->Bool):∀n,argBest bt n<=n
 | 0=>YS _
 | n+1=>by
  unfold argBest
  split
  ·exact YS _
  ·exact Qdq (argBest_lt bt n)
section
variable{X:Cx}
theorem An(K:Fr)(h:X.K=K):js X (compareOp .In) (U0 K false):=by subst h;exact DS
theorem Kf(K:Fr)(h:X.K=K):js X (compareOp .NotIn) (U0 K true):=by subst h;exact vW
end
noncomputable def eQ(n:Nat)(l:Z):Z:=(List.replicate n l).flatten
theorem fL(n:Nat)(l:Z):eQ (n+1) l=l++eQ n l:=by unfold eQ;rw[Qfr,Qcd]
theorem Ao(n:Nat)(l:Z):eQ (n+1) l=eQ n l++l:=by unfold eQ;rw[List.replicate_succ',Qfs,Qcd,List.flatten_nil,Qa4]
theorem yq(n:Nat)(l:Z):(eQ n l:)=n*(l:):=by
 induction n with
 | zero=>simp[eQ]
 | succ n ih=>rw[fL,U3,ih,Qd6,Qeo]
theorem uS(l:Z):∀(n:Nat) (acc:Array Nat),((List.replicate n (S l).cps).foldl (· ++ ·) acc).toList=acc.toList++eQ n l
 | 0,acc=>by simp[eQ]
 | n+1,acc=>by
  rw[Qfr,Qc8,uS l n,fL]
  simp[S]
def S7:R2:=λx y H Q=>∃(l:Z) (i:Int),x= .str (S l)/\y= .int i/\(0<=i/\i<=1000000)/\(l:)*i.toNat<=sizeLine/\Q (.str (S (eQ i.toNat l))) H
theorem wa{X:Cx}:js X (binaryOp .Mult) S7:=by
 walk_at"b"
 obtain ⟨l,i,rfl,rfl,⟨h0,h1⟩,hz,q⟩:=h
 walk_at"g"
 walk_at"U"
 have hn:=fJ
 have WX:(S l:)=(l:):=dY l
 have WY:((l:):Int)*i<=2 ^ 63 - 1:=by
  have e:(((l:)*i.toNat:Nat):Int)=((l:):Int)*i:=by rw[Qel,Int.toNat_of_nonneg h0]
  have:(((l:)*i.toNat:Nat):Int)<=(sizeLine:Int):=by exact_mod_cast hz
  rw[<-e];lia
 refine P.mul_str (x:=S l) (n:=i) (t:=t) (u:=t') (by
  have e1:decide (i< -(2 ^ 63:Int))=false:=decide_eq_false ()
  have e2:decide (i ≥ 2 ^ 63)=false:=decide_eq_false ()
  rw[e1,e2];rfl) (λz _=>?_) (λz _=>?_) ?_
 ·rw[WX]
  have:((l:):Int)<=(2 ^ 63 - 1) / i:=(Int.le_ediv_iff_mul_le ()).mpr WY
  lia
 ·rw[WX]
  show Builtin.Str.tooLong _=false
  unfold Builtin.Str.tooLong
  exact decide_eq_false ()
 ·by_cases z:i<1
  ·rw[if_pos z]
   have e:i.toNat=0:=by lia
   rw[e]at q
   exact ⟨∅,.str _,H,I.tok _,⟨_,rfl⟩,q⟩
  ·rw[if_neg z]
   by_cases z2:(i==1||(S l:)==0)=true
   ·rw[if_pos z2]
    have e:eQ i.toNat l=l:=by
     rcases Bool.or_eq_true _ _ |>.mp z2 with e | e
     ·have e:i=1:=by simpa using e
      subst e
      show eQ 1 l=l
      rw[fL];simp[eQ]
     ·have e:(l:)=0:=by rw[WX]at e;simpa using e
      have e:l=[]:=Qca.mp e
      subst e
      unfold eQ
      simp
    rw[e]at q
    exact ⟨.str _,H,I,⟨_,rfl⟩,q⟩
   ·rw[if_neg z2]
    have e:(⟨(List.replicate i.toNat (S l).cps).foldl (· ++ ·) #[]⟩:Str)=S (eQ i.toNat l):=by
     have:=uS l i.toNat #[]
     show _=(⟨(eQ i.toNat l).toArray⟩:Str)
     congr 1
     apply Qe5.mp
     rw[this]
     simp
    rw[e]
    refine ⟨?_,.str _,H,I.tok _,⟨_,rfl⟩,q⟩
    rw[dY,yq,Qc9]
    exact hz
section
variable{X:Cx}{pins:List (Addr×Obj)}{σ:St}{H:Hp}{s:Shared}{h':Heap}
theorem Inv.q5{t':Nat}{ch:List Addr}{T:Addr}{ob:HO}(I:Inv X pins σ H s)(k:∀b o,b∉ch->s.heap.get? b=some o->h'.get? b=some o)(hf:∀b∈ch,pV X pins H b)
  (hT:s.heap.objs.size<=T) (new:cM X.prog X.w (upd H T ob) h' T ob):Inv X pins σ (upd H T ob) { s with heap:=h',toks:=t' }:=by
 have hn:=I.cy.fresh hT
 have L6:∀b u,H b=some u->b∉ch:=λb u e z=>by rw[(hf b z).1]at e;cases e
 have neT:∀b o,s.heap.get? b=some o->b≠T:=λb o e z=>absurd (Qa2 (Qau e) hT) (by rw[z];exact Qbu _)
 refine I.step (g':=s.gens) (d':=s.drawn) (ch:=ch) (λb hb=>?_) (λb o _ _ hc e _=>k b o hc e) (λb o _ _ hc e _=>⟨o.slots,k b o hc e⟩) (λb o _ e n=>by rw[aq (neT b o e)];exact n)
  (λb o hc e=>⟨o,k b o hc e⟩) (λb xs e=>by rw[aq (au e hn)];exact e) (λb o u e=>by rw[aq (au e hn)];exact e) (λb ps e=>⟨#[],by rw[aq (au e hn),e];simp⟩) (λm hm=>?_) (λb u e=>?_) I.bare
 ·obtain ⟨_,h2,_,h4,h5,h6⟩:=hf b hb
  exact ⟨h4,h2,h5,h6⟩
 ·obtain ⟨o,es,ep,ho,r⟩:=hm
  exact ⟨o,es,ep,k _ o (λz=>(hf _ z).2.1 rfl) ho,r⟩
 ·by_cases hb:b=T
  ·subst hb;rw[ae]at e;cases e;exact new
  ·rw[aq hb]at e
   refine (I.cy b u e).xU (λc v hc q=>k c v ?_ q) (λc q=>by rw[aq (au q hn)];exact q) λc xs q=>by rw[aq (au q hn)];exact q
   rcases hc with z | z
   ·rw[z];exact L6 b u e
   ·exact L6 c _ z
theorem Inv.wb{t':Nat}{ch:List Addr}(I:Inv X pins σ H s)(k:∀b o,b∉ch->s.heap.get? b=some o->h'.get? b=some o)(hf:∀b∈ch,pV X pins H b):Inv X pins σ H { s with heap:=h',toks:=t' }:=by
 have L6:∀b u,H b=some u->b∉ch:=λb u e z=>by rw[(hf b z).1]at e;cases e
 refine I.step (g':=s.gens) (d':=s.drawn) (ch:=ch) (λb hb=>?_) (λb o _ _ hc e _=>k b o hc e) (λb o _ _ hc e _=>⟨o.slots,k b o hc e⟩) (λb o _ e n=>n)
  (λb o hc e=>⟨o,k b o hc e⟩) (λb xs e=>e) (λb o u e=>e) (λb ps e=>⟨#[],by rw[e];simp⟩) (λm hm=>?_) (λb u e=>?_) I.bare
 ·obtain ⟨_,h2,_,h4,h5,h6⟩:=hf b hb
  exact ⟨h4,h2,h5,h6⟩
 ·obtain ⟨o,es,ep,ho,r⟩:=hm
  exact ⟨o,es,ep,k _ o (λz=>(hf _ z).2.1 rfl) ho,r⟩
 ·refine (I.cy b u e).xU (λc v hc q=>k c v ?_ q) (λc q=>q) λc xs q=>q
  rcases hc with z | z
  ·rw[z];exact L6 b u e
  ·exact L6 c _ z
end
noncomputable def Qk(l:Z):It:=⟨λi _=>i<(l:),λi H x H'=>∃T c,l[i]? =some c/\x= .ref T/\H T=none/\H'=upd H T (.tup [.int i,.str (S [c])]),λi _=>(l:)<=i⟩
theorem uT{prog:Program}{w:World}{A:Around}(hh:A.handled=none)(it:Addr)(x:Str)(t:Tok):
  Draws prog w A it [it] x.cps.size (λi v=>∃c u,x.cps[i]? =some c/\v= .str ⟨#[c]⟩ u) (λi h=>h.IsStrIter it (strIterType x) x t i):=by
 by_cases ha:x.cps.all (· <128)=true
 ·have et:strIterType x="str_ascii_iterator":=by unfold strIterType;rw[if_pos ha]
  rw[et];exact Draws.strAscii hh it x t
 ·have et:strIterType x="str_iterator":=by unfold strIterType;rw[if_neg ha]
  rw[et];exact Draws.strWide hh it x t
theorem Ap{P:Program}{w:World}{K:Fr}{elts:List Expr}{k:Nat}{pos:Pos}(e it:Addr)(BW:e≠it)(l:Z)(t:Tok):
  Turn P w K (.Tuple elts k pos) (Qk l) [e,it] e (λi h=>i<=(l:)/\(∃old,IsEnum h e it i old)/\h.IsStrIter it (strIterType (S l)) (S l) t i) where
 mem:=by simp
 obj:=λi h st b hb=>by
  obtain ⟨_,⟨old,he⟩,o,ho,hc,hd⟩:=st
  rcases Qak.mp hb with z | z
  ·rw[z];exact ⟨_,he,λv z=>by cases z⟩
  ·rw[Qab.mp z];exact ⟨o,ho,λv z=>by rw[hd]at z;cases z⟩
 keep:=λi h h' st kp=>by
  obtain ⟨h1,⟨old,he⟩,o,ho,r⟩:=st
  exact ⟨h1,⟨old,kp e (by simp) _ he⟩,o,kp it (by simp) o ho,r⟩
 item:=by
  walk_at"a"
  subst hP hw hK
  obtain ⟨_,xK,vR⟩:=st
  have D:=uT (prog:=X.prog) (w:=X.w) (A:=X.A.in1) (I.ok.hd hc) it (S l) t
  have W:=WalksT.enumerateD D e BW (by simpa using BW) (by simp)
  have hi:i<(S l).cps.size:=by rw[nY];exact hg
  refine W.item i s _ _ hi ⟨xK,vR⟩ λT vals h' tk S8 hT Gg yr hk=>⟨_,rfl,?_⟩
  walk_at"L"
  obtain ⟨tt,x,⟨c,u,WZ,rfl⟩,rfl⟩:=S8
  have Mq:T∉[e,it]:=W.apart i T h' yr
  have yu:h2.IsTuple T #[.int i tt,.str ⟨#[c]⟩ u]:=by
   obtain ⟨o,ho,r⟩:=Gg
   exact ⟨o,Aq T o Mq ho,r⟩
  have hl:l[i]? =some c:=by simpa [S]using WZ
  refine ⟨.ref T,upd H T (.tup [.int i,.str (S [c])]),?_,rfl,⟨T,c,hl,rfl,I.cy.fresh hT,rfl⟩,⟨hg,yt.1,yt.2⟩,λb hb=>?_⟩
  ·refine I.q5 (t':=tk) (h':=h2) (λb o hb y=>Aq b o hb (hk b o hb y)) hf hT ?_
   exact ⟨by show 2<=sizeLine;decide,[.int i tt,.str ⟨#[c]⟩ u],.cons ⟨tt,rfl⟩ (.cons ⟨u,rfl⟩ .nil),yu⟩
  ·rw[aq (λz:b=T=>Mq (z▸hb))];exact (hf b hb).1
 done:=by
  walk_at"a"
  subst hP hw hK
  obtain ⟨h1,xK,vR⟩:=st
  have e1:i=(l:):=Qfi h1 hg
  have D:=uT (prog:=X.prog) (w:=X.w) (A:=X.A.in1) (I.ok.hd hc) it (S l) t
  have W:=WalksT.enumerateD D e BW (by simpa using BW) (by simp)
  walk_at"Y"
  rw[nY, <-e1]
  exact ⟨xK,vR⟩
 self:=λ_ _ s _ _ st h=>by
  obtain ⟨_,⟨old,he⟩,_⟩:=st
  exact wpAny_pyIter_enum he h
def N6(ta:TA):TI:=λσ H R=>ta σ H λvs H1=>∃l,vs=[.str (S l)]/\R (Qk l) H1
theorem mI{X:Cx}{elts:List Expr}{k:Nat}{pos':Pos}{a:Expr}{ta:TA}{p pos:Pos}(hg:Gl X "enumerate")(hm:X.mg "enumerate"=none)(ha:PA X [a] ta)(hs:starEach [a] X.env=[(false,eval a X.env)]:=by rfl):PI X (.Tuple elts k pos') (.Call (.Name "enumerate" p) [a] [] pos) (N6 ta):=by
 walk_at"V"
 walk_at"m"
 obtain ⟨l,rfl,q⟩:=q1
 obtain ⟨u,rfl,t,rfl⟩:=vals1 r1
 refine call_enumerate_str λh' he hit hsz hk=>?_
 refine wpAny_pyIter_enum he ?_
 refine ⟨s1.heap.objs.size+1,[s1.heap.objs.size+1,s1.heap.objs.size],_,_,H1,rfl,I1.kept (t':=s1.toks) hk,Ap _ _ (Qe2 _) l t,⟨Qao _,⟨_,he⟩,hit⟩,λb hb=>?_,q⟩
 have i3:s1.heap.objs.size<=b:=by
  rcases Qak.mp hb with z | z
  ·rw[z];exact Qc0 _
  ·rw[Qab.mp z];exact YS _
 exact I1.pW i3 (I1.cy.fresh i3)
theorem yv{l:Z}{g:TG}{tb:TS}{D:Ends}{σ:St}{H:Hp}(Pv:Nat->St->Hp->Prop)(h0:Pv 0 σ H)
  (hs:∀i c σ H T,l[i]? =some c->Pv i σ H->H T=none->g (.ref T) σ (upd H T (.tup [.int i,.str (S [c])])) λσ2 H2=>tb { D with nx:=Pv (i+1),ct:=Pv (i+1),bk:=D.nx } σ2 H2) (hd:∀σ H,Pv (l:) σ H->D.nx σ H):
  ∃W:Nat->Nat->St->Hp->Prop,(∃m,W 0 m σ H)/\∀i m σ H,W i m σ H->
   ((Qk l).stop i H/\D.nx σ H)\/((Qk l).go i H/\∃N:St->Hp->Prop,(∀σ' H',N σ' H'->∃m',m'<m/\W (i+1) m' σ' H')/\∀x H',(Qk l).FF i H x H'->g x σ H' λσ2 H2=>tb { D with nx:=N,ct:=N,bk:=D.nx } σ2 H2):=by
 refine ⟨λi m σ H=>m=(l:) - i/\i<=(l:)/\Pv i σ H,⟨(l:),by simp,Qao _,h0⟩,?_⟩
 rintro i m σ H ⟨rfl,hi,p⟩
 by_cases dy:i<(l:)
 ·refine .inr ⟨dy,Pv (i+1),λσ' H' p'=>⟨(l:) - (i+1),(),rfl,dy,p'⟩,λx H' y=>?_⟩
  obtain ⟨T,c,hc,rfl,hn,rfl⟩:=y
  exact hs i c σ _ T hc p hn
 ·have e:i=(l:):=by lia
  subst e
  exact .inl ⟨YS _,hd σ H p⟩
section
variable{X:Cx}
theorem Kg{ls:List Z}:∀{its:List Value},Vals (ls.map λl=>V.str (S l)) its->StrsAre its (ls.map S):=by
 induction ls with
 | nil=>intro its r;cases r;exact .nil
 | cons l ls ih=>
  intro its r
  cases r with
  | cons r1 r2=>
   walk_at"4"
   exact .cons _ t (ih r2)
theorem BX:∀{its:List Value} {ss:List Str},StrsAre its ss->Vals ((ss.map λx=>x.cps.toList).map λl=>V.str (S l)) its
 | _,_,.nil=> .nil
 | _,_,.cons x t h=> .cons ⟨t,by rw[<-SQ]⟩ (BX h)
theorem uU:∀(p:Str) (r:List Str),risingS p r=true->(p::r).Pairwise λa b=> ¬b.cps.toList<a.cps.toList
 | p,[],_=>List.pairwise_singleton _ _
 | p,x::r,h=>by
  have h':(!ltCps x.cps.toList p.cps.toList&&risingS x r)=true:=h
  rw[Qbt,ltCps_eq]at h'
  have h1: ¬x.cps.toList<p.cps.toList:=by simpa using h'.1
  have ih:=uU x r h'.2
  refine Qb5.mpr ⟨λy hy=>?_,ih⟩
  rcases Qak.mp hy with z | z
  ·rw[z];exact h1
  ·exact List.le_trans (show p.cps.toList<=x.cps.toList from h1) (show x.cps.toList<=y.cps.toList from List.rel_of_pairwise_cons ih z)
theorem D6{ss:List Str}(h:sortedS ss=true):(ss.map λx=>x.cps.toList).Pairwise λa b=> ¬b<a:=by
 rw[Qby]
 cases ss with
 | nil=>exact List.Pairwise.nil
 | cons x r=>exact uU x r h
def N7(K:Fr):List V->Hp->VK->Prop:=λxs H Q=>∃(p:Addr) (ls:List Z),xs=[.ref p]/\bf K H p (ls.map λl=>V.str (S l))/\(ls:)<64/\∀(q:Addr) (W0:List Z),H q=none->W0.Perm ls->(W0.Pairwise λa b=> ¬b<a)->Q (.ref q) (upd H q (.lst (W0.map λl=>V.str (S l))))
theorem mJ(K:Fr)(h:X.K=K):dM X (.builtin "sorted") (N7 K):=by
 subst h
 walk_at"f"
 obtain ⟨p,ls,rfl,hq,hn,q⟩:=h
 obtain ⟨u,rfl,ru⟩:=vals1 r
 cases ru
 obtain ⟨its,rv,pl,hz⟩:=I.list hq
 have hlen:(its:)=(ls:):=by rw[<-(rv:),Qi]
 refine sorted_strs (l:=p) (vs:=its) (ss:=ls.map S) pl.isList (Kg rv) () λout Ft h1 h2 h3=>?_
 obtain ⟨e,he⟩:=sortedAll_at s.heap its out
 have q8:(Ft.map λx=>x.cps.toList).Perm ls:=by
  have:=h2.map λx:Str=>x.cps.toList
  rw[Qbq]at this
  have e2:ls.map ((λx:Str=>x.cps.toList) ∘ S)=ls:=by
   have:∀l∈ls,((λx:Str=>x.cps.toList) ∘ S) l=l:=λl _=>fK l
   calc ls.map _=ls.map id:=Qco this
    _=ls:=Qf9 ls
  rwa [e2]at this
 have jK:=q8.length_eq
 have Y1:(64:Nat)<sizeLine:=by decide
 have N8:(((Ft.map λx=>x.cps.toList).map λl=>V.str (S l)):)<=sizeLine:=by rw[Qi,jK];lia
 refine ⟨.ref (s.heap.objs.size+1),_,I.laid (t':=s.toks) (a:=s.heap.objs.size+1) (o:= .lst ((Ft.map λx=>x.cps.toList).map λl=>V.str (S l))) (λb o e=>sortedAll_old e) (Qc0 _) ⟨N8,out.toList,e,BX h1,by simpa [seqObj]using he⟩,rfl,q _ _ (I.cy.fresh (Qc0 _)) q8 (D6 h3)⟩
theorem BY{ls:List Z}{l:Z}(h:ls.Perm (l.map λc=>[c])):∃l':Z,ls=l'.map (λc=>[c])/\l'.Perm l:=by
 refine ⟨ls.flatten,?_,?_⟩
 ·have hs:∀x∈ls,∃c,x=[c]:=λx hx=>by
   obtain ⟨c,_,e⟩:=Qam.mp (h.mem_iff.mp hx)
   exact ⟨c,e.symm⟩
  clear h
  induction ls with
  | nil=>rfl
  | cons x ls ih=>
   obtain ⟨c,rfl⟩:=hs x Qac
   rw[Qcd,Qad, <-ih λy hy=>hs y (Qae _ hy)]
   rfl
 ·have:=h.flatten
  have e:(l.map λc=>[c]).flatten=l:=by
   clear h this
   induction l with
   | nil=>rfl
   | cons c l ih=>rw[Qav,Qcd,ih];rfl
  rwa [e]at this
theorem BZ{l:Z}(h:(l.map λc=>[c]).Pairwise λa b=> ¬b<a):l.Pairwise λa b=>a<=b:=by
 rw[Qby]at h
 refine h.imp λ{a b} z=>?_
 by_cases y:a<=b
 ·exact y
 ·exact absurd (Qfl.mpr (.inl ())) z
end
section
variable{prog:Program}{w:World}{A:Around}{E:Value->Shared->Prop}{s:Shared}
theorem Ar{it tp:Addr}{j:Nat}{xs:Array Value}{y:Value}{Q:Value->Shared->Prop}(hi:s.heap.IsTupleIter it tp j)(ht:s.heap.IsTuple tp xs)(hy:xs[j]? =some y)
  (q:∀h2,h2.IsTupleIter it tp (j+1)->Heap.SameBut it s.heap h2->Q y { s with heap:=h2 }):wpAny (model prog w) A (Builtin.SmallTypes.nextOf (.ref it)) Q E s:=by
 obtain ⟨oi,eo,ec,ed⟩:=id hi
 obtain ⟨ot,et,_,nt,dt⟩:=ht
 unfold Builtin.SmallTypes.nextOf
 walk_at"l"
 refine wpAny_bind (m:=field (.ref it) 0) (wpAny_field eo ed (x:= .ref tp) rfl ?_)
 show wpAny (model prog w) _ (if (Value.ref tp==Value.none)=true then _ else _) _ E s
 rw[if_neg (show ¬(Value.ref tp==Value.none)=true from Qap)]
 refine wpAny_bind (m:=field (.ref it) 1) (wpAny_field eo ed (x:= .int j 0) rfl ?_)
 refine wpAny_bind (m:=seqItems? (.ref tp)) (wpAny_seqItems et dt ?_)
 simp only[YQ,hy]
 refine wpAny_bind (wpAny_setField eo ed (by simp) (wpAny_pure ⟨y,rfl,wpAny_pure (q _ ⟨_,Qb3 _ eo (Obj.isFreed_of_fields (Obj.data_mapFields ed _)),(Obj.cls_mapFields ..).trans ec,by rw[Obj.data_mapFields ed];simp[rawInt]⟩ (Qey ..))⟩))
theorem D7{it tp:Addr}{j:Nat}{xs:Array Value}{Q:Value->Shared->Prop}(hh:A.handled=none)(hi:s.heap.IsTupleIter it tp j)(ht:s.heap.IsTuple tp xs)(hy:xs[j]? =none)
  (q:∀h2 e,Heap.ExtBut it s.heap h2->(∃o,h2.get? e=some o/\o.cls= .type "StopIteration")->E (.ref e) { s with heap:=h2 }):wpAny (model prog w) A (Builtin.SmallTypes.nextOf (.ref it)) Q E s:=by
 obtain ⟨oi,eo,ec,ed⟩:=id hi
 obtain ⟨ot,et,_,nt,dt⟩:=ht
 unfold Builtin.SmallTypes.nextOf
 walk_at"l"
 refine wpAny_bind (m:=field (.ref it) 0) (wpAny_field eo ed (x:= .ref tp) rfl ?_)
 show wpAny (model prog w) _ (if (Value.ref tp==Value.none)=true then _ else _) _ E s
 rw[if_neg (show ¬(Value.ref tp==Value.none)=true from Qap)]
 refine wpAny_bind (m:=field (.ref it) 1) (wpAny_field eo ed (x:= .int j 0) rfl ?_)
 refine wpAny_bind (m:=seqItems? (.ref tp)) (wpAny_seqItems et dt ?_)
 simp only[YQ,hy]
 refine wpAny_bind (wpAny_rule (wpAny_bind (wpAny_setField eo ed (by simp) ?_)))
 refine wpAny_bind (m:=newExc (.type "StopIteration") []) ?_
 simp only[newExc,newTuple]
 refine wpAny_bind (wpAny_newObj_type (wpAny_bind (m:=firstArgMember _ _) (wpAny_of_eq (a:=Value.none) (by first | rfl | (simp only[firstArgMember];rfl)) (wpAny_newObj_type ?_ (by size_fits)))) (by size_fits))
 simp only[raiseNew]
 refine wpAny_bind (wpAny_handled ?_);first | rw[show A.in1.handled=none from hh] | rw[hh]
 exact wpAny_bind (wpAny_pure (wpAny_throw (q _ _ (((Qey ..).extBut.push _).push _) ⟨_,Qat _ rfl,rfl⟩)))
theorem pj(hh:A.handled=none)(it tp:Addr)(ne:tp≠it)(xs:Array Value):
  Draws prog w A it [it,tp] xs.size (λi v=>xs[i]? =some v) (λi h=>h.IsTupleIter it tp i/\h.IsTuple tp xs) where
 live:=λ_ _ z=>let ⟨o,e,_⟩:=z.1;⟨o,e⟩
 frame:=λ_ _ _ z k=>by
  obtain ⟨⟨o,e,r⟩,o2,e2,r2⟩:=z
  exact ⟨⟨o,k it (by simp) o e,r⟩,o2,k tp (by simp) o2 e2,r2⟩
 item:=λi s Q E hi z q=>Ar z.1 z.2 (y:=xs[i]) (by simp[hi]) λh2 z2 sb=>q _ h2 s.toks (by simp[hi]) ⟨z2,z.2.extBut sb.extBut ne⟩ sb
 done:=λs Q E z q=>D7 hh z.1 z.2 (by simp) q
theorem yx(l:Addr)(items:Array Value)(n:Nat)(W2:Option Addr)(sl:Array (Option Value)):
  Meets (Builtin.«enumerate.__new__» ⟨[.type "enumerate",.ref l],[]⟩) (λ_ R s=>s.heap.get? l=some { cls:= .type "tuple",dict:=W2,data:= .seq items n,slots:=sl }/\
   R (.ok (.ret (.ref (s.heap.push { cls:= .type "tuple_iterator",data:= .fields #[.ref l,.int 0 0] }).objs.size)))
    { s with heap:=(s.heap.push { cls:= .type "tuple_iterator",data:= .fields #[.ref l,.int 0 0] }).push { cls:= .type "enumerate",data:= .fields #[.none,.bool false,.ref s.heap.objs.size,rawInt 0,.none,.none] } }):=
 .of_wp λprog w A R s h=>by
  obtain ⟨hp,g,d,tk,os⟩:=s;obtain ⟨hl,q⟩:=h;have S9:=sub_enumerate
  have hT:Heap.IsTuple (Shared.heap ⟨hp,g,d,tk,os⟩) l items:=⟨_,hl,rfl,n,rfl⟩
  wp_walk using AutoSeq1.wpAny_loadPart' hl
  refine wpAny_stack_any λst=>wpAny_pure ?_
  split
  ·rename_i c _ _ _ _ _
   cases (c==Value.type "enumerate")<;>(wp_walk using AutoSeq1.wpAny_loadPart' hl,wpAny_pyIter_tuple hT;exact ⟨_,rfl,q⟩)
  ·wp_walk using AutoSeq1.wpAny_loadPart' hl,wpAny_pyIter_tuple hT
   exact ⟨_,rfl,q⟩
theorem As{l:Addr}{items:Array Value}{Q:Value->Shared->Prop}(hL:s.heap.IsTuple l items)
  (h:∀h',IsEnum h' (s.heap.objs.size+1) s.heap.objs.size 0 .none->h'.IsTupleIter s.heap.objs.size l 0->(∀b o,s.heap.get? b=some o->h'.get? b=some o)->Q (.ref (s.heap.objs.size+1)) { s with heap:=h' }):
  wpAny (model prog w) A (call (.type "enumerate") [.ref l]) Q E s:=by
 obtain ⟨⟨c,W2,dt,sl⟩,hl,hc,n,hd⟩:=hL
 cases (show c= .type "tuple" from hc)
 cases (show dt= .seq items n from hd)
 refine callType_new F.called_enumerate ∅ (F.typeCall_enumerate_1 _) (F.newCall_enumerate_1 _) (λob=>F.args_object_init_2 ob _) F.entry_enumerate_new (yx l items n W2 sl) ⟨hl,?_⟩
 have hz:(s.heap.push { cls:= .type "tuple_iterator",data:= .fields #[.ref l,.int 0 0] }).objs.size=s.heap.objs.size+1:=Qei ..
 show _/\_
 rw[hz]
 have he:IsEnum ((s.heap.push { cls:= .type "tuple_iterator",data:= .fields #[.ref l,.int 0 0] }).push { cls:= .type "enumerate",data:= .fields #[.none,.bool false,.ref s.heap.objs.size,rawInt 0,.none,.none] }) (s.heap.objs.size+1) s.heap.objs.size 0 .none:=by
  have:=Qat (s.heap.push { cls:= .type "tuple_iterator",data:= .fields #[.ref l,.int 0 0] }) (o:={ cls:= .type "enumerate",data:= .fields #[.none,.bool false,.ref s.heap.objs.size,rawInt 0,.none,.none] }) rfl
  rwa [hz]at this
 exact ⟨⟨_,he,rfl⟩,h _ he ⟨_,YT _ (Qat _ rfl),rfl,rfl⟩ λb o x=>YT _ (YT _ x)⟩
end
noncomputable def Gh(K:Fr)(a:Addr):It:=⟨λi H=>∃xs x,cu K H a xs/\xs[i]? =some x,λi H x H'=>∃T y,(∀xs,cu K H a xs->xs[i]? =some y)/\x= .ref T/\H T=none/\H'=upd H T (.tup [.int i,y]),λi H=>∃xs,cu K H a xs/\(xs:)=i⟩
noncomputable def D9(K:Fr)(a:Addr):It:=⟨λi H=>∃xs x,bf K H a xs/\xs[i]? =some x,λi H x H'=>∃T y,(∀xs,bf K H a xs->xs[i]? =some y)/\x= .ref T/\H T=none/\H'=upd H T (.tup [.int i,y]),λi H=>∃xs,bf K H a xs/\(xs:)=i⟩
theorem Au{P:Program}{w:World}{K:Fr}{elts:List Expr}{k:Nat}{pos:Pos}(e it a:Addr)(BW:e≠it)(S_:a≠e)(Ta:a≠it):
  Turn P w K (.Tuple elts k pos) (Gh K a) [e,it] e (λi h=>(∃old,IsEnum h e it i old)/\h.IsTupleIter it a i) where
 mem:=by simp
 obj:=λi h st b hb=>by
  obtain ⟨⟨old,he⟩,o,ho,hc,hd⟩:=st
  rcases Qak.mp hb with z | z
  ·rw[z];exact ⟨_,he,λv z=>by cases z⟩
  ·rw[Qab.mp z];exact ⟨o,ho,λv z=>by rw[hd]at z;cases z⟩
 keep:=λi h h' st kp=>by
  obtain ⟨⟨old,he⟩,o,ho,r⟩:=st
  exact ⟨⟨old,kp e (by simp) _ he⟩,o,kp it (by simp) o ho,r⟩
 item:=by
  walk_at"a"
  subst hP hw hK
  obtain ⟨xK,vR⟩:=st
  obtain ⟨xs,x,hq,hx⟩:=hg
  obtain ⟨its,rv,p,hz⟩:=I.tuple hq
  obtain ⟨u0,hu,ru⟩:=rv.get hx
  have D:=pj (prog:=X.prog) (w:=X.w) (A:=X.A.in1) (I.ok.hd hc) it a Ta its.toArray
  walk_at"p"
  have W3:i<its.toArray.size:=by rw[Qah];exact (NU.mp hu).1
  refine W.item i s _ _ W3 ⟨xK,vR,p⟩ λT vals h' tk S8 hT Gg yr hk=>⟨_,rfl,?_⟩
  walk_at"L"
  obtain ⟨tt,x2,Tb,rfl⟩:=S8
  have ex:x2=u0:=by
   rw[List.getElem?_toArray]at Tb
   exact Qaj (Tb.symm.trans hu)
  subst ex
  have Mq:T∉[e,it]:=W.apart i T h' yr
  have yu:h2.IsTuple T #[.int i tt,x2]:=by
   obtain ⟨o,ho,r⟩:=Gg
   exact ⟨o,Aq T o Mq ho,r⟩
  refine ⟨.ref T,upd H T (.tup [.int i,x]),?_,rfl,⟨T,x,λys hy=>by rw[I.nU hy hq];exact hx,rfl,I.cy.fresh hT,rfl⟩,⟨yt.1,yt.2.1⟩,λb hb=>?_⟩
  ·refine I.q5 (t':=tk) (h':=h2) (λb o hb y=>Aq b o hb (hk b o hb y)) hf hT ?_
   exact ⟨by show 2<=sizeLine;decide,[.int i tt,x2],.cons ⟨tt,rfl⟩ (.cons ru .nil),yu⟩
  ·rw[aq (λz:b=T=>Mq (z▸hb))];exact (hf b hb).1
 done:=by
  walk_at"a"
  subst hP hw hK
  obtain ⟨xK,vR⟩:=st
  obtain ⟨xs,hq,hx⟩:=hg
  obtain ⟨its,rv,p,hz⟩:=I.tuple hq
  have hl:=(rv:)
  have D:=pj (prog:=X.prog) (w:=X.w) (A:=X.A.in1) (I.ok.hd hc) it a Ta its.toArray
  walk_at"p"
  walk_at"Y"
  have e1:its.toArray.size=i:=by rw[Qah];lia
  rw[e1]
  exact ⟨xK,vR,p⟩
 self:=λ_ _ s _ _ st h=>by
  obtain ⟨⟨old,he⟩,_⟩:=st
  exact wpAny_pyIter_enum he h
theorem Av{P:Program}{w:World}{K:Fr}{elts:List Expr}{k:Nat}{pos:Pos}(e it a:Addr)(BW:e≠it)(S_:a≠e)(Ta:a≠it):
  Turn P w K (.Tuple elts k pos) (D9 K a) [e,it] e (λi h=>(∃old,IsEnum h e it i old)/\h.IsListIter it a i) where
 mem:=by simp
 obj:=λi h st b hb=>by
  obtain ⟨⟨old,he⟩,o,ho,hc,hd⟩:=st
  rcases Qak.mp hb with z | z
  ·rw[z];exact ⟨_,he,λv z=>by cases z⟩
  ·rw[Qab.mp z];exact ⟨o,ho,λv z=>by rw[hd]at z;cases z⟩
 keep:=λi h h' st kp=>by
  obtain ⟨⟨old,he⟩,o,ho,r⟩:=st
  exact ⟨⟨old,kp e (by simp) _ he⟩,o,kp it (by simp) o ho,r⟩
 item:=by
  walk_at"a"
  subst hP hw hK
  obtain ⟨xK,vR⟩:=st
  obtain ⟨xs,x,hq,hx⟩:=hg
  obtain ⟨its,rv,p,hz⟩:=I.list hq
  obtain ⟨u0,hu,ru⟩:=rv.get hx
  have D:=Draws.list (prog:=X.prog) (w:=X.w) (A:=X.A.in1) (I.ok.hd hc) it a Ta its.toArray
  walk_at"p"
  have W3:i<its.toArray.size:=by rw[Qah];exact (NU.mp hu).1
  refine W.item i s _ _ W3 ⟨xK,vR,p.isList⟩ λT vals h' tk S8 hT Gg yr hk=>⟨_,rfl,?_⟩
  walk_at"L"
  obtain ⟨tt,x2,Tb,rfl⟩:=S8
  have ex:x2=u0:=by
   rw[List.getElem?_toArray]at Tb
   exact Qaj (Tb.symm.trans hu)
  subst ex
  have Mq:T∉[e,it]:=W.apart i T h' yr
  have yu:h2.IsTuple T #[.int i tt,x2]:=by
   obtain ⟨o,ho,r⟩:=Gg
   exact ⟨o,Aq T o Mq ho,r⟩
  refine ⟨.ref T,upd H T (.tup [.int i,x]),?_,rfl,⟨T,x,λys hy=>by rw[I.xY hy hq];exact hx,rfl,I.cy.fresh hT,rfl⟩,⟨yt.1,yt.2.1⟩,λb hb=>?_⟩
  ·refine I.q5 (t':=tk) (h':=h2) (λb o hb y=>Aq b o hb (hk b o hb y)) hf hT ?_
   exact ⟨by show 2<=sizeLine;decide,[.int i tt,x2],.cons ⟨tt,rfl⟩ (.cons ru .nil),yu⟩
  ·rw[aq (λz:b=T=>Mq (z▸hb))];exact (hf b hb).1
 done:=by
  walk_at"a"
  subst hP hw hK
  obtain ⟨xK,vR⟩:=st
  obtain ⟨xs,hq,hx⟩:=hg
  obtain ⟨its,rv,p,hz⟩:=I.list hq
  have hl:=(rv:)
  have D:=Draws.list (prog:=X.prog) (w:=X.w) (A:=X.A.in1) (I.ok.hd hc) it a Ta its.toArray
  walk_at"p"
  walk_at"Y"
  have e1:its.toArray.size=i:=by rw[Qah];lia
  rw[e1]
  exact ⟨xK,vR,p.isList⟩
 self:=λ_ _ s _ _ st h=>by
  obtain ⟨⟨old,he⟩,_⟩:=st
  exact wpAny_pyIter_enum he h
def N9(K:Fr)(ta:TA):TI:=λσ H R=>ta σ H λvs H1=>∃a,vs=[.ref a]/\(∃xs,cu K H1 a xs)/\R (Gh K a) H1
def N_(K:Fr)(ta:TA):TI:=λσ H R=>ta σ H λvs H1=>∃a,vs=[.ref a]/\(∃xs,bf K H1 a xs)/\R (D9 K a) H1
theorem mK{X:Cx}(K:Fr)(hK:X.K=K){elts:List Expr}{k:Nat}{pos':Pos}{a:Expr}{ta:TA}{p pos:Pos}(hg:Gl X "enumerate")(hm:X.mg "enumerate"=none)(ha:PA X [a] ta)(hs:starEach [a] X.env=[(false,eval a X.env)]:=by rfl):PI X (.Tuple elts k pos') (.Call (.Name "enumerate" p) [a] [] pos) (N9 K ta):=by
 subst hK
 walk_at"V"
 walk_at"m"
 obtain ⟨b,rfl,⟨xs,hq⟩,q⟩:=q1
 obtain ⟨u,rfl,ru⟩:=vals1 r1
 cases ru
 obtain ⟨its,rv,pl,hz⟩:=I1.tuple hq
 obtain ⟨ob,eb,_⟩:=id pl
 have dy:b<s1.heap.objs.size:=Qau eb
 refine As pl λh' he hit hk=>wpAny_pyIter_enum he ?_
 refine ⟨s1.heap.objs.size+1,[s1.heap.objs.size+1,s1.heap.objs.size],_,_,H1,rfl,I1.kept (t':=s1.toks) hk,Au _ _ b (Qe2 _) (Qay (Qdp dy)) (Qay dy),⟨⟨_,he⟩,hit⟩,λc hb=>?_,q⟩
 have i3:s1.heap.objs.size<=c:=by
  rcases Qak.mp hb with z | z
  ·rw[z];exact Qc0 _
  ·rw[Qab.mp z];exact YS _
 exact I1.pW i3 (I1.cy.fresh i3)
theorem mL{X:Cx}(K:Fr)(hK:X.K=K){elts:List Expr}{k:Nat}{pos':Pos}{a:Expr}{ta:TA}{p pos:Pos}(hg:Gl X "enumerate")(hm:X.mg "enumerate"=none)(ha:PA X [a] ta)(hs:starEach [a] X.env=[(false,eval a X.env)]:=by rfl):PI X (.Tuple elts k pos') (.Call (.Name "enumerate" p) [a] [] pos) (N_ K ta):=by
 subst hK
 walk_at"V"
 walk_at"m"
 obtain ⟨b,rfl,⟨xs,hq⟩,q⟩:=q1
 obtain ⟨u,rfl,ru⟩:=vals1 r1
 cases ru
 obtain ⟨its,rv,pl,hz⟩:=I1.list hq
 obtain ⟨ob,eb,_⟩:=id pl.isList
 have dy:b<s1.heap.objs.size:=Qau eb
 refine call_enumerate_list pl.isList λh' he hit hsz hk=>wpAny_pyIter_enum he ?_
 refine ⟨s1.heap.objs.size+1,[s1.heap.objs.size+1,s1.heap.objs.size],_,_,H1,rfl,I1.kept (t':=s1.toks) hk,Av _ _ b (Qe2 _) (Qay (Qdp dy)) (Qay dy),⟨⟨_,he⟩,hit⟩,λc hb=>?_,q⟩
 have i3:s1.heap.objs.size<=c:=by
  rcases Qak.mp hb with z | z
  ·rw[z];exact Qc0 _
  ·rw[Qab.mp z];exact YS _
 exact I1.pW i3 (I1.cy.fresh i3)
theorem kF{K:Fr}{a:Addr}{xs:List V}{g:TG}{tb:TS}{D:Ends}{σ:St}{H:Hp}(Pv:Nat->St->Hp->Prop)(h0:Pv 0 σ H)(hl:∀i σ H,i<=(xs:)->Pv i σ H->cu K H a xs)
  (hs:∀i x σ H T,xs[i]? =some x->Pv i σ H->H T=none->g (.ref T) σ (upd H T (.tup [.int i,x])) λσ2 H2=>tb { D with nx:=Pv (i+1),ct:=Pv (i+1),bk:=D.nx } σ2 H2) (hd:∀σ H,Pv (xs:) σ H->D.nx σ H):
  ∃W:Nat->Nat->St->Hp->Prop,(∃m,W 0 m σ H)/\∀i m σ H,W i m σ H->
   ((Gh K a).stop i H/\D.nx σ H)\/((Gh K a).go i H/\∃N:St->Hp->Prop,(∀σ' H',N σ' H'->∃m',m'<m/\W (i+1) m' σ' H')/\∀x H',(Gh K a).FF i H x H'->g x σ H' λσ2 H2=>tb { D with nx:=N,ct:=N,bk:=D.nx } σ2 H2):=by
 walk_at"i"
 rintro i m σ H ⟨rfl,hi,p⟩
 have hq:=hl i σ H hi p
 by_cases dy:i<(xs:)
 ·refine .inr ⟨⟨xs,xs[i],hq,by simp[dy]⟩,Pv (i+1),λσ' H' p'=>⟨(xs:) - (i+1),(),rfl,dy,p'⟩,λx H' y=>?_⟩
  obtain ⟨T,z,hz,rfl,hn,rfl⟩:=y
  exact hs i z σ _ T (hz xs hq) p hn
 ·have e:i=(xs:):=by lia
  subst e
  exact .inl ⟨⟨xs,hq,rfl⟩,hd σ H p⟩
theorem og{K:Fr}{a:Addr}{xs:List V}{g:TG}{tb:TS}{D:Ends}{σ:St}{H:Hp}(Pv:Nat->St->Hp->Prop)(h0:Pv 0 σ H)(hl:∀i σ H,i<=(xs:)->Pv i σ H->bf K H a xs)
  (hs:∀i x σ H T,xs[i]? =some x->Pv i σ H->H T=none->g (.ref T) σ (upd H T (.tup [.int i,x])) λσ2 H2=>tb { D with nx:=Pv (i+1),ct:=Pv (i+1),bk:=D.nx } σ2 H2) (hd:∀σ H,Pv (xs:) σ H->D.nx σ H):
  ∃W:Nat->Nat->St->Hp->Prop,(∃m,W 0 m σ H)/\∀i m σ H,W i m σ H->
   ((D9 K a).stop i H/\D.nx σ H)\/((D9 K a).go i H/\∃N:St->Hp->Prop,(∀σ' H',N σ' H'->∃m',m'<m/\W (i+1) m' σ' H')/\∀x H',(D9 K a).FF i H x H'->g x σ H' λσ2 H2=>tb { D with nx:=N,ct:=N,bk:=D.nx } σ2 H2):=by
 walk_at"i"
 rintro i m σ H ⟨rfl,hi,p⟩
 have hq:=hl i σ H hi p
 by_cases dy:i<(xs:)
 ·refine .inr ⟨⟨xs,xs[i],hq,by simp[dy]⟩,Pv (i+1),λσ' H' p'=>⟨(xs:) - (i+1),(),rfl,dy,p'⟩,λx H' y=>?_⟩
  obtain ⟨T,z,hz,rfl,hn,rfl⟩:=y
  exact hs i z σ _ T (hz xs hq) p hn
 ·have e:i=(xs:):=by lia
  subst e
  exact .inl ⟨⟨xs,hq,rfl⟩,hd σ H p⟩
theorem uV{l:Z}{σc:St}{g:TG}{tc:TT}{te:TE}{Q:VK}{H1:Hp}(Pv:Nat->List V->Hp->Prop)(hn:(l:)<sizeLine)(h0:Pv 0 [] H1)
  (hs:∀(i c:Nat) (acc:List V) (H:Hp) (T:Addr) (Nx:List V->Hp->Prop),l[i]? =some c->(acc:)<=i->Pv i acc H->H T=none->(∀cA H',(cA:)<=i+1->Pv (i+1) cA H'->Nx cA H')->
   g (.ref T) σc (upd H T (.tup [.int i,.str (S [c])])) λσ2 H2=>Wk σc σ2/\tc σ2 H2 λb H3=>if b=true then te σ2 H3 λv H4=>Nx (acc++[v]) H4 else Nx acc H3)
  (hd:∀acc H D,(acc:)<=(l:)->Pv (l:) acc H->H D=none->Q (.ref D) (upd H D (.lst acc))):mF (Qk l) σc g tc te Q H1:=by
 refine ⟨λi m acc H=>m=(l:) - i/\i<=(l:)/\(acc:)<=i/\Pv i acc H,⟨(l:),by simp,Qao _,YS _,h0⟩,?_⟩
 rintro i m acc H ⟨rfl,hi,hl,p⟩
 refine ⟨(),?_⟩
 by_cases dy:i<(l:)
 ·refine .inr ⟨dy,λx H' y=>?_⟩
  obtain ⟨T,c,hc,rfl,hT,rfl⟩:=y
  exact hs i c acc _ T (λcA H'=>∃m',m'<(l:) - i/\(m'=(l:) - (i+1)/\i+1<=(l:)/\(cA:)<=i+1/\Pv (i+1) cA H')) hc hl p hT λcA H' h1 h2=>⟨(l:) - (i+1),(),rfl,dy,h1,h2⟩
 ·have e:i=(l:):=by lia
  subst e
  exact .inl ⟨YS _,λD hD=>hd acc H D hl p hD⟩
section
variable{X:Cx}
def Gi(K:Fr):List V->Hp->VK->Prop:=λxs H Q=>(∃l:Z,xs=[.str (S l)]/\(l:)<=sizeLine/\∀p,H p=none->Q (.ref p) (upd H p (.lst (cT l))))\/BV K xs H Q
theorem wc(K:Fr)(h:X.K=K)(hc:X.calm=true):dM X (.type "list") (Gi K):=by
 intro pins s σ H xs us Q I r q
 rcases q with q | q
 ·exact qQ hc pins s σ H xs us Q I r q
 ·exact fU K h pins s σ H xs us Q I r q
def Kh(K:Fr):V->List V->Hp->VK->Prop:=λx vs H Q=>∃(p:Addr) (l:Z) (c:Nat),x= .ref p/\vs=[.str (S [c])]/\H p=some (.lst (cT l))/\c∈l/\Q (.int (l.idxOf c:Nat)) H
theorem uW(K:Fr)(h:X.K=K):BQ X "list.index" (Kh K):=by
 subst h
 walk_at"u"
 obtain ⟨p,l,c,rfl,rfl,hH,hc,q⟩:=h
 cases rx
 obtain ⟨u,rfl,t',rfl⟩:=vals1 rv
 walk_at"r"
 have hz:sizeLine<2 ^ 62:=by decide
 have hj:l.idxOf c<(l:):=Qan hc
 have hlen:(its:)=(l:):=by rw[<-hl];unfold cT;rw[Qi]
 have U5:(l:)<=sizeLine:=by rw[<-hlen, <-hl];exact z
 have Ql:∀m (hm:m<its.toArray.size) (wd:m<(l:)),yh (.str (S [c])) its.toArray[m]=decide (l[m]=c):=λm hm wd=>by
  have h1:(cT l)[m]? =some (V.str (S [l[m]])):=by unfold cT;rw[Qag,NT wd];rfl
  obtain ⟨u,hu,ru⟩:=r.get h1
  have e1:its.toArray[m]=u:=by
   rw[List.getElem_toArray]
   exact Qaj ((NT _).symm.trans hu)
  rw[e1,z_ ru rfl]
  show decide (S [l[m]]=S [c])=_
  refine decide_eq_decide.mpr ⟨λz=>?_,λz=>by rw[z]⟩
  have:=congrArg (λx:Str=>x.cps.toList) z
  simpa [S]using this
 refine call_meets F.slot_list_index ⟨_,e,rfl⟩ F.entry_list_index (F.args_list_index_2 _ _) (SeqAt.list_indexAt p its.toArray n none #[] (.str (S [c]) t') (yh (.str (S [c]))) (l.idxOf c) (by rw[Qah];lia) () ?_ ?_) ⟨e,?_,?_⟩
 ·rw[Ql _ _ hj];exact decide_eq_true (Qcb hj)
 ·intro m hm dy
  rw[Ql m hm ()]
  exact decide_eq_false λz=>by
   have:=List.not_of_lt_findIdx (p:=λx=>x==c) dy
   rw[z]at this
   simp at this
 ·intro w hw
  have fs:(cT l).all lh=true:=by
   rw[Qc3];intro v hv
   obtain ⟨d,_,rfl⟩:=Qam.mp hv
   rfl
  exact iL (x:= .str (S [c])) (show RelV (.str (S [c])) _ from ⟨t',rfl⟩) rfl r fs w (by simpa using hw)
 ·exact ⟨.int (l.idxOf c:Nat),H,I.tok _,⟨_,rfl⟩,q⟩
def Oa(K:Fr):List V->Hp->VK->Prop:=λxs H Q=>∃p ys,xs=[.ref p]/\((bf K H p ys/\∀l,H l=none->Q (.ref l) (upd H l (.tup ys)))\/(cu K H p ys/\Q (.ref p) H))
theorem bA(K:Fr)(h:X.K=K):dM X (.type "tuple") (Oa K):=by subst h;exact tV
end
theorem mM{K:Fr}{a:Addr}{xs:List V}{σc:St}{g:TG}{tc:TT}{te:TE}{Q:VK}{H1:Hp}(Pv:Nat->List V->Hp->Prop)(hn:(xs:)<sizeLine)(hl:∀i acc H,Pv i acc H->cu K H a xs)(h0:Pv 0 [] H1)
  (hs:∀(i:Nat) (x:V) (acc:List V) (H:Hp) (Nx:List V->Hp->Prop),i<(xs:)->xs[i]? =some x->(acc:)<=i->Pv i acc H->(∀cA H',(cA:)<=i+1->Pv (i+1) cA H'->Nx cA H')->
   g x σc H λσ2 H2=>Wk σc σ2/\tc σ2 H2 λb H3=>if b=true then te σ2 H3 λv H4=>Nx (acc++[v]) H4 else Nx acc H3)
  (hd:∀acc H D,(acc:)<=(xs:)->Pv (xs:) acc H->H D=none->Q (.ref D) (upd H D (.lst acc))):mF (Wn K a) σc g tc te Q H1:=
 mG (xs:=λi x=>xs[i]? =some x) Pv hn (λi acc H h p=>⟨xs,xs[i],hl i acc H p,by simp[h]⟩) (λacc H p=>⟨xs,hl _ acc H p,YS _⟩) (λi acc H x H' h p y=>⟨y.1,y.2 xs (hl i acc H p)⟩) h0 hs hd
theorem we(l a b:Nat):Fs (.str (S [l])) [.str (S [a]),.str (S [b])]=(decide (l=a)||decide (l=b)):=by
 have key:∀c:Nat,Jq (.str (S [c])) (.str (S [l]))=decide (l=c):=λc=>by
  show decide (S [c]=S [l])=_
  refine decide_eq_decide.mpr ⟨λz=>?_,λz=>by rw[z]⟩
  have:=congrArg (λx:Str=>x.cps.toList) z
  simpa [S,eq_comm]using this
 unfold Fs
 rw[Qct,Qct,List.any_nil,key,key,Qfy]
theorem B2(e:Nat)(l:Z):Fs (.str (S [e])) (cT l)=decide (e∈l):=by
 have key:∀c:Nat,Jq (.str (S [c])) (.str (S [e]))=decide (e=c):=λc=>by
  show decide (S [c]=S [e])=_
  refine decide_eq_decide.mpr ⟨λz=>?_,λz=>by rw[z]⟩
  have:=congrArg (λx:Str=>x.cps.toList) z
  simpa [S,eq_comm]using this
 unfold Fs cT
 induction l with
 | nil=>rfl
 | cons c l ih=>
  rw[Qav,Qct,ih,key]
  by_cases z:e=c<;>simp[z]
theorem Gj(l:Z):(cT l).all lh=true:=by
 rw[Qc3];intro v hv
 obtain ⟨d,_,rfl⟩:=Qam.mp hv
 rfl
def aR(H H':Hp):Prop:=∀c xs,H c=some (.tup xs)->H' c=some (.tup xs)
theorem aR.trans{H H1 H2:Hp}(a:aR H H1)(b:aR H1 H2):aR H H2:=λc xs h=>b c xs (a c xs h)
theorem aR.of{H H':Hp}(s:aj H H'):aR H H':=λc xs h=>s c _ h
theorem aR.jx{H:Hp}{p:Addr}{ys:List V}{o:HO}(h:H p=some (.lst ys)):aR H (upd H p o):=λc xs e=>by
 rw[aq (λz=>by rw[z,h]at e;cases e)];exact e
theorem aR.bL{H:Hp}{p:Addr}{o:HO}(h:H p=none):aR H (upd H p o):=λc xs e=>by
 rw[aq (λz=>by rw[z,h]at e;cases e)];exact e
section
variable{prog:Program}{w:World}{A:Around}{E:Value->Shared->Prop}{s:Shared}
noncomputable def cg:List Int->List Int->Bool
 | [],[]=>false
 | [],_::_=>true
 | _::_,[]=>false
 | a::r,b::t=>if a=b then cg r t else decide (a<b)
end
end L2
namespace HT
open PySem PySem.Spec PyProof.Rows
end HT
namespace L2
open PySem PySem.Spec PyProof.Rows
section
variable{κ:Type}[DecidableEq κ]
noncomputable def eE(aL:List (κ×V))(k:κ):Option V:=(aL.find? λkv=>decide (kv.1=k)).map (·.2)
noncomputable def putK(aL:List (κ×V))(k:κ)(v:V):List (κ×V):=
 if (aL.any λkv=>decide (kv.1=k))=true then aL.map (λkv=>if kv.1=k then (kv.1,v) else kv) else aL++[(k,v)]
theorem dh{p:κ×V}{r:List (κ×V)}{k:κ}(e:p.1=k):eE (p::r) k=some p.2:=by simp[eE,Qcp,e]
theorem cQ{p:κ×V}{r:List (κ×V)}{k:κ}(e: ¬p.1=k):eE (p::r) k=eE r k:=by simp[eE,Qcp,e]
theorem jQ(k:κ):∀aL:List (κ×V),(aL.any λkv=>decide (kv.1=k))=(eE aL k).isSome
 | []=>rfl
 | p::r=>by
  rw[Qct]
  by_cases e:p.1=k
  ·simp only[dh e,decide_eq_true e,Bool.true_or,Option.isSome_some]
  ·rw[cQ e,decide_eq_false e,Qfz];exact jQ k r
theorem yy(k j:κ)(y:V):∀aL:List (κ×V),eE (aL.map λkv=>if kv.1=k then (kv.1,y) else kv) j=(eE aL j).map λx=>if j=k then y else x
 | []=>rfl
 | p::r=>by
  have ih:=yy k j y r
  rw[Qav]
  by_cases h:p.1=k
  ·rw[if_pos h]
   by_cases e:p.1=j
   ·rw[dh (p:=(p.1,y)) e,dh e,Qfg,if_pos (e.symm.trans h)]
   ·rw[cQ (p:=(p.1,y)) e,cQ e,ih]
  ·rw[if_neg h]
   by_cases e:p.1=j
   ·rw[dh (p:=p) e,dh e,Qfg,if_neg (λz=>h (e.trans z))]
   ·rw[cQ (p:=p) e,cQ e,ih]
theorem uX(k j:κ)(y:V):∀aL:List (κ×V),eE aL k=none->eE (aL++[(k,y)]) j=if j=k then some y else eE aL j
 | [],_=>by
  by_cases e:k=j
  ·rw[if_pos e.symm];exact dh (p:=(k,y)) e
  ·rw[if_neg (λz=>e z.symm)];exact cQ (p:=(k,y)) e
 | p::r,hn=>by
  rw[Qdf]
  have hk: ¬p.1=k:=λz=>by rw[dh z]at hn;cases hn
  rw[cQ hk]at hn
  have ih:=uX k j y r hn
  by_cases e:p.1=j
  ·rw[dh e,dh e,if_neg (λz=>hk (e.trans z))]
  ·rw[cQ e,cQ e,ih]
theorem Gk(aL:List (κ×V))(k j:κ)(y:V):eE (putK aL k y) j=if j=k then some y else eE aL j:=by
 unfold putK
 by_cases a:(aL.any λkv=>decide (kv.1=k))=true
 ·rw[if_pos a,yy]
  rw[jQ]at a
  by_cases e:j=k
  ·obtain ⟨x,hx⟩:=Option.isSome_iff_exists.mp a
   rw[if_pos e,e,hx,Qfg,if_pos rfl]
  ·rw[if_neg e]
   cases eE aL j with
   | none=>rfl
   | some x=>rw[Qfg,if_neg e]
 ·rw[if_neg a]
  refine uX k j y aL ?_
  rw[jQ]at a
  cases q:eE aL k with
  | none=>rfl
  | some x=>rw[q]at a;exact (a rfl).elim
theorem hZ(aL:List (κ×V))(k:κ)(v:V):(putK aL k v:)<=(aL:)+1:=by
 unfold putK
 split
 ·rw[Qi];lia
 ·rw[U3,Qaz,Qgd];lia
theorem yz{aL:List (κ×V)}{k:κ}(v:V)(h:eE aL k=none):putK aL k v=aL++[(k,v)]:=by
 unfold putK
 rw[jQ,h]
 exact if_neg ∅
theorem nS.D_{o:Option V}{u:Option Value}(r:nS o u):o.isSome=u.isSome:=by
 cases o with
 | none=>cases u with
  | none=>rfl
  | some _=>exact (show False from r).elim
 | some _=>cases u with
  | none=>exact (show False from r).elim
  | some _=>rfl
theorem KV.val{aL:List (κ×V)}{vs:List (κ×Value)}(r:KV aL vs)(k:κ):nS (eE aL k) (valueAt vs k):=by
 unfold KV at r
 induction r with
 | nil=>exact True.intro
 | @cons p q ps qs h t ih=>
  obtain ⟨h1,h2⟩:=h
  by_cases e:p.1=k
  ·have e':q.1=k:=h1.symm.trans e
   have b:valueAt (q::qs) k=some q.2:=by simp[valueAt,Qcp,e']
   rw[dh e,b];exact h2
  ·have e': ¬q.1=k:=λz=>e (h1.trans z)
   have b:valueAt (q::qs) k=valueAt qs k:=by simp[valueAt,Qcp,e']
   rw[cQ e,b];exact ih
theorem KV.any{aL:List (κ×V)}{vs:List (κ×Value)}(r:KV aL vs)(k:κ):(aL.any λkv=>decide (kv.1=k))=vs.any λkv=>decide (kv.1=k):=by
 unfold KV at r
 induction r with
 | nil=>rfl
 | cons h t ih=>rw[Qct,Qct,ih,h.1]
theorem KV.Ob{aL:List (κ×V)}{vs:List (κ×Value)}(r:KV aL vs)(k:κ){y:V}{u:Value}(ry:RelV y u):
  KV (aL.map λkv=>if kv.1=k then (kv.1,y) else kv) (vs.map λkv=>if kv.1=k then (kv.1,u) else kv):=by
 unfold KV at r ⊢
 induction r with
 | nil=>exact .nil
 | @cons p q ps qs h t ih=>
  rw[Qav,Qav]
  refine .cons ?_ ih
  obtain ⟨h1,h2⟩:=h
  by_cases e:p.1=k
  ·rw[if_pos e,if_pos (h1.symm.trans e)];exact ⟨h1,ry⟩
  ·rw[if_neg e,if_neg (λz=>e (h1.trans z))];exact ⟨h1,h2⟩
theorem KV.put{aL:List (κ×V)}{vs:List (κ×Value)}(r:KV aL vs)(k:κ){y:V}{u:Value}(ry:RelV y u):KV (putK aL k y) (stored vs k u):=by
 unfold putK stored
 rw[r.any k]
 by_cases e:(vs.any λkv=>decide (kv.1=k))=true
 ·rw[if_pos e,if_pos e];exact r.Ob k ry
 ·rw[if_neg e,if_neg e];exact Paired.snoc r ⟨rfl,ry⟩
theorem KV.length{aL:List (κ×V)}{vs:List (κ×Value)}(r:KV aL vs):(aL:)=(vs:):=Paired.length r
end
theorem B3{P:Program}{w:World}{k:Key}{u:Value}(r:RelV (kV k) u):(bQ P w).is k u=true:=by
 cases k with
 | inl i=>obtain ⟨t,e⟩:=(show ∃t,u=Value.int i t from r);subst e;exact xS P w i t
 | inr x=>obtain ⟨t,e⟩:=(show ∃t,u=Value.str x t from r);subst e;exact xT P w x t
theorem uY{P:Program}{w:World}:∀{ks:List Key} {us:List Value},Vals (ks.map kV) us->ItemsAre (bQ P w) ks us
 | [],_,r=>by rw[List.map_nil]at r;cases r;exact .nil
 | k::ks,_,r=>by
  rw[Qav]at r
  cases r with
  | cons h t=>exact .cons (B3 h) (uY t)
abbrev KT(H:Hp):List (List Key×V)->List (List Key×Addr×Value)->Prop:=Paired λp q=>p.1=q.1/\H q.2.1=some (.tup (p.1.map kV))/\RelV p.2 q.2.2
theorem KT.val{H:Hp}{aL:List (List Key×V)}{xs:List (List Key×Addr×Value)}(r:KT H aL xs)(k:List Key):nS (eE aL k) ((atKey xs k).map (·.2)):=by
 induction r with
 | nil=>exact True.intro
 | @cons p q ps qs h t ih=>
  obtain ⟨h1,_,h2⟩:=h
  by_cases e:p.1=k
  ·have e':q.1=k:=h1.symm.trans e
   have b:atKey (q::qs) k=some q.2:=by simp[atKey,Qcp,e']
   rw[dh e,b];exact h2
  ·have e': ¬q.1=k:=λz=>e (h1.trans z)
   have b:atKey (q::qs) k=atKey qs k:=by simp[atKey,Qcp,e']
   rw[cQ e,b];exact ih
theorem KT.Ob{H:Hp}{aL:List (List Key×V)}{xs:List (List Key×Addr×Value)}(r:KT H aL xs)(k:List Key){y:V}{u:Value}(ry:RelV y u):
  KT H (aL.map λkv=>if kv.1=k then (kv.1,y) else kv) (xs.map (putAt k u)):=by
 induction r with
 | nil=>exact .nil
 | @cons p q ps qs h t ih=>
  rw[Qav,Qav]
  refine .cons ?_ ih
  obtain ⟨h1,h2,h3⟩:=h
  unfold putAt
  by_cases e:p.1=k
  ·rw[if_pos e,if_pos (h1.symm.trans e)];exact ⟨h1,h2,ry⟩
  ·rw[if_neg e,if_neg (λz=>e (h1.trans z))];exact ⟨h1,h2,h3⟩
theorem KT.put{H:Hp}{aL:List (List Key×V)}{xs:List (List Key×Addr×Value)}(r:KT H aL xs)(k:List Key){b:Addr}{y:V}{u:Value}(hb:H b=some (.tup (k.map kV)))(ry:RelV y u):
  KT H (putK aL k y) (storedH xs k b u):=by
 have e:(aL.any λkv=>decide (kv.1=k))=(atKey xs k).isSome:=by
  rw[jQ,(r.val k).D_,Option.isSome_map]
 unfold putK storedH
 rw[e]
 by_cases q:(atKey xs k).isSome=true
 ·rw[if_pos q,if_pos q];exact r.Ob k ry
 ·rw[if_neg q,if_neg q];exact Paired.snoc r ⟨rfl,hb,ry⟩
theorem KT.keeps{H H':Hp}{aL:List (List Key×V)}{xs:List (List Key×Addr×Value)}(r:KT H aL xs)(ht:∀b ys,H b=some (.tup ys)->H' b=some (.tup ys)):KT H' aL xs:=
 Paired.Nd r λ_ _ z=>⟨z.1,ht _ _ z.2.1,z.2.2⟩
section
variable{P:Program}{w:World}{H:Hp}{h:Heap}{a:Addr}
theorem Mr{u:HO}(ok:kU P w H h)(e:Rd H a u):cM P w H h a u:=e.ok ok
theorem Gm{aL:List (Key×V)}(ok:kU P w H h)(e:Rd H a (.dK aL)):(aL:)<=sizeLine/\(a==sysModules)=false/\∃vs,KV aL vs/\h.DictOf (bQ P w) a vs:=
 show cM P w H h a (.dK aL) from Mr ok e
theorem Tc{aL:List (Key×V)}(ok:kU P w H h)(e:H a=some (.dK aL)):(aL:)<=sizeLine/\(a==sysModules)=false/\∃vs,KV aL vs/\h.DictOf (bQ P w) a vs:=Gm ok (.inl e)
theorem wg{ks:List Key}(ok:kU P w H h)(e:H a=some (.tup (ks.map kV))):(tupleKind (bQ P w)).is h ks a:=by
 obtain ⟨_,its,r,o,h1,h2,n,h3⟩:=(show cM P w H h a (.tup (ks.map kV)) from ok a _ e)
 exact ⟨o,its.toArray,n,h1,h2,h3,by simpa using uY r⟩
theorem Gn{aL:List (List Key×V)}(ok:kU P w H h)(e:Rd H a (.dT aL)):(aL:)<=sizeLine/\(a==sysModules)=false/\
  ∃xs,KT H aL xs/\h.DictOfH (tupleKind (bQ P w)) a xs:=by
 obtain ⟨z,y,xs,r,o,es,ep,h1,h2,h3,h4,h5⟩:=(show cM P w H h a (.dT aL) from Mr ok e)
 refine ⟨z,y,xs,r,o,es,ep,h1,h2,h3,h4,λx hx=>?_,h5⟩
 have all:∀{l:List (List Key×V)} {m:List (List Key×Addr×Value)},KT H l m->∀x∈m,(tupleKind (bQ P w)).is h x.1 x.2.1:=by
  intro l m q
  induction q with
  | nil=>intro x hx;exact nomatch hx
  | @cons p q ps qs hq t ih=>
   intro x hx
   rcases Qak.mp hx with e | hx
   ·subst e
    exact wg ok (by rw[<-hq.1];exact hq.2.1)
   ·exact ih x hx
 exact all r x hx
theorem Td{aL:List (List Key×V)}(ok:kU P w H h)(e:H a=some (.dT aL)):(aL:)<=sizeLine/\(a==sysModules)=false/\
  ∃xs,KT H aL xs/\h.DictOfH (tupleKind (bQ P w)) a xs:=Gn ok (.inl e)
end
def q9(H:Hp)(a:Addr)(y:V)(r:Option V):Prop:=
 (∃aL k,Rd H a (.dK aL)/\y=kV k/\r=eE aL k)\/∃aL k b,Rd H a (.dT aL)/\y= .ref b/\H b=some (.tup (k.map kV))/\r=eE aL k
def wj(H:Hp)(a:Addr)(y v:V)(H':Hp):Prop:=
 (∃aL k,H a=some (.dK aL)/\y=kV k/\(aL:)<sizeLine/\H'=upd H a (.dK (putK aL k v)))\/
 ∃aL k b,H a=some (.dT aL)/\y= .ref b/\H b=some (.tup (k.map kV))/\(aL:)<sizeLine/\H'=upd H a (.dT (putK aL k v))
theorem q9.k{H:Hp}{a:Addr}{aL:List (Key×V)}{k:Key}(e:H a=some (.dK aL)):q9 H a (kV k) (eE aL k):= .inl ⟨aL,k,.inl e,rfl,rfl⟩
theorem q9.t{H:Hp}{a b:Addr}{aL:List (List Key×V)}{k:List Key}(e:H a=some (.dT aL))(eb:H b=some (.tup (k.map kV))):q9 H a (.ref b) (eE aL k):= .inr ⟨aL,k,b,.inl e,rfl,eb,rfl⟩
theorem wj.k{H:Hp}{a:Addr}{aL:List (Key×V)}{k:Key}{v:V}(e:H a=some (.dK aL))(hl:(aL:)<sizeLine):wj H a (kV k) v (upd H a (.dK (putK aL k v))):= .inl ⟨aL,k,e,rfl,hl,rfl⟩
theorem wj.t{H:Hp}{a b:Addr}{aL:List (List Key×V)}{k:List Key}{v:V}(e:H a=some (.dT aL))(eb:H b=some (.tup (k.map kV)))(hl:(aL:)<sizeLine):
  wj H a (.ref b) v (upd H a (.dT (putK aL k v))):= .inr ⟨aL,k,b,e,rfl,eb,hl,rfl⟩
section
variable{X:Cx}{pins:List (Addr×Obj)}{σ:St}{H:Hp}{s:Shared}{a:Addr}{y v:V}{u r:Value}{o:Option V}{A:Around}{E:Value->Shared->Prop}
theorem Inv.big(I:Inv X pins σ H s):sysModules<s.heap.objs.size:=by
 have h:mainGlobals<s.heap.objs.size:=(I.mod.glob.keeps I.bk).lt
 exact Qcy ∅ h
theorem Ea{Q:Value->Shared->Prop}(hu:A.units+1<cLine)(I:Inv X pins σ H s)(g:q9 H a y (some v))(ry:RelV y u)(h:∀w' s',Inv X pins σ H s'->RelV v w'->Q w' s'):
  wpAny (model X.prog X.w) A (getItem (.ref a) u) Q E s:=by
 rcases g with ⟨aL,k,e,ey,l⟩ | ⟨aL,k,b,e,ey,eb,l⟩
 ·subst ey
  obtain ⟨z,hd,vs,rel,dd⟩:=Gm I.cy e
  obtain ⟨w',hw,yg⟩:=nS.some_of (v:=v) (o:=valueAt vs k) (by rw[l];exact rel.val k)
  exact wpAny_getItem_of (B3 ry) dd.mapOf hw (h w' _ (I.tok _) yg)
 ·subst ey
  cases (show u=Value.ref b from ry)
  obtain ⟨z,hd,xs,rel,dd⟩:=Gn I.cy e
  obtain ⟨w',hw,yg⟩:=nS.some_of (v:=v) (o:=(atKey xs k).map (·.2)) (by rw[l];exact rel.val k)
  obtain ⟨p,hp,mN⟩:=Option.map_eq_some_iff.mp hw
  refine wpAny_getItem_heap (tupleKind_room_in1 hu) (wg I.cy eb) dd hp ?_
  rw[mN]
  exact h w' _ (I.tok _) yg
theorem B4{h':Heap}{t':Nat}{ob:HO}(I:Inv X pins σ H s)(mu:RS (H a))(hs:Heap.SameBut a s.heap h')(he:∃q,h'.get? a=some q)(new:cM X.prog X.w (upd H a ob) h' a ob):
  Inv X pins σ (upd H a ob) { s with heap:=h',toks:=t' }:=
 I.write (x:=a) (e:=a) mu (.inl rfl) (λb q hb z=>(hs.2 b hb).trans z) he new
theorem Oc{P:Program}{w:World}{H':Hp}{h':Heap}{aL:List (Key×V)}{vs:List (Key×Value)}(z:(aL:)<=sizeLine)(hd:(a==sysModules)=false)(rel:KV aL vs)(dd:h'.DictOf (bQ P w) a vs):
  cM P w H' h' a (.dK aL):=⟨z,hd,vs,rel,dd⟩
theorem Eb{H':Hp}{Q:Unit->Shared->Prop}(hu:A.units+1<cLine)(I:Inv X pins σ H s)(g:wj H a y v H')(ry:RelV y u)(rv:RelV v r)(h:∀s',Inv X pins σ H' s'->Q Unit.unit s'):
  wpAny (model X.prog X.w) A (setItem (.ref a) u r) Q E s:=by
 rcases g with ⟨aL,k,e,ey,l,eH⟩ | ⟨aL,k,b,e,ey,eb,l,eH⟩
 ·subst ey eH
  obtain ⟨z,hd,vs,rel,dd⟩:=Tc I.cy e
  have hz:(vs:)<=sizeLine:=by rw[<-(rel:)];exact z
  have hl:(putK aL k v:)<=sizeLine:=by have:=hZ aL k v;lia
  refine wpAny_setItem_pairs (hsz:=hz) (B3 ry) dd λh' U6 hs=>h _ ?_
  have he:∃q,h'.get? a=some q:=let ⟨q,_,_,hq,_⟩:=U6;⟨q,hq⟩
  exact B4 I (by rw[e];exact True.intro) hs he (Oc hl hd (rel.put k rv) U6)
 ·subst ey eH
  cases (show u=Value.ref b from ry)
  obtain ⟨z,hd,xs,rel,dd⟩:=Td I.cy e
  have hz:(xs:)<=sizeLine:=by rw[<-Paired.length rel];exact z
  have hl:(putK aL k v:)<=sizeLine:=by have:=hZ aL k v;lia
  refine wpAny_setItem_heap (hsz:=hz) (tupleKind_room_in1 hu) (wg I.cy eb) dd λh' U6 hs=>h _ ?_
  obtain ⟨q,es,ep,hq,h2,h3,h4,_,h5⟩:=U6
  refine B4 I (by rw[e];exact True.intro) hs ⟨q,hq⟩ ⟨hl,hd,_,(rel.put k eb rv).keeps λc ys ec=>?_,q,es,ep,hq,h2,h3,h4,h5⟩
  rw[aq (RQ ec e (λz=>nomatch z))]
  exact ec
end
def Oe(i:Expr):Prop:=∀ov iv,subscripted i false ov iv=operate [ov,iv] (getItem ov iv)
theorem B5{prog:Program}{w:World}{A:Around}{E:Value->Shared->Prop}{s:Shared}{env:Env}{value slice:Expr}{pos:Pos}{T id:String}{Q:Value->Shared->Prop}
  (hl:typeLookup (.type T) "__getitem__"=pure (some (.builtin id))) (hs:Oe slice)
  (h:wpAny (model prog w) A (eval value env) (λo s₁=>wpAny (model prog w) A (eval slice env) (λi s₂=>s₂.TypeIs o T/\wpAny (model prog w) A (getItem o i) Q E s₂) E s₁) E s):
  wpAny (model prog w) A (eval (.Subscript value slice pos) env) Q E s:=by
 refine Subscript_ (wpAny_mono h (λo s₁ h₁=>wpAny_mono h₁ (λi s₂ h₂=>?_) λ_ _ x=>x) λ_ _ x=>x)
 obtain ⟨hT,h₂⟩:=h₂
 unfold subscriptTail
 walk_at"H"
 rw[getitemInPython_of_ne hT.not_modules]
 refine wpAny_bind (wpAny_specialOf hT hl ?_)
 have fin:wpAny (model prog w) A (subscripted slice false o i) (λr s₃=>wpAny (model prog w) A (letTemporaryGo value o r >>= λ_=>pure r) Q E s₃) E s₂:=by
  rw[hs o i]
  exact wpAny_operating (wpAny_mono h₂ (λr s₃ h₃=>wpAny_bind (wpAny_letTemporaryGo (wpAny_pure h₃))) λ_ _ x=>x)
 first
  | exact wpAny_pure (wpAny_bind fin)
  | exact wpAny_bind (wpAny_pure (wpAny_bind fin))
  | exact wpAny_bind fin
theorem yA{X:Cx}{pins:List (Addr×Obj)}{σ:St}{H:Hp}{s:Shared}{a:Addr}{y:V}{o:Option V}(I:Inv X pins σ H s)(g:q9 H a y o):s.TypeIs (.ref a) "dict":=by
 rcases g with ⟨aL,k,e,_,_⟩ | ⟨aL,k,b,e,_,_,_⟩
 ·obtain ⟨_,_,vs,_,dd⟩:=Gm I.cy e
  exact dd.typeIs
 ·obtain ⟨_,_,xs,_,dd⟩:=Gn I.cy e
  exact dd.typeIs
def Te(td ty:TE):TE:=λσ H Q=>td σ H λx H1=>ty σ H1 λy H2=>∃a v,x= .ref a/\q9 H2 a y (some v)/\Q v H2
def Tf(td ty tv:TE):TS:=λD σ H=>tv σ H λv H1=>td σ H1 λx H2=>ty σ H2 λy H3=>∃a H4,x= .ref a/\wj H3 a y v H4/\D.nx σ H4
section
variable{X:Cx}{o i e value:Expr}{pos pos' Sk:Pos}{td ty tv:TE}
theorem qr(hu:X.A.units+1<cLine)(ho:PE X o td)(hi:PE X i ty)(hs:Oe i):PE X (.Subscript o i pos) (Te td ty):=by
 walk_at"h"
 refine B5 PySem.F.slot_dict_getitem.lookup hs (cJ (ho pins s σ H _ I h) λu s1 ⟨x,H1,I1,rx,q1⟩=>cJ (hi pins s1 σ H1 _ I1 q1) λiv s2 ⟨y,H2,I2,ry,a,v,ex,g,q2⟩=>?_)
 subst ex
 obtain rfl:u=Value.ref a:=rx
 exact ⟨yA I2 g,Ea hu I2 g ry λw' s3 I3 yg=>⟨v,H2,I3,yg,q2⟩⟩
theorem wm(hu:X.A.units+1<cLine)(ho:PE X o td)(hi:PE X i ty)(hv:PE X value tv)(hs:swapsWith value (some (.Subscript o i pos')) pos.line X.env=pure false):
  PS X (.Assign [.Subscript o i pos'] value pos) (Tf td ty tv):=by
 walk_at"C"
 refine wpAny_Assign_Subscript (cJ (hv pins s σ H _ I h) λr s1 ⟨v,H1,I1,rv,q1⟩=>cJ (ho pins s1 σ H1 _ I1 q1) λu s2 ⟨x,H2,I2,rx,q2⟩=>cJ (hi pins s2 σ H2 _ I2 q2) λiv s3 ⟨y,H3,I3,ry,a,H4,ex,g,q3⟩=>?_) hs
 subst ex
 obtain rfl:u=Value.ref a:=rx
 exact Eb hu I3 g ry rv λs4 I4=>⟨σ,H4,I4,q3⟩
end
theorem Gp{P:Program}{w:World}{H:Hp}(h:Heap)(hb:sysModules<h.objs.size):cM P w H (h.push { cls:= .type "dict",data:= .dict #[] }) h.objs.size (.dK []):=
 ⟨Qao _,beq_eq_false_iff_ne.mpr (Ne.symm (Qay hb)),[],.nil,Heap.DictOf.new h⟩
theorem Gq{P:Program}{w:World}{H:Hp}(h:Heap)(hb:sysModules<h.objs.size):cM P w H (h.push { cls:= .type "dict",data:= .dict #[] }) h.objs.size (.dT []):=
 ⟨Qao _,beq_eq_false_iff_ne.mpr (Ne.symm (Qay hb)),[],.nil,_, #[],0,Qat _ rfl,⟨rfl,rfl,rfl⟩,rfl,rfl,Qfo⟩
def Of:TE:=λ_ H Q=>∀p,H p=none->Q (.ref p) (upd H p (.dK []))
def Og:TE:=λ_ H Q=>∀p,H p=none->Q (.ref p) (upd H p (.dT []))
section
variable{X:Cx}{pos:Pos}
theorem Gr:PE X (.Dict [] [] pos) Of:=λpins s σ H Q I h=>
 wpAny_Dict_empty ⟨.ref s.heap.objs.size,_,I.laid (a:=s.heap.objs.size) (o:= .dK []) (t':=s.toks) (λ_ _ q=>YT _ q) (YS _) (Gp s.heap I.big),rfl,h _ (I.cy.fresh (YS _))⟩
theorem Gs:PE X (.Dict [] [] pos) Og:=λpins s σ H Q I h=>
 wpAny_Dict_empty ⟨.ref s.heap.objs.size,_,I.laid (a:=s.heap.objs.size) (o:= .dT []) (t':=s.toks) (λ_ _ q=>YT _ q) (YS _) (Gq s.heap I.big),rfl,h _ (I.cy.fresh (YS _))⟩
end
end L2
namespace L2.F2
open PySem PySem.Spec PyProof.Rows
end L2.F2
namespace L2
open PySem PySem.Spec PyProof.Rows
noncomputable def tY(a b c d:Int):Bool:=if a=c then decide (b<d) else decide (a<c)
section
variable{prog:Program}{w:World}{A:Around}{E:Value->Shared->Prop}{s:Shared}
theorem Ki{p q:Addr}{ox oy:Obj}{mx my:Nat}{a b c d:Int}{t1 t2 t3 t4:Tok}{P:PySem.Fin->Shared->Prop}(U7:s.heap.get? p=some ox)(W4:ox.data= .seq #[.int a t1,.int b t2] mx)
  (Tg:s.heap.get? q=some oy) (uZ:oy.cls= .type "tuple") (W5:oy.data= .seq #[.int c t3,.int d t4] my) (h:P (.done (.ret (.bool (tY a b c d)))) s):
  wpAny (model prog w) A (Builtin.«tuple.__lt__» ⟨[.ref p,.ref q],[]⟩) P E s:=by
 have hT:s.TypeIs (.ref q) "tuple":=⟨oy,Tg,uZ⟩
 show wpAny _ _ (isInstance (.ref q) (.type "tuple") >>= λb=>_) _ _ s
 refine wpAny_bind (wpAny_isInstance (b:=true) hT isSubtype_tuple_tuple ?_)
 walk_at"v"
 refine wpAny_bind (wpAny_tupleItemsOf U7 W4 ?_)
 refine wpAny_bind (wpAny_tupleItemsOf Tg W5 ?_)
 walk_at"H"
 show wpAny _ _ (forIn [(Value.int a t1,Value.int c t3),(Value.int b t2,Value.int d t4)] _ _) _ _ _
 rw[Qek]
 refine wpAny_bind (wpAny_bind (wpAny_eqBool_int ?_))
 unfold tY at h
 by_cases e:a=c
 ·rw[if_pos e]at h
  rw[show (a==c)=true by simp[e]]
  walk_at"v"
  walk_at"1"
  dsimp only
  rw[Qek]
  refine wpAny_bind (wpAny_bind (wpAny_eqBool_int ?_))
  by_cases e2:b=d
  ·rw[show (b==d)=true by simp[e2]]
   walk_at"v"
   walk_at"1"
   dsimp only
   rw[List.forIn_nil]
   walk_at"1"
   dsimp only
   walk_at"1"
   rw[decide_eq_false ()]at h
   exact h
  ·rw[show (b==d)=false by simp[e2]]
   simp only[Qev,if_true]
   walk_at"K"
   refine wpAny_bind (lt_int ?_)
   refine wpAny_bind (wpAny_pure ?_)
   walk_at"1"
   dsimp only
   walk_at"1"
   dsimp only
   exact wpAny_pure h
 ·rw[if_neg e]at h
  rw[show (a==c)=false by simp[e]]
  simp only[Qev,if_true]
  walk_at"K"
  refine wpAny_bind (lt_int ?_)
  refine wpAny_bind (wpAny_pure ?_)
  walk_at"1"
  dsimp only
  walk_at"1"
  dsimp only
  exact wpAny_pure h
end
section
variable{X:Cx}
def W6(K:Fr):R2:=λx y H Q=>∃p q a b c d,x= .ref p/\y= .ref q/\cu K H p [.int a,.int b]/\cu K H q [.int c,.int d]/\Q (.bl (tY a b c d)) H
theorem yB{a b:Int}{us:List Value}(r:Vals [.int a,.int b] us):∃t u,us=[.int a t,.int b u]:=by
 cases r with
 | cons r1 r=>
  cases r with
  | cons r2 r=>
   cases r
   walk_at"4"
   obtain ⟨u,rfl⟩:=r2
   exact ⟨t,u,rfl⟩
theorem Oh{k:Nat}(K:Fr)(h:X.K=K)(hr:fF k X.A):js X (compareOp .Lt) (W6 K):=by
 subst h
 walk_at"b"
 obtain ⟨p,q,a,b,c,d,rfl,rfl,hp,hq,r⟩:=h
 cases rx
 cases ry
 obtain ⟨xs,rvx,px,_⟩:=I.tuple hp
 obtain ⟨ys,rvy,py,_⟩:=I.tuple hq
 obtain ⟨ox,U7,WZ,mx,W4⟩:=px
 obtain ⟨oy,Tg,uZ,my,W5⟩:=py
 obtain ⟨t1,t2,rfl⟩:=yB rvx
 obtain ⟨t3,t4,rfl⟩:=yB rvy
 have hu:=hr.units
 show wpAny _ _ (richCompare .Lt (.ref p) (.ref q)) _ _ s
 have hT:s.TypeIs (.ref p) "tuple":=⟨ox,U7,WZ⟩
 refine wpAny_richCompare_same_room hT ⟨oy,Tg,uZ⟩ PySem.F.slot_tuple_lt (wpAny_call_entry PySem.F.slot_tuple_lt hT PySem.F.entry_tuple_lt (Ki U7 W4 Tg uZ W5 ⟨_,rfl,(λz=>nomatch z),?_⟩) (PySem.F.args_tuple_lt_2 _ _)) ()
 exact ⟨.bl _,H,I,rfl,r⟩
end
section
variable{X:Cx}{st:Stmt}{rest:List Stmt}{t u:TS}
def W7(t u:TS):TS:=λD σ H=>∃P:St->Hp->Prop,t { D with nx:=P } σ H/\∀σ' H',P σ' H'->u D σ' H'
theorem i4(h1:PS X st t)(h2:zR X rest u):zR X (st::rest) (W7 t u):=by
 walk_at"C"
 obtain ⟨P,h,g⟩:=h
 refine wpAny_execs_cons (cJ (h1 pins s σ H _ I h) λf s1 q=>?_)
 cases f with
 | ret v=>exact q
 | brk=>exact q
 | cont=>exact q
 | next=>
  obtain ⟨τ,G,J,p⟩:=q
  exact h2 pins s1 τ G D J (g τ G p)
end
end L2
namespace L2
open PySem PySem.Spec PyProof.Rows PySem.MeetsSeq PySem.SeqAt
end L2
namespace XL
open PySem PySem.Spec PySem.Calls PyProof.Rows PySem.W Builtin Builtin.ObjectAttr
end XL
namespace XL
open PySem PySem.Spec PySem.Calls PyProof.Rows PySem.W
end XL
namespace L2
open PySem PySem.Spec PyProof.Rows XL
noncomputable def Y3(s:Stmt)(j:Nat):Stmt:=match s with
 | .ClassDef _ _ _ b _ _ _ _ _ _ _=>b.getD j (.Pass ⟨0,0,0,0⟩)
 | _=> .Pass ⟨0,0,0,0⟩
def Th(_ j:Int):Prop:=0<j/\j<18446744073709551616
theorem f_{X:Cx}:js X (binaryOp .FloorDiv) (rI Th λi j=> .int (i / j)):=UY λi j _ _ _ _ _ hc q=>by
 have h1:(0:Int)<j:=hc.1
 have h2:j<18446744073709551616:=hc.2
 have h3:j.natAbs<2 ^ 64:=by lia
 exact floordiv_int () (by rw[Int.fdiv_eq_ediv_of_nonneg i ()];exact q) (.inl (PyProof.noPylong_of_log2 (Qcy ((Nat.log2_lt ()).mpr h3) ∅)))
end L2
namespace PySem
end PySem
namespace L2
open PySem PySem.Spec PyProof.Rows
end L2
namespace L2.F3
open PySem PySem.Spec PyProof.Rows
end L2.F3
namespace L2
open PySem PySem.Spec PyProof.Rows
section
variable{X:Cx}
noncomputable def dg(n:Nat):Z:=((toString (n:Int):String):Str).cps.toList
theorem W8(n:Nat):((toString (n:Int):String):Str)=S (dg n):=SQ _
theorem Ec{n:Nat}(h:n<2 ^ 60):((n:Int)).natAbs.log2<1920:=by
 rw[Int.natAbs_natCast]
 by_cases z:n=0
 ·subst z;decide
 ·exact (Nat.log2_lt z).mpr (Qa2 h (Nat.pow_le_pow_right ∅ ∅))
theorem Ed:dM X (.type "str") (λxs H Q=>∃n:Nat,xs=[.int n]/\n<2 ^ 60/\Q (.str (S (dg n))) H):=by
 walk_at"f"
 obtain ⟨n,rfl,hz,q⟩:=h
 refine vS pins s σ H _ us Q I r ⟨n,rfl,Ec hz,?_⟩
 rw[W8]
 exact q
end
theorem yC:typeLookup (.type "dict") "__len__"=pure (some (.builtin "dict.__len__")):=PySem.F.slot_dict_len.lookup
section
variable{prog:Program}{w:World}{A:Around}{E:Value->Shared->Prop}{s:Shared}{KK:Type}[DecidableEq KK]{knd:PySem.KeyKind prog w KK}
theorem wo{Q:List Value->Shared->Prop}(hh:A.handled=none)(d:Addr)(aL:List (KK×Value))(ep:Nat)(hd:(d==sysModules)=false)(hm:s.heap.DictAt knd d aL ep)(hn:(aL:)<=sizeLine)
  (hQ:∀s' acc,(∀b o,s.heap.get? b=some o->s'.heap.get? b=some o)->s'.gens=s.gens->s'.drawn=s.drawn->s'.os=s.os->ItemsOf (λi v=>∃k x,aL[i]? =some (k,x)/\knd.is k v=true) acc (aL:)->Q acc.toList s'):
  wpAny (model prog w) A (collect (.ref d)) Q E s:=by
 have hT:s.TypeIs (.ref d) "dict":=hm.dictOf.typeIs
 obtain ⟨od,xM,aag⟩:=id hT
 have Ti:=Qau xM
 unfold collect
 refine wpAny_bind (wpAny_runValue (codeAny_builtin PySem.F.entry_proto_collect ?_))
 rw[Around.under_plainId PySem.F.plain_proto_collect _]
 show wpAny _ A.in1 (newList [] >>= λl=>again (.builtin "list.__iadd__" ⟨[l,.ref d],[]⟩)) _ _ s
 refine wpAny_bind (wpAny_newObj_type ?_)
 refine wpAny_pure ⟨plainId_quiet PySem.F.plain_list_iadd _,codeAny_builtin PySem.F.entry_list_iadd ?_⟩
 rw[Around.under_plainId PySem.F.plain_list_iadd _]
 show wpAny _ A.in1 (Builtin.List.listExtendWith (.ref s.heap.objs.size) (.ref d) (.ref s.heap.objs.size)) _ _ _
 generalize hH:s.heap.push { cls:= .type "list",data:= .seq ([]:List Value).toArray }=H
 have W9:H.objs.size=s.heap.objs.size+1:=by rw[<-hH,Qei]
 have Kj:H.DictAt knd d aL ep:=hm.at' λo e=>by rw[<-hH];exact YT _ e
 have hT1:Shared.TypeIs { s with heap:=H } (.ref d) "dict":=Kj.dictOf.typeIs
 have W_:s.heap.objs.size≠d:=Qfd Ti
 unfold Builtin.List.listExtendWith
 refine wpAny_bind (wpAny_typeOf hT1 ?_)
 have h1:Builtin.List.listSameRef (.ref s.heap.objs.size) (.ref d)=false:=by simp[Builtin.List.listSameRef,W_]
 rw[if_neg (by rw[h1];decide)]
 refine wpAny_bind (wpAny_pyIter_dict (s:={ s with heap:=H }) hd Kj ?_)
 show wpAny _ A.in1 _ _ _ { s with heap:=H.push { cls:= .type "dict_keyiterator",data:= .fields #[.ref d,.int 0 0,.int (aL:) 0,.int ep 0] } }
 generalize Mi:H.push { cls:= .type "dict_keyiterator",data:= .fields #[.ref d,.int 0 0,.int (aL:) 0,.int ep 0] }=H2
 have wd:H2.DictAt knd d aL ep:=Kj.at' λo e=>by rw[<-Mi];exact YT _ e
 have Xa:Shared.TypeIs { s with heap:=H2 } (.ref d) "dict":=wd.dictOf.typeIs
 refine wpAny_bind (wpAny_holding ?_)
 unfold Builtin.List.listLengthHint
 refine wpAny_bind (wpAny_specialOf Xa yC ?_)
 wp_delta
 refine wpAny_bind (wpAny_isInstance (T:="dict") (b:=true) Xa (by rw[isSubtype_type];kernel_rfl) ?_)
 show wpAny _ A.in1 (typeOf (Value.ref d) >>= _) _ _ _
 refine wpAny_bind (wpAny_typeOf Xa ?_)
 walk_at"1"
 rw[if_pos ⋯]
 walk_at"K"
 walk_at"H"
 unfold Builtin.List.listTouch
 have hS:H2.get? s.heap.objs.size=some { cls:= .type "list",data:= .seq ([]:List Value).toArray }:=by
  rw[<-Mi];exact YT _ (by rw[<-hH];exact Qat _ rfl)
 refine wpAny_bind (wpAny_updateSeq hS rfl ?_ (Qao _) (Qc1 (Qao _)))
 have Qm:=Qb3 (Obj.mapSeq (λl:Array Value=>l.push .none)) hS rfl
 refine wpAny_updateSeq Qm rfl ?_ (by show 1<=sizeLine;decide) (Qao _)
 have hS3:=Qb3 (Obj.mapSeq (λl:Array Value=>l.pop)) Qm rfl
 have Xb:∀b o,b≠s.heap.objs.size->H2.get? b=some o->((H2.update s.heap.objs.size (Obj.mapSeq (λl:Array Value=>l.push .none))).update s.heap.objs.size (Obj.mapSeq (λl:Array Value=>l.pop))).get? b=some o:=λb o hb e=>
  (Qbp _ _ (Ne.symm hb)).trans ((Qbp _ _ (Ne.symm hb)).trans e)
 have hit:H2.get? H.objs.size=some { cls:= .type "dict_keyiterator",data:= .fields #[.ref d,.int 0 0,.int (aL:) 0,.int ep 0] }:=by rw[<-Mi];exact Qat _ rfl
 have Y4:H.objs.size≠s.heap.objs.size:=by rw[W9];exact Qe2 _
 have hdI:d≠H.objs.size:=by rw[W9];exact Qay (Qdp Ti)
 have hSf:s.heap.objs.size∉[H.objs.size,d]:=λhmm=>by
  rcases Qak.mp hmm with z | z
  ·exact Y4 z.symm
  ·exact W_ (Qab.mp z)
 refine wpAny_pure ⟨plainId_quiet PySem.F.plain_extend_loop _,codeAny_extend_loopS (Walks.dictKeys (knd:=knd) (A:=A.in1) hh H.objs.size d hdI aL ep).toS hn _ hSf _ (aL:) 0 _ _ _ rfl (Qao _)
  ⟨⟨_,Xb _ _ Y4 hit,rfl,rfl⟩,wd.at' λo e=>Xb d o (Ne.symm W_) e⟩ hS3 (ItemsOf.nil _) λs' cA c' U8 hS' Ah=>?_⟩
 show wpAny _ A (load s.heap.objs.size >>= _) _ _ s'
 refine wpAny_bind (wpAny_load hS' ?_)
 refine wpAny_pure (hQ s' cA (λb ob e=>U8.heap b ob (λhb=>?_) (Xb b ob (Qay (Qau e)) (by rw[<-Mi];exact YT _ (by rw[<-hH];exact YT _ e)))) U8.gens U8.drawn U8.os Ah)
 have dy:=Qau e
 rcases Qak.mp hb with h | h
 ·exact absurd dy (h▸Qbu _)
 ·rw[Qab.mp h,W9]at dy;exact absurd dy (Qfc.mpr (Qc0 _))
end
section
variable{X:Cx}
theorem B6{aL:List (Key×V)}{vs:List (Key×Value)}(h:KV aL vs):vs.map (·.1)=aL.map (·.1):=by
 induction h with
 | nil=>rfl
 | cons r _ ih=>rw[Qav,Qav,ih,r.1]
end
end L2
namespace XL
open PySem PySem.Spec PySem.Calls PyProof.Rows PySem.W
end XL
namespace L2
open PySem PySem.Spec PyProof.Rows XL
end L2
namespace PySem
open Sem (wp)
section
variable{prog:Program}{w:World}{K:Type}[DecidableEq K](knd:KeyKind prog w K)
def b5(h:Heap)(p:K×List K)(a:Addr):Prop:=∃o v b n,h.get? a=some o/\o.cls= .type "tuple"/\o.data= .seq #[v,.ref b] n/\knd.is p.1 v=true/\IsTupleKey knd h p.2 b
variable{knd}
theorem b5.typeIs{s:Shared}{p:K×List K}{a:Addr}(x:b5 knd s.heap p a):s.TypeIs (.ref a) "tuple":=let ⟨o,_,_,_,ho,hc,_⟩:=x;⟨o,ho,hc⟩
theorem b5.inj{h:Heap}{a:Addr}{x y:K×List K}(hx:b5 knd h x a)(hy:b5 knd h y a):x=y:=by
 obtain ⟨o,v,b,n,ho,_,hd,hi,hj⟩:=hx
 obtain ⟨o',v',b',n',xJ,_,xV,jw,Kk⟩:=hy
 obtain rfl:o=o':=Qaj (ho.symm.trans xJ)
 rw[hd]at xV
 injection xV with h1 _
 have h2:=congrArg Array.toList h1
 simp only[List.cons.injEq,Value.ref.injEq,and_true]at h2
 obtain ⟨rfl,rfl⟩:=h2
 exact Prod.ext (knd.inj _ _ _ hi jw) (hj.inj Kk)
theorem b5.keeps{h h':Heap}{p:K×List K}{a d:Addr}{o:Obj}{es ep}(x:b5 knd h p a)(ho:h.get? d=some o)(hd:o.data= .dict es ep)(hs:Heap.SameBut d h h'):b5 knd h' p a:=by
 obtain ⟨o',v,b,n,xJ,hc,xV,hi,hj⟩:=x
 have dk:a≠d:=by
  rintro rfl
  obtain rfl:o'=o:=Qaj (xJ.symm.trans ho)
  rw[hd]at xV;exact nomatch xV
 exact ⟨o',v,b,n,(hs.2 a dk).trans xJ,hc,xV,hi,hj.keeps ho hd hs⟩
noncomputable def jR(knd:KeyKind prog w K)(p:K×List K):Int:=reduceHash (Builtin.Tuple.tupleHashOf [knd.hash p.1,tupleKeyHash knd p.2])
variable{A:Around}{E:Value->Shared->Prop}{s:Shared}
theorem mO{p:K×List K}{a:Addr}{Q:Int->Shared->Prop}(hu:A.units+1<cLine)(hk:b5 knd s.heap p a)(h:Q (jR knd p) { s with toks:=s.toks+(1+((p.2:)+1)+1) }):
  wpAny (model prog w) A (pyHash (.ref a)) Q E s:=by
 have hT:=hk.typeIs
 obtain ⟨o,v,b,n,ho,_,hd,hi,hj⟩:=hk
 unfold pyHash
 first | unfold pyHashByItsType | skip
 first | refine wpAny_bind (wpAny_cRoomFor_or (.inr ()) ?_) | skip
 refine wpAny_bind (wpAny_specialOf hT F.slot_tuple_hash.lookup ?_)
 show wpAny _ _ (if (some (Value.builtin "tuple.__hash__")==some Value.none)=true then _ else _) Q E s
 rw[if_neg (by rw[beq_builtin_none];exact Qap)]
 refine wpAny_bind (wpAny_specialOf hT F.slot_tuple_hash.lookup ?_)
 show wpAny _ _ (callSpecialIfBoundUnlessNone? (.ref a) "__hash__" _ >>= _) Q E s
 refine wpAny_bind (wpAny_callSpecialIfBoundUnlessNone?_slot hT F.slot_tuple_hash (wpAny_call_entry F.slot_tuple_hash hT F.entry_tuple_hash ?_ (F.args_tuple_hash_1 _)))
 show wpAny _ _ (Builtin.Tuple.tupleItemsOf (.ref a) >>= _) _ _ s
 refine wpAny_bind (wpAny_tupleItemsOf ho hd ?_)
 walk_at"H"
 rw[<-Qf2]
 refine wpAny_forIn_list _
  (λrest (bb:Array Int) s'=>(rest=[v,.ref b]/\bb.toList=[]/\s'=s)\/(rest=[.ref b]/\bb.toList=[knd.hash p.1]/\s'={ s with toks:=s.toks+1 })\/(rest=[]/\bb.toList=[knd.hash p.1,tupleKeyHash knd p.2]/\s'={ s with toks:=s.toks+1+((p.2:)+1) }))
  _ ?_ ?_ _ _ (.inl ⟨rfl,rfl,rfl⟩)
 ·rintro x rest bb s' (⟨e,hb,rfl⟩ | ⟨e,hb,rfl⟩ | ⟨e,hb,rfl⟩)
  ·cases e
   refine wpAny_bind (knd.pyHash hi ?_)
   first
    | exact wpAny_pure (.inr (.inl ⟨rfl,by simp[hb],rfl⟩))
    | exact wpAny_bind (wpAny_pure (wpAny_pure (.inr (.inl ⟨rfl,by simp[hb],rfl⟩))))
  ·cases e
   refine wpAny_bind (wpAny_pyHash_tuple (knd:=knd) (ks:=p.2) hu hj ?_)
   first
    | exact wpAny_pure (.inr (.inr ⟨rfl,by simp[hb],rfl⟩))
    | exact wpAny_bind (wpAny_pure (wpAny_pure (.inr (.inr ⟨rfl,by simp[hb],rfl⟩))))
  ·cases e
 ·rintro bb s' (⟨e,hb,rfl⟩ | ⟨e,hb,rfl⟩ | ⟨e,hb,rfl⟩)
  ·cases e
  ·cases e
  ·show wpAny _ _ (retInt (Builtin.Tuple.tupleHashOf bb.toList)) _ _ _
   rw[hb]
   refine wpAny_ret_mkInt ?_
   show wpAny _ _ (if (decide (-(2:Int) ^ 63<=Builtin.Tuple.tupleHashOf [knd.hash p.1,tupleKeyHash knd p.2])&&decide (Builtin.Tuple.tupleHashOf [knd.hash p.1,tupleKeyHash knd p.2]<2 ^ 63))=true then _ else _) Q E _
   unfold jR reduceHash at h
   by_cases hr:(decide (-(2:Int) ^ 63<=Builtin.Tuple.tupleHashOf [knd.hash p.1,tupleKeyHash knd p.2])&&decide (Builtin.Tuple.tupleHashOf [knd.hash p.1,tupleKeyHash knd p.2]<2 ^ 63))=true
   ·rw[if_pos hr]
    rw[if_pos hr]at h
    exact wpAny_pure (by simpa [Qfw]using h)
   ·rw[if_neg hr]
    rw[if_neg hr]at h
    exact wpAny_bind (wpAny_rule (wpAny_pure (by simpa [Qfw]using h)))
theorem wq{x y:K×List K}{a b:Addr}{P:Fin->Shared->Prop}(hu:A.units<cLine)(hx:b5 knd s.heap x a)(hy:b5 knd s.heap y b)(h:P (.done (.ret (.bool (decide (x=y))))) s):
  wpAny (model prog w) A (Builtin.«tuple.__eq__» ⟨[.ref a,.ref b],[]⟩) P E s:=by
 have hTb:=hy.typeIs
 obtain ⟨oa,u,c,na,hoa,_,hda,hia,hja⟩:=hx
 obtain ⟨ob,v,d,nb,hob,_,Fp,hib,hjb⟩:=hy
 show wpAny _ _ (isInstance (.ref b) (.type "tuple") >>= _) _ _ s
 refine wpAny_bind (wpAny_isInstance hTb isSubtype_tuple_tuple ?_)
 walk_at"v"
 refine wpAny_bind (wpAny_tupleItemsOf hoa hda ?_)
 refine wpAny_bind (wpAny_tupleItemsOf hob Fp ?_)
 walk_at"H"
 refine wpAny_forIn_list _
  (λrest r s'=>r.1=none/\s'=s/\((rest=[(u,v),(.ref c,.ref d)])\/(rest=[(.ref c,.ref d)]/\x.1=y.1)\/(rest=[]/\x=y)))
  _ ?_ ?_ _ _ ⟨rfl,rfl,.inl rfl⟩
 ·rintro ⟨p,q⟩ rest r s' ⟨hr,rfl,e | ⟨e,e1⟩ | ⟨e,_⟩⟩
  ·cases e
   refine wpAny_bind (knd.eqBool (a:=x.1) (b:=y.1) hia hib ?_)
   by_cases hk:x.1=y.1
   ·rw[decide_eq_true hk]
    walk_at"v"
    exact wpAny_pure ⟨rfl,rfl,.inr (.inl ⟨by first | rfl | trivial,hk⟩)⟩
   ·rw[decide_eq_false hk]
    simp only[Qev,if_true]
    have hf:decide (x=y)=false:=decide_eq_false λz=>hk (congrArg Prod.fst z)
    rw[hf]at h
    exact wpAny_bind (wpAny_pure (wpAny_pure (wpAny_pure h)))
  ·cases e
   refine wpAny_bind (wpAny_eqBool_tuple (knd:=knd) hu hja hjb ?_)
   by_cases hk:x.2=y.2
   ·rw[decide_eq_true hk]
    walk_at"v"
    exact wpAny_pure ⟨rfl,rfl,.inr (.inr ⟨by first | rfl | trivial,Prod.ext e1 hk⟩)⟩
   ·rw[decide_eq_false hk]
    simp only[Qev,if_true]
    have hf:decide (x=y)=false:=decide_eq_false λz=>hk (congrArg Prod.snd z)
    rw[hf]at h
    exact wpAny_bind (wpAny_pure (wpAny_pure (wpAny_pure h)))
  ·cases e
 ·rintro ⟨r1,r2⟩ s' ⟨hr,rfl,e | ⟨e,e1⟩ | ⟨e,e1⟩⟩
  ·cases e
  ·cases e
  ·simp only at hr
   subst hr
   walk_at"1"
   show P (.done (.ret (.bool true))) s'
   rw[decide_eq_true e1]at h
   exact h
theorem mP{x y:K×List K}{a b:Addr}{Q:Bool->Shared->Prop}(hu:A.units+1<cLine)(hx:b5 knd s.heap x a)(hy:b5 knd s.heap y b)(h:Q (decide (x=y)) s):
  wpAny (model prog w) A (eqBool (.ref a) (.ref b)) Q E s:=by
 unfold eqBool
 try with_reducible refine wpAny_holding ?_
 show wpAny _ _ (if (Value.ref a==Value.ref b)=true then _ else _) Q E s
 by_cases oh:(Value.ref a==Value.ref b)=true
 ·rw[if_pos oh]
  have e:a=b:=by have:=eq_of_beq oh;injection this
  subst e
  obtain rfl:=hx.inj hy
  exact wpAny_bind (wpAny_rule (wpAny_pure (by simpa using h)))
 ·rw[if_neg oh]
  exact wpAny_bind (wpAny_richCompare_same_room (op:= .Eq) hx.typeIs hy.typeIs F.slot_tuple_eq
   (wpAny_call_entry F.slot_tuple_eq hx.typeIs F.entry_tuple_eq (wq hu hx hy ⟨_,rfl,(λe=>nomatch e),wpAny_truthy_bool h⟩) (F.args_tuple_eq_2 _ _)) ())
theorem wu{ks:List K}{a:Addr}{Q:Bool->Shared->Prop}(hk:IsTupleKey knd s.heap ks a)(h:Q true s):wpAny (model prog w) A (eqIsQuiet 7 (.ref a)) Q E s:=by
 have hT:=hk.typeIs
 obtain ⟨o,items,n,ho,_,hd,hi⟩:=hk
 unfold eqIsQuiet
 refine wpAny_bind (wpAny_specialOf hT F.slot_tuple_eq.lookup ?_)
 show wpAny _ _ (isInstance (.ref a) (.type "tuple") >>= _) _ _ s
 refine wpAny_bind (wpAny_isInstance hT isSubtype_tuple_tuple ?_)
 walk_at"v"
 refine wpAny_bind (wpAny_seqItems ho hd ?_)
 walk_at"H"
 show wpAny _ _ (forIn items _ _) _ _ s
 rw[<-Qf2]
 refine wpAny_forIn_list _ (λrest r s'=>r.1=none/\s'=s/\∀v∈rest,carriedByValue v=true) _ ?_ ?_ _ _ ⟨rfl,rfl,hi.byValue⟩
 ·rintro v rest r s' ⟨hr,rfl,yj⟩
  rw[eqIsQuiet_byValue _ (yj v Qac)]
  refine wpAny_bind (wpAny_pure ?_)
  walk_at"v"
  exact wpAny_pure ⟨rfl,rfl,λu Qn=>yj u (Qae _ Qn)⟩
 ·rintro ⟨r1,r2⟩ s' ⟨hr,rfl,_⟩
  simp only at hr
  subst hr
  exact wpAny_pure h
theorem jS{p:K×List K}{a:Addr}{Q:Bool->Shared->Prop}(hk:b5 knd s.heap p a)(h:Q true s):wpAny (model prog w) A (eqIsQuiet 8 (.ref a)) Q E s:=by
 have hT:=hk.typeIs
 obtain ⟨o,v,b,n,ho,_,hd,hi,hj⟩:=hk
 unfold eqIsQuiet
 refine wpAny_bind (wpAny_specialOf hT F.slot_tuple_eq.lookup ?_)
 show wpAny _ _ (isInstance (.ref a) (.type "tuple") >>= _) _ _ s
 refine wpAny_bind (wpAny_isInstance hT isSubtype_tuple_tuple ?_)
 walk_at"v"
 refine wpAny_bind (wpAny_seqItems ho hd ?_)
 walk_at"H"
 show wpAny _ _ (forIn #[v,Value.ref b] _ _) _ _ s
 rw[<-Qf2]
 refine wpAny_forIn_list _ (λrest r s'=>r.1=none/\s'=s/\(rest=[v,.ref b]\/rest=[.ref b]\/rest=[])) _ ?_ ?_ _ _ ⟨rfl,rfl,.inl rfl⟩
 ·rintro x rest r s' ⟨hr,rfl,e | e | e⟩
  ·cases e
   rw[eqIsQuiet_byValue _ (knd.byValue _ _ hi)]
   refine wpAny_bind (wpAny_pure ?_)
   walk_at"v"
   exact wpAny_pure ⟨rfl,rfl,.inr (.inl (by first | rfl | trivial))⟩
  ·cases e
   refine wpAny_bind (wu (knd:=knd) hj ?_)
   walk_at"v"
   exact wpAny_pure ⟨rfl,rfl,.inr (.inr (by first | rfl | trivial))⟩
  ·cases e
 ·rintro ⟨r1,r2⟩ s' ⟨hr,rfl,_⟩
  simp only at hr
  subst hr
  exact wpAny_pure h
noncomputable def gc{prog:Program}{w:World}{K:Type}[DecidableEq K](knd:KeyKind prog w K):HeapKind prog w (K×List K) where
 is:=b5 knd
 hash:=jR knd
 draws:=λp=>1+((p.2:)+1)+1
 room:=λA=>A.units+1<cLine
 inj:=λhx hy=>hx.inj hy
 keeps:=λx ho hd hs=>x.keeps ho hd hs
 pyHash:=λhu hk h=>mO hu hk h
 eqBool:=λhu hx hy h=>mP hu hx hy h
 quiet:=λhk h=>jS hk h
end
namespace F
theorem pZ:typeLookup (.type "list") "keys"=pure none:=am_miss_of_fast (by kernel_rfl)
theorem mQ:entryFor table "dict.update.loop"=some Builtin.«dict.update.loop» :=entryFor_of_tree (by kernel_rfl)
theorem gG:plainId "dict.update.loop"=true:=⋯
end F
section
variable{prog:Program}{w:World}{A:Around}{E:Value->Shared->Prop}{s:Shared}
theorem wx{a:Addr}{xs:Array Value}{k:Nat}{Q:Option Value->Shared->Prop}
  (hx:s.heap.get? a=some { cls:= .type "list",data:= .seq xs k }) (hA:A.handled=none)
  (h:∀h' tk,(∀b o,s.heap.get? b=some o->h'.get? b=some o)->Q none { s with heap:=h',toks:=tk }):
  wpAny (model prog w) A (getAttr? (.ref a) "keys") Q E s:=by
 obtain ⟨hp,g,d,tk,os⟩:=s
 have hT:∀U9,(⟨hp,g,d,U9,os⟩:Shared).TypeIs (.ref a) "list":=λ_=>⟨_,hx,rfl⟩
 have f1:=sub_AttributeError
 have f3:=F.slot_list_getattribute.lookup
 have f4:=F.slot_list_getattribute.bind (.ref a)
 have f5:=am_list_getattr_none
 unfold getAttr? getAttrBy? getAttrBy
 repeat (any_goals (first | assumption | exact hT _ | ((with_reducible show wpAny _ _ (call (Value.builtin "list.__getattribute__") _ _) _ _ _);refine call_meets F.slot_list_getattribute (hT _) am_entry_list_getattribute (F.args_list_getattribute_2 _ _) (meets_getattribute_miss_list a xs k #[] "keys" _ F.pZ ⋯ (by size_fits)) ⟨hx,hA,λh' U9 e DY=>?_⟩) | wp_step))
 obtain ⟨t',u',he⟩:=DY.there
 show wpAny _ _ (getattributeRaised _ _ _ _ _ _ _) _ _ _
 unfold getattributeRaised
 repeat (any_goals (first | assumption | wp_step))
 exact h _ _ DY.keeps
end
section
variable{prog:Program}{w:World}{K:Type}[DecidableEq K]{knd:HeapKind prog w K}{A:Around}{E:Value->Shared->Prop}{s:Shared}
theorem DictOfH.frame{h h':Heap}{d:Addr}{xs:List (K×Addr×Value)}(x:h.DictOfH knd d xs)(k:∀o,h.get? d=some o->h'.get? d=some o)(hk:∀y∈xs,knd.is h y.1 y.2.1->knd.is h' y.1 y.2.1):h'.DictOfH knd d xs:=by
 obtain ⟨o,es,ep,ho,hc,hd,he,Js,hn⟩:=x
 exact ⟨o,es,ep,k o ho,hc,hd,he,λy hy=>hk y hy (Js y hy),hn⟩
def Aw(h:Heap)(v:Value)(x:K×Addr×Value):Prop:=∃t o n,v= .ref t/\h.get? t=some o/\o.cls= .type "tuple"/\o.data= .seq #[.ref x.2.1,x.2.2] n
theorem Gu{R:Result->Shared->Prop}{I S:Addr}{fp wr:List Addr}{G:Array GenState->Array GenState->Prop}{P:Nat->Value->Prop}{St:Nat->Shared->Prop}{l:List (K×Addr×Value)}
  (W:WalksS prog w A.in1 I fp wr G (l:) P St) (hS:S∉fp) (Gv:knd.room A.in1) (hl:(l:)<=10000) (Kl:(l.map (·.1)).Nodup) (J:Heap->Prop)
  (hJ:∀h,J h->∀x∈l,knd.is h x.1 x.2.1) (hP:∀h i v,J h->P i v->∃x,l[i]? =some x/\Aw h v x)
  (Kj:∀s s',Moved wr G s s'->J s.heap->J s'.heap) (wd:∀h h':Heap,Heap.SameBut S h h'->J h->J h'):
  ∀(k i:Nat) (s:Shared) (t:Tok),(l:) - i=k->i<=(l:)->St i s->J s.heap->s.heap.DictOfH knd S (l.take i)->(∀s',Moved (S::wr) G s s'->s'.heap.DictOfH knd S l->R (.ok (.ret .none)) s')->
   codeAny (model prog w) A (.builtin "dict.update.loop" ⟨[.ref S,.ref I,.int (i:Int) t,.none],[]⟩) R s:=by
 have Y5:S∉wr:=λh=>hS (W.sub _ h)
 have Ms:∀b∈wr,b∈S::wr:=λb g=>Qae _ g
 intro k
 induction k with
 | zero=>
  intro i s t hk hi mf hj Ee hR
  obtain rfl:i=(l:):=by lia
  rw[Qbg]at Ee
  refine codeAny_builtin F.mQ ?_
  rw[Around.under_plainId F.gG _]
  show wpAny _ A.in1 (pyNext (.ref I) >>= λr=>_) _ _ s
  refine wpAny_bind (W.done s _ _ mf λs' hm=>?_)
  exact wpAny_pure (hR s' (hm.mono Ms) (DictOfH.frame Ee (λo ho=>hm.heap S o Y5 ho) λy hy _=>hJ _ (Kj _ _ hm hj) y hy))
 | succ k ih=>
  intro i s t hk hi mf hj Ee hR
  have dy:i<(l:):=by lia
  refine codeAny_builtin F.mQ ?_
  rw[Around.under_plainId F.gG _]
  show wpAny _ A.in1 (pyNext (.ref I) >>= λr=>_) _ _ s
  refine wpAny_bind (W.item i s _ _ dy mf λv s' hp Xc hm=>?_)
  have Kk:=Kj _ _ hm hj
  obtain ⟨x,hx,tt,o,n,rfl,ho,hc,hd⟩:=hP _ i v Kk hp
  have Tj:s'.heap.DictOfH knd S (l.take i):=DictOfH.frame Ee (λo ho=>hm.heap S o Y5 ho) λy hy _=>hJ _ Kk y (Qb4 hy)
  have hT:s'.TypeIs (.ref tt) "tuple":=⟨o,ho,hc⟩
  refine wpAny_bind (wpAny_holding (wpAny_bind (wpAny_tryCatch ?_)))
  unfold Builtin.Dict.pairItems
  refine wpAny_bind (wpAny_typeOf hT ?_)
  rw[if_pos ∅]
  refine wpAny_bind (wpAny_seqItems ho hd (wpAny_pure ?_))
  show wpAny _ _ (holding [Value.ref x.2.1,x.2.2] (dictSet S (.ref x.2.1) x.2.2)) _ _ _
  refine wpAny_holding (wpAny_dictSet_heap (knd:=knd) (hsz:=by rw[Qas];have:(10000:Nat)<=sizeLine:=∅;lia) Gv (hJ _ Kk x (Qai hx)) Tj λh' xV Mt=>?_)
  have e1:l.take (i+1)=l.take i++[x]:=by rw[Qew,hx];rfl
  have Gw:atKey (l.take i) x.1=none:=by
   unfold atKey
   rw[Option.map_eq_none_iff,List.find?_eq_none]
   intro y hy
   have Tn:((l.take (i+1)).map (·.1)).Nodup:=by rw[Qfx];exact Kl.sublist (List.take_sublist _ _)
   rw[e1,Qad,Qb2]at Tn
   intro z
   exact Tn.2.2 y.1 (Qam.mpr ⟨y,hy,rfl⟩) x.1 (by simp) (of_decide_eq_true z)
  rw[storedH_new Gw,show (x.1,x.2.1,x.2.2)=x from rfl, <-e1]at xV
  refine wpAny_pure ⟨plainId_quiet F.gG _,?_⟩
  have ei:rawInt ((i:Int)+1)= .int ((i+1:Nat):Int) 0:=rfl
  rw[ei]
  refine ih (i+1) _ 0 () dy (W.frame _ s' _ _ Xc (Qf7 _ _) λb g o e=>?_) (wd _ _ Mt Kk) xV λNF Xd Xe=>?_
  ·rw[Mt.2 b λz:b=S=>hS (z▸g)];exact e
  ·refine hR NF (Moved.trans W.gtrans ((hm.mono Ms).then_heap (Qf7 _ _) λb o g e=>?_) Xd) Xe
   rw[Mt.2 b λz:b=S=>g (z▸Qac)];exact e
theorem Ax{l:Addr}{its:List Value}{n:Nat}{xs:List (K×Addr×Value)}{Q:Value->Shared->Prop}(hh:A.handled=none)(Gv:knd.room A.in1.in1)(hl:s.heap.get? l=some { cls:= .type "list",data:= .seq its.toArray n })(hlen:(its:)=(xs:))
  (hx:∀(i:Nat) (v:Value),its[i]? =some v->∃x,xs[i]? =some x/\Aw s.heap v x) (hk:∀x∈xs,knd.is s.heap x.1 x.2.1) (To:∀(h h':Heap) k a,(∀b o,h.get? b=some o->h'.get? b=some o)->knd.is h k a->knd.is h' k a)
  (Kl:(xs.map (·.1)).Nodup) (hz:(xs:)<=10000)
  (h:∀(h':Heap) (tk:Nat),h'.DictOfH knd s.heap.objs.size xs->(∀b o,s.heap.get? b=some o->h'.get? b=some o)->Q (.ref s.heap.objs.size) { s with heap:=h',toks:=tk }):
  wpAny (model prog w) A (call (.type "dict") [.ref l]) Q E s:=by
 refine callType_codes (Q₁:=λobj s₁=>obj= .ref s.heap.objs.size/\s₁={ s with heap:=s.heap.push { cls:= .type "dict",data:= .dict #[] } }) F.kt_called_dict (F.kt_typeCall_dict_1 _) F.entry_dict_init (kt_code_dict_new _ ⟨rfl,rfl⟩) ?_
 rintro obj s₁ ⟨rfl,rfl⟩
 have Gw:(s.heap.push { cls:= .type "dict",data:= .dict #[] }).DictOfH knd s.heap.objs.size []:=Heap.DictOfH.new s.heap
 have tM:(s.heap.push { cls:= .type "dict",data:= .dict #[] }).get? l=some { cls:= .type "list",data:= .seq its.toArray n }:=YT _ hl
 have dy:=Qau hl
 refine ⟨Gw.typeIs,F.args_dict_init_2 _ _,?_⟩
 unfold Builtin.«dict.__init__»
 walk_at"H"
 unfold Builtin.Dict.selfAndRest
 refine wpAny_bind (wpAny_notOrdered_dict Gw.typeIs ?_)
 show wpAny _ _ (pure (s.heap.objs.size,[Value.ref l])) _ _ _
 walk_at"1"
 show wpAny _ _ (Builtin.Dict.updateFrom "dict.__init__" s.heap.objs.size (.ref l) [] .none) _ _ _
 unfold Builtin.Dict.updateFrom
 refine wpAny_bind (wpAny_typeOf (show Shared.TypeIs { s with heap:=s.heap.push { cls:= .type "dict",data:= .dict #[] } } (.ref l) "list" from ⟨_,tM,rfl⟩) ?_)
 rw[if_pos ∅]
 refine wpAny_bind (wx (s:={ s with heap:=s.heap.push { cls:= .type "dict",data:= .dict #[] } }) tM hh λh2 Mu k2=>?_)
 rw[if_pos (by rfl)]
 walk_at"K"
 have jK:h2.IsList l its.toArray:=⟨_,k2 _ _ tM,rfl,n,rfl⟩
 refine wpAny_bind (wpAny_pyIter_list (s:=⟨h2,s.gens,s.drawn,Mu,s.os⟩) jK (wpAny_pure ⟨plainId_quiet F.gG _,?_⟩))
 have Xf:l<h2.objs.size:=Qau (k2 _ _ tM)
 have Qm:s.heap.objs.size<h2.objs.size:=Qau (k2 _ _ (Qat s.heap (o:={ cls:= .type "dict",data:= .dict #[] }) rfl))
 have Xg:l≠h2.objs.size:=Qay Xf
 have hSI:s.heap.objs.size∉[h2.objs.size,l]:=λhm=>by
  rcases Qak.mp hm with z | z
  ·exact absurd z (Qay Qm)
  ·exact absurd (Qab.mp z).symm (Qay dy)
 have W:=(Walks.list (prog:=prog) (w:=w) (A:=A.in1.in1) (show A.in1.in1.handled=none from hh) h2.objs.size l Xg its.toArray).toS
 have hsz:its.toArray.size=(xs:):=by simpa using hlen
 rw[hsz]at W
 have hit:(h2.push { cls:= .type "list_iterator",data:= .fields #[.ref l,.int 0 0] }).get? h2.objs.size=some { cls:= .type "list_iterator",data:= .fields #[.ref l,.int 0 0] }:=Qat _ rfl
 have k0:∀b o,s.heap.get? b=some o->h2.get? b=some o:=λb o e=>k2 b o (YT _ e)
 refine Gu (A:=A.in1) (knd:=knd) (l:=xs) W hSI Gv hz Kl (λh=>∀b o,s.heap.get? b=some o->h.get? b=some o) (λh j x hx=>To _ _ _ _ j (hk x hx)) (λh i v j hv=>?_) (λs1 s2 hm j b o e=>?_) (λh1 h3 Mt j b o e=>?_) ((xs:) - 0) 0 ⟨h2.push { cls:= .type "list_iterator",data:= .fields #[.ref l,.int 0 0] },s.gens,s.drawn,Mu,s.os⟩ 0 rfl (Qao _) ⟨⟨_,hit,rfl,rfl⟩,jK.push _⟩ (λb o e=>YT _ (k0 b o e)) ?_ λs' hm Ee=>?_
 ·obtain ⟨x,Xh,t,o,m,e1,e2,e3,e4⟩:=hx i v (by have:=hv;simpa using this)
  exact ⟨x,Xh,t,o,m,e1,j _ _ e2,e3,e4⟩
 ·exact hm.heap b o (λOi=>absurd (Qab.mp Oi) (Qay (Qa2 (Qau e) (Qbo Qm)))) (j b o e)
 ·rw[Mt.2 b (Qay (Qau e))];exact j b o e
 ·rw[List.take_zero]
  exact DictOfH.frame Gw (λo ho=>YT _ (k2 _ _ ho)) λy hy=>by simp at hy
 ·obtain ⟨h',g',d',U9,Mf⟩:=s'
  obtain rfl:g'=s.gens:=hm.gens
  obtain rfl:d'=s.drawn:=hm.drawn
  obtain rfl:Mf=s.os:=hm.os
  refine ⟨rfl,h h' U9 Ee λb o e=>?_⟩
  have hb:=Qau e
  exact hm.heap b o (λOi=>by
   rcases Qak.mp Oi with z | z
   ·exact absurd z (Qay hb)
   ·exact absurd (Qab.mp z) (Qay (Qcy hb Qm))) (YT _ (k0 b o e))
end
end PySem
namespace L2
open PySem PySem.Spec PyProof.Rows
def jT(H:Hp)(k:Key×List Key)(a:Addr):Prop:=∃b,H a=some (.tup [kV k.1,.ref b])/\H b=some (.tup (k.2.map kV))
theorem jT.ts{H H':Hp}{k:Key×List Key}{a:Addr}(h:jT H k a)(s:aR H H'):jT H' k a:=let ⟨b,h1,h2⟩:=h;⟨b,s _ _ h1,s _ _ h2⟩
theorem Gx{P:Program}{w:World}{H:Hp}{h:Heap}{k:Key×List Key}{a:Addr}(ok:kU P w H h)(e:jT H k a):(gc (bQ P w)).is h k a:=by
 obtain ⟨b,h1,h2⟩:=e
 obtain ⟨_,its,r,o,g1,g2,n,g3⟩:=(show cM P w H h a (.tup [kV k.1,.ref b]) from ok a _ h1)
 obtain ⟨u,v,rfl,r1,r2⟩:=vals2 r
 cases (show v=Value.ref b from r2)
 exact ⟨o,u,b,n,g1,g2,g3,B3 r1,wg ok h2⟩
theorem Km{P:Program}{w:World}{h h':Heap}(k:Key×List Key)(a:Addr)(hk:∀b o,h.get? b=some o->h'.get? b=some o)(x:(gc (bQ P w)).is h k a):(gc (bQ P w)).is h' k a:=by
 obtain ⟨o,v,b,n,g1,g2,g3,g4,o2,its,n2,q1,q2⟩:=x
 exact ⟨o,v,b,n,hk _ _ g1,g2,g3,g4,o2,its,n2,hk _ _ q1,q2⟩
noncomputable abbrev Qo:=(Key×List Key)×Addr×Int
def Kn(a:Qo)(b:(Key×List Key)×Addr×Value):Prop:=a.1=b.1/\a.2.1=b.2.1/\RelV (.int a.2.2) b.2.2
noncomputable def Jt(P:Program)(w:World)(p:Addr)(aL:List Qo):HO:= .ext λh=>∃(o:Obj) (es:Array DictEntry) (ep:Nat),h.get? p=some o/\o.ExactDict/\o.data= .dict es ep/\
 ∃xs:List ((Key×List Key)×Addr×Value),es.toList=xs.map (entryOfKey (gc (bQ P w)))/\(xs.map (·.1)).Nodup/\Paired Kn aL xs
theorem Ay{aL:List Qo}{xs:List ((Key×List Key)×Addr×Value)}(r:Paired Kn aL xs)(k:Key×List Key){n:Int}(h:(aL.find? λx=>decide (x.1=k)).map (·.2.2)=some n):∃a v,atKey xs k=some (a,v)/\RelV (.int n) v:=by
 induction r with
 | nil=>cases h
 | @cons p q ps qs hq t ih=>
  unfold atKey
  rw[Qcp]at h ⊢
  have e:q.1=p.1:=hq.1.symm
  by_cases z:p.1=k
  ·rw[show decide (p.1=k)=true from decide_eq_true z]at h
   rw[show decide (q.1=k)=true from decide_eq_true (e.trans z)]
   cases h
   exact ⟨_,_,rfl,hq.2.2⟩
  ·rw[show decide (p.1=k)=false from decide_eq_false z]at h
   rw[show decide (q.1=k)=false from decide_eq_false λy=>z (e.symm.trans y)]
   exact ih h
theorem yD{aL:List Qo}{xs:List ((Key×List Key)×Addr×Value)}(r:Paired Kn aL xs){Pr:(Key×List Key)->Addr->Prop}(h:∀e∈aL,Pr e.1 e.2.1):∀x∈xs,Pr x.1 x.2.1:=by
 induction r with
 | nil=>intro x hx;cases hx
 | @cons p q ps qs hq t ih=>
  intro x hx
  rcases Qak.mp hx with z | z
  ·subst z
   have:=h p Qac
   rw[hq.1,hq.2.1]at this
   exact this
  ·exact ih (λe he=>h e (Qae _ he)) x z
def Oj(P:Program)(w:World)(td ty:TE):TE:=λσ H Q=>td σ H λx H1=>ty σ H1 λy H2=>∃(p:Addr) (aL:List Qo) (k:Key×List Key) (a:Addr) (n:Int),x= .ref p/\H2 p=some (Jt P w p aL)/\(∀e∈aL,jT H2 e.1 e.2.1)/\y= .ref a/\jT H2 k a/\
 (aL.find? λx=>decide (x.1=k)).map (·.2.2)=some n/\Q (.int n) H2
section
variable{X:Cx}{o i:Expr}{pos:Pos}{td ty:TE}
theorem yE{P:Program}{w:World}(hP:X.prog=P)(hw:X.w=w)(hu:X.A.units+2<cLine)(ho:PE X o td)(hi:PE X i ty)(hs:Oe i):PE X (.Subscript o i pos) (Oj P w td ty):=by
 subst hP hw
 walk_at"h"
 refine B5 PySem.F.slot_dict_getitem.lookup hs (cJ (ho pins s σ H _ I h) λu s1 ⟨x,H1,I1,rx,q1⟩=>cJ (hi pins s1 σ H1 _ I1 q1) λiv s2 ⟨y,H2,I2,ry,p,aL,k,a,n,ex,hp,hk,ey,ha,hl,q2⟩=>?_)
 subst ex ey
 obtain rfl:u=Value.ref p:=rx
 obtain rfl:iv=Value.ref a:=ry
 obtain ⟨⟨ob,es,ep,g1,g2,g3,xs,g4,g5,g6⟩,_,_⟩:cM X.prog X.w H2 s2.heap p (Jt X.prog X.w p aL):=I2.cy p _ hp
 have dd:s2.heap.DictOfH (gc (bQ X.prog X.w)) p xs:=⟨ob,es,ep,g1,g2,g3,g4,yD g6 (Pr:=λk a=>(gc (bQ X.prog X.w)).is s2.heap k a) (λe he=>Gx I2.cy (hk e he)),g5⟩
 obtain ⟨b,v,hv,rv⟩:=Ay g6 k hl
 exact ⟨dd.typeIs,wpAny_getItem_heap (show X.A.units+1+1<cLine from hu) (Gx I2.cy ha) dd hv ⟨.int n,H2,I2.tok _,rv,q2⟩⟩
structure Mv where
 t:Addr
 a:Addr
 k:Key×List Key
 n:Int
noncomputable def Ef(es:List Mv):List Qo:=es.map λe=>(e.k,e.a,e.n)
structure B7(H:Hp)(e:Mv):Prop where
 tp:H e.t=some (.tup [.ref e.a,.int e.n])
 ky:jT H e.k e.a
def Ol(P:Program)(w:World):List V->Hp->VK->Prop:=λxs H Q=>∃(l:Addr) (es:List Mv),xs=[.ref l]/\H l=some (.lst (es.map λe=> .ref e.t))/\(∀e∈es,B7 H e)/\(es.map (·.k)).Nodup/\(es:)<=10000/\
 ∀p,H p=none->Q (.ref p) (upd H p (Jt P w p (Ef es)))
theorem B8{P:Program}{w:World}{H:Hp}{h:Heap}(ok:kU P w H h):∀{es:List Mv} {its:List Value},Vals (es.map λe=>V.ref e.t) its->(∀e∈es,B7 H e)->
  ∃xs:List ((Key×List Key)×Addr×Value),Paired Kn (Ef es) xs/\xs.map (·.1)=es.map (·.k)/\(its:)=(xs:)/\(∀(i:Nat) (v:Value),its[i]? =some v->∃x,xs[i]? =some x/\Aw h v x)/\∀x∈xs,(gc (bQ P w)).is h x.1 x.2.1
 | [],its,r,hk=>by
  cases r
  exact ⟨[],.nil,rfl,rfl,λi v h=>by simp at h,λx hx=>by cases hx⟩
 | e::es,its,r,hk=>by
  cases r with
  | cons r1 r2=>
   rename_i u us
   cases (show u=Value.ref e.t from r1)
   obtain ⟨xs,p1,p2,p3,p4,p5⟩:=B8 ok r2 λe' u5=>hk e' (Qae _ u5)
   have B9:=hk e Qac
   obtain ⟨_,yi,r,ob,g1,g2,n,g3⟩:=(show cM P w H h e.t (.tup [.ref e.a,.int e.n]) from ok _ _ B9.tp)
   obtain ⟨a',v',rfl,q1,q2⟩:=vals2 r
   cases (show a'=Value.ref e.a from q1)
   refine ⟨(e.k,e.a,v')::xs,.cons ⟨rfl,rfl,q2⟩ p1,by rw[Qav,Qav,p2],by rw[Qaz,Qaz,p3],λi v hv=>?_,λx hx=>?_⟩
   ·cases i with
    | zero=>cases hv;exact ⟨_,rfl,e.t,ob,n,rfl,g1,g2,g3⟩
    | succ i=>exact p4 i v (by simpa using hv)
   ·rcases Qak.mp hx with z | z
    ·rw[z];exact Gx ok B9.ky
    ·exact p5 x z
theorem Az{P:Program}{w:World}{k:Nat}(hP:X.prog=P)(hw:X.w=w)(hr:fF k X.A)(hc:X.calm=true):dM X (.type "dict") (Ol P w):=by
 subst hP hw
 walk_at"f"
 obtain ⟨l,es,rfl,hq,hk,Kl,hz,q⟩:=h
 obtain ⟨u,rfl,ru⟩:=vals1 r
 cases (show u=Value.ref l from ru)
 obtain ⟨_,its,n,rv,hl⟩:cM X.prog X.w H s.heap l (.lst (es.map λe=> .ref e.t)):=I.cy l _ hq
 obtain ⟨ys,p1,p2,p3,p4,p5⟩:=B8 I.cy rv hk
 have hlen:(ys:)<=10000:=by have:=congrArg List.length p2;rw[Qi,Qi]at this;lia
 refine Ax (knd:=gc (bQ X.prog X.w)) (I.ok.hd hc) (show X.A.units+1+1+1<cLine by have:=hr.un;lia) hl p3 p4 p5 (λh1 h2 k a=>Km k a) (by rw[p2];exact Kl) hlen λh' tk hd hkp=>?_
 refine ⟨.ref s.heap.objs.size,upd H s.heap.objs.size (Jt X.prog X.w _ _),I.laid (t':=tk) hkp (YS _) ?_,rfl,q _ I.fresh⟩
 obtain ⟨o,RX,ep,ho,hex,hdt,he,_,hn⟩:=hd
 exact ⟨⟨o,RX,ep,ho,hex,hdt,ys,he,hn,p1⟩,⟨_,ho⟩,λh1 h2 ⟨o,es,ep,ho,r⟩ k=>⟨o,es,ep,k o ho,r⟩⟩
end
end L2
namespace L2.F2
open PySem PySem.Spec PyProof.Rows
theorem AA:typeLookup (.type "tuple") "__reversed__"=pure none:=by rw[typeLookup_type,builtinLookup_eq_fast];kernel_rfl
theorem Gy:isSubtype (.type "tuple") (.type "dict")=pure false:=by rw[isSubtype_type];kernel_rfl
end L2.F2
namespace L2
open PySem PySem.Spec PyProof.Rows
theorem ra(a:Addr)(its:Array Value)(hz:its.size<=sizeLine):Meets (Builtin.«reversed.__new__» ⟨[.type "reversed",.ref a],[]⟩) (λ_ R s=>IsTup s.heap a its/\∀tk,R (.ok (.ret (.ref s.heap.objs.size))) { s with heap:=s.heap.push { cls:= .type "reversed",data:= .fields #[.ref a,rawInt ((its.size:Int) - 1)] },toks:=tk }):=by
 refine Meets.of_wp λprog w A R s h=>?_
 obtain ⟨hT,h⟩:=h
 unfold Builtin.«reversed.__new__»
 refine wpAny_bind (wpAny_of_eq (newClass_reversed _) ?_)
 try dsimp only
 walk_at"q"
 walk_at"q"
 try dsimp only
 refine wpAny_bind (wpAny_specialOf hT.typeIs F2.AA ?_)
 try dsimp only
 walk_at"H"
 show wpAny _ _ (isInstance (.ref a) (.type "dict") >>= _) _ _ _
 refine wpAny_bind (wpAny_isInstance hT.typeIs F2.Gy ?_)
 rw[if_neg ∅]
 refine wpAny_bind (wpAny_specialOf hT.typeIs slot_tuple_getitem.lookup ?_)
 refine wpAny_of_eq (a:=true) (by first | rfl | kernel_rfl) ?_
 rw[if_neg ∅]
 have hn:=fJ
 refine wpAny_bind (len_tuple hT () ?_)
 refine wpAny_bind (wpAny_of_eq (a:=some (its.size:Int)) (by first | rfl | kernel_rfl) ?_)
 show wpAny _ _ (Builtin.SmallTypes.newRecord (Value.type "reversed") [Value.ref a,rawInt ((its.size:Int) - 1)] >>= _) _ _ _
 walk_at"H"
 unfold Builtin.SmallTypes.newRecord
 refine wpAny_newObj_type ?_ (by size_fits)
 exact wpAny_pure ⟨_,rfl,h _⟩
section
variable{prog:Program}{w:World}{A:Around}{E:Value->Shared->Prop}{s:Shared}
theorem rh{a:Addr}{its:Array Value}{Q:Value->Shared->Prop}(hT:IsTup s.heap a its)(hz:its.size<=sizeLine)(h:∀tk,Q (.ref s.heap.objs.size) { s with heap:=s.heap.push { cls:= .type "reversed",data:= .fields #[.ref a,rawInt ((its.size:Int) - 1)] },toks:=tk }):
  wpAny (model prog w) A (call (.type "reversed") [.ref a]) Q E s:=
 callType_new F2.qU ⋯ (F.typeCall_reversed_1 _) (F.newCall_reversed_1 _) (λobj=>by unfold argsOk;kernel_rfl) F.entry_reversed_new (ra a its hz)
  ⟨hT,λtk=>⟨⟨_,Qat _ rfl,rfl⟩,h tk⟩⟩
def jU(h:Heap)(it a:Addr)(i:Int):Prop:=∃o,h.get? it=some o/\o.cls= .type "reversed"/\o.data= .fields #[.ref a,rawInt i]
theorem jU.typeIs{it a:Addr}{i:Int}(h:jU s.heap it a i):s.TypeIs (.ref it) "reversed":=let ⟨o,ho,hc,_⟩:=h;⟨o,ho,hc⟩
theorem pq{it a:Addr}{i:Int}{Q:Value->Shared->Prop}(hit:jU s.heap it a i)(h:Q (.ref it) s):wpAny (model prog w) A (pyIter (.ref it)) Q E s:=by
 refine wpAny_pyIter_slot hit.typeIs F2.fS (wpAny_call_entry F2.fS hit.typeIs F2.jL ?_ (F2.jl _))
 show wpAny _ _ (ret (.ref it)) _ _ s
 exact wpAny_pure ⟨_,rfl,"reversed",_,hit.typeIs,F2.bP.lookup,h⟩
theorem oj{it a:Addr}{i:Nat}{its:Array Value}{v:Value}{Q:Option Value->Shared->Prop}(hit:jU s.heap it a (i:Int))(hT:IsTup s.heap a its)(hx:its[i]? =some v)(hz:its.size<=sizeLine)
  (hQ:∀h' tk,jU h' it a ((i:Int) - 1)->Heap.SameBut it s.heap h'->Q (some v) { s with heap:=h',toks:=tk }):wpAny (model prog w) A (pyNext (.ref it)) Q E s:=by
 obtain ⟨o,ho,hc,hd⟩:=id hit
 have hn:=fJ
 have hi:i<its.size:=(Array.getElem?_eq_some_iff.mp hx).1
 unfold pyNext
 refine wpAny_bind (wpAny_attempt (wpAny_callSpecial?_slot (name:=Str.ofString "__next__") hit.typeIs F2.bP
  (wpAny_call_entry F2.bP hit.typeIs F2.fk ?_ (F2.eK _))))
 unfold Builtin.«reversed.__next__»
 walk_at"D"
 try dsimp only
 refine wpAny_bind (wpAny_field ho hd (x:= .ref a) rfl ?_)
 walk_at"A"
 show wpAny _ _ (if (i:Int)<0 then _ else _) _ _ s
 rw[if_neg ()]
 refine wpAny_bind (wpAny_specialOf hT.typeIs slot_tuple_getitem.lookup ?_)
 show wpAny _ _ (if (some (Value.builtin _)).isNone=true then _ else _) _ _ s
 rw[if_neg ∅]
 refine wpAny_bind (wpAny_mkInt ?_)
 refine wpAny_bind (wpAny_attempt (getItem_tuple (j:=i) hT () () (by rw[seqIndex_of () (),YQ]) hx ?_))
 show wpAny _ _ (field (Value.ref it) 1 >>= _) _ _ _
 walk_at"A"
 show wpAny _ _ (setField (Value.ref it) 1 (rawInt ((i:Int) - 1)) >>= _) _ _ _
 walk_at"O"
 refine wpAny_pure ⟨_,rfl,wpAny_pure (hQ _ _ ?_ (Qey ..))⟩
 exact ⟨_,Qb3 _ ho (Obj.isFreed_of_fields (Obj.data_mapFields hd _)),(Obj.cls_mapFields ..).trans hc,by
  rw[Obj.data_mapFields hd];simp⟩
theorem p6{it a:Addr}{Q:Option Value->Shared->Prop}(hh:A.handled=none)(hit:jU s.heap it a (-1))
  (hQ:∀h',Heap.ExtBut it s.heap h'->Q none { s with heap:=h' }):wpAny (model prog w) A (pyNext (.ref it)) Q E s:=by
 obtain ⟨o,ho,hc,hd⟩:=id hit
 unfold pyNext
 refine wpAny_bind (wpAny_attempt (wpAny_callSpecial?_slot (name:=Str.ofString "__next__") hit.typeIs F2.bP
  (wpAny_call_entry F2.bP hit.typeIs F2.fk ?_ (F2.eK _))))
 unfold Builtin.«reversed.__next__»
 walk_at"D"
 try dsimp only
 refine wpAny_bind (wpAny_field ho hd (x:= .ref a) rfl ?_)
 refine wpAny_bind (wpAny_field ho hd (x:=rawInt (-1)) rfl ?_)
 show wpAny _ _ (if (-1:Int)<0 then _ else _) _ _ s
 rw[if_pos ∅]
 walk_at"K"
 walk_at"H"
 show wpAny _ _ (setField (Value.ref it) 1 (rawInt (-1)) >>= λ_=>setField (Value.ref it) 0 .none) _ _ _
 walk_at"O"
 walk_at"0"
 first
 | show wpAny _ _ (newExc (.type "StopIteration") [] >>= _) _ _ _
 |(refine wpAny_bind ?_;show wpAny _ _ (newExc (.type "StopIteration") [] >>= _) _ _ _)
 walk_at"H"
 simp only[newExc,newTuple]
 refine wpAny_bind (wpAny_newObj_type ?_ (by size_fits))
 walk_at"W"
 refine wpAny_newObj_type ?_ (by size_fits)
 simp only[raiseNew]
 refine wpAny_bind (wpAny_handled ?_)
 first | rw[show A.in1.handled=none from hh] | rw[hh]
 refine wpAny_bind (wpAny_pure (wpAny_throw ?_))
 refine wpAny_bind (wpAny_isInstance (T:="StopIteration") (b:=true) ⟨_,Qat _ rfl,rfl⟩ isSubtype_stop ?_)
 refine wpAny_pure (hQ _ λb ob hb e=>?_)
 refine YT _ (YT _ ?_)
 exact (Qbp _ _ (Ne.symm hb)).trans ((Qbp _ _ (Ne.symm hb)).trans e)
end
noncomputable def Om(K:Fr)(a:Addr)(n:Nat):It:=
 ⟨λi H=>∃xs x,cu K H a xs/\(xs:)=n/\xs.reverse[i]? =some x,λi H x H'=>H'=H/\∀xs,cu K H a xs->xs.reverse[i]? =some x,λi H=>i=n⟩
theorem Eg{P:Program}{w:World}{K:Fr}{tg:Expr}(a it:Addr)(n:Nat)(hz:n<=sizeLine):Turn P w K tg (Om K a n) [it] it (λi h=>i<=n/\jU h it a ((n:Int) - 1 - (i:Int))) where
 mem:=by simp
 obj:=λi h st b hb=>by
  have e:b=it:=by simpa using hb
  subst e
  obtain ⟨_,o,e,c,d⟩:=st
  walk_at"I"
 keep:=λi h h' st k=>let ⟨q,o,e,r⟩:=st;⟨q,o,k it (by simp) o e,r⟩
 item:=by
  walk_at"a"
  subst hP hw hK
  obtain ⟨xs,x,hq,hl,hx⟩:=hg
  obtain ⟨its,rv,p,Ju⟩:=I.tuple hq
  have Mw:=(rv:)
  have hi:i<n:=by have:=(NU.mp hx).1;rw[Qbb]at this;lia
  walk_at"d"
  obtain ⟨_,st⟩:=st
  have e:(n:Int) - 1 - (i:Int)=((n - 1 - i:Nat):Int):=by lia
  rw[e]at st
  rw[Qc4 (),hl]at hx
  obtain ⟨u,hu,ru⟩:=rv.get hx
  refine oj (its:=its.toArray) (v:=u) st p (by simpa using hu) (by rw[Qah];lia) λh' tk tQ sb=>?_
  walk_at"8"
  obtain ⟨o,e1,cc,d⟩:=id tQ
  refine ⟨u,rfl,uE (s:={ s with heap:=h',toks:=tk }) e1 cc d ∅ ⟨x,H,I1,ru,⟨rfl,λys hy=>?_⟩,⟨hi,?_⟩,λb hb=>(hf b hb).1⟩⟩
  ·rw[I.nU hy hq,Qc4 (),hl];exact hx
  ·have e2:(n:Int) - 1 - ((i+1:Nat):Int)=((n - 1 - i:Nat):Int) - 1:=by lia
   rw[e2]
   exact tQ
 done:=by
  walk_at"a"
  subst hP hw hK
  walk_at"d"
  obtain ⟨hi,st⟩:=st
  have Mp:i=n:=hg
  have e:(n:Int) - 1 - (i:Int)= -1:=by lia
  rw[e]at st
  exact p6 (I.ok.hd hc) st λh' eb=>⟨rfl,I.turned (t':=s.toks) (λb o hb e=>eb b o hb e) f0 f1 f3 f4 f5⟩
 self:=λ_ _ _ _ _ st h=>pq st.2 h
section
variable{X:Cx}{tg:Expr}
def Tp(K:Fr)(ta:TA):TI:=λσ H R=>ta σ H λvs H1=>∃a xs,vs=[.ref a]/\cu K H1 a xs/\R (Om K a (xs:)) H1
theorem Ko(K:Fr)(hK:X.K=K){a:Expr}{ta:TA}{p pos:Pos}(hg:Gl X "reversed")(hm:X.mg "reversed"=none)(ha:PA X [a] ta)(hs:starEach [a] X.env=[(false,eval a X.env)]:=by rfl):PI X tg (.Call (.Name "reversed" p) [a] [] pos) (Tp K ta):=by
 subst hK
 walk_at"V"
 walk_at"3"
 obtain ⟨b,xs,rfl,hq,q⟩:=q1
 obtain ⟨u,rfl,ru⟩:=vals1 r1
 cases (show u=Value.ref b from ru)
 obtain ⟨its,rv,pl,hz⟩:=I1.tuple hq
 have hl:=(rv:)
 have hsz:its.toArray.size=(xs:):=by rw[Qah];lia
 refine rh pl () λtk=>?_
 rw[hsz]
 have hit:jU (s1.heap.push { cls:= .type "reversed",data:= .fields #[.ref b,rawInt (((xs:):Int) - 1)] }) s1.heap.objs.size b (((xs:):Int) - 1):=⟨_,Qat _ rfl,rfl,rfl⟩
 refine pq hit ?_
 refine ⟨s1.heap.objs.size,[s1.heap.objs.size],_,_,H1,rfl,I1.kept (t':=tk) λb o e=>YT _ e,Eg b _ (xs:) hz,⟨Qao _,?_⟩,λb hb=>?_,q⟩
 ·have e:((xs:):Int) - 1 - ((0:Nat):Int)=((xs:):Int) - 1:=by simp
  rw[e]
  exact hit
 ·have e:b=s1.heap.objs.size:=by simpa using hb
  subst e
  walk_at"G"
end
theorem Eh{K:Fr}{a:Addr}{xs:List V}{σc:St}{g:TG}{tc:TT}{te:TE}{Q:VK}{H1:Hp}(Pv:Nat->List V->Hp->Prop)(hn:(xs:)<sizeLine)(hl:∀i acc H,Pv i acc H->cu K H a xs)(h0:Pv 0 [] H1)
  (hs:∀(i:Nat) (x:V) (acc:List V) (H:Hp) (Nx:List V->Hp->Prop),i<(xs:)->xs.reverse[i]? =some x->(acc:)<=i->Pv i acc H->(∀cA H',(cA:)<=i+1->Pv (i+1) cA H'->Nx cA H')->
   g x σc H λσ2 H2=>Wk σc σ2/\tc σ2 H2 λb H3=>if b=true then te σ2 H3 λv H4=>Nx (acc++[v]) H4 else Nx acc H3)
  (hd:∀acc H D,(acc:)<=(xs:)->Pv (xs:) acc H->H D=none->Q (.ref D) (upd H D (.lst acc))):mF (Om K a (xs:)) σc g tc te Q H1:=
 mG (xs:=λi x=>xs.reverse[i]? =some x) Pv hn (λi acc H h p=>⟨xs,xs.reverse[i]'(by rw[Qbb];exact h),hl i acc H p,rfl,NT _⟩) (λacc H p=>rfl) (λi acc H x H' h p y=>⟨y.1,y.2 xs (hl i acc H p)⟩) h0 hs hd
theorem AB{K:Fr}{a:Addr}{xs:List V}{σc:St}{g:TG}{tc:TT}{te:TE}{Q:VK}{H1:Hp}(Pv:Nat->List V->Hp->Prop)(hn:(xs:)<sizeLine)(hl:∀i acc H,Pv i acc H->bf K H a xs)(h0:Pv 0 [] H1)
  (hs:∀(i:Nat) (x:V) (acc:List V) (H:Hp) (T:Addr) (Nx:List V->Hp->Prop),xs[i]? =some x->(acc:)<=i->Pv i acc H->H T=none->(∀cA H',(cA:)<=i+1->Pv (i+1) cA H'->Nx cA H')->
   g (.ref T) σc (upd H T (.tup [.int i,x])) λσ2 H2=>Wk σc σ2/\tc σ2 H2 λb H3=>if b=true then te σ2 H3 λv H4=>Nx (acc++[v]) H4 else Nx acc H3)
  (hd:∀acc H D,(acc:)<=(xs:)->Pv (xs:) acc H->H D=none->Q (.ref D) (upd H D (.lst acc))):mF (D9 K a) σc g tc te Q H1:=by
 refine ⟨λi m acc H=>m=(xs:) - i/\i<=(xs:)/\(acc:)<=i/\Pv i acc H,⟨(xs:),by simp,Qao _,YS _,h0⟩,?_⟩
 rintro i m acc H ⟨rfl,hi,xW,p⟩
 refine ⟨(),?_⟩
 by_cases dy:i<(xs:)
 ·refine .inr ⟨⟨xs,xs[i],hl i acc H p,NT dy⟩,λx H' y=>?_⟩
  obtain ⟨T,z,hy,rfl,hT,rfl⟩:=y
  exact hs i z acc _ T (λcA H'=>∃m',m'<(xs:) - i/\(m'=(xs:) - (i+1)/\i+1<=(xs:)/\(cA:)<=i+1/\Pv (i+1) cA H')) (hy xs (hl i acc H p)) xW p hT λcA H' h1 h2=>⟨(xs:) - (i+1),(),rfl,dy,h1,h2⟩
 ·have e:i=(xs:):=by lia
  subst e
  exact .inl ⟨⟨xs,hl _ acc H p,rfl⟩,λD hD=>hd acc H D xW p hD⟩
theorem Gz{A:Around}{k:Nat}(hr:fF k A):A.units+2<cLine:=by have:=hr.un;lia
section
variable{X:Cx}
theorem GA{i:Nat}(h:(i:Int)<2 ^ 63):Builtin.List.listFitsIndex (i:Int)=true:=by
 unfold Builtin.List.listFitsIndex
 rw[Qbt]
 exact ⟨decide_eq_true (),decide_eq_true ()⟩
def Kp:V->List V->Hp->VK->Prop:=λx vs H Q=>∃(l:Addr) (xs:List V) (i:Nat) (y:V),x= .ref l/\vs=[.int i,y]/\H l=some (.lst xs)/\i<=(xs:)/\(xs:)<sizeLine/\Q .gE (upd H l (.lst (xs.take i++y::xs.drop i)))
theorem Ei:Qh X "list.insert" Kp:=by
 walk_at"u"
 obtain ⟨l,xs,i,y,rfl,rfl,hH,hi,hz,q⟩:=h
 cases rx
 obtain ⟨a,b,rfl,⟨t,rfl⟩,rb⟩:=vals2 rv
 walk_at"r"
 have hn:=fJ
 have hf: ¬(!Builtin.List.listFitsIndex (i:Int))=true:=by rw[GA ()];decide
 have hsz:its.toArray.size<=sizeLine:=by rw[Qah];lia
 generalize hI:(i:Int)=I' at hf
 have hm:=PySem.AutoSeq1.list_insert_list_int_val_1 l its.toArray n I' t b hf hsz
 refine call_meets F.slot_list_insert ⟨_,e,rfl⟩ F.entry_list_insert (F.args_list_insert_3 _ _ _) hm ⟨e,?_⟩
 clear hm
 refine ⟨.gE,_,I.DT (its':=its.take i++b::its.drop i) hH e ?_ ?_ ?_,rfl,q⟩
 ·have e1:(if I'<0 then (I'+(its.toArray.size:Int)).toNat else min I'.toNat its.toArray.size)=i:=by rw[<-hI,if_neg (),YQ,Qah];lia
  show ((its.toArray.extract 0 (if I'<0 then (I'+(its.toArray.size:Int)).toNat else min I'.toNat its.toArray.size)).push b++its.toArray.extract (if I'<0 then (I'+(its.toArray.size:Int)).toNat else min I'.toNat its.toArray.size))=_
  rw[e1]
  apply Qe5.mp
  simp
  exact Qba (by rw[Qa0];exact YS _)
 ·have h1:Vals (xs.take i) (its.take i):=r.take i
  exact h1.append (.cons rb (r.drop i))
 ·rw[U3,Qaz,Qas,Qa0];lia
end
end L2
namespace L2
open PySem PySem.Spec PyProof.Rows PySem.W
end L2
namespace L2
open PySem PySem.Spec PyProof.Rows PySem.MeetsSeq PySem.SeqAt
end L2
namespace L2
open PySem PySem.Spec PyProof.Rows HT
theorem wz:∀a b c:List Int,cg b a=false->cg c b=false->cg c a=false
 | [],[],[],_,_=>rfl
 | [],[],_::_,_,h=>h
 | [],_::_,[],_,_=>rfl
 | [],_::_,_::_,_,_=>rfl
 | _::_,[],_,h,_=>by cases h
 | _::_,_::_,[],_,h=>by cases h
 | x::a,y::b,z::c,h,g=>by
  have h':(if y=x then cg b a else decide (y<x))=false:=h
  have g':(if z=y then cg c b else decide (z<y))=false:=g
  show (if z=x then cg c a else decide (z<x))=false
  by_cases e1:y=x
  ·rw[if_pos e1]at h'
   by_cases e2:z=y
   ·rw[if_pos e2]at g'
    rw[if_pos (e2.trans e1)]
    exact wz a b c h' g'
   ·rw[if_neg e2]at g'
    rw[if_neg λw=>e2 (w.trans e1.symm), <-e1]
    exact g'
  ·rw[if_neg e1]at h'
   have q1:=of_decide_eq_false h'
   by_cases e2:z=y
   ·rw[if_neg λw=>e1 (e2.symm.trans w),e2];exact h'
   ·rw[if_neg e2]at g'
    have q2:=of_decide_eq_false g'
    rw[if_neg ()]
    exact decide_eq_false ()
section
variable{X:Cx}{e st:Expr}{te:TE}{ts:TO}{pos p2:Pos}
theorem Ej(l:Z)(t tk:Tok):sliceMade (S l) t none none (some (-1,tk))= .str (S l.reverse):=by
 unfold sliceMade
 rw[if_neg (by simp)]
 have e:slicePicked (S l) none none (some (-1,tk))=(List.range (S l).cps.size).reverse:=by
  rw[<-PySem.W.krv_range, <-PySem.W.krv_sliceRange]
  rfl
 rw[e,List.filterMap_reverse,PySem.W.krv_all,fK]
 rfl
def Tq(te:TE)(ts:TO):TE:=λσ H Q=>te σ H λx H1=>ts σ H1 λo H2=>o=some (-1)/\∃l,x= .str (S l)/\(l:)<=sizeLine/\Q (.str (S l.reverse)) H2
theorem Kq(he:PE X e te)(hs:PO X (some st) ts):PE X (.Subscript e (.Slice none none (some st) p2) pos) (Tq te ts):=by
 walk_at"h"
 refine Subscript_ (cJ (he pins s σ H _ I h) λv s1 ⟨x,H1,I1,r1,q1⟩=>?_)
 refine wpAny_Slice ?_
 rw[evalPart_none]
 refine wpAny_pure (wpAny_pure (cJ (hs pins s1 σ H1 _ I1 q1) λvk s3 ⟨o,H3,I3,pk,eo,l,ex,hz,q3⟩=>?_))
 subst eo ex
 walk_at"4"
 cases pk with
 | int i tk=>
 have I4:Inv X pins σ H3 { s3 with heap:=s3.heap.push { cls:= .type "slice",data:= .fields #[.none,.none,.int (-1) tk] } }:=I3.kept (t':=s3.toks) λb ob q=>YT _ q
 show wpAny (model X.prog X.w) X.A (subscriptTail e (.Slice none none (some st) p2) (.str (S l) t) (.ref s3.heap.objs.size)) (EP X pins σ Q) X.xe { s3 with heap:=s3.heap.push { cls:= .type "slice",data:= .fields #[.none,.none,.int (-1) tk] } }
 refine tail_any (ops:=[.str (S l) t,.ref s3.heap.objs.size]) (typeIs_str _ _ _) F.slot_str_getitem.lookup (wpAny_getItem_str_slice (l:=none) (u:=none) (st:=some (-1,tk)) ⟨_,Qat _ rfl,rfl,rfl⟩ rfl ?_) (by with_unfolding_all rfl)
 rw[Ej]
 refine ⟨by rw[dY,Qbb];exact hz,?_⟩
 exact ⟨.str (S l.reverse),H3,I4.tok _,⟨_,rfl⟩,q3⟩
end
end L2
namespace PySem
open PySem.Spec PyProof.Rows
end PySem
namespace L2
open PySem PySem.Spec PyProof.Rows
section
variable{X:Cx}{K:Fr}{CX:DP}{k1 k2:Nat}{f1 f2:Addr}{Y6 Y7:FuncData}{Y8 Y9:List Str}{U_ Va:Sp}{E:XK}{x f:Str}{p pos pos':Pos}{e o value:Expr}{es:List Expr}{ta tv:TE}{t:TA}
theorem b_(K:Fr)(hK:X.K=K)(he:PE X e ta)(hb:attributeBase e f X.env (eval e X.env)=eval e X.env):PE X (.Attribute e f pos) (Sj K ta f):=by subst hK;exact NB he hb
def GB(f1 f2:Addr)(U_ Va:Sp)(E:XK)(ta:TE)(t:TA):TE:=λσ H Q=>ta σ H λv H1=>(v= .ref f1/\t σ H1 λvs H2=>U_ vs H2 Q E)\/(v= .ref f2/\t σ H1 λvs H2=>Va vs H2 Q E)
theorem mR(hf:PE X (.Name x p) ta)(F1:bV X.prog X.w X.K X.mg X.base CX k1 f1 Y6 Y8 U_)(Jv:fF k1 X.A)(B9:PySem.W.keepIn X.K (.ref f1)=true)(xN:Binds X.K Y6 Y8 [])(F2:bV X.prog X.w X.K X.mg X.base CX k2 f2 Y7 Y9 Va)(Qp:fF k2 X.A)(Aq:PySem.W.keepIn X.K (.ref f2)=true)(i3:Binds X.K Y7 Y9 [])(hx:Passes CX X E)
  (ha:PA X (e::es) t) (he:starEach (e::es) X.env=(false,eval e X.env)::starEach es X.env:=by rfl) (gQ:(backTo pos (starEach es X.env)).any (·.1)=false:=by rfl):
  PE X (.Call (.Name x p) (e::es) [] pos) (GB f1 f2 U_ Va E ta t):=by
 walk_at"h"
 refine wpAny_Call_Name_kw (cJ (hf pins s σ H _ I h) λu s1 ⟨v,H1,I1,r,q⟩=>?_)
 rcases q with ⟨rfl,q⟩ | ⟨rfl,q⟩
 ·obtain rfl:u=Value.ref f1:=r
  refine Qet (h₀:=X.base) I1.ok.mod.Qe B9 (cJ (ha pos pins s1 σ H1 _ I1 q) λus s2 ⟨vs,H2,I2,r2,q2⟩=>⟨I2.DE,?_⟩) he gQ
  exact z8 (dvs:=[]) (ds:=[]) F1 Jv xN .nil hx I2 r2 (by rw[Qa4];exact q2)
 ·obtain rfl:u=Value.ref f2:=r
  refine Qet (h₀:=X.base) I1.ok.mod.Qe Aq (cJ (ha pos pins s1 σ H1 _ I1 q) λus s2 ⟨vs,H2,I2,r2,q2⟩=>⟨I2.DE,?_⟩) he gQ
  exact z8 (dvs:=[]) (ds:=[]) F2 Qp i3 .nil hx I2 r2 (by rw[Qa4];exact q2)
end
section
variable{prog:Program}{w:World}{A:Around}{E:Value->Shared->Prop}{R:Result->Shared->Prop}{I S:Addr}{fp wr:List Addr}{n:Nat}{P:Nat->Value->Prop}{St:Nat->Heap->Prop}{kw:List (Str×Value)}{bt:Nat->Nat->Bool}
theorem B_:(toString "max"++toString ".loop":String)="max.loop":=∅
theorem Tr(W:Walks prog w A.in1 I fp wr n P St)(cm:CmpOf prog w A.in1 .Gt P bt)(sf:S∉fp):∀(m j:Nat) (s:Shared) (b:Value) (c:Nat),n=j+1+m->St (j+1) s.heap->P (argBest bt j) b->s.heap.get? S=some { cls:= .type "list",dict:=none,data:= .seq #[b,b] c,slots:= #[] }->
  (∀v h' tk,P (argBest bt (n - 1)) v->(∀a o,a∉wr->a≠S->s.heap.get? a=some o->h'.get? a=some o)->R (.ok (.ret v)) { s with heap:=h',toks:=tk })->
  codeAny (model prog w) A (.builtin "max.loop" ⟨[.ref I,.none,.ref S],kw⟩) R s:=by
 have sw:S∉wr:=λz=>sf (W.sub _ z)
 intro m
 induction m with
 | zero=>
  intro j s b c en mf hb hS hR
  have e1:n=j+1:=en
  subst e1
  refine codeAny_builtin Qfa ?_
  rw[Around.under_plainId Qcj _]
  refine wpAny_bind (m:=seqItems? (.ref S)) (wpAny_seqItems hS rfl ?_)
  refine wpAny_bind (m:=tryCatch (pyNext (.ref I)) _) (wpAny_tryCatch (W.done s _ _ mf λh1 tk k1=>?_))
  refine wpAny_bind (m:=updateSeq S λ_=> #[]) (wpAny_updateSeq (k1 S _ sw hS) rfl (wpAny_bind (wpAny_letGo (wpAny_pure ?_))))
  exact hR b _ tk hb λa o aw aS ea=>(Qbp _ _ (Ne.symm aS)).trans (k1 a o aw ea)
 | succ m ih=>
  intro j s b c en mf hb hS hR
  refine codeAny_builtin Qfa ?_
  rw[Around.under_plainId Qcj _]
  refine wpAny_bind (m:=seqItems? (.ref S)) (wpAny_seqItems hS rfl ?_)
  refine wpAny_bind (m:=tryCatch (pyNext (.ref I)) _) (wpAny_tryCatch (W.item (j+1) s _ _ () mf λv h1 tk pv xK k1=>?_))
  have Qq:=k1 S _ sw hS
  refine wpAny_bind (m:=tryCatch (holding [v,v] (richCompare .Gt v b >>= _)) _) (wpAny_tryCatch (wpAny_holding (wpAny_bind (cm (j+1) (argBest bt j) v b _ _ _ pv hb (wpAny_bind (wpAny_holding (wpAny_truthy_bool (wpAny_bind (wpAny_letGo (wpAny_pure ?_))))))))))
  cases q:bt (j+1) (argBest bt j)
  ·rw[if_neg ∅]
   refine wpAny_bind (wpAny_letGo ?_)
   rw[B_]
   refine wpAny_pure ⟨plainId_quiet Qcj _,ih (j+1) _ b c () xK (by rw[argBest,q];exact hb) Qq λv' h2 Mu p2 k2=>?_⟩
   exact hR v' h2 Mu p2 λa o aw aS ea=>k2 a o aw aS (k1 a o aw ea)
  ·rw[if_pos rfl]
   refine wpAny_bind (wpAny_updateSeq Qq rfl (wpAny_bind (wpAny_letGo ?_)))
   rw[B_]
   refine wpAny_pure ⟨plainId_quiet Qcj _,ih (j+1) _ v _ () (W.frame _ _ _ xK λa af o ea=>?_) (by rw[argBest,q];exact pv) (Qb3 _ Qq rfl) λv' h2 Mu p2 k2=>?_⟩
   ·exact (Qbp _ _ (λz:S=a=>sf (z▸af))).trans ea
   ·exact hR v' h2 Mu p2 λa o aw aS ea=>k2 a o aw aS ((Qbp _ _ (Ne.symm aS)).trans (k1 a o aw ea))
theorem Ts(a d:Value):argsOk "max" ⟨[a],[(Str.ofString "default",d)]⟩:=by unfold argsOk;kernel_rfl
theorem Kr{s:Shared}{x d:Value}{Q:Value->Shared->Prop}
  (h:wpAny (model prog w) A.in1 (pyIter x) (λit s₂=>∃I fp wr n P St bt,it= .ref I/\Walks prog w A.in1 I fp wr n P St/\St 0 s₂.heap/\(∀b∈fp,b<s₂.heap.objs.size)/\CmpOf prog w A.in1 .Gt P bt/\
   ∀v h' tk,(n=0->v=d)->(0<n->P (argBest bt (n - 1)) v)->(∀b o,b∉wr->s₂.heap.get? b=some o->h'.get? b=some o)->Q v { s₂ with heap:=h',toks:=tk }) E s):
  wpAny (model prog w) A (call (.builtin "max") [x] [(Str.ofString "default",d)]) Q E s:=by
 refine kmk_tree PySem.F.kind_max PySem.F.plain_max PySem.F.entry_max (Ts x d) ?_
 refine wpAny_bind (m:=Builtin.Builtins.bindParams "max" ["key","default"] 0 ⟨[],[(Str.ofString "default",d)]⟩) (wpAny_of_eq (a:=[none,some d]) rfl ?_)
 refine wpAny_bind (wpAny_pure (wpAny_bind (wpAny_mono h (λit s2 h2=>?_) λ_ _ e=>e)))
 obtain ⟨I,fp,wr,n,P,St,bt,rfl,W,mf,hfp,cm,hQ⟩:=h2
 refine wpAny_bind (wpAny_newObj_type ?_)
 have sf:s2.heap.objs.size∉fp:=λz=>Qbu _ (hfp _ z)
 have sw:s2.heap.objs.size∉wr:=λz=>sf (W.sub _ z)
 have hS:(s2.heap.push { cls:= .type "list",data:= .seq #[] }).get? s2.heap.objs.size=some { cls:= .type "list",dict:=none,data:= .seq #[] 0,slots:= #[] }:=Qat _ rfl
 have Tt:=W.frame _ _ (s2.heap.push { cls:= .type "list",data:= .seq #[] }) mf λb _ o e=>YT _ e
 have lo:∀{b o},s2.heap.get? b=some o->b≠s2.heap.objs.size:=λe=>Qay (Qau e)
 rw[B_]
 refine wpAny_pure ⟨plainId_quiet Qcj _,codeAny_builtin Qfa ?_⟩
 rw[Around.under_plainId Qcj _]
 refine wpAny_bind (m:=seqItems? (.ref s2.heap.objs.size)) (wpAny_seqItems hS rfl ?_)
 cases n with
 | zero=>
  refine wpAny_bind (m:=tryCatch (pyNext (.ref I)) _) (wpAny_tryCatch (W.done _ _ _ Tt λh1 tk k1=>?_))
  walk_at"K"
  refine wpAny_pure (hQ d h1 tk (λ_=>rfl) (λz=>absurd z (Qbu _)) λb o bw e=>k1 b o bw (YT _ e))
 | succ m=>
  refine wpAny_bind (m:=tryCatch (pyNext (.ref I)) _) (wpAny_tryCatch (W.item 0 _ _ _ (Qf3 _) Tt λv h1 tk pv xK k1=>?_))
  have Qq:=k1 _ _ sw hS
  refine wpAny_bind (m:=updateSeq s2.heap.objs.size λ_=> #[v,v]) (wpAny_updateSeq Qq rfl ?_)
  rw[B_]
  refine wpAny_pure ⟨plainId_quiet Qcj _,Tr W cm sf m 0 _ v _ () (W.frame _ _ _ xK λa af o ea=>?_) pv (Qb3 _ Qq rfl) λv' h2 Mu p2 k2=>?_⟩
  ·exact (Qbp _ _ (λz:s2.heap.objs.size=a=>sf (z▸af))).trans ea
  ·exact hQ v' h2 Mu (λz=>by lia) (λ_=>p2) λb o bw e=>k2 b o bw (lo e) ((Qbp _ _ (Ne.symm (lo e))).trans (k1 b o bw (YT _ e)))
end
noncomputable def Oo(d:Int):List Int->Int
 | []=>d
 | a::r=>r.foldl (λx y=>if y>x then y else x) a
noncomputable def gf(l:List Int)(i j:Nat):Bool:=decide (l.getD i 0>l.getD j 0)
theorem mS(l:List Int):∀n:Nat,n<(l:)->l.getD (argBest (gf l) n) 0=((l.drop 1).take n).foldl (λx y=>if y>x then y else x) (l.getD 0 0)
 | 0,_=>by simp[argBest]
 | n+1,h=>by
  have ih:=mS l n ()
  have e:(l.drop 1).take (n+1)=(l.drop 1).take n++[l.getD (n+1) 0]:=by
   rw[Qew,Qcr,show 1+n=n+1 by lia,Qaa,NT h]
   rfl
  rw[e,Qex, <-ih]
  show l.getD (if gf l (n+1) (argBest (gf l) n)=true then n+1 else argBest (gf l) n) 0=if l.getD (n+1) 0>l.getD (argBest (gf l) n) 0 then l.getD (n+1) 0 else l.getD (argBest (gf l) n) 0
  by_cases z:l.getD (n+1) 0>l.getD (argBest (gf l) n) 0
  ·rw[if_pos (show gf l (n+1) (argBest (gf l) n)=true from decide_eq_true z),if_pos z]
  ·rw[if_neg (show ¬gf l (n+1) (argBest (gf l) n)=true from λw=>z (of_decide_eq_true w)),if_neg z]
section
variable{X:Cx}
theorem GC{prog:Program}{w:World}{A:Around}{l:List Int}{its:List Value}(r:Vals (l.map V.int) its):CmpOf prog w A .Gt (λi v=>its.toArray[i]? =some v) (gf l):=by
 intro i j vi vj s Q E hi hj hQ
 have get:∀{i:Nat} {v:Value},its.toArray[i]? =some v->∃t,v= .int (l.getD i 0) t:=by
  intro i v h
  have h':its[i]? =some v:=by simpa using h
  have hl:i<(l:):=by have:=(NU.mp h').1;rw[<-(r:),Qi]at this;exact this
  obtain ⟨u,hu,ru⟩:=r.get (i:=i) (x:=V.int (l.getD i 0)) (by rw[Qag,Qaa,NT hl];rfl)
  rw[h']at hu;cases hu
  exact ru
 obtain ⟨t,rfl⟩:=get hi
 obtain ⟨u,rfl⟩:=get hj
 exact gt_int hQ
def Tu(K:Fr)(d:Int)(t:TA):TE:=λσ H Q=>t σ H λvs H1=>∃(p:Addr) (l:List Int),vs=[.ref p]/\bf K H1 p (l.map V.int)/\Q (.int (Oo d l)) H1
theorem Ks{e:Expr}{t:TA}{d:Int}{j:Nat}{kp cp p pos:Pos}(K:Fr)(hK:X.K=K)(hc:X.calm=true)(hg:Gl X "max")(hm:X.mg "max"=none)(ha:PA X [e] t)
  (he:backTo pos (starEach [e] X.env)=[(false,eval e X.env)]:=by rfl):PE X (.Call (.Name "max" p) [e] [⟨some "default", .Constant (.int d) j cp,kp⟩] pos) (Tu K d t):=by
 subst hK
 walk_at"h"
 refine wpAny_Call_Name_kw (iq I hg hm boot_max ?_)
 refine callWith_kw (cJ (ha pos pins s σ H _ I h) λus s1 ⟨vs,H1,I1,r1,q1⟩=>?_) he (by rw[he];rfl)
 obtain ⟨a,l,rfl,hq,q⟩:=q1
 obtain ⟨u,rfl,ru⟩:=vals1 r1
 cases ru
 refine kws_cons (wpAny_Constant_int (kws_nil ?_))
 obtain ⟨its,rv,pl,hz⟩:=I1.list hq
 have hlen:(its:)=(l:):=by rw[<-(rv:),Qi]
 have hp:a<s1.heap.objs.size:=by
  obtain ⟨o,n,e,_⟩:=pl
  exact Qau e
 refine Kr (wpAny_pyIter_list pl.isList ?_)
 refine ⟨_,_,_,_,_,_,gf l,rfl,Walks.list (A:=X.A.in1) (I1.ok.hd hc) s1.heap.objs.size a (Qay hp) its.toArray,⟨⟨_,Qat _ rfl,rfl,rfl⟩,?_⟩,λb hb=>?_,GC rv,λv h' tk h0 h1 hk=>?_⟩
 ·obtain ⟨o,ho,hr⟩:=pl.isList
  exact ⟨o,YT _ ho,hr⟩
 ·show b<(s1.heap.push _).objs.size
  rw[Qei]
  exact (Qak.mp hb).elim (λz=>z▸Qc2 _) λz=>(Qab.mp z)▸Qdp hp
 ·have ru:RelV (.int (Oo d l)) v:=by
   cases l with
   | nil=>
    have:=h0 (by rw[Qah,hlen];rfl)
    subst this
    exact ⟨_,rfl⟩
   | cons b l=>
    have hn:its.toArray.size - 1=(l:):=by rw[Qah,hlen];rfl
    have hP:=h1 (by rw[Qah,hlen];exact Qf3 _)
    rw[hn]at hP
    have U4:its[argBest (gf (b::l)) (l:)]? =some v:=by simpa using hP
    have hl:argBest (gf (b::l)) (l:)<((b::l):):=Nat.lt_succ_of_le (argBest_lt _ _)
    have e:=mS (b::l) (l:) (Qc2 _)
    rw[show ((b::l).drop 1).take (l:)=l from Qba (YS _),Qaa,NT hl]at e
    have e':(b::l)[argBest (gf (b::l)) (l:)]=Oo d (b::l):=e
    obtain ⟨u,hu,ru⟩:=rv.get (i:=argBest (gf (b::l)) (l:)) (x:=V.int (Oo d (b::l))) (by rw[Qag,NT hl,e'];rfl)
    rw[U4]at hu;cases hu
    exact ru
  refine ⟨.int (Oo d l),H1,?_,ru,q⟩
  have I2:Inv X pins σ H1 { s1 with heap:=s1.heap.push { cls:= .type "list_iterator",data:= .fields #[.ref a,.int 0 0] },toks:=s1.toks+1 }:=I1.kept (t':=s1.toks+1) λb o e=>YT _ e
  have f:=I1.pW (H':=H1) (b:=s1.heap.objs.size) (YS _) I1.fresh
  exact I2.turned (h':=h') (t':=tk) (it:=s1.heap.objs.size) (λb o hb e=>hk b o (by simpa using hb) e) f.1 f.2.1 f.2.2.2.1 f.2.2.2.2.1 f.2.2.2.2.2
theorem Oq:R6 X .Mult (λx y H Q=>∃i j,x= .int i/\y= .int j/\JT i j/\Q (.int (i*j)) H):=by
 intro pins s σ H x y v u Q I r1 r2 h
 obtain ⟨i,j,rfl,rfl,c,q⟩:=h
 walk_at"4"
 obtain ⟨t',rfl⟩:=r2
 exact imul_int ⟨.int _,H,I.tok _,⟨_,rfl⟩,q⟩ c.ok
theorem Kt:R6 X .FloorDiv (λx y H Q=>∃i j,x= .int i/\y= .int j/\Wu i j/\Q (.int (i / j)) H):=by
 intro pins s σ H x y v u Q I r1 r2 h
 obtain ⟨i,j,rfl,rfl,hc,q⟩:=h
 walk_at"4"
 obtain ⟨t',rfl⟩:=r2
 have h1:(0:Int)<j:=hc.1
 have h2:j<1073741824:=hc.2
 exact ifloordiv_int () (by rw[Int.fdiv_eq_ediv_of_nonneg i ()];exact ⟨.int _,H,I.tok _,⟨_,rfl⟩,q⟩) (.inl (PyProof.noPylong_small ()))
end
theorem rm:∀{ls:List Int} {its:List Value},Vals (ls.map V.int) its->IntsAre its ls
 | [],_,.nil=> .nil
 | _::_,_,.cons ⟨t,e⟩ h=>e▸ .cons _ t (rm h)
theorem rq:∀{ls:List Int} {its:List Value},IntsAre its ls->Vals (ls.map V.int) its
 | _,_,.nil=> .nil
 | _,_,.cons n t h=> .cons ⟨t,rfl⟩ (rq h)
section
variable{prog:Program}{w:World}{A:Around}{E:Value->Shared->Prop}{s:Shared}
theorem wA{Q:Value->Shared->Prop}(hh:A.handled=none)(d:Addr)(aL:List (Key×Value))(ep:Nat)(ls:List Int)(hk:aL.map (·.1)=ls.map λl=>Sum.inl l)(hd:(d==sysModules)=false)(hm:s.heap.DictAt (bQ prog w) d aL ep)(Y1:(aL:)<64)
  (h:∀(h1 h':Heap) (tk:Nat) (a:Addr) (out:Array Value) (Ft:List Int) (e:Nat),(∀b o,s.heap.get? b=some o->h1.get? b=some o)->(∀b o,h1.get? b=some o->h'.get? b=some o)->a=h1.objs.size->h'.get? a=some (seqObj "list" out e)->IntsAre out.toList Ft->Ft.Perm ls->(Ft.Pairwise λa b=> ¬b<a)->Q (.ref a) { s with heap:=h',toks:=tk }):
  wpAny (model prog w) A (call (.builtin "sorted") [.ref d]) Q E s:=by
 refine Calls.call_function_entry kind_sorted plain_sorted entry_sorted (args_sorted1 _) ?_
 unfold Builtin.«sorted»
 refine wpAny_bind (m:=checkCount "sorted" 1 1 _) (wpAny_pure ?_)
 have pb:(10000:Nat)<sizeLine:=by decide
 refine wpAny_bind (wo (A:=A.in1) (show A.in1.handled=none from hh) d aL ep hd hm () (λs' acc hkk hg Fu ho Ah=>?_))
 obtain ⟨h1,h2⟩:=Ah
 have hlen:(aL:)=(ls:):=by have:=congrArg List.length hk;simpa using this
 have rv:Vals (ls.map V.int) acc.toList:=by
  have key:∀(ls:List Int) (vs:List Value),(vs:)=(ls:)->(∀(j:Nat) (v:Value),vs[j]? =some v->∃l t,ls[j]? =some l/\v=Value.int l t)->Vals (ls.map V.int) vs:=by
   intro ls
   induction ls with
   | nil=>intro vs hl _;have:vs=[]:=Qeh hl;subst this;exact .nil
   | cons l ls ih=>
    intro vs hl hv
    cases vs with
    | nil=>simp at hl
    | cons v vs=>
     obtain ⟨l',t,e1,e2⟩:=hv 0 v rfl
     have Am:l=l':=by simpa using e1
     subst Am
     refine .cons ⟨t,e2⟩ (ih vs (by simpa using hl) λj v' e=>?_)
     obtain ⟨l',t',g1,g2⟩:=hv (j+1) v' (by simpa using e)
     exact ⟨l',t',by simpa using g1,g2⟩
  refine key ls acc.toList (by simpa [<-hlen]using h1) λj v e=>?_
  obtain ⟨k,x,e1,e2⟩:=h2 j v (by simpa using e)
  have e3:(aL.map (·.1))[j]? =some k:=by rw[Qag,e1];rfl
  rw[hk,Qag]at e3
  cases e4:ls[j]? with
  | none=>rw[e4]at e3;cases e3
  | some l=>
   rw[e4]at e3
   have e5:k=Sum.inl l:=(Qaj e3).symm
   subst e5
   obtain ⟨t,e6⟩:=Value.isInt_shape (k:=l) (v:=v) e2
   exact ⟨l,t,rfl,e6⟩
 have hS:=rm rv
 have hn:(acc.toList:)=(ls:):=by rw[<-(rv:),Qi]
 refine wpAny_bind (wpAny_newList ?_)
 have RY:(s'.heap.push (seqObj "list" acc.toList.toArray 0)).get? s'.heap.objs.size=some (seqObj "list" acc.toList.toArray 0):=Qat _ rfl
 show wpAny _ _ _ _ _ { s' with heap:=s'.heap.push (seqObj "list" acc.toList.toArray 0) }
 refine wpAny_bind (wpAny_holding (wpAny_call_entry slot_list_sort ⟨_,RY,rfl⟩ entry_list_sort (list_sort_tree RY hS () λout Ft k1 k2 k3=>⟨_,rfl,?_⟩) (args_list_sort _)))
 obtain ⟨e,he⟩:=sortedHeap_at (out:=out) RY
 refine wpAny_pure ⟨_,rfl,?_⟩
 have es:∀hh:Heap,({ s' with heap:=hh }:Shared)={ s with heap:=hh,toks:=s'.toks }:=λhh=>by
  cases s;cases s'
  simp only at hg Fu ho
  subst hg Fu ho
  rfl
 show Q (.ref s'.heap.objs.size) { s' with heap:=sortedHeap (s'.heap.push (seqObj "list" acc.toList.toArray 0)) s'.heap.objs.size acc.toList (out) }
 rw[es]
 refine h s'.heap _ _ _ _ Ft e hkk (λb o hb=>?_) rfl he k1 k2 (k3.imp λh=>Int.not_lt.mpr h)
 have dy:=Qau hb
 rw[sortedHeap_old (Qay dy) (by rw[size_push'];exact Qdp dy)]
 exact YT _ hb
end
section
variable{X:Cx}
def Ku:List V->Hp->VK->Prop:=λxs H Q=>∃(d:Addr) (aL:List (Key×V)) (ls:List Int),xs=[.ref d]/\H d=some (.dK aL)/\aL.map (·.1)=(ls.map λl=>Sum.inl l)/\(ls:)<64/\∀(q:Addr) (ms:List Int),H q=none->ms.Perm ls->(ms.Pairwise λa b=> ¬b<a)->Q (.ref q) (upd H q (.lst (ms.map V.int)))
theorem tZ(hc:X.calm=true):dM X (.builtin "sorted") Ku:=by
 walk_at"f"
 obtain ⟨d,aL,ls,rfl,hd,hk,hn,q⟩:=h
 obtain ⟨u,rfl,ru⟩:=vals1 r
 cases ru
 obtain ⟨hz,Xi,vs,kv,o,es,ep,e1,e2,e3,e4,e5,e6⟩:=I.cy d _ hd
 have hlen:(vs:)=(ls:):=by
  have a1:=congrArg List.length (B6 kv)
  have a2:=congrArg List.length hk
  simp only[Qi]at a1 a2
  lia
 refine wA (s:=s) (I.ok.hd hc) d vs ep ls ((B6 kv).trans hk) Xi ⟨o,es,e1,e2,e3,e4,e5,e6⟩ () λh1 h' tk a out Ft e k1 k2 ea he g1 g2 g3=>?_
 have q8:=g2
 have hv:=rq g1
 have pw:=g3
 have I1:Inv X pins σ H { s with heap:=h1,toks:=tk }:=I.kept k1
 have hsz:(10000:Nat)<sizeLine:=by decide
 have I2:Inv X pins σ (upd H a (.lst (Ft.map V.int))) { s with heap:=h',toks:=tk }:=
  I1.laid (t':=tk) (a:=a) (o:= .lst (Ft.map V.int)) k2 (by rw[ea];exact YS _) ⟨by rw[Qi,q8.length_eq];lia,out.toList,e,hv,by simpa [seqObj]using he⟩
 exact ⟨.ref a,_,I2,rfl,q _ _ (I1.cy.fresh (by rw[ea];exact YS _)) q8 pw⟩
def Kv(K:Fr):List V->Hp->VK->Prop:=λxs H Q=>∃(p:Addr) (ns:List Int),xs=[.ref p]/\bf K H p (ns.map V.int)/\(ns:)<64/\∀(q:Addr) (ms:List Int),H q=none->ms.Perm ns->ms.Pairwise (· <= ·)->Q (.ref q) (upd H q (.lst (ms.map V.int)))
theorem t9(K:Fr)(h:X.K=K):dM X (.builtin "sorted") (Kv K):=by
 subst h
 walk_at"f"
 obtain ⟨p,ns,rfl,hq,hn,q⟩:=h
 obtain ⟨u,rfl,ru⟩:=vals1 r
 cases ru
 obtain ⟨its,rv,pl,hz⟩:=I.list hq
 have hlen:(its:)=(ns:):=by rw[<-(rv:),Qi]
 refine sorted_ints (l:=p) (vs:=its) (ns:=ns) pl.isList (rm rv) () λout ms h1 h2 h3=>?_
 obtain ⟨e,he⟩:=sortedAll_at s.heap its out
 have jK:=h2.length_eq
 have Y1:(64:Nat)<sizeLine:=by decide
 have N8:(ms.map V.int:)<=sizeLine:=by rw[Qi,jK];lia
 exact ⟨.ref (s.heap.objs.size+1),_,I.laid (t':=s.toks) (a:=s.heap.objs.size+1) (o:= .lst (ms.map V.int)) (λb o e=>sortedAll_old e) (Qc0 _) ⟨N8,out.toList,e,rq h1,by simpa [seqObj]using he⟩,rfl,q _ _ (I.cy.fresh (Qc0 _)) h2 h3⟩
end
end L2
namespace My
open PySem PySem.Spec PyProof.Rows L2 XL
theorem Zs1:(100000:Nat)<sizeLine:=∅
noncomputable def aW:Z:=[97,98,99,100,101,102,103,104,105,106,107,108,109,110,111,112,113,114,115,116,117,118,119,120,121,122]
noncomputable def i5:Z:=[65,66,67,68,69,70,71,72,73,74,75,76,77,78,79,80,81,82,83,84,85,86,87,88,89,90]
def Lt(c:Nat):Prop:=c∈aW\/c∈i5
noncomputable instance (c:Nat):Decidable (Lt c):=by unfold Lt;infer_instance
noncomputable def ak(c:Nat):Nat:=if az c=true then PyProof.Rows.up1 c else PyProof.Rows.lo1 c
theorem wB:∀c∈aW++i5,c<128/\ak c∈aW++i5/\ak (ak c)=c/\ak c≠c:=⋯
theorem Lt.mem{c:Nat}(h:Lt c):c∈aW++i5:=Qaf.mpr h
theorem Lt.lt{c:Nat}(h:Lt c):c<128:=(wB c h.mem).1
theorem Lt.ak{c:Nat}(h:Lt c):Lt (ak c):=Qaf.mp (wB c h.mem).2.1
theorem aE{c:Nat}(h:Lt c):ak (ak c)=c:=(wB c h.mem).2.2.1
theorem dN{c:Nat}(h:Lt c):ak c≠c:=(wB c h.mem).2.2.2
theorem gH{a b:Nat}(ha:Lt a)(hb:Lt b)(e:My.ak a=My.ak b):a=b:=by rw[<-aE ha,e,aE hb]
theorem yF:∀c∈aW,tL i5 ((aW.idxOf c:Nat):Int)=some (ak c):=⋯
theorem Ek:∀c∈i5,tL aW ((i5.idxOf c:Nat):Int)=some (ak c):=⋯
noncomputable def iI(l:Z):Z:=(l.map ak).reverse
def aG(b:Addr)(H H':Hp):Prop:=∀c o,H c=some o->c≠b->H' c=some o
theorem aG.refl(b:Addr)(H:Hp):aG b H H:=λ_ _ h _=>h
theorem aG.trans{b:Addr}{H H1 H2:Hp}(x:aG b H H1)(y:aG b H1 H2):aG b H H2:=λc o h n=>y c o (x c o h n) n
theorem aG.of{b:Addr}{H H':Hp}(x:aj H H'):aG b H H':=λc o h _=>x c o h
theorem aG.upd(b:Addr)(H:Hp)(o:HO):aG b H (upd H b o):=λc o h n=>by rw[aq n];exact h
theorem aj.upd{H:Hp}{p:Addr}{o:HO}(h:H p=none):aj H (L2.upd H p o):=λc u e=>by rw[aq (au e h)];exact e
def bM(H:Hp)(b:Addr):Prop:=∃x y:Int,H b=some (.lst [.int x,.int y])
theorem bM.same{H H':Hp}{b:Addr}(h:bM H b)(s:aj H H'):bM H' b:=let ⟨x,y,e⟩:=h;⟨x,y,s _ _ e⟩
structure Yd(y:Z):Prop where
 nd:y.Nodup
 lt:∀c∈y,Lt c
 cl:∀c∈y,ak c∈y
def pA(_:Fr):Sp:=λvs H Q _=>∃c,vs=[.str (S [c])]/\c<128/\Q (.str (S [ak c])) H
theorem wC{K:Fr}{vs:List V}{H:Hp}{Q:VK}{E:XK}(h:pA K vs H Q E):(vs:)=1:=by obtain ⟨c,rfl,_⟩:=h;rfl
def u6(_:Fr):Sp:=λvs H Q _=>∃c,vs=[.str (S [c])]/\Lt c/\Q (.str (S [ak c])) H
theorem AD{K:Fr}{vs:List V}{H:Hp}{Q:VK}{E:XK}(h:u6 K vs H Q E):(vs:)=1:=by obtain ⟨c,rfl,_⟩:=h;rfl
def u7(_:Fr):Sp:=λvs H Q _=>∃l:Z,vs=[.str (S l)]/\(∀c∈l,c<128)/\(l:)<=1000/\∀H',aj H H'->Q (.str (S (iI l))) H'
theorem AE{K:Fr}{vs:List V}{H:Hp}{Q:VK}{E:XK}(h:u7 K vs H Q E):(vs:)=1:=by obtain ⟨c,rfl,_⟩:=h;rfl
def Ca(K:Fr):Sp:=λvs H Q _=>∃(a:Addr) (ns:List Int) (k:Nat),vs=[.ref a,.int k]/\bf K H a (ns.map V.int)/\k<=1000/\∀b H',H b=none->bM H' b->aj H H'->Q (.ref b) H'
theorem GD{K:Fr}{vs:List V}{H:Hp}{Q:VK}{E:XK}(h:Ca K vs H Q E):(vs:)=2:=by obtain ⟨a,ns,k,rfl,_⟩:=h;rfl
def yG(_:Fr):Sp:=λvs H Q _=>∃(b:Addr) (m:Int),vs=[.ref b,.int m]/\bM H b/\1<=m/\m<1000000/\∀(r:Nat) H',(r:Int)<m->bM H' b->aG b H H'->Q (.int r) H'
theorem El{K:Fr}{vs:List V}{H:Hp}{Q:VK}{E:XK}(h:yG K vs H Q E):(vs:)=2:=by obtain ⟨b,m,rfl,_⟩:=h;rfl
def yH(_:Fr):Sp:=λvs H Q _=>∃(b:Addr) (t_ top:Nat),vs=[.ref b,.int t_,.int top]/\bM H b/\1<=t_/\t_<=top/\top<=8/\∀(y:Z) H',Yd y->2*t_<=(y:)->(y:)<=2*top->bM H' b->aG b H H'->Q (.str (S y)) H'
theorem Em{K:Fr}{vs:List V}{H:Hp}{Q:VK}{E:XK}(h:yH K vs H Q E):(vs:)=3:=by obtain ⟨b,m,t,rfl,_⟩:=h;rfl
def nW(K:Fr):Sp:=λvs H Q _=>∃(a:Addr) (ns:List Int),vs=[.ref a]/\bf K H a (ns.map V.int)/\(ns:)<=63/\∀H',Q (.bl true) H'
theorem Kw{K:Fr}{vs:List V}{H:Hp}{Q:VK}{E:XK}(h:nW K vs H Q E):(vs:)=1:=by obtain ⟨b,m,rfl,_⟩:=h;rfl
theorem u9:∀l:Z,(l.map λc=>[c]).flatten=l
 | []=>rfl
 | c::l=>by rw[Qav,Qcd,u9 l];rfl
theorem En:∀l:Z,((l.map λc=>[c]).map List.length).sum=(l:)
 | []=>rfl
 | c::l=>by
  rw[Qav,Qav,Qcs,En l]
  show 1+(l:)=(l:)+1
  lia
theorem fM(l:Z):cT l=(l.map λc=>[c]).map λl=>V.str (S l):=by unfold cT;rw[Qbq];rfl
theorem Cb(l:Z):(cT l).reverse=cT l.reverse:=by unfold cT;rw[Qdw]
theorem fo(l:Z)(c:Nat):cT l++[V.str (S [c])]=cT (l++[c]):=by unfold cT;rw[Qad];rfl
theorem take_snoc{α:Type}{l:List α}{i:Nat}{x:α}(h:l[i]? =some x):l.take i++[x]=l.take (i+1):=by rw[Qew,h];rfl
theorem Cc{ns:List Int}{i:Nat}(h:i<(ns:)):∃z,(ns.map V.int)[i]? =some (V.int z):=⟨ns[i],by rw[Qag,NT h];rfl⟩
theorem cW{σ:L2.St}{H:Hp}{A B:Hp->Prop}(h:A H):SJ σ H λb H3=>if b=true then A H3 else B H3:=by
 show (if true=true then A H else B H)
 rw[if_pos rfl]
 exact h
theorem AF(b:Bool)(z:Int):∃y,tL [V.int 0,V.int z] (if b=true then 1 else 0)=some (V.int y):=by
 cases b
 ·exact ⟨0,rfl⟩
 ·exact ⟨z,rfl⟩
theorem gR{α:Type}:∀{l:List α} {i:Nat} {x:α},l[i]? =some x->(x::l.eraseIdx i).Perm l
 | [],i,x,h=>by simp at h
 | a::l,0,x,h=>by
  have:a=x:=by simpa using h
  subst this
  exact Qcn _
 | a::l,i+1,x,h=>by
  have ih:=gR (l:=l) (i:=i) (x:=x) (by simpa using h)
  rw[Qd4]
  exact (List.Perm.swap a x _).trans (List.Perm.cons a ih)
theorem u_(l:Z)(i:Nat):(cT l).eraseIdx i=cT (l.eraseIdx i):=by
 unfold cT
 induction l generalizing i with
 | nil=>rfl
 | cons a l ih=>
  cases i with
  | zero=>rfl
  | succ i=>rw[Qav,Qd4,ih,Qd4,Qav]
theorem GF{l:Z}{i:Nat}(h:i<(l:)):(cT l)[i]? =some (V.str (S [l[i]])):=by unfold cT;rw[Qag,NT h];rfl
theorem Kx(a b:Z):cT a++cT b=cT (a++b):=by unfold cT;rw[Qad]
theorem Eo:∀c∈aW,ak c∉aW:=⋯
theorem Ep:aW.Nodup:=⋯
theorem Yd.perm{a b:Z}(h:Yd a)(p:a.Perm b):Yd b:=
 ⟨p.nodup_iff.mp h.nd,λc hc=>h.lt c (p.mem_iff.mpr hc),λc hc=>p.mem_iff.mp (h.cl c (p.mem_iff.mpr hc))⟩
structure Ot(i:Nat)(L E:Z):Prop where
 yd:Yd E
 nd:L.Nodup
 sm:∀c∈L,c∈aW
 ap:∀c∈L,c∉E
 ll:L.length=26 - i
 el:E.length=2*i
theorem Ot.start:Ot 0 aW []:=⟨⟨Qfo,λ_ h=>absurd h Qal,λ_ h=>absurd h Qal⟩,Ep,λ_ h=>h,λ_ _ h=>absurd h Qal,rfl,rfl⟩
theorem Ot.turn{i r:Nat}{L E:Z}(w:Ot i L E)(hi:i<26)(hr:r<L.length):Ot (i+1) (L.eraseIdx r) (E++[L[r],ak L[r]]):=by
 have hp:=gR (l:=L) (NT hr)
 have hm:L[r]∈L:=Qa1 hr
 have hs:=w.sm _ hm
 have hl:Lt L[r]:= .inl hs
 have Vb:=hp.nodup_iff.mpr w.nd
 have sub:∀c∈L.eraseIdx r,c∈L:=λc hc=>hp.mem_iff.mp (Qae _ hc)
 have Y_:=w.ap _ hm
 have ap2:ak L[r]∉E:=λz=>Y_ (by have:=w.yd.cl _ z;rwa [aE hl]at this)
 refine ⟨⟨?_,λc hc=>?_,λc hc=>?_⟩,(Qbc.mp Vb).2,λc hc=>w.sm c (sub c hc),λc hc hE=>?_,?_,?_⟩
 ·rw[Qb2]
  refine ⟨w.yd.nd,?_,λa ha b hb z=>?_⟩
  ·rw[Qbc]
   refine ⟨λz=>(dN hl) (Qab.mp z).symm,Qbc.mpr ⟨Qal,Qfo⟩⟩
  ·subst z
   rcases Qak.mp hb with z | z
   ·exact Y_ (z▸ha)
   ·exact ap2 (Qab.mp z▸ha)
 ·rcases Qaf.mp hc with z | z
  ·exact w.yd.lt c z
  ·rcases Qak.mp z with z | z
   ·rw[z];exact hl
   ·rw[Qab.mp z];exact hl.ak
 ·rcases Qaf.mp hc with z | z
  ·exact Qeg _ (w.yd.cl c z)
  ·refine Qa9 _ ?_
   rcases Qak.mp z with z | z
   ·rw[z];exact Qae _ (Qab.mpr rfl)
   ·rw[Qab.mp z,aE hl];exact Qac
 ·rcases Qaf.mp hE with z | z
  ·exact w.ap c (sub c hc) z
  ·rcases Qak.mp z with z | z
   ·exact (Qbc.mp Vb).1 (z▸hc)
   ·have e:c=ak L[r]:=Qab.mp z
    exact Eo _ hs (e▸w.sm c (sub c hc))
 ·have:=hp.length_eq
  rw[Qaz,w.ll]at this
  lia
 ·rw[U3,w.el]
  show 2*i+2=_
  lia
theorem aG.bL{b p:Addr}{H H':Hp}{o:HO}(h:aG b H H')(n:H p=none):aG b H (L2.upd H' p o):=λc u e z=>by rw[aq (au e n)];exact h c u e z
theorem bM.bL{b p:Addr}{H:Hp}{o:HO}(h:bM H b)(n:p≠b):bM (L2.upd H p o) b:=let ⟨x,y,e⟩:=h;⟨x,y,by rw[aq (Ne.symm n)];exact e⟩
theorem aG.none{b p:Addr}{H H':Hp}(h:aG b H H')(n:H' p=none)(z:p≠b):H p=none:=by
 cases q:H p with
 | none=>rfl
 | some o=>rw[h p o q z]at n;cases n
theorem bM.ne{b p:Addr}{H:Hp}(h:bM H b)(n:H p=none):p≠b:=λz=>by obtain ⟨x,y,e⟩:=h;rw[<-z,n]at e;cases e
theorem Tv{c:Bool}{A B:Prop}(h:c=false)(hB:B):if c=true then A else B:=by rw[h];exact DW hB
theorem Tw{c:Bool}{A B:Prop}(h:c=true)(hA:A):if c=true then A else B:=by rw[h];exact SH hA
theorem cO(l:Z):(iI l:)=(l:):=by unfold iI;rw[Qbb,Qi]
theorem Ky{l:Z}(h:∀c∈l,Lt c):iI (iI l)=l:=by
 unfold iI
 rw[Qdw,List.reverse_reverse,Qbq]
 have:∀c∈l,(ak ∘ ak) c=c:=λc hc=>aE (h c hc)
 calc l.map (ak ∘ ak)=l.map id:=Qco this
  _=l:=Qf9 l
theorem Mx{l:Z}(h:∀c∈l,Lt c):∀c∈l,c<128:=λc hc=>(h c hc).lt
theorem rA(a:Z):a.take (cT a:)=a:=by rw[aY];exact Qba (YS _)
theorem Kz(n:Nat):(List.replicate n true).all id=true:=by rw[Qc3];intro b hb;rw[List.eq_of_mem_replicate hb];rfl
theorem GG(n:Nat):(List.replicate n true).map V.bl++[V.bl true]=(List.replicate (n+1) true).map V.bl:=by rw[List.replicate_succ',Qad];rfl
theorem aG.same{b:Addr}{H H2 H3:Hp}(n:H b=Option.none)(s:aj H H2)(t:aG b H2 H3):aj H H3:=λc o e=>t c o (s c o e) (au e n)
theorem aG.after{p:Addr}{H H1 H2:Hp}(s:aG p H H1)(t:aj H1 H2):aG p H H2:=λc o e z=>t c o (s c o e z)
noncomputable def jy(ws:List Z):List V:=ws.map λl=>V.str (S l)
theorem bN(ws:List Z):(jy ws:)=(ws:):=by unfold jy;rw[Qi]
theorem rB(ws:List Z)(l:Z):jy ws++[V.str (S l)]=jy (ws++[l]):=by unfold jy;rw[Qad];rfl
theorem ir{ws:List Z}{i:Nat}(h:i<(ws:)):(jy ws)[i]? =some (V.str (S ws[i])):=by unfold jy;rw[Qag,NT h];rfl
theorem yI{s:TS}{D:Ends}{σ:L2.St}{H:Hp}(h:∀D':Ends,(∀σ' H',D.nx σ' H'->D'.nx σ' H')->s D' σ H):s D σ H:=h D λ_ _ z=>z
theorem Xj{t u:TS}{D:Ends}{σ:L2.St}{H:Hp}(h:∀N:L2.St->Hp->Prop,(∀σ' H',u D σ' H'->N σ' H')->t { D with nx:=N } σ H):zS t u D σ H:=h _ λ_ _ z=>z
theorem Tx{k:Nat}{v:V}{t u:TS}{D:Ends}{σ:L2.St}{H:Hp}{r:V->Hp->Prop}{b c:L2.St->Hp->Prop}(h:∀N:L2.St->Hp->Prop,(∀σ' H',u D σ' H'->N σ' H')->t { D with nx:=N } (σ.set k (some v)) H):uD k v σ H ({ nx:=zS t u D,rt:=r,bk:=b,ct:=c }:Ends).nx:=h _ λ_ _ z=>z
theorem Tz{t:TT}{σ:L2.St}{H:Hp}{Q:Bool->Hp->Prop}(h:∀Q':Bool->Hp->Prop,(∀b H',Q b H'->Q' b H')->t σ H Q'):t σ H Q:=h Q λ_ _ z=>z
noncomputable def di(st:Z)(c:Nat):Z:=if st.getLast? =some (ak c) then st.dropLast else st++[c]
noncomputable def red(l:Z):Z:=l.foldl di []
def lr:Z->Prop
 | []=>True
 | [_]=>True
 | a::b::r=>a≠ak b/\lr (b::r)
theorem lr.tail:∀{a:Nat} {r:Z},lr (a::r)->lr r
 | _,[],_=>trivial
 | _,_::_,h=>h.2
theorem lr.snoc:∀{l:Z} {c:Nat},lr l->l.getLast?≠ some (ak c)->lr (l++[c])
 | [],_,_,_=>trivial
 | [a],c,_,h=>⟨λz=>h (by rw[z];rfl),trivial⟩
 | a::b::r,c,h,k=>⟨h.1,lr.snoc (l:=b::r) h.2 (by simpa using k)⟩
theorem lr.init:∀{l:Z} {c:Nat},lr (l++[c])->lr l/\l.getLast?≠ some (ak c)
 | [],_,_=>⟨trivial,by simp⟩
 | [a],c,h=>⟨trivial,λz=>h.1 (by simpa using z)⟩
 | a::b::r,c,h=>by
  have ih:=lr.init (l:=b::r) (c:=c) h.2
  exact ⟨⟨h.1,ih.1⟩,by simpa using ih.2⟩
theorem snoc_cases(l:Z):l=[]\/∃m a,l=m++[a]:=by
 by_cases h:l=[]
 ·exact .inl h
 ·exact .inr ⟨l.dropLast,l.getLast h,(List.dropLast_concat_getLast h).symm⟩
theorem lr.left:∀{m l:Z},lr (m++l)->lr m
 | [],_,_=>trivial
 | [_],_,_=>trivial
 | a::b::r,l,h=>⟨h.1,lr.left (m:=b::r) (l:=l) h.2⟩
theorem om{l:Z}{c:Nat}(h:l.getLast? =some c):∃m,l=m++[c]:=by
 rcases snoc_cases l with rfl | ⟨m,a,rfl⟩
 ·simp at h
 ·refine ⟨m,?_⟩
  have:a=c:=by simpa using h
  rw[this]
theorem Er{st:Z}{c:Nat}(h:lr st):lr (di st c):=by
 unfold di
 by_cases e:st.getLast? =some (ak c)
 ·rw[if_pos e]
  obtain ⟨m,rfl⟩:=om e
  rw[Qcv]
  exact h.init.1
 ·rw[if_neg e]
  exact h.snoc e
theorem Es{st:Z}{c d:Nat}(h:d∈di st c):d∈st\/d=c:=by
 unfold di at h
 by_cases e:st.getLast? =some (ak c)
 ·rw[if_pos e]at h
  exact .inl (List.dropLast_subset _ h)
 ·rw[if_neg e]at h
  rcases Qaf.mp h with z | z
  ·exact .inl z
  ·exact .inr (Qab.mp z)
theorem AG{st:Z}{x y:Nat}(h:lr st)(hy:Lt y)(e:x=ak y):di (di st x) y=st:=by
 subst e
 unfold di
 by_cases z:st.getLast? =some (ak (ak y))
 ·rw[if_pos z]
  obtain ⟨m,rfl⟩:=om z
  rw[Qcv,aE hy]
  have:=h.init.2
  rw[aE hy]at this
  rw[if_neg this]
 ·rw[if_neg z,if_pos (by simp),Qcv]
theorem rC:∀(l st:Z),lr st->lr (l.foldl di st)
 | [],_,h=>h
 | _::l,_,h=>rC l _ (Er h)
theorem KA(l:Z):lr (red l):=rC l [] trivial
theorem iN{a b:Z}{x y:Nat}(hy:Lt y)(e:x=ak y):red (a++x::y::b)=red (a++b):=by
 unfold red
 rw[Qex,Qc8,Qc8,AG (rC a [] trivial) hy e, <-Qex]
theorem fold_same:∀(l st:Z),lr (st++l)->l.foldl di st=st++l
 | [],st,_=>by simp
 | c::l,st,h=>by
  have h':lr ((st++[c])++l):=by rw[Qbd];exact h
  have h2:=(lr.left h').init.2
  rw[Qc8]
  have:di st c=st++[c]:=by unfold di;rw[if_neg h2]
  rw[this,fold_same l (st++[c]) h',Qbd]
  rfl
theorem gS{l:Z}(h:lr l):red l=l:=by
 exact fold_same l [] h
theorem fold_lt:∀(l st:Z),(∀c∈l,Lt c)->(∀c∈st,Lt c)->∀c∈l.foldl di st,Lt c
 | [],_,_,h=>h
 | a::l,st,h1,h2=>fold_lt l _ (λc hc=>h1 c (Qae _ hc)) λc hc=>(Es hc).elim (h2 c) λz=>z▸h1 a Qac
theorem GH{l:Z}(h:∀c∈l,Lt c):∀c∈red l,Lt c:=fold_lt l [] h λ_ h=>absurd h Qal
theorem Et(st:Z)(c:Nat):(di st c:)<=(st:)+1:=by
 unfold di
 by_cases e:st.getLast? =some (ak c)
 ·rw[if_pos e,List.length_dropLast];lia
 ·rw[if_neg e,U3];exact YS _
theorem yJ:∀(l st:Z),(l.foldl di st:)<=(st:)+(l:)
 | [],_=>YS _
 | c::l,st=>by
  have:=yJ l (di st c)
  have h2:=Et st c
  rw[Qc8,Qaz]
  lia
theorem mT(l:Z):(red l:)<=(l:):=by
 have:=yJ l []
 rw[Qgd,Qd5]at this
 exact this
theorem GI{l:Z}{i c:Nat}(h:l[i]? =some c):red (l.take (i+1))=di (red (l.take i)) c:=by
 unfold red
 rw[<-take_snoc h,Qex]
 rfl
theorem GJ:∀{l:Z},(∀k a b,l[k]? =some a->l[k+1]? =some b->a≠ak b)->lr l
 | [],_=>trivial
 | [_],_=>trivial
 | a::b::r,h=>⟨h 0 a b rfl rfl,GJ (l:=b::r) λk x y h1 h2=>h (k+1) x y (by simpa using h1) (by simpa using h2)⟩
noncomputable def Fv(l:Z)(s e:Nat):Z:=(l.drop s).take (e - s)
noncomputable def strip:Nat->Z->Z
 | 0,l=>l
 | n+1,l=>match l with
  | []=>[]
  | [a]=>[a]
  | a::b::r=>if a=ak ((b::r).getLast (by simp)) then strip n (b::r).dropLast else a::b::r
theorem gg:∀(n:Nat) {l:Z},(l:)<2->strip n l=l
 | 0,_,_=>rfl
 | _+1,[],_=>rfl
 | _+1,[_],_=>rfl
 | _+1,_::_::_,h=>by simp at h;lia
theorem mU(l:Z)(y:Nat):(l++[y]).getLast (by simp)=y:=by simp
theorem strip_go(n:Nat){a y:Nat}{m:Z}(h:a=ak y):strip (n+1) (a::(m++[y]))=strip n m:=by
 cases m with
 | nil=>
  show (if a=ak (([y]:Z).getLast (by simp)) then strip n ([y]:Z).dropLast else _)=strip n []
  rw[if_pos (by simpa using h)]
  rfl
 | cons b r=>
  show (if a=ak ((b::(r++[y])).getLast (by simp)) then strip n (b::(r++[y])).dropLast else _)=strip n (b::r)
  have e1:(b::(r++[y])).getLast (by simp)=y:=mU (b::r) y
  have e2:(b::(r++[y])).dropLast=b::r:=by
   have:b::(r++[y])=(b::r)++[y]:=rfl
   rw[this,Qcv]
  rw[if_pos (by rw[e1];exact h),e2]
theorem strip_stop(n:Nat){a y:Nat}{m:Z}(h:a≠ak y):strip n (a::(m++[y]))=a::(m++[y]):=by
 cases n with
 | zero=>rfl
 | succ n=>
  cases m with
  | nil=>
   show (if a=ak (([y]:Z).getLast (by simp)) then _ else _)=_
   rw[if_neg (by simpa using h)]
   rfl
  | cons b r=>
   show (if a=ak ((b::(r++[y])).getLast (by simp)) then _ else _)=_
   have e1:(b::(r++[y])).getLast (by simp)=y:=mU (b::r) y
   rw[if_neg (by rw[e1];exact h)]
   rfl
theorem Cd{l:Z}(h:2<=(l:)):∃a m y,l=a::(m++[y]):=by
 cases l with
 | nil=>simp at h
 | cons a r=>
  rcases snoc_cases r with rfl | ⟨m,y,rfl⟩
  ·simp at h
  ·exact ⟨a,m,y,rfl⟩
theorem rD:∀(n:Nat) (l:Z) (k:Nat),(l:)<=n->strip (n+k) l=strip n l
 | 0,l,k,h=>by rw[gg _ (),gg _ ()]
 | n+1,l,k,h=>by
  by_cases h2:(l:)<2
  ·rw[gg _ h2,gg _ h2]
  ·obtain ⟨a,m,y,rfl⟩:=Cd (l:=l) ()
   have hm:(m:)<=n:=by simp at h;lia
   by_cases e:a=ak y
   ·have:n+1+k=(n+k)+1:=by lia
    rw[this,strip_go _ e,strip_go _ e,rD n m k hm]
   ·rw[strip_stop _ e,strip_stop _ e]
noncomputable def core(l:Z):Z:=strip (l:) l
theorem qt{a y:Nat}{m:Z}(h:a=ak y):core (a::(m++[y]))=core m:=by
 unfold core
 have:((a::(m++[y])):)=((m:)+1)+1:=by simp
 rw[this,strip_go _ h,rD _ _ _ (YS _)]
theorem gJ{a y:Nat}{m:Z}(h:a≠ak y):core (a::(m++[y]))=a::(m++[y]):=strip_stop _ h
theorem gT{l:Z}(h:(l:)<2):core l=l:=gg _ h
theorem yK{P:Z->Z->Prop}(h1:∀l,(l:)<2->P l l)(h2:∀a m y,a≠ak y->P (a::(m++[y])) (a::(m++[y])))(h3:∀a m y r,a=ak y->P m r->P (a::(m++[y])) r):∀(n:Nat) (l:Z),(l:)<=n->P l (core l)
 | 0,l,h=>by rw[gT ()];exact h1 l ()
 | n+1,l,h=>by
  by_cases hl:(l:)<2
  ·rw[gT hl];exact h1 l hl
  ·obtain ⟨a,m,y,rfl⟩:=Cd (l:=l) ()
   by_cases e:a=ak y
   ·rw[qt e]
    exact h3 a m y _ e (yK h1 h2 h3 n m (by simp at h;lia))
   ·rw[gJ e];exact h2 a m y e
theorem yL(l:Z):(core l:)<=(l:):=
 yK (P:=λl r=>(r:)<=(l:)) (λ_ _=>YS _) (λ_ _ _ _=>YS _) (λa m y r _ k=>by simp;lia) (l:) l (YS _)
theorem Ou{l:Z}{s e:Nat}(h1:s+2<=e)(h2:e<=(l:)):Fv l s e=l[s]::(Fv l (s+1) (e - 1)++[l[e - 1]]):=by
 unfold Fv
 rw[Qbj ()]
 have e1:e - s=(e - 1 - (s+1))+1+1:=by lia
 rw[e1,List.take_succ_cons,Qew,Qcr]
 have e2:s+1+(e - 1 - (s+1))=e - 1:=by lia
 rw[e2,NT ()]
 rfl
theorem KC{l:Z}{s e:Nat}(h2:e<=(l:)):(Fv l s e:)=e - s:=by unfold Fv;rw[Qas,Qa0];lia
theorem KD(l:Z):Fv l 0 (l:)=l:=by unfold Fv;simp
def mV(_:Fr):Sp:=λvs H Q _=>∃l:Z,vs=[.str (S l)]/\(∀c∈l,Lt c)/\(l:)<=1000/\∀H',aj H H'->Q (.str (S (red l))) H'
theorem ua{K:Fr}{vs:List V}{H:Hp}{Q:VK}{E:XK}(h:mV K vs H Q E):(vs:)=1:=by obtain ⟨c,rfl,_⟩:=h;rfl
def pB(_:Fr):Sp:=λvs H Q _=>∃l:Z,vs=[.str (S l)]/\(∀c∈l,Lt c)/\(l:)<=1000/\∀H',aj H H'->Q (.str (S (core (red l)))) H'
theorem wD{K:Fr}{vs:List V}{H:Hp}{Q:VK}{E:XK}(h:pB K vs H Q E):(vs:)=1:=by obtain ⟨c,rfl,_⟩:=h;rfl
theorem dP{α:Type}(l:List α)(k:Nat):cut l none (some (k:Int))=l.take k:=by
 unfold cut
 rw[HT.mr,HT.hX,List.drop_zero,Nat.sub_zero]
 by_cases h:k<=(l:)
 ·rw[Qb6 h]
 ·rw[Qb8 (),Qba (YS _),Qba ()]
theorem gh{α:Type}(l:List α)(k:Nat):cut l (some (k:Int)) none=l.drop k:=by
 unfold cut
 rw[HT.mr,HT.hX]
 by_cases h:k<=(l:)
 ·rw[Qb6 h,Qba (by rw[Qa0];exact YS _)]
 ·rw[Qb8 (),Qcm (YS _),Qcm ()]
  simp
noncomputable def dA(c:Z)(k:Nat):Z:=c.drop k++c.take k
noncomputable def jz(c:Z)(n:Nat):List Z:=(List.range n).map λk=>dA c (k+1)
noncomputable def cU(c:Z):Z:=cC c (jz c ((c:) - 1))
@[irreducible] noncomputable def aJ (w:Z):Z:=cU (core (red w))
theorem rE(w:Z):aJ w=cU (core (red w)):=by unfold aJ;rfl
theorem va(c:Z)(n:Nat):jz c (n+1)=jz c n++[dA c (n+1)]:=by unfold jz;rw[Qb7,Qad];rfl
theorem i6:∀(r:List Z) (a b:Z),cC a (r++[b])=dz (cC a r) b
 | [],_,_=>rfl
 | _::r,_,_=>i6 r _ _
theorem cD(c:Z)(k:Nat):(dA c k:)=(c:):=by unfold dA;rw[U3,Qa0,Qas];lia
theorem i7:∀(r:List Z) (a:Z),cC a r=a\/cC a r∈r
 | [],a=> .inl rfl
 | b::r,a=>by
  rcases i7 r (dz a b) with h | h
  ·have hl:dz a b=a\/dz a b=b:=by unfold dz;split<;>simp
   rcases hl with e | e
   ·left;show cC (dz a b) r=a;rw[h,e]
   ·right;show cC (dz a b) r∈b::r;rw[h,e];exact Qac
  ·right;exact Qae _ h
theorem vb(c:Z):∃k,cU c=dA c k:=by
 rcases i7 (jz c ((c:) - 1)) c with h | h
 ·exact ⟨0,by show cC _ _=_;rw[h];unfold dA;simp⟩
 ·unfold jz at h
  obtain ⟨k,_,e⟩:=Qam.mp h
  exact ⟨k+1,e.symm⟩
theorem Eu(w:Z):(aJ w:)<=(w:):=by
 obtain ⟨k,e⟩:=vb (core (red w))
 unfold aJ
 rw[e,cD]
 exact Qbf (yL _) (mT w)
def Ce(_:Fr):Sp:=λvs H Q _=>∃l:Z,vs=[.str (S l)]/\(∀c∈l,Lt c)/\(l:)<=1000/\∀H',aj H H'->Q (.str (S (aJ l))) H'
theorem GK{K:Fr}{vs:List V}{H:Hp}{Q:VK}{E:XK}(h:Ce K vs H Q E):(vs:)=1:=by obtain ⟨c,rfl,_⟩:=h;rfl
theorem Ov(n d:Nat):HT.jk n d (some (-1))=n - 1:=by
 have e:HT.jk n d (some (-1))=(if (-1:Int)<0 then ((-1:Int)+(n:Int)).toNat else min (-1:Int).toNat n):=rfl
 rw[e,if_pos ∅]
 lia
theorem Ow{α:Type}(l:List α):cut l (some (-2)) none=l.drop ((l:) - 2):=by
 have e:∀d,HT.jk (l:) d (some (-2))=(if (-2:Int)<0 then ((-2:Int)+((l:):Int)).toNat else min (-2:Int).toNat (l:)):=λ_=>rfl
 have e2:∀d,HT.jk (l:) d (some (-2))=(l:) - 2:=λd=>by rw[e,if_pos ∅];lia
 unfold cut
 rw[HT.mr,e2]
 exact Qba (by rw[Qa0];exact YS _)
def AllLt(l:Z):Prop:=∀c∈l,Lt c
theorem AllLt.app{a b:Z}(h:AllLt a)(g:AllLt b):AllLt (a++b):=λc hc=>(Qaf.mp hc).elim (h c) (g c)
theorem rF:∀(t st x y:Z),AllLt t->red (x++(st++t)++y)=red (x++t.foldl di st++y)
 | [],st,x,y,_=>by rw[Qa4];rfl
 | c::t,st,x,y,h=>by
  have hc:Lt c:=h c Qac
  have ht:AllLt t:=λd hd=>h d (Qae _ hd)
  rw[Qc8, <-rF t (di st c) x y ht]
  unfold di
  by_cases e:st.getLast? =some (ak c)
  ·rw[if_pos e]
   obtain ⟨m,rfl⟩:=om e
   rw[Qcv]
   have:=iN (a:=x++m) (b:=t++y) hc rfl
   simpa [Qbd]using this
  ·rw[if_neg e]
   simp[Qbd]
theorem Cf{t:Z}(x y:Z)(h:AllLt t):red (x++t++y)=red (x++red t++y):=by
 have:red (x++([]++t)++y)=red (x++red t++y):=rF t [] x y h
 simpa using this
theorem GL{t:Z}(y:Z)(h:AllLt t):red (t++y)=red (red t++y):=by simpa using Cf [] y h
theorem Ew{t:Z}(x:Z)(h:AllLt t):red (x++t)=red (x++red t):=by simpa using Cf x [] h
theorem rG(a b:Z): ¬a<dz a b:=by
 unfold dz
 split
 ·rename_i h;exact λg=>Qd8 a (List.lt_trans g h)
 ·exact Qd8 a
theorem p7(a b:Z): ¬b<dz a b:=by
 unfold dz
 split
 ·exact Qd8 b
 ·rename_i h;exact h
theorem Mz{a b c:Z}(h: ¬b<a)(g: ¬c<b): ¬c<a:=List.le_trans (show a<=b from h) (show b<=c from g)
theorem KG{a b:Z}(h: ¬b<a)(g: ¬a<b):a=b:=List.le_antisymm (show a<=b from h) (show b<=a from g)
theorem i8:∀(r:List Z) (a:Z),∀x∈a::r, ¬x<cC a r
 | [],a,x,hx=>by rw[Qab.mp hx];exact Qd8 a
 | b::r,a,x,hx=>by
  show ¬x<cC (dz a b) r
  have h0:=i8 r (dz a b) (dz a b) Qac
  rcases Qak.mp hx with e | hx
  ·rw[e];exact Mz h0 (rG a b)
  ·rcases Qak.mp hx with e | hx
   ·rw[e];exact Mz h0 (p7 a b)
   ·exact i8 r (dz a b) x (Qae _ hx)
theorem mW(c:Z):dA c 0=c:=by unfold dA;simp
theorem KH(c:Z):dA c (c:)=c:=by unfold dA;simp
theorem yM(c:Z)(k:Nat)(hk:k<=(c:)): ¬dA c k<cU c:=by
 have h:=i8 (jz c ((c:) - 1)) c
 by_cases z:k=0
 ·rw[z,mW];exact h c Qac
 ·by_cases z2:k=(c:)
  ·rw[z2,KH];exact h c Qac
  ·refine h _ (Qae _ ?_)
   unfold jz
   exact Qam.mpr ⟨k - 1,Qax.mpr (),by rw[show k - 1+1=k by lia]⟩
theorem lO(c:Z):∃k,k<=(c:)/\cU c=dA c k:=by
 rcases i7 (jz c ((c:) - 1)) c with h | h
 ·exact ⟨0,Qao _,by show cC _ _=_;rw[h,mW]⟩
 ·unfold jz at h
  obtain ⟨k,hk,e⟩:=Qam.mp h
  have:=Qax.mp hk
  exact ⟨k+1,(),e.symm⟩
theorem GN{c m:Z}(h1:∃k,k<=(c:)/\m=dA c k)(h2:∀k,k<=(c:)-> ¬dA c k<m):cU c=m:=by
 obtain ⟨k,hk,e⟩:=h1
 obtain ⟨j,hj,e2⟩:=lO c
 refine KG ?_ ?_
 ·rw[e];exact yM c k hk
 ·rw[e2];exact h2 j hj
theorem Cg(a b:Z):dA (a++b) (a:)=b++a:=by unfold dA;rw[List.drop_left,List.take_left]
theorem Ci{c:Z}{k j:Nat}(hk:k<=(c:))(hj:j<=(c:)):∃i,i<=(c:)/\dA (dA c k) j=dA c i:=by
 by_cases z:j<=(c:) - k
 ·refine ⟨k+j,(),?_⟩
  unfold dA
  rw[List.drop_append_of_le_length (by rw[Qa0];lia),List.take_append_of_le_length (by rw[Qa0];lia),List.drop_drop,Qbd, <-List.take_add]
 ·refine ⟨j - ((c:) - k),(),?_⟩
  unfold dA
  have e1:(c.drop k:)=(c:) - k:=Qa0
  rw[List.drop_append,List.take_append,e1,Qcm (by rw[e1];lia),Qba (l:=c.drop k) (by rw[e1];lia),Qdj,List.drop_take,List.take_take]
  have e2:min (j - ((c:) - k)) k=j - ((c:) - k):=by lia
  rw[e2]
  have e3:c.drop (j - ((c:) - k))=(c.drop (j - ((c:) - k))).take (k - (j - ((c:) - k)))++c.drop k:=by
   have:=Qbr (k - (j - ((c:) - k))) (c.drop (j - ((c:) - k)))
   rw[List.drop_drop]at this
   have e:j - ((c:) - k)+(k - (j - ((c:) - k)))=k:=by lia
   rw[e]at this
   exact this.symm
  rw[e3,Qbd]
  congr 2
  exact e3.symm
theorem AH{c:Z}{k:Nat}(hk:k<=(c:)):cU (dA c k)=cU c:=by
 refine (GN (c:=c) ?_ λj hj=>?_).symm
 ·obtain ⟨j,hj,e⟩:=lO (dA c k)
  rw[cD]at hj
  rw[e]
  exact Ci hk hj
 ·have hb:c=dA (dA c k) ((c:) - k):=by
   have e:dA c k=c.drop k++c.take k:=rfl
   have:=Cg (c.drop k) (c.take k)
   rw[Qa0, <-e]at this
   rw[this,Qbr]
  obtain ⟨i,hi,e⟩:=Ci (c:=dA c k) (k:=(c:) - k) (j:=j) (by rw[cD];lia) (by rw[cD];exact hj)
  rw[<-hb]at e
  rw[e]
  exact yM _ i hi
theorem rH(a b:Z):cU (a++b)=cU (b++a):=by
 rw[<-Cg a b]
 exact (AH (by rw[U3];lia)).symm
theorem AI{a b:Nat}(ha:Lt a)(hb:Lt b)(h:a≠ak b):b≠ak a:=λz=>h (by rw[z,aE ha])
theorem vc{l:Z}(h:∀a m y,l=a::(m++[y])->a≠ak y):core l=l:=by
 by_cases z:(l:)<2
 ·exact gT z
 ·obtain ⟨a,m,y,rfl⟩:=Cd (l:=l) ()
  exact gJ (h a m y rfl)
theorem GO{c d:Nat}{r:Z}(h:lr (d::r))(hc:c≠ak d):lr (c::d::r):=⟨hc,h⟩
theorem Ox{c:Nat}{t:Z}(hc:Lt c)(ht:AllLt t):cU (core (red (c::t)))=cU (core (red (t++[c]))):=by
 have e1:red (c::t)=red (c::red t):=Ew [c] ht
 have e2:red (t++[c])=red (red t++[c]):=GL [c] ht
 rw[e1,e2]
 have hr:lr (red t):=KA t
 have Mw:AllLt (red t):=GH ht
 generalize red t=r at hr Mw
 cases r with
 | nil=>rfl
 | cons d s=>
  have hd:Lt d:=Mw d Qac
  have MA:AllLt s:=λx hx=>Mw x (Qae _ hx)
  obtain ⟨m,e,Jw⟩:∃m e,d::s=m++[e]:=by
   rcases snoc_cases (d::s) with z | ⟨m,e,z⟩
   ·cases z
   ·exact ⟨m,e,z⟩
  have zM:Lt e:=Mw e (by rw[Jw];simp)
  have last:(d::s).getLast? =some e:=by rw[Jw];simp
  by_cases ji:c=ak d
  ·have f1:red (c::d::s)=s:=by
    have:=iN (a:=[]) (b:=s) hd ji
    rw[Qdj,Qdj]at this
    rw[this,gS hr.tail]
   rw[f1]
   by_cases MB:e=ak c
   ·have f2:red (d::s++[c])=m:=by
     rw[Jw,Qbd]
     have:=iN (a:=m) (b:=[]) hc MB
     rw[Qa4]at this
     show red (m++e::c::[])=m
     rw[this,gS]
     rw[Jw]at hr
     exact hr.init.1
    rw[f2]
    have hed:e=d:=by rw[MB,ji,aE hd]
    subst hed
    cases m with
    | nil=>
     have:s=[]:=by cases Jw;rfl
     rw[this]
    | cons x m'=>
     have hx:x=e/\s=m'++[e]:=by
      have:=Jw
      rw[Qdf]at this
      injection this with h1 h2
      exact ⟨h1.symm,h2⟩
     obtain ⟨rfl,rfl⟩:=hx
     have k1:core (m'++[x])=m'++[x]:=vc λa mm y z=>by
      cases m' with
      | nil=>simp at z
      | cons a' m''=>
       rw[Qdf]at z
       injection z with z1 z2
       have z3:y=x:=by
        have:=congrArg List.getLast? z2
        simpa using this.symm
       rw[<-z1,z3]
       exact AI hd (MA a' (by simp)) hr.1
     have k2:core (x::m')=x::m':=vc λa mm y z=>by
      injection z with z1 z2
      rw[<-z1]
      subst z2
      have:=hr.tail
      rw[Qbd]at this
      have h4:lr ((mm++[y])++[x]):=by rw[Qbd];exact this
      have h5:=h4.init.2
      intro z
      exact h5 (by rw[z,List.getLast?_concat,aE (MA y (by simp))])
     rw[k1,k2]
     exact rH m' [x]
   ·have f2:red (d::s++[c])=d::s++[c]:=gS (hr.snoc (by rw[last];intro z;exact MB (by injection z)))
    rw[f2]
    have:core (d::(s++[c]))=core s:=qt (by rw[ji,aE hd])
    rw[Qdf,this]
  ·have f1:red (c::d::s)=c::d::s:=gS (GO hr ji)
   rw[f1]
   by_cases MB:e=ak c
   ·have f2:red (d::s++[c])=m:=by
     rw[Jw,Qbd]
     have:=iN (a:=m) (b:=[]) hc MB
     rw[Qa4]at this
     show red (m++e::c::[])=m
     rw[this,gS]
     rw[Jw]at hr
     exact hr.init.1
    rw[f2,Jw,qt (by rw[MB,aE hc])]
   ·have f2:red (d::s++[c])=d::s++[c]:=gS (hr.snoc (by rw[last];intro z;exact MB (by injection z)))
    rw[f2]
    have k1:core (c::d::s)=c::d::s:=by
     rw[Jw]
     exact gJ (AI zM hc MB)
    have k2:core (d::s++[c])=d::s++[c]:=by
     rw[Qdf]
     exact gJ (AI hc hd ji)
    rw[k1,k2]
    exact rH [c] (d::s)
theorem oq:∀{u v:Z},AllLt u->AllLt v->aJ (u++v)=aJ (v++u)
 | [],v,_,_=>by rw[Qa4];rfl
 | c::u,v,hu,hv=>by
  have hc:Lt c:=hu c Qac
  have Qn:AllLt u:=λx hx=>hu x (Qae _ hx)
  have e1:aJ (c::u++v)=aJ (u++v++[c]):=by
   rw[rE,rE]
   exact Ox hc (Qn.app hv)
  have e2:=oq (u:=u) (v:=v++[c]) Qn (hv.app λx hx=>by rw[Qab.mp hx];exact hc)
  rw[e1,Qbd,e2,Qbd]
  rfl
theorem mX(u:Z):∀(m i:Nat),i<m*(u:)->(eQ m u)[i]? =u[i%(u:)]?
 | 0,i,h=>by simp at h
 | m+1,i,h=>by
  rw[fL,List.getElem?_append]
  by_cases z:i<(u:)
  ·rw[if_pos z,Qbs z]
  ·rw[if_neg z,mX u m (i - (u:)) (by rw[Qd6]at h;lia), <-Qf0 ()]
def iO(w:Z)(s:Nat):Prop:=eQ ((w:) / s) (w.take s)=w
def iP(w:Z)(k:Nat):Prop:=dA w k=w
noncomputable instance (w:Z)(s:Nat):Decidable (iO w s):=by unfold iO;infer_instance
noncomputable instance (w:Z)(s:Nat):Decidable (iP w s):=by unfold iP;infer_instance
def b6(w:Z)(s:Nat):Prop:=(w=[]/\s=0)\/(1<=s/\s<=(w:)/\iO w s/\∀j,1<=j->j<s-> ¬iO w j)
def lQ(w:Z)(s:Nat):Prop:=(w=[]/\s=0)\/(1<=s/\s<=(w:)/\iP w s/\∀j,1<=j->j<s-> ¬iP w j)
theorem wF{w:Z}{s:Nat}(h1:1<=s)(h2:s<=(w:))(h:iO w s):iP w s:=by
 unfold iO at h
 have hm:1<=(w:) / s:=Nat.div_pos h2 h1
 obtain ⟨m,e⟩:∃m,(w:) / s=m+1:=⟨(w:) / s - 1,()⟩
 rw[e]at h
 have hu:(w.take s:)=s:=by rw[Qas];lia
 generalize w.take s=u at h hu
 unfold iP dA
 rw[<-h,fL,List.drop_left' hu,List.take_left' hu, <-Ao,fL]
noncomputable def Fw(w:Z)(i:Nat):Option Nat:=w[i%(w:)]?
theorem qu{w:Z}{k i:Nat}(hk:k<=(w:))(hi:i<(w:)):(dA w k)[i]? =Fw w (i+k):=by
 unfold dA Fw
 rw[List.getElem?_append,Qa0]
 by_cases z:i<(w:) - k
 ·rw[if_pos z,Qcr,Qbs (),Qeo]
 ·rw[if_neg z,Qd3,if_pos (),Qf0 (),Qbs ()]
  congr 1
  lia
def zN(w:Z)(k:Nat):Prop:=∀i,Fw w (i+k)=Fw w i
theorem GP(w:Z)(i k:Nat):Fw w (i%(w:)+k)=Fw w (i+k):=by unfold Fw;rw[Nat.mod_add_mod]
theorem h7{w:Z}{k:Nat}(hn:w≠[])(hk:k<=(w:)):iP w k↔zN w k:=by
 have hl:0<(w:):=YR.mpr hn
 constructor
 ·intro h i
  have hi:=Qdg i hl
  rw[<-GP, <-qu hk hi,h]
  rfl
 ·intro h
  refine Qds λi=>?_
  by_cases hi:i<(w:)
  ·rw[qu hk hi,h i]
   unfold Fw
   rw[Qbs hi]
  ·have hr:(dA w k:)=(w:):=cD w k
   rw[Qbv (),Qbv ()]
theorem zN.mul{w:Z}{k:Nat}(h:zN w k):∀j i,Fw w (i+k*j)=Fw w i
 | 0,i=>rfl
 | j+1,i=>by rw[Nat.mul_succ, <-Qfw,h,zN.mul h j]
theorem zN.whole(w:Z):zN w (w:):=λi=>by unfold Fw;rw[Nat.add_mod_right]
theorem zN.rest{w:Z}{k:Nat}(h:zN w k):zN w ((w:)%k):=λi=>by
 rw[<-h.mul ((w:) / k) (i+(w:)%k),Qfw,Qfh]
 exact zN.whole w i
theorem vd{w:Z}{k:Nat}(hn:w≠[])(h1:1<=k)(h2:k<=(w:))(h:iP w k)(hl:∀j,1<=j->j<k-> ¬iP w j):iO w k:=by
 have hp:=(h7 hn h2).mp h
 have hr:(w:)%k=0:=by
  by_cases z:(w:)%k=0
  ·exact z
  ·have dy:=Qdg (w:) (show k>0 by lia)
   exact absurd ((h7 hn ()).mpr hp.rest) (hl _ () dy)
 have hm:(w:) / k*k=(w:):=by
  have:=Qfh (w:) k
  rw[hr,Qd5,Qc9]at this
  exact this
 have hu:(w.take k:)=k:=by rw[Qas];lia
 unfold iO
 refine Qds λi=>?_
 by_cases hi:i<(w:)
 ·rw[mX _ _ _ (by rw[hu,hm];exact hi),hu,Qd3]
  have hik:=Qdg i (show k>0 by lia)
  rw[if_pos hik]
  have e:=hp.mul (i / k) (i%k)
  rw[Qfh]at e
  unfold Fw at e
  rw[Qbs hi,Qbs ()]at e
  exact e.symm
 ·rw[Qbv (by rw[yq,hu,hm];lia),Qbv ()]
theorem kG{w:Z}{s k:Nat}(h:b6 w s)(g:lQ w k):s=k:=by
 rcases h with ⟨e,e2⟩ | ⟨h1,h2,h3,h4⟩
 ·rcases g with ⟨_,g2⟩ | ⟨g1,g2,_,_⟩
  ·rw[e2,g2]
  ·rw[e]at g2;simp at g2;lia
 ·rcases g with ⟨e,_⟩ | ⟨g1,g2,g3,g4⟩
  ·rw[e]at h2;simp at h2;lia
  ·have hn:w≠[]:=λz=>by rw[z]at h2;simp at h2;lia
   by_cases z:s<k
   ·exact absurd (wF h1 h2 h3) (g4 s h1 z)
   ·by_cases z2:k<s
    ·exact absurd (vd hn g1 g2 g3 g4) (h4 k g1 z2)
    ·lia
theorem Ex(w:Z)(h:w≠[]):iO w (w:):=by
 have hl:0<(w:):=YR.mpr h
 unfold iO
 rw[Nat.div_self hl,Qba (YS _)]
 show eQ (0+1) w=w
 rw[fL]
 simp[eQ]
theorem Ey(w:Z):iP w (w:):=by
 unfold iP dA
 rw[Qcm (YS _),Qba (YS _)]
 rfl
noncomputable def KI(c:Z)(n:Nat):Z:=((List.range n).map (· +1)).filter λk=>decide (iP c k)
theorem wG{c:Z}{n k:Nat}:k∈KI c n↔(1<=k/\k<=n)/\iP c k:=by
 unfold KI
 rw[Qa8,Qam]
 constructor
 ·rintro ⟨⟨j,hj,rfl⟩,h⟩
  have:=Qax.mp hj
  exact ⟨(),of_decide_eq_true h⟩
 ·rintro ⟨h1,h2⟩
  exact ⟨⟨k - 1,Qax.mpr (),()⟩,decide_eq_true h2⟩
theorem AJ(c:Z)(n:Nat):(KI c n).Pairwise (· < ·):=by
 unfold KI
 refine List.Pairwise.filter _ ?_
 rw[Qby]
 exact (List.pairwise_lt_range (n:=n)).imp λh=>Nat.succ_lt_succ h
theorem rJ{c:Z}(h:c≠[]):∃k r,KI c (c:)=k::r/\lQ c k:=by
 have hl:0<(c:):=YR.mpr h
 have hm:(c:)∈KI c (c:):=wG.mpr ⟨(),Ey c⟩
 rcases e:KI c (c:) with _ | ⟨k,r⟩
 ·rw[e]at hm;exact absurd hm Qal
 ·refine ⟨k,r,rfl,.inr ?_⟩
  have hk:k∈KI c (c:):=by rw[e];exact Qac
  obtain ⟨⟨h1,h2⟩,h3⟩:=wG.mp hk
  refine ⟨h1,h2,h3,λj j1 j2 z=>?_⟩
  have hj:j∈KI c (c:):=wG.mpr ⟨(),z⟩
  have hs:=AJ c (c:)
  rw[e]at hj hs
  rcases Qak.mp hj with w | w
  ·lia
  ·have:=List.rel_of_pairwise_cons hs w
   lia
noncomputable def MC(w:Z)(s:Nat):List V:=[.str (S (w.take s)),.int (((w:) / s:Nat):Int)]
def Cj(_:Fr):Sp:=λvs H Q _=>∃l:Z,vs=[.str (S l)]/\(∀c∈l,Lt c)/\(l:)<=1000/\∀p s H',H p=none->H' p=some (.tup (MC (aJ l) s))->b6 (aJ l) s->aj H H'->Q (.ref p) H'
theorem GQ{K:Fr}{vs:List V}{H:Hp}{Q:VK}{E:XK}(h:Cj K vs H Q E):(vs:)=1:=by obtain ⟨c,rfl,_⟩:=h;rfl
theorem bj:∀c∈aW,az c=true/\PyProof.Rows.lo1 c=c/\ak c∈i5:=⋯
theorem b7:∀c∈i5,az c=false/\PyProof.Rows.lo1 c=ak c/\c∉aW/\ak c∈aW:=⋯
theorem ow:∀c∈i5,c∉aW:=⋯
theorem gK{c:Nat}(h:Lt c):az c=decide (c∈aW):=by
 rcases h with h | h
 ·rw[(bj c h).1,decide_eq_true h]
 ·rw[(b7 c h).1,decide_eq_false (b7 c h).2.2.1]
noncomputable def gr(y:Z)(a b c:Nat):Bool:=decide ((((y.idxOf b:Nat):Int) - ((y.idxOf a:Nat):Int))%((y:):Int)<(((y.idxOf c:Nat):Int) - ((y.idxOf a:Nat):Int))%((y:):Int))
def kY(i j k:Nat):Prop:=(i<j/\j<k)\/(j<k/\k<i)\/(k<i/\i<j)
noncomputable instance (i j k:Nat):Decidable (kY i j k):=by unfold kY;infer_instance
theorem jV{i j n:Nat}(hi:i<n)(hj:j<n):((j:Int) - (i:Int))%(n:Int)=if i<=j then (j:Int) - i else (j:Int) - i+n:=by
 split
 ·exact Qa7 () ()
 ·rw[<-Qdi]
  exact Qa7 () ()
theorem iw{y:Z}{a b c:Nat}(hn:y.Nodup)(ha:a∈y)(hb:b∈y)(hc:c∈y)(oh:a≠b)(AK:a≠c)(MD:b≠c):gr y a b c=decide (kY (y.idxOf a) (y.idxOf b) (y.idxOf c)):=by
 have ia:=Qan ha
 have ib:=Qan hb
 have ic:=Qan hc
 have inj:∀{u v:Nat},u∈y->v∈y->u≠v->y.idxOf u≠y.idxOf v:=λ{u v} hu hv h z=>h (by
  have e1:=Qcb (Qan hu)
  have e2:=Qcb (Qan hv)
  rw[<-e1, <-e2]
  congr 1)
 have n1:=inj ha hb oh
 have n2:=inj ha hc AK
 have n3:=inj hb hc MD
 unfold gr
 rw[jV ia ib,jV ia ic]
 generalize y.idxOf a=i at*
 generalize y.idxOf b=j at*
 generalize y.idxOf c=k at*
 refine decide_eq_decide.mpr ?_
 unfold kY
 split<;>split<;>lia
theorem GR{i j k:Nat}:kY j k i↔kY i j k:=by unfold kY;lia
theorem KJ{i j k:Nat}(h1:i≠j)(h2:i≠k)(h3:j≠k):kY i k j↔ ¬kY i j k:=by unfold kY;lia
theorem KL{y:Z}{a b c:Nat}(hn:y.Nodup)(ha:a∈y)(hb:b∈y)(hc:c∈y)(oh:a≠b)(AK:a≠c)(MD:b≠c):gr y b c a=gr y a b c:=by
 rw[iw hn ha hb hc oh AK MD,iw hn hb hc ha MD (Ne.symm oh) (Ne.symm AK)]
 exact decide_eq_decide.mpr GR
theorem cw{y:Z}{u v:Nat}(hu:u∈y)(hv:v∈y)(h:u≠v):y.idxOf u≠y.idxOf v:=λz=>h (by
 have e1:=Qcb (Qan hu)
 have e2:=Qcb (Qan hv)
 rw[<-e1, <-e2]
 congr 1)
theorem Oy{y:Z}{a b c:Nat}(hn:y.Nodup)(ha:a∈y)(hb:b∈y)(hc:c∈y)(oh:a≠b)(AK:a≠c)(MD:b≠c):gr y a c b=!gr y a b c:=by
 rw[iw hn ha hb hc oh AK MD,iw hn ha hc hb AK oh (Ne.symm MD)]
 rw[<-decide_not]
 exact decide_eq_decide.mpr (KJ (cw ha hb oh) (cw ha hc AK) (cw hb hc MD))
theorem Oz(d:Nat)(t:Z)(a:Nat):(d::t).idxOf a=if d=a then 0 else t.idxOf a+1:=by
 by_cases h:d=a
 ·subst h;rw[if_pos rfl,Qfp]
 ·rw[if_neg h,Qge,show (d==a)=false by simp[h]];rfl
theorem Ez{a b:Z}(h:a.Perm b)(ha:a.Pairwise (· <= ·))(hb:b.Pairwise (· <= ·)):a=b:=
 List.Perm.eq_of_pairwise (le:=λx y=>x<=y) (λ_ _ _ _ h1 h2=>Qfi h1 h2) ha hb h
def yN(_:Fr):Sp:=λvs H Q _=>∃l:Z,vs=[.str (S l)]/\(∀c∈l,c<128)/\(l:)<64/\∀l' H',l'.Perm (l.filter az)->l'.Pairwise (· <= ·)->aj H H'->Q (.str (S l')) H'
theorem EA{K:Fr}{vs:List V}{H:Hp}{Q:VK}{E:XK}(h:yN K vs H Q E):(vs:)=1:=by obtain ⟨c,rfl,_⟩:=h;rfl
def jW(_:Fr):Sp:=λvs H Q _=>∃(y:Z) (a b:Nat),vs=[.str (S y),.str (S [a]),.str (S [b])]/\a∈y/\b∈y/\(y:)<=1000/\Q (.int ((((y.idxOf b:Nat):Int) - ((y.idxOf a:Nat):Int))%((y:):Int))) H
theorem p8{K:Fr}{vs:List V}{H:Hp}{Q:VK}{E:XK}(h:jW K vs H Q E):(vs:)=3:=by obtain ⟨c,_,_,rfl,_⟩:=h;rfl
def ve(_:Fr):Sp:=λvs H Q _=>∃y:Z,vs=[.str (S y)]/\(y:)<64/\∀q l' H',H q=none->H' q=some (.lst (cT l'))->l'.Perm (y.filter λc=>decide (c∈aW))->l'.Pairwise (· <= ·)->aj H H'->Q (.ref q) H'
theorem AL{K:Fr}{vs:List V}{H:Hp}{Q:VK}{E:XK}(h:ve K vs H Q E):(vs:)=1:=by obtain ⟨c,rfl,_⟩:=h;rfl
theorem pE{p:Nat->Bool}{l:Z}{i c:Nat}(h:l[i]? =some c):(l.take (i+1)).filter p=(l.take i).filter p++if p c=true then [c] else []:=by
 rw[<-take_snoc h,Qcg]
 congr 1
 by_cases z:p c=true
 ·rw[if_pos z,Qbe z];rfl
 ·rw[if_neg z,Qa6 z];rfl
theorem GS{y:Z}(h:Yd y):2*(y.filter az:)=(y:):=by
 have key:∀p q:Nat->Bool,(∀c∈y,p c=true->q (ak c)=true)->(y.filter p:)<=(y.filter q:):=λp q TB=>by
  have hn:((y.filter p).map ak).Nodup:=by
   show ((y.filter p).map ak).Pairwise (· ≠ ·)
   rw[Qby]
   refine (h.nd.filter p).imp_of_mem λ{a b} ha hb z e=>z ?_
   exact gH (h.lt a (Qa8.mp ha).1) (h.lt b (Qa8.mp hb).1) e
  have:=hn.length_le_of_subset (l₂:=y.filter q) λc hc=>by
   obtain ⟨d,hd,rfl⟩:=Qam.mp hc
   obtain ⟨d1,d2⟩:=Qa8.mp hd
   exact Qa8.mpr ⟨h.cl d d1,TB d d1 d2⟩
  rwa [Qi]at this
 have k1:=key az (λc=>!az c) λc hc z=>by
  rw[gK (h.lt c hc)]at z
  have hs:=of_decide_eq_true z
  rw[(b7 _ (bj c hs).2.2).1];rfl
 have k2:=key (λc=>!az c) az λc hc z=>by
  rcases h.lt c hc with q | q
  ·rw[(bj c q).1]at z;cases z
  ·exact (bj _ (b7 c q).2.2.2).1
 have k3:(y.filter az:)+((y.filter λc=>!az c):)=(y:):=by
  clear k1 k2 key h
  induction y with
  | nil=>rfl
  | cons a r ih=>
   cases hq:az a
   ·rw[Qa6 (by simp[hq]),Qbe (by simp[hq]),Qaz,Qaz];lia
   ·rw[Qbe hq,Qa6 (by simp[hq]),Qaz,Qaz];lia
 lia
noncomputable def rd(w:Z)(k:Int):Nat:=w.getD (k%((w:):Int)).toNat 0
theorem TC{w:Z}(h:w≠[])(k:Int):(k%((w:):Int)).toNat<(w:):=by
 have:0<(w:):=YR.mpr h
 have h1:=Qcf k (b:=((w:):Int)) ()
 have h2:=Qcc k (b:=((w:):Int)) ()
 lia
theorem fN{w:Z}(h:w≠[])(k:Int):w[(k%((w:):Int)).toNat]? =some (rd w k):=by
 unfold rd
 rw[Qaa,NT (TC h k)]
 rfl
theorem i9{w:Z}(h:w≠[])(k:Int):rd w k∈w:=Qai (fN h k)
theorem gy(w:Z)(k:Int):rd w (k+(w:))=rd w k:=by unfold rd;rw[Qdi]
theorem fO(w:Z)(k:Int):rd w (k%(w:))=rd w k:=by unfold rd;rw[Qdu _ (Qf6 _)]
theorem gU{w:Z}{k:Nat}(h:k<(w:)):w[k]? =some (rd w k):=by
 have dk:w≠[]:=λz=>by rw[z]at h;exact absurd h (Qc6 _)
 have:=fN dk (k:Int)
 rwa [Qa7 () (),YQ]at this
theorem yO{w:Z}{k:Int}{n:Nat}{c:Nat}(hn:n<(w:))(e:k%((w:):Int)=n)(h:w[n]? =some c):rd w k=c:=by
 have:=gU hn
 rw[h]at this
 rw[<-fO,e]
 exact (Qaj this).symm
theorem mY{w:Z}{k:Int}(h1: -((w:):Int)<=k)(h2:k<(w:)):tL w k=some (rd w k):=by
 have dk:w≠[]:=λz=>by rw[z]at h1 h2;simp at h1 h2;lia
 unfold tL Fq
 by_cases h0:0<=k
 ·rw[if_pos h0,if_pos h2]
  have:=fN dk k
  rw[Qa7 h0 h2]at this
  exact this
 ·rw[if_neg h0,if_pos h1]
  have:=fN dk (k+(w:))
  rw[gy,Qa7 () ()]at this
  exact this
theorem i_{f:Int->Nat}{p:Nat}(P:∀k,f (k+p)=f k)(k:Int):∀t:Nat,f (k+t*p)=f k
 | 0=>by simp
 | t+1=>by
  have:k+((t+1:Nat):Int)*p=k+t*p+p:=by rw[Qbk,Int.add_mul];simp;lia
  rw[this,P,i_ P k t]
theorem fw{f g:Int->Nat}{p q:Nat}(hp:0<p)(hq:0<q)(Pf:∀k,f (k+p)=f k)(Pg:∀k,g (k+q)=g k)(h:∀n:Nat,n<p+q->f n=g n)(k:Int):f k=g k:=by
 have up:∀N n:Nat,n<N->f n=g n:=by
  intro N
  induction N with
  | zero=>intro n hn;lia
  | succ N ih=>
   intro n hn
   by_cases z:n<p+q
   ·exact h n z
   ·have e1:f n=f ((n - p:Nat):Int):=by have:=Pf ((n - p:Nat):Int);rwa [show ((n - p:Nat):Int)+p=n by lia]at this
    have e2:g ((n - p:Nat):Int)=g ((n - p - q:Nat):Int):=by have:=Pg ((n - p - q:Nat):Int);rwa [show ((n - p - q:Nat):Int)+q=((n - p:Nat):Int) by lia]at this
    have e3:f ((n - q:Nat):Int)=f ((n - p - q:Nat):Int):=by have:=Pf ((n - p - q:Nat):Int);rwa [show ((n - p - q:Nat):Int)+p=((n - q:Nat):Int) by lia]at this
    have e4:g n=g ((n - q:Nat):Int):=by have:=Pg ((n - q:Nat):Int);rwa [show ((n - q:Nat):Int)+q=n by lia]at this
    rw[e1,ih (n - p) (),e2, <-ih (n - p - q) (), <-e3,ih (n - q) (), <-e4]
 have q_:∃m:Nat,k+((k.natAbs*q:Nat):Int)*p=m/\k+((k.natAbs*p:Nat):Int)*q=m:=by
  have e1:((k.natAbs*q:Nat):Int)*p=((k.natAbs*(q*p):Nat):Int):=by rw[Nat.mul_assoc k.natAbs q p |>.symm];simp
  have e2:((k.natAbs*p:Nat):Int)*q=((k.natAbs*(q*p):Nat):Int):=by rw[Qc9 q p,Nat.mul_assoc k.natAbs p q |>.symm];simp
  have hle:k.natAbs<=k.natAbs*(q*p):=Nat.le_mul_of_pos_right _ (Nat.mul_pos hq hp)
  generalize k.natAbs*(q*p)=M at e1 e2 hle
  exact ⟨(k+M).toNat,(),()⟩
 obtain ⟨m,h1,h2⟩:=q_
 rw[<-i_ Pf k (k.natAbs*q),h1, <-i_ Pg k (k.natAbs*p),h2]
 exact up (m+1) m (Qc2 m)
noncomputable def kZ(f g:Int->Nat):Nat->Nat->Nat
 | 0,i=>i
 | n+1,i=>if f i=g i then kZ f g n (i+1) else i
theorem gW(f g:Int->Nat):∀n i:Nat,i<=kZ f g n i/\kZ f g n i<=i+n/\(∀j:Nat,i<=j->j<kZ f g n i->f j=g j)/\(kZ f g n i<i+n->f (kZ f g n i)≠g (kZ f g n i))
 | 0,i=>⟨YS _,YS _,λj h1 h2=>absurd (Qbn h1 h2) (Qbu _),λh=>absurd h (Qbu _)⟩
 | n+1,i=>by
  unfold kZ
  by_cases z:f i=g i
  ·rw[if_pos z]
   obtain ⟨h1,h2,h3,h4⟩:=gW f g n (i+1)
   refine ⟨(),(),λj g1 g2=>?_,λg1=>h4 ()⟩
   by_cases e:j=i
   ·rw[e];exact z
   ·exact h3 j () g2
  ·rw[if_neg z]
   exact ⟨YS _,(),λj g1 g2=>absurd (Qbn g1 g2) (Qbu _),λ_=>z⟩
theorem GU{f g:Int->Nat}{n m:Nat}(h1:∀j:Nat,j<m->f j=g j)(h2:f m≠g m)(hm:m<n):kZ f g n 0=m:=by
 obtain ⟨_,b,c,d⟩:=gW f g n 0
 by_cases z:kZ f g n 0<m
 ·exact absurd (h1 _ z) (d ())
 ·by_cases y:m<kZ f g n 0
  ·exact absurd (c m (Qao _) y) h2
  ·lia
noncomputable def al(y:Z)(f g:Int->Nat)(n:Nat):Nat:=
 if f 0≠g 0\/f (-1)=g (-1) then 0 else
 if gr y (ak (f (-1))) (ak (g (-1))) (f 0)=gr y (f (kZ f g n 0)) (g (kZ f g n 0)) (ak (f ((kZ f g n 0:Nat) - 1))) then kZ f g n 0 else 0
theorem yP{y:Z}{f g:Int->Nat}{n:Nat}(h:0<al y f g n):∀j:Nat,j<al y f g n->f j=g j:=by
 unfold al at h ⊢
 by_cases z:f 0≠g 0\/f (-1)=g (-1)
 ·rw[if_pos z]at h;lia
 ·rw[if_neg z]at h ⊢
  by_cases u:gr y (ak (f (-1))) (ak (g (-1))) (f 0)=gr y (f (kZ f g n 0)) (g (kZ f g n 0)) (ak (f ((kZ f g n 0:Nat) - 1)))
  ·rw[if_pos u]at h ⊢
   exact λj hj=>(gW f g n 0).2.2.1 j (Qao _) hj
  ·rw[if_neg u]at h;lia
noncomputable def ac(y:Z)(a b p q:Nat):Bool:=if p=a\/p=b\/q=a\/q=b then false else (gr y a p b != gr y a q b)
noncomputable def sq(w:Z)(i:Int):Int->Nat:=λn=>rd w (i+n)
noncomputable def bq(v:Z)(j:Int):Int->Nat:=λn=>ak (rd v (j - n))
theorem cR(w:Z)(i k:Int):sq w i (k+(w:))=sq w i k:=by unfold sq;rw[<-Qe1,gy]
theorem AM(w:Z)(k:Int):rd w (k - (w:))=rd w k:=by rw[<-gy w (k - (w:))];congr 1;lia
theorem oz(w:Z)(i k:Int):bq w i (k+(w:))=bq w i k:=by unfold bq;rw[show i - (k+((w:):Int))=i - k - (w:) by lia,AM]
theorem oA{v:Z}(h:v≠[])(k:Int):rd (iI v) k=ak (rd v (-1 - k)):=by
 have q_:0<(v:):=YR.mpr h
 have h1:=Qcf k (b:=((v:):Int)) ()
 have h2:=Qcc k (b:=((v:):Int)) ()
 have e:(-1 - k)%((v:):Int)=(v:) - 1 - k%(v:):=by
  have e1:=Qfn k (v:)
  have: -1 - k=((v:) - 1 - k%(v:))+(v:)*(-(k / (v:)) - 1):=by rw[Int.mul_sub,Int.mul_neg];lia
  rw[this,Qeu,Qa7 () ()]
 generalize hr:k%((v:):Int)=r at h1 h2 e
 obtain ⟨n,rfl⟩:∃n:Nat,r=n:=⟨r.toNat,()⟩
 have hn:n<(v:):=by lia
 have e2:rd v (-1 - k)=v[(v:) - 1 - n]'():=yO (n:=(v:) - 1 - n) () (by rw[e];lia) (NT ())
 rw[e2]
 refine yO (n:=n) (by rw[cO];exact hn) (by rw[cO];exact hr) ?_
 unfold iI
 rw[Qc4 (by rw[Qi];exact hn),Qi,Qag,NT ()]
 rfl
theorem OA{v:Z}(h:v≠[])(j:Nat):sq (iI v) (((v:):Int) - 1 - j)=bq v j:=by
 funext n
 unfold sq bq
 rw[oA h,show -1 - (((v:):Int) - 1 - j+n)=j - n - (v:) by lia,AM]
structure SW(y w:Z):Prop where
 ne:w≠[]
 bO:∀c∈w,c∈y
 red:∀k:Int,rd w k≠ak (rd w (k - 1))
theorem SW.rd{y w:Z}(h:SW y w)(k:Int):rd w k∈y:=h.bO _ (i9 h.ne k)
theorem gL{w v:Z}{f g:Int->Nat}(hw:w≠[])(hv:v≠[])(pf:∀k,f (k+(w:))=f k)(pg:∀k,g (k+(v:))=g k)(h:f (-1)≠g (-1)):kZ f g ((w:)+(v:)) 0<(w:)+(v:)/\f (kZ f g ((w:)+(v:)) 0)≠g (kZ f g ((w:)+(v:)) 0):=by
 obtain ⟨_,b,c,d⟩:=gW f g ((w:)+(v:)) 0
 by_cases z:kZ f g ((w:)+(v:)) 0<(w:)+(v:)
 ·exact ⟨z,d ()⟩
 ·exact absurd (fw (YR.mpr hw) (YR.mpr hv) pf pg (λn hn=>c n (Qao _) ()) (-1)) h
theorem KN{y w:Z}{i j:Nat}(hy:Yd y)(h:SW y w)(m0:0<al y (sq w i) (bq w j) ((w:)+(w:)))(e:((j:Int) - al y (sq w i) (bq w j) ((w:)+(w:))+1)%(w:)=i):False:=by
 have ha:=yP m0
 generalize al y (sq w i) (bq w j) ((w:)+(w:))=m at*
 have key:∀k:Nat,k<m->rd w (i+k)=ak (rd w (i+(m - 1 - k))):=λk hk=>by
  have:=ha k hk
  unfold sq bq at this
  rw[this]
  congr 1
  rw[<-fO w (j - k), <-fO w (i+((m:Int) - 1 - k)), <-e,Qdt]
  congr 2
  lia
 rcases Nat.mod_two_eq_zero_or_one m with z | z
 ·have k1:=key (m / 2) ()
  rw[show (i:Int)+((m:Int) - 1 - ((m / 2:Nat):Int))=i+((m / 2:Nat):Int) - 1 by lia]at k1
  exact h.red _ k1
 ·have k1:=key (m / 2) ()
  rw[show (i:Int)+((m:Int) - 1 - ((m / 2:Nat):Int))=i+((m / 2:Nat):Int) by lia]at k1
  exact dN (hy.lt _ (h.rd _)) k1.symm
structure Fm where
 c:Nat
 i:Nat
 d:Nat
 j:Nat
 m:Nat
 t:Z
noncomputable def KO:Z:=[97,99,114,111,115,115]
noncomputable def OB:Z:=[97,108,111,110,103]
noncomputable def GV:Z:=[97,103,97,105,110,115,116]
noncomputable def Vc(y w v:Z)(i j:Nat):Bool:=ac y (ak (rd w ((i:Int) - 1))) (rd w i) (ak (rd v ((j:Int) - 1))) (rd v j)
noncomputable def TF(y w v:Z)(i j:Nat):Nat:=al y (sq w i) (sq v j) ((w:)+(v:))
noncomputable def jD(y w v:Z)(i j:Nat):Nat:=al y (sq w i) (bq v j) ((w:)+(v:))
noncomputable def OC(y w v:Z)(c i d j:Nat):List Fm:=(if Vc y w v i j=true then [⟨c,i,d,j,0,KO⟩] else [])++(if 0<TF y w v i j then [⟨c,i,d,j,TF y w v i j,OB⟩] else [])
noncomputable def gC(w:Z)(i j m:Nat):Bool:=tY (((j:Int) - m+1)%(w:)) (((i:Int)+m - 1)%(w:)) i j
noncomputable def Xk(y w v:Z)(c i d j:Nat):List Fm:=if jD y w v i j=0\/(c=d/\gC w i j (jD y w v i j)=true) then [] else [⟨c,i,d,j,jD y w v i j,GV⟩]
noncomputable def vf(y:Z)(ws:List Z)(o p:Nat×Nat):List Fm:=
 (if tY o.1 o.2 p.1 p.2=true then OC y (ws.getD o.1 []) (ws.getD p.1 []) o.1 o.2 p.1 p.2 else [])++(if o.1<=p.1 then Xk y (ws.getD o.1 []) (ws.getD p.1 []) o.1 o.2 p.1 p.2 else [])
noncomputable def uc(ws:List Z):Nat->List (Nat×Nat)
 | 0=>[]
 | n+1=>uc ws n++(List.range ((ws|||n):)).map λi=>(n,i)
noncomputable def places(ws:List Z):List (Nat×Nat):=uc ws (ws:)
noncomputable def GW(y:Z)(ws:List Z):List Fm:=(places ws).flatMap λo=>(places ws).flatMap λp=>vf y ws o p
theorem kH{ws:List Z}:∀{n:Nat} {o:Nat×Nat},o∈uc ws n↔o.1<n/\o.2<(ws.getD o.1 []:)
 | 0,o=>by simp[uc]
 | n+1,o=>by
  unfold uc
  rw[Qaf,kH (n:=n),Qam]
  constructor
  ·rintro (⟨h1,h2⟩ | ⟨i,hi,rfl⟩)
   ·exact ⟨(),h2⟩
   ·exact ⟨by simp,Qax.mp hi⟩
  ·rintro ⟨h1,h2⟩
   by_cases z:o.1<n
   ·exact .inl ⟨z,h2⟩
   ·have e:o.1=n:=by lia
    exact .inr ⟨o.2,Qax.mpr (by rw[<-e];exact h2),by rw[<-e]⟩
theorem Ck{ws:List Z}:∀n:Nat,(uc ws n).Pairwise λa b=>tY a.1 a.2 b.1 b.2=true
 | 0=>List.Pairwise.nil
 | n+1=>by
  unfold uc
  rw[Qda]
  refine ⟨Ck n,?_,λa ha b hb=>?_⟩
  ·rw[Qby]
   refine List.pairwise_lt_range.imp λ{a b} h=>?_
   unfold tY
   rw[if_pos rfl]
   exact decide_eq_true (by show (a:Int)<b;lia)
  ·obtain ⟨i,hi,rfl⟩:=Qam.mp hb
   have:=(kH.mp ha).1
   unfold tY
   rw[if_neg (by show ¬((a.1:Nat):Int)=(n:Nat);lia)]
   exact decide_eq_true (by show ((a.1:Nat):Int)<(n:Nat);lia)
theorem oB:∀{a b:List Int},cg a b=true->cg b a=false/\a≠b
 | [],[],h=>by simp[cg]at h
 | [],_::_,h=>⟨rfl,by simp⟩
 | _::_,[],h=>by simp[cg]at h
 | x::r,z::t,h=>by
  simp only[cg]at h ⊢
  split at h
  ·rename_i e
   obtain ⟨h1,h2⟩:=oB h
   rw[if_pos e.symm]
   exact ⟨h1,λq=>h2 (List.cons.inj q).2⟩
  ·rename_i e
   have h':=of_decide_eq_true h
   rw[if_neg (λq=>e q.symm)]
   exact ⟨decide_eq_false (),λq=>e (List.cons.inj q).1⟩
theorem GX{a b c d:Int}(h: ¬(c=a/\d=b)):tY a b c d=!tY c d a b:=by
 unfold tY
 by_cases z:a=c
 ·rw[if_pos z,if_pos z.symm]
  have:d≠b:=λq=>h ⟨z.symm,q⟩
  by_cases u:b<d
  ·rw[decide_eq_true u,decide_eq_false ()];rfl
  ·rw[decide_eq_false u,decide_eq_true ()];rfl
 ·rw[if_neg z,if_neg (λq=>z q.symm)]
  by_cases u:a<c
  ·rw[decide_eq_true u,decide_eq_false ()];rfl
  ·rw[decide_eq_false u,decide_eq_true ()];rfl
noncomputable def jX(n:Nat)(l:Z):Z:=(List.replicate n l).flatten
def EB(w:Z):Prop:=∀(k a b:Nat),w[k]? =some a->w[k+1]? =some b->b≠ak a
theorem EB.nil:EB []:=λk a b h=>by simp at h
theorem EB.take{w:Z}(h:EB w)(n:Nat):EB (w.take n):=λk a b h1 h2=>by
 rw[Qd3]at h1 h2
 split at h1
 ·split at h2
  ·exact h k a b h1 h2
  ·cases h2
 ·cases h1
theorem EB.snoc{w:Z}{c:Nat}(h:EB w)(hc:∀a,w.getLast? =some a->c≠ak a):EB (w++[c]):=λk a b h1 h2=>by
 by_cases z:k+1<(w:)
 ·rw[Qbi ()]at h1
  rw[Qbi z]at h2
  exact h k a b h1 h2
 ·have Aq:k+1<(w++[c]:):=(NU.mp h2).1
  rw[U3]at Aq
  have e:k+1=(w:):=by simp at Aq;lia
  rw[Qbi ()]at h1
  rw[e,Qb0 (YS _),Qfb]at h2
  have e2:c=b:=by simpa using h2
  rw[<-e2]
  refine hc a ?_
  rw[Qdy, show (w:) - 1=k by lia]
  exact h1
theorem SW.of{y w:Z}(ne:w≠[])(bO:∀c∈w,c∈y)(Jx:EB w)(hd:∀a b,w.head? =some a->w.getLast? =some b->a≠ak b):SW y w:=by
 refine ⟨ne,bO,λk=>?_⟩
 have q_:0<(w:):=YR.mpr ne
 have h1:=Qcf k (b:=((w:):Int)) ()
 have h2:=Qcc k (b:=((w:):Int)) ()
 have hk:=fN ne k
 have B9:=fN ne (k - 1)
 by_cases z:k%((w:):Int)=0
 ·have e:(k - 1)%((w:):Int)=(w:) - 1:=by
   rw[<-Int.emod_sub_emod,z]
   have:(0:Int) - 1=((w:) - 1)+(w:)*(-1):=by lia
   rw[this,Qeu,Qa7 () ()]
  rw[z]at hk
  rw[e]at B9
  refine hd _ _ ?_ ?_
  ·rw[Qff];exact hk
  ·rw[Qdy, show (w:) - 1=(((w:):Int) - 1).toNat by lia];exact B9
 ·have e:(k - 1)%((w:):Int)=k%(w:) - 1:=by
   rw[<-Int.emod_sub_emod,Qa7 () ()]
  rw[e]at B9
  refine Jx _ _ _ B9 ?_
  rw[show (k%((w:):Int) - 1).toNat+1=(k%((w:):Int)).toNat by lia]
  exact hk
theorem SW.Jx{y w:Z}(h:SW y w):EB w:=λk a b h1 h2=>by
 have hk:=(NU.mp h2).1
 have e1:=gU (w:=w) (k:=k) ()
 have e2:=gU (w:=w) (k:=k+1) hk
 rw[h1]at e1
 rw[h2]at e2
 rw[Qaj e1,Qaj e2]
 have:=h.red ((k+1:Nat):Int)
 rwa [show (((k+1:Nat):Int) - 1)=(k:Int) by lia]at this
theorem rK{w:Z}{n:Nat}(h:w≠[])(hn:n<=(w:))(k:Int):rd (w.drop n++w.take n) k=rd w (k+n):=by
 have q_:0<(w:):=YR.mpr h
 have hl:(w.drop n++w.take n:)=(w:):=by rw[U3,Qa0,Qas];lia
 have h1:=Qcf k (b:=((w:):Int)) ()
 have h2:=Qcc k (b:=((w:):Int)) ()
 have e:(k+n)%((w:):Int)=(k%(w:)+n)%(w:):=by rw[Qdt]
 generalize hr:k%((w:):Int)=r at h1 h2 e
 obtain ⟨m,rfl⟩:∃m:Nat,r=m:=⟨r.toNat,()⟩
 have hm:m<(w:):=by lia
 by_cases z:m+n<(w:)
 ·have hg:w[m+n]? =some (rd w (k+n)):=by
   have:=fN h (k+n)
   rwa [e,Qa7 () (),show ((m:Int)+n).toNat=m+n by lia]at this
  walk_at"9"
  rw[Qbi (by rw[Qa0];lia),Qcr,Qeo]
  exact hg
 ·have hg:w[m+n - (w:)]? =some (rd w (k+n)):=by
   have:=fN h (k+n)
   have e2:((m:Int)+n)%(w:)=((m+n - (w:):Nat):Int):=by
    have:(m:Int)+n=((m+n - (w:):Nat):Int)+(w:):=by lia
    rw[this,Qdi,Qa7 () ()]
   rwa [e,e2,YQ]at this
  walk_at"9"
  rw[Qb0 (by rw[Qa0];lia),Qa0,Qd3,if_pos (),show m - ((w:) - n)=m+n - (w:) by lia]
  exact hg
theorem SW.dA{y w:Z}{n:Nat}(h:SW y w)(hn:n<=(w:)):SW y (w.drop n++w.take n):=by
 refine ⟨λz=>h.ne ?_,λc hc=>?_,λk=>?_⟩
 ·have l0:(w.drop n++w.take n:)=0:=by rw[z];rfl
  rw[U3,Qa0,Qas]at l0
  exact Qca.mp ()
 ·exact h.bO c ((Qaf.mp hc).elim Qcu Qb4)
 ·rw[rK h.ne hn,rK h.ne hn,show k - 1+n=k+n - 1 by lia]
  exact h.red _
theorem SW.iI{y w:Z}(hy:Yd y)(h:SW y w):SW y (iI w):=by
 refine ⟨λz=>h.ne ?_,λc hc=>?_,λk=>?_⟩
 ·have:=cO w
  rw[z]at this
  exact Qca.mp this.symm
 ·obtain ⟨d,hd,rfl⟩:=Qam.mp (Qed.mp hc)
  exact hy.cl d (h.bO d hd)
 ·rw[oA h.ne,oA h.ne,show -1 - (k - 1)= -1 - k+1 by lia]
  intro q
  have l1:=hy.lt _ (h.rd (-1 - k))
  have l2:=hy.lt _ (h.rd (-1 - k+1))
  rw[aE l2]at q
  have:=h.red (-1 - k+1)
  rw[show -1 - k+1 - 1= -1 - k by lia]at this
  exact this q.symm
theorem mZ(n:Nat)(l:Z):jX (n+1) l=l++jX n l:=by unfold jX;rw[Qfr,Qcd]
theorem Cm(n:Nat)(l:Z):(jX n l:)=n*(l:):=by
 induction n with
 | zero=>simp[jX]
 | succ n ih=>rw[mZ,U3,ih,Qd6,Qeo]
theorem Cn{l:Z}:∀{n k:Nat},k<n*(l:)->(jX n l)[k]? =l[k%(l:)]?
 | 0,k,h=>by simp at h
 | n+1,k,h=>by
  rw[mZ]
  by_cases z:k<(l:)
  ·rw[Qbi z,Qbs z]
  ·rw[Qb0 (),Cn (by rw[Qd6]at h;lia),Qf0 (by lia:(l:)<=k)]
theorem Co{w:Z}{n:Nat}(h:w≠[])(hn:0<n)(k:Int):rd (jX n w) k=rd w k:=by
 have q_:0<(w:):=YR.mpr h
 have hl:=Cm n w
 have Za:0<n*(w:):=Nat.mul_pos hn q_
 have h1:=Qcf k (b:=((n*(w:):Nat):Int)) ()
 have h2:=Qcc k (b:=((n*(w:):Nat):Int)) ()
 have e:k%((w:):Int)=(k%((n*(w:):Nat):Int))%(w:):=(Qdu k (by rw[Qel];exact Int.dvd_mul_left _ _)).symm
 generalize hr:k%((n*(w:):Nat):Int)=r at h1 h2 e
 obtain ⟨m,rfl⟩:∃m:Nat,r=m:=⟨r.toNat,()⟩
 have hm:m<n*(w:):=by lia
 walk_at"9"
 rw[Cn hm]
 have:=fN h k
 rwa [e,show (((m:Int)%(w:)).toNat)=m%(w:) by rw[<-Qe3,YQ]]at this
theorem KP{w:Z}{n c:Nat}(h:c∈jX n w):c∈w:=by
 obtain ⟨l,hl,hc⟩:=Qee.mp h
 rwa [List.eq_of_mem_replicate hl]at hc
theorem SW.eQ{y w:Z}{n:Nat}(h:SW y w)(hn:0<n):SW y (jX n w):=by
 refine ⟨λz=>?_,λc hc=>h.bO c (KP hc),λk=>by rw[Co h.ne hn,Co h.ne hn];exact h.red k⟩
 have:=Cm n w
 rw[z]at this
 have h2:0<n*(w:):=Nat.mul_pos hn (YR.mpr h.ne)
 simp at this
 lia
theorem SW.twice{y w:Z}(h:SW y w):SW y (w++w):=by
 have:=h.eQ (n:=2) ∅
 rwa [show jX 2 w=w++w by rw[mZ,mZ];simp[jX]]at this
theorem SW.snoc{y w:Z}{c:Nat}(hy:Yd y)(Jx:EB w)(bO:∀a∈w,a∈y)(hc:c∈y)(h1:∀a,w.getLast? =some a->c≠ak a)(h2:∀a,w.head? =some a->c≠ak a):SW y (w++[c]):=by
 refine SW.of (by simp) (λa ha=>?_) (Jx.snoc h1) λa b ha hb=>?_
 ·rcases Qaf.mp ha with q | q
  ·exact bO a q
  ·rw[Qab.mp q];exact hc
 ·have eb:b=c:=by simpa using hb.symm
  subst eb
  cases w with
  | nil=>
   have:b=a:=by simpa using ha
   rw[<-this]
   exact λq=>dN (hy.lt b hc) q.symm
  | cons x r=>
   have:x=a:=by simpa using ha
   subst this
   have hx:x∈y:=bO x Qac
   intro q
   exact h2 x rfl (by rw[q,aE (hy.lt b hc)])
theorem wH{w:Z}(h:w≠[]):w.getLast? =some (rd w (-1)):=by
 have q_:0<(w:):=YR.mpr h
 have:=fN h (-1)
 have e:(-1:Int)%((w:):Int)=(w:) - 1:=by
  have e2:(-1:Int)=(((w:):Int) - 1)+(w:)*(-1):=by lia
  rw[e2,Qeu,Qa7 () ()]
 rw[e]at this
 rw[Qdy, show (w:) - 1=(((w:):Int) - 1).toNat by lia]
 exact this
theorem qv{w:Z}(h:w≠[]):w.head? =some (rd w 0):=by
 have:=fN h 0
 rw[Qff]
 simpa using this
theorem EC(w:Z):∃k,lQ w k:=by
 by_cases h:w=[]
 ·exact ⟨0,.inl ⟨h,rfl⟩⟩
 ·obtain ⟨k,_,_,t⟩:=rJ h
  exact ⟨k,t⟩
theorem b6.turn{w:Z}{s:Nat}(h:b6 w s):lQ w s:=by
 obtain ⟨k,t⟩:=EC w
 rw[kG h t];exact t
theorem b6.least{w:Z}{s j:Nat}(h:b6 w s)(j1:1<=j)(j2:j<s)(hp:zN w j):False:=by
 rcases h.turn with ⟨_,e⟩ | ⟨h1,h2,h3,h4⟩
 ·lia
 ·have hn:w≠[]:=λz=>by rw[z]at h2;simp at h2;lia
  exact h4 j j1 j2 ((h7 hn ()).mpr hp)
theorem SW.rdd{y w:Z}(hy:Yd y)(h:SW y w):lr w:=GJ λk a b ha hb e=>by
 have GY:b∈y:=h.bO b (Qai hb)
 have:=h.Jx k a b ha hb
 rw[e,aE (hy.lt b GY)]at this
 exact this rfl
theorem SW.core{y w:Z}(hy:Yd y)(h:SW y w):My.core (My.red w)=w:=by
 rw[gS (h.rdd hy)]
 by_cases z:(w:)<2
 ·exact gT z
 ·obtain ⟨a,m,e,hw⟩:=Cd (l:=w) ()
  have h0:=qv h.ne
  have h1:=wH h.ne
  have hr:=h.red 0
  rw[show (0:Int) - 1= -1 by lia]at hr
  rw[hw]at h0 h1 hr ⊢
  have e0:a=My.rd (a::(m++[e])) 0:=Qaj h0
  have e1:e=My.rd (a::(m++[e])) (-1):=by
   have:(a::(m++[e])).getLast? =some e:=by rw[<-Qdf,List.getLast?_append];rfl
   exact Qaj (this.symm.trans h1)
  exact gJ (by rw[<-e0, <-e1]at hr;exact hr)
theorem wI{w:Z}{k:Nat}(hk:k<=(w:))(i:Nat):Fw (dA w k) i=Fw w (i+k):=by
 by_cases z:w=[]
 ·subst z
  unfold Fw dA
  simp
 ·have hp:0<(w:):=YR.mpr z
  have e:Fw (dA w k) i=(dA w k)[i%(w:)]?:= by unfold Fw;rw[cD]
  rw[e,qu hk (Qdg _ hp),GP]
theorem Cp{w:Z}{k s:Nat}(hk:k<=(w:))(hn:w≠[]):zN (dA w k) s↔zN w s:=by
 constructor
 ·intro h i
  have h1:=h (i+((w:) - k))
  rw[wI hk,wI hk]at h1
  have e1:i+((w:) - k)+s+k=i+s+(w:):=by lia
  have e2:i+((w:) - k)+k=i+(w:):=by lia
  rw[e1,e2,zN.whole w,zN.whole w]at h1
  exact h1
 ·intro h i
  rw[wI hk,wI hk,show i+s+k=i+k+s by lia]
  exact h _
theorem vg{w:Z}(hn:w≠[]){s:Nat}(h:b6 w s):lQ w s:=by
 obtain ⟨k,r,_,g⟩:=rJ hn
 rw[kG h g]
 exact g
theorem GZ{w:Z}{k s:Nat}(hk:k<=(w:))(hn:w≠[])(h:lQ (dA w k) s):lQ w s:=by
 have vT:dA w k≠[]:=λz=>hn (Qca.mp (by have:=cD w k;rw[z]at this;exact this.symm))
 rcases h with ⟨z,_⟩ | ⟨h1,h2,h3,h4⟩
 ·exact absurd z vT
 ·rw[cD]at h2
  refine .inr ⟨h1,h2,(h7 hn h2).mpr ((Cp hk hn).mp ((h7 vT (by rw[cD];exact h2)).mp h3)),λj j1 j2 j3=>h4 j j1 j2 ?_⟩
  exact (h7 vT (by rw[cD];lia)).mpr ((Cp hk hn).mpr ((h7 hn ()).mp j3))
theorem ED{y w:Z}{s t:Nat}(hy:Yd y)(h:SW y w)(hr:b6 (aJ w) s)(hw:b6 w t):s=t/\(aJ w:)=(w:):=by
 have e:aJ w=cU w:=by unfold aJ;rw[h.core hy]
 obtain ⟨k,ek⟩:=vb w
 have Aq:∃k,k<=(w:)/\cU w=dA w k:=by
  by_cases z:k<=(w:)
  ·exact ⟨k,z,ek⟩
  ·refine ⟨(w:),YS _,?_⟩
   rw[ek]
   unfold dA
   rw[Qcm (),Qba (),List.drop_length,Qbg]
 obtain ⟨k,hk,ek⟩:=Aq
 rw[e,ek]at hr ⊢
 have vT:dA w k≠[]:=λz=>h.ne (Qca.mp (by have:=cD w k;rw[z]at this;exact this.symm))
 refine ⟨?_,cD w k⟩
 exact (kG hw (GZ hk h.ne (vg vT hr))).symm
theorem Cq{w:Z}(hn:w≠[]):∃s,b6 w s:=by
 obtain ⟨k,r,_,g⟩:=rJ hn
 rcases g with ⟨z,_⟩ | ⟨h1,h2,h3,h4⟩
 ·exact absurd z hn
 ·exact ⟨k,.inr ⟨h1,h2,vd hn h1 h2 h3 h4,λj j1 j2 j3=>h4 j j1 j2 (wF j1 () j3)⟩⟩
theorem G0{w:Z}{s t:Nat}(hn:w≠[])(h:b6 w s)(g:b6 w t):s=t:=kG h (vg hn g)
structure TH(y:Z)(ws:List Z):Prop where
 sw:∀w∈ws,SW y w/\(w:)<=12
 t_:(ws:)<=4
 all:(places ws:)<=24
theorem getD_in{ws:List Z}{c:Nat}(h:c<(ws:)):(ws|||c)∈ws:=by
 rw[Qaa,NT h];exact Qa1 h
def jY(_:Fr):Sp:=λvs H Q _=>∃(w:Z) (i:Nat),vs=[.str (S w),.int i]/\(∀c∈w,Lt c)/\(w:)<=1000/\i<(w:)/\∀q H',H q=none->H' q=some (.tup [.str (S [ak (rd w ((i:Int) - 1))]),.str (S [rd w i])])->aj H H'->Q (.ref q) H'
theorem p9{K:Fr}{vs:List V}{H:Hp}{Q:VK}{E:XK}(h:jY K vs H Q E):(vs:)=2:=by obtain ⟨_,_,rfl,_⟩:=h;rfl
def vh(_:Fr):Sp:=λvs H Q _=>∃(b:Addr) (y:Z) (top:Nat),vs=[.ref b,.str (S y),.int top]/\bM H b/\Yd y/\2<=(y:)/\(y:)<=8/\1<=top/\top<=100/\∀(w:Z) H',SW y w->(w:)<=top->bM H' b->aG b H H'->Q (.str (S w)) H'
theorem AN{K:Fr}{vs:List V}{H:Hp}{Q:VK}{E:XK}(h:vh K vs H Q E):(vs:)=3:=by obtain ⟨_,_,_,rfl,_⟩:=h;rfl
def yQ(_:Fr):Sp:=λvs H Q _=>∃(b:Addr) (y w:Z) (top:Nat),vs=[.ref b,.str (S y),.str (S w),.int top]/\bM H b/\Yd y/\2<=(y:)/\(y:)<=8/\1<=top/\top<=100/\SW y w/\(w:)<=top/\∀(u:Z) H',SW y u->(u:)<=top->bM H' b->aG b H H'->Q (.str (S u)) H'
theorem EE{K:Fr}{vs:List V}{H:Hp}{Q:VK}{E:XK}(h:yQ K vs H Q E):(vs:)=4:=by obtain ⟨_,_,_,_,rfl,_⟩:=h;rfl
theorem Cr{ws:List Z}{m:Nat}(h:∀w∈ws,(w:)<=m):∀n:Nat,n<=(ws:)->(uc ws n:)<=n*m
 | 0,_=>Qao _
 | n+1,hn=>by
  unfold uc
  have:=Cr h n ()
  have h2:=h _ (getD_in (ws:=ws) (c:=n) ())
  rw[U3,Qi,Qck,Qd6]
  lia
theorem G1{α:Type}(w:List α):cut w none (some (-1))=w.take ((w:) - 1):=by
 unfold cut
 rw[HT.mr,Ov]
 simp
structure Wd(y w:Z):Prop where
 Jx:EB w
 bO:∀c∈w,c∈y
theorem Wd.more{y w:Z}{c:Nat}(h:Wd y w)(hc:c∈y)(hn:w≠[]->c≠ak (rd w (-1))):Wd y (w++[c]):=
 ⟨h.Jx.snoc λa ha=>by
  have dk:w≠[]:=λz=>by rw[z]at ha;simp at ha
  rw[wH dk]at ha
  rw[<-Qaj ha]
  exact hn dk,λa ha=>by
  rcases Qaf.mp ha with g | g
  ·exact h.bO a g
  ·rw[Qab.mp g];exact hc⟩
theorem Wd.sw{y w:Z}(h:Wd y w)(dk:w≠[])(he:rd w 0≠ak (rd w (-1))):SW y w:=
 SW.of dk h.bO h.Jx λa b ha hb=>by
  rw[qv dk]at ha
  rw[wH dk]at hb
  rw[<-Qaj ha, <-Qaj hb]
  exact he
theorem Wd.one{y w:Z}(hy:Yd y)(h:Wd y w)(h1:(w:)=1):SW y w:=by
 have dk:w≠[]:=λz=>by rw[z]at h1;simp at h1
 refine h.sw dk ?_
 have e:rd w 0=rd w (-1):=by
  have:=gy w (-1)
  rw[h1]at this
  exact this
 rw[<-e]
 exact λq=>dN (hy.lt _ (h.bO _ (i9 dk 0))) q.symm
noncomputable def yR(y:Z)(a b:Nat):Int:=((y.idxOf b:Int) - (y.idxOf a:Int))%((y:):Int)
noncomputable def fD(y:Z)(f:Int->Nat)(k:Int):Int:=yR y (ak (f (k - 1))) (f k)
structure iX(y:Z)(f:Int->Nat):Prop where
 bO:∀k,f k∈y
 red:∀k,f k≠ak (f (k - 1))
structure Run(f g:Int->Nat)(a b:Nat):Prop where
 mh:∀k:Int, -(b:Int)<=k->k<=a->f k=g k
 hi:f (a+1)≠g (a+1)
 lo:f (-(b:Int) - 1)≠g (-(b:Int) - 1)
noncomputable def iQ(f:Int->Nat):Int->Nat:=λk=>ak (f (-k))
noncomputable def dB(f:Int->Nat):Int->Nat:=λk=>f (k - 1)
noncomputable def gX(y:Z)(f g:Int->Nat)(a:Nat):Bool:=decide (fD y f (a+1)<fD y g (a+1))
noncomputable def gM(y:Z)(f g:Int->Nat)(b:Nat):Bool:=decide (fD y f (-(b:Int))<fD y g (-(b:Int)))
noncomputable def xO(x a b:Nat):Bool:=decide (b<a\/(a=b/\az x=false))
noncomputable def AO(y:Z)(f g:Int->Nat)(a b:Nat):Bool:=if xO (f 0) a b=true then gM y f g b else gX y f g a
theorem Run.one{f g:Int->Nat}{a b a' b':Nat}(h:Run f g a b)(h':Run f g a' b'):a=a'/\b=b':=by
 constructor
 ·by_cases z:a<a'
  ·exact absurd (h'.mh (a+1) () ()) h.hi
  ·by_cases z2:a'<a
   ·exact absurd (h.mh (a'+1) () ()) h'.hi
   ·lia
 ·by_cases z:b<b'
  ·exact absurd (h'.mh (-(b:Int) - 1) () ()) h.lo
  ·by_cases z2:b'<b
   ·exact absurd (h.mh (-(b':Int) - 1) () ()) h'.lo
   ·lia
theorem Run.bk{f g:Int->Nat}{a b:Nat}(h:Run f g a (b+1)):Run (dB f) (dB g) (a+1) b:=
 ⟨λk h1 h2=>h.mh (k - 1) () (),λz=>h.hi (by
  unfold dB at z
  rwa [show ((a+1:Nat):Int)+1 - 1=a+1 by lia]at z),λz=>h.lo (by
  unfold dB at z
  rwa [show -(b:Int) - 1 - 1= -((b+1:Nat):Int) - 1 by lia]at z)⟩
theorem Run.fd{f g:Int->Nat}{a b:Nat}(h:Run (dB f) (dB g) (a+1) b):Run f g a (b+1):=
 ⟨λk h1 h2=>by
  have:=h.mh (k+1) () ()
  unfold dB at this
  rwa [show k+1 - 1=k by lia]at this,λz=>h.hi (by
  unfold dB
  rwa [show ((a+1:Nat):Int)+1 - 1=a+1 by lia]),λz=>h.lo (by
  unfold dB
  rwa [show -(b:Int) - 1 - 1= -((b+1:Nat):Int) - 1 by lia])⟩
theorem qw(y:Z)(f:Int->Nat)(k:Int):fD y (dB f) k=fD y f (k - 1):=rfl
theorem kI(y:Z)(f g:Int->Nat)(a:Nat):gX y (dB f) (dB g) (a+1)=gX y f g a:=by
 unfold gX
 rw[qw,qw,show ((a+1:Nat):Int)+1 - 1=a+1 by lia]
theorem ja(y:Z)(f g:Int->Nat)(b:Nat):gM y (dB f) (dB g) b=gM y f g (b+1):=by
 unfold gM
 rw[qw,qw,show -(b:Int) - 1= -((b+1:Nat):Int) by lia]
theorem G2{x z a b:Nat}(h:xO x a (b+1)=true):xO z (a+1) b=true:=by
 unfold xO at h ⊢
 have:=of_decide_eq_true h
 exact decide_eq_true ()
theorem fP{y:Z}{a b:Nat}(ha:a∈y)(hb:b∈y)(h:a≠b):0<yR y a b/\yR y a b<(y:)/\yR y b a=(y:) - yR y a b:=by
 have ia:=Qan ha
 have ib:=Qan hb
 have n:=cw ha hb h
 unfold yR
 rw[jV ia ib,jV ib ia]
 generalize y.idxOf a=i at*
 generalize y.idxOf b=j at*
 split<;>split<;>lia
theorem m3{y:Z}{a b c:Nat}(ha:a∈y)(hb:b∈y)(hc:c∈y)(h:yR y a b=yR y a c):b=c:=by
 have ia:=Qan ha
 have ib:=Qan hb
 have ic:=Qan hc
 refine Classical.byContradiction λz=>cw hb hc z ?_
 unfold yR at h
 rw[jV ia ib,jV ia ic]at h
 split at h<;>split at h<;>lia
theorem iX.rv{y:Z}{f:Int->Nat}(hy:Yd y)(h:iX y f):iX y (iQ f):=⟨λk=>hy.cl _ (h.bO _),λk z=>by
 unfold iQ at z
 have e:=aE (hy.lt _ (h.bO (-(k - 1))))
 rw[e]at z
 have:=h.red (-(k - 1))
 rw[show -(k - 1) - 1= -k by lia]at this
 exact this z.symm⟩
theorem m4{y:Z}{f:Int->Nat}(hy:Yd y)(h:iX y f):iQ (iQ f)=f:=by
 funext k
 unfold iQ
 rw[aE (hy.lt _ (h.bO _)),Int.neg_neg]
theorem gz{y:Z}{f:Int->Nat}(hy:Yd y)(h:iX y f)(k:Int):fD y (iQ f) (k+1)=(y:) - fD y f (-k):=by
 unfold fD iQ
 rw[show k+1 - 1=k by lia,aE (hy.lt _ (h.bO _)),show -(k+1)= -k - 1 by lia]
 exact (fP (hy.cl _ (h.bO _)) (h.bO _) (Ne.symm (h.red _))).2.2
theorem Run.rv{y:Z}{f g:Int->Nat}{a b:Nat}(hy:Yd y)(hf:iX y f)(hg:iX y g)(h:Run f g a b):Run (iQ f) (iQ g) b a:=
 ⟨λk h1 h2=>by unfold iQ;rw[h.mh _ () ()],λz=>h.lo (by
  unfold iQ at z
  have:=gH (hy.lt _ (hf.bO _)) (hy.lt _ (hg.bO _)) z
  rwa [show -((b:Int)+1)= -(b:Int) - 1 by lia]at this),λz=>h.hi (by
  unfold iQ at z
  have:=gH (hy.lt _ (hf.bO _)) (hy.lt _ (hg.bO _)) z
  rwa [show -(-(a:Int) - 1)=a+1 by lia]at this)⟩
theorem fq:∀c∈aW++i5,az (ak c)=!az c:=⋯
theorem OD{y:Z}{f g:Int->Nat}{a b:Nat}(hy:Yd y)(hf:iX y f)(hg:iX y g)(h0:f 0=g 0):AO y (iQ g) (iQ f) b a=AO y f g a b:=by
 have e1:gM y (iQ g) (iQ f) a=gX y f g a:=by
  unfold gM gX
  have h1:=gz hy hf (-(a:Int) - 1)
  have h2:=gz hy hg (-(a:Int) - 1)
  rw[show -(a:Int) - 1+1= -a by lia,show -(-(a:Int) - 1)=a+1 by lia]at h1 h2
  rw[h1,h2]
  exact decide_eq_decide.mpr ()
 have e2:gX y (iQ g) (iQ f) b=gM y f g b:=by
  unfold gM gX
  rw[gz hy hf,gz hy hg]
  exact decide_eq_decide.mpr ()
 unfold AO
 rw[e1,e2]
 have e3:xO (iQ g 0) b a=!xO (f 0) a b:=by
  unfold xO iQ
  rw[show (-0:Int)=0 from rfl, <-h0,fq _ (hy.lt _ (hf.bO 0)).mem]
  rw[<-decide_not]
  refine decide_eq_decide.mpr ?_
  cases az (f 0)
  ·simp;lia
  ·simp;lia
 rw[e3]
 cases xO (f 0) a b<;>rfl
def uB(y:Z)(f g:Int->Nat):Prop:=∃a b,Run f g a b/\xO (f 0) a b=true/\gX y f g a≠gM y f g b
def jE(y:Z)(f g:Int->Nat):Prop:=∃a,Run f g a 0/\gX y f g a≠gM y f g 0
open Classical in
noncomputable def one(p:Prop):Int:=if p then 1 else 0
theorem dG{p:Prop}(h:p):one p=1:=by unfold one;rw[if_pos h]
theorem aT{p:Prop}(h: ¬p):one p=0:=by unfold one;rw[if_neg h]
theorem bu{p q:Prop}(h:p↔q):one p=one q:=by rw[propext h]
theorem Run.zero{f g:Int->Nat}{a b:Nat}(h:Run f g a b):f 0=g 0:=h.mh 0 () ()
theorem G3{y:Z}{f g:Int->Nat}{e0 e1:Bool}{m:Prop}
  (r0:f 0=g 0->∃a b,Run f g a b) (r1:f (-1)=g (-1)->∃a b,Run (dB f) (dB g) a b)
  (h0:∀a b,Run f g a b->e0=AO y f g a b) (h1:∀a b,Run (dB f) (dB g) a b->e1=AO y (dB f) (dB g) a b)
  (ma:f 0=g 0->f (-1)≠g (-1)->(m↔e0≠gM y f g 0)) (mb:f (-1)=g (-1)->f 0≠g 0->(m↔e1≠gX y (dB f) (dB g) 0)) (mc:f (-1)=g (-1)->f 0=g 0->(m↔e1≠e0))
  (t:f 0=g 0\/f (-1)=g (-1)):one m=one (jE y f g)+one (uB y (dB f) (dB g)) - one (uB y f g):=by
 have hb:∀{a b},Run (dB f) (dB g) a b->f (-1)=g (-1):=λh=>h.zero
 by_cases z0:f 0=g 0
 ·obtain ⟨a,b,r⟩:=r0 z0
  have e:=h0 a b r
  unfold AO at e
  have hu:uB y f g↔(xO (f 0) a b=true/\gX y f g a≠gM y f g b):=⟨λ⟨a',b',r',x⟩=>by obtain ⟨rfl,rfl⟩:=r.one r';exact x,λx=>⟨a,b,r,x⟩⟩
  by_cases z1:f (-1)=g (-1)
  ·cases b with
   | zero=>exact absurd z1 r.lo
   | succ b=>
    have r2:=r.bk
    have e2:=h1 _ _ r2
    unfold AO at e2
    have OE:uB y (dB f) (dB g)↔(xO (dB f 0) (a+1) b=true/\gX y f g a≠gM y f g (b+1)):=⟨λ⟨a',b',r',x⟩=>by
     obtain ⟨rfl,rfl⟩:=r2.one r'
     rw[kI,ja]at x;exact x,λx=>⟨_,_,r2,by rw[kI,ja];exact x⟩⟩
    rw[kI,ja]at e2
    have KQ: ¬jE y f g:=λ⟨a',r',_⟩=>absurd (r.one r').2 (Qdv b)
    rw[aT KQ,bu hu,bu OE,bu (mc z1 z0),e,e2]
    have mono:= @G2 (f 0) (dB f 0) a b
    generalize xO (f 0) a (b+1)=B0 at*
    generalize xO (dB f 0) (a+1) b=B1 at*
    generalize gX y f g a=A at*
    generalize gM y f g (b+1)=C at*
    revert mono
    cases B0<;>cases B1<;>cases A<;>cases C<;>simp[one]
  ·have b0:b=0:=by
    cases b with
    | zero=>rfl
    | succ b=>exact absurd (r.mh (-1) () ()) z1
   subst b0
   have OE: ¬uB y (dB f) (dB g):=λ⟨_,_,r',_⟩=>z1 (hb r')
   have KQ:jE y f g↔gX y f g a≠gM y f g 0:=⟨λ⟨a',r',x⟩=>by obtain ⟨rfl,_⟩:=r.one r';exact x,λx=>⟨a,r,x⟩⟩
   rw[aT OE,bu KQ,bu hu,bu (ma z0 z1),e]
   generalize xO (f 0) a 0=B0 at*
   generalize gX y f g a=A at*
   generalize gM y f g 0=C at*
   cases B0<;>cases A<;>cases C<;>simp[one]
 ·have z1:=t.resolve_left z0
  obtain ⟨a,b,r⟩:=r1 z1
  have a0:a=0:=by
   cases a with
   | zero=>rfl
   | succ a=>exact absurd (r.fd.zero) z0
  subst a0
  have e:=h1 _ _ r
  unfold AO at e
  have hu0: ¬uB y f g:=λ⟨_,_,r',_⟩=>z0 r'.zero
  have KQ: ¬jE y f g:=λ⟨_,r',_⟩=>z0 r'.zero
  have OE:uB y (dB f) (dB g)↔(xO (dB f 0) 0 b=true/\gX y (dB f) (dB g) 0≠gM y (dB f) (dB g) b):=⟨λ⟨a',b',r',x⟩=>by
   obtain ⟨rfl,rfl⟩:=r.one r';exact x,λx=>⟨_,_,r,x⟩⟩
  rw[aT hu0,aT KQ,bu OE,bu (mb z1 z0),e]
  generalize xO (dB f 0) 0 b=B0 at*
  generalize gX y (dB f) (dB g) 0=A at*
  generalize gM y (dB f) (dB g) b=C at*
  cases B0<;>cases A<;>cases C<;>simp[one]
theorem dj{f g:Int->Nat}{p q:Nat}(hp:0<p)(hq:0<q)(Pf:∀k,f (k+p)=f k)(Pg:∀k,g (k+q)=g k)(h0:f 0=g 0)(hn:∃k,f k≠g k):∃a b,Run f g a b/\a<p+q/\b<p+q:=by
 obtain ⟨k0,Qr⟩:=hn
 have up:∃a:Nat,a<p+q/\(∀j:Nat,j<a->f (j+1)=g (j+1))/\f (a+1)≠g (a+1):=by
  obtain ⟨_,b,c,d⟩:=gW (λk=>f (k+1)) (λk=>g (k+1)) (p+q) 0
  by_cases z:kZ (λk=>f (k+1)) (λk=>g (k+1)) (p+q) 0<p+q
  ·exact ⟨_,z,λj hj=>c j (Qao _) hj,d ()⟩
  ·refine absurd ?_ Qr
   have:=fw (f:=λk=>f (k+1)) (g:=λk=>g (k+1)) hp hq (λk=>by rw[show k+(p:Int)+1=k+1+p by lia];exact Pf _) (λk=>by rw[show k+(q:Int)+1=k+1+q by lia];exact Pg _) (λn hn=>c n (Qao _) ()) (k0 - 1)
   rwa [show k0 - 1+1=k0 by lia]at this
 have Pf':∀k,f (-(k+p))=f (-k):=λk=>by have:=Pf (-(k+p));rw[<-this];congr 1;lia
 have Pg':∀k,g (-(k+q))=g (-k):=λk=>by have:=Pg (-(k+q));rw[<-this];congr 1;lia
 have dn:∃a:Nat,a<p+q/\(∀j:Nat,j<a->f (-(j:Int) - 1)=g (-(j:Int) - 1))/\f (-(a:Int) - 1)≠g (-(a:Int) - 1):=by
  obtain ⟨_,b,c,d⟩:=gW (λk=>f (-k - 1)) (λk=>g (-k - 1)) (p+q) 0
  by_cases z:kZ (λk=>f (-k - 1)) (λk=>g (-k - 1)) (p+q) 0<p+q
  ·exact ⟨_,z,λj hj=>c j (Qao _) hj,d ()⟩
  ·refine absurd ?_ Qr
   have:=fw (f:=λk=>f (-k - 1)) (g:=λk=>g (-k - 1)) hp hq (λk=>by have:=Pf' (k+1);rw[show -(k+(p:Int)) - 1= -(k+1+p) by lia,this];congr 1;lia) (λk=>by have:=Pg' (k+1);rw[show -(k+(q:Int)) - 1= -(k+1+q) by lia,this];congr 1;lia) (λn hn=>c n (Qao _) ()) (-k0 - 1)
   rwa [show -(-k0 - 1) - 1=k0 by lia]at this
 obtain ⟨a,ha,a1,a2⟩:=up
 obtain ⟨b,hb,b1,b2⟩:=dn
 refine ⟨a,b,⟨λk h1 h2=>?_,a2,b2⟩,ha,hb⟩
 by_cases z:k=0
 ·rw[z];exact h0
 ·by_cases z2:0<k
  ·obtain ⟨j,rfl⟩:∃j:Nat,k=j+1:=⟨(k - 1).toNat,()⟩
   exact a1 j ()
  ·obtain ⟨j,rfl⟩:∃j:Nat,k= -(j:Int) - 1:=⟨(-k - 1).toNat,()⟩
   exact b1 j ()
theorem G4{y:Z}{p p' x:Nat}(hy:Yd y)(hp:p∈y)(yS:p'∈y)(hx:x∈y)(h1:p≠p')(h2:p≠x)(h3:p'≠x):decide (yR y p x<yR y p' x)=!gr y p p' x:=by
 have ip:=Qan hp
 have ip':=Qan yS
 have ix:=Qan hx
 have n1:=cw hp yS h1
 have n2:=cw hp hx h2
 have n3:=cw yS hx h3
 rw[iw hy.nd hp yS hx h1 h2 h3]
 unfold yR
 rw[jV ip ix,jV ip' ix, <-decide_not]
 refine decide_eq_decide.mpr ?_
 unfold kY
 split<;>split<;>lia
theorem G5{y:Z}{f g:Int->Nat}(hy:Yd y)(hf:iX y f)(hg:iX y g)(h0:f 0=g 0)(h1:f (-1)≠g (-1)):gM y f g 0=!gr y (ak (f (-1))) (ak (g (-1))) (f 0):=by
 have e:gM y f g 0=decide (yR y (ak (f (-1))) (f 0)<yR y (ak (g (-1))) (g 0)):=rfl
 rw[e, <-h0]
 have r1:=hf.red 0
 have r2:=hg.red 0
 rw[show (0:Int) - 1= -1 by lia]at r1 r2
 exact G4 hy (hy.cl _ (hf.bO _)) (hy.cl _ (hg.bO _)) (hf.bO 0) (λz=>h1 (gH (hy.lt _ (hf.bO _)) (hy.lt _ (hg.bO _)) z)) (Ne.symm r1) (by rw[h0];exact Ne.symm r2)
theorem G6{y:Z}{f g:Int->Nat}{a:Nat}(h:f a=g a):gX y f g a=gr y (ak (f a)) (f (a+1)) (g (a+1)):=by
 unfold gX fD
 rw[show (a:Int)+1 - 1=a by lia, <-h]
 rfl
theorem rL{y:Z}{f g:Int->Nat}{n:Nat}(hy:Yd y)(hf:iX y f)(hg:iX y g)(hd:f (-1)≠g (-1)->kZ f g n 0<n/\f (kZ f g n 0)≠g (kZ f g n 0)):jE y f g↔0<al y f g n:=by
 unfold al
 by_cases z:f 0≠g 0\/f (-1)=g (-1)
 ·rw[if_pos z]
  refine ⟨λ⟨a,r,_⟩=>?_,λh=>absurd h (Qbu _)⟩
  rcases z with z | z
  ·exact absurd r.zero z
  ·exact absurd z r.lo
 ·rw[if_neg z]
  have z0:f 0=g 0:=Classical.byContradiction λq=>z (.inl q)
  have z1:f (-1)≠g (-1):=λq=>z (.inr q)
  obtain ⟨d1,d2⟩:=hd z1
  obtain ⟨_,_,d3,_⟩:=gW f g n 0
  generalize kZ f g n 0=D at*
  cases D with
  | zero=>exact absurd z0 d2
  | succ a=>
   have r:Run f g a 0:=⟨λk h1 h2=>by
    obtain ⟨j,rfl⟩:∃j:Nat,k=j:=⟨k.toNat,()⟩
    exact d3 j (Qao _) (),d2,z1⟩
   have e1:((a+1:Nat):Int)=(a:Int)+1:=by lia
   rw[e1,show (a:Int)+1 - 1=a by lia]
   have Vd:=d3 a (Qao _) (Qc2 a)
   have rf:=hf.red (a+1)
   have rg:=hg.red (a+1)
   rw[show (a:Int)+1 - 1=a by lia]at rf rg
   have d2':f (a+1)≠g (a+1):=d2
   have eg:=KL hy.nd (hy.cl _ (hf.bO a)) (hf.bO (a+1)) (hg.bO (a+1)) (Ne.symm rf) (by rw[Vd];exact Ne.symm rg) d2'
   rw[eg, <-G6 Vd]
   have eb:=G5 hy hf hg z0 z1
   have key:jE y f g↔gX y f g a≠gM y f g 0:=⟨λ⟨a',r',x⟩=>by obtain ⟨rfl,_⟩:=r.one r';exact x,λx=>⟨a,r,x⟩⟩
   rw[key,eb]
   generalize gr y (ak (f (-1))) (ak (g (-1))) (f 0)=G
   generalize gX y f g a=A
   cases G<;>cases A<;>simp
noncomputable def pH(a b a' b':Nat):Bool:=decide (kY a a' b) != decide (kY a b' b)
theorem jZ(a b a' b':Nat):pH a b a' b'=pH a b b' a':=by unfold pH;generalize decide (kY a a' b)=p;generalize decide (kY a b' b)=q;cases p<;>cases q<;>rfl
theorem m5(a b:Nat):pH a b a b=false:=by
 unfold pH
 have h1: ¬kY a a b:=by unfold kY;lia
 have h2: ¬kY a b b:=by unfold kY;lia
 rw[decide_eq_false h1,decide_eq_false h2]
 rfl
theorem cx{a b:Nat}(h:a≠b):decide (b<a)=!decide (a<b):=by
 rcases Qcq h with q | q
 ·rw[decide_eq_true q,decide_eq_false (Qen q)];rfl
 ·rw[decide_eq_true q,decide_eq_false (Qen q)];rfl
theorem ME{a b c:Nat}(h1:a≠b)(h2:b≠c)(h3:a≠c):decide (kY a b c)=!(decide (a<b) ^^ (decide (b<c) ^^ decide (c<a))):=by
 have e:decide (kY a b c)=((decide (a<b)&&decide (b<c))||((decide (b<c)&&decide (c<a))||(decide (c<a)&&decide (a<b)))):=by
  rw[<-Qgf, <-Qgf, <-Qgf, <-Bool.decide_or, <-Bool.decide_or]
  exact decide_eq_decide.mpr Iff.rfl
 rw[e]
 have k1:decide (a<b)=true->decide (b<c)=true->decide (c<a)=true->False:=λp q r=>Qen (Qcy (of_decide_eq_true p) (of_decide_eq_true q)) (of_decide_eq_true r)
 have k2:decide (b<a)=true->decide (c<b)=true->decide (a<c)=true->False:=λp q r=>Qen (Qcy (of_decide_eq_true q) (of_decide_eq_true p)) (of_decide_eq_true r)
 rw[cx h1,cx h2,cx (Ne.symm h3)]at k2
 revert k1 k2
 generalize decide (a<b)=p
 generalize decide (b<c)=q
 generalize decide (c<a)=r
 revert p q r
 decide
theorem vm{a b a' b':Nat}(h1:a≠b)(h3:a≠a')(h4:a≠b')(h5:b≠a')(h6:b≠b'):pH a b a' b'=((decide (a<a') ^^ decide (a'<b)) ^^ (decide (a<b') ^^ decide (b'<b))):=by
 unfold pH
 rw[ME h3 (Ne.symm h5) h1,ME h4 (Ne.symm h6) h1]
 generalize decide (a<a')=p
 generalize decide (a'<b)=q
 generalize decide (a<b')=r
 generalize decide (b'<b)=s
 generalize decide (b<a)=t
 revert p q r s t
 decide
theorem m6{a b a' b':Nat}(h1:a≠b)(h2:a'≠b')(h3:a≠a')(h4:a≠b')(h5:b≠a')(h6:b≠b'):pH a b a' b'=pH a' b' a b:=by
 rw[vm h1 h3 h4 h5 h6,vm h2 (Ne.symm h3) (Ne.symm h5) (Ne.symm h4) (Ne.symm h6),cx h3,cx (Ne.symm h6)]
 generalize decide (a<a')=p
 generalize decide (a'<b)=q
 generalize decide (a<b')=r
 generalize decide (b'<b)=s
 revert p q r s
 decide
theorem yT{a b a' b':Nat}(h1:a≠b)(h2:a'≠b')(h3:a≠a')(h4:a≠b')(h5:b≠a')(h6:b≠b'):pH b a a' b'=pH a b a' b':=by
 rw[m6 (Ne.symm h1) h2 h5 h6 h3 h4,jZ,m6 h2 h1 (Ne.symm h3) (Ne.symm h5) (Ne.symm h4) (Ne.symm h6)]
theorem KR{a b c i j k:Nat}(n1:i≠j)(n2:i≠k)(n3:j≠k)(h1:i<j->a<b)(h2:j<i->b<a)(h3:i<k->a<c)(h4:k<i->c<a)(h5:j<k->b<c)(h6:k<j->c<b):kY a b c↔kY i j k:=by
 have e:∀{i j a b:Nat},i≠j->(i<j->a<b)->(j<i->b<a)->(i<j↔a<b):=λ{i j a b} n f g=>⟨f,λq=>(Qcq n).elim id λr=>absurd (g r) (Qen q)⟩
 unfold kY
 rw[e n1 h1 h2,e n3 h5 h6,e (Ne.symm n2) h4 h3]
def Sep(y:Z)(ps:List (Nat×Nat)):Prop:=∀p∈ps,∀q∈ps,y.idxOf p.1<y.idxOf q.1->p.2<q.2
theorem Sep.kY{y:Z}{ps:List (Nat×Nat)}(h:Sep y ps){a b c:Nat×Nat}(ha:a∈ps)(hb:b∈ps)(hc:c∈ps)(n1:y.idxOf a.1≠y.idxOf b.1)(n2:y.idxOf a.1≠y.idxOf c.1)(n3:y.idxOf b.1≠y.idxOf c.1):My.kY a.2 b.2 c.2↔My.kY (y.idxOf a.1) (y.idxOf b.1) (y.idxOf c.1):=KR n1 n2 n3 (h a ha b hb) (h b hb a ha) (h a ha c hc) (h c hc a ha) (h b hb c hc) (h c hc b hb)
theorem Sep.gr{y:Z}{ps:List (Nat×Nat)}(h:Sep y ps)(hn:y.Nodup){a b c:Nat×Nat}(ha:a∈ps)(hb:b∈ps)(hc:c∈ps)(ya:a.1∈y)(yb:b.1∈y)(yc:c.1∈y)(n1:a.1≠b.1)(n2:a.1≠c.1)(n3:b.1≠c.1):decide (My.kY a.2 b.2 c.2)=My.gr y a.1 b.1 c.1:=by
 rw[iw hn ya yb yc n1 n2 n3]
 exact decide_eq_decide.mpr (h.kY ha hb hc (cw ya yb n1) (cw ya yc n2) (cw yb yc n3))
theorem Sep.same{y:Z}{ps:List (Nat×Nat)}(h:Sep y ps){a b c:Nat×Nat}(ha:a∈ps)(hb:b∈ps)(hc:c∈ps)(e:b.1=c.1)(n:y.idxOf a.1≠y.idxOf c.1):My.kY a.2 b.2 c.2↔b.2<c.2:=by
 have h1:=h a ha b hb
 have h2:=h b hb a ha
 have h3:=h a ha c hc
 have h4:=h c hc a ha
 rw[e]at h1 h2
 unfold My.kY
 lia
theorem Sep.MF{y:Z}{ps:List (Nat×Nat)}(h:Sep y ps){a b c:Nat×Nat}(ha:a∈ps)(hb:b∈ps)(hc:c∈ps)(e:a.1=b.1)(n:y.idxOf a.1≠y.idxOf c.1):My.kY a.2 b.2 c.2↔a.2<b.2:=by
 have h1:=h b hb c hc
 have h2:=h c hc b hb
 have h3:=h a ha c hc
 have h4:=h c hc a ha
 rw[<-e]at h1 h2
 unfold My.kY
 lia
section
variable{y:Z}{f g:Int->Nat}{a b a' b':Nat}
theorem G7(hy:Yd y)(hf:iX y f)(hg:iX y g)(h:Sep y [(ak (f (-1)),a),(f 0,b),(ak (g (-1)),a'),(g 0,b')])(hb:b≠b')(z0:f 0=g 0)(z1:f (-1)≠g (-1)):pH a b a' b'=true↔decide (b<b')≠gM y f g 0:=by
 have r1:=hf.red 0
 have r2:=hg.red 0
 rw[show (0:Int) - 1= -1 by lia]at r1 r2
 have ya:=hy.cl _ (hf.bO (-1))
 have Ve:=hy.cl _ (hg.bO (-1))
 have n1:ak (f (-1))≠ak (g (-1)):=λz=>z1 (gH (hy.lt _ (hf.bO _)) (hy.lt _ (hg.bO _)) z)
 have e1:=h.gr hy.nd (a:=(ak (f (-1)),a)) (b:=(ak (g (-1)),a')) (c:=(f 0,b)) (by simp) (by simp) (by simp) ya Ve (hf.bO 0) n1 (Ne.symm r1) (by rw[z0];exact Ne.symm r2)
 walk_at"Q"
 unfold pH
 rw[G5 hy hf hg z0 z1]
 simp only at e1 e2
 rw[e1]
 generalize gr y (ak (f (-1))) (ak (g (-1))) (f 0)=G
 by_cases q:b<b'
 ·rw[decide_eq_true q,decide_eq_false (by rw[e2];lia)]
  cases G<;>simp
 ·rw[decide_eq_false q,decide_eq_true (by rw[e2];lia)]
  cases G<;>simp
theorem G8(hy:Yd y)(hf:iX y f)(hg:iX y g)(h:Sep y [(ak (f (-1)),a),(f 0,b),(ak (g (-1)),a'),(g 0,b')])(ha:a≠a')(z1:f (-1)=g (-1))(z0:f 0≠g 0):pH a b a' b'=true↔decide (a'<a)≠gX y (dB f) (dB g) 0:=by
 have r1:=hf.red 0
 have r2:=hg.red 0
 rw[show (0:Int) - 1= -1 by lia]at r1 r2
 have ya:=hy.cl _ (hf.bO (-1))
 have Ve:=hy.cl _ (hg.bO (-1))
 walk_at"F"
 have e2:=h.gr hy.nd (a:=(ak (f (-1)),a)) (b:=(g 0,b')) (c:=(f 0,b)) (by simp) (by simp) (by simp) ya (hg.bO 0) (hf.bO 0) (by show ak _≠_;rw[z1];exact Ne.symm r2) (Ne.symm r1) (Ne.symm z0)
 have e3:gX y (dB f) (dB g) 0=gr y (ak (f (-1))) (f 0) (g 0):=G6 (f:=dB f) (g:=dB g) (a:=0) z1
 have e4:=Oy hy.nd ya (hf.bO 0) (hg.bO 0) (Ne.symm r1) (by rw[z1];exact Ne.symm r2) z0
 unfold pH
 simp only at e1 e2
 rw[e3,e2,e4]
 generalize gr y (ak (f (-1))) (f 0) (g 0)=G
 by_cases q:a'<a
 ·rw[decide_eq_true q,decide_eq_false (by rw[e1];lia)]
  cases G<;>simp
 ·rw[decide_eq_false q,decide_eq_true (by rw[e1];lia)]
  cases G<;>simp
theorem oE(hy:Yd y)(hf:iX y f)(hg:iX y g)(h:Sep y [(ak (f (-1)),a),(f 0,b),(ak (g (-1)),a'),(g 0,b')])(ha:a≠a')(hb:b≠b')(z1:f (-1)=g (-1))(z0:f 0=g 0):pH a b a' b'=true↔decide (a'<a)≠decide (b<b'):=by
 have r1:=hf.red 0
 rw[show (0:Int) - 1= -1 by lia]at r1
 have ya:=hy.cl _ (hf.bO (-1))
 walk_at"F"
 walk_at"Q"
 unfold pH
 simp only at e1 e2
 rw[decide_eq_decide.mpr e1,decide_eq_decide.mpr e2]
 by_cases q:a'<a<;>by_cases q2:b<b'
 ·rw[decide_eq_true q,decide_eq_true q2,decide_eq_false (show ¬a<a' by lia),decide_eq_false (show ¬b'<b by lia)];simp
 ·rw[decide_eq_true q,decide_eq_false q2,decide_eq_false (show ¬a<a' by lia),decide_eq_true (show b'<b by lia)];simp
 ·rw[decide_eq_false q,decide_eq_true q2,decide_eq_true (show a<a' by lia),decide_eq_false (show ¬b'<b by lia)];simp
 ·rw[decide_eq_false q,decide_eq_false q2,decide_eq_true (show a<a' by lia),decide_eq_true (show b'<b by lia)];simp
theorem OF(hy:Yd y)(hf:iX y f)(hg:iX y g)(h:Sep y [(ak (f (-1)),a),(f 0,b),(ak (g (-1)),a'),(g 0,b')])(z0:f 0≠g 0)(z1:f (-1)≠g (-1))(z2:ak (f (-1))≠g 0)(z3:ak (g (-1))≠f 0):pH a b a' b'=ac y (ak (f (-1))) (f 0) (ak (g (-1))) (g 0):=by
 have r1:=hf.red 0
 have r2:=hg.red 0
 rw[show (0:Int) - 1= -1 by lia]at r1 r2
 have ya:=hy.cl _ (hf.bO (-1))
 have Ve:=hy.cl _ (hg.bO (-1))
 have n1:ak (f (-1))≠ak (g (-1)):=λz=>z1 (gH (hy.lt _ (hf.bO _)) (hy.lt _ (hg.bO _)) z)
 have e1:=h.gr hy.nd (a:=(ak (f (-1)),a)) (b:=(ak (g (-1)),a')) (c:=(f 0,b)) (by simp) (by simp) (by simp) ya Ve (hf.bO 0) n1 (Ne.symm r1) z3
 have e2:=h.gr hy.nd (a:=(ak (f (-1)),a)) (b:=(g 0,b')) (c:=(f 0,b)) (by simp) (by simp) (by simp) ya (hg.bO 0) (hf.bO 0) z2 (Ne.symm r1) (Ne.symm z0)
 unfold pH ac
 simp only at e1 e2
 rw[e1,e2,if_neg (λq=>q.elim (λq=>n1 q.symm) λq=>q.elim z3 λq=>q.elim (λq=>z2 q.symm) λq=>z0 q.symm)]
end
noncomputable def sm:Nat->(Int->Int)->Int
 | 0,_=>0
 | n+1,h=>sm n h+h n
theorem aI{h g:Int->Int}:∀{n:Nat},(∀i:Nat,i<n->h i=g i)->sm n h=sm n g
 | 0,_=>rfl
 | n+1,e=>by
  show sm n h+h n=sm n g+g n
  rw[aI λi hi=>e i (),e n ()]
theorem j4(h g:Int->Int):∀n:Nat,sm n (λi=>h i+g i)=sm n h+sm n g
 | 0=>rfl
 | n+1=>by
  show sm n _+(h n+g n)=(sm n h+h n)+(sm n g+g n)
  rw[j4 h g n];lia
theorem AQ(h g:Int->Int):∀n:Nat,sm n (λi=>h i - g i)=sm n h - sm n g
 | 0=>rfl
 | n+1=>by
  show sm n _+(h n - g n)=(sm n h+h n) - (sm n g+g n)
  rw[AQ h g n];lia
theorem dH:∀n:Nat,sm n (λ_=>0)=0
 | 0=>rfl
 | n+1=>by show sm n _+0=0;rw[dH n];rfl
theorem Cs(h:Int->Int):∀n:Nat,sm n (λi=>h (i - 1))+h ((n:Int) - 1)=sm n h+h (-1)
 | 0=>rfl
 | n+1=>by
  have:=Cs h n
  show sm n _+h ((n:Int) - 1)+h (((n+1:Nat):Int) - 1)=(sm n h+h n)+h (-1)
  rw[show ((n+1:Nat):Int) - 1=n by lia]
  lia
theorem rM{h:Int->Int}{n:Nat}(P:∀k,h (k+n)=h k):sm n (λi=>h (i - 1))=sm n h:=by
 have h1:=Cs h n
 have h2:=P (-1)
 rw[show (-1:Int)+n=(n:Int) - 1 by lia]at h2
 lia
theorem Ct(h:Int->Int):∀n:Nat,sm n (λi=>h ((n:Int) - 1 - i))=sm n h
 | 0=>rfl
 | n+1=>by
  have e:∀(m:Nat) (g:Int->Int),sm (m+1) g=g 0+sm m (λi=>g (i+1)):=λm=>by
   induction m with
   | zero=>intro g;show (0:Int)+g 0=g 0+0;lia
   | succ m ih=>intro g;show sm (m+1) g+g ((m+1:Nat):Int)=g 0+(sm m (λi=>g (i+1))+g ((m:Int)+1));rw[ih];rw[show ((m+1:Nat):Int)=(m:Int)+1 by lia];lia
  rw[e]
  have:=Ct h n
  show h (((n+1:Nat):Int) - 1 - 0)+sm n (λi=>h (((n+1:Nat):Int) - 1 - (i+1)))=sm n h+h n
  rw[show ((n+1:Nat):Int) - 1 - 0=n by lia, <-this,Int.add_comm]
  congr 1
  exact aI λi _=>by congr 1;lia
theorem wJ{h:Int->Int}{n:Nat}(P:∀k,h (k+n)=h k):sm n (λi=>h (i+1))=sm n h:=by
 have:=rM (h:=λi=>h (i+1)) (n:=n) (λk=>by show h (k+n+1)=h (k+1);rw[<-P (k+1)];congr 1;lia)
 rw[<-this]
 exact aI λi _=>by show h ((i:Int) - 1+1)=h i;congr 1;lia
theorem AR{h:Int->Int}{n:Nat}(P:∀k,h (k+n)=h k):sm n (λi=>h (-i))=sm n h:=by
 rw[<-Ct (λi=>h (-i)) n, <-wJ P]
 exact aI λi _=>by
  show h (-((n:Int) - 1 - i))=h (i+1)
  rw[<-P (-((n:Int) - 1 - i))];congr 1;lia
theorem OG{h:Int->Int}{n:Nat}(P:∀k,h (k+n)=h k):sm n (λi=>h (1 - i))=sm n h:=by
 rw[<-wJ P, <-AR (h:=λi=>h (i+1)) (λk=>by show h (k+n+1)=h (k+1);rw[<-P (k+1)];congr 1;lia)]
 exact aI λi _=>by show h (1 - (i:Int))=h (-(i:Int)+1);congr 1;lia
noncomputable def bH(n m:Nat)(h:Int->Int->Int):Int:=sm n λi=>sm m λj=>h i j
theorem br{n m:Nat}{h g:Int->Int->Int}(e:∀i j:Nat,i<n->j<m->h i j=g i j):bH n m h=bH n m g:=aI λi hi=>aI λj hj=>e i j hi hj
theorem cb(n m:Nat)(h g:Int->Int->Int):bH n m (λi j=>h i j+g i j)=bH n m h+bH n m g:=by
 unfold bH
 rw[<-j4]
 exact aI λi _=>j4 _ _ _
theorem KS(n m:Nat)(h g:Int->Int->Int):bH n m (λi j=>h i j - g i j)=bH n m h - bH n m g:=by
 unfold bH
 rw[<-AQ]
 exact aI λi _=>AQ _ _ _
theorem oF{n m:Nat}{h:Int->Int->Int}(P:∀i j,h (i+n) j=h i j)(Q:∀i j,h i (j+m)=h i j):bH n m (λi j=>h (i - 1) (j - 1))=bH n m h:=by
 unfold bH
 have e:∀i:Int,sm m (λj=>h i (j - 1))=sm m (h i):=λi=>rM (Q i)
 rw[<-rM (h:=λi=>sm m λj=>h i j) (n:=n) (λk=>aI λj _=>P k j)]
 exact aI λi _=>e _
structure MG(y:Z)(n:Nat)(F:Int->Int->Nat)(o i:Int->Nat):Prop where
 pos:0<n
 ud:∀k,iX y (F k)
 bk:∀k,dB (F k)=F (k - 1)
 OH:∀k,F (k+n)=F k
 own:∀k x,F k (x+n)=F k x
 op:∀k,o (k+n)=o k
 ip:∀k,i (k+n)=i k
structure MH(y:Z)(F:Int->Int->Nat)(o i:Int->Nat)(G:Int->Int->Nat)(o' i':Int->Nat):Prop where
 sep:∀s t,Sep y [(ak (F s (-1)),i (s - 1)),(F s 0,o s),(ak (G t (-1)),i' (t - 1)),(G t 0,o' t)]
 on:∀s t a b,Run (F s) (G t) a b->o s≠o' t/\i s≠i' t/\decide (o s<o' t)=AO y (F s) (G t) a b/\decide (i' t<i s)=AO y (F s) (G t) a b
def yU(F G:Int->Int->Nat)(s t:Int):Prop:=F s 0=G t 0\/F s (-1)=G t (-1)
def par(F G:Int->Int->Nat)(s t:Int):Prop:=∀k,F s k=G t k
noncomputable def yV(o i o' i':Int->Nat)(s t:Int):Bool:=pH (i (s - 1)) (o s) (i' (t - 1)) (o' t)
theorem wK{y:Z}{n m:Nat}{F G:Int->Int->Nat}{o i o' i':Int->Nat}(hF:MG y n F o i)(hG:MG y m G o' i'){s t:Int}:par F G (s - 1) (t - 1)↔par F G s t:=by
 unfold par
 rw[<-hF.bk, <-hG.bk]
 unfold dB
 exact ⟨λh k=>by have:=h (k+1);rwa [show k+1 - 1=k by lia]at this,λh k=>h _⟩
theorem Cu{y:Z}{n m:Nat}{F G:Int->Int->Nat}{o i o' i':Int->Nat}(hy:Yd y)(hF:MG y n F o i)(hG:MG y m G o' i')(h:MH y F o i G o' i'):
  bH n m (λs t=>one (yU F G s t/\yV o i o' i' s t=true/\ ¬par F G s t))=bH n m λs t=>one (jE y (F s) (G t)):=by
 have pt:∀s t:Int,one (yU F G s t/\yV o i o' i' s t=true/\ ¬par F G s t)=one (jE y (F s) (G t))+one (uB y (F (s - 1)) (G (t - 1))) - one (uB y (F s) (G t)):=λs t=>by
  by_cases hp:par F G s t
  ·have nr:∀{a b}, ¬Run (F s) (G t) a b:=λr=>r.hi (hp _)
   have yS:=(wK hF hG).mpr hp
   have Xl:∀{a b}, ¬Run (F (s - 1)) (G (t - 1)) a b:=λr=>r.hi (yS _)
   rw[aT (λz=>z.2.2 hp),aT (λ⟨_,r,_⟩=>nr r),aT (λ⟨_,_,r,_⟩=>Xl r),aT (λ⟨_,_,r,_⟩=>nr r)]
   rfl
  ·by_cases ht:yU F G s t
   ·have dk:∃k,F s k≠G t k:=Classical.byContradiction λz=>hp λk=>Classical.byContradiction λq=>z ⟨k,q⟩
    have G9:∃k,F (s - 1) k≠G (t - 1) k:=Classical.byContradiction λz=>hp ((wK hF hG).mp λk=>Classical.byContradiction λq=>z ⟨k,q⟩)
    have e1:∀s,F (s - 1) 0=F s (-1):=λs=>by rw[<-hF.bk];rfl
    have e2:∀t,G (t - 1) 0=G t (-1):=λs=>by rw[<-hG.bk];rfl
    have ei:one (yU F G s t/\yV o i o' i' s t=true/\ ¬par F G s t)=one (yV o i o' i' s t=true):=bu ⟨λz=>z.2.1,λz=>⟨ht,z,hp⟩⟩
    rw[ei, <-hF.bk, <-hG.bk]
    refine G3 (e0:=decide (o s<o' t)) (e1:=decide (i' (t - 1)<i (s - 1))) (λz=>?_) (λz=>?_) (λa b r=>(h.on s t a b r).2.2.1) (λa b r=>?_) (λz0 z1=>?_) (λz1 z0=>?_) (λz1 z0=>?_) ht
    ·obtain ⟨a,b,r,_⟩:=dj hF.pos hG.pos (hF.own s) (hG.own t) z dk
     exact ⟨a,b,r⟩
    ·obtain ⟨a,b,r,_⟩:=dj hF.pos hG.pos (hF.own (s - 1)) (hG.own (t - 1)) (by rw[e1,e2];exact z) G9
     rw[hF.bk,hG.bk]
     exact ⟨a,b,r⟩
    ·rw[hF.bk,hG.bk]at r ⊢
     exact (h.on _ _ a b r).2.2.2
    ·obtain ⟨a,b,r,_⟩:=dj hF.pos hG.pos (hF.own s) (hG.own t) z0 dk
     exact G7 hy (hF.ud s) (hG.ud t) (h.sep s t) (h.on s t a b r).1 z0 z1
    ·obtain ⟨a,b,r,_⟩:=dj hF.pos hG.pos (hF.own (s - 1)) (hG.own (t - 1)) (by rw[e1,e2];exact z1) G9
     exact G8 hy (hF.ud s) (hG.ud t) (h.sep s t) (h.on _ _ a b r).2.1 z1 z0
    ·obtain ⟨a,b,r,_⟩:=dj hF.pos hG.pos (hF.own s) (hG.own t) z0 dk
     obtain ⟨a2,b2,r2,_⟩:=dj hF.pos hG.pos (hF.own (s - 1)) (hG.own (t - 1)) (by rw[e1,e2];exact z1) G9
     exact oE hy (hF.ud s) (hG.ud t) (h.sep s t) (h.on _ _ a2 b2 r2).2.1 (h.on s t a b r).1 z1 z0
   ·have t0:F s 0≠G t 0:=λz=>ht (.inl z)
    have t1:F (s - 1) 0≠G (t - 1) 0:=by
     rw[<-hF.bk, <-hG.bk]
     exact λz=>ht (.inr z)
    rw[aT (λz=>ht z.1),aT (λ⟨_,r,_⟩=>t0 r.zero),aT (λ⟨_,_,r,_⟩=>t1 r.zero),aT (λ⟨_,_,r,_⟩=>t0 r.zero)]
    rfl
 have e:bH n m (λs t=>one (yU F G s t/\yV o i o' i' s t=true/\ ¬par F G s t))=bH n m (λs t=>(one (jE y (F s) (G t))+one (uB y (F (s - 1)) (G (t - 1)))) - one (uB y (F s) (G t))):=br λs t _ _=>pt s t
 rw[e,KS,cb,oF (h:=λs t=>one (uB y (F s) (G t))) (λs t=>by rw[hF.OH]) (λs t=>by rw[hG.OH])]
 lia
theorem a_{y w:Z}(h:SW y w)(i:Int):iX y (sq w i):=⟨λk=>h.rd _,λk=>by
 unfold sq
 have:=h.red (i+k)
 rwa [show i+k - 1=i+(k - 1) by lia]at this⟩
theorem ft(w:Z)(i:Int):iQ (sq w i)=bq w i:=by
 funext k
 unfold iQ sq bq
 rw[show i+ -k=i - k by lia]
theorem iy{y w:Z}(hy:Yd y)(h:SW y w)(i:Int):iX y (bq w i):=by rw[<-ft];exact (a_ h i).rv hy
theorem rN(w:Z)(i:Int):sq w (i+(w:))=sq w i:=by
 funext k
 unfold sq
 rw[show i+((w:):Int)+k=i+k+(w:) by lia,gy]
theorem oG(w:Z)(i:Int):bq w (i+(w:))=bq w i:=by rw[<-ft, <-ft,rN]
theorem OI(w:Z)(i:Int):bq w (i - (w:))=bq w i:=by rw[<-oG w (i - (w:))];congr 1;lia
theorem oH{y w:Z}{po pi:Int->Nat}(h:SW y w)(P:∀k,po (k+(w:))=po k)(Q:∀k,pi (k+(w:))=pi k):MG y (w:) (sq w) po pi:=
 ⟨YR.mpr h.ne,a_ h,λk=>by funext x;unfold dB sq;congr 1;lia,rN w,λk x=>cR w k x,P,Q⟩
theorem Cv{n:Nat}{h:Int->Nat}(P:∀k,h (k+n)=h k)(k:Int):h (-(k+n))=h (-k):=by rw[<-P (-(k+n))];congr 1;lia
theorem G_{y w:Z}{po pi:Int->Nat}(hy:Yd y)(h:SW y w)(P:∀k,po (k+(w:))=po k)(Q:∀k,pi (k+(w:))=pi k):MG y (w:) (λk=>bq w (-k)) (λk=>pi (-k)) (λk=>po (-k)):=
 ⟨YR.mpr h.ne,λk=>iy hy h _,λk=>by funext x;unfold dB bq;congr 2;lia,λk=>by
  show bq w (-(k+(w:)))=bq w (-k)
  rw[<-oG w (-(k+(w:)))];congr 1;lia,λk x=>oz w _ x,Cv Q,Cv P⟩
section
variable{y w v:Z}{po pi qo qi:Int->Nat}
noncomputable def eA(po pi qo qi:Int->Nat)(i j:Int):Bool:=pH (pi (i - 1)) (po i) (qi (j - 1)) (qo j)
def bJ(w v:Z)(i j:Int):Prop:=∀k,sq w i k=sq v j k
def jA(w v:Z)(i j:Int):Prop:=∀k,sq w i k=bq v (j - 1) k
def Qs(w v:Z)(i j:Int):Prop:=rd w i=rd v j\/rd w (i - 1)=rd v (j - 1)
def AS(w v:Z)(i j:Int):Prop:=rd w i=ak (rd v (j - 1))\/rd w (i - 1)=ak (rd v j)
theorem KU(w v:Z)(i j:Int):yU (sq w) (sq v) i j↔Qs w v i j:=by
 unfold yU Qs sq
 rw[show i+0=i by lia,show j+0=j by lia]
 rfl
theorem KW(w v:Z)(i k:Int):yU (sq w) (λk=>bq v (-k)) i k↔AS w v i (1 - k):=by
 unfold yU AS sq bq
 show rd w (i+0)=ak (rd v (-k - 0))\/rd w (i+ -1)=ak (rd v (-k - -1))↔_
 rw[show i+0=i by lia,show -k - 0=1 - k - 1 by lia,show -k - -1=1 - k by lia]
 rfl
theorem Xm(hy:Yd y)(hw:SW y w)(hv:SW y v){i j:Int}(h:Qs w v i j)(g:AS w v i j):False:=by
 have yg:=hw.red i
 have Zb:=hv.red j
 have l1:=hy.lt _ (hw.rd (i - 1))
 have l2:=hy.lt _ (hv.rd (j - 1))
 have l3:=hy.lt _ (hv.rd j)
 rcases h with h | h<;>rcases g with g | g
 ·exact Zb (h.symm.trans g)
 ·rw[<-h]at g;exact yg (by rw[g,aE (hy.lt _ (hw.rd i))])
 ·rw[<-h]at g;exact yg g
 ·rw[h]at g;exact Zb (by rw[g,aE l3])
theorem Cw(hy:Yd y)(hw:SW y w)(hv:SW y v):bH (w:) (v:) (λs t=>one (jE y (sq w s) (sq v t)))=bH (w:) (v:) (λi j=>one (0<al y (sq w i) (sq v j) ((w:)+(v:)))):=br λi j _ _=>bu (rL hy (a_ hw _) (a_ hv _) λz=>gL hw.ne hv.ne (λk=>cR w i k) (λk=>cR v j k) z)
theorem Cy(hy:Yd y)(hw:SW y w)(hv:SW y v):bH (w:) (v:) (λs t=>one (jE y (sq w s) (bq v (-t))))=bH (w:) (v:) (λi j=>one (0<al y (sq w i) (bq v j) ((w:)+(v:)))):=by
 have:bH (w:) (v:) (λs t=>one (jE y (sq w s) (bq v (-t))))=bH (w:) (v:) (λs t=>one (jE y (sq w s) (bq v t))):=aI λi _=>AR (h:=λt=>one (jE y (sq w i) (bq v t))) λk=>by rw[oG]
 rw[this]
 exact br λi j _ _=>bu (rL hy (a_ hw _) (iy hy hv _) λz=>gL hw.ne hv.ne (λk=>cR w i k) (λk=>oz v j k) z)
theorem Cz(Q1:∀k,qo (k+(v:))=qo k)(Q2:∀k,qi (k+(v:))=qi k):bH (w:) (v:) (λs t=>one (yU (sq w) (λk=>bq v (-k)) s t/\yV po pi (λk=>qi (-k)) (λk=>qo (-k)) s t=true/\ ¬par (sq w) (λk=>bq v (-k)) s t))=bH (w:) (v:) (λi j=>one (AS w v i j/\eA po pi qo qi i j=true/\ ¬jA w v i j)):=by
 have P:∀i:Int,∀k:Int,(λj=>one (AS w v i j/\eA po pi qo qi i j=true/\ ¬jA w v i j)) (k+(v:))=(λj=>one (AS w v i j/\eA po pi qo qi i j=true/\ ¬jA w v i j)) k:=λi k=>by
  show one (AS w v i (k+(v:))/\eA po pi qo qi i (k+(v:))=true/\ ¬jA w v i (k+(v:)))=_
  unfold AS eA jA
  rw[show k+((v:):Int) - 1=k - 1+(v:) by lia,gy,gy,Q1,Q2,oG]
 refine aI λi _=>(aI λk _=>?_).trans (OG (P i))
 refine bu ?_
 rw[KW]
 have ec:yV po pi (λk=>qi (-k)) (λk=>qo (-k)) i k=eA po pi qo qi i (1 - k):=by
  unfold yV eA
  rw[jZ]
  show pH (pi ((i:Int) - 1)) (po i) (qi (-(k:Int))) (qo (-((k:Int) - 1)))=_
  rw[show -((k:Int) - 1)=1 - k by lia,show (1:Int) - k - 1= -k by lia]
 have ep:par (sq w) (λk=>bq v (-k)) i k↔jA w v i (1 - k):=by
  unfold par jA
  rw[show (1:Int) - k - 1= -k by lia]
 rw[ec,ep]
theorem rO(hy:Yd y)(hw:SW y w)(hv:SW y v)(sep:∀s t,Sep y [(ak (sq w s (-1)),pi (s - 1)),(sq w s 0,po s),(ak (sq v t (-1)),qi (t - 1)),(sq v t 0,qo t)]):
  bH (w:) (v:) (λi j=>one (eA po pi qo qi i j=true))=
   bH (w:) (v:) (λi j=>one (ac y (ak (rd w (i - 1))) (rd w i) (ak (rd v (j - 1))) (rd v j)=true))+bH (w:) (v:) (λi j=>one (yU (sq w) (sq v) i j/\yV po pi qo qi i j=true/\ ¬par (sq w) (sq v) i j))+bH (w:) (v:) (λi j=>one (AS w v i j/\eA po pi qo qi i j=true/\ ¬jA w v i j))
   +bH (w:) (v:) (λi j=>one (bJ w v i j/\eA po pi qo qi i j=true))+bH (w:) (v:) (λi j=>one (jA w v i j/\eA po pi qo qi i j=true)):=by
 rw[<-cb, <-cb, <-cb, <-cb]
 refine br λi j _ _=>?_
 have hc:yV po pi qo qi i j=eA po pi qo qi i j:=rfl
 have et:=KU w v i j
 have pS:bJ w v i j->Qs w v i j:=λz=> .inl (by have:=z 0;unfold sq at this;rwa [show (i:Int)+0=i by lia,show (j:Int)+0=j by lia]at this)
 have pO:jA w v i j->AS w v i j:=λz=> .inl (by have:=z 0;unfold sq bq at this;rwa [show (i:Int)+0=i by lia,show (j:Int) - 1 - 0=j - 1 by lia]at this)
 have acS:Qs w v i j-> ¬ac y (ak (rd w (i - 1))) (rd w i) (ak (rd v (j - 1))) (rd v j)=true:=λz=>by
  unfold ac
  rw[if_pos (z.elim (λz=> .inr (.inr (.inr z.symm))) λz=> .inl (by rw[z]))]
  decide
 have acO:AS w v i j-> ¬ac y (ak (rd w (i - 1))) (rd w i) (ak (rd v (j - 1))) (rd v j)=true:=λz=>by
  unfold ac
  rw[if_pos (z.elim (λz=> .inr (.inl z.symm)) λz=> .inr (.inr (.inl (by rw[z,aE (hy.lt _ (hv.rd _))]))))]
  decide
 have ep:par (sq w) (sq v) i j↔bJ w v i j:=Iff.rfl
 by_cases tS:Qs w v i j
 ·have nO: ¬AS w v i j:=λz=>Xm hy hw hv tS z
  rw[aT (acS tS),aT (p:=AS w v i j/\_) (λz=>nO z.1),aT (p:=jA w v i j/\_) (λz=>nO (pO z.1))]
  by_cases c:eA po pi qo qi i j=true
  ·by_cases q:bJ w v i j
   ·rw[dG c,aT (λz=>z.2.2 q),dG ⟨q,c⟩];rfl
   ·rw[dG c,dG ⟨et.mpr tS,c,q⟩,aT (λz=>q z.1)];rfl
  ·rw[aT c,aT (λz=>c z.2.1),aT (λz=>c z.2)];rfl
 ·rw[aT (p:=yU _ _ _ _/\_) (λz=>tS (et.mp z.1)),aT (p:=bJ w v i j/\_) (λz=>tS (pS z.1))]
  by_cases tO:AS w v i j
  ·rw[aT (acO tO)]
   by_cases c:eA po pi qo qi i j=true
   ·by_cases q:jA w v i j
    ·rw[dG c,aT (λz=>z.2.2 q),dG ⟨q,c⟩];rfl
    ·rw[dG c,dG ⟨tO,c,q⟩,aT (λz=>q z.1)];rfl
   ·rw[aT c,aT (λz=>c z.2.1),aT (λz=>c z.2)];rfl
  ·rw[aT (p:=AS w v i j/\_) (λz=>tO z.1),aT (p:=jA w v i j/\_) (λz=>tO (pO z.1))]
   have l2:=hy.lt _ (hv.rd (j - 1))
   have l3:=hy.lt _ (hv.rd j)
   have l1:=hy.lt _ (hw.rd (i - 1))
   have f0:∀(u:Z) (i:Int),sq u i 0=rd u i:=λu i=>by unfold sq;rw[show i+0=i by lia]
   have f1:∀(u:Z) (i:Int),sq u i (-1)=rd u (i - 1):=λu i=>rfl
   have e:=OF hy (a_ hw i) (a_ hv j) (sep i j) (λz=>tS (.inl (by rw[f0,f0]at z;exact z))) (λz=>tS (.inr z)) (λz=>tO (.inr (by rw[f0,f1]at z;rw[<-z,aE l1]))) (λz=>tO (.inl (by rw[f0,f1]at z;exact z.symm)))
   rw[f0,f0,f1,f1]at e
   have e':eA po pi qo qi i j=ac y (ak (rd w (i - 1))) (rd w i) (ak (rd v (j - 1))) (rd v j):=e
   rw[e']
   lia
theorem yW(hy:Yd y)(hw:SW y w)(hv:SW y v)(P1:∀k,po (k+(w:))=po k)(P2:∀k,pi (k+(w:))=pi k)(Q1:∀k,qo (k+(v:))=qo k)(Q2:∀k,qi (k+(v:))=qi k)
  (hS:MH y (sq w) po pi (sq v) qo qi) (hO:MH y (sq w) po pi (λk=>bq v (-k)) (λk=>qi (-k)) (λk=>qo (-k))):
  bH (w:) (v:) (λi j=>one (eA po pi qo qi i j=true))=
   bH (w:) (v:) (λi j=>one (ac y (ak (rd w (i - 1))) (rd w i) (ak (rd v (j - 1))) (rd v j)=true))+bH (w:) (v:) (λi j=>one (0<al y (sq w i) (sq v j) ((w:)+(v:))))+bH (w:) (v:) (λi j=>one (0<al y (sq w i) (bq v j) ((w:)+(v:))))
   +bH (w:) (v:) (λi j=>one (bJ w v i j/\eA po pi qo qi i j=true))+bH (w:) (v:) (λi j=>one (jA w v i j/\eA po pi qo qi i j=true)):=by
 have s1:=Cu hy (oH hw P1 P2) (oH hv Q1 Q2) hS
 have s2:=Cu hy (oH hw P1 P2) (G_ hy hv Q1 Q2) hO
 rw[Cw hy hw hv]at s1
 rw[Cy hy hw hv,Cz Q1 Q2]at s2
 rw[rO hy hw hv hS.sep,s1,s2]
theorem KY(hy:Yd y)(hw:SW y w)(hv:SW y v)(hS:MH y (sq w) po pi (sq v) qo qi)(D:Bool)
  (h:∀i j,bJ w v i j->po i≠qo j/\pi i≠qi j/\decide (po i<qo j)=D/\decide (qi j<pi i)=D):bH (w:) (v:) (λi j=>one (bJ w v i j/\eA po pi qo qi i j=true))=0:=by
 have:∀i j:Int, ¬(bJ w v i j/\eA po pi qo qi i j=true):=λi j ⟨p,c⟩=>by
  have p1:bJ w v (i - 1) (j - 1):=λk=>by
   have:=p (k - 1)
   unfold sq at this ⊢
   rw[show i - 1+k=i+(k - 1) by lia,show j - 1+k=j+(k - 1) by lia]
   exact this
  have h0:=h i j p
  have h1:=h _ _ p1
  have:=(oE hy (a_ hw i) (a_ hv j) (hS.sep i j) h1.2.1 h0.1 (p (-1)) (p 0)).mp c
  exact this (h1.2.2.2.trans h0.2.2.1.symm)
 walk_at"N"
 exact br λi j _ _=>aT (this i j)
theorem KZ(hy:Yd y)(hw:SW y w)(hv:SW y v)(hO:MH y (sq w) po pi (λk=>bq v (-k)) (λk=>qi (-k)) (λk=>qo (-k)))(D:Bool)
  (h:∀i j,(∀k,sq w i k=bq v j k)->po i≠qi j/\pi i≠qo j/\decide (po i<qi j)=D/\decide (qo j<pi i)=D):bH (w:) (v:) (λi j=>one (jA w v i j/\eA po pi qo qi i j=true))=0:=by
 have:∀i j:Int, ¬(jA w v i j/\eA po pi qo qi i j=true):=λi j ⟨p,c⟩=>by
  have p1:∀k,sq w (i - 1) k=bq v j k:=λk=>by
   have:=p (k - 1)
   unfold sq bq at this ⊢
   rw[show i - 1+k=i+(k - 1) by lia,this]
   congr 2;lia
  have h0:=h i (j - 1) p
  have h1:=h _ _ p1
  have s:=hO.sep i (1 - j)
  simp only[show -(1 - j)=j - 1 by lia,show -(1 - j - 1)=j by lia]at s
  unfold eA at c
  rw[jZ]at c
  have:=(oE hy (a_ hw i) (iy hy hv (j - 1)) s h1.2.1 h0.1 (p (-1)) (p 0)).mp c
  exact this (h1.2.2.2.trans h0.2.2.1.symm)
 walk_at"N"
 exact br λi j _ _=>aT (this i j)
theorem wL(hy:Yd y)(hw:SW y w)(i j:Int): ¬ ∀k,sq w i k=bq w j k:=λh=>by
 unfold sq bq at h
 rcases (show (j - i)%2=0\/(j - i)%2=1 by lia) with z | z
 ·have:=h ((j - i) / 2)
  rw[show i+(j - i) / 2=j - (j - i) / 2 by lia]at this
  exact dN (hy.lt _ (hw.rd _)) this.symm
 ·have:=h ((j - i) / 2+1)
  rw[show j - ((j - i) / 2+1)=i+((j - i) / 2+1) - 1 by lia]at this
  exact hw.red _ this
theorem rP(h:Int->Int)(n:Nat):∀m:Nat,sm (n+m) h=sm n h+sm m (λi=>h (n+i))
 | 0=>by show sm n h=sm n h+0;lia
 | m+1=>by
  show sm (n+m) h+h ((n+m:Nat):Int)=sm n h+(sm m (λi=>h (n+i))+h (n+m))
  rw[rP h n m,show ((n+m:Nat):Int)=(n:Int)+m by lia]
  lia
theorem j5{h:Int->Int}:∀{s:Nat},0<s->(∀i:Nat,0<i->i<s->h i=0)->sm s h=h 0
 | 0,h0,_=>absurd h0 (Qbu _)
 | 1,_,_=>by show (0:Int)+h 0=h 0;lia
 | s+2,_,g=>by
  show sm (s+1) h+h ((s+1:Nat):Int)=h 0
  rw[j5 (s:=s+1) () (λi h1 h2=>g i h1 ()),g (s+1) () ()]
  lia
theorem CA{h:Int->Int}{s:Nat}(hs:0<s)(g:∀i:Nat,h i=if i%s=0 then 1 else 0):∀k:Nat,sm (k*s) h=k
 | 0=>by rw[Nat.zero_mul];rfl
 | k+1=>by
  rw[Qd6,rP,CA hs g k,j5 hs]
  ·have:=g (k*s)
   rw[if_pos (Nat.mul_mod_left k s)]at this
   show (k:Int)+h (((k*s:Nat):Int)+0)=((k+1:Nat):Int)
   rw[Qes,this]
   lia
  ·intro i h1 h2
   have:=g (k*s+i)
   rw[if_neg (by rw[Qc9,Nat.mul_add_mod,Qbs h2];lia)]at this
   rw[<-this]
   congr 1
theorem Ha(hy:Yd y)(hw:SW y w)(hS:MH y (sq w) po pi (sq w) po pi){s k:Nat}(hs:0<s)(hn:(w:)=k*s)(hk:0<k)(hr:∀j:Nat,j<(w:)->(bJ w w 0 j↔j%s=0))
  (h:∀i j:Int,bJ w w i j->i%(w:)≠j%(w:)->po i≠po j/\pi i≠pi j/\decide (po i<po j)=decide (i%(w:)<j%(w:))/\decide (pi j<pi i)=decide (i%(w:)<j%(w:))):
  bH (w:) (w:) (λi j=>one (bJ w w i j/\eA po pi po pi i j=true))=2*((k:Int) - 1):=by
 have pt:∀i j:Nat,i<(w:)->j<(w:)->one (bJ w w i j/\eA po pi po pi i j=true)=(if i=0 then one (j≠0/\bJ w w 0 j) else 0)+(if j=0 then one (i≠0/\bJ w w 0 i) else 0):=λi j hi hj=>by
  have sym:bJ w w 0 i↔bJ w w i 0:=⟨λq k=>(q k).symm,λq k=>(q k).symm⟩
  by_cases e:i=j
  ·subst e
   rw[aT (λq=>by have:=q.2;unfold eA at this;rw[m5]at this;cases this)]
   by_cases z:i=0
   ·rw[if_pos z,aT (λq=>q.1 z)];rfl
   ·rw[if_neg z];rfl
  ·have key:bJ w w i j->(eA po pi po pi i j=true↔(i=0\/j=0)):=λp=>by
    have p1:bJ w w ((i:Int) - 1) ((j:Int) - 1):=λk=>by
     have:=p (k - 1)
     unfold sq at this ⊢
     rw[show (i:Int) - 1+k=i+(k - 1) by lia,show (j:Int) - 1+k=j+(k - 1) by lia]
     exact this
    have m0:∀i:Nat,i<(w:)->(i:Int)%(w:)=i:=λi hi=>Qa7 () ()
    have m1:∀i:Nat,i<(w:)->((i:Int) - 1)%(w:)=if i=0 then ((w:):Int) - 1 else i - 1:=λi hi=>by
     split
     ·rename_i z
      rw[<-Qdi,Qa7 () ()];lia
     ·exact Qa7 () ()
    have h0:=h i j p (by rw[m0 i hi,m0 j hj];lia)
    have h1:=h _ _ p1 (by rw[m1 i hi,m1 j hj];split<;>split<;>lia)
    have c:=oE hy (a_ hw i) (a_ hw j) (hS.sep i j) h1.2.1 h0.1 (p (-1)) (p 0)
    rw[h0.2.2.1,h1.2.2.2,m0 i hi,m0 j hj,m1 i hi,m1 j hj]at c
    have c':eA po pi po pi i j=true↔_:=c
    rw[c',Ne,decide_eq_decide]
    split<;>split<;>lia
   by_cases z:i=0
   ·have j0:j≠0:=λq=>e (z.trans q.symm)
    rw[if_pos z,if_neg j0]
    rw[z]at key ⊢
    have:one (bJ w w ((0:Nat):Int) j/\eA po pi po pi ((0:Nat):Int) j=true)=one (j≠0/\bJ w w 0 j):=bu ⟨λq=>⟨j0,q.1⟩,λq=>⟨q.2,(key q.2).mpr (.inl rfl)⟩⟩
    rw[this];lia
   ·rw[if_neg z]
    by_cases j0:j=0
    ·rw[if_pos j0]
     rw[j0]at key ⊢
     have:one (bJ w w i ((0:Nat):Int)/\eA po pi po pi i ((0:Nat):Int)=true)=one (i≠0/\bJ w w 0 i):=bu ⟨λq=>⟨z,sym.mpr q.1⟩,λq=>⟨sym.mp q.2,(key (sym.mp q.2)).mpr (.inr rfl)⟩⟩
     rw[this];lia
    ·rw[if_neg j0,aT (λq=>by rcases (key q.1).mp q.2 with q | q<;>contradiction)];rfl
 have cnt:sm (w:) (λj=>one (j≠0/\bJ w w 0 j))=(k:Int) - 1:=by
  have e1:sm (w:) (λj=>one (bJ w w 0 j))=k:=by
   have:sm (w:) (λj=>one (bJ w w 0 j))=sm (w:) (λj=>if j.toNat%s=0 then 1 else 0):=aI λj hj=>by
    rw[bu (hr j hj),YQ]
    by_cases z:j%s=0
    ·rw[dG z,if_pos z]
    ·rw[aT z,if_neg z]
   rw[this,hn]
   exact CA hs (λi=>by rw[YQ]) k
  have e2:sm (w:) (λj=>one (bJ w w 0 j))=sm (w:) (λj=>one (j≠0/\bJ w w 0 j))+sm (w:) (λj=>if j=0 then 1 else 0):=by
   rw[<-j4]
   refine aI λj hj=>?_
   by_cases z:j=0
   ·subst z
    rw[dG (show bJ w w 0 ((0:Nat):Int) from λk=>rfl),aT (λq=>q.1 rfl)];rfl
   ·rw[if_neg (),Qes]
    exact bu ⟨λq=>⟨(),q⟩,λq=>q.2⟩
  have e3:sm (w:) (λj=>if j=0 then (1:Int) else 0)=1:=by
   rw[j5 (YR.mpr hw.ne) (λi h1 _=>by rw[if_neg ()]),if_pos rfl]
  lia
 have lp:0<(w:):=YR.mpr hw.ne
 have e:bH (w:) (w:) (λi j=>one (bJ w w i j/\eA po pi po pi i j=true))=bH (w:) (w:) (λi j=>(if i=0 then one (j≠0/\bJ w w 0 j) else 0)+(if j=0 then one (i≠0/\bJ w w 0 i) else 0)):=br λi j hi hj=>by
  rw[pt i j hi hj]
  congr 1
  ·by_cases z:i=0
   ·rw[if_pos z,if_pos ()]
    exact bu ⟨λq=>⟨(),q.2⟩,λq=>⟨(),q.2⟩⟩
   ·rw[if_neg z,if_neg ()]
  ·by_cases z:j=0
   ·rw[if_pos z,if_pos ()]
    exact bu ⟨λq=>⟨(),q.2⟩,λq=>⟨(),q.2⟩⟩
   ·rw[if_neg z,if_neg ()]
 rw[e,cb]
 have a1:bH (w:) (w:) (λi j=>if i=0 then one (j≠0/\bJ w w 0 j) else 0)=(k:Int) - 1:=by
  unfold bH
  rw[j5 lp]
  ·rw[<-cnt]
   exact aI λj _=>if_pos rfl
  ·intro i h1 _
   refine Eq.trans (aI (g:=λ_=>0) λj _=>?_) (dH _)
   have: ¬((i:Int)=0):=by lia
   exact if_neg this
 have a2:bH (w:) (w:) (λi j=>if j=0 then one (i≠0/\bJ w w 0 i) else 0)=(k:Int) - 1:=by
  unfold bH
  rw[<-cnt]
  refine aI λi _=>?_
  have:∀j:Nat,0<j-> ¬((j:Int)=0):=λj h=>by lia
  rw[j5 lp (λj h1 _=>if_neg (this j h1))]
  exact if_pos rfl
 lia
end
noncomputable def kk(y:Z)(f:Int->Nat):Nat->Nat->List Int
 | _,0=>[]
 | k,n+1=>fD y f (k+1)::fD y f (-(k:Int))::kk y f (k+1) n
theorem gm:∀(l r t:List Int),cg (l++r) (l++t)=cg r t
 | [],_,_=>rfl
 | a::l,r,t=>by
  show (if a=a then cg (l++r) (l++t) else _)=_
  rw[if_pos rfl,gm l r t]
theorem oI{y:Z}{f g:Int->Nat}{a b:Nat}(hy:Yd y)(hf:iX y f)(hg:iX y g)(h:Run f g a b)(r t:List Int):∀(n k:Nat),k<=a->k<=b->a<k+n->b<k+n->cg (kk y f k n++r) (kk y g k n++t)=if a<=b then gX y f g a else gM y f g b
 | 0,k,h1,_,h3,_=>by lia
 | n+1,k,h1,h2,h3,h4=>by
  show (if fD y f (k+1)=fD y g (k+1) then (if fD y f (-(k:Int))=fD y g (-(k:Int)) then cg (kk y f (k+1) n++r) (kk y g (k+1) n++t) else decide (fD y f (-(k:Int))<fD y g (-(k:Int)))) else decide (fD y f (k+1)<fD y g (k+1)))=_
  have e0:=h.mh k () ()
  have e1:=h.mh (-(k:Int)) () ()
  by_cases z:k=a
  ·subst z
   rw[if_neg (λq=>h.hi (by
    unfold fD at q
    rw[show (k:Int)+1 - 1=k by lia, <-e0]at q
    exact m3 (hy.cl _ (hf.bO _)) (hf.bO _) (hg.bO _) q)),if_pos h2]
   rfl
  ·have e2:=h.mh (k+1) () ()
   rw[if_pos (by unfold fD;rw[show (k:Int)+1 - 1=k by lia,e0,e2])]
   by_cases z2:k=b
   ·subst z2
    rw[if_neg (λq=>h.lo (by
     unfold fD at q
     rw[<-e1]at q
     have r1:=hf.red (-(k:Int))
     have r2:=hg.red (-(k:Int))
     have c1:=(fP (hy.cl _ (hf.bO (-(k:Int) - 1))) (hf.bO (-(k:Int))) (Ne.symm r1)).2.2
     have c2:=(fP (hy.cl _ (hg.bO (-(k:Int) - 1))) (hf.bO (-(k:Int))) (by rw[e1];exact Ne.symm r2)).2.2
     have:=m3 (hf.bO (-(k:Int))) (hy.cl _ (hf.bO (-(k:Int) - 1))) (hy.cl _ (hg.bO (-(k:Int) - 1))) (by rw[c1,c2,q])
     exact gH (hy.lt _ (hf.bO _)) (hy.lt _ (hg.bO _)) this)),if_neg ()]
    rfl
   ·have e3:=h.mh (-(k:Int) - 1) () ()
    rw[if_pos (by unfold fD;rw[e1,e3])]
    exact oI hy hf hg h r t n (k+1) () () () ()
noncomputable def nM(w:Z)(i:Int):Int->Nat:=if az (rd w i)=true then sq w i else bq w i
noncomputable def Jy(n r:Nat)(l low:Bool)(c i:Nat):List Int:=if low=l then [(c:Int),(((if low=true then i else n - 1 - i) / r:Nat):Int)] else [-(c:Int), -(((if low=true then n - 1 - i else i) / r:Nat):Int)]
noncomputable def fu(y:Z)(ws:List Z)(L:Nat->Bool)(r:Nat->Nat)(M c i:Nat):List Int:=kk y (nM (ws|||c) i) 0 M++Jy ((ws|||c):) (r c) (L c) (az (rd (ws|||c) i)) c i
def Dl(w:Z)(i:Int)(f:Int->Nat):Prop:=f=sq w i\/f=bq w i
theorem wM{y w:Z}{i:Int}{f:Int->Nat}(hy:Yd y)(hw:SW y w)(h:Dl w i f):nM w i=if az (f 0)=true then f else iQ f:=by
 have s0:sq w i 0=rd w i:=by unfold sq;rw[show i+0=i by lia]
 have b0:bq w i 0=ak (rd w i):=by unfold bq;rw[show i - 0=i by lia]
 have lc:=fq _ (hy.lt _ (hw.rd i)).mem
 unfold nM
 rcases h with rfl | rfl
 ·rw[s0,ft]
 ·rw[b0,lc, <-ft,m4 hy (a_ hw i)]
  cases az (rd w i)<;>rfl
theorem Dl.ud{y w:Z}{i:Int}{f:Int->Nat}(hy:Yd y)(hw:SW y w)(h:Dl w i f):iX y f:=by
 rcases h with rfl | rfl
 ·exact a_ hw i
 ·exact iy hy hw i
theorem Run.sy{f g:Int->Nat}{a b:Nat}(h:Run f g a b):Run g f a b:=⟨λk h1 h2=>(h.mh k h1 h2).symm,Ne.symm h.hi,Ne.symm h.lo⟩
section
variable{y:Z}{ws:List Z}{L:Nat->Bool}{r:Nat->Nat}{M:Nat}{N:Nat->Nat->Nat->Nat}
structure dQ(y:Z)(ws:List Z)(R:Nat->Nat->Nat->Nat->Bool)(N:Nat->Nat->Nat->Nat):Prop where
 sep:∀c i d j e e',c<(ws:)->d<(ws:)->i<((ws|||c):)->j<((ws|||d):)->(e=rd (ws|||c) i\/e=ak (rd (ws|||c) i))->(e'=rd (ws|||d) j\/e'=ak (rd (ws|||d) j))->y.idxOf e<y.idxOf e'->N c i e<N d j e'
 low:∀c i d j x,c<(ws:)->d<(ws:)->i<((ws|||c):)->j<((ws|||d):)->(c,i)≠(d,j)->az x=true->(rd (ws|||c) i=x\/rd (ws|||c) i=ak x)->(rd (ws|||d) j=x\/rd (ws|||d) j=ak x)->
  N c i x≠N d j x/\N c i (ak x)≠N d j (ak x)/\decide (N c i x<N d j x)=R c i d j/\decide (N d j (ak x)<N c i (ak x))=R c i d j
abbrev Lies(y:Z)(ws:List Z)(L:Nat->Bool)(r:Nat->Nat)(M:Nat)(N:Nat->Nat->Nat->Nat):Prop:=dQ y ws (λc i d j=>cg (fu y ws L r M c i) (fu y ws L r M d j)) N
theorem dQ.at{R:Nat->Nat->Nat->Nat->Bool}(hy:Yd y)(hN:dQ y ws R N){c i d j:Nat}{f g:Int->Nat}(hc:c<(ws:))(hd:d<(ws:))(hi:i<((ws|||c):))(hj:j<((ws|||d):))(hw:SW y (ws|||c))(hv:SW y (ws|||d))
  (hf:Dl (ws|||c) i f) (hg:Dl (ws|||d) j g) (h0:f 0=g 0) (dk:(c,i)≠(d,j)):
  N c i (f 0)≠N d j (f 0)/\N c i (ak (f 0))≠N d j (ak (f 0))/\decide (N c i (f 0)<N d j (f 0))=(if az (f 0)=true then R c i d j else R d j c i)/\decide (N d j (ak (f 0))<N c i (ak (f 0)))=(if az (f 0)=true then R c i d j else R d j c i):=by
 walk_at"c"
 walk_at"k"
 have ly:Lt (f 0):=hy.lt _ ((hf.ud hy hw).bO 0)
 have Qf:=aE ly
 have ef:rd (ws|||c) i=f 0\/rd (ws|||c) i=ak (f 0):=by
  rcases hf with rfl | rfl
  ·exact .inl (s0 _ _).symm
  ·exact .inr (by rw[b0,aE (hy.lt _ (hw.rd _))])
 have eg:rd (ws|||d) j=f 0\/rd (ws|||d) j=ak (f 0):=by
  rw[h0]
  rcases hg with rfl | rfl
  ·exact .inl (s0 _ _).symm
  ·exact .inr (by rw[b0,aE (hy.lt _ (hv.rd _))])
 by_cases z:az (f 0)=true
 ·rw[if_pos z]
  exact hN.low c i d j (f 0) hc hd hi hj dk z ef eg
 ·rw[if_neg z]
  have z':az (ak (f 0))=true:=by rw[fq _ ly.mem];simpa using z
  have:=hN.low d j c i (ak (f 0)) hd hc hj hi (Ne.symm dk) z' (by rw[Qf];exact eg.symm) (by rw[Qf];exact ef.symm)
  rw[Qf]at this
  exact ⟨Ne.symm this.2.1,Ne.symm this.1,this.2.2.2,this.2.2.1⟩
theorem Lies.run(hy:Yd y)(hN:Lies y ws L r M N){c i d j:Nat}{f g:Int->Nat}{a b:Nat}(hc:c<(ws:))(hd:d<(ws:))(hi:i<((ws|||c):))(hj:j<((ws|||d):))(hw:SW y (ws|||c))(hv:SW y (ws|||d))
  (hf:Dl (ws|||c) i f) (hg:Dl (ws|||d) j g) (hr:Run f g a b) (ha:a<M) (hb:b<M) (dk:(c,i)≠(d,j)):
  N c i (f 0)≠N d j (g 0)/\N c i (ak (f 0))≠N d j (ak (g 0))/\decide (N c i (f 0)<N d j (g 0))=AO y f g a b/\decide (N d j (ak (g 0))<N c i (ak (f 0)))=AO y f g a b:=by
 have h0:=hr.zero
 have lf:=hf.ud hy hw
 have lg:=hg.ud hy hv
 have e:(if az (f 0)=true then cg (fu y ws L r M c i) (fu y ws L r M d j) else cg (fu y ws L r M d j) (fu y ws L r M c i))=AO y f g a b:=by
  unfold fu
  rw[wM hy hw hf,wM hy hv hg, <-h0]
  by_cases z:az (f 0)=true
  ·rw[if_pos z,if_pos z,if_pos z,oI hy lf lg hr _ _ M 0 (Qao _) (Qao _) () ()]
   unfold AO xO
   by_cases q:a<=b
   ·rw[if_pos q,if_neg (by simp[z];lia)]
   ·rw[if_neg q,if_pos (by simp;lia)]
  ·rw[if_neg z,if_neg z,if_neg z,oI hy (lg.rv hy) (lf.rv hy) (hr.rv hy lf lg).sy _ _ M 0 (Qao _) (Qao _) () (), <-OD hy lf lg h0]
   unfold AO xO
   have z':az (iQ g 0)=true:=by
    show az (ak (g 0))=true
    rw[<-h0,fq _ (hy.lt _ (lf.bO 0)).mem];simpa using z
   by_cases q:b<=a
   ·rw[if_pos q,if_neg (by simp[z'];lia)]
   ·rw[if_neg q,if_pos (by simp;lia)]
 have:=hN.at hy hc hd hi hj hw hv hf hg h0 dk
 rw[e]at this
 rw[<-h0]
 exact this
end
noncomputable def gv(n:Nat)(k:Int):Nat:=(k%(n:Int)).toNat
theorem bo{n:Nat}(h:0<n)(k:Int):gv n k<n:=by
 unfold gv
 have h1:=Qcf k (b:=(n:Int)) ()
 have h2:=Qcc k (b:=(n:Int)) ()
 lia
theorem ck{n:Nat}(h:0<n)(k:Int):((gv n k:Nat):Int)=k%n:=by
 unfold gv
 have h1:=Qcf k (b:=(n:Int)) ()
 lia
theorem CB{n:Nat}(k:Int):gv n (k+n)=gv n k:=by unfold gv;rw[Qdi]
theorem bX{w:Z}(h:w≠[])(k:Int):rd w (gv (w:) k:Nat)=rd w k:=by rw[ck (YR.mpr h),fO]
theorem b8{w:Z}(h:w≠[])(k:Int):sq w (gv (w:) k:Nat)=sq w k:=by
 funext x
 unfold sq
 rw[ck (YR.mpr h), <-fO w (k%(w:)+x),Qdt,fO]
theorem oJ{w:Z}(h:w≠[])(k:Int):bq w (gv (w:) k:Nat)=bq w k:=by rw[<-ft, <-ft,b8 h]
noncomputable def pO(ws:List Z)(N:Nat->Nat->Nat->Nat)(c:Nat)(k:Int):Nat:=N c (gv ((ws|||c):) k) (rd (ws|||c) k)
noncomputable def pI(ws:List Z)(N:Nat->Nat->Nat->Nat)(c:Nat)(k:Int):Nat:=N c (gv ((ws|||c):) k) (ak (rd (ws|||c) k))
theorem OJ{x x' p p':Int}(h:x≠x'):cg [x,p] [x',p']=decide (x<x'):=by
 show (if x=x' then _ else decide (x<x'))=_
 rw[if_neg h]
theorem wN{x p p':Int}(h:p≠p'):cg [x,p] [x,p']=decide (p<p'):=by
 show (if x=x then (if p=p' then cg [] [] else decide (p<p')) else _)=_
 rw[if_pos rfl,if_neg h]
section
variable{y:Z}{ws:List Z}{L:Nat->Bool}{r:Nat->Nat}{M:Nat}{N:Nat->Nat->Nat->Nat}
structure cS(y:Z)(ws:List Z)(L:Nat->Bool)(r:Nat->Nat)(M:Nat):Prop where
 yd:Yd y
 sw:∀c,c<(ws:)->SW y (ws|||c)
 big:∀c d,c<(ws:)->d<(ws:)->((ws|||c):)+((ws|||d):)<=M
 l1:∀c d i j,c<(ws:)->d<(ws:)->bJ (ws|||c) (ws|||d) i j->L c=L d
 l2:∀c d i j,c<(ws:)->d<(ws:)->(∀k,sq (ws|||c) i k=bq (ws|||d) j k)->L d=!L c
 rp:∀c,c<(ws:)->0<r c
 rr:∀c,c<(ws:)->∀i j:Int,(bJ (ws|||c) (ws|||c) i j↔(i - j)%(r c:Int)=0)
theorem dQ.OK{R:Nat->Nat->Nat->Nat->Bool}(h:cS y ws L r M)(hN:dQ y ws R N){c d:Nat}(hc:c<(ws:))(hd:d<(ws:))(s t:Int):Sep y [(ak (sq (ws|||c) s (-1)),pI ws N c (s - 1)),(sq (ws|||c) s 0,pO ws N c s),(ak (sq (ws|||d) t (-1)),pI ws N d (t - 1)),(sq (ws|||d) t 0,pO ws N d t)]:=by
 have hw:=h.sw c hc
 have hv:=h.sw d hd
 walk_at"R"
 have lv:=YR.mpr hv.ne
 walk_at"c"
 have key:∀p∈[(ak (sq (ws|||c) s (-1)),pI ws N c (s - 1)),(sq (ws|||c) s 0,pO ws N c s),(ak (sq (ws|||d) t (-1)),pI ws N d (t - 1)),(sq (ws|||d) t 0,pO ws N d t)],∃e i:Nat,e<(ws:)/\i<((ws|||e):)/\(p.1=rd (ws|||e) i\/p.1=ak (rd (ws|||e) i))/\p.2=N e i p.1:=by
  intro p hp
  simp only[Qak,Qal,or_false]at hp
  rcases hp with rfl | rfl | rfl | rfl
  ·exact ⟨c,_,hc,bo lw (s - 1),.inr (by rw[bX hw.ne];rfl),rfl⟩
  ·exact ⟨c,_,hc,bo lw s,.inl (by rw[bX hw.ne,s0]),by rw[s0];rfl⟩
  ·exact ⟨d,_,hd,bo lv (t - 1),.inr (by rw[bX hv.ne];rfl),rfl⟩
  ·exact ⟨d,_,hd,bo lv t,.inl (by rw[bX hv.ne,s0]),by rw[s0];rfl⟩
 intro p hp q hq dy
 obtain ⟨e,i,he,hi,h1,h2⟩:=key p hp
 obtain ⟨e',j,u5,hj,h3,h4⟩:=key q hq
 rw[h2,h4]
 exact hN.sep e i e' j _ _ he u5 hi hj h1 h3 dy
theorem dQ.TJ{R:Nat->Nat->Nat->Nat->Bool}(h:cS y ws L r M)(hN:dQ y ws R N){c d:Nat}(hc:c<(ws:))(hd:d<(ws:))(s t:Int):Sep y [(ak (sq (ws|||c) s (-1)),pI ws N c (s - 1)),(sq (ws|||c) s 0,pO ws N c s),(ak (bq (ws|||d) (-t) (-1)),pO ws N d (-(t - 1))),(bq (ws|||d) (-t) 0,pI ws N d (-t))]:=by
 have hw:=h.sw c hc
 have hv:=h.sw d hd
 walk_at"R"
 have lv:=YR.mpr hv.ne
 walk_at"c"
 walk_at"k"
 have bb:∀t:Int,ak (bq (ws|||d) (-t) (-1))=rd (ws|||d) (-(t - 1)):=λt=>by
  unfold bq
  rw[aE (h.yd.lt _ (hv.rd _))]
  congr 1;lia
 have key:∀p∈[(ak (sq (ws|||c) s (-1)),pI ws N c (s - 1)),(sq (ws|||c) s 0,pO ws N c s),(ak (bq (ws|||d) (-t) (-1)),pO ws N d (-(t - 1))),(bq (ws|||d) (-t) 0,pI ws N d (-t))],∃e i:Nat,e<(ws:)/\i<((ws|||e):)/\(p.1=rd (ws|||e) i\/p.1=ak (rd (ws|||e) i))/\p.2=N e i p.1:=by
  intro p hp
  simp only[Qak,Qal,or_false]at hp
  rcases hp with rfl | rfl | rfl | rfl
  ·exact ⟨c,_,hc,bo lw (s - 1),.inr (by rw[bX hw.ne];rfl),rfl⟩
  ·exact ⟨c,_,hc,bo lw s,.inl (by rw[bX hw.ne,s0]),by rw[s0];rfl⟩
  ·exact ⟨d,_,hd,bo lv (-(t - 1)),.inl (by rw[bX hv.ne];exact bb t),by rw[bb t];rfl⟩
  ·exact ⟨d,_,hd,bo lv (-t),.inr (by rw[bX hv.ne,b0]),by rw[b0];rfl⟩
 intro p hp q hq dy
 obtain ⟨e,i,he,hi,h1,h2⟩:=key p hp
 obtain ⟨e',j,u5,hj,h3,h4⟩:=key q hq
 rw[h2,h4]
 exact hN.sep e i e' j _ _ he u5 hi hj h1 h3 dy
theorem Lies.two(h:cS y ws L r M)(hN:Lies y ws L r M N){c d:Nat}(hc:c<(ws:))(hd:d<(ws:)):MH y (sq (ws|||c)) (pO ws N c) (pI ws N c) (sq (ws|||d)) (pO ws N d) (pI ws N d):=by
 have hw:=h.sw c hc
 have hv:=h.sw d hd
 walk_at"R"
 have lv:=YR.mpr hv.ne
 walk_at"c"
 refine ⟨dQ.OK h hN hc hd,λs t a b rn=>?_⟩
 obtain ⟨a',b',Xn,ha,hb⟩:=dj lw lv (λk=>cR _ s k) (λk=>cR _ t k) rn.zero ⟨_,rn.hi⟩
 obtain ⟨rfl,rfl⟩:=rn.one Xn
 have:=h.big c d hc hd
 have key:=hN.run h.yd hc hd (bo lw s) (bo lv t) hw hv (.inl (b8 hw.ne s).symm) (.inl (b8 hv.ne t).symm) rn () () (λz=>rn.hi (by
  obtain ⟨z1,z2⟩:=Prod.mk.inj z
  subst z1
  rw[<-b8 hw.ne s, <-b8 hw.ne t,z2]))
 rw[s0,s0]at key
 exact key
theorem Lies.Zc(h:cS y ws L r M)(hN:Lies y ws L r M N){c d:Nat}(hc:c<(ws:))(hd:d<(ws:)):MH y (sq (ws|||c)) (pO ws N c) (pI ws N c) (λk=>bq (ws|||d) (-k)) (λk=>pI ws N d (-k)) (λk=>pO ws N d (-k)):=by
 have hw:=h.sw c hc
 have hv:=h.sw d hd
 walk_at"R"
 have lv:=YR.mpr hv.ne
 walk_at"c"
 walk_at"k"
 have bb:∀t:Int,ak (bq (ws|||d) (-t) (-1))=rd (ws|||d) (-(t - 1)):=λt=>by
  unfold bq
  rw[aE (h.yd.lt _ (hv.rd _))]
  congr 1;lia
 refine ⟨dQ.TJ h hN hc hd,λs t a b rn=>?_⟩
 obtain ⟨a',b',Xn,ha,hb⟩:=dj lw lv (λk=>cR _ s k) (λk=>oz _ (-t) k) rn.zero ⟨_,rn.hi⟩
 obtain ⟨rfl,rfl⟩:=rn.one Xn
 have:=h.big c d hc hd
 have key:=hN.run h.yd hc hd (bo lw s) (bo lv (-t)) hw hv (.inl (b8 hw.ne s).symm) (.inr (oJ hv.ne (-t)).symm) rn () () (λz=>by
  obtain ⟨z1,z2⟩:=Prod.mk.inj z
  subst z1
  have z0:=rn.zero
  rw[s0,b0, <-bX hw.ne s, <-bX hw.ne (-t),z2]at z0
  exact dN (h.yd.lt _ (hw.rd _)) z0.symm)
 rw[s0,b0,aE (h.yd.lt _ (hv.rd _))]at key
 exact key
theorem wO{n n' r r' c d i j:Nat}{l low OL:Bool}(h:c≠d):cg (Jy n r l low c i) (Jy n' r' (if OL=low then l else !l) OL d j)=if low=l then decide (c<d) else decide (d<c):=by
 unfold Jy
 cases low<;>cases OL<;>cases l<;>simp only[Qci,Qev,if_true,if_false,Bool.true_eq_false,Qbw]<;>rw[OJ ()]<;>exact decide_eq_decide.mpr ()
theorem Lies.Hb(h:cS y ws L r M)(hN:Lies y ws L r M N){c d:Nat}(hc:c<(ws:))(hd:d<(ws:))(ji:c≠d){i j:Nat}{f g:Int->Nat}(hi:i<((ws|||c):))(hj:j<((ws|||d):))(hf:Dl (ws|||c) i f)(hg:Dl (ws|||d) j g)(hp:∀k,f k=g k)
  (hl:L d=if az (rd (ws|||d) j)=az (rd (ws|||c) i) then L c else !L c) (hs:f=sq (ws|||c) i):
  N c i (f 0)≠N d j (g 0)/\N c i (ak (f 0))≠N d j (ak (g 0))/\decide (N c i (f 0)<N d j (g 0))=(if L c=true then decide (c<d) else decide (d<c))/\decide (N d j (ak (g 0))<N c i (ak (f 0)))=(if L c=true then decide (c<d) else decide (d<c)):=by
 have hw:=h.sw c hc
 have hv:=h.sw d hd
 have e:(if az (f 0)=true then cg (fu y ws L r M c i) (fu y ws L r M d j) else cg (fu y ws L r M d j) (fu y ws L r M c i))=if L c=true then decide (c<d) else decide (d<c):=by
  have es:nM (ws|||c) i=nM (ws|||d) j:=by
   rw[wM h.yd hw hf,wM h.yd hv hg,show f=g from funext hp]
  have f0:f 0=rd (ws|||c) i:=by rw[hs];unfold sq;rw[show (i:Int)+0=i by lia]
  unfold fu
  rw[es,gm,gm,f0]
  have xW:L c=if az (rd (ws|||c) i)=az (rd (ws|||d) j) then L d else !L d:=by
   rw[hl]
   cases az (rd (ws|||d) j)<;>cases az (rd (ws|||c) i)<;>cases L c<;>rfl
  have e1:= @wO ((ws|||c):) ((ws|||d):) (r c) (r d) c d i j (L c) (az (rd (ws|||c) i)) (az (rd (ws|||d) j)) ji
  have e2:= @wO ((ws|||d):) ((ws|||c):) (r d) (r c) d c j i (L d) (az (rd (ws|||d) j)) (az (rd (ws|||c) i)) (Ne.symm ji)
  rw[<-hl]at e1
  rw[<-xW]at e2
  rw[e1,e2,hl]
  cases az (rd (ws|||d) j)<;>cases az (rd (ws|||c) i)<;>cases L c<;>rfl
 have:=hN.at h.yd hc hd hi hj hw hv hf hg (hp 0) (λz=>ji (Prod.mk.inj z).1)
 rw[e]at this
 rw[<-hp 0]
 exact this
end
theorem yX{n k r i:Nat}(hr:0<r)(hn:n=k*r)(hi:i<n):(n - 1 - i) / r=k - 1 - i / r:=by
 have h1:=Qej i r
 have h2:=Qdg i hr
 have h3:i / r<k:=by
  rw[Qfk hr];lia
 rw[Nat.div_eq_iff hr]
 obtain ⟨t,rfl⟩:∃t,k=i / r+1+t:=⟨k - 1 - i / r,()⟩
 generalize hq:i / r=q at*
 rw[Nat.add_mul,Nat.add_mul,Nat.one_mul,Qc9 q r]at hn
 have e:q+1+t - 1 - q=t:=by lia
 rw[e]
 generalize r*q=A at*
 generalize t*r=B at*
 lia
theorem EF{r i j:Nat}(hr:0<r)(h:i%r=j%r)(dk:i≠j):(i / r<j / r↔i<j)/\i / r≠j / r:=by
 have h1:=Qej i r
 have h2:=Qej j r
 have wQ:i / r≠j / r:=λz=>dk (by rw[<-h1, <-h2,z,h])
 refine ⟨⟨λq=>?_,λq=>?_⟩,wQ⟩
 ·have:r*(i / r+1)<=r*(j / r):=Nat.mul_le_mul_left r q
  rw[Nat.mul_add,Nat.mul_one]at this
  lia
 ·refine Classical.byContradiction λz=>?_
  have h3:j / r+1<=i / r:=by lia
  have:r*(j / r+1)<=r*(i / r):=Nat.mul_le_mul_left r h3
  rw[Nat.mul_add,Nat.mul_one]at this
  lia
theorem AU{n k r c i j:Nat}{l low:Bool}(hr:0<r)(hn:n=k*r)(hi:i<n)(hj:j<n)(h:i%r=j%r)(dk:i≠j):(if low=true then cg (Jy n r l low c i) (Jy n r l low c j) else cg (Jy n r l low c j) (Jy n r l low c i))=decide (i<j):=by
 obtain ⟨d1,d2⟩:=EF hr h dk
 have e1:=yX hr hn hi
 have e2:=yX hr hn hj
 have b1:i / r<k:=by rw[Qfk hr];lia
 have b2:j / r<k:=by rw[Qfk hr];lia
 unfold Jy
 cases low<;>cases l<;>simp only[if_true,if_false,Bool.true_eq_false,Qbw]
 ·rw[e1,e2,wN ()];exact decide_eq_decide.mpr ()
 ·rw[wN ()];exact decide_eq_decide.mpr ()
 ·rw[e1,e2,wN ()];exact decide_eq_decide.mpr ()
 ·rw[wN ()];exact decide_eq_decide.mpr ()
noncomputable def fc(y w v:Z)(i j:Int):Int:=one (ac y (ak (rd w (i - 1))) (rd w i) (ak (rd v (j - 1))) (rd v j)=true)+one (0<al y (sq w i) (sq v j) ((w:)+(v:)))+one (0<al y (sq w i) (bq v j) ((w:)+(v:)))
section
variable{y:Z}{ws:List Z}{L:Nat->Bool}{r:Nat->Nat}{M:Nat}{N:Nat->Nat->Nat->Nat}
theorem jb(ws:List Z)(N:Nat->Nat->Nat->Nat)(c:Nat)(k:Int):pO ws N c (k+((ws|||c):))=pO ws N c k:=by unfold pO;rw[CB,gy]
theorem j6(ws:List Z)(N:Nat->Nat->Nat->Nat)(c:Nat)(k:Int):pI ws N c (k+((ws|||c):))=pI ws N c k:=by unfold pI;rw[CB,gy]
theorem cS.root(h:cS y ws L r M){c:Nat}(hc:c<(ws:)):((ws|||c):)=((ws|||c):) / r c*r c/\0<((ws|||c):) / r c:=by
 have hp:=h.rp c hc
 have hl:=YR.mpr (h.sw c hc).ne
 have h1:=(h.rr c hc ((ws|||c):) 0).mp (λk=>by
  have:=congrFun (rN (ws|||c) 0) k
  rwa [Qcz]at this)
 rw[Qep]at h1
 have h2:((ws|||c):)%r c=0:=by
  have:(((((ws|||c):)%r c:Nat)):Int)=0:=by rw[<-h1];rfl
  lia
 have h3:=Qej ((ws|||c):) (r c)
 rw[h2,Nat.add_zero,Qc9]at h3
 refine ⟨h3.symm,Nat.pos_of_ne_zero λz=>?_⟩
 rw[z,Nat.zero_mul]at h3
 lia
theorem EG(h:cS y ws L r M)(hN:Lies y ws L r M N){c d:Nat}(hc:c<(ws:))(hd:d<(ws:))(ji:c≠d):
  bH ((ws|||c):) ((ws|||d):) (λi j=>one (eA (pO ws N c) (pI ws N c) (pO ws N d) (pI ws N d) i j=true))=bH ((ws|||c):) ((ws|||d):) (fc y (ws|||c) (ws|||d)):=by
 have hw:=h.sw c hc
 have hv:=h.sw d hd
 walk_at"R"
 have lv:=YR.mpr hv.ne
 walk_at"c"
 walk_at"k"
 have hS:=hN.two h hc hd
 have hO:=hN.Zc h hc hd
 rw[yW h.yd hw hv (jb ws N c) (j6 ws N c) (jb ws N d) (j6 ws N d) hS hO,KY h.yd hw hv hS (if L c=true then decide (c<d) else decide (d<c)),KZ h.yd hw hv hO (if L c=true then decide (c<d) else decide (d<c)), <-cb, <-cb]
 ·unfold fc
  lia
 ·intro i j p
  have p0:=p 0
  rw[s0,b0]at p0
  have lo:=fq _ (h.yd.lt _ (hv.rd j)).mem
  have:=hN.Hb h hc hd ji (bo lw i) (bo lv j) (f:=sq (ws|||c) i) (g:=bq (ws|||d) j) (.inl (b8 hw.ne i).symm) (.inr (oJ hv.ne j).symm) p (by
   rw[bX hw.ne,bX hv.ne,p0,lo,h.l2 c d i j hc hd p]
   cases az (rd (ws|||d) j)<;>rfl) (b8 hw.ne i).symm
  rw[s0,b0,aE (h.yd.lt _ (hv.rd _))]at this
  exact this
 ·intro i j p
  have p0:=p 0
  rw[s0,s0]at p0
  have:=hN.Hb h hc hd ji (bo lw i) (bo lv j) (f:=sq (ws|||c) i) (g:=sq (ws|||d) j) (.inl (b8 hw.ne i).symm) (.inl (b8 hv.ne j).symm) p (by
   rw[bX hw.ne,bX hv.ne,p0,if_pos rfl]
   exact (h.l1 c d i j hc hd p).symm) (b8 hw.ne i).symm
  rw[s0,s0]at this
  exact this
theorem AV(h:cS y ws L r M)(hN:Lies y ws L r M N){c:Nat}(hc:c<(ws:)):
  bH ((ws|||c):) ((ws|||c):) (λi j=>one (eA (pO ws N c) (pI ws N c) (pO ws N c) (pI ws N c) i j=true))=bH ((ws|||c):) ((ws|||c):) (fc y (ws|||c) (ws|||c))+2*((((ws|||c):) / r c:Nat) - 1):=by
 have hw:=h.sw c hc
 walk_at"R"
 walk_at"c"
 have hS:=hN.two h hc hc
 have hO:=hN.Zc h hc hc
 obtain ⟨Jv,Qp⟩:=h.root hc
 have Zd:=h.rp c hc
 have e0:bH ((ws|||c):) ((ws|||c):) (λi j=>one (jA (ws|||c) (ws|||c) i j/\eA (pO ws N c) (pI ws N c) (pO ws N c) (pI ws N c) i j=true))=0:=by
  rw[show (0:Int)=bH ((ws|||c):) ((ws|||c):) (λ_ _=>0) by unfold bH;rw[show (λ_:Int=>sm ((ws|||c):) λ_=>0)=λ_=>0 from funext λ_=>dH _,dH]]
  exact br λi j _ _=>aT λz=>wL h.yd hw _ _ z.1
 rw[yW h.yd hw hw (jb ws N c) (j6 ws N c) (jb ws N c) (j6 ws N c) hS hO,e0,Ha h.yd hw hS Zd Jv Qp, <-cb, <-cb]
 ·unfold fc
  lia
 ·intro j hj
  rw[h.rr c hc]
  constructor
  ·intro q
   have:(j:Int)%(r c:Int)=0:=by
    rw[Int.zero_sub]at q
    exact Int.emod_eq_zero_of_dvd (Int.dvd_neg.mp (Int.dvd_of_emod_eq_zero q))
   have h2:((j%r c:Nat):Int)=0:=by rw[<-this];rfl
   lia
  ·intro q
   have:(j:Int)%(r c:Int)=0:=by
    have h2:((j%r c:Nat):Int)=(j:Int)%(r c:Int):=rfl
    rw[<-h2,q];rfl
   rw[Int.zero_sub]
   exact Int.emod_eq_zero_of_dvd (Int.dvd_neg.mpr (Int.dvd_of_emod_eq_zero this))
 ·intro i j p dk
  have p0:=p 0
  rw[s0,s0]at p0
  have wQ:gv ((ws|||c):) i≠gv ((ws|||c):) j:=λz=>dk (by rw[<-ck lw, <-ck lw,z])
  have:=hN.at h.yd hc hc (bo lw i) (bo lw j) hw hw (f:=sq (ws|||c) i) (g:=sq (ws|||c) j) (.inl (b8 hw.ne i).symm) (.inl (b8 hw.ne j).symm) (p 0) (λz=>wQ (Prod.mk.inj z).2)
  have K0:gv ((ws|||c):) i%r c=gv ((ws|||c):) j%r c:=by
   have p':bJ (ws|||c) (ws|||c) (gv ((ws|||c):) i:Nat) (gv ((ws|||c):) j:Nat):=λk=>by rw[b8 hw.ne,b8 hw.ne];exact p k
   have q:=(h.rr c hc _ _).mp p'
   have q2:=Qcw.mpr q
   have q3:((gv ((ws|||c):) i%r c:Nat):Int)=((gv ((ws|||c):) j%r c:Nat):Int):=q2
   lia
  have es:nM (ws|||c) (gv ((ws|||c):) i:Nat)=nM (ws|||c) (gv ((ws|||c):) j:Nat):=by
   unfold nM
   rw[bX hw.ne,bX hw.ne,p0,b8 hw.ne,b8 hw.ne,oJ hw.ne,oJ hw.ne,show sq (ws|||c) i=sq (ws|||c) j from funext p, <-ft, <-ft,show sq (ws|||c) i=sq (ws|||c) j from funext p]
  have e:= @AU ((ws|||c):) _ (r c) c _ _ (L c) (az (rd (ws|||c) j)) Zd Jv (bo lw i) (bo lw j) K0 wQ
  unfold fu at this
  rw[es,gm,gm,s0,bX hw.ne,bX hw.ne,p0,e,decide_eq_decide.mpr (show gv ((ws|||c):) i<gv ((ws|||c):) j↔i%(((ws|||c):):Int)<j%(((ws|||c):):Int) by rw[<-ck lw, <-ck lw];lia)]at this
  unfold pO pI
  rw[p0]
  exact this
end
noncomputable def iA:Nat->(Int->Int->Int)->Int
 | 0,_=>0
 | n+1,h=>iA n h+sm n (λj=>h j n)
theorem kJ(n m:Nat)(h:Int->Int->Int):bH (n+1) m h=bH n m h+sm m (λj=>h n j):=rfl
theorem m7(m:Nat)(h:Int->Int->Int):∀n:Nat,bH n (m+1) h=bH n m h+sm n (λi=>h i m)
 | 0=>rfl
 | n+1=>by
  rw[kJ,kJ,m7 m h n]
  show bH n m h+sm n (λi=>h i m)+(sm m (λj=>h n j)+h n m)=bH n m h+sm m (λj=>h n j)+(sm n (λi=>h i m)+h n m)
  lia
theorem kK{h:Int->Int->Int}:∀{n:Nat},(∀i j:Nat,i<n->j<n->h i j=h j i)->(∀i:Nat,i<n->h i i=0)->bH n n h=2*iA n h
 | 0,_,_=>rfl
 | n+1,sy,dg=>by
  rw[m7,kJ,kK (n:=n) (λi j hi hj=>sy i j () ()) (λi hi=>dg i ())]
  show 2*iA n h+sm n (λj=>h n j)+(sm n (λi=>h i n)+h n n)=2*(iA n h+sm n (λj=>h j n))
  rw[dg n (),aI (h:=λj=>h n j) (g:=λj=>h j n) (λj hj=>sy n j () ())]
  lia
theorem gN{h g:Int->Int->Int}:∀{n:Nat},(∀i j:Nat,i<j->j<n->h i j=g i j)->iA n h=iA n g
 | 0,_=>rfl
 | n+1,e=>by
  show iA n h+_=iA n g+_
  rw[gN (n:=n) λi j h1 h2=>e i j h1 (),aI (g:=λj=>g j n) λj hj=>e j n hj ()]
theorem CC(h g:Int->Int->Int):∀n:Nat,iA n (λi j=>h i j+g i j)=iA n h+iA n g
 | 0=>rfl
 | n+1=>by
  show iA n _+sm n _=(iA n h+sm n _)+(iA n g+sm n _)
  rw[CC h g n,j4];lia
section
variable{y:Z}{ws:List Z}{L:Nat->Bool}{r:Nat->Nat}{M:Nat}{N:Nat->Nat->Nat->Nat}
theorem dQ.inj{R:Nat->Nat->Nat->Nat->Bool}(h:cS y ws L r M)(hN:dQ y ws R N){c i d j e e':Nat}(hc:c<(ws:))(hd:d<(ws:))(hi:i<((ws|||c):))(hj:j<((ws|||d):))(he:e=rd (ws|||c) i\/e=ak (rd (ws|||c) i))(u5:e'=rd (ws|||d) j\/e'=ak (rd (ws|||d) j))
  (dk:(c,i,e)≠(d,j,e')):N c i e≠N d j e':=by
 have ly:∀{c i e:Nat},c<(ws:)->(e=rd (ws|||c) i\/e=ak (rd (ws|||c) i))->e∈y:=λhc he=>he.elim (λz=>z▸(h.sw _ hc).rd _) λz=>z▸h.yd.cl _ ((h.sw _ hc).rd _)
 have ye:=ly hc he
 have ye':=ly hd u5
 by_cases z:e=e'
 ·subst z
  have wQ:(c,i)≠(d,j):=λq=>dk (by rw[(Prod.mk.inj q).1,(Prod.mk.inj q).2])
  have le:=h.yd.lt _ ye
  have lc:=h.yd.lt _ ((h.sw c hc).rd i)
  have ld:=h.yd.lt _ ((h.sw d hd).rd j)
  by_cases l:az e=true
  ·exact (hN.low c i d j e hc hd hi hj wQ l (he.elim (λz=> .inl z.symm) λz=> .inr (by rw[z,aE lc])) (u5.elim (λz=> .inl z.symm) λz=> .inr (by rw[z,aE ld]))).1
  ·have:=(hN.low c i d j (ak e) hc hd hi hj wQ (by rw[fq _ le.mem];simpa using l) (by rw[aE le];exact he.elim (λz=> .inr z.symm) λz=> .inl (by rw[z,aE lc])) (by rw[aE le];exact u5.elim (λz=> .inr z.symm) λz=> .inl (by rw[z,aE ld]))).2.1
   rwa [aE le]at this
 ·have n:=cw ye ye' z
  rcases Qcq n with q | q
  ·exact Qay (hN.sep c i d j e e' hc hd hi hj he u5 q)
  ·exact Qfd (hN.sep d j c i e' e hd hc hj hi u5 he q)
theorem CD{n i j:Nat}{k:Int}(hi:i<n)(hj:j<n)(q:gv n ((i:Int) - k)=gv n ((j:Int) - k)):i=j:=by
 have lw:0<n:=Qbn (Qao _) hi
 have q2:((i:Int) - k)%n=((j:Int) - k)%n:=by rw[<-ck lw, <-ck lw,q]
 have q3:=(Int.emod_sub_cancel_right k).mp q2
 rw[Qa7 (Qf1 _) (Int.ofNat_lt.mpr hi),Qa7 (Qf1 _) (Int.ofNat_lt.mpr hj)]at q3
 exact Int.ofNat.inj q3
theorem dI{R:Nat->Nat->Nat->Nat->Bool}(h:cS y ws L r M)(hN:dQ y ws R N){c d i j:Nat}(hc:c<(ws:))(hd:d<(ws:))(hi:i<((ws|||c):))(hj:j<((ws|||d):)):
  pI ws N c ((i:Int) - 1)≠pO ws N d j/\((c,i)≠(d,j)->pI ws N c ((i:Int) - 1)≠pI ws N d ((j:Int) - 1)/\pO ws N c i≠pO ws N d j):=by
 have hw:=h.sw c hc
 have hv:=h.sw d hd
 walk_at"R"
 have lv:=YR.mpr hv.ne
 have vo:∀{c:Nat} (hw:SW y (ws|||c)) (k:Int),rd (ws|||c) k=rd (ws|||c) (gv ((ws|||c):) k:Nat)\/rd (ws|||c) k=ak (rd (ws|||c) (gv ((ws|||c):) k:Nat)):=λhw k=> .inl (bX hw.ne k).symm
 have vi:∀{c:Nat} (hw:SW y (ws|||c)) (k:Int),ak (rd (ws|||c) k)=rd (ws|||c) (gv ((ws|||c):) k:Nat)\/ak (rd (ws|||c) k)=ak (rd (ws|||c) (gv ((ws|||c):) k:Nat)):=λhw k=> .inr (by rw[bX hw.ne k])
 refine ⟨hN.inj h hc hd (bo lw _) (bo lv _) (vi hw _) (vo hv _) λq=>?_,λdk=>⟨hN.inj h hc hd (bo lw _) (bo lv _) (vi hw _) (vi hv _) λq=>?_,hN.inj h hc hd (bo lw _) (bo lv _) (vo hw _) (vo hv _) λq=>?_⟩⟩
 ·obtain ⟨q1,q⟩:=Prod.mk.inj q
  obtain ⟨q2,q3⟩:=Prod.mk.inj q
  subst q1
  rw[<-bX hw.ne ((i:Int) - 1), <-bX hw.ne (j:Int),q2]at q3
  exact dN (h.yd.lt _ (hw.rd _)) q3
 ·obtain ⟨q1,q⟩:=Prod.mk.inj q
  subst q1
  exact dk (by rw[CD hi hj (Prod.mk.inj q).1])
 ·obtain ⟨q1,q⟩:=Prod.mk.inj q
  subst q1
  exact dk (by rw[CD (k:=0) hi hj (by rw[Qep,Qep];exact (Prod.mk.inj q).1)])
theorem CF{R:Nat->Nat->Nat->Nat->Bool}(h:cS y ws L r M)(hN:dQ y ws R N){c d:Nat}(hc:c<(ws:))(hd:d<(ws:)){i j:Nat}(hi:i<((ws|||c):))(hj:j<((ws|||d):)):eA (pO ws N c) (pI ws N c) (pO ws N d) (pI ws N d) i j=eA (pO ws N d) (pI ws N d) (pO ws N c) (pI ws N c) j i:=by
 by_cases z:(c,i)=(d,j)
 ·obtain ⟨rfl,rfl⟩:=Prod.mk.inj z
  rfl
 have n:=dI h hN hc hd hi hj
 exact m6 (dI h hN hc hc hi hi).1 (dI h hN hd hd hj hj).1 (n.2 z).1 n.1 (Ne.symm (dI h hN hd hc hj hi).1) (n.2 z).2
theorem Hc(h:cS y ws L r M)(hN:Lies y ws L r M N){c:Nat}(hc:c<(ws:)):
  2*iA ((ws|||c):) (λi j=>one (eA (pO ws N c) (pI ws N c) (pO ws N c) (pI ws N c) i j=true))=bH ((ws|||c):) ((ws|||c):) (fc y (ws|||c) (ws|||c))+2*((((ws|||c):) / r c:Nat) - 1):=by
 rw[<-AV h hN hc]
 exact (kK (λi j hi hj=>by rw[CF h hN hc hc hi hj]) (λi hi=>aT (by unfold eA;rw[m5];decide))).symm
end
theorem Hd{y:Z}{f g:Int->Nat}{a:Nat}(hy:Yd y)(hf:iX y f)(hg:iX y g)(h:f a=g a)(hn:f (a+1)≠g (a+1)):gX y g f a=!gX y f g a:=by
 have:fD y f (a+1)≠fD y g (a+1):=λq=>hn (by
  unfold fD at q
  rw[show (a:Int)+1 - 1=a by lia, <-h]at q
  exact m3 (hy.cl _ (hf.bO _)) (hf.bO _) (hg.bO _) q)
 unfold gX
 rw[<-decide_not]
 exact decide_eq_decide.mpr ()
theorem AW{y:Z}{f g:Int->Nat}{b:Nat}(hy:Yd y)(hf:iX y f)(hg:iX y g)(h:f (-(b:Int))=g (-(b:Int)))(hn:f (-(b:Int) - 1)≠g (-(b:Int) - 1)):gM y g f b=!gM y f g b:=by
 have:fD y f (-(b:Int))≠fD y g (-(b:Int)):=λq=>hn (by
  unfold fD at q
  rw[<-h]at q
  have r1:=hf.red (-(b:Int))
  have r2:=hg.red (-(b:Int))
  have c1:=(fP (hy.cl _ (hf.bO (-(b:Int) - 1))) (hf.bO (-(b:Int))) (Ne.symm r1)).2.2
  have c2:=(fP (hy.cl _ (hg.bO (-(b:Int) - 1))) (hf.bO (-(b:Int))) (by rw[h];exact Ne.symm r2)).2.2
  have:=m3 (hf.bO (-(b:Int))) (hy.cl _ (hf.bO (-(b:Int) - 1))) (hy.cl _ (hg.bO (-(b:Int) - 1))) (by rw[c1,c2,q])
  exact gH (hy.lt _ (hf.bO _)) (hy.lt _ (hg.bO _)) this)
 unfold gM
 rw[<-decide_not]
 exact decide_eq_decide.mpr ()
theorem CG{y:Z}{f g:Int->Nat}(hy:Yd y)(hf:iX y f)(hg:iX y g):jE y f g->jE y g f:=λ⟨a,r,x⟩=>⟨a,r.sy,by
 rw[Hd hy hf hg (r.mh a () ()) r.hi,AW hy hf hg (r.mh _ () ()) r.lo]
 exact λq=>x (by simpa using q)⟩
theorem He{y:Z}{a b p q:Nat}(hy:Yd y)(ha:a∈y)(hb:b∈y)(hp:p∈y)(hq:q∈y)(oh:a≠b)(TB:p≠q):ac y a b p q=ac y p q a b:=by
 unfold ac
 by_cases z:p=a\/p=b\/q=a\/q=b
 ·rw[if_pos z,if_pos (z.elim (λz=> .inl z.symm) λz=>z.elim (λz=> .inr (.inr (.inl z.symm))) λz=>z.elim (λz=> .inr (.inl z.symm)) λz=> .inr (.inr (.inr z.symm)))]
 ·have n1:a≠p:=λq=>z (.inl q.symm)
  have n2:b≠p:=λq=>z (.inr (.inl q.symm))
  have n3:a≠q:=λq=>z (.inr (.inr (.inl q.symm)))
  have n4:b≠q:=λq=>z (.inr (.inr (.inr q.symm)))
  rw[if_neg z,if_neg (λz=>z.elim n1 λz=>z.elim n3 λz=>z.elim n2 n4)]
  rw[iw hy.nd ha hp hb n1 oh (Ne.symm n2),iw hy.nd ha hq hb n3 oh (Ne.symm n4),iw hy.nd hp ha hq (Ne.symm n1) TB n3,iw hy.nd hp hb hq (Ne.symm n2) TB n4]
  exact m6 (cw ha hb oh) (cw hp hq TB) (cw ha hp n1) (cw ha hq n3) (cw hb hp n2) (cw hb hq n4)
noncomputable def Jz(n m:Nat):List (Nat×Nat):=(List.range n).flatMap λi=>(List.range m).map λj=>(i,j)
theorem CH{n m:Nat}{x:Nat×Nat}:x∈Jz n m↔x.1<n/\x.2<m:=by
 unfold Jz
 rw[Qbh]
 constructor
 ·rintro ⟨i,hi,h⟩
  obtain ⟨j,hj,rfl⟩:=Qam.mp h
  exact ⟨Qax.mp hi,Qax.mp hj⟩
 ·rintro ⟨h1,h2⟩
  exact ⟨x.1,Qax.mpr h1,Qam.mpr ⟨x.2,Qax.mpr h2,rfl⟩⟩
theorem OM(n m:Nat):(Jz n m).Nodup:=by
 unfold Jz
 induction n with
 | zero=>exact List.Pairwise.nil
 | succ n ih=>
  rw[Qb7,Qaw,Qb2]
  refine ⟨ih,?_,?_⟩
  ·rw[Qcl]
   exact List.Pairwise.map _ (λa b h q=>h (Prod.mk.inj q).2) Qdd
  ·intro a ha b hb e
   obtain ⟨i,hi,h⟩:=Qbh.mp ha
   obtain ⟨j,_,rfl⟩:=Qam.mp h
   rw[Qcl]at hb
   obtain ⟨k,_,rfl⟩:=Qam.mp hb
   have:=(Prod.mk.inj e).1
   have:=Qax.mp hi
   lia
theorem AX{Q:Int->Prop}{P:Nat->Bool}:∀{m:Nat},(∀j:Nat,j<m->(Q j↔P j=true))->sm m (λj=>one (Q j))=((List.range m).filter P:)
 | 0,_=>rfl
 | m+1,h=>by
  show sm m _+one (Q m)=_
  rw[AX (m:=m) λj hj=>h j (),Qb7,Qcg,U3,bu (h m ())]
  cases e:P m
  ·rw[Qa6 (by rw[e];decide),aT ∅];simp
  ·rw[Qbe e,dG rfl];simp
theorem wR{Q:Int->Int->Prop}{P:Nat×Nat->Bool}{m:Nat}:∀{n:Nat},(∀i j:Nat,i<n->j<m->(Q i j↔P (i,j)=true))->bH n m (λi j=>one (Q i j))=((Jz n m).filter P:)
 | 0,_=>rfl
 | n+1,h=>by
  rw[kJ,wR (n:=n) λi j hi hj=>h i j () hj]
  unfold Jz
  rw[Qb7,Qaw,Qcg,U3,Qcl,Qfj,Qi,AX (P:=λj=>P (n,j)) λj hj=>h n j () hj]
  show _=(((_+_:Nat)):Int)
  rw[Qbk]
  rfl
theorem Hf{l:List (Nat×Nat)}(hl:l.Nodup)(t:Nat×Nat->Nat×Nat)(p q:Nat×Nat->Bool)(h1:∀x∈l,p x=true->t x∈l/\p (t x)=true/\t (t x)=x/\q (t x)=!q x):((l.filter λx=>p x&&q x):)=((l.filter λx=>p x&&!q x):):=by
 have le:∀q:Nat×Nat->Bool,(∀x∈l,p x=true->t x∈l/\p (t x)=true/\t (t x)=x/\q (t x)=!q x)->((l.filter λx=>p x&&q x):)<=((l.filter λx=>p x&&!q x):):=λq h1=>by
  rw[<-Qi t]
  refine List.Nodup.length_le_of_subset ?_ λx hx=>?_
  ·have:(l.filter λx=>p x&&q x).Nodup:=hl.filter _
   refine Qby.mpr (Qce (λ{a b} ha hb oh z=>oh ?_) this)
   obtain ⟨a1,a2⟩:=Qa8.mp ha
   obtain ⟨b1,b2⟩:=Qa8.mp hb
   rw[Qbt]at a2 b2
   rw[<-(h1 a a1 a2.1).2.2.1, <-(h1 b b1 b2.1).2.2.1,z]
  ·obtain ⟨a,ha,rfl⟩:=Qam.mp hx
   obtain ⟨a1,a2⟩:=Qa8.mp ha
   rw[Qbt]at a2
   obtain ⟨g1,g2,_,g4⟩:=h1 a a1 a2.1
   exact Qa8.mpr ⟨g1,by rw[g2,g4,a2.2];rfl⟩
 have l1:=le q h1
 have l2:=le (λx=>!q x) λx hx hp=>by
  obtain ⟨g1,g2,g3,g4⟩:=h1 x hx hp
  exact ⟨g1,g2,g3,by show (!q (t x))=!!q x;rw[g4]⟩
 have e:(l.filter λx=>p x&&!!q x)=l.filter λx=>p x&&q x:=Qd9 λx _=>by rw[Bool.not_not]
 rw[e]at l2
 lia
section
variable{y w:Z}
theorem ON{f g:Int->Nat}{a:Nat}(hy:Yd y)(hf:iX y f)(hg:iX y g)(h:Run f g a 0)(x:gX y f g a≠gM y f g 0):Run (λk=>iQ g (k - a)) (λk=>iQ f (k - a)) a 0/\gX y (λk=>iQ g (k - a)) (λk=>iQ f (k - a)) a≠gM y (λk=>iQ g (k - a)) (λk=>iQ f (k - a)) 0:=by
 have r:=(h.rv hy hf hg).sy
 refine ⟨⟨λk h1 h2=>r.mh (k - a) () (),λq=>r.hi ?_,λq=>r.lo ?_⟩,?_⟩
 ·simp only[show (a:Int)+1 - a=(0:Nat)+1 by lia]at q;exact q
 ·simp only[show -((0:Nat):Int) - 1 - a= -(a:Int) - 1 by lia]at q;exact q
 ·have sh:∀(f:Int->Nat) (k:Int),fD y (λk=>f (k - a)) k=fD y f (k - a):=λf k=>by
   unfold fD
   simp only[show k - 1 - (a:Int)=k - a - 1 by lia]
  unfold gX gM at x ⊢
  rw[sh,sh,sh,sh,show (a:Int)+1 - a=0+1 by lia,show -((0:Nat):Int) - a=(-(a:Int) - 1)+1 by lia,gz hy hf,gz hy hg,gz hy hf,gz hy hg,show -(-(a:Int) - 1)=a+1 by lia]
  intro q
  refine x ?_
  rw[decide_eq_decide]at q ⊢
  rw[show -((0:Nat):Int)= -(0:Int) by lia]
  lia
theorem CI(hy:Yd y)(hw:SW y w){i j:Int}{a:Nat}:al y (sq w i) (bq w j) ((w:)+(w:))=a+1↔Run (sq w i) (bq w j) a 0/\gX y (sq w i) (bq w j) a≠gM y (sq w i) (bq w j) 0:=by
 have hd:=λz=>gL (f:=sq w i) (g:=bq w j) hw.ne hw.ne (λk=>cR w i k) (λk=>oz w j k) z
 have key:=rL (n:=(w:)+(w:)) hy (a_ hw i) (iy hy hw j) hd
 constructor
 ·intro e
  obtain ⟨a',r,x⟩:=key.mpr ()
  have:=yP (y:=y) (f:=sq w i) (g:=bq w j) (n:=(w:)+(w:)) ()
  have e2:a'=a:=by
   have z1:sq w i (-1)≠bq w j (-1):=r.lo
   obtain ⟨d1,d2⟩:=hd z1
   have d3:al y (sq w i) (bq w j) ((w:)+(w:))=kZ (sq w i) (bq w j) ((w:)+(w:)) 0:=by
    unfold al at e ⊢
    split at e
    ·lia
    ·rename_i z
     rw[if_neg z]
     split at e
     ·rename_i z2;rw[if_pos z2]
     ·lia
   have d4:kZ (sq w i) (bq w j) ((w:)+(w:)) 0=a'+1:=by
    by_cases q:a'+1<(w:)+(w:)
    ·exact GU (λk hk=>r.mh k () ()) r.hi q
    ·exact absurd (r.mh (kZ (sq w i) (bq w j) ((w:)+(w:)) 0:Nat) () ()) d2
   lia
  subst e2
  exact ⟨r,x⟩
 ·rintro ⟨r,x⟩
  have h0:=key.mp ⟨a,r,x⟩
  obtain ⟨b,e⟩:∃b,al y (sq w i) (bq w j) ((w:)+(w:))=b+1:=⟨_,(Nat.succ_pred_eq_of_pos h0).symm⟩
  obtain ⟨d1,d2⟩:=hd r.lo
  have d3:al y (sq w i) (bq w j) ((w:)+(w:))=kZ (sq w i) (bq w j) ((w:)+(w:)) 0:=by
   unfold al at e ⊢
   split at e
   ·lia
   ·rename_i z
    rw[if_neg z]
    split at e
    ·rename_i z2;rw[if_pos z2]
    ·lia
  rw[d3]
  by_cases q:a+1<(w:)+(w:)
  ·exact GU (λk hk=>r.mh k () ()) r.hi q
  ·exact absurd (r.mh (kZ (sq w i) (bq w j) ((w:)+(w:)) 0:Nat) () ()) d2
theorem K1(hy:Yd y)(hw:SW y w){i j:Int}{a:Nat}(h:al y (sq w i) (bq w j) ((w:)+(w:))=a+1):al y (sq w (j - a)) (bq w (i+a)) ((w:)+(w:))=a+1:=by
 obtain ⟨r,x⟩:=(CI hy hw).mp h
 obtain ⟨r2,x2⟩:=ON hy (a_ hw i) (iy hy hw j) r x
 have e1:(λk=>iQ (bq w j) (k - a))=sq w (j - a):=by
  rw[<-ft,m4 hy (a_ hw j)]
  funext k
  unfold sq
  congr 1;lia
 have e2:(λk=>iQ (sq w i) (k - a))=bq w (i+a):=by
  rw[ft]
  funext k
  unfold bq
  congr 2;lia
 rw[e1,e2]at r2 x2
 exact (CI hy hw).mpr ⟨r2,x2⟩
end
theorem Hg{y:Z}{f g:Int->Nat}{n:Nat}(h:f (-1)=g (-1)):al y f g n=0:=by unfold al;rw[if_pos (.inr h)]
theorem pJ{α:Type}(p q:α->Bool):∀l:List α,(l.filter p:)=((l.filter λx=>p x&&q x):)+((l.filter λx=>p x&&!q x):)
 | []=>rfl
 | a::l=>by
  have ih:=pJ p q l
  simp only[Qde]
  cases p a<;>cases q a<;>simp<;>lia
theorem Hh(h:Int->Int->Int):∀n:Nat,bH n n (λi j=>if i<j then h i j else 0)=iA n h
 | 0=>rfl
 | n+1=>by
  rw[m7,kJ,Hh h n]
  show iA n h+sm n (λj=>if (n:Int)<j then h n j else 0)+(sm n (λi=>if i<(n:Int) then h i n else 0)+(if (n:Int)<n then h n n else 0))=iA n h+sm n (λj=>h j n)
  rw[if_neg (),aI (g:=λ_=>0) (λj hj=>if_neg ()),dH,aI (h:=λi=>if i<(n:Int) then h i n else 0) (g:=λj=>h j n) (λj hj=>if_pos ())]
  lia
section
variable{y w:Z}
noncomputable def eh(y w:Z)(x:Nat×Nat):Nat×Nat:=(gv (w:) ((x.2:Int) - jD y w w x.1 x.2+1),gv (w:) ((x.1:Int)+jD y w w x.1 x.2 - 1))
theorem K2(hy:Yd y)(hw:SW y w):bH (w:) (w:) (λi j=>one (0<al y (sq w i) (bq w j) ((w:)+(w:))))=2*((((Jz (w:) (w:)).filter λx=>decide (0<jD y w w x.1 x.2)&&!gC w x.1 x.2 (jD y w w x.1 x.2)):):Int):=by
 walk_at"R"
 have e1:bH (w:) (w:) (λi j=>one (0<al y (sq w i) (bq w j) ((w:)+(w:))))=(((Jz (w:) (w:)).filter λx=>decide (0<jD y w w x.1 x.2)):):=
  wR (P:=λx=>decide (0<jD y w w x.1 x.2)) λi j _ _=>by rw[decide_eq_true_iff];rfl
 have e2:=pJ (λx=>decide (0<jD y w w x.1 x.2)) (λx=>gC w x.1 x.2 (jD y w w x.1 x.2)) (Jz (w:) (w:))
 have e3:=Hf (OM (w:) (w:)) (eh y w) (λx=>decide (0<jD y w w x.1 x.2)) (λx=>gC w x.1 x.2 (jD y w w x.1 x.2)) (λx hx hp=>by
  obtain ⟨hi,hj⟩:=CH.mp hx
  have hm:=of_decide_eq_true hp
  obtain ⟨a,ha⟩:∃a,jD y w w x.1 x.2=a+1:=⟨_,(Nat.succ_pred_eq_of_pos hm).symm⟩
  have et:eh y w x=(gv (w:) ((x.2:Int) - a),gv (w:) ((x.1:Int)+a)):=by
   unfold eh
   rw[ha,show (x.2:Int) - ((a+1:Nat):Int)+1=x.2 - a by lia,show (x.1:Int)+((a+1:Nat):Int) - 1=x.1+a by lia]
  have em:jD y w w (eh y w x).1 (eh y w x).2=a+1:=by
   rw[et]
   show al y (sq w (gv (w:) ((x.2:Int) - a):Nat)) (bq w (gv (w:) ((x.1:Int)+a):Nat)) ((w:)+(w:))=a+1
   rw[b8 hw.ne,oJ hw.ne]
   exact K1 hy hw ha
  have m0:∀{i:Nat},i<(w:)->(i:Int)%(w:)=i:=λ{i} hi=>Qa7 () ()
  have c1:(((gv (w:) ((x.1:Int)+a):Nat):Int) - a)%(w:)=x.1:=by
   rw[ck lw,Qeq,Qdu _ (Qf6 _), <-Qeq,show (x.1:Int)+a - a=x.1 by lia,m0 hi]
  have c2:(((gv (w:) ((x.2:Int) - a):Nat):Int)+a)%(w:)=x.2:=by
   rw[ck lw,Qdt,show (x.2:Int) - a+a=x.2 by lia,m0 hj]
  have ett:eh y w (eh y w x)=x:=by
   have:eh y w (eh y w x)=(gv (w:) (((eh y w x).2:Int) - a),gv (w:) (((eh y w x).1:Int)+a)):=by
    unfold eh at em ⊢
    simp only at em ⊢
    rw[em,show ∀z:Int,z - ((a+1:Nat):Int)+1=z - a from λz=>by lia,show ∀z:Int,z+((a+1:Nat):Int) - 1=z+a from λz=>by lia]
   rw[this,et]
   refine Prod.ext ?_ ?_
   ·show gv (w:) (((gv (w:) ((x.1:Int)+a):Nat):Int) - a)=x.1
    have:=ck lw (((gv (w:) ((x.1:Int)+a):Nat):Int) - a)
    rw[c1]at this;lia
   ·show gv (w:) (((gv (w:) ((x.2:Int) - a):Nat):Int)+a)=x.2
    have:=ck lw (((gv (w:) ((x.2:Int) - a):Nat):Int)+a)
    rw[c2]at this;lia
  refine ⟨?_,decide_eq_true (by rw[em];lia),ett,?_⟩
  ·rw[et];exact CH.mpr ⟨bo lw ((x.2:Int) - a),bo lw ((x.1:Int)+a)⟩
  ·show gC w (eh y w x).1 (eh y w x).2 (jD y w w (eh y w x).1 (eh y w x).2)=!gC w x.1 x.2 (jD y w w x.1 x.2)
   rw[em,ha,et]
   unfold gC
   simp only
   rw[show ∀z:Int,z - ((a+1:Nat):Int)+1=z - a from λz=>by lia,show ∀z:Int,z - ((a+1:Nat):Int)+1=z - a from λz=>by lia,show ∀z:Int,z+((a+1:Nat):Int) - 1=z+a from λz=>by lia,show ∀z:Int,z+((a+1:Nat):Int) - 1=z+a from λz=>by lia,c1,c2,ck lw,ck lw]
   refine GX λq=>KN (i:=x.1) (j:=x.2) hy hw hm ?_
   have q1:=q.1
   show ((x.2:Int) - (jD y w w x.1 x.2:Nat)+1)%(w:)=x.1
   rw[ha,show (x.2:Int) - ((a+1:Nat):Int)+1=x.2 - a by lia]
   exact q1)
 rw[e1]
 lia
end
section
variable{y:Z}{ws:List Z}
theorem yY(y w v:Z)(c i d j:Nat):((OC y w v c i d j:):Int)=one (Vc y w v i j=true)+one (0<TF y w v i j):=by
 unfold OC
 rw[U3]
 by_cases p:Vc y w v i j=true<;>by_cases q:0<TF y w v i j<;>simp only[p,q,if_true,if_false,dG,aT,Qaz,Qgd,not_false_eq_true]<;>simp[one]
theorem CJ(y w v:Z)(c i d j:Nat):((Xk y w v c i d j:):Int)=one (0<jD y w v i j/\ ¬(c=d/\gC w i j (jD y w v i j)=true)):=by
 unfold Xk
 by_cases z:jD y w v i j=0\/(c=d/\gC w i j (jD y w v i j)=true)
 ·rw[if_pos z,aT (λq=>z.elim (λz=>by lia) q.2)];rfl
 ·rw[if_neg z,dG ⟨Nat.pos_of_ne_zero λq=>z (.inl q),λq=>z (.inr q)⟩];rfl
theorem CK{c d i j:Nat}(h:c<d):((vf y ws (c,i) (d,j):):Int)=fc y (ws|||c) (ws|||d) i j:=by
 unfold vf
 have l:tY (c:Int) i d j=true:=by unfold tY;rw[if_neg ()];exact decide_eq_true ()
 rw[if_pos l,if_pos (Qbo h),U3,Qbk,yY,CJ]
 have e:one (0<jD y (ws|||c) (ws|||d) i j/\ ¬(c=d/\gC (ws|||c) i j (jD y (ws|||c) (ws|||d) i j)=true))=one (0<al y (sq (ws|||c) i) (bq (ws|||d) j) (((ws|||c):)+((ws|||d):))):=bu ⟨λq=>q.1,λq=>⟨q,λz=>by lia⟩⟩
 unfold fc
 rw[<-e]
 rfl
theorem Hi{c d i j:Nat}(h:d<c):((vf y ws (c,i) (d,j):):Int)=0:=by
 unfold vf
 have l: ¬tY (c:Int) i d j=true:=by unfold tY;rw[if_neg (),decide_eq_true_iff];lia
 rw[if_neg l,if_neg (by simp;lia)]
 rfl
theorem Hj{c i j:Nat}:((vf y ws (c,i) (c,j):):Int)=(if (i:Int)<j then one (Vc y (ws|||c) (ws|||c) i j=true)+one (0<TF y (ws|||c) (ws|||c) i j) else 0)+one (0<jD y (ws|||c) (ws|||c) i j/\ ¬gC (ws|||c) i j (jD y (ws|||c) (ws|||c) i j)=true):=by
 unfold vf
 have l:tY (c:Int) i c j=decide ((i:Int)<j):=by unfold tY;rw[if_pos rfl]
 simp only
 rw[if_pos (YS c),U3,Qbk,CJ,l]
 congr 1
 ·by_cases z:(i:Int)<j
  ·rw[if_pos (decide_eq_true z),if_pos z,yY]
  ·rw[if_neg (by simpa using z),if_neg z];rfl
 ·exact bu ⟨λq=>⟨q.1,λz=>q.2 ⟨rfl,z⟩⟩,λq=>⟨q.1,λz=>q.2 z.2⟩⟩
theorem vn{c:Nat}(hy:Yd y)(hw:SW y (ws|||c)):2*bH ((ws|||c):) ((ws|||c):) (λi j=>((vf y ws (c,i.toNat) (c,j.toNat):):Int))=bH ((ws|||c):) ((ws|||c):) (fc y (ws|||c) (ws|||c)):=by
 generalize hg:(ws|||c)=w at*
 have e1:bH (w:) (w:) (λi j=>((vf y ws (c,i.toNat) (c,j.toNat):):Int))=bH (w:) (w:) (λi j=>(if i<j then one (ac y (ak (rd w (i - 1))) (rd w i) (ak (rd w (j - 1))) (rd w j)=true)+one (0<al y (sq w i) (sq w j) ((w:)+(w:))) else 0)+one (0<jD y w w i.toNat j.toNat/\ ¬gC w i.toNat j.toNat (jD y w w i.toNat j.toNat)=true)):=br λi j _ _=>by
  rw[YQ,YQ,Hj,hg]
  rfl
 have e2:bH (w:) (w:) (λi j=>one (0<jD y w w i.toNat j.toNat/\ ¬gC w i.toNat j.toNat (jD y w w i.toNat j.toNat)=true))=(((Jz (w:) (w:)).filter λx=>decide (0<jD y w w x.1 x.2)&&!gC w x.1 x.2 (jD y w w x.1 x.2)):):=
  wR (Q:=λi j=>0<jD y w w i.toNat j.toNat/\ ¬gC w i.toNat j.toNat (jD y w w i.toNat j.toNat)=true) (P:=λx=>decide (0<jD y w w x.1 x.2)&&!gC w x.1 x.2 (jD y w w x.1 x.2)) λi j _ _=>by
   rw[YQ,YQ,Qbt,decide_eq_true_iff]
   simp
 have e3:=K2 hy hw
 have ty:∀k,ak (rd w (k - 1))≠rd w k:=λk=>Ne.symm (hw.red k)
 have t1:=kK (n:=(w:)) (h:=λi j=>one (ac y (ak (rd w (i - 1))) (rd w i) (ak (rd w (j - 1))) (rd w j)=true)) (λi j _ _=>by
  rw[He hy (hy.cl _ (hw.rd _)) (hw.rd _) (hy.cl _ (hw.rd _)) (hw.rd _) (ty _) (ty _)]) (λi _=>aT (by unfold ac;rw[if_pos (.inl rfl)];decide))
 have t2:=kK (n:=(w:)) (h:=λi j=>one (0<al y (sq w i) (sq w j) ((w:)+(w:)))) (λi j _ _=>by
  have hd:=λ(i j:Int) z=>gL (f:=sq w i) (g:=sq w j) hw.ne hw.ne (λk=>cR w i k) (λk=>cR w j k) z
  have k1:=rL hy (a_ hw i) (a_ hw j) (hd i j)
  have k2:=rL hy (a_ hw j) (a_ hw i) (hd j i)
  exact bu ⟨λq=>k2.mp (CG hy (a_ hw i) (a_ hw j) (k1.mpr q)),λq=>k1.mp (CG hy (a_ hw j) (a_ hw i) (k2.mpr q))⟩) (λi _=>aT (by rw[Hg rfl];exact Qbu _))
 rw[e1,cb,Hh (λi j=>one (ac y (ak (rd w (i - 1))) (rd w i) (ak (rd w (j - 1))) (rd w j)=true)+one (0<al y (sq w i) (sq w j) ((w:)+(w:)))),CC,e2]
 have e4:bH (w:) (w:) (fc y w w)=bH (w:) (w:) (λi j=>one (ac y (ak (rd w (i - 1))) (rd w i) (ak (rd w (j - 1))) (rd w j)=true))+bH (w:) (w:) (λi j=>one (0<al y (sq w i) (sq w j) ((w:)+(w:))))+bH (w:) (w:) (λi j=>one (0<al y (sq w i) (bq w j) ((w:)+(w:)))):=by
  rw[<-cb, <-cb];rfl
 lia
end
theorem qx(n:Nat)(h:Int->Int->Int):∀m:Nat,sm n (λi=>sm m λj=>h i j)=sm m λj=>sm n λi=>h i j
 | 0=>dH n
 | m+1=>by
  show bH n (m+1) h=sm m (λj=>sm n λi=>h i j)+sm n (λi=>h i m)
  rw[m7, <-qx n h m]
  rfl
theorem rQ{α β:Type}(F:α->List β):∀l:List α,((l.flatMap F:):Int)=(l.map λx=>((F x:):Int)).sum
 | []=>rfl
 | a::l=>by
  rw[Qa3,U3,Qbk,rQ F l,Qav,Qcs]
theorem oK(h:Nat->Int):∀n:Nat,((List.range n).map h).sum=sm n (λi=>h i.toNat)
 | 0=>rfl
 | n+1=>by
  rw[Qb7,Qad,List.sum_append,oK h n]
  show _=sm n _+h (((n:Nat):Int).toNat)
  rw[YQ]
  simp
theorem qy(ws:List Z)(h:Nat×Nat->Int):∀n:Nat,((uc ws n).map h).sum=sm n λc=>sm (ws.getD c.toNat []:) λi=>h (c.toNat,i.toNat)
 | 0=>rfl
 | n+1=>by
  unfold uc
  rw[Qad,List.sum_append,qy ws h n,Qbq]
  show _+((List.range _).map λi=>h (n,i)).sum=_
  rw[oK]
  rfl
noncomputable def cl{α:Type}(p:α->α->Bool):List α->Nat
 | []=>0
 | x::r=>(r.filter (p x):)+cl p r
theorem AY{α:Type}(p:α->α->Bool)(m:List α):∀l:List α,(cl p (l++m):Int)=cl p l+cl p m+(l.map λx=>((m.filter (p x):):Int)).sum
 | []=>by show (cl p m:Int)=((0:Nat):Int)+cl p m+0;lia
 | a::l=>by
  show ((((l++m).filter (p a):)+cl p (l++m):Nat):Int)=(((l.filter (p a):)+cl p l:Nat):Int)+cl p m+(((a::l).map λx=>((m.filter (p x):):Int)).sum)
  rw[Qcg,U3,Qav,Qcs,Qbk,Qbk,AY p m l,Qbk]
  lia
theorem AZ(p:Nat×Nat->Nat×Nat->Bool)(c:Nat):∀n:Nat,(cl p ((List.range n).map λi=>(c,i)):Int)=iA n (λi j=>one (p (c,i.toNat) (c,j.toNat)=true))
 | 0=>rfl
 | n+1=>by
  rw[Qb7,Qad,AY,AZ p c n,Qbq]
  show _+((0:Nat):Int)+((List.range n).map λi=>((([(c,n)]:List (Nat×Nat)).filter (p (c,i)):):Int)).sum=iA n _+sm n _
  rw[oK,Qe1]
  congr 1
  rw[show ((0:Nat):Int)=0 from rfl,Qcz]
  refine aI λi _=>?_
  show (((([(c,n)]:List (Nat×Nat)).filter (p (c,i)):):Int))=one (p (c,((i:Nat):Int).toNat) (c,((n:Nat):Int).toNat)=true)
  rw[YQ,YQ]
  cases e:p (c,i) (c,n)
  ·rw[Qa6 (by rw[e];decide),aT ∅];rfl
  ·rw[Qbe e,dG rfl];rfl
theorem K3(P:Nat×Nat->Bool)(c n:Nat):((((List.range n).map λi=>(c,i)).filter P:):Int)=sm n (λj=>one (P (c,j.toNat)=true)):=by
 rw[Qfj,Qi,AX (P:=λj=>P (c,j)) λj _=>by rw[YQ]]
 rfl
theorem A0(ws:List Z)(p:Nat×Nat->Nat×Nat->Bool):∀n:Nat,(cl p (uc ws n):Int)=sm n (λc=>iA (ws.getD c.toNat []:) (λi j=>one (p (c.toNat,i.toNat) (c.toNat,j.toNat)=true)))+iA n (λc d=>bH (ws.getD c.toNat []:) (ws.getD d.toNat []:) λi j=>one (p (c.toNat,i.toNat) (d.toNat,j.toNat)=true))
 | 0=>rfl
 | n+1=>by
  unfold uc
  rw[AY,A0 ws p n,AZ,qy]
  have u:((n:Nat):Int).toNat=n:=YQ n
  show _+_+sm n _=(sm n _+iA (ws.getD ((n:Nat):Int).toNat []:) (λi j=>one (p (((n:Nat):Int).toNat,i.toNat) (((n:Nat):Int).toNat,j.toNat)=true)))+(iA n _+sm n (λc=>bH (ws.getD c.toNat []:) (ws.getD ((n:Nat):Int).toNat []:) λi j=>one (p (c.toNat,i.toNat) (((n:Nat):Int).toNat,j.toNat)=true)))
  rw[u]
  have:sm n (λc=>sm (ws.getD c.toNat []:) λi=>(((((List.range ((ws|||n):)).map λi=>(n,i)).filter (p (c.toNat,i.toNat)):):Nat):Int))=sm n (λc=>bH (ws.getD c.toNat []:) ((ws|||n):) λi j=>one (p (c.toNat,i.toNat) (n,j.toNat)=true)):=aI λc _=>aI λi _=>K3 _ _ _
  rw[this]
  lia
theorem Hk{h:Int->Int->Int}:∀{n:Nat},(∀i j:Nat,j<i->i<n->h i j=0)->bH n n h=sm n (λi=>h i i)+iA n h
 | 0,_=>rfl
 | n+1,z=>by
  rw[m7,kJ,Hk (n:=n) λi j h1 h2=>z i j h1 (),aI (h:=λj=>h n j) (g:=λ_=>0) (λj hj=>z n j hj ()),dH]
  show _+0+(sm n (λi=>h i n)+h n n)=(sm n (λi=>h i i)+h n n)+(iA n h+sm n (λj=>h j n))
  lia
theorem yZ(y:Z)(ws:List Z):((GW y ws:):Int)=sm (ws:) (λc=>bH (ws.getD c.toNat []:) (ws.getD c.toNat []:) λi j=>((vf y ws (c.toNat,i.toNat) (c.toNat,j.toNat):):Int))+iA (ws:) (λc d=>bH (ws.getD c.toNat []:) (ws.getD d.toNat []:) λi j=>((vf y ws (c.toNat,i.toNat) (d.toNat,j.toNat):):Int)):=by
 unfold GW places
 rw[rQ]
 have e:((uc ws (ws:)).map λo=>((((uc ws (ws:)).flatMap λp=>vf y ws o p):):Int))=(uc ws (ws:)).map λo=>sm (ws:) λd=>sm (ws.getD d.toNat []:) λj=>((vf y ws o (d.toNat,j.toNat):):Int):=Qco λo _=>by rw[rQ,qy]
 rw[e,qy]
 have e2:sm (ws:) (λc=>sm (ws.getD c.toNat []:) λi=>sm (ws:) λd=>sm (ws.getD d.toNat []:) λj=>((vf y ws (c.toNat,i.toNat) (d.toNat,j.toNat):):Int))=bH (ws:) (ws:) (λc d=>bH (ws.getD c.toNat []:) (ws.getD d.toNat []:) λi j=>((vf y ws (c.toNat,i.toNat) (d.toNat,j.toNat):):Int)):=aI λc _=>qx _ _ _
 rw[e2,Hk]
 intro c d TK _
 rw[YQ,YQ]
 have:∀n m:Nat,bH n m (λ_ _=>0)=0:=λn m=>by unfold bH;rw[show (λ_:Int=>sm m λ_=>0)=λ_=>0 from funext λ_=>dH _,dH]
 rw[<-this ((ws|||c):) ((ws|||d):)]
 exact br λi j _ _=>Hi TK
section
variable{y:Z}{ws:List Z}{L:Nat->Bool}{r:Nat->Nat}{M:Nat}{N:Nat->Nat->Nat->Nat}
noncomputable def A1(ws:List Z)(N:Nat->Nat->Nat->Nat)(o p:Nat×Nat):Bool:=eA (pO ws N o.1) (pI ws N o.1) (pO ws N p.1) (pI ws N p.1) o.2 p.2
end
def Lx(f g:Int->Nat):Prop:=∃m:Nat,f m<g m/\∀l:Nat,l<m->f l=g l
theorem wU{w:Z}(hw:w≠[]){i k:Nat}(hi:i<=(w:))(hk:k<(w:)):(dA w i)[k]? =some (rd w ((i:Int)+k)):=by
 rw[qu hi hk]
 unfold Fw
 have:=fN hw ((i:Int)+k)
 rw[<-this]
 congr 1
 have e:(((k+i)%(w:):Nat):Int)=((i:Int)+k)%(w:):=by rw[Qe3,Qbk,Int.add_comm]
 lia
theorem Hl{w u:Z}(hw:w≠[])(hl:(u:)=(w:)){i j:Nat}(hi:i<=(w:))(hj:j<=(w:)):dA w i<dA u j↔Lx (sq w i) (sq u j):=by
 have hu:u≠[]:=λz=>hw (by rw[z]at hl;exact Qca.mp hl.symm)
 have g1:∀{k:Nat} (hk:k<(dA w i:)),(dA w i)[k]=sq w i k:=λ{k} hk=>by
  have:=wU hw hi (k:=k) (by rw[cD]at hk;exact hk)
  rw[NT hk]at this
  exact Qaj this
 have g2:∀{k:Nat} (hk:k<(dA u j:)),(dA u j)[k]=sq u j k:=λ{k} hk=>by
  have:=wU hu (i:=j) (k:=k) () (by rw[cD]at hk;exact hk)
  rw[NT hk]at this
  exact Qaj this
 rw[List.lt_iff_exists]
 constructor
 ·rintro (⟨_,h⟩ | ⟨m,h1,h2,h3,h4⟩)
  ·rw[cD,cD,hl]at h;lia
  ·refine ⟨m,by rw[<-g1 h1, <-g2 h2];exact h4,λl xW=>?_⟩
   rw[<-g1 (), <-g2 ()]
   exact h3 l xW
 ·rintro ⟨m,h1,h2⟩
  have hp:=YR.mpr hw
  have hm:m<(w:):=by
   refine Classical.byContradiction λz=>?_
   have d:=Qfh m (w:)
   have c1:=i_ (f:=sq w i) (p:=(w:)) (λk=>cR w i k) (m%(w:):Nat) (m / (w:))
   have c2:=i_ (f:=sq u j) (p:=(w:)) (λk=>by rw[<-hl];exact cR u j k) (m%(w:):Nat) (m / (w:))
   have e:((m%(w:):Nat):Int)+((m / (w:):Nat):Int)*((w:):Nat)=m:=by
    rw[Qer];exact_mod_cast d
   rw[e]at c1 c2
   rw[c1,c2,h2 (m%(w:)) (by have:=Qdg m hp;lia)]at h1
   lia
  refine .inr ⟨m,by rw[cD];exact hm,by rw[cD,hl];exact hm,λl xW=>?_,?_⟩
  ·rw[g1,g2];exact h2 l xW
  ·rw[g1,g2];exact h1
theorem m8{w:Z}(hw:w≠[]):∃i:Nat,i<(w:)/\cU w=dA w i:=by
 have hp:=YR.mpr hw
 rcases i7 (jz w ((w:) - 1)) w with h | h
 ·exact ⟨0,hp,by unfold cU;rw[h,mW]⟩
 ·unfold jz at h
  obtain ⟨k,hk,e⟩:=Qam.mp h
  have:=Qax.mp hk
  exact ⟨k+1,(),by unfold cU;exact e.symm⟩
theorem pK{w:Z}{i:Nat}(hi:i<(w:)): ¬dA w i<cU w:=by
 unfold cU
 refine i8 _ _ _ ?_
 cases i with
 | zero=>rw[mW];exact Qac
 | succ i=>exact Qae _ (Qam.mpr ⟨i,Qax.mpr (),rfl⟩)
noncomputable def leads(w:Z):Bool:=decide (cU w<cU (iI w))
theorem kL{v:Z}(h:v≠[])(k:Int):sq (iI v) k=bq v (-1 - k):=by
 funext x
 unfold sq bq
 rw[oA h]
 congr 2;lia
theorem rR{v:Z}(h:v≠[]):iI v≠[]:=λz=>h (Qca.mp (by rw[<-cO v,z];rfl))
theorem vp{w:Z}(hw:w≠[]):leads w=true↔ ∃i:Int,∀j:Int,Lx (sq w i) (bq w j):=by
 have hp:=YR.mpr hw
 have hl:=cO w
 have ht:=rR hw
 unfold leads
 rw[decide_eq_true_iff]
 constructor
 ·intro h
  obtain ⟨i,hi,ei⟩:=m8 hw
  refine ⟨i,λj=>?_⟩
  have hj:=bo (n:=(iI w:)) (by rw[hl];exact hp) (-1 - j)
  have h2:cU w<dA (iI w) (gv (iI w:) (-1 - j)):=List.not_le.mp λz=>by
   have:=List.lt_of_le_of_lt z h
   exact pK hj this
  rw[ei]at h2
  have h3:=(Hl hw hl () ()).mp h2
  rw[b8 ht,kL hw,show -1 - (-1 - j)=j by lia]at h3
  exact h3
 ·rintro ⟨i,h⟩
  obtain ⟨j,hj,ej⟩:=m8 ht
  have h2:=h (-1 - j)
  rw[show (-1:Int) - (j:Int)= -1 - j by lia, <-kL hw, <-b8 hw]at h2
  have hi:=bo hp i
  have h3:=(Hl hw hl () ()).mpr h2
  rw[<-ej]at h3
  exact List.lt_of_le_of_lt (List.not_lt.mp (pK hi)) h3
theorem vq{w v:Z}(hw:w≠[])(hv:v≠[]){i j:Int}(h:bJ w v i j):leads w=leads v:=by
 have e1:∀k,sq w k=sq v (k - i+j):=λk=>by
  funext x
  have:=h (k - i+x)
  unfold sq at this ⊢
  rw[show k+x=i+(k - i+x) by lia,this]
  congr 1;lia
 have e2:∀k,bq w k=bq v (k - i+j):=λk=>by rw[<-ft, <-ft,e1]
 rw[Qdk,vp hw,vp hv]
 constructor
 ·rintro ⟨a,h⟩
  refine ⟨a - i+j,λb=>?_⟩
  have:=h (b - j+i)
  rwa [e1,e2,show b - j+i - i+j=b by lia]at this
 ·rintro ⟨a,h⟩
  refine ⟨a - j+i,λb=>?_⟩
  rw[e1,e2,show a - j+i - i+j=a by lia]
  exact h _
theorem vv{y w:Z}(hy:Yd y)(hw:SW y w):leads (iI w)=!leads w:=by
 have hl:AllLt w:=λc hc=>hy.lt c (hw.bO c hc)
 have ne:cU w≠cU (iI w):=λz=>by
  obtain ⟨i,hi,ei⟩:=m8 hw.ne
  obtain ⟨j,hj,ej⟩:=m8 (rR hw.ne)
  rw[cO]at hj
  have:∀k:Nat,k<(w:)->sq w i k=sq (iI w) j k:=λk hk=>by
   have h1:=wU hw.ne (i:=i) (k:=k) () hk
   have h2:=wU (rR hw.ne) (i:=j) (k:=k) (by rw[cO];lia) (by rw[cO];exact hk)
   rw[<-ei,z,ej,h2]at h1
   exact (Qaj h1).symm
  refine wL hy hw i (-1 - j) ?_
  rw[<-kL hw.ne]
  have hp:=YR.mpr hw.ne
  refine fw (p:=(w:)) (q:=(w:)) hp hp (λk=>cR w i k) (λk=>by rw[<-cO w];exact cR (iI w) j k) λn hn=>?_
  by_cases q:n<(w:)
  ·exact this n q
  ·have c1:=cR w i ((n - (w:):Nat):Int)
   have c2:=cR (iI w) j ((n - (w:):Nat):Int)
   rw[show ((n - (w:):Nat):Int)+(w:)=n by lia]at c1
   rw[cO,show ((n - (w:):Nat):Int)+(w:)=n by lia]at c2
   rw[c1,c2]
   exact this _ ()
 unfold leads
 rw[Ky hl, <-decide_not]
 refine decide_eq_decide.mpr ⟨λh z=>?_,λh=>?_⟩
 ·exact Qd8 _ (List.lt_trans h z)
 ·exact List.not_le.mp λz=>ne (List.le_antisymm z (List.not_lt.mp h))
theorem EH{y w v:Z}(hy:Yd y)(hw:SW y w)(hv:SW y v){i j:Int}(h:∀k,sq w i k=bq v j k):leads v=!leads w:=by
 have:bJ w (iI v) i (-1 - j):=λk=>by rw[kL hv.ne,show -1 - (-1 - j)=j by lia];exact h k
 rw[vq hw.ne (rR hv.ne) this,vv hy hv,Bool.not_not]
theorem Hm{w:Z}(hw:w≠[]){d:Nat}:zN w d↔ ∀k:Int,rd w (k+d)=rd w k:=by
 have hp:=YR.mpr hw
 have fr:∀i:Nat,Fw w i=some (rd w i):=λi=>by
  unfold Fw
  rw[<-fN hw (i:Int)]
  congr 1
 constructor
 ·intro h k
  have:=h (gv (w:) k)
  rw[fr,fr]at this
  have:=Qaj this
  rw[bX hw]at this
  rw[<-this, <-fO w (k+d), <-fO w (((gv (w:) k+d:Nat)):Int),Qbk,ck hp,Qdt]
 ·intro h i
  rw[fr,fr,Qbk,h]
theorem gY{w:Z}(hw:w≠[]){s:Nat}(h:b6 w s):0<s/\∀i j:Int,bJ w w i j↔(i - j)%(s:Int)=0:=by
 rcases h with ⟨z,_⟩ | h'
 ·exact absurd z hw
 have h:b6 w s:= .inr h'
 obtain ⟨h1,h2,h3,_⟩:=h'
 have ps:∀k:Int,rd w (k+s)=rd w k:=(Hm hw).mp ((h7 hw h2).mp (wF h1 h2 h3))
 have pm:∀(k t:Int),rd w (k+t*s)=rd w k:=λk t=>by
  rcases Int.le_total 0 t with q | q
  ·obtain ⟨n,rfl⟩:∃n:Nat,t=n:=⟨t.toNat,()⟩
   exact i_ ps k n
  ·obtain ⟨n,rfl⟩:∃n:Nat,t= -(n:Int):=⟨(-t).toNat,()⟩
   have:=i_ ps (k+ -(n:Int)*s) n
   rw[<-this]
   congr 1
   rw[Int.neg_mul];lia
 refine ⟨h1,λi j=>⟨λp=>?_,λp k=>?_⟩⟩
 ·have pd:∀k:Int,rd w (k+(i - j))=rd w k:=λk=>by
   have:=p (k - j)
   unfold sq at this
   rw[show i+(k - j)=k+(i - j) by lia,show j+(k - j)=k by lia]at this
   exact this
  have e:=Qfn (i - j) s
  have hn:=Qcf (i - j) (b:=(s:Int)) ()
  have dy:=Qcc (i - j) (b:=(s:Int)) ()
  refine Classical.byContradiction λz=>?_
  obtain ⟨d,hd⟩:∃d:Nat,(i - j)%(s:Int)=d:=⟨((i - j)%(s:Int)).toNat,()⟩
  refine b6.least h (j:=d) () () ((Hm hw).mpr λk=>?_)
  have q:=pd k
  rw[<-e,hd,Qer, <-Qe1,pm]at q
  exact q
 ·unfold sq
  have e:=Qfn (i - j) s
  rw[p,Qcz,Qer]at e
  rw[show i+k=j+k+(i - j) by lia, <-e,pm]
theorem y0{y:Z}{ws:List Z}{r:Nat->Nat}{M:Nat}(hy:Yd y)(hw:∀c,c<(ws:)->SW y (ws|||c))(hr:∀c,c<(ws:)->b6 (ws|||c) (r c))(hM:∀c d,c<(ws:)->d<(ws:)->((ws|||c):)+((ws|||d):)<=M):cS y ws (λc=>leads (ws|||c)) r M:=
 ⟨hy,hw,hM,λc d i j hc hd h=>vq (hw c hc).ne (hw d hd).ne h,λc d i j hc hd h=>EH hy (hw c hc) (hw d hd) h,λc hc=>(gY (hw c hc).ne (hr c hc)).1,λc hc=>(gY (hw c hc).ne (hr c hc)).2⟩
noncomputable def bs(y w v:Z)(i j:Int):Int:=one (ac y (ak (rd w (i - 1))) (rd w i) (ak (rd v (j - 1))) (rd v j)=true)+one (jE y (sq w i) (sq v j))+one (jE y (sq w i) (bq v j))
noncomputable def SS(y w v:Z):Int:=bH (w:) (v:) (bs y w v)
theorem CL{y w v:Z}(hy:Yd y)(hw:SW y w)(hv:SW y v):bH (w:) (v:) (fc y w v)=SS y w v:=br λi j _ _=>by
 unfold fc bs
 rw[bu (rL (n:=(w:)+(v:)) hy (a_ hw i) (a_ hv j) λz=>gL hw.ne hv.ne (λk=>cR w i k) (λk=>cR v j k) z),bu (rL (n:=(w:)+(v:)) hy (a_ hw i) (iy hy hv j) λz=>gL hw.ne hv.ne (λk=>cR w i k) (λk=>oz v j k) z)]
theorem TL(w:Z)(i:Int):rd w (i+(w:) - 1)=rd w (i - 1):=by rw[show i+((w:):Int) - 1=i - 1+(w:) by omega,gy]
theorem TM(y w v:Z)(i j:Int):bs y w v (i+(w:)) j=bs y w v i j:=by unfold bs;rw[rN,gy,TL]
def Qt(y:Z)(f g:Int->Nat):Prop:=∃b,Run f g 0 b/\gX y f g 0≠gM y f g b
theorem OO{y:Z}{n m:Nat}{F G:Int->Int->Nat}(bF:∀k,dB (F k)=F (k - 1))(bG:∀k,dB (G k)=G (k - 1))(pF:∀k,F (k+n)=F k)(pG:∀k,G (k+m)=G k):bH n m (λs t=>one (jE y (F s) (G t)))=bH n m λs t=>one (Qt y (F s) (G t)):=by
 have key:∀s t:Int,one (jE y (F s) (G t))+one (∃a b,Run (F (s - 1)) (G (t - 1)) (a+1) b/\gX y (F (s - 1)) (G (t - 1)) (a+1)≠gM y (F (s - 1)) (G (t - 1)) b)=one (Qt y (F s) (G t))+one (∃a b,Run (F s) (G t) (a+1) b/\gX y (F s) (G t) (a+1)≠gM y (F s) (G t) b):=λs t=>by
  rw[<-bF, <-bG]
  generalize F s=f
  generalize G t=g
  by_cases X:∃a b,Run f g a b/\gX y f g a≠gM y f g b
  ·obtain ⟨a,b,r,x⟩:=X
   have u:∀{a' b'},Run f g a' b'->a'=a/\b'=b:=λr'=>r'.one r
   have e1:one (jE y f g)+one (∃a b,Run (dB f) (dB g) (a+1) b/\gX y (dB f) (dB g) (a+1)≠gM y (dB f) (dB g) b)=1:=by
    cases b with
    | zero=>
     rw[dG ⟨a,r,x⟩,aT (λ⟨a',b',r',_⟩=>absurd (u r'.fd).2 (Qdv _))]
     rfl
    | succ b=>
     rw[aT (λ⟨a',r',_⟩=>absurd (u r').2.symm (Qdv _)),dG ⟨a,b,r.bk,by rw[kI,ja];exact x⟩]
     rfl
   have e2:one (Qt y f g)+one (∃a b,Run f g (a+1) b/\gX y f g (a+1)≠gM y f g b)=1:=by
    cases a with
    | zero=>
     rw[dG ⟨b,r,x⟩,aT (λ⟨a',b',r',_⟩=>absurd (u r').1 (Qdv _))]
     rfl
    | succ a=>
     rw[aT (λ⟨b',r',_⟩=>absurd (u r').1.symm (Qdv _)),dG ⟨a,b,r,x⟩]
     rfl
   rw[e1,e2]
  ·rw[aT (λ⟨a,r,x⟩=>X ⟨a,0,r,x⟩),aT (λ⟨a,b,r,x⟩=>X ⟨a,b+1,r.fd,by rw[kI,ja]at x;exact x⟩),aT (λ⟨b,r,x⟩=>X ⟨0,b,r,x⟩),aT (λ⟨a,b,r,x⟩=>X ⟨a+1,b,r,x⟩)]
 have sh:=oF (n:=n) (m:=m) (h:=λs t=>one (∃a b,Run (F s) (G t) (a+1) b/\gX y (F s) (G t) (a+1)≠gM y (F s) (G t) b)) (λi j=>by rw[pF]) (λi j=>by rw[pG])
 refine (Int.add_left_inj (bH n m (λs t=>one (∃a b,Run (F s) (G t) (a+1) b/\gX y (F s) (G t) (a+1)≠gM y (F s) (G t) b)))).mp ?_
 rw[<-cb n m (λs t=>one (Qt y (F s) (G t))), <-sh, <-cb]
 exact br λi j _ _=>key i j
theorem TN{y:Z}{f g:Int->Nat}(hy:Yd y)(hf:iX y f)(hg:iX y g):Qt y f g↔jE y (iQ g) (iQ f):=by
 have a1:∀b:Nat,gX y (iQ g) (iQ f) b=gM y f g b:=λb=>by
  unfold gX gM
  rw[gz hy hf,gz hy hg]
  exact decide_eq_decide.mpr ⟨λq=>by omega,λq=>by omega⟩
 have a2:gM y (iQ g) (iQ f) 0=gX y f g 0:=by
  unfold gX gM
  have e1:=gz hy hf (-1)
  have e2:=gz hy hg (-1)
  rw[show (-1:Int)+1= -((0:Nat):Int) from rfl]at e1 e2
  rw[e1,e2]
  exact decide_eq_decide.mpr ⟨λq=>by have:((y:):Int) - fD y g 1<(y:) - fD y f 1:=q;show fD y f 1<fD y g 1;omega,λq=>by have:fD y f 1<fD y g 1:=q;show ((y:):Int) - fD y g 1<(y:) - fD y f 1;omega⟩
 constructor
 ·rintro ⟨b,r,x⟩
  exact ⟨b,(r.rv hy hf hg).sy,by rw[a1,a2];exact Ne.symm x⟩
 ·rintro ⟨b,r,x⟩
  have r2:=r.rv hy (hg.rv hy) (hf.rv hy)
  rw[m4 hy hf,m4 hy hg]at r2
  rw[a1,a2]at x
  exact ⟨b,r2.sy,Ne.symm x⟩
theorem A2{y:Z}{f g:Int->Nat}(hy:Yd y)(hf:iX y f)(hg:iX y g):jE y f g↔jE y g f:=⟨CG hy hf hg,CG hy hg hf⟩
theorem TQ(w:Z)(k:Int):dB (sq w k)=sq w (k - 1):=by
 funext x
 unfold dB sq
 congr 1
 omega
theorem TR{y w:Z}(hy:Yd y)(h:SW y w)(i:Int):iQ (bq w i)=sq w i:=by rw[<-ft,m4 hy (a_ h i)]
theorem OP{y w v:Z}(hy:Yd y)(hw:SW y w)(hv:SW y v):bH (w:) (v:) (λi j=>one (jE y (bq w i) (sq v j)))=bH (w:) (v:) λi j=>one (jE y (sq w i) (bq v j)):=by
 have fb:∀k,dB (bq v (-k))=bq v (-(k - 1)):=λk=>by
  funext x
  unfold dB bq
  congr 2
  omega
 have fp:∀k:Int,bq v (-(k+(v:)))=bq v (-k):=λk=>by rw[show -(k+((v:):Int))= -k - (v:) by omega,OI]
 have e:=OO (y:=y) (n:=(w:)) (m:=(v:)) (F:=sq w) (G:=λk=>bq v (-k)) (TQ w) fb (rN w) fp
 have n1:∀H:Int->Int->Int,(∀i j,H i (j+(v:))=H i j)->bH (w:) (v:) (λi j=>H i (-j))=bH (w:) (v:) H:=λH P=>aI λi _=>AR (h:=H i) λk=>P i k
 rw[n1 (λi j=>one (jE y (sq w i) (bq v j))) (λi j=>by rw[oG]),n1 (λi j=>one (Qt y (sq w i) (bq v j))) (λi j=>by rw[oG])]at e
 rw[e]
 exact br λi j _ _=>bu (by rw[TN hy (a_ hw i) (iy hy hv j),ft,TR hy hv];exact A2 hy (iy hy hw i) (a_ hv j))
theorem TU{y w:Z}(hy:Yd y)(h:SW y w)(i:Int):ak (rd w (i - 1))∈y/\rd w i∈y/\ak (rd w (i - 1))≠rd w i:=⟨hy.cl _ (h.rd _),h.rd _,Ne.symm (h.red i)⟩
theorem Hn{y w v:Z}(hy:Yd y)(hw:SW y w)(hv:SW y v):SS y w v=SS y v w:=by
 have sw:∀H:Int->Int->Int,bH (v:) (w:) (λj i=>H i j)=bH (w:) (v:) H:=λH=>qx _ _ _
 have e:∀u z:Z,SS y u z=bH (u:) (z:) (λi j=>one (ac y (ak (rd u (i - 1))) (rd u i) (ak (rd z (j - 1))) (rd z j)=true))+bH (u:) (z:) (λi j=>one (jE y (sq u i) (sq z j)))+bH (u:) (z:) (λi j=>one (jE y (sq u i) (bq z j))):=λu z=>by
  unfold SS bs
  rw[cb,cb]
 rw[e w v,e v w, <-OP hy hw hv, <-sw, <-sw, <-sw]
 congr 1
 ·congr 1
  ·exact br λj i _ _=>by
    obtain ⟨a1,a2,a3⟩:=TU hy hw i
    obtain ⟨b1,b2,b3⟩:=TU hy hv j
    rw[He hy a1 a2 b1 b2 a3 b3]
  ·exact br λj i _ _=>bu (A2 hy (a_ hw i) (a_ hv j))
 ·exact br λj i _ _=>bu (A2 hy (iy hy hw i) (a_ hv j))
theorem MI{h:Int->Int}{n:Nat}(P:∀k,h (k+n)=h k):∀k:Nat,sm n (λi=>h (i+k))=sm n h
 | 0=>aI λi _=>by rw[show (i:Int)+((0:Nat):Int)=i by omega]
 | k+1=>by
  rw[<-MI P k, <-wJ (h:=λi=>h (i+k)) (n:=n) (λj=>by rw[show j+(n:Int)+k=j+k+n by omega,P])]
  exact aI λi _=>by rw[show (i:Int)+((k+1:Nat):Int)=i+1+k by omega]
theorem Ho{y w v:Z}(hw:w≠[]){k:Nat}(hk:k<=(w:)):SS y (dA w k) v=SS y w v:=by
 have r:∀i,rd (dA w k) i=rd w (i+k):=rK hw hk
 have ls:(dA w k:)=(w:):=by unfold dA;rw[U3,Qa0,Qas];omega
 have q:∀i,sq (dA w k) i=sq w (i+k):=λi=>by
  funext x
  unfold sq
  rw[r,show i+x+(k:Int)=i+k+x by omega]
 unfold SS
 rw[ls]
 show sm _ (λi=>sm _ λj=>bs y (dA w k) v i j)=sm _ λi=>sm _ λj=>bs y w v i j
 rw[<-MI (h:=λi=>sm (v:) λj=>bs y w v i j) (n:=(w:)) (λi=>aI λj _=>TM y w v i j) k]
 exact aI λi _=>aI λj _=>by
  unfold bs
  rw[q,r,r,show (i:Int) - 1+k=i+k - 1 by omega]
theorem EI{w v:Z}{s t:Nat}(hw:w≠[])(hv:v≠[])(h:b6 w s)(g:b6 v t)(e:∀d:Int,bJ w w d 0↔bJ v v d 0):s=t:=by
 obtain ⟨p1,a⟩:=gY hw h
 obtain ⟨p2,b⟩:=gY hv g
 have key:∀d:Nat,d%s=0↔d%t=0:=λd=>by
  have k:=e d
  rw[a,b,Qep]at k
  have c1:((d%s:Nat):Int)=(d:Int)%(s:Int):=rfl
  have c2:((d%t:Nat):Int)=(d:Int)%(t:Int):=rfl
  rw[<-c1, <-c2]at k
  exact ⟨λq=>Int.ofNat.inj (k.mp (by rw[q];rfl)),λq=>Int.ofNat.inj (k.mpr (by rw[q];rfl))⟩
 exact Qfi (Qfv p2 (Qd7 ((key t).mpr (Qem t)))) (Qfv p1 (Qd7 ((key s).mp (Qem s))))
theorem y6(w:Z)(d:Int):bJ w w d 0↔ ∀k,rd w (d+k)=rd w k:=by
 unfold bJ sq
 exact ⟨λh k=>by have:=h k;rwa [Qcz]at this,λh k=>by rw[Qcz];exact h k⟩
theorem K4{w:Z}(hw:w≠[]){n:Nat}(hn:n<=(w:))(d:Int):bJ (dA w n) (dA w n) d 0↔bJ w w d 0:=by
 rw[y6,y6]
 have r:∀i,rd (dA w n) i=rd w (i+n):=rK hw hn
 constructor
 ·intro h k
  have:=h (k - n)
  rw[r,r,show d+(k - (n:Int))+n=d+k by omega,show k - (n:Int)+n=k by omega]at this
  exact this
 ·intro h k
  rw[r,r,show d+k+(n:Int)=d+(k+n) by omega]
  exact h _
noncomputable def dJ(y:Z):Z:=(y.filter az).mergeSort λa b=>decide (a<=b)
theorem eV(y:Z):(dJ y).Perm (y.filter az):=List.mergeSort_perm _ _
theorem y7(y:Z):(dJ y).Pairwise (· <= ·):=
 (List.pairwise_mergeSort (le:=λa b=>decide (a<=b)) (λa b c h1 h2=>decide_eq_true (Qbf (of_decide_eq_true h1) (of_decide_eq_true h2))) (λa b=>by
  rcases Nat.le_total a b with z | z
  ·rw[decide_eq_true z];rfl
  ·rw[decide_eq_true z,Bool.or_true]) (y.filter az)).imp λz=>of_decide_eq_true z
theorem m9{y l:Z}(h:l.Perm (y.filter az))(p:l.Pairwise (· <= ·)):l=dJ y:=Ez (h.trans (eV y).symm) p (y7 y)
theorem lR{y:Z}(h:∀c∈y,Lt c):(y.filter λc=>decide (c∈aW))=y.filter az:=Qd9 λc hc=>(gK (h c hc)).symm
theorem CM{y:Z}(h:Yd y){e:Nat}(he:e∈y):PyProof.Rows.lo1 e∈dJ y:=by
 refine (eV y).mem_iff.mpr (Qa8.mpr ?_)
 rcases h.lt e he with z | z
 ·rw[(bj e z).2.1];exact ⟨he,(bj e z).1⟩
 ·rw[(b7 e z).2.1];exact ⟨h.cl e he,(bj _ (b7 e z).2.2.2).1⟩
theorem MJ:∀c∈aW++i5,isUp c=decide (c∈i5):=⋯
theorem eF{y:Z}(h:Yd y):2*(dJ y:)=(y:):=by rw[(eV y).length_eq];exact GS h
structure Pr where
 t:Addr
 c:Nat
 i:Nat
noncomputable def e_(ps:List Pr):List V:=ps.map λp=>V.ref p.t
theorem cE(ps:List Pr):(e_ ps:)=(ps:):=by unfold e_;rw[Qi]
theorem CN(a b:List Pr):e_ a++e_ b=e_ (a++b):=by unfold e_;rw[Qad]
theorem rS(a:List Pr)(p:Pr):e_ a++[V.ref p.t]=e_ (a++[p]):=by unfold e_;rw[Qad];rfl
theorem CO(a:List Pr):(e_ a).reverse=e_ a.reverse:=by unfold e_;rw[Qdw]
theorem wV{ps:List Pr}{i:Nat}{x:V}(h:(e_ ps)[i]? =some x):∃p,ps[i]? =some p/\x=V.ref p.t:=by
 unfold e_ at h
 rw[Qag]at h
 cases e:ps[i]? with
 | none=>rw[e]at h;cases h
 | some p=>rw[e]at h;cases h;exact ⟨p,rfl,rfl⟩
structure jB(H:Hp)(p:Pr):Prop where
 tp:H p.t=some (.tup [.int p.c,.int p.i])
 cz:p.c<1000
 iz:p.i<1000
theorem jB.same{H H':Hp}{p:Pr}(h:jB H p)(s:aj H H'):jB H' p:=⟨s _ _ h.tp,h.cz,h.iz⟩
structure Od where
 o:Addr
 ps:List Pr
structure p_(H:Hp)(o:Od):Prop where
 tp:H o.o=some (.tup (e_ o.ps))
 pr:∀p∈o.ps,jB H p
 fw:(o.ps:)<=100
theorem p_.same{H H':Hp}{o:Od}(h:p_ H o)(s:aj H H'):p_ H' o:=⟨s _ _ h.tp,λp hp=>(h.pr p hp).same s,h.fw⟩
noncomputable def gn(os:List Od):List V:=os.map λo=>V.ref o.o
theorem gI(os:List Od):(gn os:)=(os:):=by unfold gn;rw[Qi]
theorem m_(a:List Od)(p:Od):gn a++[V.ref p.o]=gn (a++[p]):=by unfold gn;rw[Qad];rfl
theorem rT{os:List Od}{i:Nat}{o:Od}(h:os[i]? =some o):(gn os)[i]? =some (V.ref o.o):=by unfold gn;rw[Qag,h];rfl
structure j7(H:Hp)(dr:Addr)(ws:List Z)(os:List Od):Prop where
 ex:∃wt ot,H dr=some (.tup [.ref wt,.ref ot])/\H wt=some (.tup (jy ws))/\H ot=some (.tup (gn os))
 od:∀o∈os,p_ H o
theorem j7.same{H H':Hp}{dr:Addr}{ws:List Z}{os:List Od}(h:j7 H dr ws os)(s:aj H H'):j7 H' dr ws os:=by
 obtain ⟨⟨wt,ot,h1,h2,h3⟩,g⟩:=h
 exact ⟨⟨wt,ot,s _ _ h1,s _ _ h2,s _ _ h3⟩,λo ho=>(g o ho).same s⟩
noncomputable def A3(y:Z)(os:List Od)(e:Nat):List Pr:=((os[(dJ y).idxOf (PyProof.Rows.lo1 e)]?).map Od.ps).getD []
noncomputable def nN(y:Z)(os:List Od)(e:Nat):List Pr:=if isUp e=true then (A3 y os e).reverse else A3 y os e
theorem iR{y:Z}{os:List Od}{e:Nat}(h:Yd y)(he:e∈y)(ho:2*(os:)=(y:)):∃o∈os,os[(dJ y).idxOf (PyProof.Rows.lo1 e)]? =some o/\A3 y os e=o.ps:=by
 have hi:=Qan (CM h he)
 have hl:=eF h
 have TV:(dJ y).idxOf (PyProof.Rows.lo1 e)<(os:):=by lia
 exact ⟨os[(dJ y).idxOf (PyProof.Rows.lo1 e)],Qa1 TV,NT TV,by unfold A3;rw[NT TV];rfl⟩
structure Pt where
 t:Addr
 c:Nat
 i:Nat
 e:Nat
noncomputable def JA(ps:List Pt):List V:=ps.map λp=>V.ref p.t
theorem CP(ps:List Pt):(JA ps:)=(ps:):=by unfold JA;rw[Qi]
theorem Hq(a:List Pt)(p:Pt):JA a++[V.ref p.t]=JA (a++[p]):=by unfold JA;rw[Qad];rfl
noncomputable def Pt.is(p:Pt):Nat×Nat×Nat:=(p.c,p.i,p.e)
structure ue(H:Hp)(p:Pt):Prop where
 tp:H p.t=some (.tup [.int p.c,.int p.i,.str (S [p.e])])
 cz:p.c<1000
 iz:p.i<1000
 ez:p.e<128
theorem ue.same{H H':Hp}{p:Pt}(h:ue H p)(s:aj H H'):ue H' p:=⟨s _ _ h.tp,h.cz,h.iz,h.ez⟩
theorem ue.upd{H:Hp}{p:Pt}{q:Addr}{o:HO}(h:ue H p)(n:p.t≠q):ue (L2.upd H q o) p:=⟨by rw[aq n];exact h.tp,h.cz,h.iz,h.ez⟩
noncomputable def dZ(y:Z)(os:List Od)(e:Nat):List (Nat×Nat×Nat):=(nN y os e).map λp=>(p.c,p.i,e)
noncomputable def cV(y:Z)(os:List Od):List (Nat×Nat×Nat):=y.flatMap (dZ y os)
def Hr(K:Fr)(H:Hp)(x:V)(ys:List V):Prop:=(∃p,x= .ref p/\(bf K H p ys\/cu K H p ys))\/∃l:Z,x= .str (S l)/\ys=cT l
def vw(K:Fr):Sp:=λvs H Q _=>∃(b:Addr) (x:V) (ys:List V),vs=[.ref b,x]/\bM H b/\Hr K H x ys/\(ys:)<=1000/\∀q Ze H',H q=none->q≠b->H' q=some (.lst Ze)->Ze.Perm ys->bM H' b->aG b H H'->Q (.ref q) H'
theorem A4{K:Fr}{vs:List V}{H:Hp}{Q:VK}{E:XK}(h:vw K vs H Q E):(vs:)=2:=by obtain ⟨c,_,_,rfl,_⟩:=h;rfl
theorem A5{α β:Type}{f:α->β}{ys zs:List β}(h:ys.Perm zs):∀l:List α,zs=l.map f->∃l':List α,ys=l'.map f/\l'.Perm l:=by
 induction h with
 | nil=>intro l e;cases l with
  | nil=>exact ⟨[],rfl,Qcn _⟩
  | cons a l=>cases e
 | cons x h ih=>
  intro l e
  cases l with
  | nil=>cases e
  | cons a l=>
   injection e with e1 e2
   obtain ⟨l',g1,g2⟩:=ih l e2
   exact ⟨a::l',by rw[g1,e1];rfl,g2.cons a⟩
 | swap x y t=>
  intro l e
  cases l with
  | nil=>cases e
  | cons a l=>
   cases l with
   | nil=>cases e
   | cons b l=>
    injection e with e1 e2
    injection e2 with e2 e3
    exact ⟨b::a::l,by rw[e1,e2,e3];rfl,List.Perm.swap a b l⟩
 | trans h1 h2 i1 i2=>
  intro l e
  obtain ⟨l1,g1,g2⟩:=i2 l e
  obtain ⟨l2,g3,g4⟩:=i1 l1 g1
  exact ⟨l2,g3,g4.trans g2⟩
noncomputable def Pr.pair(p:Pr):Nat×Nat:=(p.c,p.i)
noncomputable def y8(band l:Nat):Bool:=decide (l=band)||decide (l=ak band)
noncomputable def h_(band c:Nat)(w:Z)(n:Nat):List (Nat×Nat):=((List.range n).filter λi=>y8 band (w.getD i 0)).map λi=>(c,i)
noncomputable def cB(band:Nat)(ws:List Z)(n:Nat):List (Nat×Nat):=(List.range n).flatMap λc=>h_ band c (ws|||c) ((ws|||c):)
theorem lS{band c i l:Nat}{w:Z}(h:w[i]? =some l):h_ band c w (i+1)=h_ band c w i++if y8 band l=true then [(c,i)] else []:=by
 have e:w.getD i 0=l:=by rw[Qaa,h];rfl
 unfold h_
 rw[Qb7,Qcg,Qad]
 congr 1
 by_cases z:y8 band l=true
 ·rw[if_pos z,Qbe (by rw[e];exact z)];rfl
 ·rw[if_neg z,Qa6 (by rw[e];exact z)];rfl
theorem j8{band i:Nat}{ws:List Z}{w:Z}(h:ws[i]? =some w):cB band ws (i+1)=cB band ws i++h_ band i w (w:):=by
 have e:(ws|||i)=w:=by rw[Qaa,h];rfl
 unfold cB
 rw[Qb7,Qaw]
 congr 1
 rw[Qa3,Qef,Qa4,e]
structure wW(y:Z)(ws:List Z):Prop where
 t_:(ws:)<=4
 all:∀w∈ws,(∀c∈w,c∈y)/\(w:)<=12
def gA(y:Z)(ws:List Z)(os:List Od):Prop:=(os:)=(dJ y:)/\∀(j:Nat) (o:Od) (b:Nat),os[j]? =some o->(dJ y)[j]? =some b->(o.ps.map Pr.pair).Perm (cB b ws (ws:))
def lA(_:Fr):Sp:=λvs H Q _=>∃(y:Z) (dr:Addr) (ws:List Z) (os:List Od) (e:Nat),vs=[.str (S y),.ref dr,.str (S [e])]/\Yd y/\(y:)<=8/\e∈y/\2*(os:)=(y:)/\j7 H dr ws os/\∀(q:Addr) (H':Hp),H q=none->H' q=some (.lst (e_ (nN y os e)))->aj H H'->Q (.ref q) H'
theorem rV{K:Fr}{vs:List V}{H:Hp}{Q:VK}{E:XK}(h:lA K vs H Q E):(vs:)=3:=by obtain ⟨c,_,_,_,_,rfl,_⟩:=h;rfl
def vx(_:Fr):Sp:=λvs H Q _=>∃(y:Z) (dr:Addr) (ws:List Z) (os:List Od),vs=[.str (S y),.ref dr]/\Yd y/\(y:)<=8/\2*(os:)=(y:)/\j7 H dr ws os/\∀(q:Addr) (ps:List Pt) (H':Hp),H q=none->H' q=some (.lst (JA ps))->(∀p∈ps,ue H' p/\p.t≠q)->ps.map Pt.is=cV y os->(ps:)<=800->aj H H'->Q (.ref q) H'
theorem A6{K:Fr}{vs:List V}{H:Hp}{Q:VK}{E:XK}(h:vx K vs H Q E):(vs:)=2:=by obtain ⟨c,_,_,_,rfl,_⟩:=h;rfl
theorem K5{y:Z}{os:List Od}{e:Nat}{p:Pr}(h:Yd y)(he:e∈y)(ho:2*(os:)=(y:))(hp:p∈nN y os e):∃o∈os,p∈o.ps:=by
 obtain ⟨o,h1,h2,h3⟩:=iR h he ho
 refine ⟨o,h1,?_⟩
 unfold nN at hp
 rw[h3]at hp
 split at hp
 ·exact Qed.mp hp
 ·exact hp
theorem K6{H:Hp}{y:Z}{os:List Od}{e:Nat}(h:Yd y)(he:e∈y)(ho:2*(os:)=(y:))(hd:∀o∈os,p_ H o):(nN y os e:)<=100:=by
 obtain ⟨o,h1,h2,h3⟩:=iR h he ho
 have:=(hd o h1).fw
 unfold nN
 rw[h3]
 split
 ·rw[Qbb];exact this
 ·exact this
theorem aR.box{H H':Hp}{b:Addr}(h:bM H b)(s:aG b H H'):aR H H':=λc xs e=>s c _ e λz=>by
 obtain ⟨x,y,g⟩:=h
 rw[z,g]at e;cases e
theorem jB.ts{H H':Hp}{p:Pr}(h:jB H p)(s:aR H H'):jB H' p:=⟨s _ _ h.tp,h.cz,h.iz⟩
theorem p_.ts{H H':Hp}{o:Od}(h:p_ H o)(s:aR H H'):p_ H' o:=⟨s _ _ h.tp,λp hp=>(h.pr p hp).ts s,h.fw⟩
theorem j7.ts{H H':Hp}{dr:Addr}{ws:List Z}{os:List Od}(h:j7 H dr ws os)(s:aR H H'):j7 H' dr ws os:=by
 obtain ⟨⟨wt,ot,h1,h2,h3⟩,g⟩:=h
 exact ⟨⟨wt,ot,s _ _ h1,s _ _ h2,s _ _ h3⟩,λo ho=>(g o ho).ts s⟩
theorem Hs{band l:Nat}(hb:band∈aW)(hl:Lt l):decide (PyProof.Rows.lo1 l=band)=y8 band l:=by
 unfold y8
 rcases hl with h | h
 ·have e:=(bj l h).2.1
  have n:l≠ak band:=λz=>ow _ (bj band hb).2.2 (z▸h)
  rw[e,decide_eq_false n,Qfy]
 ·have e:=(b7 l h).2.1
  have n:l≠band:=λz=>ow l h (z▸hb)
  rw[e,decide_eq_false n,Qfz]
  refine decide_eq_decide.mpr ⟨λz=>by rw[<-z,aE (.inr h)],λz=>by rw[z,aE (.inl hb)]⟩
theorem Zf{α:Type}{l:List α}(h:l.Nodup){i j:Nat}(hi:i<(l:))(hj:j<(l:))(e:l[i]=l[j]):i=j:=by
 have hp:=Qc5.mp h
 rcases Nat.lt_trichotomy i j with z | z | z
 ·exact absurd e (hp i j hi hj z)
 ·exact z
 ·exact absurd e.symm (hp j i hj hi z)
theorem vy{l:List (Nat×Nat×Nat)}(h:l.Nodup){n:Nat}{p:Nat×Nat×Nat}(e:l[n]? =some p):l.idxOf p=n:=by
 obtain ⟨hn,e2⟩:=NU.mp e
 have hm:p∈l:=Qai e
 have hi:=Qan hm
 exact Zf h hi hn ((Qcb hi).trans e2.symm)
theorem rW{α:Type}{f:Nat->List α}(g:α->Nat):∀{l:Z},l.Nodup->(∀e∈l,(f e).Nodup)->(∀e∈l,∀p∈f e,g p=e)->(l.flatMap f).Nodup
 | [],_,_,_=>Qfo
 | a::l,hn,h1,h2=>by
  obtain ⟨n1,n2⟩:=Qbc.mp hn
  rw[Qa3,Qb2]
  refine ⟨h1 a Qac,rW g n2 (λe he=>h1 e (Qae _ he)) (λe he=>h2 e (Qae _ he)),λx hx y hy z=>?_⟩
  subst z
  obtain ⟨e,he,hxe⟩:=Qbh.mp hy
  have g1:=h2 a Qac x hx
  have g2:=h2 e (Qae _ he) x hxe
  exact n1 (by rw[<-g1,g2];exact he)
theorem Ht(band c:Nat)(w:Z)(n:Nat):(h_ band c w n).Nodup:=by
 unfold h_
 show (List.map _ _).Pairwise (· ≠ ·)
 rw[Qby]
 exact (Qdd.filter _).imp λ{i j} h z=>h (by cases z;rfl)
theorem oM(band:Nat)(ws:List Z)(n:Nat):(cB band ws n).Nodup:=
 rW Prod.fst Qdd (λc _=>Ht _ _ _ _) λc _ p hp=>by
  unfold h_ at hp
  obtain ⟨i,_,rfl⟩:=Qam.mp hp
  rfl
theorem A7{band c i n:Nat}{ws:List Z}(hc:c<n)(hi:i<((ws|||c):))(hb:y8 band ((ws|||c).getD i 0)=true):(c,i)∈cB band ws n:=
 Qbh.mpr ⟨c,Qax.mpr hc,Qam.mpr ⟨i,Qa8.mpr ⟨Qax.mpr hi,hb⟩,rfl⟩⟩
theorem gA.at{y:Z}{ws:List Z}{os:List Od}{e:Nat}(h:Yd y)(ho:gA y ws os)(he:e∈y):(((nN y os e).map Pr.pair)).Perm (cB (PyProof.Rows.lo1 e) ws (ws:)):=by
 have hl:=eF h
 have xP:=ho.1
 obtain ⟨o,o1,o2,o3⟩:=iR (os:=os) h he ()
 have hm:=CM h he
 have hb:(dJ y)[(dJ y).idxOf (PyProof.Rows.lo1 e)]? =some (PyProof.Rows.lo1 e):=by
  have hi:=Qan hm
  rw[NT hi,Qcb hi]
 have p:=ho.2 _ o _ o2 hb
 unfold nN
 rw[o3]
 split
 ·rw[Qdw]
  exact (List.reverse_perm _).trans p
 ·exact p
theorem A8{y:Z}{ws:List Z}{os:List Od}(h:Yd y)(ho:gA y ws os):(cV y os).Nodup:=by
 refine rW (λp=>p.2.2) h.nd (λe he=>?_) λe _ p hp=>?_
 ·have hn:=(ho.at h he).nodup_iff.mpr (oM _ _ _)
  have e1:dZ y os e=((nN y os e).map Pr.pair).map λx=>(x.1,x.2,e):=by unfold dZ;rw[Qbq];rfl
  rw[e1]
  show (List.map _ _).Pairwise (· ≠ ·)
  rw[Qby]
  exact hn.imp λ{a b} g z=>g (by cases a;cases b;cases z;rfl)
 ·unfold dZ at hp
  obtain ⟨x,_,rfl⟩:=Qam.mp hp
  rfl
theorem y9{y:Z}{ws:List Z}{os:List Od}{c i l e:Nat}{w:Z}(h:Yd y)(ho:gA y ws os)(hw:ws[c]? =some w)(hl:w[i]? =some l)(K7:l∈y)(he:e=l\/e=ak l):(c,i,e)∈cV y os:=by
 have dy:=h.lt l K7
 have A9:e∈y:=by rcases he with rfl | rfl;exact K7;exact h.cl l K7
 have e1:PyProof.Rows.lo1 e=PyProof.Rows.lo1 l:=by
  rcases he with rfl | rfl
  ·rfl
  ·rcases dy with g | g
   ·rw[(b7 _ (bj l g).2.2).2.1,(bj l g).2.1,aE (.inl g)]
   ·rw[(bj _ (b7 l g).2.2.2).2.1,(b7 l g).2.1]
 have hb:PyProof.Rows.lo1 l∈aW:=by
  rcases dy with g | g
  ·rw[(bj l g).2.1];exact g
  ·rw[(b7 l g).2.1];exact (b7 l g).2.2.2
 have hon:y8 (PyProof.Rows.lo1 l) l=true:=by rw[<-Hs hb dy];exact decide_eq_true rfl
 have d1:(ws|||c)=w:=by rw[Qaa,hw];rfl
 have d2:w.getD i 0=l:=by rw[Qaa,hl];rfl
 have hm:(c,i)∈(nN y os e).map Pr.pair:=by
  rw[(ho.at h A9).mem_iff,e1]
  exact A7 (NU.mp hw).1 (by rw[d1];exact (NU.mp hl).1) (by rw[d1,d2];exact hon)
 obtain ⟨p,hp,ep⟩:=Qam.mp hm
 refine Qbh.mpr ⟨e,A9,Qam.mpr ⟨p,hp,?_⟩⟩
 have e2:p.c=c:=congrArg Prod.fst ep
 have e3:p.i=i:=congrArg Prod.snd ep
 rw[e2,e3]
noncomputable def wX(p:Nat×Nat×Nat):List Key:=[Sum.inl (p.1:Int),Sum.inl (p.2.1:Int),Sum.inr (S [p.2.2])]
theorem Hu{p q:Nat×Nat×Nat}(h:wX p=wX q):p=q:=by
 unfold wX at h
 injection h with h1 h2
 injection h2 with h2 h3
 injection h3 with h3 _
 have a1:(p.1:Int)=q.1:=Sum.inl.inj h1
 have a2:(p.2.1:Int)=q.2.1:=Sum.inl.inj h2
 have a3:[p.2.2]=[q.2.2]:=by
  have:=Sum.inr.inj h3
  rw[<-fK [p.2.2],this,fK]
 have a4:p.2.2=q.2.2:=by simpa using a3
 exact Prod.ext () (Prod.ext () a4)
def Nums(ps:List (Nat×Nat×Nat))(aL:List (List Key×V))(n:Nat):Prop:=∀p∈ps.take n,eE aL (wX p)=some (.int (ps.idxOf p:Nat))
theorem Nums.put{ps:List (Nat×Nat×Nat)}{aL:List (List Key×V)}{n:Nat}{p:Nat×Nat×Nat}(h:Nums ps aL n)(hn:ps.Nodup)(e:ps[n]? =some p):Nums ps (putK aL (wX p) (.int (n:Nat))) (n+1):=λr hr=>by
 rw[Gk]
 by_cases z:r=p
 ·rw[if_pos (by rw[z]),z,vy hn e]
 ·rw[if_neg λg=>z (Hu g)]
  rw[<-take_snoc e]at hr
  exact h r ((Qaf.mp hr).resolve_right λg=>z (Qab.mp g))
noncomputable def lT(n i:Nat):Nat:=if i=0 then n - 1 else i - 1
theorem wY{n i:Nat}(h:i<n):lT n i<n:=by unfold lT;split<;>lia
theorem wZ{n i:Nat}(h:i<n):((i:Int) - 1)%(n:Int)=((lT n i:Nat):Int):=by
 unfold lT
 split
 ·rename_i z
  subst z
  have:((0:Nat):Int) - 1+(n:Int)=((n - 1:Nat):Int):=by lia
  rw[<-Qdi,this]
  exact Qa7 () ()
 ·have:(i:Int) - 1=((i - 1:Nat):Int):=by lia
  rw[this]
  exact Qa7 () ()
noncomputable abbrev C4:=Nat×Nat×Nat×Nat
noncomputable def eI(ps:List (Nat×Nat×Nat))(c:Nat)(w:Z)(i:Nat):C4:=(c,i,ps.idxOf (c,lT (w:) i,ak (w.getD (lT (w:) i) 0)),ps.idxOf (c,i,w.getD i 0))
noncomputable def lU(ps:List (Nat×Nat×Nat))(c:Nat)(w:Z)(n:Nat):List C4:=(List.range n).map (eI ps c w)
noncomputable def fW(ps:List (Nat×Nat×Nat))(ws:List Z)(n:Nat):List C4:=(List.range n).flatMap λc=>lU ps c (ws|||c) ((ws|||c):)
theorem pL(ps:List (Nat×Nat×Nat))(c:Nat)(w:Z)(n:Nat):lU ps c w (n+1)=lU ps c w n++[eI ps c w n]:=by unfold lU;rw[Qb7,Qad];rfl
theorem nc{ps:List (Nat×Nat×Nat)}{ws:List Z}{i:Nat}{w:Z}(h:ws[i]? =some w):fW ps ws (i+1)=fW ps ws i++lU ps i w (w:):=by
 have e:(ws|||i)=w:=by rw[Qaa,h];rfl
 unfold fW
 rw[Qb7,Qaw]
 congr 1
 rw[Qa3,Qef,Qa4,e]
noncomputable def JB(lo hi x:Int):Bool:=decide (lo<x)&&decide (x<hi)
noncomputable def y_(p q r s:Int):Bool:=!decide (JB (if q<p then q else p) (if q>p then q else p) r=JB (if q<p then q else p) (if q>p then q else p) s)
noncomputable def meets(x y:C4):Bool:=y_ x.2.2.1 x.2.2.2 y.2.2.1 y.2.2.2
structure Q4 where
 t:Addr
 v:C4
noncomputable def EJ(qs:List Q4):List V:=qs.map λq=>V.ref q.t
theorem CQ(qs:List Q4):(EJ qs:)=(qs:):=by unfold EJ;rw[Qi]
theorem Hv(a:List Q4)(q:Q4):EJ a++[V.ref q.t]=EJ (a++[q]):=by unfold EJ;rw[Qad];rfl
theorem OQ{qs:List Q4}{i:Nat}{x:V}(h:(EJ qs)[i]? =some x):∃q,qs[i]? =some q/\x=V.ref q.t:=by
 unfold EJ at h
 rw[Qag]at h
 cases e:qs[i]? with
 | none=>rw[e]at h;cases h
 | some p=>rw[e]at h;cases h;exact ⟨p,rfl,rfl⟩
def uf(H:Hp)(q:Q4):Prop:=H q.t=some (.tup [.int q.v.1,.int q.v.2.1,.int q.v.2.2.1,.int q.v.2.2.2])
theorem uf.ts{H H':Hp}{q:Q4}(h:uf H q)(s:aR H H'):uf H' q:=s _ _ h
noncomputable def fG(y:Z)(ws:List Z)(os:List Od):List C4:=fW (cV y os) ws (ws:)
theorem TX{y:Z}{os:List Od}{p:Pt}{ps:List Pt}(h:ps.map Pt.is=cV y os){i:Nat}(hi:ps[i]? =some p):(cV y os)[i]? =some p.is:=by rw[<-h,Qag,hi];rfl
def iS(_:Fr):Sp:=λvs H Q _=>∃(w:Z) (c i:Nat),vs=[.str (S w),.int c,.int i]/\(∀l∈w,l<128)/\i<(w:)/\(w:)<=1000/\∀(t t1 t2:Addr) (H':Hp),H' t=some (.tup [.ref t1,.ref t2])->H' t1=some (.tup ((wX (c,lT (w:) i,ak (w.getD (lT (w:) i) 0))).map kV))->H' t2=some (.tup ((wX (c,i,w.getD i 0)).map kV))->aj H H'->Q (.ref t) H'
theorem ng{K:Fr}{vs:List V}{H:Hp}{Q:VK}{E:XK}(h:iS K vs H Q E):(vs:)=3:=by obtain ⟨c,_,_,rfl,_⟩:=h;rfl
def rX(_:Fr):Sp:=λvs H Q _=>∃(y:Z) (dr:Addr) (ws:List Z) (os:List Od),vs=[.str (S y),.ref dr]/\Yd y/\(y:)<=8/\wW y ws/\gA y ws os/\j7 H dr ws os/\∀(q:Addr) (qs:List Q4) (H':Hp),H q=none->H' q=some (.lst (EJ qs))->(∀x∈qs,uf H' x)->qs.map Q4.v=fG y ws os->aj H H'->Q (.ref q) H'
theorem za{K:Fr}{vs:List V}{H:Hp}{Q:VK}{E:XK}(h:rX K vs H Q E):(vs:)=2:=by obtain ⟨c,_,_,_,rfl,_⟩:=h;rfl
theorem K8{y:Z}{os:List Od}{i m e:Nat}{p:Pr}(he:y[i]? =some e)(hp:(nN y os e)[m]? =some p):(cV y os)[((y.take i).flatMap (dZ y os):)+m]? =some (p.c,p.i,e):=by
 obtain ⟨hi,e1⟩:=NU.mp he
 have hy:y=y.take i++e::y.drop (i+1):=by
  rw[<-e1, <-Qbj hi,Qbr]
 have h1:cV y os=(y.take i).flatMap (dZ y os)++(dZ y os e++(y.drop (i+1)).flatMap (dZ y os)):=by
  unfold cV
  conv=>lhs;arg 2;rw[hy]
  rw[Qaw,Qa3]
 have h2:(dZ y os e)[m]? =some (p.c,p.i,e):=by unfold dZ;rw[Qag,hp];rfl
 rw[h1,Qb0 (Qf7 _ _),Nat.add_sub_cancel_left,Qbi (NU.mp h2).1]
 exact h2
structure A_(y:Z)(ws:List Z)(L:Nat->Bool)(r:Nat->Nat)(M:Nat)(os:List Od):Prop where
 ok:gA y ws os
 asc:∀o∈os,(o.ps.map Pr.pair).Pairwise λs t=>cg (fu y ws L r M s.1 s.2) (fu y ws L r M t.1 t.2)=true
theorem Ba:∀c∈aW++i5,PyProof.Rows.lo1 (ak c)=PyProof.Rows.lo1 c/\isUp c=!az c:=⋯
theorem EK{α:Type}{y:Z}(F:Nat->List α){k k' e:Nat}(he:y[k]? =some e)(h:k<k'):((y.take k).flatMap F:)+(F e:)<=((y.take k').flatMap F:):=by
 have e1:(y.take k').take (k+1)=y.take (k+1):=by rw[List.take_take,Qb6 ()]
 have e2:y.take k'=y.take (k+1)++(y.take k').drop (k+1):=by rw[<-e1,Qbr]
 rw[e2,Qaw,U3, <-take_snoc he,Qaw,U3]
 simp
theorem oN{y:Z}{ws:List Z}{os:List Od}(hy:Yd y)(ho:gA y ws os)(hs:∀c,c<(ws:)->∀k:Int,rd (ws|||c) k∈y){c i e:Nat}(hc:c<(ws:))(hi:i<((ws|||c):))(he:e=rd (ws|||c) i\/e=ak (rd (ws|||c) i)):
  e∈y/\∃(m:Nat) (p:Pr),(nN y os e)[m]? =some p/\p.pair=(c,i)/\(cV y os).idxOf (c,i,e)=((y.take (y.idxOf e)).flatMap (dZ y os):)+m:=by
 have hw:=hs c hc
 have ey:e∈y:=he.elim (λz=>z▸hw _) λz=>z▸hy.cl _ (hw _)
 have CT:=y9 hy ho (c:=c) (i:=i) (l:=rd (ws|||c) i) (e:=e) (w:=(ws|||c)) (by rw[Qaa,NT hc];rfl) (gU hi) (hw _) he
 unfold cV at CT
 obtain ⟨e',u5,hp⟩:=Qbh.mp CT
 unfold dZ at hp
 obtain ⟨p,gp,mN⟩:=Qam.mp hp
 obtain ⟨q1,Zg⟩:=Prod.mk.inj mN
 obtain ⟨q2,q3⟩:=Prod.mk.inj Zg
 clear Zg
 subst q3
 obtain ⟨m,hm,em⟩:=Qdb gp
 have Hw:(nN y os e')[m]? =some p:=by rw[NT hm,em]
 refine ⟨ey,m,p,Hw,by unfold Pr.pair;rw[q1,q2],?_⟩
 have hk:y[y.idxOf e']? =some e':=by rw[NT (Qan ey),Qcb]
 have:=K8 (os:=os) hk Hw
 rw[q1,q2]at this
 exact vy (A8 hy ho) this
theorem Hx(y:Z)(os:List Od)(e:Nat):(dZ y os e:)=(nN y os e:):=by unfold dZ;rw[Qi]
theorem Hy{l:List Pr}{y:Z}{ws:List Z}{L:Nat->Bool}{r:Nat->Nat}{M:Nat}(h:(l.map Pr.pair).Pairwise λs t=>cg (fu y ws L r M s.1 s.2) (fu y ws L r M t.1 t.2)=true){m n c i d j:Nat}{p q:Pr}(hp:l[m]? =some p)(hq:l[n]? =some q)(ep:p.pair=(c,i))(eq:q.pair=(d,j))(dk:(c,i)≠(d,j)):
  m≠n/\decide (m<n)=cg (fu y ws L r M c i) (fu y ws L r M d j):=by
 have Vf:m≠n:=λz=>dk (by rw[z,hq]at hp;rw[<-ep, <-eq,Qaj hp])
 obtain ⟨hm,em⟩:=NU.mp hp
 obtain ⟨hn,en⟩:=NU.mp hq
 refine ⟨Vf,?_⟩
 have key:=Qc5.mp h
 by_cases z:m<n
 ·have:=key m n (by rw[Qi];exact hm) (by rw[Qi];exact hn) z
  rw[Qb9,Qb9,em,en,ep,eq]at this
  rw[decide_eq_true z]
  exact this.symm
 ·have:=key n m (by rw[Qi];exact hn) (by rw[Qi];exact hm) ()
  rw[Qb9,Qb9,em,en,ep,eq]at this
  rw[decide_eq_false z]
  exact (oB this).1.symm
theorem CU{α:Type}{l:List α}{m:Nat}{p:α}(h:l.reverse[m]? =some p):m<(l:)/\l[(l:) - 1 - m]? =some p:=by
 obtain ⟨hm,_⟩:=NU.mp h
 rw[Qbb]at hm
 rw[Qc4 hm]at h
 exact ⟨hm,h⟩
theorem Hz{y:Z}{ws:List Z}{os:List Od}(hy:Yd y)(hs:∀c,c<(ws:)->∀k:Int,rd (ws|||c) k∈y)(ho:gA y ws os)(c i d j e e':Nat)(hc:c<(ws:))(hd:d<(ws:))(hi:i<((ws|||c):))(hj:j<((ws|||d):))(he:e=rd (ws|||c) i\/e=ak (rd (ws|||c) i))(u5:e'=rd (ws|||d) j\/e'=ak (rd (ws|||d) j))(dy:y.idxOf e<y.idxOf e'):(cV y os).idxOf (c,i,e)<(cV y os).idxOf (d,j,e'):=by
 obtain ⟨ey,m,p,hm,_,e1⟩:=oN hy ho hs hc hi he
 obtain ⟨ey',m',p',Hw,_,e2⟩:=oN hy ho hs hd hj u5
 rw[e1,e2]
 have hk:y[y.idxOf e]? =some e:=by rw[NT (Qan ey),Qcb]
 have:=EK (dZ y os) hk dy
 rw[Hx]at this
 have wd:=(NU.mp hm).1
 lia
theorem pos_at{y:Z}{ws:List Z}{os:List Od}(hy:Yd y)(hs:∀c,c<(ws:)->∀k:Int,rd (ws|||c) k∈y)(ho:gA y ws os){c i d j x:Nat}(hc:c<(ws:))(hd:d<(ws:))(hi:i<((ws|||c):))(hj:j<((ws|||d):))(hx:az x=true)(BU:rd (ws|||c) i=x\/rd (ws|||c) i=ak x)(zc:rd (ws|||d) j=x\/rd (ws|||d) j=ak x):
  ∃o∈os,∃(m n m' n' A B:Nat) (p q p' q':Pr),o.ps[m]? =some p/\o.ps[n]? =some q/\o.ps[(o.ps:) - 1 - m']? =some p'/\o.ps[(o.ps:) - 1 - n']? =some q'/\m'<(o.ps:)/\n'<(o.ps:)/\p.pair=(c,i)/\q.pair=(d,j)/\p'.pair=(c,i)/\q'.pair=(d,j)/\
   (cV y os).idxOf (c,i,x)=A+m/\(cV y os).idxOf (d,j,x)=A+n/\(cV y os).idxOf (c,i,ak x)=B+m'/\(cV y os).idxOf (d,j,ak x)=B+n':=by
 have ol:2*(os:)=(y:):=by rw[ho.1];exact eF hy
 have lc:Lt (rd (ws|||c) i):=hy.lt _ (hs c hc _)
 have ld:Lt (rd (ws|||d) j):=hy.lt _ (hs d hd _)
 have vi:(x=rd (ws|||c) i\/x=ak (rd (ws|||c) i))/\(ak x=rd (ws|||c) i\/ak x=ak (rd (ws|||c) i))/\Lt x:=by
  rcases BU with z | z
  ·exact ⟨.inl z.symm,.inr (by rw[z]),z▸lc⟩
  ·have hx0:x<128/\x∈aW:=by
    have h9:97<=x/\x<=122:=by unfold az at hx;simpa using hx
    refine ⟨(),?_⟩
    have:∀k,k<26->k+97∈aW:=by decide
    have h8:=this (x - 97) ()
    rwa [show x - 97+97=x by lia]at h8
   have lx:Lt x:= .inl hx0.2
   exact ⟨.inr (by rw[z,aE lx]),.inl z.symm,lx⟩
 have lx:=vi.2.2
 have vj:(x=rd (ws|||d) j\/x=ak (rd (ws|||d) j))/\(ak x=rd (ws|||d) j\/ak x=ak (rd (ws|||d) j)):=by
  rcases zc with z | z
  ·exact ⟨.inl z.symm,.inr (by rw[z])⟩
  ·exact ⟨.inr (by rw[z,aE lx]),.inl z.symm⟩
 obtain ⟨xy,m,p,hm,ep,e1⟩:=oN hy ho hs hc hi vi.1
 obtain ⟨_,n,q,hn,eq,e2⟩:=oN hy ho hs hd hj vj.1
 obtain ⟨_,m',p',Hw,JO,Am⟩:=oN hy ho hs hc hi vi.2.1
 obtain ⟨_,n',q',US,TY,HB⟩:=oN hy ho hs hd hj vj.2
 obtain ⟨o,Qu,_,eo⟩:=iR hy xy ol
 have up0:isUp x=false:=by rw[(Ba x lx.mem).2,hx];rfl
 have up1:isUp (ak x)=true:=by rw[(Ba _ lx.ak.mem).2,fq x lx.mem,hx];rfl
 have s0:nN y os x=o.ps:=by unfold nN;rw[up0,if_neg ∅,eo]
 have s1:nN y os (ak x)=o.ps.reverse:=by
  unfold nN
  rw[up1,if_pos rfl]
  have:A3 y os (ak x)=A3 y os x:=by unfold A3;rw[(Ba x lx.mem).1]
  rw[this,eo]
 rw[s0]at hm hn
 rw[s1]at Hw US
 obtain ⟨b1,wd⟩:=CU Hw
 obtain ⟨b2,vT⟩:=CU US
 exact ⟨o,Qu,m,n,m',n',_,_,p,q,p',q',hm,hn,wd,vT,b1,b2,ep,eq,JO,TY,e1,e2,Am,HB⟩
theorem lies_of{y:Z}{ws:List Z}{L:Nat->Bool}{r:Nat->Nat}{M:Nat}{os:List Od}(hy:Yd y)(hs:∀c,c<(ws:)->SW y (ws|||c))(h:A_ y ws L r M os):Lies y ws L r M λc i e=>(cV y os).idxOf (c,i,e):=by
 refine ⟨Hz hy (λc hc=>(hs c hc).rd) h.ok,λc i d j x hc hd hi hj dk hx BU zc=>?_⟩
 obtain ⟨o,Qu,m,n,m',n',A,B,p,q,p',q',hm,hn,wd,vT,b1,b2,ep,eq,JO,TY,e1,e2,Am,HB⟩:=pos_at hy (λc hc=>(hs c hc).rd) h.ok hc hd hi hj hx BU zc
 have k1:=Hy (h.asc o Qu) hm hn ep eq dk
 have k2:=Hy (h.asc o Qu) wd vT JO TY dk
 rw[e1,e2,Am,HB]
 refine ⟨(),(),?_,?_⟩
 ·rw[<-k1.2];exact decide_eq_decide.mpr ()
 ·rw[<-k2.2];exact decide_eq_decide.mpr ()
noncomputable def qz(st:Nat->Nat)(T R:Z):Z:=T.filter λx=>R.any λe=>decide (st e=x)
noncomputable def EL(st:Nat->Nat)(T R:Z)(p:Nat):Nat:=if st p=p then 0 else (((qz st T (p::R)).filter λx=>decide (st p<x)):)
noncomputable def JC(st:Nat->Nat):Z->Z->Nat
 | _,[]=>0
 | T,p::R=>EL st T R p+JC st (T++[p]) R
structure HC(ch:List (Nat×Nat))(st:Nat->Nat)(P:Z):Prop where
 lt:∀x∈ch,x.1<x.2
 nd:(ch.flatMap λx=>[x.1,x.2]).Nodup
 pm:P.Perm (ch.flatMap λx=>[x.1,x.2])
 up:P.Pairwise (· < ·)
 st:∀x∈ch,st x.1=x.1/\st x.2=x.1
section
variable{ch:List (Nat×Nat)}{st:Nat->Nat}{P:Z}
theorem HC.pt(h:HC ch st P){p:Nat}(hp:p∈P):∃x∈ch,p=x.1\/p=x.2:=by
 obtain ⟨x,hx,e⟩:=Qbh.mp (h.pm.mem_iff.mp hp)
 exact ⟨x,hx,by simpa using e⟩
theorem HC.in1(h:HC ch st P){x:Nat×Nat}(hx:x∈ch):x.1∈P/\x.2∈P:=⟨h.pm.mem_iff.mpr (Qbh.mpr ⟨x,hx,by simp⟩),h.pm.mem_iff.mpr (Qbh.mpr ⟨x,hx,by simp⟩)⟩
theorem zd:∀{ch:List (Nat×Nat)},(ch.flatMap λx=>[x.1,x.2]).Nodup->∀x∈ch,∀z∈ch,(x.1=z.1\/x.2=z.2\/x.1=z.2)->x=z
 | [],_,x,hx,_,_,_=>absurd hx Qal
 | a::r,nd,x,hx,z,hz,e=>by
  rw[Qa3,Qb2]at nd
  obtain ⟨n1,n2,n3⟩:=nd
  have inr:∀z∈r,z.1∈r.flatMap (λx=>[x.1,x.2])/\z.2∈r.flatMap (λx=>[x.1,x.2]):=λz hz=>⟨Qbh.mpr ⟨z,hz,by simp⟩,Qbh.mpr ⟨z,hz,by simp⟩⟩
  have a12:a.1≠a.2:=by
   rw[Qbc]at n1
   simpa using n1.1
  rcases Qak.mp hx with rfl | DY<;>rcases Qak.mp hz with rfl | Ju
  ·rfl
  ·exfalso
   rcases e with e | e | e
   ·exact n3 x.1 (by simp) z.1 (inr z Ju).1 e
   ·exact n3 x.2 (by simp) z.2 (inr z Ju).2 e
   ·exact n3 x.1 (by simp) z.2 (inr z Ju).2 e
  ·exfalso
   rcases e with e | e | e
   ·exact n3 z.1 (by simp) x.1 (inr x DY).1 e.symm
   ·exact n3 z.2 (by simp) x.2 (inr x DY).2 e.symm
   ·exact n3 z.2 (by simp) x.1 (inr x DY).1 e.symm
  ·exact zd n2 x DY z Ju e
theorem HD(h:HC ch st P){T R:Z}{p:Nat}(e:P=T++p::R)(hs:st p=p):qz st (T++[p]) R=qz st T (p::R)++[p]:=by
 obtain ⟨x,hx,hp⟩:=h.pt (p:=p) (by rw[e];simp)
 have OR:p=x.1:=hp.elim id λz=>by rw[z,(h.st x hx).2]at hs;rw[z, <-hs]
 have up:=h.up
 rw[e,Qda,Qb5]at up
 obtain ⟨u1,⟨u2,u3⟩,u4⟩:=up
 have hR:x.2∈R:=by
  have:=(h.in1 hx).2
  rw[e]at this
  rcases Qaf.mp this with q | q
  ·have:=u4 _ q p Qac
   have:=h.lt x hx
   lia
  ·rcases Qak.mp q with q | q
   ·have:=h.lt x hx
    lia
   ·exact q
 unfold qz
 rw[Qcg]
 congr 1
 ·refine Qd9 λz hz=>?_
  rw[Qct,decide_eq_false (λq=>by have:=u4 z hz p Qac;lia),Qfz]
 ·have:(R.any λe=>decide (st e=p))=true:=Qf8.mpr ⟨x.2,hR,decide_eq_true (by rw[(h.st x hx).2,OR])⟩
  rw[Qbe (p:=λx=>R.any λe=>decide (st e=x)) this]
  rfl
theorem erase_filter{s:Nat}{p q:Nat->Bool}:∀{T:Z},T.Nodup->q s=true->p s=false->(∀x,x≠s->q x=p x)->(T.filter q).erase s=T.filter p
 | [],_,_,_,_=>rfl
 | a::T,nd,hq,hp,h=>by
  rw[Qbc]at nd
  by_cases z:a=s
  ·subst z
   rw[Qbe hq,List.erase_cons_head,Qa6 (by rw[hp];decide)]
   exact Qd9 λx hx=>h x λq=>nd.1 (q▸hx)
  ·have ih:=erase_filter nd.2 hq hp h
   cases e:p a
   ·rw[Qa6 (by rw[h a z,e];decide),Qa6 (by rw[e];decide)]
    exact ih
   ·rw[Qbe (by rw[h a z,e]),Qbe e,List.erase_cons_tail (by simpa using z),ih]
theorem OS(h:HC ch st P){T R:Z}{p:Nat}(e:P=T++p::R)(hs:st p≠p):qz st (T++[p]) R=(qz st T (p::R)).erase (st p)/\st p∈qz st T (p::R):=by
 obtain ⟨x,hx,hp⟩:=h.pt (p:=p) (by rw[e];simp)
 have OR:p=x.2:=hp.elim (λz=>absurd (by rw[z,(h.st x hx).1]) hs) id
 have mf:st p=x.1:=by rw[OR,(h.st x hx).2]
 have up:=h.up
 rw[e,Qda,Qb5]at up
 obtain ⟨u1,⟨u2,u3⟩,u4⟩:=up
 have only:∀z∈R,st z≠x.1:=λz hz q=>by
  obtain ⟨v,hv,N8⟩:=h.pt (p:=z) (by rw[e];simp[hz])
  have hzp:=u2 z hz
  rcases N8 with r | r
  ·rw[r,(h.st v hv).1]at q
   have:=zd h.nd v hv x hx (.inl q)
   subst this
   have:=h.lt v hv
   lia
  ·rw[r,(h.st v hv).2]at q
   have:=zd h.nd v hv x hx (.inl q)
   subst this
   lia
 have none:∀z∈R,st z≠p:=λz hz q=>by
  obtain ⟨v,hv,N8⟩:=h.pt (p:=z) (by rw[e];simp[hz])
  have:st z=v.1:=N8.elim (λr=>by rw[r,(h.st v hv).1]) λr=>by rw[r,(h.st v hv).2]
  rw[this,OR]at q
  have:=zd h.nd v hv x hx (.inr (.inr q))
  subst this
  have:=h.lt v hv
  lia
 have hT:x.1∈T:=by
  have:=(h.in1 hx).1
  rw[e]at this
  have l:=h.lt x hx
  rcases Qaf.mp this with q | q
  ·exact q
  ·rcases Qak.mp q with q | q
   ·lia
   ·have:=u2 _ q
    lia
 have nd:T.Nodup:=Qf5 (λh=>Qay h) u1
 have hq:((p::R).any λe=>decide (st e=x.1))=true:=by rw[Qct,decide_eq_true mf];rfl
 refine ⟨?_,?_⟩
 ·rw[mf]
  unfold qz
  rw[Qcg,Qa6 (by
   rw[Qdx,Qf4]
   exact λz hz=>by simpa using none z hz),List.filter_nil,Qa4]
  refine (erase_filter nd hq ?_ λz hz=>?_).symm
  ·rw[Qf4]
   exact λz hz=>by simpa using only z hz
  ·rw[Qct,decide_eq_false (by rw[mf];exact Ne.symm hz),Qfz]
 ·rw[mf]
  exact Qa8.mpr ⟨hT,hq⟩
noncomputable def nQ(x z:Nat×Nat):Bool:=decide (x.1<z.1)&&(decide (z.1<x.2)&&decide (x.2<z.2))
theorem HE(h:HC ch st P){T R:Z}{x:Nat×Nat}(hx:x∈ch)(e:P=T++x.2::R):EL st T R x.2=(ch.filter (nQ x):):=by
 have l:=h.lt x hx
 have mf:=(h.st x hx).2
 have up:=h.up
 rw[e,Qda,Qb5]at up
 obtain ⟨u1,⟨u2,u3⟩,u4⟩:=up
 unfold EL
 rw[if_neg (),mf, <-Qi (as:=ch.filter (nQ x)) (f:=Prod.fst)]
 refine List.Perm.length_eq ((List.perm_ext_iff_of_nodup ?_ ?_).mpr λa=>?_)
 ·exact (Qf5 (λh=>Qay h) ((u1.filter _).filter _))
 ·have nd:(ch.map Prod.fst).Nodup:=by
   have:∀{ch:List (Nat×Nat)},(ch.flatMap λx=>[x.1,x.2]).Nodup->(ch.map Prod.fst).Nodup:=λ{ch}=>by
    induction ch with
    | nil=>exact λ_=>List.Pairwise.nil
    | cons a r ih=>
     intro nd
     rw[Qa3,Qb2]at nd
     rw[Qav,Qbc]
     refine ⟨λq=>?_,ih nd.2.1⟩
     obtain ⟨z,hz,ez⟩:=Qam.mp q
     exact nd.2.2 a.1 (by simp) z.1 (Qbh.mpr ⟨z,hz,by simp⟩) ez.symm
   exact this h.nd
  exact List.Nodup.sublist (List.Sublist.map _ List.filter_sublist) nd
 ·rw[Qa8,Qam]
  unfold qz
  rw[Qa8,decide_eq_true_iff,Qf8]
  constructor
  ·rintro ⟨⟨a1,p,hp,ep⟩,a2⟩
   have ep:=of_decide_eq_true ep
   obtain ⟨z,hz,Xo⟩:=h.pt (p:=p) (by rw[e];exact Qa9 _ hp)
   have:st p=z.1:=Xo.elim (λr=>by rw[r,(h.st z hz).1]) λr=>by rw[r,(h.st z hz).2]
   rw[this]at ep
   have ax:=u4 a a1 x.2 Qac
   have pz:p=z.2:=Xo.elim (λr=>by
    have:=u4 a a1 p hp
    lia) id
   have px:x.2<p:=by
    rcases Qak.mp hp with q | q
    ·rw[q]at pz
     have:=zd h.nd x hx z hz (.inr (.inl pz))
     subst this
     lia
    ·exact u2 p q
   refine ⟨z,Qa8.mpr ⟨hz,?_⟩,ep⟩
   unfold nQ
   rw[Qbt,Qbt,decide_eq_true_iff,decide_eq_true_iff,decide_eq_true_iff]
   lia
  ·rintro ⟨z,hz,rfl⟩
   obtain ⟨hz,q⟩:=Qa8.mp hz
   unfold nQ at q
   rw[Qbt,Qbt,decide_eq_true_iff,decide_eq_true_iff,decide_eq_true_iff]at q
   have i1:=(h.in1 hz).1
   have i2:=(h.in1 hz).2
   rw[e]at i1 i2
   refine ⟨⟨?_,z.2,?_,decide_eq_true (h.st z hz).2⟩,q.1⟩
   ·rcases Qaf.mp i1 with r | r
    ·exact r
    ·rcases Qak.mp r with r | r
     ·lia
     ·have:=u2 _ r;lia
   ·rcases Qaf.mp i2 with r | r
    ·have:=u4 _ r x.2 Qac;lia
    ·exact r
theorem HF(h:HC ch st P):∀(R T:Z),P=T++R->JC st T R=(R.map λp=>if st p=p then 0 else (ch.filter (nQ (st p,p)):)).sum
 | [],_,_=>rfl
 | p::R,T,e=>by
  rw[Qav,Qcs, <-HF h R (T++[p]) (by rw[e];simp)]
  show EL st T R p+_=_
  congr 1
  by_cases z:st p=p
  ·rw[if_pos z];unfold EL;rw[if_pos z]
  ·rw[if_neg z]
   obtain ⟨x,hx,hp⟩:=h.pt (p:=p) (by rw[e];simp)
   have OR:p=x.2:=hp.elim (λq=>absurd (by rw[q,(h.st x hx).1]) z) id
   have mf:st p=x.1:=by rw[OR,(h.st x hx).2]
   rw[mf]
   subst OR
   exact HE h hx e
theorem OT(h:HC ch st P):JC st [] P=(ch.map λx=>(ch.filter (nQ x):)).sum:=by
 rw[HF h P [] rfl,(h.pm.map _).sum_nat]
 have:∀l:List (Nat×Nat),(∀x∈l,x∈ch)->(((l.flatMap λx=>[x.1,x.2]).map λp=>if st p=p then 0 else (ch.filter (nQ (st p,p)):)).sum)=(l.map λx=>(ch.filter (nQ x):)).sum:=λl hl=>by
  induction l with
  | nil=>rfl
  | cons a r ih=>
   have ha:=h.st a (hl a Qac)
   have la:=h.lt a (hl a Qac)
   rw[Qa3,Qad,List.sum_append_nat,ih λx hx=>hl x (Qae _ hx),Qav,Qcs]
   congr 1
   show (if st a.1=a.1 then 0 else _)+((if st a.2=a.2 then 0 else (ch.filter (nQ (st a.2,a.2)):))+0)=_
   rw[if_pos ha.1,if_neg (),ha.2,Qd5,Nat.add_zero]
 exact this ch λx hx=>hx
theorem EM{α:Type}(X:α->α->Bool)(hd:∀x,X x x=false)(ha:∀x z,X x z=true->X z x=false):∀l:List α,(l.map λx=>(l.filter (X x):)).sum=cl (λx z=>X x z||X z x) l:=λl=>by
 have key:∀(a:α) (l:List α),((l.filter λz=>X a z||X z a):)=(l.filter (X a):)+(l.map λz=>if X z a=true then 1 else 0).sum:=λa l=>by
  induction l with
  | nil=>rfl
  | cons b r ih=>
   have:=ha a b
   simp only[Qde,Qav,Qcs]
   cases e1:X a b<;>cases e2:X b a
   ·simp[ih]
   ·simp[ih];lia
   ·simp[ih];lia
   ·rw[this e1]at e2;cases e2
 induction l with
 | nil=>rfl
 | cons a r ih=>
  show (((a::r).map λx=>((a::r).filter (X x):)).sum)=((r.filter λz=>X a z||X z a):)+cl _ r
  rw[Qav,Qcs,Qa6 (by rw[hd a];decide),key a r, <-ih]
  have e:∀l:List α,(l.map λx=>((a::r).filter (X x):)).sum=(l.map λz=>if X z a=true then 1 else 0).sum+(l.map λx=>(r.filter (X x):)).sum:=λl=>by
   induction l with
   | nil=>rfl
   | cons b l ih2=>
    rw[Qav,Qcs,ih2,Qav,Qcs,Qav,Qcs]
    cases e1:X b a
    ·rw[Qa6 (by rw[e1];decide)]
     simp;lia
    ·rw[Qbe e1]
     simp;lia
  rw[e r]
  lia
theorem TZ(h:HC ch st P):JC st [] P=cl (λx z=>nQ x z||nQ z x) ch:=by
 rw[OT h,EM]
 ·intro x;unfold nQ;rw[decide_eq_false (Qbu _)];rfl
 ·intro x z q
  unfold nQ at q ⊢
  rw[Qbt,Qbt,decide_eq_true_iff,decide_eq_true_iff,decide_eq_true_iff]at q
  rw[decide_eq_false ()]
  rfl
end
noncomputable def MK(p q:Nat):Int:=if (q:Int)<p then q else p
noncomputable def fz(cs:List C4):Z:=cs.flatMap λx=>[x.2.2.1,x.2.2.2]
noncomputable def hW(cs:List C4):List (Key×V):=cs.flatMap λx=>[(Sum.inl (x.2.2.1:Int),V.int (MK x.2.2.1 x.2.2.2)),(Sum.inl (x.2.2.2:Int),V.int (MK x.2.2.1 x.2.2.2))]
noncomputable def rY(cs:List C4):List (Nat×Nat):=cs.map λx=>(min x.2.2.1 x.2.2.2,max x.2.2.1 x.2.2.2)
theorem iT:∀cs:List C4,(hW cs).map (·.1)=(fz cs).map λn:Nat=>(Sum.inl (n:Int):Key)
 | []=>rfl
 | x::r=>by
  unfold hW fz
  rw[Qa3,Qa3,Qad,Qad]
  exact congrArg _ (iT r)
theorem ze{aL:List (Key×V)}{k:Key}(h:k∉aL.map (·.1)):eE aL k=none:=by
 induction aL with
 | nil=>rfl
 | cons a r ih=>
  rw[Qav,Qak,not_or]at h
  rw[cQ (λe=>h.1 e.symm),ih h.2]
theorem HG{aL:List (Key×V)}(nd:(aL.map (·.1)).Nodup){k:Key}{v:V}(h:(k,v)∈aL):eE aL k=some v:=by
 induction aL with
 | nil=>exact absurd h Qal
 | cons a r ih=>
  rw[Qav,Qbc]at nd
  rcases Qak.mp h with e | e
  ·subst e;exact dh rfl
  ·rw[cQ (λz=>nd.1 (Qam.mpr ⟨_,e,z.symm⟩))]
   exact ih nd.2 e
theorem OU:∀{l:Z},l.Nodup->(l.map λn:Nat=>(Sum.inl (n:Int):Key)).Nodup:=λ{l} h=>Qby.mpr (h.imp λoh z=>oh (by have:=Sum.inl.inj z;lia))
noncomputable def ins(l:Z):List V:=l.map λn=>V.int (n:Nat)
theorem nh(l:Z):(ins l:)=(l:):=by unfold ins;rw[Qi]
theorem HH(l:Z)(n:Nat):ins l++[V.int (n:Nat)]=ins (l++[n]):=by unfold ins;rw[Qad];rfl
theorem HI{l:Z}{i n:Nat}(h:l[i]? =some n):(ins l)[i]? =some (V.int (n:Nat)):=by unfold ins;rw[Qag,h];rfl
def jm(_:Fr):Sp:=λvs H Q _=>∃(a:Addr) (qs:List Q4),vs=[.ref a]/\H a=some (.lst (EJ qs))/\(∀x∈qs,uf H x)/\(qs:)<=1000/\(fz (qs.map Q4.v)).Nodup/\∀d H',H d=none->H' d=some (.dK (hW (qs.map Q4.v)))->aj H H'->Q (.ref d) H'
theorem oO{K:Fr}{vs:List V}{H:Hp}{Q:VK}{E:XK}(h:jm K vs H Q E):(vs:)=1:=by obtain ⟨_,_,rfl,_⟩:=h;rfl
def ni(_:Fr):Sp:=λvs H Q _=>∃(a:Addr) (l:Z) (p:Nat),vs=[.ref a,.int p]/\H a=some (.lst (ins l))/\l.Pairwise (· < ·)/\p∈l/\(l:)<=100000/\Q (.int (l.idxOf p:Nat)) H
theorem ug{K:Fr}{vs:List V}{H:Hp}{Q:VK}{E:XK}(h:ni K vs H Q E):(vs:)=2:=by obtain ⟨_,_,_,rfl,_⟩:=h;rfl
def ie(_:Fr):Sp:=λvs H Q _=>∃(a:Addr) (qs:List Q4),vs=[.ref a]/\H a=some (.lst (EJ qs))/\(∀x∈qs,uf H x)/\(qs:)<=24/\(fz (qs.map Q4.v)).Nodup/\∀H',aj H H'->Q (.int (cl (λx z=>nQ x z||nQ z x) (rY (qs.map Q4.v)):Nat)) H'
theorem lV{K:Fr}{vs:List V}{H:Hp}{Q:VK}{E:XK}(h:ie K vs H Q E):(vs:)=1:=by obtain ⟨_,_,rfl,_⟩:=h;rfl
theorem EN(cs:List C4)(x:C4):fz (cs++[x])=fz cs++[x.2.2.1,x.2.2.2]:=by unfold fz;rw[Qaw,Qcl]
theorem EO(cs:List C4)(x:C4):hW (cs++[x])=hW cs++[(Sum.inl (x.2.2.1:Int),V.int (MK x.2.2.1 x.2.2.2)),(Sum.inl (x.2.2.2:Int),V.int (MK x.2.2.1 x.2.2.2))]:=by unfold hW;rw[Qaw,Qcl]
theorem zf(cs:List C4):(hW cs:)=2*(cs:):=by
 induction cs with
 | nil=>rfl
 | cons x r ih=>
  unfold hW at ih ⊢
  rw[Qa3,U3,ih,Qaz]
  show 2+2*(r:)=2*((r:)+1)
  lia
theorem K9{cs:List C4}{x:C4}(nd:(fz (cs++[x])).Nodup):putK (putK (hW cs) (Sum.inl (x.2.2.1:Int)) (V.int (MK x.2.2.1 x.2.2.2))) (Sum.inl (x.2.2.2:Int)) (V.int (MK x.2.2.1 x.2.2.2))=hW (cs++[x]):=by
 rw[EN,Qb2]at nd
 obtain ⟨n1,n2,n3⟩:=nd
 have k:∀n:Nat,n∉fz cs->(Sum.inl (n:Int):Key)∉(hW cs).map (·.1):=λn hn z=>by
  rw[iT]at z
  obtain ⟨m,hm,e⟩:=Qam.mp z
  have:m=n:=by have:=Sum.inl.inj e;lia
  exact hn (this▸hm)
 have h1:x.2.2.1∉fz cs:=λz=>n3 _ z _ (by simp) rfl
 have h2:x.2.2.2∉fz cs:=λz=>n3 _ z _ (by simp) rfl
 have h3:x.2.2.1≠x.2.2.2:=by
  rw[Qbc]at n2
  simpa using n2.1
 rw[yz _ (ze (k _ h1)),yz,EO,Qbd]
 ·rfl
 ·refine ze λz=>?_
  rw[Qad,Qaf]at z
  rcases z with z | z
  ·exact k _ h2 z
  ·have:=Sum.inl.inj (Qab.mp z)
   lia
noncomputable def cX(cs:List C4)(p:Nat):Nat:=(((eE (hW cs) (Sum.inl (p:Int))).map λv=>match v with | .int i=>i.toNat | _=>0).getD 0)
theorem HJ(p q:Nat):MK p q=(min p q:Nat):=by unfold MK;split<;>lia
theorem ML{cs:List C4}(nd:(fz cs).Nodup){x:C4}(hx:x∈cs):(eE (hW cs) (Sum.inl (x.2.2.1:Int))=some (.int (min x.2.2.1 x.2.2.2:Nat))/\eE (hW cs) (Sum.inl (x.2.2.2:Int))=some (.int (min x.2.2.1 x.2.2.2:Nat)))/\cX cs x.2.2.1=min x.2.2.1 x.2.2.2/\cX cs x.2.2.2=min x.2.2.1 x.2.2.2:=by
 have kn:((hW cs).map (·.1)).Nodup:=by rw[iT];exact OU nd
 have e1:eE (hW cs) (Sum.inl (x.2.2.1:Int))=some (.int (min x.2.2.1 x.2.2.2:Nat)):=by
  rw[<-HJ]
  exact HG kn (Qbh.mpr ⟨x,hx,by simp⟩)
 have e2:eE (hW cs) (Sum.inl (x.2.2.2:Int))=some (.int (min x.2.2.1 x.2.2.2:Nat)):=by
  rw[<-HJ]
  exact HG kn (Qbh.mpr ⟨x,hx,by simp⟩)
 refine ⟨⟨e1,e2⟩,?_,?_⟩
 ·unfold cX;rw[e1];exact YQ _
 ·unfold cX;rw[e2];exact YQ _
theorem CV(cs:List C4):((rY cs).flatMap λx=>[x.1,x.2]).Perm (fz cs):=by
 induction cs with
 | nil=>exact .nil
 | cons x r ih=>
  unfold rY fz at ih ⊢
  rw[Qav,Qa3,Qa3]
  refine List.Perm.append ?_ ih
  show [min x.2.2.1 x.2.2.2,max x.2.2.1 x.2.2.2].Perm [x.2.2.1,x.2.2.2]
  by_cases z:x.2.2.1<=x.2.2.2
  ·rw[Qb6 z,Qdc z]
  ·rw[Qb8 (),Qc7 ()]
   exact List.Perm.swap _ _ _
theorem OV{cs:List C4}{P:Z}(nd:(fz cs).Nodup)(hp:P.Perm (fz cs))(up:P.Pairwise (· < ·)):HC (rY cs) (cX cs) P:=by
 refine ⟨λx hx=>?_,((CV cs).nodup_iff).mpr nd,hp.trans (CV cs).symm,up,λx hx=>?_⟩
 ·obtain ⟨c,hc,rfl⟩:=Qam.mp hx
  have dk:c.2.2.1≠c.2.2.2:=λz=>by
   have:∀{cs:List C4},(fz cs).Nodup->∀c∈cs,c.2.2.1≠c.2.2.2:=λ{cs}=>by
    induction cs with
    | nil=>exact λ_ _ h=>absurd h Qal
    | cons a r ih=>
     intro nd c hc
     unfold fz at nd
     rw[Qa3,Qb2]at nd
     rcases Qak.mp hc with e | e
     ·subst e
      have:=nd.1
      rw[Qbc]at this
      simpa using this.1
     ·exact ih nd.2.1 c e
   exact this nd c hc z
  show min c.2.2.1 c.2.2.2<max c.2.2.1 c.2.2.2
  lia
 ·obtain ⟨c,hc,rfl⟩:=Qam.mp hx
  obtain ⟨_,e1,e2⟩:=ML nd hc
  show cX cs (min c.2.2.1 c.2.2.2)=min c.2.2.1 c.2.2.2/\cX cs (max c.2.2.1 c.2.2.2)=min c.2.2.1 c.2.2.2
  by_cases z:c.2.2.1<=c.2.2.2
  ·rw[Qb6 z,Qdc z]at*
   exact ⟨e1,e2⟩
  ·rw[Qb8 (),Qc7 ()]at*
   exact ⟨e2,e1⟩
theorem HK{l:Z}{p:Nat}(h:p∈l):l.eraseIdx (l.idxOf p)=l.erase p:=(List.erase_eq_eraseIdx_of_idxOf rfl).symm
theorem behind{l:Z}(up:l.Pairwise (· < ·)){p:Nat}(h:p∈l):(l.erase p:) - l.idxOf p=((l.filter λx=>decide (p<x)):):=by
 induction l with
 | nil=>exact absurd h Qal
 | cons a r ih=>
  rw[Qb5]at up
  by_cases z:a=p
  ·subst z
   rw[List.erase_cons_head,Qfp,Qa6 (by simp),List.filter_eq_self.mpr (λx hx=>decide_eq_true (up.1 x hx))]
   rfl
  ·have hr:=(Qak.mp h).resolve_left (Ne.symm z)
   rw[List.erase_cons_tail (by simpa using z),Oz,if_neg z,Qa6 (by
    have:=up.1 p hr
    simp;lia), <-ih up.2 hr,Qaz]
   lia
theorem OW{st:Nat->Nat}{P T R:Z}(h:P.Pairwise (· < ·))(e:P=T++R)(R':Z):(qz st T R').Pairwise (· < ·):=by
 rw[e,Qda]at h
 exact h.1.filter _
theorem K_{st:Nat->Nat}{T R:Z}:(qz st T R:)<=T.length:=Qeb _ _
theorem OX{cs:List C4}(nd:(fz cs).Nodup){p:Nat}(hp:p∈fz cs):eE (hW cs) (Sum.inl (p:Int))=some (.int (cX cs p:Nat)):=by
 unfold fz at hp
 obtain ⟨x,hx,e⟩:=Qbh.mp hp
 obtain ⟨⟨e1,e2⟩,e3,e4⟩:=ML nd hx
 have e':p=x.2.2.1\/p=x.2.2.2:=by simpa using e
 rcases e' with rfl | rfl
 ·rw[e1,e3]
 ·rw[e2,e4]
theorem Bb{ms:List Int}{l:Z}(nd:l.Nodup)(hp:ms.Perm (l.map λn:Nat=>(n:Int)))(hw:ms.Pairwise λa b=> ¬b<a):∃P:Z,ms.map V.int=ins P/\P.Perm l/\P.Pairwise (· < ·):=by
 have CT:∀m∈ms,∃n:Nat,m=n:=λm hm=>by
  obtain ⟨n,_,rfl⟩:=Qam.mp (hp.mem_iff.mp hm)
  exact ⟨n,rfl⟩
 have e1:ms=(ms.map Int.toNat).map λn:Nat=>(n:Int):=by
  rw[Qbq]
  refine (Qf9 ms).symm.trans (Qco λm hm=>?_)
  obtain ⟨n,rfl⟩:=CT m hm
  exact (congrArg _ (YQ n)).symm
 have p1:(ms.map Int.toNat).Perm l:=by
  have:=hp.map Int.toNat
  rw[Qbq]at this
  have e2:l.map (Int.toNat ∘ λn:Nat=>(n:Int))=l:=(Qco λn _=>YQ n).trans (Qf9 l)
  rwa [e2]at this
 refine ⟨ms.map Int.toNat,?_,p1,?_⟩
 ·unfold ins
  conv=>lhs;rw[e1]
  rw[Qbq]
  rfl
 ·have Vb:(ms.map Int.toNat).Nodup:=p1.nodup_iff.mpr nd
  have La:(ms.map Int.toNat).Pairwise λa b=> ¬b<a:=by
   rw[e1,Qby]at hw
   exact hw.imp λh z=>h ()
  refine Qf5 (λ{a b} h=>?_) (List.Pairwise.and La Vb)
  have:=h.1
  have:=h.2
  lia
theorem HL{st:Nat->Nat}{P:Z}{k p:Nat}(h:P[k]? =some p):JC st (P.take k) (P.drop k)=EL st (P.take k) (P.drop (k+1)) p+JC st (P.take (k+1)) (P.drop (k+1)):=by
 obtain ⟨hk,e⟩:=NU.mp h
 rw[Qbj hk,e]
 show EL st _ _ p+JC st (P.take k++[p]) _=_
 rw[take_snoc h]
theorem T1{n k:Nat}(h:k<n):seqIndex? (k:Int) n=some k:=by
 unfold seqIndex?
 simp
 lia
theorem vz:∀(l:Z) (k:Nat),(ins l).eraseIdx k=ins (l.eraseIdx k)
 | [],_=>rfl
 | _::_,0=>rfl
 | a::l,k+1=>congrArg (V.int (a:Nat):: ·) (vz l k)
noncomputable def cst(y w:Z)(i:Int):Int:=yR y (ak (rd w (i - 1))) (rd w i)
theorem HM(y w:Z)(p k:Int):fD y (sq w p) k=cst y w (p+k):=by
 unfold fD cst sq
 rw[show p+(k - 1)=p+k - 1 by lia]
noncomputable def zO(n:Int):Nat:=(48+n).toNat
noncomputable def stx(y w:Z):Z:=(List.range (w:)).map λi:Nat=>zO (cst y w i)
theorem dU(y w:Z):(stx y w:)=(w:):=by unfold stx;rw[Qi,Qck]
theorem OY:∀n:Nat,n<10->dg n=[48+n]:=⋯
noncomputable def j9(lg n:Nat):Nat:=3+lg / max n 1
noncomputable def oP(y u:Z)(lg r:Nat):List (Str×V):=fg "backward" (.str (S (eQ (j9 lg (u:)) (stx y u).reverse))) (fg "onward" (.str (S (eQ (j9 lg (u:)) (stx y u)))) (fg "leads" (.bl (leads u)) (fg "root_size" (.int r) (fg "size" (.int (u:)) []))))
noncomputable def MM(t w:Addr)(p:Nat):List (Str×V):=fg "place" (.int p) (fg "way" (.ref w) (fg "strand" (.ref t) []))
section
variable{y u:Z}{lg r:Nat}{t w:Addr}{p:Nat}
theorem CY:(oP y u lg r).lookup ("size":Str)=some (.int (u:)):=by
 unfold oP
 rw[aM,if_neg ⋯,aM,if_neg ⋯,aM,if_neg ⋯,aM,if_neg ⋯,aM,if_pos rfl]
theorem qA:(oP y u lg r).lookup ("root_size":Str)=some (.int r):=by
 unfold oP
 rw[aM,if_neg ⋯,aM,if_neg ⋯,aM,if_neg ⋯,aM,if_pos rfl]
theorem HN:(oP y u lg r).lookup ("leads":Str)=some (.bl (leads u)):=by
 unfold oP
 rw[aM,if_neg ⋯,aM,if_neg ⋯,aM,if_pos rfl]
theorem T3:(oP y u lg r).lookup ("onward":Str)=some (.str (S (eQ (j9 lg (u:)) (stx y u)))):=by
 unfold oP
 rw[aM,if_neg ⋯,aM,if_pos rfl]
theorem Lb:(oP y u lg r).lookup ("backward":Str)=some (.str (S (eQ (j9 lg (u:)) (stx y u).reverse))):=by
 unfold oP
 rw[aM,if_pos rfl]
theorem nj:(MM t w p).lookup ("place":Str)=some (.int p):=by unfold MM;rw[aM,if_pos rfl]
theorem oQ:(MM t w p).lookup ("way":Str)=some (.ref w):=by unfold MM;rw[aM,if_neg ⋯,aM,if_pos rfl]
theorem vA:(MM t w p).lookup ("strand":Str)=some (.ref t):=by unfold MM;rw[aM,if_neg ⋯,aM,if_neg ⋯,aM,if_pos rfl]
end
theorem dR(f:Str)(v:V):∀fs:List (Str×V),(fg f v fs:)<=(fs:)+1
 | []=>YS _
 |(g,x)::r=>by
  unfold fg
  split
  ·exact Qc0 _
  ·exact Qc1 (dR f v r)
structure Sn where
 a:Addr
 t:Addr
 wy:Addr
 c:Nat
 i:Nat
 u:Z
 p:Nat
 r:Nat
structure ER(H:Hp)(C a:Addr)(y u:Z)(lg r:Nat):Prop where
 ob:∃dx,H a=some (.ins C dx (oP y u lg r))
 sw:SW y u
 uz:(u:)<=lg
 lz:lg<=1000
 rt:b6 u r
theorem ER.same{H H':Hp}{C a:Addr}{y u:Z}{lg r:Nat}(h:ER H C a y u lg r)(s:aj H H'):ER H' C a y u lg r:=by
 obtain ⟨dx,e⟩:=h.ob
 exact ⟨⟨dx,s _ _ e⟩,h.sw,h.uz,h.lz,h.rt⟩
structure j_(H:Hp)(CW CS:Addr)(y:Z)(lg:Nat)(s:Sn):Prop where
 ob:∃dx,H s.a=some (.ins CS dx (MM s.t s.wy s.p))
 st:H s.t=some (.tup [.int s.c,.int s.i])
 wy:ER H CW s.wy y s.u lg s.r
 pz:s.p<(s.u:)
theorem j_.same{H H':Hp}{CW CS:Addr}{y:Z}{lg:Nat}{s:Sn}(h:j_ H CW CS y lg s)(sm:aj H H'):j_ H' CW CS y lg s:=by
 obtain ⟨dx,e⟩:=h.ob
 exact ⟨⟨dx,sm _ _ e⟩,sm _ _ h.st,h.wy.same sm,h.pz⟩
noncomputable def Fx(y:Z)(lg:Nat)(s:Sn):Z:=(eQ (j9 lg (s.u:)) (stx y s.u)).drop (s.p+1)
noncomputable def Fy(y:Z)(lg:Nat)(s:Sn):Z:=(eQ (j9 lg (s.u:)) (stx y s.u).reverse).drop ((s.u:) - 1 - s.p)
noncomputable def seg(l:Z)(x z:Nat):Z:=(l.drop x).take (z - x)
def jn(_:Fr):Sp:=λvs H Q _=>∃(y w:Z) (i:Nat),vs=[.str (S y),.str (S w),.int i]/\Yd y/\(y:)<=8/\SW y w/\(w:)<=1000/\i<(w:)/\∀(n:Nat) H',cst y w i=n->n<8->aj H H'->Q (.int n) H'
theorem oR{K:Fr}{vs:List V}{H:Hp}{Q:VK}{E:XK}(h:jn K vs H Q E):(vs:)=3:=by obtain ⟨_,_,_,rfl,_⟩:=h;rfl
def zg(_:Fr)(C:Addr):Sp:=λvs H Q _=>∃(x dx:Addr) (y w:Z) (lg:Nat),vs=[.ref x,.str (S y),.str (S w),.int lg]/\H x=some (.ins C dx [])/\Yd y/\(y:)<=8/\SW y w/\(w:)<=lg/\lg<=1000/\∀(r:Nat) H',b6 w r->H' x=some (.ins C dx (oP y w lg r))->aG x H H'->Q .gE H'
theorem ES{K:Fr}{C:Addr}{vs:List V}{H:Hp}{Q:VK}{E:XK}(h:zg K C vs H Q E):(vs:)=4:=by obtain ⟨_,_,_,_,_,rfl,_⟩:=h;rfl
def vB(_:Fr)(C:Addr):Sp:=λvs H Q _=>∃(x dx t w:Addr) (p:Nat),vs=[.ref x,.ref t,.ref w,.int p]/\H x=some (.ins C dx [])/\∀H',H' x=some (.ins C dx (MM t w p))->aG x H H'->Q .gE H'
theorem Bc{K:Fr}{C:Addr}{vs:List V}{H:Hp}{Q:VK}{E:XK}(h:vB K C vs H Q E):(vs:)=4:=by obtain ⟨_,_,_,_,_,rfl,_⟩:=h;rfl
def gZ(_:Fr)(CW CS:Addr):Sp:=λvs H Q _=>∃(y:Z) (lg:Nat) (s:Sn) (x z:Nat),vs=[.ref s.a,.int x,.int z]/\(y:)<=8/\j_ H CW CS y lg s/\x<=z/\Q (.str (S (seg (Fx y lg s) x z))) H
theorem qc{K:Fr}{CW CS:Addr}{vs:List V}{H:Hp}{Q:VK}{E:XK}(h:gZ K CW CS vs H Q E):(vs:)=3:=by obtain ⟨_,_,_,_,_,rfl,_⟩:=h;rfl
def iB(_:Fr)(CW CS:Addr):Sp:=λvs H Q _=>∃(y:Z) (lg:Nat) (s:Sn) (x z:Nat),vs=[.ref s.a,.int x,.int z]/\(y:)<=8/\j_ H CW CS y lg s/\x<=z/\Q (.str (S (seg (Fy y lg s) x z))) H
theorem rZ{K:Fr}{CW CS:Addr}{vs:List V}{H:Hp}{Q:VK}{E:XK}(h:iB K CW CS vs H Q E):(vs:)=3:=by obtain ⟨_,_,_,_,_,rfl,_⟩:=h;rfl
theorem Lc{l:Z}{a b:Nat}(h:a<=b):cut l (some (a:Int)) (some (b:Int))=(l.drop a).take (b - a):=by
 unfold cut
 rw[HT.hX,HT.hX]
 by_cases z:a<=(l:)
 ·rw[Qb6 z]
  by_cases z2:b<=(l:)
  ·rw[Qb6 z2]
  ·rw[Qb8 (),Qba (by rw[Qa0];lia),Qba (by rw[Qa0];lia)]
 ·rw[Qb8 (),Qb8 (),Qcm (YS _),Qcm ()]
  simp
theorem CZ{l:Z}{f x z:Nat}(h:x<=z):cut l (some ((f:Int)+x)) (some ((f:Int)+z))=seg (l.drop f) x z:=by
 rw[show (f:Int)+x=((f+x:Nat):Int) by lia,show (f:Int)+z=((f+z:Nat):Int) by lia,Lc ()]
 unfold seg
 rw[List.drop_drop,show f+z - (f+x)=z - x by lia]
theorem nk{lg n:Nat}(h:1<=n):n*j9 lg n<=3*n+lg/\2*n+lg<n*j9 lg n:=by
 unfold j9
 rw[Qc7 h,Nat.mul_add]
 have h1:=Qej lg n
 have h2:=Qdg lg (show 0<n by lia)
 lia
theorem vC(m:Nat)(l:Z):(eQ m l:)=(l:)*m:=by
 unfold eQ
 rw[List.length_flatten,List.map_replicate,List.sum_replicate_nat,Qc9]
theorem SW.aJ{y w:Z}(hy:Yd y)(h:SW y w):My.aJ w=cU w:=by unfold My.aJ;rw[h.core hy]
theorem w4(l:Z)(x z j:Nat):(seg l x z)[j]? =if j<z - x then l[x+j]? else none:=by
 unfold seg
 rw[Qd3]
 split
 ·rw[Qcr]
 ·rfl
theorem Bd{l m:Z}{x z:Nat}:seg l x (x+z)=seg m x (x+z)↔ ∀k,x<=k->k<x+z->l[k]? =m[k]?:= by
 constructor
 ·intro h k h1 h2
  have:=congrArg (·[k - x]?) h
  simp only[w4]at this
  rwa [if_pos (),if_pos (),show x+(k - x)=k by lia]at this
 ·intro h
  refine Qds λj=>?_
  rw[w4,w4]
  by_cases z':j<x+z - x
  ·rw[if_pos z',if_pos z',h (x+j) () ()]
  ·rw[if_neg z',if_neg z']
noncomputable def OZ(b:Bool)(y:Z)(lg:Nat)(s:Sn):Z:=if b=true then Fx y lg s else Fy y lg s
def ka(l m:Z)(n:Nat):Prop:=∀k,k<n->l[k]? =m[k]?
def r9(_:Fr)(CW CS fa fb:Addr):Sp:=λvs H Q _=>∃(y:Z) (lg:Nat) (s t:Sn) (b:Bool) (en:Nat),vs=[.ref (if b=true then fa else fb),.ref s.a,.ref t.a,.int en]/\(y:)<=8/\j_ H CW CS y lg s/\j_ H CW CS y lg t/\en<=100000/\∀m:Nat,ka (OZ b y lg s) (OZ b y lg t) m->(en<=m\/(OZ b y lg s)[m]?≠ (OZ b y lg t)[m]?)->Q (.int m) H
theorem zh{K:Fr}{CW CS fa fb:Addr}{vs:List V}{H:Hp}{Q:VK}{E:XK}(h:r9 K CW CS fa fb vs H Q E):(vs:)=4:=by obtain ⟨_,_,_,_,_,_,rfl,_⟩:=h;rfl
theorem ka.more{l m:Z}{x z:Nat}(h:ka l m x)(e:seg l x (x+z)=seg m x (x+z)):ka l m (x+z):=λk hk=>by
 by_cases q:k<x
 ·exact h k q
 ·exact Bd.mp e k () hk
theorem HP{l m:Z}{x z:Nat}(h:seg l x (x+z)≠seg m x (x+z)):∃k,x<=k/\k<x+z/\l[k]?≠ m[k]?:= Classical.byContradiction λq=>h (Bd.mpr λk h1 h2=>Classical.byContradiction λr=>q ⟨k,h1,h2,r⟩)
noncomputable def Be(s:Sn):Int×Int:=if leads s.u=true then ((s.c:Int),((s.p / s.r:Nat):Int)) else (-(s.c:Int), -((((s.u:) - 1 - s.p) / s.r:Nat):Int))
def r_(_:Fr)(CW CS:Addr):Sp:=λvs H Q _=>∃(y:Z) (lg:Nat) (s:Sn),vs=[.ref s.a]/\j_ H CW CS y lg s/\∀p H',H p=none->H' p=some (.tup [.int (Be s).1,.int (Be s).2])->aj H H'->Q (.ref p) H'
theorem zi{K:Fr}{CW CS:Addr}{vs:List V}{H:Hp}{Q:VK}{E:XK}(h:r_ K CW CS vs H Q E):(vs:)=1:=by obtain ⟨_,_,_,rfl,_⟩:=h;rfl
noncomputable def k_(y:Z)(M:Nat)(s:Sn):List Int:=kk y (sq s.u s.p) 0 M++[(Be s).1,(Be s).2]
def kc(_:Fr)(CW CS:Addr):Sp:=λvs H Q _=>∃(y:Z) (lg:Nat) (s t:Sn),vs=[.ref s.a,.ref t.a]/\Yd y/\(y:)<=8/\j_ H CW CS y lg s/\j_ H CW CS y lg t/\rd s.u s.p=rd t.u t.p/\∀H',aj H H'->Q (.bl (cg (k_ y (2*lg) s) (k_ y (2*lg) t))) H'
theorem qd{K:Fr}{CW CS:Addr}{vs:List V}{H:Hp}{Q:VK}{E:XK}(h:kc K CW CS vs H Q E):(vs:)=2:=by obtain ⟨_,_,_,_,rfl,_⟩:=h;rfl
theorem ke{u:Z}{r:Nat}(hn:u≠[])(h:b6 u r):1<=r/\r<=(u:):=by
 rcases h with ⟨z,_⟩ | ⟨h1,h2,_⟩
 ·exact absurd z hn
 ·exact ⟨h1,h2⟩
theorem C0{y u:Z}{i:Nat}(h:i<(u:)):(stx y u)[i]? =some (zO (cst y u i)):=by
 unfold stx
 rw[Qag,Qcx h]
 rfl
theorem w5(y u:Z)(i:Int):cst y u (i%(u:))=cst y u i:=by
 unfold cst
 rw[fO, <-fO u (i%(u:) - 1),Qeq,Qdu _ (Qf6 _), <-Qeq,fO]
theorem HQ{y:Z}{lg:Nat}{s:Sn}(hn:s.u≠[]){k:Nat}(h:s.p+1+k<(s.u:)*j9 lg (s.u:)):(Fx y lg s)[k]? =some (zO (fD y (sq s.u s.p) (k+1))):=by
 have hp:=YR.mpr hn
 unfold Fx
 rw[Qcr,mX _ _ _ (by rw[dU,Qc9];exact h),dU,C0 (Qdg _ hp),HM,Qe3,w5]
 congr 3
 lia
theorem HR{y:Z}{lg:Nat}{s:Sn}(hn:s.u≠[])(hp:s.p<(s.u:)){k:Nat}(h:(s.u:) - 1 - s.p+k<(s.u:)*j9 lg (s.u:)):(Fy y lg s)[k]? =some (zO (fD y (sq s.u s.p) (-(k:Int)))):=by
 have hl:=YR.mpr hn
 unfold Fy
 rw[Qcr,mX _ _ _ (by rw[Qbb,dU,Qc9];exact h),Qbb,dU]
 have hm:=Qdg ((s.u:) - 1 - s.p+k) hl
 rw[Qc4 (by rw[dU];exact hm),dU,C0 (),HM]
 congr 2
 rw[<-w5 y s.u (s.p+ -(k:Int)), <-w5 y s.u (((s.u:) - 1 - ((s.u:) - 1 - s.p+k)%(s.u:):Nat):Int)]
 congr 1
 have e:(((s.u:) - 1 - ((s.u:) - 1 - s.p+k)%(s.u:):Nat):Int)=((s.u:):Int) - 1 - (((s.u:):Int) - 1 - s.p+k)%(s.u:):=by
  have:((((s.u:) - 1 - s.p+k)%(s.u:):Nat):Int)=(((s.u:):Int) - 1 - s.p+k)%(s.u:):=by
   rw[Qe3];congr 1;lia
  lia
 rw[e,Qeq,Qdu _ (Qf6 _), <-Qeq]
 congr 1
 lia
theorem vD{lg:Nat}{s:Sn}{en:Nat}(hp:s.p<(s.u:))(he:en<=(s.u:)+lg):s.p+1+en<(s.u:)*j9 lg (s.u:)+1/\(s.u:) - 1 - s.p+en<(s.u:)*j9 lg (s.u:):=by
 have:=(nk (lg:=lg) (n:=(s.u:)) ()).2
 lia
theorem C1{u:Z}{r:Nat}(hn:u≠[])(h:b6 u r)(p k:Int):sq u p (k+r)=sq u p k:=by
 have:=((gY hn h).2 (p+r) p).mpr (by rw[show p+(r:Int) - p=r by lia,Int.emod_self])
 have e:=this k
 unfold sq at e ⊢
 rw[show p+(k+r)=p+r+k by lia]
 exact e
theorem C2{a b:Int}(ha:0<=a)(hb:0<=b)(h:zO a=zO b):a=b:=by unfold zO at h;lia
theorem HS{a b:Int}(ha:0<=a)(hb:0<=b):zO a<zO b↔a<b:=by unfold zO;lia
theorem C3{y:Z}{f:Int->Nat}(hy:Yd y)(h:iX y f)(k:Int):0<=fD y f k:=by
 have:=(fP (hy.cl _ (h.bO (k - 1))) (h.bO k) (Ne.symm (h.red k))).1
 unfold fD
 lia
theorem C5{l m:Z}{en a n:Nat}(ha:a<en)(h1:∀k,k<a->l[k]? =m[k]?)(h2:l[a]?≠ m[a]?)(g1:ka l m n)(g2:en<=n\/l[n]?≠ m[n]?):n=a:=by
 by_cases z:a<n
 ·exact absurd (g1 a z) h2
 ·by_cases z2:n<a
  ·rcases g2 with g2 | g2
   ·lia
   ·exact absurd (h1 n z2) g2
  ·lia
theorem C6{l m:Z}{en n:Nat}(h1:∀k,k<en->l[k]? =m[k]?)(g2:en<=n\/l[n]?≠ m[n]?):en<=n:=by
 rcases g2 with g2 | g2
 ·exact g2
 ·exact Classical.byContradiction λz=>g2 (h1 n ())
theorem qB{l:Z}{a x:Nat}(h:l[a]? =some x):seg l a (a+1)=[x]:=by
 obtain ⟨ha,e⟩:=NU.mp h
 unfold seg
 rw[Qbj ha,e,show a+1 - a=1 by lia]
 rfl
theorem HU(x z:Nat):decide ([x]<[z])=decide (x<z):=decide_eq_decide.mpr ⟨λh=>(Qfl.mp h).elim id λq=>absurd q.2 (Qd8 _),λh=>Qfl.mpr (.inl h)⟩
theorem Ld(a b c d:Int):tY a b c d=cg [a,b] [c,d]:=by
 unfold tY
 show _=if a=c then (if b=d then cg [] [] else decide (b<d)) else decide (a<c)
 by_cases z:a=c
 ·rw[if_pos z,if_pos z]
  by_cases q:b=d
  ·rw[if_pos q,q];simp[cg]
  ·rw[if_neg q]
 ·rw[if_neg z,if_neg z]
noncomputable def C7(ss:List Sn):List V:=ss.map λs=>V.ref s.a
theorem ny(ss:List Sn):(C7 ss:)=(ss:):=by unfold C7;rw[Qi]
theorem O0{ss:List Sn}{i:Nat}{s:Sn}(h:ss[i]? =some s):(C7 ss)[i]? =some (V.ref s.a):=by unfold C7;rw[Qag,h];rfl
theorem Le{ss:List Sn}{i:Nat}{x:V}(h:(C7 ss)[i]? =some x):∃s,ss[i]? =some s/\x=V.ref s.a:=by
 unfold C7 at h
 rw[Qag]at h
 cases e:ss[i]? with
 | none=>rw[e]at h;cases h
 | some p=>rw[e]at h;cases h;exact ⟨p,rfl,rfl⟩
def ET(y:Z)(M:Nat)(ss:List Sn):Prop:=ss.Pairwise λs t=>cg (k_ y M t) (k_ y M s)=false
def jo(_:Fr)(CW CS:Addr):Sp:=λvs H Q _=>∃(y:Z) (lg:Nat) (a:Addr) (ss:List Sn) (t:Sn),vs=[.ref a,.ref t.a]/\Yd y/\(y:)<=8/\H a=some (.lst (C7 ss))/\(∀s∈ss,j_ H CW CS y lg s/\rd s.u s.p=rd t.u t.p)/\j_ H CW CS y lg t/\ET y (2*lg) ss/\(ss:)<=100000/\
 ∀(n:Nat) H',n<=(ss:)->(∀k s,ss[k]? =some s->k<n->cg (k_ y (2*lg) s) (k_ y (2*lg) t)=true)->(∀k s,ss[k]? =some s->n<=k->cg (k_ y (2*lg) s) (k_ y (2*lg) t)=false)->aj H H'->Q (.int n) H'
theorem oS{K:Fr}{CW CS:Addr}{vs:List V}{H:Hp}{Q:VK}{E:XK}(h:jo K CW CS vs H Q E):(vs:)=2:=by obtain ⟨_,_,_,_,_,rfl,_⟩:=h;rfl
structure Wp where
 t:Addr
 a:Addr
 b:Addr
 r:Nat
 q:Nat
noncomputable def JD(l:List Wp):List V:=l.map λp=>V.ref p.t
theorem HV{l:List Wp}{i:Nat}{p:Wp}(h:l[i]? =some p):(JD l)[i]? =some (V.ref p.t):=by unfold JD;rw[Qag,h];rfl
theorem HW(l:List Wp)(p:Wp):JD l++[V.ref p.t]=JD (l++[p]):=by unfold JD;rw[Qad];rfl
structure w6(H:Hp)(C:Addr)(y:Z)(lg:Nat)(w:Z)(p:Wp):Prop where
 tp:H p.t=some (.tup [.ref p.a,.ref p.b])
 on:ER H C p.a y w lg p.r
 bk:ER H C p.b y (iI w) lg p.q
theorem w6.same{H H':Hp}{C:Addr}{y:Z}{lg:Nat}{w:Z}{p:Wp}(h:w6 H C y lg w p)(s:aj H H'):w6 H' C y lg w p:=⟨s _ _ h.tp,h.on.same s,h.bk.same s⟩
structure Bf(w:Z)(c i:Nat)(s:Sn):Prop where
 ec:s.c=c
 ei:s.i=i
 eu:s.u=if az (rd w i)=true then w else iI w
 ep:s.p=if az (rd w i)=true then i else (w:) - 1 - i
def kf(_:Fr)(CW CS:Addr):Sp:=λvs H Q _=>∃(y:Z) (lg:Nat) (wt vt st:Addr) (w:Z) (ws:List Z) (nR:List Wp) (p:Wp) (c i:Nat),vs=[.ref wt,.ref vt,.ref st]/\Yd y/\H wt=some (.tup (jy ws))/\H vt=some (.lst (JD nR))/\H st=some (.tup [.int c,.int i])/\ws[c]? =some w/\nR[c]? =some p/\w6 H CW y lg w p/\i<(w:)/\
 ∀(s:Sn) H',Bf w c i s->s.t=st->j_ H' CW CS y lg s->H s.a=none->aj H H'->Q (.ref s.a) H'
theorem qe{K:Fr}{CW CS:Addr}{vs:List V}{H:Hp}{Q:VK}{E:XK}(h:kf K CW CS vs H Q E):(vs:)=3:=by obtain ⟨_,_,_,_,_,_,_,_,_,_,_,rfl,_⟩:=h;rfl
def lB(_:Fr):Sp:=λvs H Q _=>∃(wt:Addr) (ws:List Z) (band:Nat),vs=[.ref wt,.str (S [band])]/\H wt=some (.tup (jy ws))/\(ws:)<=4/\(∀w∈ws,(∀c∈w,Lt c)/\(w:)<=12)/\band∈aW/\∀(q:Addr) (ps:List Pr) (H':Hp),H q=none->H' q=some (.lst (e_ ps))->(∀p∈ps,jB H' p)->ps.map Pr.pair=cB band ws (ws:)->aj H H'->Q (.ref q) H'
theorem sd{K:Fr}{vs:List V}{H:Hp}{Q:VK}{E:XK}(h:lB K vs H Q E):(vs:)=2:=by obtain ⟨c,_,_,rfl,_⟩:=h;rfl
open Classical in
noncomputable def MN(w:Z):Nat:=if h:∃s,b6 w s then choose h else 0
theorem se{w:Z}(hn:w≠[]):b6 w (MN w):=by
 have h:=Cq hn
 unfold MN
 rw[dif_pos h]
 exact Classical.choose_spec h
theorem HX{y w:Z}{r q:Nat}(hy:Yd y)(hw:SW y w)(h:b6 w r)(g:b6 (iI w) q):q=r:=by
 have hn:=hw.ne
 have ht:=rR hn
 have p1:=ke hn h
 have p2:=ke ht g
 have key:∀d:Nat,(d:Int)%(r:Int)=0↔(d:Int)%(q:Int)=0:=λd=>by
  have a:=(gY hn h).2 d 0
  have b:=(gY ht g).2 d 0
  rw[Qep]at a b
  rw[<-a, <-b]
  constructor
  ·intro p k
   rw[kL hn,kL hn]
   unfold bq
   have:=p (-1 - (d:Int) - k)
   unfold sq at this
   have e1:rd w (-1 - (0:Int) - k)=rd w ((d:Int)+(-1 - (d:Int) - k)):=by congr 1;lia
   have e2:rd w (-1 - (d:Int) - k)=rd w (0+(-1 - (d:Int) - k)):=by congr 1;lia
   rw[e1,e2,this]
  ·intro p k
   have e:∀x:Int,rd w x=ak (rd (iI w) (-1 - x)):=λx=>by
    rw[oA hn,show -1 - (-1 - x)=x by lia,aE (hy.lt _ (hw.rd _))]
   unfold sq
   rw[e,e]
   have:=p (-1 - (d:Int) - k)
   unfold sq at this
   rw[show -1 - ((d:Int)+k)=0+(-1 - (d:Int) - k) by lia, <-this]
   congr 2
   lia
 have a:=(key r).mp (Int.emod_self)
 have b:=(key q).mpr (Int.emod_self)
 have a':r%q=0:=by
  have:((r%q:Nat):Int)=0:=by rw[<-a];rfl
  lia
 have b':q%r=0:=by
  have:((q%r:Nat):Int)=0:=by rw[<-b];rfl
  lia
 exact Qfi (Qfv () (Qd7 a')) (Qfv () (Qd7 b'))
noncomputable def Fz(ws:List Z)(c:Nat):Bool:=leads (ws|||c)
noncomputable def FA(ws:List Z)(c:Nat):Nat:=MN (ws|||c)
noncomputable def Vg(y:Z)(ws:List Z)(M:Nat)(x:Nat×Nat):List Int:=fu y ws (Fz ws) (FA ws) M x.1 x.2
theorem Bf.line{y w:Z}{c i:Nat}{s:Sn}(hy:Yd y)(hw:SW y w)(hi:i<(w:))(h:Bf w c i s):sq s.u s.p=nM w i:=by
 rw[h.eu,h.ep]
 unfold nM
 by_cases z:az (rd w i)=true
 ·rw[if_pos z,if_pos z,if_pos z]
 ·rw[if_neg z,if_neg z,if_neg z, <-OA hw.ne,show (((w:) - 1 - i:Nat):Int)=((w:):Int) - 1 - i by lia]
theorem C8{y w:Z}{ws:List Z}{c i M:Nat}{s:Sn}(hy:Yd y)(hw:SW y w)(hi:i<(w:))(e:(ws|||c)=w)(h:Bf w c i s)(rt:b6 s.u s.r):k_ y M s=Vg y ws M (c,i):=by
 unfold k_ Vg fu
 rw[h.line hy hw hi]
 simp only[e]
 congr 1
 unfold Be Jy Fz FA
 rw[e,h.ec]
 have yg:=se hw.ne
 by_cases z:az (rd w i)=true
 ·have eu:s.u=w:=by rw[h.eu,if_pos z]
  have ep:s.p=i:=by rw[h.ep,if_pos z]
  rw[eu]at rt ⊢
  have er:=G0 hw.ne rt yg
  rw[er,ep,z]
  by_cases l:leads w=true
  ·rw[if_pos l,l];rfl
  ·rw[if_neg l,if_neg (λq=>l q.symm)];rfl
 ·have eu:s.u=iI w:=by rw[h.eu,if_neg z]
  have ep:s.p=(w:) - 1 - i:=by rw[h.ep,if_neg z]
  rw[eu]at rt ⊢
  have er:=HX hy hw yg rt
  have z':az (rd w i)=false:=by simpa using z
  rw[er,ep,z',vv hy hw,cO]
  have ei:(w:) - 1 - ((w:) - 1 - i)=i:=by lia
  rw[ei]
  cases leads w<;>rfl
theorem Bf.band{y w:Z}{c i band:Nat}{s:Sn}(hy:Yd y)(hw:SW y w)(hi:i<(w:))(hb:band∈aW)(ho:y8 band (rd w i)=true)(h:Bf w c i s):rd s.u s.p=band:=by
 have lb:Lt band:= .inl hb
 have lo:az band=true:=by rw[gK lb];exact decide_eq_true hb
 have xJ:rd w i=band\/rd w i=ak band:=by
  unfold y8 at ho
  simpa using ho
 rw[h.eu,h.ep]
 rcases xJ with e | e
 ·rw[if_pos (by rw[e];exact lo),if_pos (by rw[e];exact lo)]
  exact e
 ·have z: ¬az (rd w i)=true:=by rw[e,fq _ lb.mem,lo];decide
  rw[if_neg z,if_neg z,oA hw.ne,show -1 - (((w:) - 1 - i:Nat):Int)=i - (w:) by lia,AM,e,aE lb]
def EU(y:Z)(ws:List Z)(M:Nat)(l:List (Nat×Nat)):Prop:=l.Pairwise λs t=>cg (Vg y ws M t) (Vg y ws M s)=false
def lC(_:Fr)(CW CS:Addr):Sp:=λvs H Q _=>∃(y:Z) (lg:Nat) (wt vt:Addr) (ws:List Z) (nR:List Wp) (band:Nat),vs=[.ref wt,.ref vt,.str (S [band])]/\Yd y/\(y:)<=8/\H wt=some (.tup (jy ws))/\(ws:)<=4/\(∀w∈ws,SW y w/\(w:)<=12)/\band∈aW/\H vt=some (.lst (JD nR))/\(nR:)=(ws:)/\(∀(c:Nat) (w:Z) (p:Wp),ws[c]? =some w->nR[c]? =some p->w6 H CW y lg w p)/\
 ∀(q:Addr) (ps:List Pr) (H':Hp),H q=none->H' q=some (.tup (e_ ps))->(∀p∈ps,jB H' p)->(ps.map Pr.pair).Perm (cB band ws (ws:))->EU y ws (2*lg) (ps.map Pr.pair)->aj H H'->Q (.ref q) H'
theorem sg{K:Fr}{CW CS:Addr}{vs:List V}{H:Hp}{Q:VK}{E:XK}(h:lC K CW CS vs H Q E):(vs:)=3:=by obtain ⟨_,_,_,_,_,_,_,rfl,_⟩:=h;rfl
theorem O1{y:Z}{M:Nat}{ss:List Sn}{t:Sn}{n:Nat}(up:ET y M ss)(h1:∀k s,ss[k]? =some s->k<n->cg (k_ y M s) (k_ y M t)=true)(h2:∀k s,ss[k]? =some s->n<=k->cg (k_ y M s) (k_ y M t)=false):ET y M (ss.take n++t::ss.drop n):=by
 have tk:∀s∈ss.take n,cg (k_ y M s) (k_ y M t)=true:=λs hs=>by
  obtain ⟨k,hk,e⟩:=Qdb hs
  rw[Qas]at hk
  rw[List.getElem_take]at e
  exact h1 k s (by rw[<-e];exact NT ()) ()
 have dr:∀s∈ss.drop n,cg (k_ y M s) (k_ y M t)=false:=λs hs=>by
  obtain ⟨k,hk,e⟩:=Qdb hs
  rw[Qa0]at hk
  rw[List.getElem_drop]at e
  exact h2 (n+k) s (by rw[<-e];exact NT ()) ()
 have Xp:ET y M (ss.take n++ss.drop n):=by rw[Qbr];exact up
 unfold ET at Xp ⊢
 rw[Qda]at Xp ⊢
 rw[Qb5]
 obtain ⟨u1,u2,u3⟩:=Xp
 refine ⟨u1,⟨λs hs=>dr s hs,u2⟩,λa ha b hb=>?_⟩
 rcases Qak.mp hb with e | e
 ·rw[e];exact (oB (tk a ha)).1
 ·exact u3 a ha b e
theorem ig(band:Nat){ws:List Z}(hw:∀w∈ws,(w:)<=12):∀n,n<=(ws:)->(cB band ws n:)<=12*n
 | 0,_=>Qao _
 | n+1,h=>by
  have ih:=ig band hw n ()
  unfold cB at ih ⊢
  rw[Qb7,Qaw,U3,Qcl]
  have h1:(h_ band n (ws|||n) ((ws|||n):):)<=12:=by
   unfold h_
   rw[Qi]
   refine Qbf (Qeb _ _) ?_
   rw[Qck]
   exact hw _ (getD_in ())
  lia
theorem Bg{band:Nat}{ws:List Z}{x:Nat×Nat}(h:x∈cB band ws (ws:)):∃w,ws[x.1]? =some w/\x.2<(w:)/\y8 band (rd w x.2)=true:=by
 unfold cB at h
 obtain ⟨c,hc,h⟩:=Qbh.mp h
 have iW:=Qax.mp hc
 unfold h_ at h
 obtain ⟨i,hi,e⟩:=Qam.mp h
 obtain ⟨i1,i2⟩:=Qa8.mp hi
 have Zh:=Qax.mp i1
 subst e
 refine ⟨(ws|||c),by rw[Qaa,NT iW];rfl,Zh,?_⟩
 have:(ws|||c).getD i 0=rd (ws|||c) i:=by
  have:=gU Zh
  rw[Qaa,this];rfl
 show y8 band (rd (ws|||c) i)=true
 rw[<-this]
 exact i2
theorem vE{H H':Hp}{x dx C:Addr}(nx:H x=none)(O2:H dx=none)(sm:aG x (L2.upd (L2.upd H dx (.own x)) x (.ins C dx [])) H'):aj H H':=λa o e=>by
 refine sm a o ?_ (au e nx)
 rw[aq (au e nx),aq (au e O2)]
 exact e
noncomputable def Lf(ws:List Z):List Int:=ws.map λw=>((w:):Int)
theorem Lg(l:List Int):∀a:Int,a<=l.foldl (λx y=>if y>x then y else x) a/\(∀x∈l,x<=l.foldl (λx y=>if y>x then y else x) a)/\(l.foldl (λx y=>if y>x then y else x) a=a\/l.foldl (λx y=>if y>x then y else x) a∈l):=by
 induction l with
 | nil=>exact λa=>⟨Qga _,λ_ h=>absurd h Qal,.inl rfl⟩
 | cons b r ih=>
  intro a
  rw[Qc8]
  obtain ⟨h1,h2,h3⟩:=ih (if b>a then b else a)
  have h4:a<=(if b>a then b else a)/\b<=(if b>a then b else a):=by split<;>lia
  refine ⟨(),λx hx=>?_,?_⟩
  ·rcases Qak.mp hx with e | e
   ·rw[e];lia
   ·exact h2 x e
  ·rcases h3 with e | e
   ·rw[e]
    split
    ·exact .inr Qac
    ·exact .inl rfl
   ·exact .inr (Qae _ e)
theorem Bh{ws:List Z}(h:∀w∈ws,(w:)<=12):∃lg:Nat,Oo 0 (Lf ws)=lg/\lg<=12/\∀w∈ws,(w:)<=lg:=by
 cases ws with
 | nil=>exact ⟨0,rfl,∅,λ_ h=>absurd h Qal⟩
 | cons v r=>
  obtain ⟨h1,h2,h3⟩:=Lg (Lf r) ((v:):Int)
  have e:Oo 0 (Lf (v::r))=(Lf r).foldl (λx y=>if y>x then y else x) ((v:):Int):=rfl
  rw[e]
  generalize (Lf r).foldl (λx y=>if y>x then y else x) ((v:):Int)=m at*
  have hm:∃w∈v::r,m=((w:):Int):=by
   rcases h3 with q | q
   ·exact ⟨v,Qac,q⟩
   ·obtain ⟨w,hw,e'⟩:=Qam.mp q
    exact ⟨w,Qae _ hw,e'.symm⟩
  obtain ⟨w,hw,rfl⟩:=hm
  refine ⟨(w:),rfl,h w hw,λu hu=>?_⟩
  rcases Qak.mp hu with q | q
  ·rw[q];lia
  ·have:=h2 _ (Qam.mpr ⟨u,q,rfl⟩)
   lia
def w9(y:Z)(ws:List Z)(os:List Od):Prop:=∃M,(∀w∈ws,∀v∈ws,(w:)+(v:)<=M)/\gA y ws os/\∀o∈os,EU y ws M (o.ps.map Pr.pair)
def C9(_:Fr):Sp:=λvs H Q _=>∃(y:Z) (wt:Addr) (ws:List Z),vs=[.str (S y),.ref wt]/\Yd y/\(y:)<=8/\H wt=some (.tup (jy ws))/\(ws:)<=4/\(∀w∈ws,SW y w/\(w:)<=12)/\∀(dr:Addr) (os:List Od) (H':Hp),j7 H' dr ws os->w9 y ws os->aj H H'->Q (.ref dr) H'
theorem HY{K:Fr}{vs:List V}{H:Hp}{Q:VK}{E:XK}(h:C9 K vs H Q E):(vs:)=2:=by obtain ⟨_,_,_,rfl,_⟩:=h;rfl
theorem Lh{H:Hp}{C:Addr}{y:Z}{lg i:Nat}{ws:List Z}{nR:List Wp}{w:Z}{p:Wp}(hl:(nR:)=i)(h:∀(c:Nat) (w:Z) (p:Wp),ws[c]? =some w->nR[c]? =some p->w6 H C y lg w p)(hw:ws[i]? =some w)(hp:w6 H C y lg w p):∀(c:Nat) (w:Z) (q:Wp),ws[c]? =some w->(nR++[p])[c]? =some q->w6 H C y lg w q:=λc v q hv hq=>by
 by_cases z:c<(nR:)
 ·rw[Qbi z]at hq
  exact h c v q hv hq
 ·rw[Qb0 ()]at hq
  have:c=i:=by
   have:=(NU.mp hq).1
   simp at this
   lia
  subst this
  rw[hl,Qfb]at hq
  rw[hw]at hv
  cases hv
  cases hq
  exact hp
theorem zj{y:Z}(h:Yd y){b:Nat}(hb:b∈dJ y):b∈aW:=by
 obtain ⟨h1,h2⟩:=Qa8.mp ((eV y).mem_iff.mp hb)
 rw[gK (h.lt b h1)]at h2
 exact of_decide_eq_true h2
theorem HZ{y:Z}{ws:List Z}{L:Nat->Bool}{r:Nat->Nat}{M:Nat}(h:cS y ws L r M){c i d j x:Nat}(hc:c<(ws:))(hd:d<(ws:))(hi:i<((ws|||c):))(hj:j<((ws|||d):))(dk:(c,i)≠(d,j))(hx:az x=true)(e1:rd (ws|||c) i=x\/rd (ws|||c) i=ak x)(e2:rd (ws|||d) j=x\/rd (ws|||d) j=ak x):
  cg (fu y ws L r M c i) (fu y ws L r M d j)=true\/cg (fu y ws L r M d j) (fu y ws L r M c i)=true:=by
 have hw:=h.sw c hc
 have hv:=h.sw d hd
 have hy:=h.yd
 walk_at"R"
 have lv:=YR.mpr hv.ne
 have xs:∀{w:Z} {k:Nat},SW y w->(rd w k=x\/rd w k=ak x)->Lt x:=λ{w k} hw e=>by
  have h9:97<=x/\x<=122:=by unfold az at hx;simpa using hx
  refine .inl ?_
  have:∀k,k<26->k+97∈aW:=by decide
  have h8:=this (x - 97) ()
  rwa [show x - 97+97=x by lia]at h8
 have lx:=xs hw e1
 have ud:∀{w:Z} {k:Nat},SW y w->Dl w k (nM w k)/\((rd w k=x\/rd w k=ak x)->nM w k 0=x)/\(nM w k=if az (rd w k)=true then sq w k else bq w k):=λ{w k} hw=>by
  refine ⟨?_,λe=>?_,rfl⟩
  ·unfold nM
   by_cases z:az (rd w k)=true
   ·rw[if_pos z];exact .inl rfl
   ·rw[if_neg z];exact .inr rfl
  ·unfold nM
   rcases e with e | e
   ·rw[if_pos (by rw[e];exact hx)]
    unfold sq
    rw[Qes];exact e
   ·have z: ¬az (rd w k)=true:=by rw[e,fq _ lx.mem,hx];decide
    rw[if_neg z]
    unfold bq
    rw[Qep,e,aE lx]
 obtain ⟨df,f0,fe⟩:=ud (k:=i) hw
 obtain ⟨dg',g0,ge⟩:=ud (k:=j) hv
 have lf:=df.ud hy hw
 have lg:=dg'.ud hy hv
 by_cases par:∀k,nM (ws|||c) i k=nM (ws|||d) j k
 ·unfold fu
  rw[show nM (ws|||c) i=nM (ws|||d) j from funext par,gm,gm]
  by_cases cd:c=d
  ·subst cd
   have ij:i≠j:=λz=>dk (by rw[z])
   obtain ⟨h1,h2⟩:=h.root hc
   have hr:=h.rp c hc
   -- one and FG same way
   have low:az (rd (ws|||c) i)=az (rd (ws|||c) j):=by
    by_cases z1:az (rd (ws|||c) i)=true<;>by_cases z2:az (rd (ws|||c) j)=true
    ·rw[z1,z2]
    ·exfalso
     rw[fe,ge,if_pos z1,if_neg z2]at par
     exact wL hy hw _ _ par
    ·exfalso
     rw[fe,ge,if_neg z1,if_pos z2]at par
     exact wL hy hw _ _ λk=>(par k).symm
    ·rw[show az (rd (ws|||c) i)=false by simpa using z1,show az (rd (ws|||c) j)=false by simpa using z2]
   have ps:bJ (ws|||c) (ws|||c) i j:=by
    by_cases z1:az (rd (ws|||c) i)=true
    ·have z2:az (rd (ws|||c) j)=true:=by rw[<-low];exact z1
     rw[fe,ge,if_pos z1,if_pos z2]at par
     exact par
    ·have z2: ¬az (rd (ws|||c) j)=true:=by rw[<-low];exact z1
     rw[fe,ge,if_neg z1,if_neg z2]at par
     have e:=congrArg iQ (funext par)
     rw[<-ft, <-ft,m4 hy (a_ hw _),m4 hy (a_ hw _)]at e
     exact λk=>congrFun e k
   have q:=(h.rr c hc _ _).mp ps
   have K0:i%r c=j%r c:=by
    have q2:=Qcw.mpr q
    have q3:((i%r c:Nat):Int)=((j%r c:Nat):Int):=q2
    lia
   have k1:= @AU ((ws|||c):) _ (r c) c i j (L c) (az (rd (ws|||c) j)) hr h1 hi hj K0 ij
   have k2:= @AU ((ws|||c):) _ (r c) c j i (L c) (az (rd (ws|||c) j)) hr h1 hj hi K0.symm (Ne.symm ij)
   rw[low]
   by_cases z:az (rd (ws|||c) j)=true
   ·rw[if_pos z]at k1 k2
    rw[k1,k2,decide_eq_true_iff,decide_eq_true_iff]
    lia
   ·rw[if_neg z]at k1 k2
    rw[k1,k2,decide_eq_true_iff,decide_eq_true_iff]
    lia
  ·have hl:L d=if az (rd (ws|||d) j)=az (rd (ws|||c) i) then L c else !L c:=by
    by_cases z1:az (rd (ws|||c) i)=true<;>by_cases z2:az (rd (ws|||d) j)=true
    ·rw[z1,z2,if_pos rfl]
     rw[fe,ge,if_pos z1,if_pos z2]at par
     exact (h.l1 c d i j hc hd par).symm
    ·rw[if_neg (λq=>z2 (q.trans z1))]
     rw[fe,ge,if_pos z1,if_neg z2]at par
     exact h.l2 c d i j hc hd par
    ·rw[if_neg (λq=>z1 (q.symm.trans z2))]
     rw[fe,ge,if_neg z1,if_pos z2]at par
     have:=h.l2 d c j i hd hc λk=>(par k).symm
     rw[this,Bool.not_not]
    ·rw[show az (rd (ws|||c) i)=false by simpa using z1,show az (rd (ws|||d) j)=false by simpa using z2,if_pos rfl]
     rw[fe,ge,if_neg z1,if_neg z2]at par
     have e:=congrArg iQ (funext par)
     rw[<-ft, <-ft,m4 hy (a_ hw _),m4 hy (a_ hv _)]at e
     exact (h.l1 c d i j hc hd λk=>congrFun e k).symm
   have Am:= @wO ((ws|||c):) ((ws|||d):) (r c) (r d) c d i j (L c) (az (rd (ws|||c) i)) (az (rd (ws|||d) j)) cd
   have xW:L c=if az (rd (ws|||c) i)=az (rd (ws|||d) j) then L d else !L d:=by
    rw[hl]
    cases az (rd (ws|||d) j)<;>cases az (rd (ws|||c) i)<;>cases L c<;>rfl
   have HB:= @wO ((ws|||d):) ((ws|||c):) (r d) (r c) d c j i (L d) (az (rd (ws|||d) j)) (az (rd (ws|||c) i)) (Ne.symm cd)
   rw[<-hl]at Am
   rw[<-xW]at HB
   rw[Am,HB,hl]
   cases az (rd (ws|||d) j)<;>cases az (rd (ws|||c) i)<;>cases L c<;>simp<;>lia
 ·have wQ:∃k,nM (ws|||c) i k≠nM (ws|||d) j k:=Classical.byContradiction λz=>par λk=>Classical.byContradiction λw=>z ⟨k,w⟩
  have OH:∀{w:Z} {k:Nat} (z:Int),nM w k (z+(w:))=nM w k z:=λ{w k} z=>by
   unfold nM
   split
   ·exact cR w k z
   ·exact oz w k z
  obtain ⟨a,b,rn,ha,hb⟩:=dj lw lv OH OH ((f0 e1).trans (g0 e2).symm) wQ
  have big:=h.big c d hc hd
  unfold fu
  rw[oI hy lf lg rn _ _ M 0 (Qao _) (Qao _) () (),oI hy lg lf rn.sy _ _ M 0 (Qao _) (Qao _) () (),Hd hy lf lg (rn.mh a () ()) rn.hi,AW hy lf lg (rn.mh _ () ()) rn.lo]
  by_cases z:a<=b
  ·rw[if_pos z,if_pos z]
   cases gX y (nM (ws|||c) i) (nM (ws|||d) j) a
   ·exact .inr rfl
   ·exact .inl rfl
  ·rw[if_neg z,if_neg z]
   cases gM y (nM (ws|||c) i) (nM (ws|||d) j) b
   ·exact .inr rfl
   ·exact .inl rfl
theorem Li{y:Z}{ws:List Z}{os:List Od}{M:Nat}(hy:Yd y)(hw:∀w∈ws,SW y w)(hM:∀w∈ws,∀v∈ws,(w:)+(v:)<=M)(ok:gA y ws os)(up:∀o∈os,EU y ws M (o.ps.map Pr.pair)):cS y ws (Fz ws) (FA ws) M/\A_ y ws (Fz ws) (FA ws) M os:=by
 have hs:∀c,c<(ws:)->SW y (ws|||c):=λc hc=>hw _ (getD_in hc)
 have hC:cS y ws (Fz ws) (FA ws) M:=y0 hy hs (λc hc=>se (hs c hc).ne) λc d hc hd=>hM _ (getD_in hc) _ (getD_in hd)
 refine ⟨hC,ok,λo ho=>?_⟩
 obtain ⟨j,hj,ej⟩:=Qdb ho
 have Kk:j<(dJ y:):=by rw[<-ok.1];exact hj
 have pm:=ok.2 j o (dJ y)[j] (by rw[NT hj,ej]) (NT Kk)
 have bs:=zj hy (Qa1 Kk)
 have lb:Lt (dJ y)[j]:= .inl bs
 have lo:az (dJ y)[j]=true:=by rw[gK lb];exact decide_eq_true bs
 have nd:(o.ps.map Pr.pair).Nodup:=pm.nodup_iff.mpr (oM _ _ _)
 have u:=up o ho
 unfold EU at u
 refine Qce (λ{s t} h1 h2 h=>?_) (List.Pairwise.and u nd)
 obtain ⟨w1,e1,i1,o1⟩:=Bg (pm.mem_iff.mp h1)
 obtain ⟨w2,e2,i2,o2⟩:=Bg (pm.mem_iff.mp h2)
 have c1:=(NU.mp e1).1
 have c2:=(NU.mp e2).1
 have g1:ws.getD s.1 []=w1:=by rw[Qaa,e1];rfl
 have g2:ws.getD t.1 []=w2:=by rw[Qaa,e2];rfl
 have on:∀{l:Nat},y8 (dJ y)[j] l=true->l=(dJ y)[j]\/l=ak (dJ y)[j]:=λ{l} q=>by unfold y8 at q;simpa using q
 have tr:=HZ hC (c:=s.1) (i:=s.2) (d:=t.1) (j:=t.2) c1 c2 (by rw[g1];exact i1) (by rw[g2];exact i2) h.2 lo (by rw[g1];exact on o1) (by rw[g2];exact on o2)
 rcases tr with q | q
 ·exact q
 ·have hf:cg (fu y ws (Fz ws) (FA ws) M t.1 t.2) (fu y ws (Fz ws) (FA ws) M s.1 s.2)=false:=h.1
  rw[hf]at q
  cases q
theorem O3{y:Z}{ws:List Z}{os:List Od}(hy:Yd y)(hw:∀w∈ws,SW y w)(h:w9 y ws os):∃M,cS y ws (Fz ws) (FA ws) M/\A_ y ws (Fz ws) (FA ws) M os:=by
 obtain ⟨M,hM,ok,up⟩:=h
 exact ⟨M,Li hy hw hM ok up⟩
theorem sj{α β:Type}(p:β->β->Bool)(f:α->β):∀l:List α,cl p (l.map f)=cl (λa b=>p (f a) (f b)) l
 | []=>rfl
 | a::l=>by
  show ((l.map f).filter (p (f a)):)+cl p (l.map f)=((l.filter λb=>p (f a) (f b)):)+cl _ l
  rw[sj p f l,Qfj,Qi]
  rfl
theorem nz{α:Type}{p q:α->α->Bool}:∀{l:List α},l.Pairwise (λa b=>p a b=q a b)->cl p l=cl q l
 | [],_=>rfl
 | a::l,h=>by
  rw[Qb5]at h
  show (l.filter (p a):)+cl p l=(l.filter (q a):)+cl q l
  rw[nz h.2,Qd9 λb hb=>h.1 b hb]
theorem H_{a b a' b':Nat}(h1:a<b)(h2:a'<b')(h4:a<a')(h5:b≠a')(h6:b≠b'):(nQ (a,b) (a',b')||nQ (a',b') (a,b))=pH a b a' b':=by
 have g4:=Qcy h4 h2
 rw[vm (Qay h1) (Qay h4) (Qay g4) h5 h6]
 unfold nQ
 rw[decide_eq_true h4,decide_eq_true g4,decide_eq_false (Qen h4),cx (Ne.symm h6)]
 have k:decide (b'<b)=true->decide (a'<b)=true:=λq=>decide_eq_true (Qcy h2 (of_decide_eq_true q))
 revert k
 generalize decide (a'<b)=p
 generalize decide (b'<b)=q
 revert p q
 decide
theorem w_{a b a' b':Nat}(h1:a<b)(h2:a'<b')(h3:a≠a')(h4:a≠b')(h5:b≠a')(h6:b≠b'):(nQ (a,b) (a',b')||nQ (a',b') (a,b))=pH a b a' b':=by
 rcases Qcq h3 with q | q
 ·exact H_ h1 h2 q h5 h6
 ·rw[Bool.or_comm,H_ h2 h1 q (Ne.symm h4) (Ne.symm h6),m6 (Qay h2) (Qay h1) (Ne.symm h3) (Ne.symm h5) (Ne.symm h4) (Ne.symm h6)]
theorem Lj{a b a' b':Nat}(h1:a≠b)(h2:a'≠b')(h3:a≠a')(h4:a≠b')(h5:b≠a')(h6:b≠b'):(nQ (min a b,max a b) (min a' b',max a' b')||nQ (min a' b',max a' b') (min a b,max a b))=pH a b a' b':=by
 rcases Qcq h1 with q | q<;>rcases Qcq h2 with r | r
 ·rw[Qb6 (Qbo q),Qdc (Qbo q),Qb6 (Qbo r),Qdc (Qbo r)]
  exact w_ q r h3 h4 h5 h6
 ·rw[Qb6 (Qbo q),Qdc (Qbo q),Qb8 (Qbo r),Qc7 (Qbo r),jZ]
  exact w_ q r h4 h3 h6 h5
 ·rw[Qb8 (Qbo q),Qc7 (Qbo q),Qb6 (Qbo r),Qdc (Qbo r), <-yT h1 h2 h3 h4 h5 h6]
  exact w_ q r h5 h6 h3 h4
 ·rw[Qb8 (Qbo q),Qc7 (Qbo q),Qb8 (Qbo r),Qc7 (Qbo r), <-yT h1 h2 h3 h4 h5 h6,jZ]
  exact w_ q r h6 h5 h4 h3
section
variable{y:Z}{ws:List Z}{L:Nat->Bool}{r:Nat->Nat}{M:Nat}
noncomputable def ff(ps:List (Nat×Nat×Nat))(c i e:Nat):Nat:=ps.idxOf (c,i,e)
theorem C_{n i:Nat}(h:i<n):gv n ((i:Int) - 1)=lT n i/\gv n (i:Int)=i:=by
 have h1:=ck (n:=n) () ((i:Int) - 1)
 have h2:=ck (n:=n) () (i:Int)
 rw[wZ h]at h1
 rw[Qa7 () ()]at h2
 lia
theorem kg{ps:List (Nat×Nat×Nat)}{c i:Nat}(hi:i<((ws|||c):)):(eI ps c (ws|||c) i).2.2.1=pI ws (ff ps) c ((i:Int) - 1)/\(eI ps c (ws|||c) i).2.2.2=pO ws (ff ps) c i:=by
 obtain ⟨e1,e2⟩:=C_ hi
 have g:∀k,k<((ws|||c):)->(ws|||c).getD k 0=rd (ws|||c) k:=λk hk=>by
  rw[Qaa,gU hk];rfl
 have dk:(ws|||c)≠[]:=λz=>by rw[z]at hi;exact absurd hi (Qc6 _)
 unfold eI pI pO ff
 rw[e1,e2,g _ (wY hi),g _ hi]
 refine ⟨?_,rfl⟩
 have:rd (ws|||c) (lT ((ws|||c):) i:Nat)=rd (ws|||c) ((i:Int) - 1):=by rw[<-e1,bX dk]
 rw[this]
theorem kM(ps:List (Nat×Nat×Nat))(ws:List Z):∀n,fW ps ws n=(uc ws n).map λx=>eI ps x.1 (ws.getD x.1 []) x.2
 | 0=>rfl
 | n+1=>by
  have ih:=kM ps ws n
  unfold fW at ih ⊢
  unfold uc
  rw[Qb7,Qaw,ih,Qad,Qcl,Qbq]
  rfl
theorem Bi(ws:List Z)(n:Nat):(uc ws n).Nodup:=(Ck n).imp λ{a b} h z=>by
 rw[z]at h
 unfold tY at h
 simp at h
theorem Ia{R:Nat->Nat->Nat->Nat->Bool}(h:cS y ws L r M){ps:List (Nat×Nat×Nat)}(hN:dQ y ws R (ff ps))(l:List (Nat×Nat))(hl:l.Nodup)(CT:∀x∈l,x.1<(ws:)/\x.2<(ws.getD x.1 []:)):(fz (l.map λx=>eI ps x.1 (ws.getD x.1 []) x.2)).Nodup:=by
 unfold fz
 induction l with
 | nil=>exact List.Pairwise.nil
 | cons x t ih=>
  rw[Qbc]at hl
  rw[Qav,Qa3,Qb2]
  obtain ⟨x1,x2⟩:=CT x Qac
  have ex:=kg (ps:=ps) (ws:=ws) (c:=x.1) x2
  refine ⟨?_,ih hl.2 λz hz=>CT z (Qae _ hz),λa ha b hb e=>?_⟩
  ·rw[ex.1,ex.2,Qbc]
   exact ⟨by simpa using (dI h hN x1 x1 x2 x2).1,by simp⟩
  ·obtain ⟨c4,Xq,GY⟩:=Qbh.mp hb
   obtain ⟨z,hz,rfl⟩:=Qam.mp Xq
   obtain ⟨z1,z2⟩:=CT z (Qae _ hz)
   have ez:=kg (ps:=ps) (ws:=ws) (c:=z.1) z2
   have dk:(x.1,x.2)≠(z.1,z.2):=λq=>hl.1 (by
    have:x=z:=Prod.ext (Prod.mk.inj q).1 (Prod.mk.inj q).2
    rw[this];exact hz)
   have n1:=dI h hN x1 z1 x2 z2
   have n2:=dI h hN z1 x1 z2 x2
   rw[ex.1,ex.2]at ha
   rw[ez.1,ez.2]at GY
   have Zi:a=pI ws (ff ps) x.1 ((x.2:Int) - 1)\/a=pO ws (ff ps) x.1 x.2:=by simpa using ha
   have i3:b=pI ws (ff ps) z.1 ((z.2:Int) - 1)\/b=pO ws (ff ps) z.1 z.2:=by simpa using GY
   rw[e]at Zi
   rcases Zi with p | p<;>rcases i3 with q | q<;>rw[p]at q
   ·exact (n1.2 dk).1 q
   ·exact n1.1 q
   ·exact n2.1 q.symm
   ·exact (n1.2 dk).2 q
theorem Ib{R:Nat->Nat->Nat->Nat->Bool}(h:cS y ws L r M){ps:List (Nat×Nat×Nat)}(hN:dQ y ws R (ff ps))(l:List (Nat×Nat))(hl:l.Nodup)(CT:∀x∈l,x.1<(ws:)/\x.2<(ws.getD x.1 []:)):cl (λx z=>nQ x z||nQ z x) (rY (l.map λx=>eI ps x.1 (ws.getD x.1 []) x.2))=cl (A1 ws (ff ps)) l:=by
 unfold rY
 rw[Qbq,sj]
 refine nz (Qce (λ{a b} ha hb oh=>?_) hl)
 obtain ⟨a1,a2⟩:=CT a ha
 obtain ⟨b1,b2⟩:=CT b hb
 have ea:=kg (ps:=ps) (ws:=ws) (c:=a.1) a2
 have eb:=kg (ps:=ps) (ws:=ws) (c:=b.1) b2
 have dk:(a.1,a.2)≠(b.1,b.2):=oh
 have n1:=dI h hN a1 b1 a2 b2
 have n2:=dI h hN b1 a1 b2 a2
 have n3:=dI h hN a1 a1 a2 a2
 have n4:=dI h hN b1 b1 b2 b2
 show (nQ (min _ _,max _ _) (min _ _,max _ _)||nQ (min _ _,max _ _) (min _ _,max _ _))=A1 ws (ff ps) a b
 rw[ea.1,ea.2,eb.1,eb.2,Lj n3.1 n4.1 (n1.2 dk).1 n1.1 (Ne.symm n2.1) (n1.2 dk).2]
 rfl
end
noncomputable def Ic(ws:List Z):Int:=sm (ws:) λc=>(((ws.getD c.toNat []:) / MN (ws.getD c.toNat []):Nat):Int) - 1
noncomputable def kr(w:Z):Int:=(((w:) / MN w:Nat):Int)
theorem Ie{w v:Z}(hw:w≠[])(hv:v≠[])(e:∀d:Int,bJ w w d 0↔bJ v v d 0):MN w=MN v:=EI hw hv (se hw) (se hv) e
theorem sk{w:Z}{n:Nat}(hn:n<=(w:)):(dA w n:)=(w:):=by
 unfold dA
 rw[U3,Qa0,Qas,Qb6 hn,Nat.sub_add_cancel hn]
theorem Ig{w v:Z}(h:w≠[])(e:(v:)=(w:)):v≠[]:=λz=>h (Qca.mp (by rw[<-e,z];rfl))
theorem O4{w:Z}(hw:w≠[]){n:Nat}(hn:n<=(w:)):kr (dA w n)=kr w:=by
 unfold kr
 rw[sk hn,Ie (Ig hw (sk hn)) hw (K4 hw hn)]
noncomputable def O5(y w:Z):Int:=SS y w w+2*(kr w - 1)
noncomputable def sr(y:Z)(ws:List Z):Int:=sm (ws:) (λc=>O5 y (ws.getD c.toNat []))+2*iA (ws:) (λc d=>SS y (ws.getD c.toNat []) (ws.getD d.toNat []))
theorem Bj(h:Int->Int)(n:Nat):2*sm n h=sm n λi=>2*h i:=by
 rw[show (λi=>2*h i)=λi=>h i+h i from funext λi=>Int.two_mul _,j4,Int.two_mul]
theorem O6{y:Z}{ws:List Z}{M:Nat}{N:Nat->Nat->Nat->Nat}(h:cS y ws (Fz ws) (FA ws) M)(hN:Lies y ws (Fz ws) (FA ws) M N):2*(cl (A1 ws N) (places ws):Int)=sr y ws:=by
 unfold places sr
 rw[A0,Int.mul_add,Bj]
 congr 1
 ·refine aI λc hc=>?_
  rw[YQ]
  have a:=Hc h hN hc
  rw[CL h.yd (h.sw c hc) (h.sw c hc)]at a
  rw[show iA ((ws|||c):) (λi j=>one (A1 ws N (c,i.toNat) (c,j.toNat)=true))=iA ((ws|||c):) (λi j=>one (eA (pO ws N c) (pI ws N c) (pO ws N c) (pI ws N c) i j=true)) from gN λi j _ _=>by
   unfold A1
   rw[YQ,YQ],a]
  rfl
 ·congr 1
  refine gN λc d ji hd=>?_
  rw[YQ,YQ, <-CL h.yd (h.sw c (Qcy ji hd)) (h.sw d hd), <-EG h hN (c:=c) (d:=d) (Qcy ji hd) hd (Qay ji)]
  exact br λi j _ _=>by
   unfold A1
   rw[YQ,YQ]
theorem EV{y:Z}{ws:List Z}{os:List Od}(hy:Yd y)(hw:∀w∈ws,SW y w)(h:w9 y ws os):(fz (fG y ws os)).Nodup/\2*(cl (λx z=>nQ x z||nQ z x) (rY (fG y ws os)):Int)=sr y ws:=by
 obtain ⟨M,hC,hT⟩:=O3 hy hw h
 have hN:Lies y ws (Fz ws) (FA ws) M (ff (cV y os)):=lies_of hy hC.sw hT
 have CT:∀x∈places ws,x.1<(ws:)/\x.2<(ws.getD x.1 []:):=λx hx=>kH.mp hx
 unfold fG
 rw[kM]
 refine ⟨Ia hC hN _ (Bi ws _) CT,?_⟩
 rw[Ib hC hN _ (Bi ws _) CT]
 exact O6 hC hN
theorem TH.ok{y:Z}{ws:List Z}(h:TH y ws):wW y ws:=⟨h.t_,λw hw=>⟨(h.sw w hw).1.bO,(h.sw w hw).2⟩⟩
theorem EW{y:Z}{ws:List Z}{os:List Od}(h:TH y ws):(fG y ws os:)<=24:=by
 unfold fG
 rw[kM,Qi]
 exact h.all
def zk(_:Fr):Sp:=λvs H Q _=>∃(y:Z) (wt:Addr) (ws:List Z),vs=[.str (S y),.ref wt]/\Yd y/\(y:)<=8/\TH y ws/\H wt=some (.tup (jy ws))/\∀(n:Nat) H',aj H H'->2*(n:Int)=sr y ws->Q (.int n) H'
theorem EX{K:Fr}{vs:List V}{H:Hp}{Q:VK}{E:XK}(h:zk K vs H Q E):(vs:)=2:=by obtain ⟨_,_,_,rfl,_⟩:=h;rfl
theorem one_le(p:Prop):0<=one p/\one p<=1:=by
 by_cases z:p
 ·rw[dG z];decide
 ·rw[aT z];decide
def pM(_:Fr):Sp:=λvs H Q _=>∃(b:Addr) (y:Z) (wt:Addr) (ws:List Z),vs=[.ref b,.str (S y),.ref wt]/\bM H b/\Yd y/\(y:)<=8/\wt≠b/\H wt=some (.lst (jy ws))/\wW y ws/\∀(dr:Addr) (os:List Od) (H':Hp),j7 H' dr ws os->gA y ws os->bM H' b->aG b H H'->Q (.ref dr) H'
theorem xf{K:Fr}{vs:List V}{H:Hp}{Q:VK}{E:XK}(h:pM K vs H Q E):(vs:)=3:=by obtain ⟨c,_,_,_,rfl,_⟩:=h;rfl
structure Pu where
 t:Addr
 e:Nat
 p:Pr
noncomputable def pN(ps:List Pu):List V:=ps.map λp=>V.ref p.t
theorem kN(ps:List Pu):(pN ps:)=(ps:):=by unfold pN;rw[Qi]
theorem Dc(a b:List Pu):pN a++pN b=pN (a++b):=by unfold pN;rw[Qad]
theorem zl(a:List Pu)(p:Pu):pN a++[V.ref p.t]=pN (a++[p]):=by unfold pN;rw[Qad];rfl
theorem O7{ps:List Pu}{i:Nat}{x:V}(h:(pN ps)[i]? =some x):∃p,ps[i]? =some p/\x=V.ref p.t:=by
 unfold pN at h
 rw[Qag]at h
 cases e:ps[i]? with
 | none=>rw[e]at h;cases h
 | some p=>rw[e]at h;cases h;exact ⟨p,rfl,rfl⟩
noncomputable def Pu.is(p:Pu):Nat×Nat×Nat:=(p.p.c,p.p.i,p.e)
structure xg(H:Hp)(p:Pu):Prop where
 tp:H p.t=some (.tup [.str (S [p.e]),.ref p.p.t])
 pr:jB H p.p
theorem xg.ts{H H':Hp}{p:Pu}(h:xg H p)(s:aR H H'):xg H' p:=⟨s _ _ h.tp,h.pr.ts s⟩
def sx(_:Fr):Sp:=λvs H Q _=>∃(y:Z) (dr:Addr) (ws:List Z) (os:List Od),vs=[.str (S y),.ref dr]/\Yd y/\(y:)<=8/\gA y ws os/\j7 H dr ws os/\∀(q:Addr) (ps:List Pu) (H':Hp),H q=none->H' q=some (.lst (pN ps))->(∀p∈ps,xg H' p)->ps.map Pu.is=cV y os->(ps:)<=800->aj H H'->Q (.ref q) H'
theorem zo{K:Fr}{vs:List V}{H:Hp}{Q:VK}{E:XK}(h:sx K vs H Q E):(vs:)=2:=by obtain ⟨_,_,_,_,rfl,_⟩:=h;rfl
noncomputable def nA(x:Nat×Nat×Nat):Key×List Key:=(Sum.inr (S [x.2.2]),[Sum.inl (x.1:Int),Sum.inl (x.2.1:Int)])
theorem zp{p q:Nat×Nat×Nat}(h:nA p=nA q):p=q:=by
 have h1:=congrArg Prod.fst h
 have h2:=congrArg Prod.snd h
 unfold nA at h1 h2
 injection h2 with h2 h3
 injection h3 with h3 _
 have a1:(p.1:Int)=q.1:=Sum.inl.inj h2
 have a2:(p.2.1:Int)=q.2.1:=Sum.inl.inj h3
 have a3:[p.2.2]=[q.2.2]:=by
  have:=Sum.inr.inj h1
  rw[<-fK [p.2.2],this,fK]
 have a4:p.2.2=q.2.2:=by simpa using a3
 exact Prod.ext () (Prod.ext () a4)
theorem xg.key{H:Hp}{p:Pu}(h:xg H p):jT H (nA p.is) p.t:=⟨p.p.t,h.tp,h.pr.tp⟩
theorem MO{x:Nat×Nat×Nat}:∀(l:List (Nat×Nat×Nat)) (es:List Mv) (off:Nat),es.map (·.k)=l.map nA->(∀(m:Nat) (e:Mv),es[m]? =some e->e.n=((off+m:Nat):Int))->x∈l->
  ((Ef es).find? λz=>decide (z.1=nA x)).map (·.2.2)=some ((off+l.idxOf x:Nat):Int)
 | [],_,_,_,_,hx=>by cases hx
 | a::l,[],_,he,_,_=>by cases he
 | a::l,e::es,off,he,hn,hx=>by
  rw[Qav,Qav]at he
  injection he with h1 h2
  show ((((e.k,e.a,e.n)::Ef es).find? λz=>decide (z.1=nA x)).map (·.2.2))=_
  rw[Qcp]
  by_cases z:x=a
  ·rw[show decide (e.k=nA x)=true from decide_eq_true (by rw[h1,z])]
   have:=hn 0 e rfl
   rw[z,Qfp]
   show some e.n=_
   rw[this]
  ·rw[show decide (e.k=nA x)=false from decide_eq_false λy=>z (zp (y.symm.trans h1))]
   have ih:=MO (x:=x) l es (off+1) h2 (λm e' hm=>by have:=hn (m+1) e' (by simpa using hm);rw[this];lia) ((Qak.mp hx).resolve_left z)
   have ei:(a::l).idxOf x=l.idxOf x+1:=by rw[Qge,show (a==x)=false by simpa using λy=>z y.symm];rfl
   rw[ih,ei]
   congr 2
   lia
theorem Lk{a b r s:Nat}(h1:a≠b)(h3:a≠r)(h4:a≠s)(h5:b≠r)(h6:b≠s):y_ a b r s=pH a b r s:=by
 rw[vm h1 h3 h4 h5 h6]
 have key:∀x:Nat,a≠x->b≠x->JB (if (b:Int)<a then b else a) (if (b:Int)>a then b else a) x=!(decide (a<x) ^^ decide (x<b)):=λx g1 g2=>by
  unfold JB
  rcases Qcq h1 with q | q
  ·rw[if_neg (),if_pos (),show decide ((a:Int)<x)=decide (a<x) from decide_eq_decide.mpr (),show decide ((x:Int)<b)=decide (x<b) from decide_eq_decide.mpr ()]
   have k:decide (a<x)=false->decide (x<b)=true:=λz=>decide_eq_true (by have:=of_decide_eq_false z;lia)
   revert k
   generalize decide (a<x)=u
   generalize decide (x<b)=v
   revert u v
   decide
  ·rw[if_pos (),if_neg (),show decide ((b:Int)<x)=!decide (x<b) from by rw[<-cx (Ne.symm g2)];exact decide_eq_decide.mpr (),show decide ((x:Int)<a)=!decide (a<x) from by rw[<-cx g1];exact decide_eq_decide.mpr ()]
   have k:decide (a<x)=true->decide (x<b)=false:=λz=>decide_eq_false (by have:=of_decide_eq_true z;lia)
   revert k
   generalize decide (a<x)=u
   generalize decide (x<b)=v
   revert u v
   decide
 unfold y_
 rw[key r h3 h5,key s h4 h6]
 generalize decide (a<r)=p1
 generalize decide (r<b)=p2
 generalize decide (a<s)=p3
 generalize decide (s<b)=p4
 revert p1 p2 p3 p4
 decide
theorem Ll{α:Type}(q:α->α->Bool)(l:List α)(a:α):cl q (l++[a])=cl q l+((l.filter λx=>q x a):):=by
 induction l with
 | nil=>rfl
 | cons b l ih=>
  show ((l++[a]).filter (q b):)+cl q (l++[a])=((l.filter (q b):)+cl q l)+(((b::l).filter λx=>q x a):)
  rw[ih,Qcg,U3]
  by_cases z:q b a=true
  ·have e1:([a].filter (q b):)=1:=by rw[Qbe z];rfl
   have e2:(((b::l).filter λx=>q x a):)=((l.filter λx=>q x a):)+1:=by rw[Qbe (p:=λx=>q x a) z];rfl
   lia
  ·have e1:([a].filter (q b):)=0:=by rw[Qa6 z];rfl
   have e2:(((b::l).filter λx=>q x a):)=((l.filter λx=>q x a):):=by rw[Qa6 (p:=λx=>q x a) z]
   lia
noncomputable def uh(cs:List C4):Nat:=cl (λx z=>meets z x) cs
theorem EY{cs:List C4}{k:Nat}{x:C4}(h:cs[k]? =some x):uh (cs.take (k+1))=uh (cs.take k)+((cs.take k).filter (meets x):):=by
 unfold uh
 rw[<-take_snoc h,Ll]
noncomputable def Lm(x:C4):List Int:=[((min x.2.2.1 x.2.2.2:Nat):Int),((max x.2.2.1 x.2.2.2:Nat):Int)]
theorem O8{x:C4}{ms:List Int}(p:ms.Perm [(x.2.2.1:Int),x.2.2.2])(h:ms.Pairwise (· <= ·)):ms=Lm x:=by
 obtain ⟨a,b,rfl⟩:∃a b,ms=[a,b]:=by
  have:=p.length_eq
  match ms,this with
  | [a,b],_=>exact ⟨a,b,rfl⟩
 have oh:a<=b:=by simpa using h
 have e1:a=(x.2.2.1:Int)\/a=x.2.2.2:=by simpa using p.mem_iff.mp (Qac (a:=a))
 have e2:b=(x.2.2.1:Int)\/b=x.2.2.2:=by simpa using p.mem_iff.mp (Qae a (Qac (a:=b)))
 have e3:(x.2.2.1:Int)=a\/(x.2.2.1:Int)=b:=by simpa using p.mem_iff.mpr (Qac (a:=(x.2.2.1:Int)))
 have e4:(x.2.2.2:Int)=a\/(x.2.2.2:Int)=b:=by simpa using p.mem_iff.mpr (Qae (x.2.2.1:Int) (Qac (a:=(x.2.2.2:Int))))
 unfold Lm
 congr 1
 ·lia
 ·congr 1
  lia
theorem Ih(x z:C4):(xor (JB ((min x.2.2.1 x.2.2.2:Nat):Int) ((max x.2.2.1 x.2.2.2:Nat):Int) ((min z.2.2.1 z.2.2.2:Nat):Int)) (JB ((min x.2.2.1 x.2.2.2:Nat):Int) ((max x.2.2.1 x.2.2.2:Nat):Int) ((max z.2.2.1 z.2.2.2:Nat):Int)))=meets x z:=by
 unfold meets y_
 have e1:(if (x.2.2.2:Int)<x.2.2.1 then (x.2.2.2:Int) else x.2.2.1)=((min x.2.2.1 x.2.2.2:Nat):Int):=by split<;>lia
 have e2:(if (x.2.2.2:Int)>x.2.2.1 then (x.2.2.2:Int) else x.2.2.1)=((max x.2.2.1 x.2.2.2:Nat):Int):=by split<;>lia
 rw[e1,e2]
 generalize ((min x.2.2.1 x.2.2.2:Nat):Int)=lo
 generalize ((max x.2.2.1 x.2.2.2:Nat):Int)=hi
 rcases Nat.le_total z.2.2.1 z.2.2.2 with g | g
 ·rw[Qb6 g,Qdc g]
  generalize JB lo hi (z.2.2.1:Int)=p
  generalize JB lo hi (z.2.2.2:Int)=q
  revert p q
  decide
 ·rw[Qb8 g,Qc7 g]
  generalize JB lo hi (z.2.2.1:Int)=p
  generalize JB lo hi (z.2.2.2:Int)=q
  revert p q
  decide
def Ii(y:Z)(f g:Int->Nat)(e:Bool):Prop:=∃a b,Run f g a b/\gX y f g a≠gM y f g b/\e=gM y f g b
theorem Bk{p q m:Prop}(h:p->q\/m):one p<=one m+one q:=by
 have a:=one_le m
 have b:=one_le q
 by_cases hp:p
 ·rw[dG hp]
  rcases h hp with z | z
  ·rw[dG z];omega
  ·rw[dG z];omega
 ·rw[aT hp];omega
theorem Ln{y:Z}{f g:Int->Nat}{e0 e1:Bool}{m:Prop}
  (r0:f 0=g 0->∃a b,Run f g a b) (r1:f (-1)=g (-1)->∃a b,Run (dB f) (dB g) a b)
  (ma:f 0=g 0->f (-1)≠g (-1)->(m↔e0≠gM y f g 0)) (mb:f (-1)=g (-1)->f 0≠g 0->(m↔e1≠gX y (dB f) (dB g) 0)) (mc:f (-1)=g (-1)->f 0=g 0->(m↔e1≠e0)):
  one (jE y f g)+one (Ii y (dB f) (dB g) e1)<=one m+one (Ii y f g e0):=by
 have hm:=one_le m
 have hn:=one_le (Ii y f g e0)
 by_cases z0:f 0=g 0
 ·obtain ⟨a,b,r⟩:=r0 z0
  by_cases z1:f (-1)=g (-1)
  ·cases b with
   | zero=>exact absurd z1 r.lo
   | succ b=>
    have KQ: ¬jE y f g:=λ⟨a',r',_⟩=>absurd (r.one r').2 (Qdv b)
    rw[aT KQ,Qcz]
    refine Bk λ⟨a',b',r',x,e⟩=>?_
    obtain ⟨rfl,rfl⟩:=r.bk.one r'
    rw[kI,ja]at x
    rw[ja]at e
    by_cases q:e1=e0
    ·exact .inl ⟨a,b+1,r,x,q.symm.trans e⟩
    ·exact .inr ((mc z1 z0).mpr q)
  ·have hny: ¬Ii y (dB f) (dB g) e1:=λ⟨_,_,r',_⟩=>z1 r'.zero
   rw[aT hny,Qes]
   refine Bk λ⟨a',r',x⟩=>?_
   by_cases q:e0=gM y f g 0
   ·exact .inl ⟨a',0,r',x,q⟩
   ·exact .inr ((ma z0 z1).mpr q)
 ·have KQ: ¬jE y f g:=λ⟨_,r',_⟩=>z0 r'.zero
  rw[aT KQ,Qcz]
  refine Bk λ⟨a,b,r',x,e⟩=>?_
  have z1:f (-1)=g (-1):=r'.zero
  have ea:a=0:=by
   refine Classical.byContradiction λq=>z0 ?_
   exact r'.mh 1 (by omega) (by omega)
  subst ea
  exact .inr ((mb z1 z0).mpr λq=>x (q.symm.trans e))
theorem fX{h g:Int->Int}:∀{n:Nat},(∀i:Nat,i<n->h i<=g i)->sm n h<=sm n g
 | 0,_=>Qga 0
 | n+1,e=>by
  have a:=fX (n:=n) λi hi=>e i (by omega)
  have b:=e n (by omega)
  show sm n h+h n<=sm n g+g n
  omega
theorem Ij{n m:Nat}{h g:Int->Int->Int}(e:∀i j:Nat,i<n->j<m->h i j<=g i j):bH n m h<=bH n m g:=fX λi hi=>fX λj hj=>e i j hi hj
structure Ik(y:Z)(F:Int->Int->Nat)(o i:Int->Nat)(G:Int->Int->Nat)(o' i':Int->Nat):Prop where
 sep:∀s t,Sep y [(ak (F s (-1)),i (s - 1)),(F s 0,o s),(ak (G t (-1)),i' (t - 1)),(G t 0,o' t)]
 on:∀s t,F s 0=G t 0-> ¬par F G s t->o s≠o' t/\i s≠i' t/\decide (o s<o' t)=decide (i' t<i s)
theorem Dd{y:Z}{n m:Nat}{F G:Int->Int->Nat}{o i o' i':Int->Nat}(hy:Yd y)(hF:MG y n F o i)(hG:MG y m G o' i')(h:Ik y F o i G o' i'):
  bH n m (λs t=>one (jE y (F s) (G t)))<=bH n m λs t=>one (yU F G s t/\yV o i o' i' s t=true/\ ¬par F G s t):=by
 have pt:∀s t:Int,one (jE y (F s) (G t))+one (Ii y (F (s - 1)) (G (t - 1)) (decide (o (s - 1)<o' (t - 1))))<=one (yU F G s t/\yV o i o' i' s t=true/\ ¬par F G s t)+one (Ii y (F s) (G t) (decide (o s<o' t))):=λs t=>by
  by_cases hp:par F G s t
  ·have nr:∀{a b}, ¬Run (F s) (G t) a b:=λr=>r.hi (hp _)
   have yS:=(wK hF hG).mpr hp
   have Xl:∀{a b}, ¬Run (F (s - 1)) (G (t - 1)) a b:=λr=>r.hi (yS _)
   rw[aT (p:=jE _ _ _) (λ⟨_,r,_⟩=>nr r),aT (p:=Ii _ _ _ _) (λ⟨_,_,r,_⟩=>Xl r)]
   have a:=one_le (yU F G s t/\yV o i o' i' s t=true/\ ¬par F G s t)
   have b:=one_le (Ii y (F s) (G t) (decide (o s<o' t)))
   omega
  ·have gp: ¬par F G (s - 1) (t - 1):=λq=>hp ((wK hF hG).mp q)
   have dk:∃k,F s k≠G t k:=Classical.byContradiction λz=>hp λk=>Classical.byContradiction λq=>z ⟨k,q⟩
   have G9:∃k,F (s - 1) k≠G (t - 1) k:=Classical.byContradiction λz=>gp λk=>Classical.byContradiction λq=>z ⟨k,q⟩
   have e1:∀s,F (s - 1) 0=F s (-1):=λs=>by rw[<-hF.bk];rfl
   have e2:∀t,G (t - 1) 0=G t (-1):=λs=>by rw[<-hG.bk];rfl
   have tt:one (F s 0=G t 0/\yV o i o' i' s t=true\/F s (-1)=G t (-1)/\yV o i o' i' s t=true)=one (yU F G s t/\yV o i o' i' s t=true/\ ¬par F G s t):=bu ⟨λz=>z.elim (λz=>⟨.inl z.1,z.2,hp⟩) λz=>⟨.inr z.1,z.2,hp⟩,λz=>z.1.elim (λq=> .inl ⟨q,z.2.1⟩) λq=> .inr ⟨q,z.2.1⟩⟩
   rw[<-tt, <-hF.bk, <-hG.bk]
   refine Ln (λz=>?_) (λz=>?_) (λz0 z1=>?_) (λz1 z0=>?_) (λz1 z0=>?_)
   ·obtain ⟨a,b,r,_⟩:=dj hF.pos hG.pos (hF.own s) (hG.own t) z dk
    exact ⟨a,b,r⟩
   ·obtain ⟨a,b,r,_⟩:=dj hF.pos hG.pos (hF.own (s - 1)) (hG.own (t - 1)) (by rw[e1,e2];exact z) G9
    rw[hF.bk,hG.bk]
    exact ⟨a,b,r⟩
   ·have q:=G7 hy (hF.ud s) (hG.ud t) (h.sep s t) (h.on s t z0 hp).1 z0 z1
    exact ⟨λx=>x.elim (λx=>q.mp x.2) λx=>absurd x.1 z1,λx=> .inl ⟨z0,q.mpr x⟩⟩
   ·have on:=h.on (s - 1) (t - 1) (by rw[e1,e2];exact z1) gp
    have q:=G8 hy (hF.ud s) (hG.ud t) (h.sep s t) on.2.1 z1 z0
    rw[on.2.2]
    exact ⟨λx=>x.elim (λx=>absurd x.1 z0) λx=>q.mp x.2,λx=> .inr ⟨z1,q.mpr x⟩⟩
   ·have on:=h.on (s - 1) (t - 1) (by rw[e1,e2];exact z1) gp
    have q:=oE hy (hF.ud s) (hG.ud t) (h.sep s t) on.2.1 (h.on s t z0 hp).1 z1 z0
    rw[on.2.2]
    exact ⟨λx=>q.mp (x.elim (λx=>x.2) λx=>x.2),λx=> .inl ⟨z0,q.mpr x⟩⟩
 have e:=Ij (n:=n) (m:=m) (h:=λs t=>one (jE y (F s) (G t))+one (Ii y (F (s - 1)) (G (t - 1)) (decide (o (s - 1)<o' (t - 1))))) (g:=λs t=>one (yU F G s t/\yV o i o' i' s t=true/\ ¬par F G s t)+one (Ii y (F s) (G t) (decide (o s<o' t)))) λs t _ _=>pt s t
 rw[cb,cb,oF (h:=λs t=>one (Ii y (F s) (G t) (decide (o s<o' t)))) (λs t=>by rw[hF.OH,hF.op]) (λs t=>by rw[hG.OH,hG.op])]at e
 omega
theorem Bl{α:Type}{p q:α->Bool}:∀{l:List α},(∀x∈l,p x=true->q x=true)->(∃x∈l,q x=true/\p x=false)->l.countP p+1<=l.countP q
 | [],_,⟨_,h,_⟩=>absurd h Qal
 | a::l,h,⟨x,hx,h1,h2⟩=>by
  rw[List.countP_cons,List.countP_cons]
  have m:=Qec (p:=p) (q:=q) (l:=l) λz hz=>h z (Qae _ hz)
  rcases Qak.mp hx with e | e
  ·subst e
   rw[h1,h2]
   simp
   exact m
  ·have ih:=Bl (λz hz=>h z (Qae _ hz)) ⟨x,e,h1,h2⟩
   have ha:=h a Qac
   cases pa:p a
   ·cases q a<;>simp<;>omega
   ·rw[ha pa]
    simp
    omega
theorem EZ(k:Nat):((List.range (k+1)).map λm=>(m+1)%(k+1)).Perm (List.range (k+1)):=by
 have e:((List.range (k+1)).map λm=>(m+1)%(k+1))=(List.range k).map Nat.succ++[0]:=by
  rw[Qb7,Qad]
  congr 1
  ·refine Qco λm hm=>?_
   exact Qbs (Nat.succ_lt_succ (Qax.mp hm))
  ·show [(k+1)%(k+1)]=[0]
   rw[Qem]
 rw[e,List.range_succ_eq_map]
 exact Qea
theorem zq{k c:Nat}{U:Nat->Bool}{f:Nat->Nat}(fi:∀u v,u<k+1->v<k+1->f u=f v->u=v)
  (h:∀u v,u<k+1->v<k+1->U u=true->U v=false->(f u<f v↔f ((u+1)%(k+1))<f ((v+1)%(k+1)))) {m x:Nat} (hm:m<k+1) (hx:x<k+1) (em:f m=c) (ex:f ((x+1)%(k+1))=c)
  (ih:∀x',x'<k+1->f ((x'+1)%(k+1))<c->U ((x'+1)%(k+1))=U x') (um:U m=true) (ux:U x=false):False:=by
 have sl:∀x:Nat,(x+1)%(k+1)<k+1:=λx=>Qdg _ (Qf3 k)
 have tr:∀P:Nat->Bool,(List.range (k+1)).countP (λu=>P (U u |>.toNat)&&decide (f u<c))=(List.range (k+1)).countP (λu=>P (U u |>.toNat)&&decide (f ((u+1)%(k+1))<c)):=λP=>by
  rw[<-(EZ k).countP_eq,List.countP_map]
  refine List.countP_congr λu hu=>?_
  show (P (U ((u+1)%(k+1)) |>.toNat)&&decide (f ((u+1)%(k+1))<c))=true↔_
  by_cases z:f ((u+1)%(k+1))<c
  ·rw[ih u (Qax.mp hu) z]
  ·rw[decide_eq_false z,Qfq,Qfq]
 have a1:=tr (λn=>n==1)
 have b1:=tr (λn=>n==0)
 have t1:∀u,((U u).toNat==1)=U u:=λu=>by cases U u<;>rfl
 have t0:∀u,((U u).toNat==0)=!U u:=λu=>by cases U u<;>rfl
 simp only[t1,t0]at a1 b1
 have up:(List.range (k+1)).countP (λv=>!U v&&decide ((List.range (k+1)).countP (λu=>U u&&decide (f u<f v))<=(List.range (k+1)).countP (λu=>U u&&decide (f u<c))))<=(List.range (k+1)).countP (λv=>!U v&&decide (f v<c)):=by
  refine Qec λv hv q=>?_
  obtain ⟨q1,q2⟩:=Qch.mp q
  rw[q1,Qd2]
  refine decide_eq_true (Classical.byContradiction λz=>?_)
  have ne:f v≠c:=λe=>by
   have:=fi v m (Qax.mp hv) hm (e.trans em.symm)
   rw[this,um]at q1
   cases q1
  have:=of_decide_eq_true q2
  have lt:=Bl (l:=List.range (k+1)) (p:=λu=>U u&&decide (f u<c)) (q:=λu=>U u&&decide (f u<f v)) (λu _ q=>by
   obtain ⟨g1,g2⟩:=Qch.mp q
   rw[g1,Qd2]
   have:=of_decide_eq_true g2
   exact decide_eq_true (by omega)) ⟨m,Qax.mpr hm,by rw[um,Qd2];exact decide_eq_true (by omega),by rw[um,Qd2];exact decide_eq_false (by omega)⟩
  omega
 have lo:=Bl (l:=List.range (k+1)) (p:=λv=>!U v&&decide (f ((v+1)%(k+1))<c)) (q:=λv=>!U v&&decide ((List.range (k+1)).countP (λu=>U u&&decide (f u<f v))<=(List.range (k+1)).countP (λu=>U u&&decide (f u<c)))) (λv hv q=>?_) ⟨x,Qax.mpr hx,?_,by rw[ex,decide_eq_false (Qbu c),Qfq]⟩
 ·omega
 ·obtain ⟨q1,q2⟩:=Qch.mp q
  have q2:=of_decide_eq_true q2
  rw[q1,Qd2,a1]
  refine decide_eq_true (Qec λu hu q=>?_)
  obtain ⟨g1,g2⟩:=Qch.mp q
  have:=(h u v (Qax.mp hu) (Qax.mp hv) g1 (by simpa using q1)).mp (of_decide_eq_true g2)
  rw[g1,Qd2]
  exact decide_eq_true (by omega)
 ·rw[ux,a1]
  refine Qch.mpr ⟨rfl,decide_eq_true (Qec λu hu q=>?_)⟩
  obtain ⟨g1,g2⟩:=Qch.mp q
  have:=(h u x (Qax.mp hu) hx g1 ux).mp (of_decide_eq_true g2)
  rw[g1,Qd2]
  exact decide_eq_true (by omega)
theorem Lo{k:Nat}{U:Nat->Bool}{f:Nat->Nat}(fi:∀u v,u<k+1->v<k+1->f u=f v->u=v)
  (h:∀u v,u<k+1->v<k+1->U u=true->U v=false->(f u<f v↔f ((u+1)%(k+1))<f ((v+1)%(k+1)))):∀x,x<k+1->U ((x+1)%(k+1))=U x:=by
 have sl:∀x:Nat,(x+1)%(k+1)<k+1:=λx=>Qdg _ (Qf3 k)
 have si:∀u v:Nat,u<k+1->v<k+1->(u+1)%(k+1)=(v+1)%(k+1)->u=v:=λu v hu hv e=>by
  by_cases z:u=k<;>by_cases z2:v=k
  ·omega
  ·rw[z,Qem,Qbs (by omega)]at e;omega
  ·rw[z2,Qem,Qbs (by omega)]at e;omega
  ·rw[Qbs (by omega),Qbs (by omega)]at e;omega
 have key:∀c x,x<k+1->f ((x+1)%(k+1))=c->U ((x+1)%(k+1))=U x:=by
  intro c
  induction c using Nat.strongRecOn with
  | _ c ih=>
   intro x hx ex
   have Zj:∀x',x'<k+1->f ((x'+1)%(k+1))<c->U ((x'+1)%(k+1))=U x':=λx' DY l=>ih _ l x' DY rfl
   cases ux:U x<;>cases um:U ((x+1)%(k+1))
   ·rfl
   ·exact (zq fi h (sl x) hx ex ex Zj um ux).elim
   ·refine (zq (U:=λu=>!U u) fi (λu v hu hv h1 h2=>?_) (sl x) hx ex ex (λx' DY l=>by rw[Zj x' DY l]) (by show (!U _)=true;rw[um];rfl) (by show (!U _)=false;rw[ux];rfl)).elim
    have h1:U u=false:=by simpa using h1
    have h2:U v=true:=by simpa using h2
    have q:=h v u hv hu h2 h1
    have ne:u≠v:=λz=>by rw[z,h2]at h1;cases h1
    have n1:f u≠f v:=λz=>ne (fi u v hu hv z)
    have n2:f ((u+1)%(k+1))≠f ((v+1)%(k+1)):=λz=>ne (si u v hu hv (fi _ _ (sl u) (sl v) z))
    omega
   ·rfl
 exact λx hx=>key _ x hx rfl
theorem Lp{α:Type}{p:α->α->Bool}(sy:∀a b,p a b=p b a){l m:List α}(h:l.Perm m):cl p l=cl p m:=by
 induction h with
 | nil=>rfl
 | cons x h ih=>
  show (List.filter (p x) _:)+cl p _=(List.filter (p x) _:)+cl p _
  rw[ih,(h.filter (p x)).length_eq]
 | swap x z l=>
  walk_at"T"
  rw[Qde,Qde,sy z x]
  cases p x z
  ·rw[if_neg Qap,if_neg Qap];omega
  ·rw[if_pos rfl,if_pos rfl,Qaz,Qaz];omega
 | trans _ _ i1 i2=>exact i1.trans i2
theorem span{k:Nat}{p:Nat->Nat->Bool}(sy:∀a b,p a b=p b a)(cut:∀U:Nat->Bool,(∃u,u<k+1/\U u=true)->(∃v,v<k+1/\U v=false)->∃u v,u<k+1/\v<k+1/\U u=true/\U v=false/\p u v=true):k<=cl p (List.range (k+1)):=by
 have go:∀j,j<k+1->∃l:Z,l.Nodup/\(∀x∈l,x<k+1)/\(l:)=j+1/\j<=cl p l:=by
  intro j
  induction j with
  | zero=>exact λ_=>⟨[0],by simp,by simp,rfl,Qao _⟩
  | succ j ih=>
   intro hj
   obtain ⟨l,nd,lt,hl,hc⟩:=ih (by omega)
   obtain ⟨u,v,hu,hv,u1,v1,q⟩:=cut (λx=>decide (x∈l)) (by
    match l,hl with
    | a::l,_=>exact ⟨a,lt a Qac,decide_eq_true Qac⟩) (Classical.byContradiction λz=>by
     have sub:∀x∈List.range (k+1),x∈l:=λx hx=>Classical.byContradiction λn=>z ⟨x,Qax.mp hx,decide_eq_false n⟩
     have:=(Qdd (n:=k+1)).length_le_of_subset sub
     rw[Qck]at this
     omega)
   have u1:=of_decide_eq_true u1
   have v1:=of_decide_eq_false v1
   refine ⟨v::l,Qbc.mpr ⟨v1,nd⟩,λx hx=>(Qak.mp hx).elim (λe=>e▸hv) (lt x),by rw[Qaz,hl],?_⟩
   show j+1<=(l.filter (p v):)+cl p l
   have:0<(l.filter (p v):):=YR.mpr λe=>by
    have:u∈l.filter (p v):=Qa8.mpr ⟨u1,by rw[sy];exact q⟩
    rw[e]at this
    exact absurd this Qal
   omega
 obtain ⟨l,nd,lt,hl,hc⟩:=go k (Qc2 k)
 have pm:l.Perm (List.range (k+1)):=(List.perm_ext_iff_of_nodup nd Qdd).mpr λx=>⟨λhx=>Qax.mpr (lt x hx),λhx=>Classical.byContradiction λn=>by
  have:=(Qbc.mpr ⟨n,nd⟩).length_le_of_subset (l₂:=List.range (k+1)) λz hz=>(Qak.mp hz).elim (λe=>e▸hx) λe=>Qax.mpr (lt z e)
  rw[Qaz,Qck]at this
  omega⟩
 rw[<-Lp sy pm]
 exact hc
theorem vF{h:Int->Int}{n:Nat}(pos:∀i:Nat,i<n->0<=h i):0<=sm n h:=by
 have:=fX (n:=n) (h:=λ_=>0) (g:=h) λi hi=>pos i hi
 rwa [dH]at this
theorem Bm{h:Int->Int}:∀{n:Nat},(∀i:Nat,i<n->0<=h i)->∀{i:Nat},i<n->h i<=sm n h
 | 0,_,_,hi=>absurd hi (Qc6 _)
 | n+1,pos,i,hi=>by
  have a:=vF (n:=n) λi hi=>pos i (by omega)
  have b:=pos n (by omega)
  show h i<=sm n h+h n
  by_cases z:i=n
  ·subst z;omega
  ·have:=Bm (n:=n) (λi hi=>pos i (by omega)) (i:=i) (by omega)
   omega
theorem oT(h:Int->Int)(s:Nat):∀k:Nat,sm (k*s) h=sm k λm=>sm s λt=>h (m*s+t)
 | 0=>by rw[Nat.zero_mul];rfl
 | k+1=>by
  rw[Qd6,rP,oT h s k]
  show sm k _+sm s _=sm k _+sm s _
  congr 1
theorem O9(p:Nat->Nat->Bool)(n:Nat):(cl p (List.range n):Int)=iA n λi j=>one (p i.toNat j.toNat=true):=by
 have:=AZ (λx z:Nat×Nat=>p x.2 z.2) 0 n
 rw[sj]at this
 exact this
section
variable{y w:Z}{po pi:Int->Nat}
theorem Lq(hy:Yd y)(hw:SW y w)(P1:∀k,po (k+(w:))=po k)(sep:∀i j,Sep y [(ak (sq w i (-1)),pi (i - 1)),(sq w i 0,po i),(ak (sq w j (-1)),pi (j - 1)),(sq w j 0,po j)]){s k:Nat}(hs:0<s)(hn:(w:)=(k+1)*s)(hr:∀i j:Int,bJ w w i j↔(i - j)%(s:Int)=0)
  (h:∀i j:Int,bJ w w i j->i%(w:)≠j%(w:)->po i≠po j/\pi i≠pi j/\decide (po i<po j)=decide (pi j<pi i)):
  2*(k:Int)<=bH (w:) (w:) λi j=>one (bJ w w i j/\eA po pi po pi i j=true):=by
 have par:∀(u v:Nat) (t:Int),bJ w w (u*s+t) (v*s+t):=λu v t=>(hr _ _).mpr (by
  rw[show ((u:Int)*s+t) - (v*s+t)=(u - v)*s by rw[Int.sub_mul];omega]
  exact Int.mul_emod_left _ _)
 have apart:∀(u v:Nat) (t:Int),u<k+1->v<k+1->u≠v->((u:Int)*s+t)%(w:)≠(v*s+t)%(w:):=λu v t hu hv ne e=>by
  have e2:=Qcw.mp e
  rw[show ((u:Int)*s+t) - (v*s+t)=(u - v)*s by rw[Int.sub_mul];omega,hn,show (((k+1)*s:Nat):Int)=((k+1:Nat):Int)*s from Qel _ _]at e2
  have e3:((u:Int) - v)*s%(((k+1:Nat):Int)*s)=(((u:Int) - v)%((k+1:Nat):Int))*s:=by
   rw[Qer _ (s:Int),Qer _ (s:Int),Int.mul_emod_mul_of_pos _ _ (by omega),Qer]
  rw[e3]at e2
  have e4:((u:Int) - v)%((k+1:Nat):Int)=0:=(Int.mul_eq_zero.mp e2).elim id λz=>by omega
  have e5:=Qcw.mpr e4
  rw[Qa7 (by omega) (by omega),Qa7 (by omega) (by omega)]at e5
  omega
 have cr:∀(u v:Nat) (t:Int),u<k+1->v<k+1->u≠v->(eA po pi po pi (u*s+t) (v*s+t)=true↔decide (po (u*s+(t - 1))<po (v*s+(t - 1)))≠decide (po (u*s+t)<po (v*s+t))):=λu v t hu hv ne=>by
  have p0:=par u v t
  have a0:=h _ _ p0 (apart u v t hu hv ne)
  have a1:=h _ _ (par u v (t - 1)) (apart u v (t - 1) hu hv ne)
  have e:∀u:Nat,(u:Int)*s+(t - 1)=u*s+t - 1:=λu=>by omega
  rw[e,e]at a1 ⊢
  rw[a1.2.2]
  exact oE hy (a_ hw _) (a_ hw _) (sep _ _) a1.2.1 a0.1 (p0 (-1)) (p0 0)
 have sym:∀(u v:Nat) (t:Int),u<k+1->v<k+1->eA po pi po pi (u*s+t) (v*s+t)=true->eA po pi po pi (v*s+t) (u*s+t)=true:=λu v t hu hv q=>by
  by_cases ne:u=v
  ·subst ne;exact q
  ·rw[cr u v t hu hv ne]at q
   rw[cr v u t hv hu (Ne.symm ne)]
   have a0:=(h _ _ (par u v t) (apart u v t hu hv ne)).1
   have a1:=(h _ _ (par u v (t - 1)) (apart u v (t - 1) hu hv ne)).1
   rw[cx a0,cx a1]
   exact λz=>q (by simpa using z)
 obtain ⟨P,hP⟩:∃P:Nat->Nat->Bool,∀u v,P u v=(decide (u<k+1)&&(decide (v<k+1)&&(List.range s).any λt=>eA po pi po pi (u*s+t) (v*s+t))):=⟨_,λ_ _=>rfl⟩
 have iff:∀u v,P u v=true↔u<k+1/\v<k+1/\∃t:Nat,t<s/\eA po pi po pi (u*s+t) (v*s+t)=true:=λu v=>by
  rw[hP,Qch,Qch,decide_eq_true_iff,decide_eq_true_iff,Qf8]
  exact ⟨λ⟨a,b,t,ht,q⟩=>⟨a,b,t,Qax.mp ht,q⟩,λ⟨a,b,t,ht,q⟩=>⟨a,b,t,Qax.mpr ht,q⟩⟩
 have sy:∀u v,P u v=P v u:=λu v=>Qdk.mpr (by
  rw[iff,iff]
  exact ⟨λ⟨a,b,t,ht,q⟩=>⟨b,a,t,ht,sym u v t a b q⟩,λ⟨b,a,t,ht,q⟩=>⟨a,b,t,ht,sym v u t b a q⟩⟩)
 have sp:k<=cl P (List.range (k+1)):=by
  refine span sy λU ⟨u,hu,u1⟩ ⟨v,hv,v1⟩=>Classical.byContradiction λno=>?_
  have f1:∀u:Nat,u<k+1->po (((u+1)%(k+1):Nat)*s - 1)=po (u*s+(s - 1)):=λu hu=>by
   by_cases z:u=k
   ·subst z
    rw[Qem, <-P1 (((0:Nat):Int)*s - 1),hn]
    congr 1
    rw[Qel,Qbk,Int.add_mul]
    omega
   ·rw[Qbs (by omega),Qbk,Int.add_mul]
    congr 1
    omega
  have al:=Lo (k:=k) (U:=U) (f:=λu=>po (u*s - 1)) (λu v hu hv e=>Classical.byContradiction λne=>by
   have e1:∀u:Nat,(u:Int)*s - 1=u*s+(-1):=λu=>by omega
   rw[e1,e1]at e
   exact (h _ _ (par u v (-1)) (apart u v (-1) hu hv ne)).1 e) (λu v hu hv q1 q2=>by
    have ne:u≠v:=λz=>by rw[z,q2]at q1;cases q1
    have st:∀t:Nat,t<=s->decide (po (u*s+((t:Int) - 1))<po (v*s+((t:Int) - 1)))=decide (po (u*s - 1)<po (v*s - 1)):=by
     intro t
     induction t with
     | zero=>exact λ_=>rfl
     | succ t ih=>
      intro ht
      rw[<-ih (by omega),show ((t+1:Nat):Int) - 1=t by omega]
      refine Classical.byContradiction λq=>no ⟨u,v,hu,hv,q1,q2,(iff u v).mpr ⟨hu,hv,t,by omega,(cr u v t hu hv ne).mpr (Ne.symm q)⟩⟩
    have e:=st s (YS s)
    have:=decide_eq_decide.mp e
    show po _<po _↔po _<po _
    rw[f1 u hu,f1 v hv]
    exact this.symm)
  have all:∀x,x<k+1->U x=U 0:=by
   intro x
   induction x with
   | zero=>exact λ_=>rfl
   | succ x ih=>
    intro hx
    have:=al x (by omega)
    rw[Qbs hx]at this
    rw[this,ih (by omega)]
  rw[all u hu, <-all v hv,v1]at u1
  cases u1
 have low:bH (k+1) (k+1) (λi j=>one (P i.toNat j.toNat=true))<=bH (w:) (w:) λi j=>one (bJ w w i j/\eA po pi po pi i j=true):=by
  rw[hn]
  unfold bH
  rw[oT]
  refine fX λm hm=>?_
  have e1:∀t:Int,sm ((k+1)*s) (λj=>one (bJ w w (m*s+t) j/\eA po pi po pi (m*s+t) j=true))=sm (k+1) λm'=>sm s λt'=>one (bJ w w (m*s+t) (m'*s+t')/\eA po pi po pi (m*s+t) (m'*s+t')=true):=λt=>oT _ s (k+1)
  have e2:sm s (λt=>sm (k+1) λm'=>one (bJ w w (m*s+t) (m'*s+t)/\eA po pi po pi (m*s+t) (m'*s+t)=true))<=sm s λt=>sm ((k+1)*s) λj=>one (bJ w w (m*s+t) j/\eA po pi po pi (m*s+t) j=true):=fX λt ht=>by
   rw[e1]
   exact fX λm' Hw=>Bm (h:=λt'=>one (bJ w w (m*s+t) (m'*s+t')/\eA po pi po pi (m*s+t) (m'*s+t')=true)) (λi _=>(one_le _).1) ht
  refine Int.le_trans ?_ e2
  rw[qx]
  refine fX λm' Hw=>?_
  show one (P (m:Int).toNat (m':Int).toNat=true)<=_
  rw[YQ,YQ]
  by_cases z:P m m'=true
  ·obtain ⟨_,_,t,ht,q⟩:=(iff m m').mp z
   rw[dG z]
   have:=Bm (h:=λt=>one (bJ w w (m*s+t) (m'*s+t)/\eA po pi po pi (m*s+t) (m'*s+t)=true)) (λi _=>(one_le _).1) ht
   have e3:one (bJ w w (m*s+t) (m'*s+t)/\eA po pi po pi (m*s+t) (m'*s+t)=true)=1:=dG ⟨par m m' t,q⟩
   simp only[e3]at this
   exact this
  ·rw[aT z]
   exact vF λi _=>(one_le _).1
 have e:=kK (n:=k+1) (h:=λi j=>one (P i.toNat j.toNat=true)) (λi j _ _=>by rw[sy]) (λi _=>aT λz=>by
  rw[YQ]at z
  obtain ⟨_,_,t,_,q⟩:=(iff i i).mp z
  unfold eA at q
  rw[m5]at q
  cases q)
 rw[e, <-O9]at low
 omega
end
section
variable{y w v:Z}{po pi qo qi:Int->Nat}
theorem zr(hy:Yd y)(hw:SW y w)(hv:SW y v)(P1:∀k,po (k+(w:))=po k)(P2:∀k,pi (k+(w:))=pi k)(Q1:∀k,qo (k+(v:))=qo k)(Q2:∀k,qi (k+(v:))=qi k)
  (hS:Ik y (sq w) po pi (sq v) qo qi) (hO:Ik y (sq w) po pi (λk=>bq v (-k)) (λk=>qi (-k)) (λk=>qo (-k))):
  bH (w:) (v:) (fc y w v)+bH (w:) (v:) (λi j=>one (bJ w v i j/\eA po pi qo qi i j=true))<=bH (w:) (v:) (λi j=>one (eA po pi qo qi i j=true)):=by
 have s1:=Dd hy (oH hw P1 P2) (oH hv Q1 Q2) hS
 have s2:=Dd hy (oH hw P1 P2) (G_ hy hv Q1 Q2) hO
 rw[Cw hy hw hv]at s1
 rw[Cy hy hw hv,Cz Q1 Q2]at s2
 have s3:0<=bH (w:) (v:) (λi j=>one (jA w v i j/\eA po pi qo qi i j=true)):=vF λi _=>vF λj _=>(one_le _).1
 have e:bH (w:) (v:) (fc y w v)=bH (w:) (v:) (λi j=>one (ac y (ak (rd w (i - 1))) (rd w i) (ak (rd v (j - 1))) (rd v j)=true))+bH (w:) (v:) (λi j=>one (0<al y (sq w i) (sq v j) ((w:)+(v:))))+bH (w:) (v:) (λi j=>one (0<al y (sq w i) (bq v j) ((w:)+(v:)))):=by
  rw[<-cb, <-cb]
  rfl
 rw[rO hy hw hv hS.sep,e]
 omega
end
section
variable{y:Z}{ws:List Z}{L:Nat->Bool}{r:Nat->Nat}{M:Nat}{N:Nat->Nat->Nat->Nat}{R:Nat->Nat->Nat->Nat->Bool}
theorem dQ.anyS(h:cS y ws L r M)(hN:dQ y ws R N){c d:Nat}(hc:c<(ws:))(hd:d<(ws:)):Ik y (sq (ws|||c)) (pO ws N c) (pI ws N c) (sq (ws|||d)) (pO ws N d) (pI ws N d):=by
 have hw:=h.sw c hc
 have hv:=h.sw d hd
 walk_at"R"
 have lv:=YR.mpr hv.ne
 walk_at"x"
 refine ⟨hN.OK h hc hd,λs t h0 np=>?_⟩
 have key:=hN.at h.yd hc hd (bo lw s) (bo lv t) hw hv (.inl (b8 hw.ne s).symm) (.inl (b8 hv.ne t).symm) h0 (λz=>np (by
  obtain ⟨z1,z2⟩:=Prod.mk.inj z
  subst z1
  have:sq (ws|||c) s=sq (ws|||c) t:=by rw[<-b8 hw.ne s, <-b8 hw.ne t,z2]
  exact λk=>congrFun this k))
 rw[s0,s0]at h0
 rw[s0,h0]at key
 unfold pO pI
 rw[h0]
 exact ⟨key.1,key.2.1,key.2.2.1.trans key.2.2.2.symm⟩
theorem dQ.T4(h:cS y ws L r M)(hN:dQ y ws R N){c d:Nat}(hc:c<(ws:))(hd:d<(ws:)):Ik y (sq (ws|||c)) (pO ws N c) (pI ws N c) (λk=>bq (ws|||d) (-k)) (λk=>pI ws N d (-k)) (λk=>pO ws N d (-k)):=by
 have hw:=h.sw c hc
 have hv:=h.sw d hd
 walk_at"R"
 have lv:=YR.mpr hv.ne
 walk_at"x"
 have b0:∀(w:Z) (i:Int),bq w i 0=ak (rd w i):=λw i=>by unfold bq;rw[show i - 0=i by omega]
 refine ⟨hN.TJ h hc hd,λs t h0 np=>?_⟩
 have key:=hN.at h.yd hc hd (bo lw s) (bo lv (-t)) hw hv (.inl (b8 hw.ne s).symm) (.inr (oJ hv.ne (-t)).symm) h0 (λz=>by
  obtain ⟨z1,z2⟩:=Prod.mk.inj z
  subst z1
  have z0:sq (ws|||c) s 0=bq (ws|||c) (-t) 0:=h0
  rw[s0,b0, <-bX hw.ne s, <-bX hw.ne (-t),z2]at z0
  exact dN (h.yd.lt _ (hw.rd _)) z0.symm)
 have h0:sq (ws|||c) s 0=bq (ws|||d) (-t) 0:=h0
 rw[s0,b0]at h0
 rw[s0,h0,aE (h.yd.lt _ (hv.rd _))]at key
 unfold pO pI
 rw[h0,aE (h.yd.lt _ (hv.rd _))]
 exact ⟨key.1,key.2.1,key.2.2.1.trans key.2.2.2.symm⟩
theorem Lr(h:cS y ws L r M)(hN:dQ y ws R N){c d:Nat}(hc:c<(ws:))(hd:d<(ws:)):
  bH ((ws|||c):) ((ws|||d):) (fc y (ws|||c) (ws|||d))<=bH ((ws|||c):) ((ws|||d):) (λi j=>one (eA (pO ws N c) (pI ws N c) (pO ws N d) (pI ws N d) i j=true)):=by
 have a:=zr h.yd (h.sw c hc) (h.sw d hd) (jb ws N c) (j6 ws N c) (jb ws N d) (j6 ws N d) (hN.anyS h hc hd) (hN.T4 h hc hd)
 have b:0<=bH ((ws|||c):) ((ws|||d):) (λi j=>one (bJ (ws|||c) (ws|||d) i j/\eA (pO ws N c) (pI ws N c) (pO ws N d) (pI ws N d) i j=true)):=vF λi _=>vF λj _=>(one_le _).1
 omega
theorem Il(h:cS y ws L r M)(hN:dQ y ws R N){c:Nat}(hc:c<(ws:)):
  bH ((ws|||c):) ((ws|||c):) (fc y (ws|||c) (ws|||c))+2*((((ws|||c):) / r c:Nat) - 1)<=2*iA ((ws|||c):) (λi j=>one (eA (pO ws N c) (pI ws N c) (pO ws N c) (pI ws N c) i j=true)):=by
 have hw:=h.sw c hc
 walk_at"R"
 have e:=kK (n:=((ws|||c):)) (h:=λi j=>one (eA (pO ws N c) (pI ws N c) (pO ws N c) (pI ws N c) i j=true)) (λi j hi hj=>by rw[CF h hN hc hc hi hj]) (λi hi=>aT (by unfold eA;rw[m5];decide))
 have a:=zr h.yd hw hw (jb ws N c) (j6 ws N c) (jb ws N c) (j6 ws N c) (hN.anyS h hc hc) (hN.T4 h hc hc)
 obtain ⟨Jv,Qp⟩:=h.root hc
 obtain ⟨k,hk⟩:∃k,((ws|||c):) / r c=k+1:=⟨((ws|||c):) / r c - 1,by omega⟩
 walk_at"x"
 have b:=Lq h.yd hw (jb ws N c) (hN.OK h hc hc) (s:=r c) (k:=k) (h.rp c hc) (by rw[<-hk];exact Jv) (h.rr c hc) (λi j p dk=>by
  have key:=hN.at h.yd hc hc (bo lw i) (bo lw j) hw hw (.inl (b8 hw.ne i).symm) (.inl (b8 hw.ne j).symm) (p 0) (λz=>dk (by
   rw[<-ck lw, <-ck lw,(Prod.mk.inj z).2]))
  have h0:=p 0
  rw[s0,s0]at h0
  rw[s0,h0]at key
  unfold pO pI
  rw[h0]
  exact ⟨key.1,key.2.1,key.2.2.1.trans key.2.2.2.symm⟩)
 rw[hk]
 omega
theorem E1(h:cS y ws L r M)(hN:dQ y ws R N):(GW y ws:)+sm (ws:) (λc=>(((ws.getD c.toNat []:) / r c.toNat:Nat):Int) - 1)<=(cl (A1 ws N) (places ws):Int):=by
 unfold places
 rw[A0,yZ]
 have e1:sm (ws:) (λc=>bH (ws.getD c.toNat []:) (ws.getD c.toNat []:) λi j=>((vf y ws (c.toNat,i.toNat) (c.toNat,j.toNat):):Int))+sm (ws:) (λc=>(((ws.getD c.toNat []:) / r c.toNat:Nat):Int) - 1)<=sm (ws:) (λc=>iA (ws.getD c.toNat []:) (λi j=>one (A1 ws N (c.toNat,i.toNat) (c.toNat,j.toNat)=true))):=by
  rw[<-j4]
  refine fX λc hc=>?_
  rw[YQ]
  have a:=Il h hN hc
  have b:=vn (c:=c) h.yd (h.sw c hc)
  have e:iA ((ws|||c):) (λi j=>one (A1 ws N (c,i.toNat) (c,j.toNat)=true))=iA ((ws|||c):) (λi j=>one (eA (pO ws N c) (pI ws N c) (pO ws N c) (pI ws N c) i j=true)):=gN λi j _ _=>by
   unfold A1
   rw[YQ,YQ]
  rw[e]
  omega
 have Im:∀{h g:Int->Int->Int} {n:Nat},(∀i j:Nat,i<j->j<n->h i j<=g i j)->iA n h<=iA n g:=λ{h g n}=>by
  induction n with
  | zero=>exact λ_=>Qga 0
  | succ n ih=>
   intro e
   have a:=ih λi j h1 h2=>e i j h1 (by omega)
   have b:=fX (n:=n) (h:=λj=>h j n) (g:=λj=>g j n) λj hj=>e j n hj (by omega)
   show iA n h+_<=iA n g+_
   omega
 have e2:iA (ws:) (λc d=>bH (ws.getD c.toNat []:) (ws.getD d.toNat []:) λi j=>((vf y ws (c.toNat,i.toNat) (d.toNat,j.toNat):):Int))<=iA (ws:) (λc d=>bH (ws.getD c.toNat []:) (ws.getD d.toNat []:) λi j=>one (A1 ws N (c.toNat,i.toNat) (d.toNat,j.toNat)=true)):=Im λc d ji hd=>by
  rw[YQ,YQ]
  have b:=Lr h hN (c:=c) (d:=d) (by omega) hd
  have e3:bH ((ws|||c):) ((ws|||d):) (λi j=>one (A1 ws N (c,i.toNat) (d,j.toNat)=true))=bH ((ws|||c):) ((ws|||d):) (λi j=>one (eA (pO ws N c) (pI ws N c) (pO ws N d) (pI ws N d) i j=true)):=br λi j _ _=>by
   unfold A1
   rw[YQ,YQ]
  have e4:bH ((ws|||c):) ((ws|||d):) (λi j=>((vf y ws (c,i.toNat) (d,j.toNat):):Int))=bH ((ws|||c):) ((ws|||d):) (fc y (ws|||c) (ws|||d)):=br λi j _ _=>by rw[YQ,YQ];exact CK ji
  rw[e3,e4]
  exact b
 omega
end
noncomputable def Vh(l:Nat):Nat:=if az l=true then l else ak l
noncomputable def bt(p q r:Nat):Bool:=xor (decide (p<r)) (decide (q<r))
noncomputable def ib(p q r:Nat):Int:=if bt p q r=true then 1 else 0
noncomputable def gO(c d:Nat×Nat):Bool:=xor (bt c.1 c.2 d.1) (bt c.1 c.2 d.2)
noncomputable def zt(c d:Nat×Nat):Int:=if gO c d=true then 1 else 0
theorem MP(p q r:Nat):0<=ib p q r/\ib p q r<=1:=by unfold ib;split<;>decide
theorem O_(c d:Nat×Nat):0<=zt c d/\zt c d<=1:=by unfold zt;split<;>decide
theorem Ls{c d:Nat×Nat}(h1:c.1≠d.1)(h2:c.1≠d.2)(h3:c.2≠d.1)(h4:c.2≠d.2):gO c d=gO d c:=by
 unfold gO bt
 rw[cx h1,cx h2,cx h3,cx h4]
 generalize decide (c.1<d.1)=a
 generalize decide (c.1<d.2)=b
 generalize decide (c.2<d.1)=e
 generalize decide (c.2<d.2)=f
 revert a b e f
 decide
theorem Lu(a p q b:Nat)(d:Nat×Nat):gO (a,b) d=xor (xor (gO (a,p) d) (gO (p,q) d)) (gO (q,b) d):=by
 unfold gO bt
 simp only
 generalize decide (a<d.1)=x1
 generalize decide (a<d.2)=x2
 generalize decide (b<d.1)=x3
 generalize decide (b<d.2)=x4
 generalize decide (p<d.1)=x5
 generalize decide (p<d.2)=x6
 generalize decide (q<d.1)=x7
 generalize decide (q<d.2)=x8
 cases x1<;>cases x2<;>cases x3<;>cases x4<;>cases x5<;>cases x6<;>cases x7<;>cases x8<;>rfl
theorem Lv(a p q b:Nat)(d:Nat×Nat):zt (a,b) d<=zt (a,p) d+(ib p q d.1+ib p q d.2)+zt (q,b) d:=by
 have e:=Lu a p q b d
 have e2:gO (p,q) d=xor (bt p q d.1) (bt p q d.2):=rfl
 unfold zt ib
 rw[e,e2]
 cases gO (a,p) d<;>cases gO (q,b) d<;>cases bt p q d.1<;>cases bt p q d.2<;>decide
noncomputable def dW{α:Type}(f:α->Int)(l:List α):Int:=(l.map f).sum
theorem kh{α:Type}(f:α->Int):dW f []=0:=rfl
theorem aV{α:Type}(f:α->Int)(a:α)(l:List α):dW f (a::l)=f a+dW f l:=by unfold dW;rw[Qav,Qcs]
theorem vG{α:Type}{f g:α->Int}:∀{l:List α},(∀x∈l,f x<=g x)->dW f l<=dW g l
 | [],_=>by rw[kh,kh];exact Qga 0
 | a::l,h=>by
  rw[aV,aV]
  have:=h a Qac
  have:=vG (l:=l) λx hx=>h x (Qae _ hx)
  lia
theorem sE{α:Type}(f g:α->Int):∀l:List α,dW (λx=>f x+g x) l=dW f l+dW g l
 | []=>rfl
 | a::l=>by rw[aV,aV,aV,sE f g l];lia
theorem sF{α:Type}{f g:α->Int}{l:List α}(h:∀x∈l,f x=g x):dW f l=dW g l:=by unfold dW;rw[Qco h]
theorem vH{α:Type}{f:α->Int}{l m:List α}(h:l.Perm m):dW f l=dW f m:=by
 induction h with
 | nil=>rfl
 | cons x _ ih=>rw[aV,aV,ih]
 | swap x z l=>rw[aV,aV,aV,aV];lia
 | trans _ _ i1 i2=>exact i1.trans i2
theorem sG{α:Type}(f:α->Int):∀l m:List α,dW f (l++m)=dW f l+dW f m
 | [],m=>by rw[Qdj,kh];lia
 | a::l,m=>by rw[Qdf,aV,aV,sG f l m];lia
theorem zu{α:Type}(p:α->Bool):∀l:List α,((l.filter p:):Int)=dW (λx=>if p x=true then 1 else 0) l
 | []=>rfl
 | a::l=>by
  rw[aV,Qde, <-zu p l]
  cases p a
  ·rw[if_neg Qap,if_neg Qap];lia
  ·rw[if_pos rfl,if_pos rfl,Qaz];lia
theorem qC{α:Type}(p:α->α->Bool)(a:α)(l:List α):(cl p (a::l):Int)=dW (λx=>if p a x=true then 1 else 0) l+cl p l:=by
 show (((l.filter (p a):)+cl p l:Nat):Int)=_
 rw[<-zu]
 lia
theorem zw{α:Type}{p:α->α->Bool}{l m:List α}(h:l.Perm m):l.Pairwise (λa b=>p a b=p b a)->cl p l=cl p m:=by
 induction h with
 | nil=>exact λ_=>rfl
 | cons x h ih=>
  intro sy
  show (List.filter (p x) _:)+cl p _=(List.filter (p x) _:)+cl p _
  rw[ih (Qb5.mp sy).2,(h.filter (p x)).length_eq]
 | swap x z l=>
  intro sy
  have e:=(Qb5.mp sy).1 x Qac
  walk_at"T"
  rw[Qde,Qde,e]
  cases p x z
  ·rw[if_neg Qap,if_neg Qap];lia
  ·rw[if_pos rfl,if_pos rfl,Qaz,Qaz];lia
 | trans h1 _ i1 i2=>exact λsy=>(i1 sy).trans (i2 ((h1.pairwise_iff λe=>e.symm).mp sy))
theorem E2{al be p q p' q':Nat}{R:List (Nat×Nat)}(m:ib p q al+ib p q be+dW (λd=>ib p q d.1+ib p q d.2) R=ib p' q' al+ib p' q' be+dW (λd=>ib p' q' d.1+ib p' q' d.2) R)
  (hp:ib p' q' p=0) (hq:ib p' q' q=0) (Vi:∀d∈R, ¬(bt p' q' d.1=true/\bt p' q' d.2=true)) (sy:gO (al,p) (p',q')=gO (p',q') (al,p)):(cl gO ((al,be)::R):Int)<=cl gO ((al,p)::(p',q')::(q,be)::R):=by
 have i0:∀{x y z},ib x y z=0->bt x y z=false:=λ{x y z} h=>by
  unfold ib at h
  cases e:bt x y z
  ·rfl
  ·rw[e,if_pos rfl]at h;exact absurd h ∅
 have ba:zt (al,p) (p',q')=ib p' q' al:=by
  unfold zt
  rw[sy]
  unfold gO ib
  simp only
  rw[i0 hp,Bool.xor_false]
 have bc:zt (p',q') (q,be)=ib p' q' be:=by
  unfold zt gO ib
  simp only
  rw[i0 hq,Bool.false_xor]
 have bR:dW (λd=>zt (p',q') d) R=dW (λd=>ib p' q' d.1+ib p' q' d.2) R:=sF λd hd=>by
  have:=Vi d hd
  unfold zt gO ib
  simp only
  cases e1:bt p' q' d.1<;>cases e2:bt p' q' d.2
  ·rfl
  ·rfl
  ·rfl
  ·exact absurd ⟨e1,e2⟩ this
 have tr:=vG (l:=R) λd _=>Lv al p q be d
 rw[sE,sE]at tr
 have e0:(cl gO ((al,be)::R):Int)=dW (λd=>zt (al,be) d) R+cl gO R:=qC _ _ _
 have e1:(cl gO ((al,p)::(p',q')::(q,be)::R):Int)=dW (λd=>zt (al,p) d) ((p',q')::(q,be)::R)+cl gO ((p',q')::(q,be)::R):=qC _ _ _
 have e2:(cl gO ((p',q')::(q,be)::R):Int)=dW (λd=>zt (p',q') d) ((q,be)::R)+cl gO ((q,be)::R):=qC _ _ _
 have e3:(cl gO ((q,be)::R):Int)=dW (λd=>zt (q,be) d) R+cl gO R:=qC _ _ _
 rw[aV,aV,ba]at e1
 rw[aV,bc,bR]at e2
 have n1:=O_ (al,p) (q,be)
 have n2:=MP p q al
 have n3:=MP p q be
 lia
section
variable(P:Nat->Nat->Nat)
noncomputable def xh:Nat->List (Nat×Nat)->List (Nat×Nat)
 | _,[]=>[]
 | o,e::r=>(o,P e.2 e.1)::xh (P (ak e.2) e.1) r
noncomputable def lo(P:Nat->Nat->Nat):Nat->List (Nat×Nat)->Nat
 | o,[]=>o
 | _,e::r=>lo P (P (ak e.2) e.1) r
noncomputable def gD(w:List (Nat×Nat)):List (Nat×Nat):=xh P (lo P 0 w) w
noncomputable def E3(e:Nat×Nat):Z:=[P e.2 e.1,P (ak e.2) e.1]
end
section
variable{P:Nat->Nat->Nat}
theorem xi:∀(l m:List (Nat×Nat)) (o:Nat),xh P o (l++m)=xh P o l++xh P (lo P o l) m
 | [],_,_=>rfl
 | e::l,m,o=>by
  show (o,P e.2 e.1)::xh P _ (l++m)=(o,P e.2 e.1)::(xh P _ l++_)
  rw[xi l m]
  rfl
theorem xj:∀(l m:List (Nat×Nat)) (o:Nat),lo P o (l++m)=lo P (lo P o l) m
 | [],_,_=>rfl
 | e::l,m,o=>xj l m _
theorem Io{l:List (Nat×Nat)}(h:l≠[])(o o':Nat):lo P o l=lo P o' l:=by
 match l,h with
 | e::l,_=>rfl
theorem De(l m:List (Nat×Nat)):(gD P (l++m)).Perm (gD P (m++l)):=by
 by_cases hl:l=[]
 ·rw[hl,Qa4];exact Qcn _
 by_cases hm:m=[]
 ·rw[hm,Qa4];exact Qcn _
 have hA:∀o,lo P o l=lo P 0 l:=λo=>Io hl o 0
 have hB:∀o,lo P o m=lo P 0 m:=λo=>Io hm o 0
 unfold gD
 rw[xi,xi,xj,xj,hB (lo P 0 l),hA (lo P 0 m),hB (lo P 0 l)]
 exact Qea
theorem Df:∀(l:List (Nat×Nat)) (o:Nat),((xh P o l).flatMap λd=>[d.1,d.2])++[lo P o l]=o::l.flatMap (E3 P)
 | [],_=>rfl
 | e::l,o=>by
  show o::P e.2 e.1::(((xh P _ l).flatMap λd=>[d.1,d.2])++[lo P _ l])=o::P e.2 e.1::P (ak e.2) e.1::l.flatMap (E3 P)
  rw[Df l]
theorem qD(w:List (Nat×Nat)):((gD P w).flatMap λd=>[d.1,d.2]).Perm (w.flatMap (E3 P)):=by
 by_cases h:w=[]
 ·rw[h];exact Qcn _
 have e:=Df (P:=P) w (lo P 0 w)
 rw[Io h (lo P 0 w) 0]at e
 have:(lo P 0 w::(gD P w).flatMap λd=>[d.1,d.2]).Perm (lo P 0 w::w.flatMap (E3 P)):=by
  rw[<-e]
  exact (Qea (l₁:=[lo P 0 w]))
 exact List.Perm.cons_inv this
theorem sI(f:Nat->Int):∀l:List (Nat×Nat),dW (λd=>f d.1+f d.2) l=dW f (l.flatMap λd=>[d.1,d.2])
 | []=>rfl
 | d::l=>by
  rw[aV,sI f l,Qa3,sG,aV,aV,kh]
  lia
theorem sJ(f:Nat->Int):∀w:List (Nat×Nat),dW f (w.flatMap (E3 P))=dW (λe=>f (P e.2 e.1)+f (P (ak e.2) e.1)) w
 | []=>rfl
 | e::w=>by
  rw[Qa3,sG,aV,sJ f w]
  show dW f [_,_]+_=_
  rw[aV,aV,kh]
  lia
end
structure oU(y:Z)(P:Nat->Nat->Nat)(E:List (Nat×Nat)):Prop where
 yd:Yd y
 bO:∀a∈E,a.2∈y
 nd:(E.map Prod.fst).Nodup
 ord:∀a∈E,∀b∈E,∀x z,(x=a.2\/x=ak a.2)->(z=b.2\/z=ak b.2)->y.idxOf x<y.idxOf z->P x a.1<P z b.1
 rev:∀a∈E,∀b∈E,∀x,(x=a.2\/x=ak a.2)->(x=b.2\/x=ak b.2)->(P x a.1<P x b.1↔P (ak x) b.1<P (ak x) a.1)
 one:∀a∈E,∀b∈E,∀x,(x=a.2\/x=ak a.2)->(x=b.2\/x=ak b.2)->P x a.1=P x b.1->a.1=b.1
theorem oU.sub{y:Z}{P:Nat->Nat->Nat}{E F:List (Nat×Nat)}(h:oU y P E)(s:F.Sublist E):oU y P F:=
 ⟨h.yd,λa ha=>h.bO a (s.subset ha),h.nd.sublist (s.map _),λa ha b hb=>h.ord a (s.subset ha) b (s.subset hb),λa ha b hb=>h.rev a (s.subset ha) b (s.subset hb),λa ha b hb=>h.one a (s.subset ha) b (s.subset hb)⟩
theorem oU.perm{y:Z}{P:Nat->Nat->Nat}{E F:List (Nat×Nat)}(h:oU y P E)(s:F.Perm E):oU y P F:=
 ⟨h.yd,λa ha=>h.bO a (s.mem_iff.mp ha),(s.map _).nodup_iff.mpr h.nd,λa ha b hb=>h.ord a (s.mem_iff.mp ha) b (s.mem_iff.mp hb),λa ha b hb=>h.rev a (s.mem_iff.mp ha) b (s.mem_iff.mp hb),λa ha b hb=>h.one a (s.mem_iff.mp ha) b (s.mem_iff.mp hb)⟩
section
variable{y:Z}{P:Nat->Nat->Nat}{E:List (Nat×Nat)}(h:oU y P E)
include h
theorem oU.end{a:Nat×Nat}(ha:a∈E){x:Nat}(hx:x=a.2\/x=ak a.2):x∈y:=hx.elim (λe=>e▸h.bO a ha) λe=>e▸h.yd.cl _ (h.bO a ha)
theorem oU.sep:∀a∈E,∀b∈E,∀c∈E,∀x z,(x=a.2\/x=ak a.2)->(x=b.2\/x=ak b.2)->(z=c.2\/z=ak c.2)->x≠z->bt (P x a.1) (P x b.1) (P z c.1)=false:=by
 intro a ha b hb c hc x z x1 x2 z1 n
 have n:=cw (h.end ha x1) (h.end hc z1) n
 unfold bt
 by_cases q:y.idxOf x<y.idxOf z
 ·rw[decide_eq_true (h.ord a ha c hc x z x1 z1 q),decide_eq_true (h.ord b hb c hc x z x2 z1 q)];rfl
 ·have q:y.idxOf z<y.idxOf x:=by lia
  rw[decide_eq_false (Qfc.mpr (Qbo (h.ord c hc a ha z x z1 x1 q))),decide_eq_false (Qfc.mpr (Qbo (h.ord c hc b hb z x z1 x2 q)))];rfl
theorem oU.band:∀a∈E,∀b∈E,∀c∈E,∀x,(x=a.2\/x=ak a.2)->(x=b.2\/x=ak b.2)->(x=c.2\/x=ak c.2)->a.1≠c.1->b.1≠c.1->bt (P x a.1) (P x b.1) (P x c.1)=bt (P (ak x) a.1) (P (ak x) b.1) (P (ak x) c.1):=by
 intro a ha b hb c hc x xa xb xc n1 n2
 have ce:∀{a},a∈E->(x=a.2\/x=ak a.2)->(ak x=a.2\/ak x=ak a.2):=λ{a} ha e=>e.elim (λe=> .inr (by rw[e])) λe=> .inl (by rw[e,aE (h.yd.lt _ (h.bO a ha))])
 have k:∀a∈E,(x=a.2\/x=ak a.2)->a.1≠c.1->decide (P x a.1<P x c.1)=!decide (P (ak x) a.1<P (ak x) c.1):=λa ha xa n=>by
  have e1:=h.rev a ha c hc x xa xc
  have e2:P (ak x) a.1≠P (ak x) c.1:=λq=>n (h.one a ha c hc _ (ce ha xa) (ce hc xc) q)
  rw[decide_eq_decide.mpr e1,cx e2]
 unfold bt
 rw[k a ha xa n1,k b hb xb n2]
 cases decide (P (ak x) a.1<P (ak x) c.1)<;>cases decide (P (ak x) b.1<P (ak x) c.1)<;>rfl
theorem oU.inj:∀a∈E,∀b∈E,∀x z,(x=a.2\/x=ak a.2)->(z=b.2\/z=ak b.2)->P x a.1=P z b.1->x=z/\a.1=b.1:=by
 intro a ha b hb x z x1 z1 q
 have e:x=z:=Classical.byContradiction λn=>by
  have n:=cw (h.end ha x1) (h.end hb z1) n
  rcases Qcq n with r | r
  ·have:=h.ord a ha b hb x z x1 z1 r;lia
  ·have:=h.ord b hb a ha z x z1 x1 r;lia
 subst e
 exact ⟨rfl,h.one a ha b hb x x1 z1 q⟩
end
theorem oU.cV{y:Z}{P:Nat->Nat->Nat}:∀{E:List (Nat×Nat)},oU y P E->(E.flatMap (E3 P)).Nodup
 | [],_=>List.Pairwise.nil
 | e::E,h=>by
  have hE:=oU.cV (h.sub (Qfe e E))
  have nd:=Qbc.mp h.nd
  rw[Qa3,Qb2]
  refine ⟨?_,hE,λa ha b hb z=>?_⟩
  ·show [P e.2 e.1,P (ak e.2) e.1].Nodup
   rw[Qbc]
   refine ⟨λq=>?_,by simp⟩
   have q:=Qab.mp q
   exact dN (h.yd.lt _ (h.bO e Qac)) (h.inj e Qac e Qac _ _ (.inl rfl) (.inr rfl) q).1.symm
  ·obtain ⟨c,hc,hb⟩:=Qbh.mp hb
   have iW:=Qae e hc
   have key:∀x z,(x=e.2\/x=ak e.2)->(z=c.2\/z=ak c.2)->P x e.1≠P z c.1:=λx z hx hz q=>nd.1 (by
    rw[(h.inj e Qac c iW x z hx hz q).2]
    exact Qam.mpr ⟨c,hc,rfl⟩)
   have ha:a=P e.2 e.1\/a=P (ak e.2) e.1:=by
    have:a∈[P e.2 e.1,P (ak e.2) e.1]:=ha
    simpa using this
   have hb:b=P c.2 c.1\/b=P (ak c.2) c.1:=by
    have:b∈[P c.2 c.1,P (ak c.2) c.1]:=hb
    simpa using this
   rcases ha with ha | ha<;>rcases hb with hb | hb
   ·exact key _ _ (.inl rfl) (.inl rfl) (by rw[<-ha, <-hb,z])
   ·exact key _ _ (.inl rfl) (.inr rfl) (by rw[<-ha, <-hb,z])
   ·exact key _ _ (.inr rfl) (.inl rfl) (by rw[<-ha, <-hb,z])
   ·exact key _ _ (.inr rfl) (.inr rfl) (by rw[<-ha, <-hb,z])
theorem xk{L:List (Nat×Nat)}(h:(L.flatMap λd=>[d.1,d.2]).Nodup):L.Pairwise λa b=>gO a b=gO b a:=by
 induction L with
 | nil=>exact List.Pairwise.nil
 | cons d L ih=>
  rw[Qa3,Qb2]at h
  refine Qb5.mpr ⟨λb hb=>?_,ih h.2.1⟩
  have k:∀x∈[d.1,d.2],∀z∈[b.1,b.2],x≠z:=λx hx z hz=>h.2.2 x hx z (Qbh.mpr ⟨b,hb,hz⟩)
  exact Ls (k _ (by simp) _ (by simp)) (k _ (by simp) _ (by simp)) (k _ (by simp) _ (by simp)) (k _ (by simp) _ (by simp))
theorem Ip{y:Z}{P:Nat->Nat->Nat}{e f g:Nat×Nat}{v F:List (Nat×Nat)}{R:List (Nat×Nat)}(h:oU y P (e::f::g::v++F))(hf:f.2=ak e.2)(hR:(R.flatMap λd=>[d.1,d.2]).Perm (F.flatMap (E3 P)))
  (Vi:∀d∈gD P (e::f::g::v)++R, ¬(bt (P (ak e.2) e.1) (P (ak e.2) f.1) d.1=true/\bt (P (ak e.2) e.1) (P (ak e.2) f.1) d.2=true)):cl gO (gD P (g::v)++R)<=cl gO (gD P (e::f::g::v)++R):=by
 have he:e∈e::f::g::v++F:=Qac
 have Bn:f∈e::f::g::v++F:=by simp
 have le:=h.yd.lt _ (h.bO e he)
 have ce:=aE le
 have ea:lo P 0 (e::f::g::v)=lo P (P (ak g.2) g.1) v:=rfl
 have eb:lo P 0 (g::v)=lo P (P (ak g.2) g.1) v:=rfl
 have e1:gD P (e::f::g::v)++R=(lo P (P (ak g.2) g.1) v,P e.2 e.1)::(P (ak e.2) e.1,P (ak e.2) f.1)::(P e.2 f.1,P g.2 g.1)::(xh P (P (ak g.2) g.1) v++R):=by
  unfold gD
  rw[ea]
  show _::(P (ak e.2) e.1,P f.2 f.1)::(P (ak f.2) f.1,P g.2 g.1)::_=_
  rw[hf,ce]
  rfl
 have e2:gD P (g::v)++R=(lo P (P (ak g.2) g.1) v,P g.2 g.1)::(xh P (P (ak g.2) g.1) v++R):=by
  unfold gD
  rw[eb]
  rfl
 have cV:((gD P (e::f::g::v)++R).flatMap λd=>[d.1,d.2]).Perm ((e::f::g::v++F).flatMap (E3 P)):=by
  rw[Qaw,Qaw]
  exact (qD _).append hR
 have nd:=cV.nodup_iff.mpr h.cV
 have sy:=xk nd
 have T6:((gD P (g::v)++R).flatMap λd=>[d.1,d.2]).Perm ((g::v++F).flatMap (E3 P)):=by
  rw[Qaw,Qaw]
  exact (qD _).append hR
 have dk:∀c∈g::v++F,e.1≠c.1/\f.1≠c.1:=λc hc=>by
  have n1:=Qbc.mp h.nd
  have n2:=Qbc.mp n1.2
  exact ⟨λq=>n1.1 (Qae _ (by rw[q];exact Qam.mpr ⟨c,hc,rfl⟩)),λq=>n2.1 (by rw[q];exact Qam.mpr ⟨c,hc,rfl⟩)⟩
 have hc9:∀c∈g::v++F,c∈e::f::g::v++F:=λc hc=>Qae e (Qae f hc)
 -- Sd lies between at both ends
 have m:dW (λx=>ib (P e.2 e.1) (P e.2 f.1) x) ((g::v++F).flatMap (E3 P))=dW (λx=>ib (P (ak e.2) e.1) (P (ak e.2) f.1) x) ((g::v++F).flatMap (E3 P)):=by
  rw[sJ,sJ]
  refine sF λc hc=>?_
  have iW:=hc9 c hc
  obtain ⟨q1,q2⟩:=dk c hc
  have lc:=h.yd.lt _ (h.bO c iW)
  have MQ:∀{a b r a' b' r'},bt a b r=bt a' b' r'->ib a b r=ib a' b' r':=λ{a b r a' b' r'} z=>by unfold ib;rw[z]
  have sL:∀{a b r},bt a b r=false->ib a b r=0:=λ{a b r} z=>by unfold ib;rw[z];rfl
  have fe:e.2=f.2\/e.2=ak f.2:= .inr (by rw[hf,ce])
  have fc:ak e.2=f.2\/ak e.2=ak f.2:= .inl hf.symm
  by_cases z1:e.2=c.2
  ·have b:=h.band e he f Bn c iW e.2 (.inl rfl) fe (.inl z1) q1 q2
   have s1:=h.sep e he f Bn c iW e.2 (ak c.2) (.inl rfl) fe (.inr rfl) (by rw[<-z1];exact λq=>dN le q.symm)
   have s2:=h.sep e he f Bn c iW (ak e.2) c.2 (.inr rfl) fc (.inl rfl) (by rw[<-z1];exact dN le)
   rw[sL s1,sL s2]
   rw[<-z1]at*
   rw[MQ b]
   lia
  ·by_cases z2:e.2=ak c.2
   ·have z3:ak e.2=c.2:=by rw[z2,aE lc]
    have b:=h.band e he f Bn c iW e.2 (.inl rfl) fe (.inr z2) q1 q2
    have s1:=h.sep e he f Bn c iW e.2 c.2 (.inl rfl) fe (.inl rfl) z1
    have s2:=h.sep e he f Bn c iW (ak e.2) (ak c.2) (.inr rfl) fc (.inr rfl) (by rw[<-z2];exact dN le)
    rw[sL s1,sL s2]
    rw[<-z3,ce]
    rw[MQ b]
    lia
   ·have z4:ak e.2≠c.2:=λq=>z2 (by rw[<-q,ce])
    have z5:ak e.2≠ak c.2:=λq=>z1 (gH le lc q)
    rw[sL (h.sep e he f Bn c iW e.2 c.2 (.inl rfl) fe (.inl rfl) z1),sL (h.sep e he f Bn c iW e.2 (ak c.2) (.inl rfl) fe (.inr rfl) z2),sL (h.sep e he f Bn c iW (ak e.2) c.2 (.inr rfl) fc (.inl rfl) z4),sL (h.sep e he f Bn c iW (ak e.2) (ak c.2) (.inr rfl) fc (.inr rfl) z5)]
 rw[<-vH T6, <-vH T6, <-sI, <-sI,e2,aV,aV]at m
 have sL:∀{a b r},bt a b r=false->ib a b r=0:=λ{a b r} z=>by unfold ib;rw[z];rfl
 have fe:e.2=f.2\/e.2=ak f.2:= .inr (by rw[hf,ce])
 have fc:ak e.2=f.2\/ak e.2=ak f.2:= .inl hf.symm
 have hp:=sL (h.sep e he f Bn e he (ak e.2) e.2 (.inr rfl) fc (.inl rfl) (dN le))
 have hq:=sL (h.sep e he f Bn f Bn (ak e.2) e.2 (.inr rfl) fc fe (dN le))
 rw[e1]at Vi sy ⊢
 rw[e2]
 have:=E2 (al:=lo P (P (ak g.2) g.1) v) (be:=P g.2 g.1) (p:=P e.2 e.1) (q:=P e.2 f.1) (p':=P (ak e.2) e.1) (q':=P (ak e.2) f.1) (R:=xh P (P (ak g.2) g.1) v++R) (by rw[Qe1,Qe1]at *; simpa using m) hp hq (λd hd=>Vi d (Qae _ (Qae _ (Qae _ hd)))) ((Qb5.mp sy).1 _ Qac)
 exact Int.ofNat_le.mp this
theorem Dg{P:Nat->Nat->Nat}:∀(l:List (Nat×Nat)) (a d:Nat×Nat),d∈xh P (P (ak a.2) a.1) l->∃t1 b c t2,a::l=t1++b::c::t2/\d=(P (ak b.2) b.1,P c.2 c.1)
 | [],_,_,h=>absurd h Qal
 | e::l,a,d,h=>by
  rcases Qak.mp h with q | q
  ·exact ⟨[],a,e,l,rfl,q⟩
  ·obtain ⟨t1,b,c,t2,h1,h2⟩:=Dg l e d q
   exact ⟨a::t1,b,c,t2,by rw[h1];rfl,h2⟩
theorem Iq{P:Nat->Nat->Nat}{w:List (Nat×Nat)}{d:Nat×Nat}(h:d∈gD P w):∃b c,b∈w/\c∈w/\d=(P (ak b.2) b.1,P c.2 c.1)/\(b=c\/∃l m v,w=l++m/\m++l=b::c::v):=by
 match w,h with
 | [],h=>exact absurd h Qal
 | e::r,h=>
  have h:d∈(lo P 0 (e::r),P e.2 e.1)::xh P (P (ak e.2) e.1) r:=h
  rcases Qak.mp h with q | q
  ·rcases List.eq_nil_or_concat r with z | ⟨t,b,z⟩
   ·subst z
    exact ⟨e,e,Qac,Qac,q,.inl rfl⟩
   ·rw[List.concat_eq_append]at z
    subst z
    refine ⟨b,e,by simp,Qac,?_,.inr ⟨e::t,[b],t,rfl,rfl⟩⟩
    rw[q,show e::(t++[b])=(e::t)++[b] from rfl,xj]
    rfl
  ·obtain ⟨t1,b,c,t2,h1,h2⟩:=Dg r e d q
   rw[h1]
   exact ⟨b,c,by simp,by simp,h2,.inr ⟨t1,b::c::t2,t2++t1,rfl,rfl⟩⟩
noncomputable def dst(d:Nat×Nat):Nat:=(d.1 - d.2)+(d.2 - d.1)
def Bnd(P:Nat->Nat->Nat)(D:List (List (Nat×Nat)))(d:Nat×Nat):Prop:=∃w∈D,d∈gD P w/\∃b∈w,∃c∈w,d=(P (ak b.2) b.1,P c.2 c.1)/\c.2=ak b.2
theorem Ir{α:Type}{p:α->Prop}(f:α->Nat)(h:∃x,p x):∃x,p x/\∀z,p z->f x<=f z:=by
 obtain ⟨x,hx⟩:=h
 have go:∀n x,f x<=n->p x->∃x,p x/\∀z,p z->f x<=f z:=by
  intro n
  induction n with
  | zero=>exact λx h1 h2=>⟨x,h2,λz _=>by lia⟩
  | succ n ih=>
   intro x h1 h2
   by_cases q:∃z,p z/\f z<f x
   ·obtain ⟨z,q1,q2⟩:=q
    exact ih z () q1
   ·exact ⟨x,h2,λz hz=>Qfc.mp λr=>q ⟨z,hz,r⟩⟩
 exact go _ x (YS _) hx
noncomputable abbrev fA(w:List (Nat×Nat)):Z:=w.map Prod.snd
theorem T7{y:Z}{w:List (Nat×Nat)}(hy:Yd y)(hn:w≠[])(hi:∀a∈w,a.2∈y):SW y (fA w)\/∃l m e f v,w=l++m/\m++l=e::f::v/\f.2=ak e.2:=by
 have Xr:fA w≠[]:=λz=>hn (List.map_eq_nil_iff.mp z)
 have bO:∀c∈fA w,c∈y:=λc hc=>by
  obtain ⟨a,ha,rfl⟩:=Qam.mp hc
  exact hi a ha
 by_cases r:∀i:Int,rd (fA w) i≠ak (rd (fA w) (i - 1))
 ·exact .inl ⟨Xr,bO,r⟩
 ·refine .inr ?_
  obtain ⟨i,jw⟩:=Classical.not_forall.mp r
  have jw:rd (fA w) i=ak (rd (fA w) (i - 1)):=Classical.not_not.mp jw
  have lw:0<(fA w:):=YR.mpr Xr
  have ll:(fA w:)=(w:):=Qi ..
  -- FG place ahead
  obtain ⟨j,hj,ej⟩:∃j:Nat,j<(w:)/\rd (fA w) (i - 1)=rd (fA w) j/\rd (fA w) i=rd (fA w) (j+1):=by
   refine ⟨gv (fA w:) (i - 1),by rw[<-ll];exact bo lw _,(bX Xr _).symm,?_⟩
   have e1:=ck (n:=(fA w:)) lw (i - 1)
   rw[e1, <-fO (fA w) i, <-fO (fA w) ((i - 1)%((fA w:):Int)+1)]
   congr 1
   rw[Qdt]
   congr 1
   lia
  rw[ej.1,ej.2]at jw
  have gj:(fA w)[j]? =some (w[j]).2:=by show (w.map Prod.snd)[j]? =_;rw[Qag,NT hj];rfl
  have rj:rd (fA w) j=(w[j]).2:=by
   have:=gU (w:=fA w) (k:=j) ()
   rw[gj]at this
   exact (Qaj this).symm
  have ly:=hy.lt _ (hi _ (Qa1 hj))
  by_cases z:j+1<(w:)
  ·have gk:(fA w)[j+1]? =some (w[j+1]).2:=by show (w.map Prod.snd)[j+1]? =_;rw[Qag,NT z];rfl
   have rk:rd (fA w) ((j+1:Nat):Int)=(w[j+1]).2:=by
    have:=gU (w:=fA w) (k:=j+1) ()
    rw[gk]at this
    exact (Qaj this).symm
   refine ⟨w.take j,w.drop j,w[j],w[j+1],w.drop (j+2)++w.take j,(Qbr j w).symm,?_,?_⟩
   ·rw[Qbj hj,Qbj z]
    rfl
   ·rw[<-rk, <-rj];exact jw
  ·have ej2:j+1=(w:):=by lia
   have r0:rd (fA w) ((j:Int)+1)=rd (fA w) ((0:Nat):Int):=by
    rw[show (j:Int)+1=((0:Nat):Int)+((fA w:):Int) by rw[ll, <-ej2];lia,gy]
   have h0:0<(w:):=by lia
   have g0:(fA w)[0]? =some (w[0]).2:=by show (w.map Prod.snd)[0]? =_;rw[Qag,NT h0];rfl
   have rz:rd (fA w) ((0:Nat):Int)=(w[0]).2:=by
    have:=gU (w:=fA w) (k:=0) ()
    rw[g0]at this
    exact (Qaj this).symm
   rw[r0,rz,rj]at jw
   by_cases q:(w:)=1
   ·exfalso
    have:j=0:=by lia
    subst this
    exact dN ly jw.symm
   ·refine ⟨w.take j,w.drop j,w[j],w[0],(w.take j).drop 1,(Qbr j w).symm,?_,jw⟩
    rw[Qbj hj,show w.drop (j+1)=[] from Qdh ()]
    show w[j]::([]++w.take j)=_
    rw[Qdj]
    congr 1
    have h1:0<(w.take j:):=by rw[Qas];lia
    have:=Qbj h1
    rw[List.drop_zero]at this
    rw[this,List.getElem_take]
    rfl
theorem Pa{p q r s:Nat}(h1:bt p q r=true)(h2:bt p q s=true):dst (r,s)<dst (p,q):=by
 have k:∀{r},bt p q r=true->(p<r/\ ¬q<r)\/(¬p<r/\q<r):=λ{r} h=>by
  unfold bt at h
  by_cases a:p<r
  ·by_cases b:q<r
   ·rw[decide_eq_true a,decide_eq_true b]at h;exact absurd h ∅
   ·exact .inl ⟨a,b⟩
  ·by_cases b:q<r
   ·exact .inr ⟨a,b⟩
   ·rw[decide_eq_false a,decide_eq_false b]at h;exact absurd h ∅
 have a:=k h1
 have b:=k h2
 unfold dst
 simp only
 lia
noncomputable def Iu(D:List (List (Nat×Nat))):List Z:=D.map λw=>aJ (fA w)
theorem E4{b c:Nat}{v:Z}(hb:Lt b)(e:c=ak b):aJ (b::c::v)=aJ v:=by
 have:=iN (a:=[]) (b:=v) (x:=b) (y:=c) (by rw[e];exact hb.ak) (by rw[e,aE hb])
 unfold aJ
 rw[Qdj,Qdj]at this
 rw[this]
theorem zx{y:Z}{P:Nat->Nat->Nat}{D:List (List (Nat×Nat))}(h:oU y P D.flatten)(hr:∀w∈D,aJ (fA w)≠[])(hb:∃w∈D, ¬SW y (fA w)):
  ∃D',oU y P D'.flatten/\Iu D'=Iu D/\(D'.flatten:)<(D.flatten:)/\cl gO (D'.flatMap (gD P))<=cl gO (D.flatMap (gD P)):=by
 have ne:∀w∈D,w≠[]:=λw hw z=>hr w hw (by rw[z];unfold aJ;decide)
 have bO:∀w∈D,∀a∈w,a.2∈y:=λw hw a ha=>h.bO a (Qee.mpr ⟨w,hw,ha⟩)
 have some:∃d,Bnd P D d:=by
  obtain ⟨w,hw,hs⟩:=hb
  rcases T7 h.yd (ne w hw) (bO w hw) with z | ⟨l,m,e,f,v,z1,z2,z3⟩
  ·exact absurd z hs
  ·have hd:(P (ak e.2) e.1,P f.2 f.1)∈gD P (m++l):=by
    rw[z2]
    exact Qae _ Qac
   have hm:∀a,a∈m++l->a∈w:=λa ha=>by
    rw[z1]
    rcases Qaf.mp ha with q | q
    ·exact Qaf.mpr (.inr q)
    ·exact Qaf.mpr (.inl q)
   refine ⟨(P (ak e.2) e.1,P f.2 f.1),w,hw,?_,e,hm e (by rw[z2];exact Qac),f,hm f (by rw[z2];exact Qae _ Qac),rfl,z3⟩
   rw[z1]
   exact (De l m).symm.mem_iff.mp hd
 obtain ⟨d,⟨w,hw,hd,b',GY,c',iW,xV,Xs⟩,least⟩:=Ir dst some
 obtain ⟨b,c,Vj,Xt,Fp,hx⟩:=Iq hd
 have JE:∀w∈D,∀a∈w,a∈D.flatten:=λw hw a ha=>Qee.mpr ⟨w,hw,ha⟩
 have lb:=h.yd.lt _ (bO w hw b Vj)
 have lb':=h.yd.lt _ (bO w hw b' GY)
 have Qv:c.2=ak b.2:=by
  rw[Fp]at xV
  have q1:=h.inj b (JE w hw b Vj) b' (JE w hw b' GY) (ak b.2) (ak b'.2) (.inr rfl) (.inr rfl) (congrArg Prod.fst xV)
  have q2:=h.inj c (JE w hw c Xt) c' (JE w hw c' iW) c.2 c'.2 (.inl rfl) (.inl rfl) (congrArg Prod.snd xV)
  rw[q2.1,Xs,q1.1]
 rcases hx with z | ⟨l,m,v,z1,z2⟩
 ·subst z
  exact absurd Qv.symm (dN lb)
 have T8:aJ (fA w)=aJ (fA v):=by
  have e1:fA w=fA l++fA m:=by rw[z1];exact Qad ..
  have e2:fA m++fA l=b.2::c.2::fA v:=by
   rw[<-Qad,z2];rfl
  have al:∀x,(∀a∈x,a∈w)->AllLt (fA x):=λx hx t ht=>by
   obtain ⟨a,ha,rfl⟩:=Qam.mp ht
   exact h.yd.lt _ (bO w hw a (hx a ha))
  rw[e1,oq (al l λa ha=>by rw[z1];exact Qaf.mpr (.inl ha)) (al m λa ha=>by rw[z1];exact Qaf.mpr (.inr ha)),e2,E4 lb Qv]
 match v,z2,T8 with
 | [],_,T8=>exact absurd (T8.trans (by unfold aJ;decide)) (hr w hw)
 | g::v,z2,T8=>
  obtain ⟨D1,D2,eD⟩:=List.append_of_mem hw
  have pw:w.Perm (b::c::g::v):=by rw[z1, <-z2];exact Qea
  have pF:D.flatten.Perm (b::c::g::v++(D1.flatten++D2.flatten)):=by
   rw[eD,Qfs,Qcd]
   refine (Qdr ..).trans ?_
   exact pw.append_right _
  have T9:=h.perm pF.symm
  have Zk:(D.flatMap (gD P)).Perm (gD P (b::c::g::v)++(D1.flatMap (gD P)++D2.flatMap (gD P))):=by
   rw[eD,Qaw,Qa3]
   refine (Qdr ..).trans ?_
   refine List.Perm.append_right _ ?_
   rw[z1, <-z2]
   exact De l m
  have Lw:∀E:List (List (Nat×Nat)),((E.flatMap (gD P)).flatMap λd=>[d.1,d.2]).Perm (E.flatten.flatMap (E3 P)):=by
   intro E
   induction E with
   | nil=>exact Qcn _
   | cons w E ih=>
    rw[Qa3,Qaw,Qcd,Qaw]
    exact (qD w).append ih
  have inD:∀d∈gD P (b::c::g::v)++(D1.flatMap (gD P)++D2.flatMap (gD P)),∃w∈D,d∈gD P w:=λd hd=>Qbh.mp (Zk.mem_iff.mpr hd)
  have one:=Ip (v:=v) (F:=D1.flatten++D2.flatten) (R:=D1.flatMap (gD P)++D2.flatMap (gD P)) T9 Qv (by
   rw[Qaw,Qaw]
   exact (Lw D1).append (Lw D2)) (λd hd ⟨i1,i2⟩=>by
   obtain ⟨w2,La,hd2⟩:=inD d hd
   obtain ⟨b2,c2,i3,Vk,e2,_⟩:=Iq hd2
   rw[e2]at i1 i2
   simp only at i1 i2
   have s1:ak b.2=ak b2.2:=Classical.byContradiction λq=>by
    have:=h.sep b (JE w hw b Vj) c (JE w hw c Xt) b2 (JE w2 La b2 i3) (ak b.2) (ak b2.2) (.inr rfl) (.inl Qv.symm) (.inr rfl) q
    rw[this]at i1
    exact absurd i1 ∅
   have s2:ak b.2=c2.2:=Classical.byContradiction λq=>by
    have:=h.sep b (JE w hw b Vj) c (JE w hw c Xt) c2 (JE w2 La c2 Vk) (ak b.2) c2.2 (.inr rfl) (.inl Qv.symm) (.inl rfl) q
    rw[this]at i2
    exact absurd i2 ∅
   have ls:=least d ⟨w2,La,hd2,b2,i3,c2,Vk,e2,by rw[<-s2,s1]⟩
   have lt:=Pa i1 i2
   rw[Fp,e2,Qv]at ls
   exact absurd lt (Qfc.mpr ls))
  have Xu:((D1++(g::v)::D2).flatMap (gD P)).Perm (gD P (g::v)++(D1.flatMap (gD P)++D2.flatMap (gD P))):=by
   rw[Qaw,Qa3]
   exact Qdr ..
  have Zl:(D1++(g::v)::D2).flatten.Perm (g::v++(D1.flatten++D2.flatten)):=by
   rw[Qfs,Qcd]
   exact Qdr ..
  have MR:oU y P (D1++(g::v)::D2).flatten:=(T9.sub (F:=g::v++(D1.flatten++D2.flatten)) ((Qfe c _).trans (Qfe b _))).perm Zl
  have sy:(D.flatMap (gD P)).Pairwise λa b=>gO a b=gO b a:=xk ((Lw D).nodup_iff.mpr h.cV)
  have sy':((D1++(g::v)::D2).flatMap (gD P)).Pairwise λa b=>gO a b=gO b a:=xk ((Lw _).nodup_iff.mpr MR.cV)
  refine ⟨D1++(g::v)::D2,MR,?_,?_,?_⟩
  ·rw[eD]
   unfold Iu
   rw[Qad,Qad,Qav,Qav,T8]
  ·rw[pF.length_eq,Zl.length_eq]
   show _<((b::c::(g::v++(D1.flatten++D2.flatten))):)
   rw[Qaz,Qaz]
   lia
  ·rw[zw Zk sy,zw Xu sy']
   exact one
theorem Pb{y:Z}{P:Nat->Nat->Nat}:∀(n:Nat) {D:List (List (Nat×Nat))},(D.flatten:)<=n->oU y P D.flatten->(∀w∈D,aJ (fA w)≠[])->
  ∃D',oU y P D'.flatten/\Iu D'=Iu D/\(∀w∈D',SW y (fA w))/\cl gO (D'.flatMap (gD P))<=cl gO (D.flatMap (gD P)):=by
 intro n
 induction n with
 | zero=>
  intro D hn h hr
  by_cases hb:∃w∈D, ¬SW y (fA w)
  ·obtain ⟨D',_,_,l,_⟩:=zx h hr hb
   lia
  ·exact ⟨D,h,rfl,λw hw=>Classical.byContradiction λz=>hb ⟨w,hw,z⟩,YS _⟩
 | succ n ih=>
  intro D hn h hr
  by_cases hb:∃w∈D, ¬SW y (fA w)
  ·obtain ⟨D',h1,h2,l,h4⟩:=zx h hr hb
   obtain ⟨D2,g1,g2,g3,g4⟩:=ih (D:=D') () h1 (λw hw q=>by
    have:aJ (fA w)∈Iu D':=Qam.mpr ⟨w,hw,rfl⟩
    rw[h2]at this
    obtain ⟨u,hu,e⟩:=Qam.mp this
    exact hr u hu (e.trans q))
   exact ⟨D2,g1,g2.trans h2,g3,Qbf g4 h4⟩
  ·exact ⟨D,h,rfl,λw hw=>Classical.byContradiction λz=>hb ⟨w,hw,z⟩,YS _⟩
noncomputable def cord(D:List (List (Nat×Nat)))(c:Nat):List (Nat×Nat):=(D|||c)
noncomputable def cN(D:List (List (Nat×Nat))):List Z:=D.map fA
noncomputable def oV(P:Nat->Nat->Nat)(D:List (List (Nat×Nat)))(c i x:Nat):Nat:=P x ((cord D c).getD i (0,0)).1
theorem nB(D:List (List (Nat×Nat)))(c:Nat):(cN D).getD c []=fA (cord D c):=by
 unfold cN cord
 rw[Qaa,Qaa,Qag]
 cases D[c]?<;> rfl
theorem kO(w:List (Nat×Nat)):(fA w:)=(w:):=Qi ..
theorem lW{w:List (Nat×Nat)}{i:Nat}(h:i<(w:)):rd (fA w) i=(w.getD i (0,0)).2:=by
 have e:=gU (w:=fA w) (k:=i) (by rw[kO];exact h)
 have g:(fA w)[i]? =some (w[i]).2:=by show (w.map Prod.snd)[i]? =_;rw[Qag,NT h];rfl
 rw[g]at e
 rw[<-Qaj e,Qaa,NT h]
 rfl
theorem Dh{D:List (List (Nat×Nat))}{c i:Nat}(hc:c<D.length)(hi:i<(cord D c:)):(cord D c).getD i (0,0)∈D.flatten:=by
 refine Qee.mpr ⟨cord D c,?_,?_⟩
 ·unfold cord
  rw[Qaa,NT hc]
  exact Qa1 hc
 ·rw[Qaa,NT hi]
  exact Qa1 hi
theorem Pc{D:List (List (Nat×Nat))}(h:(D.flatten.map Prod.fst).Nodup){c i d j:Nat}(hc:c<D.length)(hd:d<D.length)(hi:i<(cord D c:))(hj:j<(cord D d:))(e:((cord D c).getD i (0,0)).1=((cord D d).getD j (0,0)).1):(c,i)=(d,j):=by
 rw[List.map_flatten]at h
 obtain ⟨h1,h2⟩:=List.pairwise_flatten.mp h
 have g:∀{c},(hc:c<D.length)->cord D c=D[c]:=λ{c} hc=>by unfold cord;rw[Qaa,NT hc];rfl
 have gi:∀{c i},(hc:c<D.length)->(hi:i<(cord D c:))->((cord D c).getD i (0,0)).1∈(D[c]).map Prod.fst:=λ{c i} hc hi=>by
  rw[<-g hc,Qaa,NT hi]
  exact Qam.mpr ⟨_,Qa1 hi,rfl⟩
 have pw:=Qc5.mp h2
 rcases Nat.lt_trichotomy c d with q | q | q
 ·have:=pw c d (by rw[Qi];exact hc) (by rw[Qi];exact hd) q _ (by rw[Qb9];exact gi hc hi) _ (by rw[Qb9];exact gi hd hj)
  exact absurd e this
 ·subst q
  have n:((D[c]).map Prod.fst).Nodup:=h1 _ (Qam.mpr ⟨_,Qa1 hc,rfl⟩)
  rw[<-g hc]at n
  have:=(List.getElem_inj (xs:=(cord D c).map Prod.fst) (i:=i) (j:=j) (h₀:=by rw[Qi];exact hi) (h₁:=by rw[Qi];exact hj) n).mp (by
   rw[Qb9,Qb9]
   rw[Qaa,Qaa]at e
   rw[NT hi,NT hj]at e
   exact e)
  rw[this]
 ·have:=pw d c (by rw[Qi];exact hd) (by rw[Qi];exact hc) q _ (by rw[Qb9];exact gi hd hj) _ (by rw[Qb9];exact gi hc hi)
  exact absurd e.symm this
theorem oU.lies{y:Z}{P:Nat->Nat->Nat}{D:List (List (Nat×Nat))}(h:oU y P D.flatten):dQ y (cN D) (λc i d j=>decide (oV P D c i (Vh (rd ((cN D).getD c []) i))<oV P D d j (Vh (rd ((cN D).getD c []) i)))) (oV P D):=by
 have len:(cN D:)=D.length:=Qi ..
 refine ⟨λc i d j e e' hc hd hi hj he u5 q=>?_,λc i d j x hc hd hi hj dk hx BU zc=>?_⟩
 ·rw[len]at hc hd
  rw[nB]at hi hj he u5
  rw[kO]at hi hj
  rw[lW hi]at he
  rw[lW hj]at u5
  exact h.ord _ (Dh hc hi) _ (Dh hd hj) e e' he u5 q
 ·rw[len]at hc hd
  rw[nB]at hi hj BU zc
  rw[kO]at hi hj
  rw[lW hi]at BU
  rw[lW hj]at zc
  have m1:=Dh hc hi
  have m2:=Dh hd hj
  have sw:∀{l},l∈y->(l=x\/l=ak x)->x=l\/x=ak l:=λhl z=>z.elim (λz=> .inl z.symm) λz=> .inr (by
   have lx:Lt x:=by
    have h9:97<=x/\x<=122:=by unfold az at hx;simpa using hx
    have:∀k,k<26->k+97∈aW:=by decide
    have h8:=this (x - 97) ()
    rw[show x - 97+97=x by lia]at h8
    exact .inl h8
   rw[z,aE lx])
  have x1:=sw (h.bO _ m1) BU
  have x2:=sw (h.bO _ m2) zc
  have n:((cord D c).getD i (0,0)).1≠((cord D d).getD j (0,0)).1:=λe=>dk (Pc h.nd hc hd hi hj e)
  have xc:∀{l},Lt l->(x=l\/x=ak l)->(ak x=l\/ak x=ak l):=λhl e=>e.elim (λe=> .inr (by rw[e])) λe=> .inl (by rw[e,aE hl])
  have l1:=h.yd.lt _ (h.bO _ m1)
  have l2:=h.yd.lt _ (h.bO _ m2)
  have lx:Lt x:=x1.elim (λe=>e▸l1) λe=>e▸l1.ak
  have el:Vh (rd ((cN D).getD c []) i)=x:=by
   rw[nB,lW hi]
   unfold Vh
   rcases BU with z | z
   ·rw[z,if_pos hx]
   ·rw[z,fq _ lx.mem,hx,if_neg ∅,aE lx]
  rw[el]
  exact ⟨λq=>n (h.one _ m1 _ m2 x x1 x2 q),λq=>n (h.one _ m1 _ m2 _ (xc l1 x1) (xc l2 x2) q),rfl,decide_eq_decide.mpr (h.rev _ m1 _ m2 x x1 x2).symm⟩
theorem Iv{P:Nat->Nat->Nat}:∀(w:List (Nat×Nat)) (o i:Nat),i<(w:)->(xh P o w)[i]? =some (if i=0 then o else P (ak (w.getD (i - 1) (0,0)).2) (w.getD (i - 1) (0,0)).1,P (w.getD i (0,0)).2 (w.getD i (0,0)).1)
 | [],_,_,h=>absurd h (Qc6 _)
 | e::w,o,0,_=>rfl
 | e::w,o,i+1,h=>by
  show (xh P (P (ak e.2) e.1) w)[i]? =_
  rw[Iv w _ i (by rw[Qaz]at h;lia)]
  match i with
  | 0=>rfl
  | i+1=>rfl
theorem Di{P:Nat->Nat->Nat}:∀(w:List (Nat×Nat)) (o:Nat),(xh P o w:)=(w:)
 | [],_=>rfl
 | e::w,o=>by show (xh P _ w:)+1=(w:)+1;rw[Di w]
theorem Dj{P:Nat->Nat->Nat}:∀(w:List (Nat×Nat)) (o:Nat),w≠[]->lo P o w=P (ak (w.getD ((w:) - 1) (0,0)).2) (w.getD ((w:) - 1) (0,0)).1
 | [],_,h=>absurd rfl h
 | [e],_,_=>rfl
 | e::f::w,o,_=>Dj (P:=P) (f::w) (P (ak e.2) e.1) (by simp)
theorem Pd{P:Nat->Nat->Nat}{D:List (List (Nat×Nat))}{c:Nat}:gD P (cord D c)=(List.range (cord D c:)).map λ(i:Nat)=>(pI (cN D) (oV P D) c ((i:Int) - 1),pO (cN D) (oV P D) c i):=by
 refine Qds λi=>?_
 by_cases hi:i<(cord D c:)
 ·have h0:0<(cord D c:):=by lia
  have hn:cord D c≠[]:=YR.mp h0
  rw[Qag,Qcx hi]
  show (xh P (lo P 0 (cord D c)) (cord D c))[i]? =some (pI (cN D) (oV P D) c ((i:Int) - 1),pO (cN D) (oV P D) c i)
  rw[Iv _ _ _ hi]
  unfold pI pO oV
  rw[nB,kO]
  have e1:=C_ hi
  have e2:rd (fA (cord D c)) ((i:Int) - 1)=((cord D c).getD (lT (cord D c:) i) (0,0)).2:=by
   rw[<-bX (λz=>hn (List.map_eq_nil_iff.mp z)),kO,e1.1]
   exact lW (by unfold lT;split<;>lia)
  rw[e1.1,e1.2,e2,lW hi]
  congr 2
  by_cases z:i=0
  ·rw[if_pos z,Dj _ _ hn,z]
   rfl
  ·rw[if_neg z]
   have:lT (cord D c:) i=i - 1:=by unfold lT;rw[if_neg z]
   rw[this]
 ·rw[Qbv (by unfold gD;rw[Di];lia),Qbv (by rw[Qi,Qck];lia)]
theorem Dk{P:Nat->Nat->Nat}{D:List (List (Nat×Nat))}:D.flatMap (gD P)=(places (cN D)).map λ(a:Nat×Nat)=>(pI (cN D) (oV P D) a.1 ((a.2:Int) - 1),pO (cN D) (oV P D) a.1 a.2):=by
 have go:∀n,n<=D.length->(D.take n).flatMap (gD P)=(uc (cN D) n).map λ(a:Nat×Nat)=>(pI (cN D) (oV P D) a.1 ((a.2:Int) - 1),pO (cN D) (oV P D) a.1 a.2):=by
  intro n
  induction n with
  | zero=>exact λ_=>rfl
  | succ n ih=>
   intro hn
   have e:D.take (n+1)=D.take n++[cord D n]:=by
    rw[List.take_succ]
    unfold cord
    rw[Qaa,NT ()]
    rfl
   rw[e,Qaw,ih ()]
   show _++[cord D n].flatMap (gD P)=(uc (cN D) n++_).map _
   rw[Qad,Qbq,Qa3,Qef,Qa4,Pd,nB,kO]
   rfl
 have:=go D.length (YS _)
 rw[Qbg]at this
 rw[this]
 unfold places
 rw[show (cN D:)=D.length from Qi ..]
theorem oU.cl{y:Z}{P:Nat->Nat->Nat}{D:List (List (Nat×Nat))}{L:Nat->Bool}{r:Nat->Nat}{M:Nat}(h:oU y P D.flatten)(hC:cS y (cN D) L r M):cl gO (D.flatMap (gD P))=cl (A1 (cN D) (oV P D)) (places (cN D)):=by
 rw[Dk,sj]
 refine nz (Qce (λ{a b} ha hb oh=>?_) (Bi (cN D) (cN D:)))
 obtain ⟨a1,a2⟩:=kH.mp ha
 obtain ⟨b1,b2⟩:=kH.mp hb
 have hN:=h.lies
 have dk:(a.1,a.2)≠(b.1,b.2):=λz=>oh (Prod.ext (Prod.mk.inj z).1 (Prod.mk.inj z).2)
 have n1:=dI hC hN a1 b1 a2 b2
 have n2:=dI hC hN b1 a1 b2 a2
 have n3:=dI hC hN a1 a1 a2 a2
 unfold A1 eA
 rw[vm n3.1 (n1.2 dk).1 n1.1 (Ne.symm n2.1) (n1.2 dk).2]
 unfold gO bt
 simp only
 rw[cx (Ne.symm n2.1),cx (n1.2 dk).2]
 generalize decide (pI (cN D) (oV P D) a.1 ((a.2:Int) - 1)<pI (cN D) (oV P D) b.1 ((b.2:Int) - 1))=p1
 generalize decide (pI (cN D) (oV P D) a.1 ((a.2:Int) - 1)<pO (cN D) (oV P D) b.1 b.2)=p2
 generalize decide (pO (cN D) (oV P D) a.1 a.2<pI (cN D) (oV P D) b.1 ((b.2:Int) - 1))=p3
 generalize decide (pO (cN D) (oV P D) a.1 a.2<pO (cN D) (oV P D) b.1 b.2)=p4
 revert p1 p2 p3 p4
 decide
theorem Iw{y:Z}{P:Nat->Nat->Nat}{D:List (List (Nat×Nat))}(h:oU y P D.flatten)(hr:∀w∈D,aJ (fA w)≠[]):∃vs:List Z,(∀v∈vs,SW y v)/\vs.map aJ=Iu D/\(GW y vs:)+Ic vs<=(cl gO (D.flatMap (gD P)):Int):=by
 obtain ⟨D',h1,h2,h3,h4⟩:=Pb _ (YS _) h hr
 have Mj:∀v∈cN D',SW y v:=λv hv=>by
  obtain ⟨w,hw,rfl⟩:=Qam.mp hv
  exact h3 w hw
 refine ⟨cN D',Mj,by rw[<-h2];unfold Iu cN;rw[Qbq];rfl,?_⟩
 have hs:∀c,c<(cN D':)->SW y ((cN D').getD c []):=λc hc=>Mj _ (getD_in hc)
 obtain ⟨M,hM⟩:∃M,∀w∈cN D',(w:)<=M:=by
  generalize cN D'=ws
  induction ws with
  | nil=>exact ⟨0,λ_ h=>absurd h Qal⟩
  | cons v vs ih=>
   obtain ⟨M,h⟩:=ih
   exact ⟨M+(v:),λw hw=>(Qak.mp hw).elim (λe=>by rw[e];lia) λe=>by have:=h w e;lia⟩
 have hC:=y0 (M:=2*M) h1.yd hs (λc hc=>se (hs c hc).ne) λc d hc hd=>by
  have:=hM _ (getD_in hc)
  have:=hM _ (getD_in hd)
  lia
 have low:=E1 hC h1.lies
 rw[<-h1.cl hC]at low
 have h4:(cl gO (D'.flatMap (gD P)):Int)<=cl gO (D.flatMap (gD P)):=Int.ofNat_le.mpr h4
 exact Int.le_trans low h4
theorem E5{y:Z}{ws:List Z}(hy:Yd y)(hw:∀w∈ws,SW y w):2*((GW y ws:)+Ic ws)=sr y ws:=by
 have hs:∀c,c<(ws:)->SW y (ws|||c):=λc hc=>hw _ (getD_in hc)
 unfold sr Ic
 rw[yZ,Int.mul_add,Int.mul_add]
 have e1:2*sm (ws:) (λc=>bH (ws.getD c.toNat []:) (ws.getD c.toNat []:) λi j=>((vf y ws (c.toNat,i.toNat) (c.toNat,j.toNat):):Int))+2*sm (ws:) (λc=>(((ws.getD c.toNat []:) / MN (ws.getD c.toNat []):Nat):Int) - 1)=sm (ws:) λc=>O5 y (ws.getD c.toNat []):=by
  rw[Bj,Bj, <-j4]
  refine aI λc hc=>?_
  rw[YQ,vn hy (hs c hc),CL hy (hs c hc) (hs c hc)]
  rfl
 have e2:iA (ws:) (λc d=>bH (ws.getD c.toNat []:) (ws.getD d.toNat []:) λi j=>((vf y ws (c.toNat,i.toNat) (d.toNat,j.toNat):):Int))=iA (ws:) λc d=>SS y (ws.getD c.toNat []) (ws.getD d.toNat []):=gN λc d ji hd=>by
  rw[YQ,YQ, <-CL hy (hs c (Qcy ji hd)) (hs d hd)]
  exact br λi j _ _=>by rw[YQ,YQ];exact CK ji
 rw[e2]
 lia
theorem nC{y w:Z}(hy:Yd y)(h:SW y w):∃k,k<=(w:)/\aJ w=My.dA w k:=by
 obtain ⟨k,hk,e⟩:=lO w
 exact ⟨k,hk,by rw[rE,h.core hy];exact e⟩
theorem Bo{y w:Z}(h:SW y w){k:Nat}(hk:k<=(w:)):SW y (dA w k):=by
 have r:∀i,rd (dA w k) i=rd w (i+k):=rK h.ne hk
 refine ⟨Ig h.ne (sk hk),λc hc=>h.bO c ?_,λi=>?_⟩
 ·unfold dA at hc
  rcases Qaf.mp hc with q | q
  ·exact Qcu q
  ·exact Qb4 q
 ·rw[r,r,show i - 1+(k:Int)=i+k - 1 by lia]
  exact h.red _
theorem Dm{y w v:Z}(hy:Yd y)(hw:SW y w)(hv:SW y v):SS y w v=SS y (aJ w) (aJ v):=by
 obtain ⟨k,hk,e⟩:=nC hy hw
 obtain ⟨m,hm,e'⟩:=nC hy hv
 have s:=Bo hv hm
 rw[e,e',Ho hw.ne hk,Hn hy hw s,Ho hv.ne hm,Hn hy hv hw]
theorem Dp{y w:Z}(hy:Yd y)(hw:SW y w):kr w=kr (aJ w):=by
 obtain ⟨k,hk,e⟩:=nC hy hw
 rw[e,O4 hw.ne hk]
theorem E6{y:Z}{vs ws:List Z}(hy:Yd y)(hv:∀v∈vs,SW y v)(hw:∀w∈ws,SW y w)(e:vs.map aJ=ws.map aJ):sr y vs=sr y ws:=by
 have el:(vs:)=(ws:):=by rw[<-Qi (f:=aJ) (as:=vs),e,Qi]
 have at':∀c,c<(ws:)->aJ (vs|||c)=aJ (ws|||c):=λc hc=>by
  have iW:c<(vs:):=by rw[el];exact hc
  have q:(vs.map aJ)[c]? =(ws.map aJ)[c]?:= by rw[e]
  rw[Qag,Qag,NT hc,NT iW]at q
  rw[Qaa,Qaa,NT hc,NT iW]
  exact Qaj q
 have s1:∀c,c<(ws:)->SW y (vs|||c):=λc hc=>hv _ (getD_in (by rw[el];exact hc))
 have s2:∀c,c<(ws:)->SW y (ws|||c):=λc hc=>hw _ (getD_in hc)
 have ss:∀c d,c<(ws:)->d<(ws:)->SS y (vs|||c) (vs|||d)=SS y (ws|||c) (ws|||d):=λc d hc hd=>by
  rw[Dm hy (s1 c hc) (s1 d hd),Dm hy (s2 c hc) (s2 d hd),at' c hc,at' d hd]
 unfold sr
 rw[el]
 congr 1
 ·refine aI λc hc=>?_
  rw[YQ]
  unfold O5
  rw[ss c c hc hc,Dp hy (s1 c hc),Dp hy (s2 c hc),at' c hc]
 ·congr 1
  refine gN λc d ji hd=>?_
  rw[YQ,YQ]
  exact ss c d (Qcy ji hd) hd
theorem Bp{y:Z}{P:Nat->Nat->Nat}{D:List (List (Nat×Nat))}{ws:List Z}(h:oU y P D.flatten)(hw:∀w∈ws,SW y w)(hr:Iu D=ws.map aJ):sr y ws<=2*(cl gO (D.flatMap (gD P)):Int):=by
 have ne:∀w∈D,aJ (fA w)≠[]:=λw MS=>by
  have:aJ (fA w)∈Iu D:=Qam.mpr ⟨w,MS,rfl⟩
  rw[hr]at this
  obtain ⟨u,hu,e⟩:=Qam.mp this
  rw[<-e]
  obtain ⟨k,hk,q⟩:=nC h.yd (hw u hu)
  rw[q]
  exact (Bo (hw u hu) hk).ne
 obtain ⟨vs,h1,h2,h3⟩:=Iw h ne
 rw[<-E6 h.yd h1 hw (h2.trans hr), <-E5 h.yd h1]
 lia
noncomputable def qf(B c:Nat)(w:Z):List (Nat×Nat):=(List.range (w:)).map λi=>(c*B+i,rd w i)
noncomputable def tag(B:Nat)(ws:List Z):List (List (Nat×Nat)):=(List.range (ws:)).map λc=>qf B c (ws|||c)
noncomputable def nP(y:Z)(os:List Od)(B x s:Nat):Nat:=ff (cV y os) (s / B) (s%B) x
theorem Iy(B c:Nat)(w:Z):fA (qf B c w)=w:=by
 refine Qds λi=>?_
 show ((qf B c w).map Prod.snd)[i]? =w[i]?
 unfold qf
 rw[Qbq,Qag]
 by_cases h:i<(w:)
 ·rw[Qcx h,gU h];rfl
 ·rw[Qbv (by rw[Qck];lia),Qbv ()];rfl
theorem zy(B:Nat)(ws:List Z):cN (tag B ws)=ws:=by
 refine Qds λc=>?_
 unfold cN tag
 rw[Qbq,Qag]
 by_cases h:c<(ws:)
 ·rw[Qcx h,NT h]
  show some (fA (qf B c (ws|||c)))=_
  rw[Iy,Qaa,NT h]
  rfl
 ·rw[Qbv (by rw[Qck];lia),Qbv ()];rfl
theorem Iz{B:Nat}{ws:List Z}{c:Nat}(h:c<(ws:)):cord (tag B ws) c=qf B c (ws|||c):=by
 unfold cord tag
 rw[Qaa,Qag,Qcx h]
 rfl
theorem Ly{B c:Nat}{w:Z}{i:Nat}(h:i<(w:)):(qf B c w).getD i (0,0)=(c*B+i,rd w i):=by
 unfold qf
 rw[Qaa,Qag,Qcx h]
 rfl
theorem lX{B:Nat}{ws:List Z}{a:Nat×Nat}(h:a∈(tag B ws).flatten):∃c i,c<(ws:)/\i<((ws|||c):)/\a=(c*B+i,rd (ws|||c) i):=by
 obtain ⟨w,hw,ha⟩:=Qee.mp h
 obtain ⟨c,hc,rfl⟩:=Qam.mp hw
 obtain ⟨i,hi,rfl⟩:=Qam.mp ha
 exact ⟨c,i,Qax.mp hc,Qax.mp hi,rfl⟩
theorem xl{B c i:Nat}(h:i<B):(c*B+i) / B=c/\(c*B+i)%B=i:=by
 have hB:0<B:=by lia
 refine ⟨?_,?_⟩
 ·rw[Qeo,Nat.add_mul_div_right _ _ hB,Nat.div_eq_of_lt h,Qd5]
 ·rw[Qeo,Nat.add_mul_mod_self_right,Qbs h]
theorem Pe{B:Nat}{ws:List Z}(hB:∀w∈ws,(w:)<=B):((tag B ws).flatten.map Prod.fst).Nodup:=by
 unfold tag
 rw[List.map_flatten,Qbq]
 refine List.pairwise_flatten.mpr ⟨λl hl=>?_,?_⟩
 ·obtain ⟨c,hc,rfl⟩:=Qam.mp hl
  show ((qf B c (ws|||c)).map Prod.fst).Nodup
  unfold qf
  rw[Qbq]
  exact Qby.mpr (Qdd.imp λn e=>n (Nat.add_left_cancel e))
 ·refine Qby.mpr (Qce (λ{c d} hc hd n=>?_) Qdd)
  intro x hx z hz e
  have k:∀{c x},c∈List.range (ws:)->x∈(qf B c (ws|||c)).map Prod.fst->x / B=c:=λ{c x} hc hx=>by
   unfold qf at hx
   rw[Qbq]at hx
   obtain ⟨i,hi,rfl⟩:=Qam.mp hx
   have:=hB _ (getD_in (Qax.mp hc))
   exact (xl (Qa2 (Qax.mp hi) this)).1
  exact n ((k hc hx).symm.trans ((congrArg (· / B) e).trans (k hd hz)))
section
variable{y:Z}{ws:List Z}{os:List Od}
theorem Dq(hy:Yd y)(hs:∀c,c<(ws:)->∀k:Int,rd (ws|||c) k∈y)(ho:gA y ws os){c i d j x:Nat}(hc:c<(ws:))(hd:d<(ws:))(hi:i<((ws|||c):))(hj:j<((ws|||d):))(hx:az x=true)(BU:rd (ws|||c) i=x\/rd (ws|||c) i=ak x)(zc:rd (ws|||d) j=x\/rd (ws|||d) j=ak x):
  (ff (cV y os) c i x<ff (cV y os) d j x↔ff (cV y os) d j (ak x)<ff (cV y os) c i (ak x))/\(ff (cV y os) c i x=ff (cV y os) d j x->(c,i)=(d,j))/\(ff (cV y os) c i (ak x)=ff (cV y os) d j (ak x)->(c,i)=(d,j)):=by
 obtain ⟨o,Qu,m,n,m',n',A,B,p,q,p',q',hm,hn,wd,vT,b1,b2,ep,eq,JO,TY,e1,e2,Am,HB⟩:=pos_at hy hs ho hc hd hi hj hx BU zc
 have nd:(o.ps.map Pr.pair).Nodup:=by
  obtain ⟨k,hk,rfl⟩:=Qdb Qu
  have:=ho.1
  exact (ho.2 k _ _ (NT hk) (NT ())).nodup_iff.mpr (oM _ _ _)
 have uniq:∀{a b:Nat} {u u':Pr},o.ps[a]? =some u->o.ps[b]? =some u'->u.pair=u'.pair->a=b:=λ{a b u u'} h1 h2 h3=>by
  obtain ⟨ha,ea⟩:=NU.mp h1
  obtain ⟨hb,eb⟩:=NU.mp h2
  exact Zf nd (i:=a) (j:=b) (by rw[Qi];exact ha) (by rw[Qi];exact hb) (by rw[Qb9,Qb9,ea,eb,h3])
 have k1:=uniq hm wd (by rw[ep,JO])
 have k2:=uniq hn vT (by rw[eq,TY])
 have k3:m=n->(c,i)=(d,j):=λz=>by
  rw[z,hn]at hm
  rw[<-ep, <-eq,Qaj hm]
 unfold ff
 rw[e1,e2,Am,HB]
 exact ⟨(),λz=>k3 (),λz=>k3 ()⟩
theorem IA(hy:Yd y)(hs:∀c,c<(ws:)->∀k:Int,rd (ws|||c) k∈y)(ho:gA y ws os){B:Nat}(hB:∀w∈ws,(w:)<=B):oU y (nP y os B) (tag B ws).flatten:=by
 have dm:∀{c i},c<(ws:)->i<((ws|||c):)->∀x,nP y os B x (c*B+i)=ff (cV y os) c i x:=λ{c i} hc hi x=>by
  obtain ⟨e1,e2⟩:=xl (c:=c) (Qa2 hi (hB _ (getD_in hc)))
  unfold nP
  rw[e1,e2]
 have lc:∀{c} (i:Nat),c<(ws:)->Lt (rd (ws|||c) i):=λi hc=>hy.lt _ (hs _ hc _)
 have two:∀{c i d j x:Nat},c<(ws:)->d<(ws:)->i<((ws|||c):)->j<((ws|||d):)->(x=rd (ws|||c) i\/x=ak (rd (ws|||c) i))->(x=rd (ws|||d) j\/x=ak (rd (ws|||d) j))->(ff (cV y os) c i x<ff (cV y os) d j x↔ff (cV y os) d j (ak x)<ff (cV y os) c i (ak x))/\(ff (cV y os) c i x=ff (cV y os) d j x->(c,i)=(d,j)):=λ{c i d j x} hc hd hi hj x1 x2=>by
  have lx:Lt x:=x1.elim (λe=>e▸lc i hc) λe=>e▸(lc i hc).ak
  have f:∀{l},Lt l->(x=l\/x=ak l)->(l=x\/l=ak x):=λhl e=>e.elim (λe=> .inl e.symm) λe=> .inr (by rw[e,aE hl])
  by_cases l:az x=true
  ·have k:=Dq hy hs ho hc hd hi hj l (f (lc i hc) x1) (f (lc j hd) x2)
   exact ⟨k.1,k.2.1⟩
  ·have g:∀{l},Lt l->(x=l\/x=ak l)->(l=ak x\/l=ak (ak x)):=λhl e=>(f hl e).elim (λe=> .inr (by rw[aE lx];exact e)) .inl
   have k:=Dq hy hs ho hd hc hj hi (x:=ak x) (by rw[fq _ lx.mem];simpa using l) (g (lc j hd) x2) (g (lc i hc) x1)
   rw[aE lx]at k
   exact ⟨k.1.symm,λe=>(k.2.2 e.symm).symm⟩
 refine ⟨hy,λa ha=>?_,Pe hB,λa ha b hb x z x1 z1 q=>?_,λa ha b hb x x1 x2=>?_,λa ha b hb x x1 x2 q=>?_⟩
 ·obtain ⟨c,i,hc,hi,rfl⟩:=lX ha
  exact hs c hc _
 ·obtain ⟨c,i,hc,hi,rfl⟩:=lX ha
  obtain ⟨d,j,hd,hj,rfl⟩:=lX hb
  rw[dm hc hi,dm hd hj]
  exact Hz hy hs ho c i d j x z hc hd hi hj x1 z1 q
 ·obtain ⟨c,i,hc,hi,rfl⟩:=lX ha
  obtain ⟨d,j,hd,hj,rfl⟩:=lX hb
  rw[dm hc hi,dm hd hj,dm hc hi,dm hd hj]
  exact (two hc hd hi hj x1 x2).1
 ·obtain ⟨c,i,hc,hi,rfl⟩:=lX ha
  obtain ⟨d,j,hd,hj,rfl⟩:=lX hb
  rw[dm hc hi,dm hd hj]at q
  have:=(two hc hd hi hj x1 x2).2 q
  rw[(Prod.mk.inj this).1,(Prod.mk.inj this).2]
theorem IB(hy:Yd y)(hs:∀c,c<(ws:)->∀k:Int,rd (ws|||c) k∈y)(ho:gA y ws os){B:Nat}(hB:∀w∈ws,(w:)<=B):uh (fG y ws os)=cl gO ((tag B ws).flatMap (gD (nP y os B))):=by
 have h:=IA hy hs ho hB
 have pt:=λE:List (List (Nat×Nat))=>show ((E.flatMap (gD (nP y os B))).flatMap λd=>[d.1,d.2]).Perm (E.flatten.flatMap (E3 (nP y os B))) by
  induction E with
  | nil=>exact Qcn _
  | cons w E ih=>
   rw[Qa3,Qaw,Qcd,Qaw]
   exact (qD w).append ih
 have nd:=(pt (tag B ws)).nodup_iff.mpr h.cV
 rw[Dk,zy]at nd ⊢
 have eN:∀{c i},c<(ws:)->i<((ws|||c):)->∀x,oV (nP y os B) (tag B ws) c i x=ff (cV y os) c i x:=λ{c i} hc hi x=>by
  obtain ⟨e1,e2⟩:=xl (c:=c) (Qa2 hi (hB _ (getD_in hc)))
  unfold oV
  rw[Iz hc,Ly hi]
  unfold nP
  simp only
  rw[e1,e2]
 have ep:∀a∈places ws,(pI ws (oV (nP y os B) (tag B ws)) a.1 ((a.2:Int) - 1),pO ws (oV (nP y os B) (tag B ws)) a.1 a.2)=((eI (cV y os) a.1 (ws.getD a.1 []) a.2).2.2.1,(eI (cV y os) a.1 (ws.getD a.1 []) a.2).2.2.2):=λa ha=>by
  obtain ⟨a1,a2⟩:=kH.mp ha
  have hp:0<(ws.getD a.1 []:):=by lia
  obtain ⟨g1,g2⟩:=kg (ps:=cV y os) (ws:=ws) (c:=a.1) a2
  rw[g1,g2]
  unfold pI pO
  rw[eN a1 (bo hp _),eN a1 (bo hp _)]
 have ec:((places ws).map λ(a:Nat×Nat)=>(pI ws (oV (nP y os B) (tag B ws)) a.1 ((a.2:Int) - 1),pO ws (oV (nP y os B) (tag B ws)) a.1 a.2))=(fG y ws os).map λx=>(x.2.2.1,x.2.2.2):=by
  unfold fG
  rw[kM,Qbq]
  exact Qco ep
 rw[ec]at nd ⊢
 rw[sj]
 unfold uh
 rw[List.flatMap_map]at nd
 obtain ⟨n1,n2⟩:=List.pairwise_flatMap.mp nd
 refine nz (Qce (λ{a b} ha hb oh=>?_) n2)
 have k:∀u∈[a.2.2.1,a.2.2.2],∀v∈[b.2.2.1,b.2.2.2],u≠v:=oh
 have k1:=k a.2.2.1 (by simp) b.2.2.1 (by simp)
 have k2:=k a.2.2.1 (by simp) b.2.2.2 (by simp)
 have k3:=k a.2.2.2 (by simp) b.2.2.1 (by simp)
 have k4:=k a.2.2.2 (by simp) b.2.2.2 (by simp)
 have kb:b.2.2.1≠b.2.2.2:=by
  have:=n1 b hb
  simpa using this
 show y_ b.2.2.1 b.2.2.2 a.2.2.1 a.2.2.2=gO (a.2.2.1,a.2.2.2) (b.2.2.1,b.2.2.2)
 rw[Lk kb (Ne.symm k1) (Ne.symm k3) (Ne.symm k2) (Ne.symm k4),vm kb (Ne.symm k1) (Ne.symm k3) (Ne.symm k2) (Ne.symm k4)]
 unfold gO bt
 simp only
 rw[cx k1,cx k3]
 generalize decide (a.2.2.1<b.2.2.1)=p1
 generalize decide (a.2.2.1<b.2.2.2)=p2
 generalize decide (a.2.2.2<b.2.2.1)=p3
 generalize decide (a.2.2.2<b.2.2.2)=p4
 revert p1 p2 p3 p4
 decide
end
theorem E7{y:Z}{us ws:List Z}{os:List Od}(hy:Yd y)(hu:∀u∈us,∀c∈u,c∈y)(ho:gA y us os)(hw:∀w∈ws,SW y w)(hr:us.map aJ=ws.map aJ):sr y ws<=2*(uh (fG y us os):Int):=by
 obtain ⟨B,hB⟩:∃B,∀w∈us,(w:)<=B:=by
  clear ho hr hu
  induction us with
  | nil=>exact ⟨0,λ_ h=>absurd h Qal⟩
  | cons v vs ih=>
   obtain ⟨M,h⟩:=ih
   exact ⟨M+(v:),λw hw=>(Qak.mp hw).elim (λe=>by rw[e];lia) λe=>by have:=h w e;lia⟩
 have ne:∀u∈us,u≠[]:=λu Qn z=>by
  have:aJ u∈us.map aJ:=Qam.mpr ⟨u,Qn,rfl⟩
  rw[hr]at this
  obtain ⟨w,MS,e⟩:=Qam.mp this
  obtain ⟨k,hk,q⟩:=nC hy (hw w MS)
  rw[q,z]at e
  exact (Bo (hw w MS) hk).ne (e.trans (by unfold aJ;decide))
 have hs:∀c,c<(us:)->∀k:Int,rd (us|||c) k∈y:=λc hc k=>hu _ (getD_in hc) _ (i9 (ne _ (getD_in hc)) k)
 rw[IB hy hs ho hB]
 refine Bp (IA hy hs ho hB) hw ?_
 rw[<-hr]
 have:=zy B us
 unfold Iu
 rw[<-congrArg (List.map aJ) this]
 unfold cN
 rw[Qbq]
 rfl
def Dr(_:Fr):Sp:=λvs H Q _=>∃(y:Z) (dr:Addr) (ws:List Z) (os:List Od),vs=[.str (S y),.ref dr]/\Yd y/\(y:)<=8/\wW y ws/\gA y ws os/\j7 H dr ws os/\∀H',aj H H'->Q (.int (uh (fG y ws os):Nat)) H'
theorem IC{K:Fr}{vs:List V}{H:Hp}{Q:VK}{E:XK}(h:Dr K vs H Q E):(vs:)=2:=by obtain ⟨_,_,_,_,rfl,_⟩:=h;rfl
structure Ch where
 t:Addr
 v:C4
noncomputable def ui(us:List Ch):List V:=us.map λu=>V.ref u.t
theorem nE(us:List Ch):(ui us:)=(us:):=by unfold ui;rw[Qi]
theorem zA(a:List Ch)(u:Ch):ui a++[V.ref u.t]=ui (a++[u]):=by unfold ui;rw[Qad];rfl
theorem ID{us:List Ch}{i:Nat}{x:V}(h:(ui us)[i]? =some x):∃u,us[i]? =some u/\x=V.ref u.t:=by
 unfold ui at h
 rw[Qag]at h
 obtain ⟨u,hu,rfl⟩:=Option.map_eq_some_iff.mp h
 exact ⟨u,hu,rfl⟩
def zB(H:Hp)(u:Ch):Prop:=H u.t=some (.lst ((Lm u.v).map V.int))
theorem E8{α:Type}{p:α->Bool}{l:List α}{i:Nat}{x:α}(h:l[i]? =some x):(l.take (i+1)).filter p=(l.take i).filter p++if p x=true then [x] else []:=by
 rw[<-take_snoc h,Qcg]
 congr 1
 by_cases z:p x=true
 ·rw[if_pos z,Qbe z];rfl
 ·rw[if_neg z,Qa6 z];rfl
theorem xr1(a b c d:Bool)(h1:a=true)(h2:c=true):(!decide (b=d))=xor (a&&b) (c&&d):=by subst h1;subst h2;cases b<;>cases d<;>rfl
theorem xr2(a b c d:Bool)(h1:a=true)(h2: ¬c=true):(!decide (b=false))=xor (a&&b) (c&&d):=by subst h1;rw[Qdx _ |>.mp h2];cases b<;>rfl
theorem xr3(a b c d:Bool)(h1: ¬a=true)(h2:c=true):(!decide (false=d))=xor (a&&b) (c&&d):=by subst h2;rw[Qdx _ |>.mp h1];cases d<;>rfl
theorem xr4(a b c d:Bool)(h1: ¬a=true)(h2: ¬c=true):(!decide (false=false))=xor (a&&b) (c&&d):=by rw[Qdx _ |>.mp h1,Qdx _ |>.mp h2];rfl
structure xm(H:Hp)(o:Od):Prop where
 ls:H o.o=some (.lst (e_ o.ps))
 pr:∀p∈o.ps,jB H p
theorem xm.same{H H':Hp}{o:Od}(h:xm H o)(s:aj H H'):xm H' o:=⟨s _ _ h.ls,λp hp=>(h.pr p hp).same s⟩
theorem xm.jx{H:Hp}{o:Od}{p:Addr}{xs ys:List V}(h:xm H o)(hp:H p=some (.lst xs))(n:o.o≠p):xm (L2.upd H p (.lst ys)) o:=⟨by rw[aq n];exact h.ls,λr hr=>(h.pr r hr).ts (aR.jx hp)⟩
noncomputable def uj(o:Od):List (Nat×Nat):=o.ps.map Pr.pair
noncomputable def E9(y:Z)(ws:List Z):List (List (Nat×Nat)):=(dJ y).map λb=>cB b ws (ws:)
def pQ(_:Fr):Sp:=λvs H Q _=>∃(y:Z) (wt:Addr) (ws:List Z),vs=[.str (S y),.ref wt]/\Yd y/\(y:)<=8/\H wt=some (.tup (jy ws))/\wW y ws/\∀(q:Addr) (os:List Od) (H':Hp),H q=none->H' q=some (.lst (gn os))->(∀o∈os,xm H' o)->os.map uj=E9 y ws->aj H H'->Q (.ref q) H'
theorem xn{K:Fr}{vs:List V}{H:Hp}{Q:VK}{E:XK}(h:pQ K vs H Q E):(vs:)=2:=by obtain ⟨_,_,_,rfl,_⟩:=h;rfl
def zC(_:Fr):Sp:=λvs H Q _=>∃(b:Addr) (y w:Z),vs=[.ref b,.str (S y),.str (S w)]/\bM H b/\Yd y/\2<=(y:)/\(y:)<=8/\w≠[]/\(∀c∈w,c∈y)/\(w:)<=6/\∀(u:Z) H',(∀c∈u,c∈y)->(u:)<=10->aJ u=aJ w->bM H' b->aG b H H'->Q (.str (S u)) H'
theorem E_{K:Fr}{vs:List V}{H:Hp}{Q:VK}{E:XK}(h:zC K vs H Q E):(vs:)=3:=by obtain ⟨_,_,_,rfl,_⟩:=h;rfl
def vI(_:Fr):Sp:=λvs H Q _=>∃(b:Addr) (y:Z) (many top:Nat),vs=[.ref b,.str (S y),.int many,.int top]/\bM H b/\Yd y/\2<=(y:)/\(y:)<=8/\1<=many/\many<=4/\1<=top/\top<=12/\many*top<=24/\∀(t:Addr) (ws:List Z) (H':Hp),H t=none->t≠b->H' t=some (.tup (jy ws))->TH y ws->(∀w∈ws,(w:)<=top)->bM H' b->aG b H H'->Q (.ref t) H'
theorem Bq{K:Fr}{vs:List V}{H:Hp}{Q:VK}{E:XK}(h:vI K vs H Q E):(vs:)=4:=by obtain ⟨_,_,_,_,rfl,_⟩:=h;rfl
def lD(_:Fr):Sp:=λvs H Q _=>∃(b dr:Addr) (y:Z) (ws:List Z) (os:List Od),vs=[.ref b,.ref dr]/\bM H b/\Yd y/\2<=(y:)/\(y:)<=8/\wW y ws/\j7 H dr ws os/\gA y ws os/\∀(q:Addr) (Mf:List Od) (H':Hp),j7 H' q ws Mf->gA y ws Mf->bM H' b->aG b H H'->Q (.ref q) H'
theorem sM{K:Fr}{vs:List V}{H:Hp}{Q:VK}{E:XK}(h:lD K vs H Q E):(vs:)=2:=by obtain ⟨_,_,_,_,_,rfl,_⟩:=h;rfl
theorem IE{y u:Z}{c m:Nat}(hy:Yd y)(hc:c∈y):aJ (u.take m++[c]++[ak c]++u.drop m)=aJ u:=by
 have lc:=hy.lt c hc
 have:=iN (a:=u.take m) (b:=u.drop m) (x:=c) (y:=ak c) lc.ak (by rw[aE lc])
 have e:u.take m++[c]++[ak c]++u.drop m=u.take m++c::ak c::u.drop m:=by simp
 unfold aJ
 rw[e,this,Qbr]
theorem swap_perm{α:Type}:∀(l:List α) (k:Nat) (h:k+1<(l:)),((l.set k l[k+1]).set (k+1) (l[k]'(Nat.lt_of_succ_lt h))).Perm l
 | [],_,h=>absurd h (Qc6 _)
 | [_],_,h=>absurd (Nat.lt_of_succ_lt_succ h) (Qc6 _)
 | a::b::l,0,_=>List.Perm.swap a b l
 | a::b::l,k+1,h=>List.Perm.cons a (swap_perm (b::l) k (Nat.lt_of_succ_lt_succ h))
theorem gA.put{y:Z}{ws:List Z}{os:List Od}(h:gA y ws os){k:Nat}(hk:k<(os:)){o:Od}(e:(o.ps.map Pr.pair).Perm (os[k].ps.map Pr.pair)):gA y ws (os.set k o):=by
 refine ⟨by rw[Qgc];exact h.1,λj o' b h1 h2=>?_⟩
 rw[List.getElem?_set]at h1
 by_cases z:k=j
 ·subst z
  rw[if_pos rfl,if_pos hk]at h1
  rw[<-Qaj h1]
  exact e.trans (h.2 k _ b (NT hk) h2)
 ·rw[if_neg z]at h1
  exact h.2 j o' b h1 h2
theorem Ds(ps:List Pr)(k:Nat)(p:Pr):(e_ ps).set k (V.ref p.t)=e_ (ps.set k p):=by unfold e_;rw[List.map_set]
theorem Lz(os:List Od)(k:Nat)(o:Od):(gn os).set k (V.ref o.o)=gn (os.set k o):=by unfold gn;rw[List.map_set]
theorem sN{y:Z}{ws:List Z}{os:List Od}(h:os.map uj=E9 y ws):gA y ws os:=by
 refine ⟨?_,λj o b h1 h2=>?_⟩
 ·have:=congrArg List.length h
  unfold E9 at this
  rw[Qi,Qi]at this
  exact this
 ·have q:(os.map uj)[j]? =(E9 y ws)[j]?:= by rw[h]
  unfold E9 at q
  rw[Qag,Qag,h1,h2]at q
  have e:uj o=cB b ws (ws:):=Qaj q
  unfold uj at e
  rw[e]
theorem xo{n k:Nat}(h:k<n):Fq n (k:Int)=some k:=by
 unfold Fq
 rw[if_pos (by omega)]
 simp[h]
local macro_rules | `(tactic| walk_at "rd") => `(tactic| repeat (first
 | refine ⟨_,rfl,?_⟩
 | refine ⟨_,_,rfl,rfl,?_⟩
 | refine ⟨rfl,?_⟩
 | refine And.intro (by first | decide | omega | assumption | exact Nat.le_of_ble_eq_true rfl | exact .inl ⟨∅,∅⟩ | exact .inr ⟨∅,∅⟩ | exact ⟨∅,∅⟩ | exact ⟨by omega,by omega⟩) ?_))
local macro_rules | `(tactic| walk_at "wk") => `(tactic| repeat (first
 | refine ⟨_,rfl,?_⟩
 | refine ⟨_,_,rfl,rfl,?_⟩
 | refine ⟨_,_,_,rfl,rfl,by first | assumption | omega,by assumption,?_⟩
 | refine ⟨rfl,?_⟩
 | refine And.intro (by first | decide | omega | assumption | exact Nat.le_of_ble_eq_true rfl | exact .inl ⟨∅,∅⟩ | exact .inr ⟨∅,∅⟩ | exact ⟨∅,∅⟩ | exact ⟨by omega,by omega⟩) ?_))
local macro_rules | `(tactic| walk_at "bd") => `(tactic| first | assumption | exact aaj _ | exact apl (by walk_at "bd") (by walk_at "bd"))
noncomputable def top(i:Nat):Stmt:=PySem.Challenge.pw_mustmeet_k35_whole_any_drawing_has_no_fe.main.body.getD i (.Pass ⟨0,0,0,0⟩)
noncomputable abbrev lY:Stmt:=top 1
noncomputable abbrev sO:Stmt:=top 2
noncomputable abbrev xp:Stmt:=top 4
noncomputable abbrev iC:Stmt:=top 5
noncomputable abbrev jc:Stmt:=top 7
noncomputable abbrev sP:Stmt:=top 8
noncomputable abbrev gB:Stmt:=top 9
noncomputable abbrev oW:Stmt:=top 10
noncomputable abbrev g7:Stmt:=top 11
noncomputable abbrev ki:Stmt:=top 12
noncomputable abbrev fQ:Stmt:=top 13
noncomputable abbrev jd:Stmt:=top 15
noncomputable abbrev iD:Stmt:=top 17
noncomputable abbrev kj:Stmt:=top 19
noncomputable abbrev lZ:Stmt:=top 20
noncomputable abbrev Br:Stmt:=top 21
noncomputable abbrev Bs:Stmt:=top 22
noncomputable abbrev g8:Stmt:=top 24
noncomputable abbrev iE:Stmt:=top 27
noncomputable abbrev je:Stmt:=top 28
noncomputable abbrev oX:Stmt:=top 29
noncomputable abbrev oY:Stmt:=top 30
noncomputable abbrev iF:Stmt:=top 31
noncomputable abbrev g9:Stmt:=top 32
noncomputable abbrev iG:Stmt:=top 33
noncomputable abbrev jf:Stmt:=top 34
noncomputable abbrev Bt:Stmt:=top 35
noncomputable abbrev xq:Stmt:=top 37
noncomputable abbrev Bu:Stmt:=top 39
noncomputable abbrev xr:Stmt:=top 40
noncomputable abbrev sQ:Stmt:=top 41
noncomputable abbrev xt:Stmt:=top 42
noncomputable abbrev sR:Stmt:=top 43
noncomputable abbrev xu:Stmt:=top 44
noncomputable abbrev sS:Stmt:=top 45
noncomputable abbrev sU:Stmt:=top 46
noncomputable abbrev l_:Stmt:=top 47
noncomputable abbrev oZ:Stmt:=top 48
noncomputable abbrev Bv:Stmt:=top 49
noncomputable abbrev md:Stmt:=top 50
noncomputable abbrev sV:Stmt:=top 51
noncomputable abbrev xv:Stmt:=top 52
noncomputable abbrev jg:Stmt:=top 53
noncomputable abbrev IF:Stmt:=top 54
structure bD(K:Fr)(mg:Str->Option Value)(x:Str)(st:Stmt)(ps:List Str)(f:Addr)(fd:FuncData):Prop where
 fn:J3 K x x st f fd
 mg:mg x=some (.ref f)
 bd:Binds K fd ps []
noncomputable abbrev kP:Stmt:=Y3 (top 25) 0
noncomputable abbrev iU:Stmt:=Y3 (top 26) 0
structure Txt(K:Fr)(mg:Str->Option Value)(f0 f1 f2 f3 f4 f5 f6 f7 f8 f9 Qw Qx Qy Qz QA QB QC QD IG IH QE QF QG QH QI QJ QK QL QM QN QO QP QQ QR QS QT QU QV QW QX QY QZ Q0 Q3 aO bg lE iH:Addr)(d0 d1 d2 d3 d4 d5 d6 d7 d8 d9 Q5 Q6 Q7 MT Q8 Q9 Q_ Ra Rb Rc Rf Rg Rh LA Ri Rj Rk Rl Rm Rn Ro Rp Rq Rr Rt Ru Rv Rw Rx Ry Rz RA RB RC zD sX:FuncData):Prop where
 F0:bD K mg "contrary" lY ["letter"] f0 d0
 F1:bD K mg "turned" sO ["word"] f1 d1
 F2:bD K mg "bands" xp ["yard"] f2 d2
 F3:bD K mg "steps_round" iC ["yard","start","end"] f3 d3
 F4:bD K mg "strands_at" jc ["yard","drawing","end"] f4 d4
 F5:bD K mg "points" sP ["yard","drawing"] f5 d5
 F6:bD K mg "corner_points" gB ["word","cord","place"] f6 d6
 F7:bD K mg "corners" oW ["yard","drawing"] f7 d7
 F8:bD K mg "chord_starts" g7 ["some"] f8 d8
 F9:bD K mg "number_in" ki ["rising","point"] f9 d9
 Vl:bD K mg "count_meetings" fQ ["some"] Qw Q5
 Vm:bD K mg "strands_in" jd ["words","band"] Qx Q6
 Vn:bD K mg "corner_ends" iD ["word","place"] Qy Q7
 Vo:bD K mg "shortened" kj ["word"] Qz MT
 Vp:bD K mg "shortest" lZ ["word"] QA Q8
 JF:bD K mg "ring" Br ["word"] QB Q9
 Vq:bD K mg "root" Bs ["word"] QC Q_
 Vr:bD K mg "corner_steps" g8 ["yard","word","place"] QD Ra
 zP:bD K mg "steps_ahead" iE ["seen","start","end"] IG Rb
 zQ:bD K mg "steps_back" je ["seen","start","end"] IH Rc
 Ph:bD K mg "parting" oX ["steps","one","other","enough"] QE Rf
 Pj:bD K mg "side_of" oY ["seen"] QF Rg
 Vs:bD K mg "comes_ahead" iF ["one","other"] QG Rh
 Vt:bD K mg "number_among" g9 ["order","seen"] QH LA
 Vu:bD K mg "seen_strand" iG ["words","ways","strand"] QI Ri
 Vv:bD K mg "taut_order" jf ["words","ways","band"] QJ Rj
 Pk:bD K mg "taut" Bt ["yard","words"] QK Rk
 Vw:bD K mg "least" xq ["yard","words"] QL Rl
 Vx:bD K mg "_law_box" Bu ["_law_script","_law_k"] QM Rm
 fE:bD K mg "_law_take" xr ["_law_box_here","_law_many"] QN Rn
 kQ:bD K mg "_law_other" sQ ["_law_letter"] QO Ro
 Vy:bD K mg "_law_yard" xt ["_law_box_here","_law_few","_law_top"] QP Rp
 JG:bD K mg "_law_short" sR ["_law_box_here","_law_yard_here","_law_top"] QQ Rq
 Vz:bD K mg "_law_near" xu ["_law_box_here","_law_yard_here","_law_word","_law_top"] QR Rr
 VA:bD K mg "_law_order" sS ["_law_box_here","_law_things"] QS Rt
 JH:bD K mg "_law_bands" sU ["_law_yard_here"] QT Ru
 VB:bD K mg "_law_drawing" l_ ["_law_box_here","_law_yard_here","_law_words_here"] QU Rv
 VC:bD K mg "_law_points" oZ ["_law_yard_here","_law_drawing_here"] QV Rw
 VD:bD K mg "_law_met" Bv ["_law_yard_here","_law_drawing_here"] QW Rx
 VE:bD K mg "_law_strands" md ["_law_yard_here","_law_words_here"] QX Ry
 VF:bD K mg "_law_words" sV ["_law_box_here","_law_yard_here","_law_many","_law_top"] QY Rz
 VG:bD K mg "_law_bent" xv ["_law_box_here","_law_yard_here","_law_word"] QZ RA
 VH:bD K mg "_law_exchanged" jg ["_law_box_here","_law_drawing_here"] Q0 RB
 F43:bD K mg "law" IF ["_law_script"] Q3 RC
 II:mg "Seen"=some (.ref aO)
 eR:Me K aO
 n_Seen_strand:fh K aO "strand"
 n_Seen_way:fh K aO "way"
 n_Seen_place:fh K aO "place"
 MU:mg "Way"=some (.ref bg)
 ik:Me K bg
 n_Way_size:fh K bg "size"
 n_Way_root_size:fh K bg "root_size"
 n_Way_leads:fh K bg "leads"
 n_Way_onward:fh K bg "onward"
 n_Way_backward:fh K bg "backward"
 MV:Mk K bg lE
 T_:J3 K "__init__" "Way.__init__" kP lE zD
 MW:Binds K zD ["self","yard","word","longest"] []
 IJ:Mk K aO iH
 Pl:J3 K "__init__" "Seen.__init__" iU iH sX
 IK:Binds K sX ["self","strand","way","place"] []
 z_all:mg "all"=none
 z_dict:mg "dict"=none
 z_enumerate:mg "enumerate"=none
 z_int:mg "int"=none
 z_len:mg "len"=none
 z_list:mg "list"=none
 z_max:mg "max"=none
 z_min:mg "min"=none
 z_range:mg "range"=none
 z_reversed:mg "reversed"=none
 z_sorted:mg "sorted"=none
 z_str:mg "str"=none
 z_tuple:mg "tuple"=none
theorem zE:aF ["letter"] ["letter"] (ay lY):=⟨rfl,rfl,rfl,⋯,rfl,⋯,⋯⟩
theorem Fb:aF ["word"] ["word"] (ay sO):=⟨rfl,rfl,rfl,⋯,rfl,⋯,⋯⟩
theorem IL:aF ["yard"] ["yard"] (ay xp):=⟨rfl,rfl,rfl,⋯,rfl,⋯,⋯⟩
theorem sY:aF ["yard","start","end"] ["yard","start","end"] (ay iC):=⟨rfl,rfl,rfl,⋯,rfl,⋯,⋯⟩
theorem lF:aF ["yard","drawing","end","order"] ["yard","drawing","end"] (ay jc):=⟨rfl,rfl,rfl,⋯,rfl,⋯,⋯⟩
theorem kR:aF ["yard","drawing","told","end","strand"] ["yard","drawing"] (ay sP):=⟨rfl,rfl,rfl,⋯,rfl,⋯,⋯⟩
theorem iV:aF ["word","cord","place","ahead"] ["word","cord","place"] (ay gB):=⟨rfl,rfl,rfl,⋯,rfl,⋯,⋯⟩
theorem cY:aF ["yard","drawing","numbers","number","point","told","cord","word","place","pair"] ["yard","drawing"] (ay oW):=⟨rfl,rfl,rfl,⋯,rfl,⋯,⋯⟩
theorem eL:aF ["some","starts","corner","first"] ["some"] (ay g7):=⟨rfl,rfl,rfl,⋯,rfl,⋯,⋯⟩
theorem dX:aF ["rising","point","low","high","middle"] ["rising","point"] (ay ki):=⟨rfl,rfl,rfl,⋯,rfl,⋯,⋯⟩
theorem bU:aF ["some","starts","begun","many","point","number"] ["some"] (ay fQ):=⟨rfl,rfl,rfl,⋯,rfl,⋯,⋯⟩
theorem dq:aF ["words","band","found","cord","word","place","letter"] ["words","band"] (ay jd):=⟨rfl,rfl,rfl,⋯,rfl,⋯,⋯⟩
theorem sZ:aF ["word","place"] ["word","place"] (ay iD):=⟨rfl,rfl,rfl,⋯,rfl,⋯,⋯⟩
theorem jh:aF ["word","kept","letter"] ["word"] (ay kj):=⟨rfl,rfl,rfl,⋯,rfl,⋯,⋯⟩
theorem eW:aF ["word","left","start","end"] ["word"] (ay lZ):=⟨rfl,rfl,rfl,⋯,rfl,⋯,⋯⟩
theorem kS:aF ["word","whole","least","start","begun"] ["word"] (ay Br):=⟨rfl,rfl,rfl,⋯,rfl,⋯,⋯⟩
theorem qE:aF ["word","whole","size","times"] ["word"] (ay Bs):=⟨rfl,rfl,rfl,⋯,rfl,⋯,⋯⟩
theorem jq:aF ["yard","word","place","ends"] ["yard","word","place"] (ay g8):=⟨rfl,rfl,rfl,⋯,rfl,⋯,⋯⟩
theorem km:aF ["seen","start","end","first"] ["seen","start","end"] (ay iE):=⟨rfl,rfl,rfl,⋯,rfl,⋯,⋯⟩
theorem lG:aF ["seen","start","end","first"] ["seen","start","end"] (ay je):=⟨rfl,rfl,rfl,⋯,rfl,⋯,⋯⟩
theorem eS:aF ["steps","one","other","enough","many","size"] ["steps","one","other","enough"] (ay oX):=⟨rfl,rfl,rfl,⋯,rfl,⋯,⋯⟩
theorem me:aF ["seen","way","cord"] ["seen"] (ay oY):=⟨rfl,rfl,rfl,⋯,rfl,⋯,⋯⟩
theorem fB:aF ["one","other","enough","ahead","back"] ["one","other"] (ay iF):=⟨rfl,rfl,rfl,⋯,rfl,⋯,⋯⟩
theorem cH:aF ["order","seen","low","high","middle"] ["order","seen"] (ay g9):=⟨rfl,rfl,rfl,⋯,rfl,⋯,⋯⟩
theorem g_:aF ["words","ways","strand","word","place"] ["words","ways","strand"] (ay iG):=⟨rfl,rfl,rfl,⋯,rfl,⋯,⋯⟩
theorem fZ:aF ["words","ways","band","order","strand","seen"] ["words","ways","band"] (ay jf):=⟨rfl,rfl,rfl,⋯,rfl,⋯,⋯⟩
theorem xw:aF ["yard","words","longest","ways"] ["yard","words"] (ay Bt):=⟨rfl,rfl,rfl,⋯,rfl,⋯,⋯⟩
theorem IM:aF ["yard","words"] ["yard","words"] (ay xq):=⟨rfl,rfl,rfl,⋯,rfl,⋯,⋯⟩
theorem nF:aF ["_law_script","_law_k","_law_cell","_law_seed"] ["_law_script","_law_k"] (ay Bu):=⟨rfl,rfl,rfl,⋯,rfl,⋯,⋯⟩
theorem s_:aF ["_law_box_here","_law_many","_law_digit","_law_one"] ["_law_box_here","_law_many"] (ay xr):=⟨rfl,rfl,rfl,⋯,rfl,⋯,⋯⟩
theorem o4:aF ["_law_letter","_law_small","_law_capital"] ["_law_letter"] (ay sQ):=⟨rfl,rfl,rfl,⋯,rfl,⋯,⋯⟩
theorem gq:aF ["_law_box_here","_law_few","_law_top","_law_left","_law_ends","_law_k","_law_letter","_law_found"] ["_law_box_here","_law_few","_law_top"] (ay xt):=⟨rfl,rfl,rfl,⋯,rfl,⋯,⋯⟩
theorem dv:aF ["_law_box_here","_law_yard_here","_law_top","_law_many","_law_form","_law_word","_law_letter"] ["_law_box_here","_law_yard_here","_law_top"] (ay sR):=⟨rfl,rfl,rfl,⋯,rfl,⋯,⋯⟩
theorem ko:aF ["_law_box_here","_law_yard_here","_law_word","_law_top","_law_form","_law_at","_law_letter","_law_some"] ["_law_box_here","_law_yard_here","_law_word","_law_top"] (ay xu):=⟨rfl,rfl,rfl,⋯,rfl,⋯,⋯⟩
theorem o5:aF ["_law_box_here","_law_things","_law_left","_law_found"] ["_law_box_here","_law_things"] (ay sS):=⟨rfl,rfl,rfl,⋯,rfl,⋯,⋯⟩
theorem Fc:aF ["_law_yard_here"] ["_law_yard_here"] (ay sU):=⟨rfl,rfl,rfl,⋯,rfl,⋯,⋯⟩
theorem eX:aF ["_law_box_here","_law_yard_here","_law_words_here","_law_orders","_law_band","_law_some","_law_c","_law_word"] ["_law_box_here","_law_yard_here","_law_words_here"] (ay l_):=⟨rfl,rfl,rfl,⋯,rfl,⋯,⋯⟩
theorem eT:aF ["_law_yard_here","_law_drawing_here","_law_words_here","_law_orders","_law_names","_law_found","_law_end","_law_some"] ["_law_yard_here","_law_drawing_here"] (ay oZ):=⟨rfl,rfl,rfl,⋯,rfl,⋯,⋯⟩
theorem eM:aF ["_law_yard_here","_law_drawing_here","_law_at","_law_chords","_law_c","_law_word","_law_i","_law_letter","_law_back","_law_many","_law_k","_law_one"] ["_law_yard_here","_law_drawing_here"] (ay Bv):=⟨rfl,rfl,rfl,⋯,rfl,⋯,⋯⟩
theorem eY:aF ["_law_yard_here","_law_words_here","_law_found","_law_band","_law_some","_law_c","_law_word"] ["_law_yard_here","_law_words_here"] (ay md):=⟨rfl,rfl,rfl,⋯,rfl,⋯,⋯⟩
theorem kT:aF ["_law_box_here","_law_yard_here","_law_many","_law_top","_law_found","_law_k","_law_one"] ["_law_box_here","_law_yard_here","_law_many","_law_top"] (ay sV):=⟨rfl,rfl,rfl,⋯,rfl,⋯,⋯⟩
theorem hU:aF ["_law_box_here","_law_yard_here","_law_word","_law_at","_law_turn","_law_letter"] ["_law_box_here","_law_yard_here","_law_word"] (ay xv):=⟨rfl,rfl,rfl,⋯,rfl,⋯,⋯⟩
theorem eJ:aF ["_law_box_here","_law_drawing_here","_law_orders","_law_at","_law_some","_law_k"] ["_law_box_here","_law_drawing_here"] (ay jg):=⟨rfl,rfl,rfl,⋯,rfl,⋯,⋯⟩
theorem ku:aF ["_law_script","_law_k","_law_box_here","_law_yard_here","_law_words_here","_law_fewest","_law_some"] ["_law_script"] (ay IF):=⟨rfl,rfl,rfl,⋯,rfl,⋯,⋯⟩
theorem tf:aF ["self","yard","word","longest","steps","rounds"] ["self","yard","word","longest"] (ay kP):=⟨rfl,rfl,rfl,⋯,rfl,⋯,⋯⟩
theorem Fd:aF ["self","strand","way","place"] ["self","strand","way","place"] (ay iU):=⟨rfl,rfl,rfl,⋯,rfl,⋯,⋯⟩
section
variable{P:Program}{w:World}{K:Fr}{mg:Str->Option Value}{base:Heap}{f0 f1 f2 f3 f4 f5 f6 f7 f8 f9 Qw Qx Qy Qz QA QB QC QD IG IH QE QF QG QH QI QJ QK QL QM QN QO QP QQ QR QS QT QU QV QW QX QY QZ Q0 Q3 aO bg lE iH:Addr}{d0 d1 d2 d3 d4 d5 d6 d7 d8 d9 Q5 Q6 Q7 MT Q8 Q9 Q_ Ra Rb Rc Rf Rg Rh LA Ri Rj Rk Rl Rm Rn Ro Rp Rq Rr Rt Ru Rv Rw Rx Ry Rz RA RB RC zD sX:FuncData}
variable(T:Txt K mg f0 f1 f2 f3 f4 f5 f6 f7 f8 f9 Qw Qx Qy Qz QA QB QC QD IG IH QE QF QG QH QI QJ QK QL QM QN QO QP QQ QR QS QT QU QV QW QX QY QZ Q0 Q3 aO bg lE iH d0 d1 d2 d3 d4 d5 d6 d7 d8 d9 Q5 Q6 Q7 MT Q8 Q9 Q_ Ra Rb Rc Rf Rg Rh LA Ri Rj Rk Rl Rm Rn Ro Rp Rq Rr Rt Ru Rv Rw Rx Ry Rz RA RB RC zD sX)
include T
theorem o6:bV P w K mg base gu 1 QT Ru ["_law_yard_here"] (ve K):=by
 refine T.JH.fn.ok Fc (λvs H Q E h=>AL h) (λ_ _ _ _ H vs Q E hr h=>?_)
 refine ⟨_,(ah (aH (aA (mJ K rfl) rfl T.z_sorted boot_sorted (aa (bT ["_law_letter"] [none] (oe (pv 0)) trivial (λ_ _ _ _=>(aB (i:=0) (by decide+kernel:List.Nodup (["_law_letter"]:List Str)) rfl (Or.inl rfl))) (λ_ _ _ _=>(qP (aK FW (pv 0) (nZ [97,98,99,100,101,102,103,104,105,106,107,108,109,110,111,112,113,114,115,116,117,118,119,120,121,122] ⋯) (by with_unfolding_all rfl)))) (λ_ _ _ _=>(pv 0))) ab)))),?_⟩
 obtain ⟨y,rfl,hz,q⟩:=h
 have hs:(1000:Nat)<sizeLine:=by decide
 refine ⟨_,rfl,y,rfl,?_⟩
 refine jN (xs:=cT y) (λi acc H'=>aj H H'/\acc=cT ((y.take i).filter λc=>decide (c∈aW))) (by rw[aY];lia) ⟨aj.refl H,rfl⟩ ?_ ?_
 ·rintro i x acc H1 Nx hi hx nG ⟨s1,rfl⟩ nx
  obtain ⟨c,hc,rfl⟩:=fT hx
  have e:=pE (p:=λc=>decide (c∈aW)) hc
  refine ⟨trivial,?_⟩
  refine ⟨_,rfl,c,aW,rfl,rfl,_,rfl,?_⟩
  walk_at"e"
  ·rw[if_pos z]at e
   exact ⟨_,rfl,nx _ _ (by simpa using nG) ⟨s1,by rw[e, <-fo]⟩⟩
  ·rw[if_neg z,Qa4]at e
   exact nx _ _ (Qdq nG) ⟨s1,by rw[e]⟩
 ·rintro acc H1 D nG ⟨s1,rfl⟩ hD
  rw[rA,fM]
  have hfl:((y.filter λc=>decide (c∈aW)):)<=(y:):=Qeb _ _
  refine ⟨D,(y.filter λc=>decide (c∈aW)).map λc=>[c],rfl,bf.of ae,by rw[Qi];lia,λp ls hp jC Pm=>?_⟩
  obtain ⟨l',rfl,pl⟩:=BY jC
  refine q p l' _ (aj.free (aj.trans s1 (aj.upd hD)) hp) (by rw[ae, <-fM]) pl (BZ Pm) ((s1.trans (aj.upd hD)).trans (aj.upd hp))
theorem kx:bV P w K mg base gu 1 IG Rb ["seen","start","end"] (gZ K bg aO):=by
 refine T.zP.fn.ok km (λvs H Q E h=>qc h) (λ_ _ _ _ H vs Q E hr h=>?_)
 refine ⟨_,(ag (ar (i:=3) km.nd rfl (Or.inl rfl) (aC bp (b_ K rfl (pv 0) rfl) ai))
   (ah (aH (bZ kX (b_ K rfl (b_ K rfl (pv 0) rfl) rfl) (bS (aC bp (pv 3) (pv 1))) (bS (aC bp (pv 3) (pv 2))))))),?_⟩
 obtain ⟨y,lg,s,x,z,rfl,hz,hs,Xv,q⟩:=h
 obtain ⟨d1,e1⟩:=hs.ob
 obtain ⟨d2,e2⟩:=hs.wy.ob
 have:=hs.wy.uz
 have:=hs.wy.lz
 have h1:1<=(s.u:):=Qbn (Qao _) hs.pz
 have rl:=nk (lg:=lg) h1
 have MA:(100000:Nat)<sizeLine:=by decide
 refine ⟨_,rfl,s.a,aO,d1,_,_,rfl,e1,T.eR,T.n_Seen_place,nj,?_⟩
 walk_at "rd"
 refine ⟨s.a,aO,d1,_,_,rfl,e1,T.eR,T.n_Seen_way,oQ,s.wy,bg,d2,_,_,rfl,e2,T.ik,T.n_Way_onward,T3,?_⟩
 walk_at "rd"
 refine ⟨by rw[vC,dU];lia,?_⟩
 rw[show (s.p:Int)+1=((s.p+1:Nat):Int) by lia,CZ Xv]
 exact q
theorem lH:bV P w K mg base gu 1 IH Rc ["seen","start","end"] (iB K bg aO):=by
 refine T.zQ.fn.ok lG (λvs H Q E h=>rZ h) (λ_ _ _ _ H vs Q E hr h=>?_)
 refine ⟨_,(ag (ar (i:=3) lG.nd rfl (Or.inl rfl) (aC d_ (aC d_ (b_ K rfl (b_ K rfl (pv 0) rfl) rfl) ai) (b_ K rfl (pv 0) rfl)))
   (ah (aH (bZ kX (b_ K rfl (b_ K rfl (pv 0) rfl) rfl) (bS (aC bp (pv 3) (pv 1))) (bS (aC bp (pv 3) (pv 2))))))),?_⟩
 obtain ⟨y,lg,s,x,z,rfl,hz,hs,Xv,q⟩:=h
 obtain ⟨d1,e1⟩:=hs.ob
 obtain ⟨d2,e2⟩:=hs.wy.ob
 have:=hs.wy.uz
 have:=hs.wy.lz
 have hp:=hs.pz
 have h1:1<=(s.u:):=Qbn (Qao _) hs.pz
 have rl:=nk (lg:=lg) h1
 have MA:(100000:Nat)<sizeLine:=by decide
 refine ⟨_,rfl,s.a,aO,d1,_,_,rfl,e1,T.eR,T.n_Seen_way,oQ,s.wy,bg,d2,_,_,rfl,e2,T.ik,T.n_Way_size,CY,?_⟩
 walk_at "rd"
 refine ⟨s.a,aO,d1,_,_,rfl,e1,T.eR,T.n_Seen_place,nj,?_⟩
 walk_at "rd"
 refine ⟨s.a,aO,d1,_,_,rfl,e1,T.eR,T.n_Seen_way,oQ,s.wy,bg,d2,_,_,rfl,e2,T.ik,T.n_Way_backward,Lb,?_⟩
 walk_at "rd"
 refine ⟨by rw[vC,Qbb,dU];lia,?_⟩
 rw[show ((s.u:):Int) - 1 - s.p=(((s.u:) - 1 - s.p:Nat):Int) by lia,CZ Xv]
 exact q
theorem Bw:bV P w K mg base gu 2 QE Rf ["steps","one","other","enough"] (r9 K bg aO IG IH):=by
 have cL:=kx (P:=P) (w:=w) (base:=base) T
 have cZ:=lH (P:=P) (w:=w) (base:=base) T
 refine T.Ph.fn.ok eS (λvs H Q E h=>zh h) (λ_ _ _ _ H vs Q E hr h=>?_)
 refine ⟨_,(ag (ar (i:=4) eS.nd rfl (Or.inl rfl) ai)
   (ag (ar (i:=5) eS.nd rfl (Or.inl rfl) ai)
   (i4 (dS PassesOwn.never (PW.pt (lJ (aK jI (pv 4) (pv 3) (aX _)) (kB (aK jO (mR (pv 0) cL (hr.mono ∅) T.zP.fn.kp T.zP.bd cZ (hr.mono ∅) T.zQ.fn.kp T.zQ.bd aD (aa (pv 1) (aa (pv 4) (aa (aC bp (pv 4) (pv 5)) ab)))) (mR (pv 0) cL (hr.mono ∅) T.zP.fn.kp T.zP.bd cZ (hr.mono ∅) T.zQ.fn.kp T.zQ.bd aD (aa (pv 2) (aa (pv 4) (aa (aC bp (pv 4) (pv 5)) ab)))) (aX _))))) (ag (lK (i:=4) eS.nd rfl (Or.inl rfl) (pv 5) vQ)
   (ah (lK (i:=5) eS.nd rfl (Or.inl rfl) ai Oq))))
   (i4 (dS PassesOwn.never (aK o9 (pv 5) ai (aX _)) (ag (lK (i:=5) eS.nd rfl (Or.inl rfl) ai Kt)
   (ah (cK (aK jO (mR (pv 0) cL (hr.mono ∅) T.zP.fn.kp T.zP.bd cZ (hr.mono ∅) T.zQ.fn.kp T.zQ.bd aD (aa (pv 1) (aa (pv 4) (aa (aC bp (pv 4) (pv 5)) ab)))) (mR (pv 0) cL (hr.mono ∅) T.zP.fn.kp T.zP.bd cZ (hr.mono ∅) T.zQ.fn.kp T.zQ.bd aD (aa (pv 2) (aa (pv 4) (aa (aC bp (pv 4) (pv 5)) ab)))) (aX _)) (ah (lK (i:=4) eS.nd rfl (Or.inl rfl) (pv 5) vQ)) b9))))
   (ah (aH (pv 4))))))),?_⟩
 obtain ⟨y,lg,s1,t1,b,en,rfl,hz,hs,ht,VI,q⟩:=h
 have call:∀(u:Sn) (x d:Nat) (t:TA) (σ:L2.St) (Q':VK),σ[0]? =some (some (V.ref (if b=true then IG else IH)))->j_ H bg aO y lg u->(∀R:List V->Hp->Prop,R [V.ref u.a,V.int x,V.int ((x:Int)+d)] H->t σ H R)->Q' (V.str (S (seg (OZ b y lg u) x (x+d)))) H->GB IG IH (gZ K bg aO) (iB K bg aO) E0 (Nj 0) t σ H Q':=by
  intro u x d t σ Q' h0 hu Zm hq
  refine ⟨_,h0,?_⟩
  cases b
  ·exact .inr ⟨rfl,Zm _ ⟨y,lg,u,x,x+d,by rw[Qbk],hz,hu,(),hq⟩⟩
  ·exact .inl ⟨rfl,Zm _ ⟨y,lg,u,x,x+d,by rw[Qbk],hz,hu,(),hq⟩⟩
 generalize (if b=true then IG else IH)=fx at call ⊢
 generalize el:OZ b y lg s1=l at q
 generalize em:OZ b y lg t1=m at q
 walk_at "rd"
 refine ⟨λσ H'=>∃(mn sz e:Nat),σ=[some (.ref fx),some (.ref s1.a),some (.ref t1.a),some (.int en),some (.int mn),some (.int sz)]/\H'=H/\sz=2 ^ e/\sz<=1000000/\mn<=1000000/\ka l m mn/\(en<=mn\/∃k,mn<=k/\k<mn+sz/\l[k]?≠ m[k]?),?_,?_⟩
 ·refine ⟨λw σ H'=>∃(mn sz e:Nat),σ=[some (.ref fx),some (.ref s1.a),some (.ref t1.a),some (.int en),some (.int mn),some (.int sz)]/\H'=H/\w=en - mn/\sz=2 ^ e/\mn+1=sz/\mn<=2*en/\ka l m mn,⟨_,0,1,0,rfl,rfl,rfl,rfl,rfl,Qao _,λk hk=>absurd hk (Qc6 _)⟩,?_⟩
  rintro w' σ H2 ⟨mn,sz,e,rfl,rfl,rfl,he,hms,Vf,ha⟩
  walk_at "rd"
  walk_at"e"
  ·have z1:(mn:Int)<en:=of_decide_eq_true z
   refine call s1 mn sz _ _ _ rfl hs (λR hR=>⟨_,rfl,_,rfl,_,rfl,_,rfl,_,_,rfl,rfl,hR⟩) ?_
   refine call t1 mn sz _ _ _ rfl ht (λR hR=>⟨_,rfl,_,rfl,_,rfl,_,rfl,_,_,rfl,rfl,hR⟩) ?_
   rw[el,em]
   walk_at "rd"
   refine cf (λy1=>?_) (λy1=>?_)
   ·have y2:seg l mn (mn+sz)=seg m mn (mn+sz):=by simpa using of_decide_eq_true y1
    refine ⟨_,rfl,_,rfl,_,_,rfl,rfl,_,rfl,_,_,rfl,rfl,.inl ⟨(),()⟩,?_⟩
    refine ⟨en - (mn+sz),(),mn+sz,sz*2,e+1,by rw[Qbk,Qel];rfl,rfl,rfl,by rw[he,Nat.pow_succ],(),(),ha.more y2⟩
   ·have y2:seg l mn (mn+sz)≠seg m mn (mn+sz):=λw=>y1 (decide_eq_true (by rw[w]))
    exact ⟨mn,sz,e,rfl,rfl,he,(),(),ha,.inr (HP y2)⟩
  ·have z1: ¬(mn:Int)<en:=λw=>z (decide_eq_true w)
   exact ⟨mn,sz,e,rfl,rfl,he,(),(),ha,.inl ()⟩
 ·rintro σ H2 ⟨mn,sz,e,rfl,rfl,he,hsz,Vf,ha,hb⟩
  refine ⟨λσ H'=>∃mn:Nat,σ=[some (.ref fx),some (.ref s1.a),some (.ref t1.a),some (.int en),some (.int mn),some (.int 1)]/\H'=H2/\ka l m mn/\(en<=mn\/l[mn]?≠ m[mn]?),?_,?_⟩
  ·refine ⟨λw σ H'=>∃(mn sz e:Nat),σ=[some (.ref fx),some (.ref s1.a),some (.ref t1.a),some (.int en),some (.int mn),some (.int sz)]/\H'=H2/\sz=w/\sz=2 ^ e/\sz<=1000000/\mn<=3000000 - 2*sz/\ka l m mn/\(en<=mn\/∃k,mn<=k/\k<mn+sz/\l[k]?≠ m[k]?),⟨_,mn,sz,e,rfl,rfl,rfl,he,hsz,(),ha,hb⟩,?_⟩
   rintro w' σ H3 ⟨mn,sz,e,rfl,rfl,rfl,he,hsz,Vf,ha,hb⟩
   walk_at "rd"
   walk_at"e"
   ·have z1:(1:Int)<sz:=of_decide_eq_true z
    obtain ⟨e',rfl⟩:∃e',e=e'+1:=⟨e - 1,by
     cases e with
     | zero=>rw[he]at z1;simp at z1
     | succ e=>rfl⟩
    have hh:sz=2*2 ^ e':=by rw[he,Nat.pow_succ,Qc9]
    have hp:0<2 ^ e':=Nat.pow_pos ∅
    generalize Ua:2 ^ e'=h2 at hh hp
    have Xw:=Ua.symm
    have ed:(sz:Int) / 2=(h2:Nat):=by lia
    refine ⟨_,rfl,_,_,rfl,rfl,⟨∅,∅⟩,?_⟩
    refine call s1 mn h2 _ _ _ rfl hs (λR hR=>⟨_,rfl,_,rfl,_,rfl,_,rfl,_,_,rfl,rfl,by rw[ed];exact hR⟩) ?_
    refine call t1 mn h2 _ _ _ rfl ht (λR hR=>⟨_,rfl,_,rfl,_,rfl,_,rfl,_,_,rfl,rfl,by rw[ed];exact hR⟩) ?_
    rw[el,em]
    walk_at "rd"
    have Pm:∃e2,h2=2 ^ e2:=⟨e',Xw⟩
    obtain ⟨e2,Zn⟩:=Pm
    refine cf (λy1=>?_) (λy1=>?_)
    ·have y2:seg l mn (mn+h2)=seg m mn (mn+h2):=by simpa using of_decide_eq_true y1
     refine ⟨_,rfl,_,rfl,_,_,rfl,rfl,?_⟩
     refine ⟨h2,(),mn+h2,h2,e2,by rw[Qbk, <-ed];rfl,rfl,rfl,Zn,(),(),ha.more y2,?_⟩
     rcases hb with hb | ⟨k,k1,k2,k3⟩
     ·exact .inl ()
     ·refine .inr ⟨k,Classical.byContradiction λw=>k3 (Bd.mp y2 k k1 ()),(),k3⟩
    ·have y2:seg l mn (mn+h2)≠seg m mn (mn+h2):=λw=>y1 (decide_eq_true (by rw[w]))
     exact ⟨h2,(),mn,h2,e2,by rw[<-ed];rfl,rfl,rfl,Zn,(),(),ha,.inr (HP y2)⟩
   ·have z1: ¬(1:Int)<sz:=λw=>z (decide_eq_true w)
    have hp:0<2 ^ e:=Nat.pow_pos ∅
    have e1:sz=1:=by lia
    subst e1
    exact ⟨mn,rfl,rfl,ha,hb.imp id λ⟨k,k1,k2,k3⟩=>by rwa [show k=mn by lia]at k3⟩
  ·rintro σ H3 ⟨mn,rfl,rfl,ha,hb⟩
   exact ⟨_,rfl,q mn ha hb⟩
theorem Bx:bV P w K mg base gu 1 QF Rg ["seen"] (r_ K bg aO):=by
 refine T.Pj.fn.ok me (λvs H Q E h=>zi h) (λ_ _ _ _ H vs Q E hr h=>?_)
 refine ⟨_,(ag (ar (i:=1) me.nd rfl (Or.inl rfl) (b_ K rfl (pv 0) rfl))
   (ag (ar (i:=2) me.nd rfl (Or.inl rfl) (aN (bC K rfl) (b_ K rfl (pv 0) rfl) ai (λ_ _=>rfl)))
   (ag (cK (lI (b_ K rfl (pv 1) rfl)) (ah (aH (bW (aa (pv 2) (aa (aC f_ (b_ K rfl (pv 0) rfl) (b_ K rfl (pv 1) rfl)) ab))))) b9)
   (ah (aH (bW (aa (mq iZ (pv 2)) (aa (mq iZ (aC f_ (aC d_ (aC d_ (b_ K rfl (pv 1) rfl) ai) (b_ K rfl (pv 0) rfl)) (b_ K rfl (pv 1) rfl))) ab)))))))),?_⟩
 obtain ⟨y,lg,s1,rfl,hs,q⟩:=h
 obtain ⟨d1,e1⟩:=hs.ob
 obtain ⟨d2,e2⟩:=hs.wy.ob
 have hp:=hs.pz
 have rp:=ke hs.wy.sw.ne hs.wy.rt
 have u1:=hs.wy.uz
 have u2:=hs.wy.lz
 refine ⟨_,rfl,s1.a,aO,d1,_,_,rfl,e1,T.eR,T.n_Seen_way,oQ,?_⟩
 refine ⟨_,rfl,s1.a,aO,d1,_,_,rfl,e1,T.eR,T.n_Seen_strand,vA,s1.t,_,0,_,rfl,rfl,cu.of hs.st,rfl,?_⟩
 refine ⟨_,rfl,s1.wy,bg,d2,_,_,rfl,e2,T.ik,T.n_Way_leads,HN,?_⟩
 walk_at "rd"
 have ed1:(s1.p:Int) / (s1.r:Int)=((s1.p / s1.r:Nat):Int):=(Qe4 _ _).symm
 have ed2:(((s1.u:):Int) - 1 - s1.p) / (s1.r:Int)=((((s1.u:) - 1 - s1.p) / s1.r:Nat):Int):=by
  rw[Qe4];congr 1;lia
 walk_at"e"
 ·refine ⟨_,rfl,_,rfl,s1.a,aO,d1,_,_,rfl,e1,T.eR,T.n_Seen_place,nj,_,rfl,s1.wy,bg,d2,_,_,rfl,e2,T.ik,T.n_Way_root_size,qA,_,_,rfl,rfl,⟨(),()⟩,by show 2<=sizeLine;decide,λp np=>?_⟩
  refine q p _ np ?_ (aj.upd np)
  rw[ae]
  unfold Be
  rw[if_pos z, <-ed1]
 ·refine ⟨_,rfl,_,rfl,_,rfl,s1.wy,bg,d2,_,_,rfl,e2,T.ik,T.n_Way_size,CY,_,_,rfl,rfl,_,rfl,s1.a,aO,d1,_,_,rfl,e1,T.eR,T.n_Seen_place,nj,_,_,rfl,rfl,_,rfl,s1.wy,bg,d2,_,_,rfl,e2,T.ik,T.n_Way_root_size,qA,_,_,rfl,rfl,⟨(),()⟩,_,rfl,by show 2<=sizeLine;decide,λp np=>?_⟩
  refine q p _ np ?_ (aj.upd np)
  rw[ae]
  unfold Be
  rw[if_neg z, <-ed2]
theorem tu:bV P w K mg base gu 3 QG Rh ["one","other"] (kc K bg aO):=by
 have vJ:=Bw (P:=P) (w:=w) (base:=base) T
 have vK:=Bx (P:=P) (w:=w) (base:=base) T
 have cL:=kx (P:=P) (w:=w) (base:=base) T
 have cZ:=lH (P:=P) (w:=w) (base:=base) T
 refine T.Vs.fn.ok fB (λvs H Q E h=>qd h) (λ_ _ _ _ H vs Q E hr h=>?_)
 refine ⟨_,(ag (ar (i:=2) fB.nd rfl (Or.inl rfl) (aC bp (b_ K rfl (b_ K rfl (pv 0) rfl) rfl) (b_ K rfl (b_ K rfl (pv 1) rfl) rfl)))
   (ag (ar (i:=3) fB.nd rfl (Or.inl rfl) (ao vJ (hr.mono ∅) rfl T.Ph.mg T.Ph.fn.kp T.Ph.bd .nil aD (aa (BJ (v:= .ref IG) rfl T.zP.mg rfl) (aa (pv 0) (aa (pv 1) (aa (pv 2) ab))))))
   (ag (ar (i:=4) fB.nd rfl (Or.inl rfl) (ao vJ (hr.mono ∅) rfl T.Ph.mg T.Ph.fn.kp T.Ph.bd .nil aD (aa (BJ (v:= .ref IH) rfl T.zQ.mg rfl) (aa (pv 0) (aa (pv 1) (aa (pv 2) ab))))))
   (ag (cK (aK BN (aA (uG rfl) rfl T.z_min boot_min (aa (pv 3) (aa (pv 4) ab))) (pv 2) (aX _)) (ah (aH (kC (Oh K rfl hr) (ao vK (hr.mono ∅) rfl T.Pj.mg T.Pj.fn.kp T.Pj.bd .nil aD (aa (pv 0) ab)) (ao vK (hr.mono ∅) rfl T.Pj.mg T.Pj.fn.kp T.Pj.bd .nil aD (aa (pv 1) ab)) (aX _)))) b9)
   (ag (cK (aK Md (pv 3) (pv 4) (aX _)) (ah (aH (kC v_ (ao cL (hr.mono ∅) rfl T.zP.mg T.zP.fn.kp T.zP.bd .nil aD (aa (pv 0) (aa (pv 3) (aa (aC bp (pv 3) ai) ab)))) (ao cL (hr.mono ∅) rfl T.zP.mg T.zP.fn.kp T.zP.bd .nil aD (aa (pv 1) (aa (pv 3) (aa (aC bp (pv 3) ai) ab)))) (aX _)))) b9)
   (ah (aH (kC v_ (ao cZ (hr.mono ∅) rfl T.zQ.mg T.zQ.fn.kp T.zQ.bd .nil aD (aa (pv 0) (aa (pv 4) (aa (aC bp (pv 4) ai) ab)))) (ao cZ (hr.mono ∅) rfl T.zQ.mg T.zQ.fn.kp T.zQ.bd .nil aD (aa (pv 1) (aa (pv 4) (aa (aC bp (pv 4) ai) ab)))) (aX _))))))))),?_⟩
 obtain ⟨y,lg,s1,t1,rfl,hy,hz,hs,ht,h0,q⟩:=h
 obtain ⟨d1,e1⟩:=hs.ob
 obtain ⟨d2,e2⟩:=hs.wy.ob
 obtain ⟨d3,e3⟩:=ht.ob
 obtain ⟨d4,e4⟩:=ht.wy.ob
 have rp:=ke hs.wy.sw.ne hs.wy.rt
 have rp':=ke ht.wy.sw.ne ht.wy.rt
 have u1:=hs.wy.uz
 have u1':=ht.wy.uz
 have u2:=hs.wy.lz
 have ns:=hs.wy.sw.ne
 have nt:=ht.wy.sw.ne
 have lf:=a_ hs.wy.sw (s1.p:Int)
 have VJ:=a_ ht.wy.sw (t1.p:Int)
 have as:=vD (lg:=lg) (s:=s1) (en:=s1.r+t1.r) hs.pz ()
 have at':=vD (lg:=lg) (s:=t1) (en:=s1.r+t1.r) ht.pz ()
 refine ⟨_,rfl,s1.a,aO,d1,_,_,rfl,e1,T.eR,T.n_Seen_way,oQ,s1.wy,bg,d2,_,_,rfl,e2,T.ik,T.n_Way_root_size,qA,_,rfl,t1.a,aO,d3,_,_,rfl,e3,T.eR,T.n_Seen_way,oQ,t1.wy,bg,d4,_,_,rfl,e4,T.ik,T.n_Way_root_size,qA,_,_,rfl,rfl,?_⟩
 refine ⟨_,rfl,_,rfl,_,rfl,y,lg,s1,t1,true,s1.r+t1.r,by rw[Qbk];rfl,hz,hs,ht,(),λm Kj wd=>?_⟩
 refine ⟨_,rfl,_,rfl,_,rfl,y,lg,s1,t1,false,s1.r+t1.r,by rw[Qbk];rfl,hz,hs,ht,(),λn hn1 vT=>?_⟩
 have Xx:ka (Fx y lg s1) (Fx y lg t1) m:=Kj
 have Ub:s1.r+t1.r<=m\/(Fx y lg s1)[m]?≠ (Fx y lg t1)[m]?:= wd
 have Xy:ka (Fy y lg s1) (Fy y lg t1) n:=hn1
 have Uc:s1.r+t1.r<=n\/(Fy y lg s1)[n]?≠ (Fy y lg t1)[n]?:= vT
 have ga:∀k,k<s1.r+t1.r->(Fx y lg s1)[k]? =some (zO (fD y (sq s1.u s1.p) (k+1)))/\(Fx y lg t1)[k]? =some (zO (fD y (sq t1.u t1.p) (k+1))):=λk hk=>⟨HQ ns (),HQ nt ()⟩
 have gb:∀k,k<s1.r+t1.r->(Fy y lg s1)[k]? =some (zO (fD y (sq s1.u s1.p) (-(k:Int))))/\(Fy y lg t1)[k]? =some (zO (fD y (sq t1.u t1.p) (-(k:Int)))):=λk hk=>⟨HR ns hs.pz (),HR nt ht.pz ()⟩
 refine ⟨_,rfl,_,rfl,_,_,rfl,?_⟩
 walk_at "rd"
 by_cases par:∀k,sq s1.u s1.p k=sq t1.u t1.p k
 ·have ef:sq s1.u s1.p=sq t1.u t1.p:=funext par
  have m1:s1.r+t1.r<=m:=C6 (λk hk=>by rw[(ga k hk).1,(ga k hk).2,ef]) Ub
  have n1:s1.r+t1.r<=n:=C6 (λk hk=>by rw[(gb k hk).1,(gb k hk).2,ef]) Uc
  refine cf (λz=>?_) (λz=>absurd (decide_eq_true (show ((s1.r:Int)+t1.r)<=(if (n:Int)<m then (n:Int) else m) by split<;>lia)) z)
  refine ⟨_,rfl,y,lg,s1,rfl,hs,λp1 H1 np1 gp Ud=>⟨_,rfl,y,lg,t1,rfl,ht.same Ud,λp2 H2 IQ mN bH=>?_⟩⟩
  refine ⟨p1,p2,_,_,_,_,rfl,rfl,cu.of (bH _ _ gp),cu.of mN,?_⟩
  have e:tY (Be s1).1 (Be s1).2 (Be t1).1 (Be t1).2=cg (k_ y (2*lg) s1) (k_ y (2*lg) t1):=by
   unfold k_
   rw[ef,gm,Ld]
  have kq:=q H2 (Ud.trans bH)
  rw[<-e]at kq
  exact kq
 ·have dk:∃k,sq s1.u s1.p k≠sq t1.u t1.p k:=Classical.byContradiction λz=>par λk=>Classical.byContradiction λw=>z ⟨k,w⟩
  have z0:sq s1.u s1.p 0=sq t1.u t1.p 0:=by unfold sq;rw[Qes,Qes];exact h0
  obtain ⟨a,b,rn,ha,hb⟩:=dj (p:=s1.r) (q:=t1.r) () () (C1 ns hs.wy.rt s1.p) (C1 nt ht.wy.rt t1.p) z0 dk
  have pf:=C3 hy lf
  have pg:=C3 hy VJ
  have key:=oI hy lf VJ rn [(Be s1).1,(Be s1).2] [(Be t1).1,(Be t1).2] (2*lg) 0 (Qao _) (Qao _) () ()
  have sa:fD y (sq s1.u s1.p) (a+1)≠fD y (sq t1.u t1.p) (a+1):=λw=>rn.hi (by
   unfold fD at w
   rw[show (a:Int)+1 - 1=a by lia, <-rn.mh a () ()]at w
   exact m3 (hy.cl _ (lf.bO _)) (lf.bO _) (VJ.bO _) w)
  have sb:fD y (sq s1.u s1.p) (-(b:Int))≠fD y (sq t1.u t1.p) (-(b:Int)):=λw=>by
   have c:=AW hy lf VJ (rn.mh (-(b:Int)) () ()) rn.lo
   unfold gM at c
   rw[w]at c
   simp at c
  have em:m=a:=C5 ha (λk hk=>by
   rw[(ga k ()).1,(ga k ()).2]
   unfold fD
   rw[show (k:Int)+1 - 1=k by lia,rn.mh k () (),rn.mh (k+1) () ()]) (λw=>sa (C2 (pf _) (pg _) (by rw[(ga a ha).1,(ga a ha).2]at w;exact Qaj w))) Xx Ub
  have en:n=b:=C5 hb (λk hk=>by
   rw[(gb k ()).1,(gb k ()).2]
   unfold fD
   rw[rn.mh (-(k:Int)) () (),rn.mh (-(k:Int) - 1) () ()]) (λw=>sb (C2 (pf _) (pg _) (by rw[(gb b hb).1,(gb b hb).2]at w;exact Qaj w))) Xy Uc
  subst em
  subst en
  refine cf (λz=>absurd (show ((s1.r:Int)+t1.r)<=(if (n:Int)<m then (n:Int) else m) from of_decide_eq_true z) (by split<;>lia)) (λz=>?_)
  walk_at "rd"
  have Am:(m:Int)+1=((m+1:Nat):Int):=by lia
  have HB:(n:Int)+1=((n+1:Nat):Int):=by lia
  refine cf (λz2=>?_) (λz2=>?_)
  ·have z3:m<=n:=by have:=of_decide_eq_true z2;lia
   refine ⟨_,rfl,_,rfl,_,rfl,_,_,rfl,rfl,y,lg,s1,m,m+1,by rw[<-Am];rfl,hz,hs,(),?_⟩
   refine ⟨_,rfl,_,rfl,_,rfl,_,_,rfl,rfl,y,lg,t1,m,m+1,by rw[<-Am];rfl,hz,ht,(),?_⟩
   refine ⟨_,_,rfl,rfl,?_⟩
   rw[if_pos z3]at key
   have e:decide (seg (Fx y lg s1) m (m+1)<seg (Fx y lg t1) m (m+1))=cg (k_ y (2*lg) s1) (k_ y (2*lg) t1):=by
    rw[qB (ga m ha).1,qB (ga m ha).2,HU]
    exact (decide_eq_decide.mpr (HS (pf _) (pg _))).trans key.symm
   have kq:=q H (aj.refl H)
   rw[<-e]at kq
   exact kq
  ·have z3: ¬m<=n:=λw=>z2 (decide_eq_true ())
   refine ⟨_,rfl,_,rfl,_,rfl,_,_,rfl,rfl,y,lg,s1,n,n+1,by rw[<-HB];rfl,hz,hs,(),?_⟩
   refine ⟨_,rfl,_,rfl,_,rfl,_,_,rfl,rfl,y,lg,t1,n,n+1,by rw[<-HB];rfl,hz,ht,(),?_⟩
   refine ⟨_,_,rfl,rfl,?_⟩
   rw[if_neg z3]at key
   have e:decide (seg (Fy y lg s1) n (n+1)<seg (Fy y lg t1) n (n+1))=cg (k_ y (2*lg) s1) (k_ y (2*lg) t1):=by
    rw[qB (gb n hb).1,qB (gb n hb).2,HU]
    exact (decide_eq_decide.mpr (HS (pf _) (pg _))).trans key.symm
   have kq:=q H (aj.refl H)
   rw[<-e]at kq
   exact kq
theorem qg:bV P w K mg base gu 4 QH LA ["order","seen"] (jo K bg aO):=by
 have uk:=tu (P:=P) (w:=w) (base:=base) T
 refine T.Vt.fn.ok cH (λvs H Q E h=>oS h) (λ_ _ _ _ H vs Q E hr h=>?_)
 refine ⟨_,(ag (ar (i:=2) cH.nd rfl (Or.inl rfl) ai)
   (ag (ar (i:=3) cH.nd rfl (Or.inl rfl) (aA (aQ K rfl) rfl T.z_len Qaq (aa (pv 0) ab)))
   (ag (dS PassesOwn.never (aK jI (pv 2) (pv 3) (aX _)) (ag (ar (i:=4) cH.nd rfl (Or.inl rfl) (aC f_ (aC bp (pv 2) (pv 3)) ai))
   (ah (cK (lI (ao uk (hr.mono ∅) rfl T.Vs.mg T.Vs.fn.kp T.Vs.bd .nil aD (aa (aN (bz K rfl) (pv 0) (pv 4) (λ_ _=>rfl)) (aa (pv 1) ab)))) (ah (ar (i:=2) cH.nd rfl (Or.inl rfl) (aC bp (pv 4) ai))) (ah (ar (i:=3) cH.nd rfl (Or.inl rfl) (pv 4)))))))
   (ah (aH (pv 2)))))),?_⟩
 obtain ⟨y,lg,a,ss,t1,rfl,hy,hz,ha,IS,ht,up,hn,q⟩:=h
 have hs:=Zs1
 have key:=Qc5.mp up
 refine ⟨_,rfl,a,_,rfl,.inl (bf.of ha),?_⟩
 walk_at "rd"
 refine ⟨λm σ H'=>∃(lo hi:Nat) (mv:Option V),σ=[some (.ref a),some (.ref t1.a),some (.int lo),some (.int hi),mv]/\m=hi - lo/\lo<=hi/\hi<=(ss:)/\(∀k s,ss[k]? =some s->k<lo->cg (k_ y (2*lg) s) (k_ y (2*lg) t1)=true)/\(∀k s,ss[k]? =some s->hi<=k->cg (k_ y (2*lg) s) (k_ y (2*lg) t1)=false)/\aj H H',⟨_,0,(ss:),none,by rw[ny];rfl,rfl,Qao _,YS _,λk s _ hk=>absurd hk (Qc6 _),(λk s e hk=>by rw[Qbv hk]at e;cases e),aj.refl H⟩,?_⟩
 rintro m σ H2 ⟨lo,hi,mv,rfl,rfl,h1,h2,h3,h4,s2⟩
 walk_at "rd"
 walk_at"e"
 ·have z1:(lo:Int)<hi:=of_decide_eq_true z
  have em:(((lo:Int)+hi) / 2)=(((lo+hi) / 2:Nat):Int):=by lia
  have hm:(lo+hi) / 2<(ss:):=by lia
  have hg:ss[(lo+hi) / 2]? =some ss[(lo+hi) / 2]:=NT hm
  obtain ⟨ok,e0⟩:=IS _ (Qa1 hm)
  walk_at "rd"
  refine ⟨a,_,((lo:Int)+hi) / 2,_,rfl,rfl,bf.of (s2 _ _ ha),by rw[em];exact bY (O0 hg),_,rfl,y,lg,ss[(lo+hi) / 2],t1,rfl,hy,hz,ok.same s2,ht.same s2,e0,λH3 s3=>?_⟩
  walk_at "rd"
  refine cf (λy1=>?_) (λy1=>?_)
  ·walk_at "rd"
   have e1:((lo:Int)+hi) / 2+1=(((lo+hi) / 2+1:Nat):Int):=by lia
   refine ⟨hi - ((lo+hi) / 2+1),(),(lo+hi) / 2+1,hi,_,by rw[<-e1];rfl,rfl,(),h2,λk s e hk=>?_,h4,s2.trans s3⟩
   by_cases q1:k=(lo+hi) / 2
   ·subst q1
    rw[hg]at e
    cases e
    exact y1
   ·obtain ⟨Mh,ek⟩:=NU.mp e
    have Ue:=key k ((lo+hi) / 2) Mh hm ()
    rw[ek]at Ue
    cases r:cg (k_ y (2*lg) s) (k_ y (2*lg) t1)
    ·have:=L2.wz _ _ _ r Ue
     rw[this]at y1
     cases y1
    ·rfl
  ·walk_at "rd"
   have y2:cg (k_ y (2*lg) ss[(lo+hi) / 2]) (k_ y (2*lg) t1)=false:=by simpa using y1
   refine ⟨(lo+hi) / 2 - lo,(),lo,(lo+hi) / 2,_,by rw[<-em];rfl,rfl,(),(),h3,λk s e hk=>?_,s2.trans s3⟩
   by_cases q1:k=(lo+hi) / 2
   ·subst q1
    rw[hg]at e
    cases e
    exact y2
   ·obtain ⟨Mh,ek⟩:=NU.mp e
    have Ue:=key ((lo+hi) / 2) k hm Mh ()
    rw[ek]at Ue
    exact L2.wz _ _ _ y2 Ue
 ·have z1: ¬(lo:Int)<hi:=λw=>z (decide_eq_true w)
  walk_at "rd"
  have e:hi=lo:=by lia
  subst e
  exact q hi H2 h2 h3 h4 s2
theorem Fe:bV P w K mg base gu 1 iH sX ["self","strand","way","place"] (vB K aO):=by
 refine T.Pl.ok Fd (λvs H Q E h=>Bc h) (λ_ _ _ _ H vs Q E hr h=>?_)
 refine ⟨_,(ag (jJ (pv 0) (pv 1) rfl)
   (ag (jJ (pv 0) (pv 2) rfl)
   (ah (jJ (pv 0) (pv 3) rfl)))),?_⟩
 obtain ⟨x,dx,t,w',p,rfl,hx,q⟩:=h
 refine ⟨_,rfl,_,rfl,x,aO,dx,_,rfl,hx,T.eR,T.n_Seen_strand,by show 0<1000;decide,?_⟩
 refine ⟨_,rfl,_,rfl,x,aO,dx,_,rfl,ae,T.eR,T.n_Seen_way,Qbn (dR _ _ _) (by show 0+1<1000;decide),?_⟩
 refine ⟨_,rfl,_,rfl,x,aO,dx,_,rfl,ae,T.eR,T.n_Seen_place,Qbn (dR _ _ _) (Qbn (Qc1 (dR _ _ _)) (by show 0+1+1<1000;decide)),?_⟩
 exact q _ ae λb o e z=>by rw[aq z,aq z,aq z];exact e
theorem uo:bV P w K mg base gu 1 Qx Q6 ["words","band"] (lB K):=by
 refine T.Vm.fn.ok dq (λvs H Q E h=>sd h) (λ_ _ _ _ H vs Q E hr h=>?_)
 refine ⟨_,(ag (ar (i:=2) dq.nd rfl (Or.inl rfl) (cP ab))
   (ag (cn PassesOwn.never rfl (mK K rfl rfl T.z_enumerate (aa (pv 0) ab)) (dF (n:=2) K rfl rfl (aZ (aB (i:=3) dq.nd rfl (Or.inl rfl)) (aZ (aB (i:=4) dq.nd rfl (Or.inl rfl)) dD))) (ah (cn PassesOwn.never rfl (mI rfl T.z_enumerate (aa (pv 4) ab)) (dF (n:=2) K rfl rfl (aZ (aB (i:=5) dq.nd rfl (Or.inl rfl)) (aZ (aB (i:=6) dq.nd rfl (Or.inl rfl)) dD))) (ah (cK (aK jO (fV K rfl Qa5 Qe8 Qe6 qS (pv 6)) (pv 1) (aX _)) (ah (cj (bE K rfl Qar Qbm Qbl cG (pv 2) (aa (bW (aa (pv 3) (aa (pv 5) ab))) ab)))) b9)))))
   (ah (aH (pv 2))))),?_⟩
 obtain ⟨wt,ws,band,rfl,qh,hf,hw,hb,q⟩:=h
 have hs:=Zs1
 walk_at "wk"
 intro p1 n1
 refine ⟨_,rfl,wt,rfl,⟨_,cu.of ((aj.upd n1) _ _ qh)⟩,?_⟩
 refine kF (K:=K) (a:=wt) (xs:=jy ws) (λj σ H'=>∃(ps:List Pr) (cv wv pv lv:Option V),σ=[some (.ref wt),some (.str (S [band])),some (.ref p1),cv,wv,pv,lv]/\H' p1=some (.lst (e_ ps))/\(∀p∈ps,jB H' p)/\ps.map Pr.pair=cB band ws j/\(ps:)<=12*j/\aj H H')
  ⟨[],none,none,none,none,rfl,ae,λ_ h=>absurd h Qal,rfl,Qao _,aj.upd n1⟩ (λj σ H' _ ⟨_,_,_,_,_,_,_,_,_,_,h⟩=>cu.of (h _ _ qh)) ?_ ?_
 ·rintro j x σ H1 T hx ⟨ps,cv,wv,pv,lv,rfl,hp,nH,gP,gQ,s1⟩ nT
  have hj:j<(ws:):=by
   have:=(NU.mp hx).1
   rwa [bN]at this
  rw[ir hj]at hx
  cases hx
  have xQ:ws[j]? =some ws[j]:=NT hj
  obtain ⟨Ad,pR⟩:=hw _ (Qa1 hj)
  generalize ws[j]=w at xQ Ad pR ⊢
  walk_at"j"
  have sT:=aj.upd (o:= .tup [.int j,.str (S w)]) nT
  refine ⟨_,rfl,w,rfl,?_⟩
  refine yv (l:=w) (λm σ H'=>∃(us:List Pr) (pv lv:Option V),σ=[some (.ref wt),some (.str (S [band])),some (.ref p1),some (.int j),some (.str (S w)),pv,lv]/\H' p1=some (.lst (e_ us))/\(∀p∈us,jB H' p)/\us.map Pr.pair=cB band ws j++h_ band j w m/\(us:)<=12*j+m/\aj H H')
   ⟨ps,pv,lv,rfl,sT _ _ hp,λp yS=>(nH p yS).same sT,by rw[gP];show _=_++[];rw[Qa4],(),s1.trans sT⟩ ?_ ?_
  ·rintro m l σ H2 T2 hm ⟨us,pv2,lv2,rfl,mN,ju,kz,qF,s2⟩ Ug
   have Zo:m<(w:):=(NU.mp hm).1
   have U5:=Ad l (Qai hm)
   have es:=lS (band:=band) (c:=j) hm
   have VL:=aj.upd (o:= .tup [.int m,.str (S [l])]) Ug
   refine ⟨T2,_,rfl,cu.of ae,rfl,_,_,rfl,_,_,rfl,rfl,?_⟩
   refine ⟨_,rfl,rfl,l,rfl,rfl,U5.lt,_,rfl,[PyProof.Rows.lo1 l],[band],rfl,rfl,_,rfl,?_⟩
   have ev:decide ([PyProof.Rows.lo1 l]=[band])=y8 band l:=by rw[<-Hs hb U5];simp
   rw[ev]
   have Pn:=VL _ _ mN
   walk_at"e"
   ·rw[if_pos z]at es
    refine ⟨_,rfl,.inl ⟨rfl,_,bf.of Pn⟩,_,rfl,_,rfl,by show 2<=sizeLine;decide,λt nt=>?_⟩
    have uq:=(aj.upd (o:= .tup [.int j,.int m]) nt) _ _ Pn
    have s3:=VL.trans (aj.upd (o:= .tup [.int j,.int m]) nt)
    refine ⟨p1,_,_,rfl,rfl,uq,by rw[cE];lia,?_⟩
    refine ⟨us++[⟨t,j,m⟩],_,_,rfl,by rw[ae];exact congrArg (λx=>some (HO.lst x)) (rS us ⟨t,j,m⟩),λp yS=>?_,by rw[Qad,kz,es,Qbd];rfl,by rw[U3];show (us:)+1<=_;lia,λa o ea=>by rw[aq (au ea n1)];exact s3 _ _ (s2 a o ea)⟩
    rcases Qaf.mp yS with g | g
    ·exact ((ju p g).same s3).ts (aR.jx uq)
    ·have e2:=Qab.mp g
     subst e2
     exact jB.ts (H:=upd (upd H2 T2 (.tup [.int m,.str (S [l])])) t (.tup [.int j,.int m])) ⟨ae,by show j<1000;lia,by show m<1000;lia⟩ (aR.jx uq)
   ·rw[if_neg z,Qa4]at es
    exact ⟨us,_,_,rfl,Pn,λp yS=>(ju p yS).same VL,by rw[kz,es],(),s2.trans VL⟩
  ·rintro σ H2 ⟨us,pv2,lv2,rfl,mN,ju,kz,qF,s2⟩
   exact ⟨us,_,_,_,_,rfl,mN,ju,by rw[kz,j8 xQ],(),s2⟩
 ·rintro σ H1 ⟨ps,cv,wv,pv,lv,rfl,hp,nH,gP,gQ,s1⟩
  rw[bN]at gP
  exact ⟨_,rfl,q p1 ps H1 n1 hp nH gP s1⟩
theorem tD:bV P w K mg base gu 3 QI Ri ["words","ways","strand"] (kf K bg aO):=by
 have zF:=Fe (P:=P) (w:=w) (base:=base) T
 refine T.Vu.fn.ok g_ (λvs H Q E h=>qe h) (λ_ _ _ _ H vs Q E hr h=>?_)
 refine ⟨_,(ag (ar (i:=3) g_.nd rfl (Or.inl rfl) (aN (bC K rfl) (pv 0) (aN (bC K rfl) (pv 2) ai (λ_ _=>rfl)) (λ_ _=>rfl)))
   (ag (ar (i:=4) g_.nd rfl (Or.inl rfl) (aN (bC K rfl) (pv 2) ai (λ_ _=>rfl)))
   (ag (cK (lI (fV K rfl Qa5 Qe0 Qez lM (aN iM (pv 3) (pv 4) (λ_ _=>rfl)))) (ah (aH (qp T.IJ zF (hr.mono ∅) rfl T.II T.IK .nil aD (aa (pv 2) (aa (aN (bC K rfl) (aN (bz K rfl) (pv 1) (aN (bC K rfl) (pv 2) ai (λ_ _=>rfl)) (λ_ _=>rfl)) ai (λ_ _=>rfl)) (aa (pv 4) ab)))))) b9)
   (ah (aH (qp T.IJ zF (hr.mono ∅) rfl T.II T.IK .nil aD (aa (pv 2) (aa (aN (bC K rfl) (aN (bz K rfl) (pv 1) (aN (bC K rfl) (pv 2) ai (λ_ _=>rfl)) (λ_ _=>rfl)) ai (λ_ _=>rfl)) (aa (aC d_ (aC d_ (aA aU rfl T.z_len Qaq (aa (pv 3) ab)) ai) (pv 4)) ab))))))))),?_⟩
 obtain ⟨y,lg,wt,vt,st,w',ws,nR,p,c,i,rfl,hy,qh,VM,mf,hw,hp,ok,hi,q⟩:=h
 have hs:=Zs1
 have pR:=ok.on.uz
 have Zp:=ok.on.lz
 have Mj:=ok.on.sw
 have h8:(rd w' i)<128:=(hy.lt _ (Mj.rd _)).lt
 have hc:(jy ws)[c]? =some (V.str (S w')):=by
  have hl:=(NU.mp hw).1
  rw[ir hl,(NU.mp hw).2]
 refine ⟨_,rfl,_,rfl,st,_,0,_,rfl,rfl,cu.of mf,rfl,wt,_,_,_,rfl,rfl,cu.of qh,bY hc,?_⟩
 refine ⟨_,rfl,st,_,1,_,rfl,rfl,cu.of mf,rfl,?_⟩
 refine ⟨_,rfl,_,rfl,w',_,_,rfl,rfl,(),by rw[mY () ()],?_⟩
 have made:∀(x dx:Addr) (H':Hp) (t w2:Addr) (pl:Nat),H x=none->H dx=none->dx≠x->aG x (L2.upd (L2.upd H dx (.own x)) x (.ins aO dx [])) H'->aj H H':=λx dx H' t w2 pl nx O2 ne sm a o e=>by
  refine sm a o ?_ (au e nx)
  rw[aq (au e nx),aq (au e O2)]
  exact e
 refine ⟨rfl,_,rfl,rfl,h8,?_⟩
 walk_at "rd"
 walk_at"e"
 ·refine ⟨_,rfl,_,rfl,_,rfl,st,_,0,_,rfl,rfl,cu.of mf,rfl,vt,_,_,_,rfl,rfl,bf.of VM,bY (HV hp),p.t,_,0,_,rfl,rfl,cu.of ok.tp,rfl,_,rfl,λx dx nx O2 ne=>⟨x,dx,st,p.a,i,rfl,ae,λH' hx sm=>⟨rfl,?_⟩⟩⟩
  have Po:=made x dx H' st p.a i nx O2 ne sm
  exact q ⟨x,st,p.a,c,i,w',i,p.r⟩ H' ⟨rfl,rfl,by rw[if_pos z],by rw[if_pos z]⟩ rfl ⟨⟨dx,hx⟩,Po _ _ mf,ok.on.same Po,hi⟩ nx Po
 ·have ei:((w':):Int) - 1 - i=(((w':) - 1 - i:Nat):Int):=by lia
  refine ⟨_,rfl,_,rfl,_,rfl,st,_,0,_,rfl,rfl,cu.of mf,rfl,vt,_,_,_,rfl,rfl,bf.of VM,bY (HV hp),p.t,_,1,_,rfl,rfl,cu.of ok.tp,rfl,_,rfl,w',rfl,(),_,_,rfl,rfl,_,rfl,_,_,rfl,rfl,λx dx nx O2 ne=>⟨x,dx,st,p.b,(w':) - 1 - i,by rw[<-ei];rfl,ae,λH' hx sm=>⟨rfl,?_⟩⟩⟩
  have Po:=made x dx H' st p.b 0 nx O2 ne sm
  exact q ⟨x,st,p.b,c,i,iI w',(w':) - 1 - i,p.q⟩ H' ⟨rfl,rfl,by rw[if_neg z],by rw[if_neg z]⟩ rfl ⟨⟨dx,hx⟩,Po _ _ mf,ok.bk.same Po,by show (w':) - 1 - i<(iI w':);rw[cO];lia⟩ nx Po
theorem ur:bV P w K mg base gu 5 QJ Rj ["words","ways","band"] (lC K bg aO):=by
 have xx:=uo (P:=P) (w:=w) (base:=base) T
 have uu:=tD (P:=P) (w:=w) (base:=base) T
 have tE:=qg (P:=P) (w:=w) (base:=base) T
 refine T.Vv.fn.ok fZ (λvs H Q E h=>sg h) (λ_ _ _ _ H vs Q E hr h=>?_)
 refine ⟨_,(ag (ar (i:=3) fZ.nd rfl (Or.inl rfl) (cP ab))
   (ag (cn PassesOwn.never rfl (eB K rfl (ao xx (hr.mono ∅) rfl T.Vm.mg T.Vm.fn.kp T.Vm.bd .nil aD (aa (pv 0) (aa (pv 2) ab)))) (aB (i:=4) fZ.nd rfl (Or.inl rfl)) (ag (ar (i:=5) fZ.nd rfl (Or.inl rfl) (ao uu (hr.mono ∅) rfl T.Vu.mg T.Vu.fn.kp T.Vu.bd .nil aD (aa (pv 0) (aa (pv 1) (aa (pv 4) ab)))))
   (ah (cj (bE K rfl Qar PySem.F.slot_list_insert PySem.F.type_list_insert Ei (pv 3) (aa (ao tE (hr.mono ∅) rfl T.Vt.mg T.Vt.fn.kp T.Vt.bd .nil aD (aa (pv 3) (aa (pv 5) ab))) (aa (pv 5) ab)))))))
   (ah (aH (bB (bA K rfl) rfl T.z_tuple boot_tuple (aa (bT ["seen"] [none] (eB K rfl (pv 3)) trivial (λ_ _ _ _=>(aB (i:=0) (by decide+kernel:List.Nodup (["seen"]:List Str)) rfl (Or.inl rfl))) (λ_ _ _ _=>eO) (λ_ _ _ _=>(b_ K rfl (pv 0) rfl))) ab)))))),?_⟩
 obtain ⟨y,lg,wt,vt,ws,nR,band,rfl,hy,hz,qh,Xz,xA,hb,VM,Ad,Pp,q⟩:=h
 have hs:=Zs1
 walk_at "rd"
 intro a na
 have s0:=aj.upd (o:= .lst []) na
 refine ⟨_,rfl,_,rfl,wt,ws,band,rfl,s0 _ _ qh,Xz,λw hw=>⟨λc hc=>hy.lt c ((xA w hw).1.bO c hc),(xA w hw).2⟩,hb,λb ps H1 nb xN nH gP s1=>?_⟩
 have Dt:=s0.trans s1
 have hba:b≠a:=λz=>by rw[z,ae]at nb;cases nb
 have aak:(ps:)<=48:=by
  have h1:(ps.map Pr.pair:)<=48:=by
   rw[gP]
   have:=ig band (λw hw=>(xA w hw).2) (ws:) (YS _)
   lia
  rwa [Qi]at h1
 have pin:∀p∈ps,∃w,ws[p.c]? =some w/\p.i<(w:)/\y8 band (rd w p.i)=true:=λp hp=>by
  have hm:p.pair∈cB band ws (ws:):=by rw[<-gP];exact Qam.mpr ⟨p,hp,rfl⟩
  exact Bg hm
 refine ⟨b,rfl,⟨_,bf.of xN⟩,?_⟩
 refine iK (K:=K) (a:=b) (xs:=e_ ps) (λk σ H'=>∃(ss:List Sn) (sv nv:Option V),σ=[some (.ref wt),some (.ref vt),some (.str (S [band])),some (.ref a),sv,nv]/\H' a=some (.lst (C7 ss))/\(∀s∈ss,j_ H' bg aO y lg s/\rd s.u s.p=band/\∃w,ws[s.c]? =some w/\Bf w s.c s.i s/\s.i<(w:))/\(ss.map λs=>(s.c,s.i)).Perm ((ps.take k).map Pr.pair)/\ET y (2*lg) ss/\aG a H1 H')
  ⟨[],none,none,rfl,s1 _ _ ae,λ_ h=>absurd h Qal,.nil,List.Pairwise.nil,aG.refl _ _⟩ (λk σ H' _ ⟨_,_,_,_,_,_,_,_,h⟩=>bf.of (h _ _ xN hba)) ?_ ?_
 ·rintro k x σ H2 hx ⟨ss,sv,nv,rfl,ha,IS,jC,RD,s2⟩
  show zS _ _ _ _ _
  refine yI λDx LB=>?_
  obtain ⟨p,hp,rfl⟩:=wV hx
  have hk:k<(ps:):=(NU.mp hp).1
  have Uh:=Qai hp
  obtain ⟨w,hw,hi,ho⟩:=pin p Uh
  have hwm:=Qai hw
  have Zq:p.c<(nR:):=by rw[Ad];exact (NU.mp hw).1
  have cy:=Pp p.c w nR[p.c] hw (NT Zq)
  have go:∀c o,H c=some o->H2 c=some o:=λc o e=>s2 _ _ (Dt c o e) (au e na)
  have XA:=(nH p Uh).tp
  have hpa:p.t≠a:=λz=>by rw[z,s1 _ _ ae]at XA;cases XA
  have XB:=s2 _ _ XA hpa
  have ssl:(ss:)=k:=by
   have:=jC.length_eq
   rw[Qi,Qi,Qas]at this
   lia
  refine ⟨_,rfl,_,rfl,_,rfl,y,lg,wt,vt,p.t,w,ws,nR,nR[p.c],p.c,p.i,rfl,hy,go _ _ qh,go _ _ VM,XB,hw,NT Zq,cy.same go,hi,λs H3 Js mf Zr hnn s3=>?_⟩
  have Mt:=Js.band hy (xA w hwm).1 hi hb ho
  refine ⟨_,rfl,.inl ⟨rfl,_,bf.of (s3 _ _ ha)⟩,_,rfl,_,rfl,y,lg,a,ss,s,rfl,hy,hz,s3 _ _ ha,λt ht=>⟨(IS t ht).1.same s3,by rw[(IS t ht).2.1,Mt]⟩,Zr,RD,(),λn H4 hn h1 h2 s4=>?_⟩
  have Zs:=s4 _ _ (s3 _ _ ha)
  refine ⟨_,rfl,a,_,n,_,rfl,rfl,Zs,by rw[ny];exact hn,by rw[ny];lia,?_⟩
  have e1:(C7 ss).take n++V.ref s.a::(C7 ss).drop n=C7 (ss.take n++s::ss.drop n):=by
   unfold C7
   rw[Qad,Qfx,Qav,List.map_drop]
  rw[e1]
  have su:∀t,j_ H4 bg aO y lg t->j_ (L2.upd H4 a (.lst (C7 (ss.take n++s::ss.drop n)))) bg aO y lg t:=λt ot=>by
   have ne:∀{c:Addr} {o:HO},H4 c=some o->(∀l,o≠ .lst l)->c≠a:=λ{c o} e no z=>by rw[z,Zs]at e;exact no _ (Qaj e).symm
   obtain ⟨dx,eo⟩:=ot.ob
   obtain ⟨dw,ew⟩:=ot.wy.ob
   exact ⟨⟨dx,by rw[aq (ne eo (λl z=>by cases z))];exact eo⟩,by rw[aq (ne ot.st (λl z=>by cases z))];exact ot.st,⟨⟨dw,by rw[aq (ne ew (λl z=>by cases z))];exact ew⟩,ot.wy.sw,ot.wy.uz,ot.wy.lz,ot.wy.rt⟩,ot.pz⟩
  refine LB _ _ ⟨ss.take n++s::ss.drop n,_,_,rfl,ae,λt ht=>?_,?_,O1 RD h1 h2,λc o e z=>by rw[aq z];exact s4 _ _ (s3 _ _ (s2 c o e z))⟩
  ·have:t=s\/t∈ss:=by
    rcases Qaf.mp ht with r | r
    ·exact .inr (Qb4 r)
    ·rcases Qak.mp r with r | r
     ·exact .inl r
     ·exact .inr (Qcu r)
   rcases this with r | r
   ·subst r
    refine ⟨su _ (Zr.same s4),Mt,w,?_,?_,?_⟩
    ·rw[Js.ec];exact hw
    ·rw[Js.ec,Js.ei];exact Js
    ·rw[Js.ei];exact hi
   ·exact ⟨su _ (((IS t r).1.same s3).same s4),(IS t r).2⟩
  ·rw[Qad,Qav, <-take_snoc hp,Qad,Js.ec,Js.ei]
   have p1:(ss.take n).map (λs=>(s.c,s.i))++(p.c,p.i)::(ss.drop n).map (λs=>(s.c,s.i)) |>.Perm ((p.c,p.i)::ss.map λs=>(s.c,s.i)):=by
    refine List.perm_middle.trans (List.Perm.cons _ ?_)
    rw[<-Qad,Qbr]
   exact p1.trans ((List.Perm.cons _ jC).trans (List.perm_append_singleton _ _).symm)
 ·rintro σ H2 ⟨ss,sv,nv,rfl,ha,IS,jC,RD,s2⟩
  rw[cE,Qbg,gP]at jC
  have ssl:(ss:)<=48:=by
   have:=jC.length_eq
   rw[Qi, <-gP,Qi]at this
   lia
  have xR:aj H H2:=λc o e=>s2 _ _ (Dt c o e) (au e na)
  refine ⟨_,rfl,a,rfl,⟨_,bf.of ha⟩,?_⟩
  refine kE (K:=K) (a:=a) (xs:=C7 ss) (λi acc H'=>H'=H2/\acc=(ss.take i).map λs=>V.ref s.t) (by rw[ny];lia) (λi acc H' h=>by rw[h.1];exact bf.of ha) ⟨rfl,rfl⟩ ?_ ?_
  ·rintro i x acc H3 Nx hi hx hl ⟨rfl,rfl⟩ nx
   obtain ⟨t,ht,rfl⟩:=Le hx
   obtain ⟨dx,e⟩:=(IS t (Qai ht)).1.ob
   refine ⟨trivial,cW ⟨_,rfl,t.a,aO,dx,_,_,rfl,e,T.eR,T.n_Seen_strand,vA,nx _ _ (by simpa using hl) ⟨rfl,?_⟩⟩⟩
   rw[<-take_snoc ht,Qad]
   rfl
  ·rintro acc H3 D hl ⟨rfl,rfl⟩ hD
   rw[ny,Qbg]
   refine ⟨D,_,rfl,.inl ⟨bf.of ae,λt nt=>?_⟩⟩
   have sA:=(aj.upd (o:= .lst (ss.map λs=>V.ref s.t)) hD).trans (aj.upd (o:= .tup (ss.map λs=>V.ref s.t)) nt)
   have ep:(ss.map λs=>(⟨s.t,s.c,s.i⟩:Pr)).map Pr.pair=ss.map λs=>(s.c,s.i):=by rw[Qbq];rfl
   refine q t (ss.map λs=>(⟨s.t,s.c,s.i⟩:Pr)) _ (aj.free (xR.trans (aj.upd hD)) nt) (by rw[ae];unfold e_;rw[Qbq];rfl) (λp hp=>?_) (by rw[ep];exact jC) ?_ (xR.trans sA)
   ·obtain ⟨s,SN,rfl⟩:=Qam.mp hp
    obtain ⟨ok,_,w,hw,_,hi⟩:=IS s SN
    have h1:=(NU.mp hw).1
    have h2:=(xA w (Qai hw)).2
    exact ⟨sA _ _ ok.st,by show s.c<1000;lia,by show s.i<1000;lia⟩
   ·rw[ep]
    unfold EU
    rw[Qby]
    refine Qce (λ{s t} h1 h2 h=>?_) RD
    obtain ⟨o1,_,w1,e1,i1,l1⟩:=IS s h1
    obtain ⟨o2,_,w2,e2,i2,l2⟩:=IS t h2
    have g1:ws.getD s.c []=w1:=by rw[Qaa,e1];rfl
    have g2:ws.getD t.c []=w2:=by rw[Qaa,e2];rfl
    rw[<-C8 hy (xA w1 (Qai e1)).1 l1 g1 i1 o1.wy.rt, <-C8 hy (xA w2 (Qai e2)).1 l2 g2 i2 o2.wy.rt]
    exact h
theorem zG:bV P w K mg base gu 1 f2 d2 ["yard"] (yN K):=by
 refine T.F2.fn.ok IL (λvs H Q E h=>EA h) (λ_ _ _ _ H vs Q E hr h=>?_)
 refine ⟨_,(ah (aH (bE K rfl Qa5 Qdn Qdl (jP K rfl) (nZ [] ⋯) (aa (aA (mJ K rfl) rfl T.z_sorted boot_sorted (aa (bT ["letter"] [none] (oe (pv 0)) trivial (λ_ _ _ _=>(aB (i:=0) (by decide+kernel:List.Nodup (["letter"]:List Str)) rfl (Or.inl rfl))) (λ_ _ _ _=>(qP (lI (fV K rfl Qa5 Qe0 Qez lM (pv 0))))) (λ_ _ _ _=>(pv 0))) ab)) ab)))),?_⟩
 obtain ⟨l,rfl,hl,hz,q⟩:=h
 have hs:(1000:Nat)<sizeLine:=by decide
 refine ⟨rfl,_,rfl,l,rfl,?_⟩
 refine jN (xs:=cT l) (λi acc H'=>aj H H'/\acc=cT ((l.take i).filter az)) (by rw[aY];lia) ⟨aj.refl H,rfl⟩ ?_ ?_
 ·rintro i x acc H1 Nx hi hx nG ⟨s1,rfl⟩ nx
  obtain ⟨c,hc,rfl⟩:=fT hx
  have e:=pE (p:=az) hc
  refine ⟨trivial,?_⟩
  refine ⟨_,rfl,rfl,c,rfl,rfl,hl c (Qai hc),_,rfl,?_⟩
  walk_at"e"
  ·rw[if_pos z]at e
   exact ⟨_,rfl,nx _ _ (by simpa using nG) ⟨s1,by rw[e, <-fo]⟩⟩
  ·rw[if_neg z,Qa4]at e
   exact nx _ _ (Qdq nG) ⟨s1,by rw[e]⟩
 ·rintro acc H1 D nG ⟨s1,rfl⟩ hD
  rw[rA,fM]
  have hfl:(l.filter az:)<=(l:):=Qeb _ _
  refine ⟨D,(l.filter az).map λc=>[c],rfl,bf.of ae,by rw[Qi];lia,λp ls hp jC Pm=>?_⟩
  obtain ⟨l',rfl,pl⟩:=BY jC
  have xW:=pl.length_eq
  refine ⟨p,l'.map λc=>[c],rfl,rfl,bf.of ae,by rw[En];lia,?_⟩
  rw[u9]
  exact q l' _ pl (BZ Pm) ((s1.trans (aj.upd hD)).trans (aj.upd hp))
theorem hV:bV P w K mg base gu 1 QN Rn ["_law_box_here","_law_many"] (yG K):=by
 refine T.fE.fn.ok s_ (λvs H Q E h=>El h) (λ_ _ _ _ H vs Q E hr h=>?_)
 refine ⟨_,(ag (cK (aK o9 (aN (bz K rfl) (pv 0) ai (λ_ _=>rfl)) ai (aX _)) (ag (ar (i:=2) s_.nd rfl (Or.inl rfl) (aC fI (aN (bz K rfl) (pv 0) ai (λ_ _=>rfl)) (pv 1)))
   (ag (qJ (aC f_ (aN (bz K rfl) (pv 0) ai (λ_ _=>rfl)) (pv 1)) (qI (pv 0) ai set_list))
   (ah (aH (pv 2))))) b9)
   (ag (ar (i:=3) s_.nd rfl (Or.inl rfl) (aC fI (aC lL (aN (bz K rfl) (pv 0) ai (λ_ _=>rfl)) ai) ai))
   (ag (qJ (aC bp (aC fI (aC bp (aC lL (pv 3) ai) ai) ai) ai) (qI (pv 0) ai set_list))
   (ah (aH (aC fI (aC f_ (aC bp (aC lL (pv 3) ai) (aN (bz K rfl) (pv 0) ai (λ_ _=>rfl))) ai) (pv 1))))))),?_⟩
 obtain ⟨b,m,rfl,⟨x,y,hb⟩,h1,h2,q⟩:=h
 have fin:∀(r x' y':Int),0<=r->r<m->Q (.int r) (upd H b (.lst [.int x',.int y'])):=λr x' y' h3 h4=>by
  have e:r=((r.toNat:Nat):Int):=by lia
  rw[e]
  exact q r.toNat _ () ⟨x',y',ae⟩ (aG.upd b H _)
 refine ⟨_,rfl,b,_,0,_,rfl,rfl,bf.of hb,rfl,_,_,rfl,rfl,_,rfl,cf (λe=>?_) (λe=>?_)⟩
 ·refine ⟨_,rfl,b,_,0,_,rfl,rfl,bf.of hb,rfl,_,rfl,_,_,rfl,rfl,(by lia:0<m),?_⟩
  refine ⟨_,rfl,b,_,0,_,rfl,rfl,bf.of hb,rfl,_,rfl,_,_,rfl,rfl,⟨(),()⟩,_,rfl,b,_,0,0,rfl,rfl,hb,rfl,_,rfl,?_⟩
  exact fin (x%m) (x / m) y (Qcf _ ()) (Qcc _ ())
 ·refine ⟨_,rfl,b,_,1,_,rfl,rfl,bf.of hb,rfl,_,_,rfl,rfl,.inr ⟨∅,∅⟩,_,_,rfl,rfl,(by decide:(0:Int)<2147483647),?_⟩
  refine ⟨_,rfl,_,_,rfl,rfl,.inr ⟨∅,∅⟩,_,_,rfl,rfl,_,_,rfl,rfl,(by decide:(0:Int)<2147483629),_,_,rfl,rfl,_,rfl,b,_,1,1,rfl,rfl,hb,rfl,?_⟩
  refine ⟨_,rfl,_,_,rfl,rfl,.inr ⟨∅,∅⟩,_,rfl,b,_,1,_,rfl,rfl,bf.of ae,rfl,_,_,rfl,rfl,_,_,rfl,rfl,⟨∅,∅⟩,_,rfl,_,_,rfl,rfl,(by lia:0<m),?_⟩
  exact fin _ _ _ (Qcf _ ()) (Qcc _ ())
theorem eZ:bV P w K mg base gu 1 QO Ro ["_law_letter"] (u6 K):=by
 refine T.kQ.fn.ok o4 (λvs H Q E h=>AD h) (λ_ _ _ _ H vs Q E hr h=>?_)
 refine ⟨_,(ag (ar (i:=1) o4.nd rfl (Or.inl rfl) (nZ [97,98,99,100,101,102,103,104,105,106,107,108,109,110,111,112,113,114,115,116,117,118,119,120,121,122] ⋯))
   (ag (ar (i:=2) o4.nd rfl (Or.inl rfl) (nZ [65,66,67,68,69,70,71,72,73,74,75,76,77,78,79,80,81,82,83,84,85,86,87,88,89,90] ⋯))
   (ag (cK (aK FW (pv 0) (pv 1) (by with_unfolding_all rfl)) (ah (aH (aN iM (pv 2) (bE K rfl Qa5 Qe9 Qe7 n_ (pv 1) (aa (pv 0) ab)) (λ_ _=>rfl)))) b9)
   (ah (aH (aN iM (pv 1) (bE K rfl Qa5 Qe9 Qe7 n_ (pv 2) (aa (pv 0) ab)) (λ_ _=>rfl))))))),?_⟩
 obtain ⟨c,rfl,hc,q⟩:=h
 refine ⟨_,rfl,_,rfl,c,aW,rfl,rfl,_,rfl,cf (λe=>?_) (λe=>?_)⟩
 ·have hm:c∈aW:=of_decide_eq_true e
  exact ⟨_,rfl,_,rfl,rfl,_,rfl,aW,c,rfl,rfl,hm,i5,_,ak c,rfl,rfl,∅,yF c hm,q⟩
 ·have hm:c∈i5:=hc.resolve_left λz=>e (decide_eq_true z)
  exact ⟨_,rfl,_,rfl,rfl,_,rfl,i5,c,rfl,rfl,hm,aW,_,ak c,rfl,rfl,∅,Ek c hm,q⟩
theorem IT:bV P w K mg base gu 2 QP Rp ["_law_box_here","_law_few","_law_top"] (yH K):=by
 walk_at"s"
 walk_at"n"
 refine T.Vy.fn.ok gq (λvs H Q E h=>Em h) (λ_ _ _ _ H vs Q E hr h=>?_)
 refine ⟨_,(ag (ar (i:=3) gq.nd rfl (Or.inl rfl) (bB (qQ rfl) rfl T.z_list boot_list (aa (nZ [97,98,99,100,101,102,103,104,105,106,107,108,109,110,111,112,113,114,115,116,117,118,119,120,121,122] ⋯) ab)))
   (ag (ar (i:=4) gq.nd rfl (Or.inl rfl) (cP ab))
   (ag (cn PassesOwn.never rfl (eU rfl T.z_range (aa (aC bp (pv 1) (ao bK (hr.mono ∅) rfl T.fE.mg T.fE.fn.kp T.fE.bd .nil aD (aa (pv 0) (aa (aC bp (aC d_ (pv 2) (pv 1)) ai) ab)))) ab)) (aB (i:=5) gq.nd rfl (Or.inl rfl)) (ag (ar (i:=6) gq.nd rfl (Or.inl rfl) (bE K rfl Qar Qdo Qdm mz (pv 3) (aa (ao bK (hr.mono ∅) rfl T.fE.mg T.fE.fn.kp T.fE.bd .nil aD (aa (pv 0) (aa (aA (aQ K rfl) rfl T.z_len Qaq (aa (pv 3) ab)) ab))) ab)))
   (ah (ar (i:=4) gq.nd rfl (Or.inl rfl) (aC FT (pv 4) (cP (aa (pv 6) (aa (ao b4 (hr.mono ∅) rfl T.kQ.mg T.kQ.fn.kp T.kQ.bd .nil aD (aa (pv 6) ab)) ab))))))))
   (ag (ar (i:=7) gq.nd rfl (Or.inl rfl) (nZ [] ⋯))
   (ag (dS PassesOwn.never (aK o9 (aA (aQ K rfl) rfl T.z_len Qaq (aa (pv 4) ab)) ai (aX _)) (ah (ar (i:=7) gq.nd rfl (Or.inl rfl) (aC fj (pv 7) (bE K rfl Qar Qdo Qdm mz (pv 4) (aa (ao bK (hr.mono ∅) rfl T.fE.mg T.fE.fn.kp T.fE.bd .nil aD (aa (pv 0) (aa (aA (aQ K rfl) rfl T.z_len Qaq (aa (pv 4) ab)) ab))) ab))))))
   (ah (aH (pv 7)))))))),?_⟩
 obtain ⟨b,t_,top,rfl,hb,h1,h2,h3,q⟩:=h
 have hs:=Zs1
 walk_at "rd"
 intro p1 n1
 walk_at "rd"
 intro p2 n2
 have s1:aj H (upd (upd H p1 (.lst (cT aW))) p2 (.lst [])):=(aj.upd n1).trans (aj.upd n2)
 have Ff:p1≠b:=hb.ne n1
 have IQ:H p2=none:=aj.free (aj.upd n1) n2
 have IU:p2≠b:=hb.ne IQ
 walk_at"z"
 walk_at "rd"
 refine ⟨b,_,rfl,hb.same s1,(),(),λn H1 hn xN s2=>?_⟩
 walk_at "rd"
 refine fH (λi σ H'=>∃(pe:Addr) (L E:Z) (kv lv:Option V),σ=[some (.ref b),some (.int t_),some (.int top),some (.ref p1),some (.ref pe),kv,lv,none]/\Ot i L E/\H' p1=some (.lst (cT L))/\H' pe=some (.lst (cT E))/\p1≠pe/\H pe=none/\bM H' b/\aG b H H')
  ⟨p2,aW,[],none,none,rfl,Ot.start,s2 _ _ (by rw[aq Du,ae];rfl) Ff,s2 _ _ ae IU,Du,IQ,xN,(aG.of s1).trans s2⟩ ?_ ?_
 ·rintro i σ H2 hi ⟨pe,L,E,kv,lv,rfl,yw,gp,gP,Zt,VN,i3,s3⟩
  show zS _ _ _ _ _
  refine yI λDx LB=>?_
  have TV:i<26:=by simp at hi;lia
  have U5:=yw.ll
  have zM:=yw.el
  refine ⟨_,rfl,.inl ⟨rfl,_,bf.of gp⟩,?_⟩
  walk_at "rd"
  refine ⟨p1,_,rfl,.inl (bf.of gp),b,_,rfl,i3,by rw[aY];lia,by rw[aY];lia,λr H3 Zu jr s4=>?_⟩
  rw[aY]at Zu
  have MX:r<L.length:=by lia
  have XC:=s4 _ _ gp Ff
  have XD:=s4 _ _ gP (hb.ne VN)
  refine ⟨p1,_,_,r,_,rfl,rfl,XC,(),(),by rw[aY,seqIndex_of () (),YQ],GF MX,?_⟩
  rw[u_]
  have dy:Lt L[r]:= .inl (yw.sm _ (Qa1 MX))
  have Ui:(upd H3 p1 (.lst (cT (L.eraseIdx r)))) pe=some (.lst (cT E)):=by rw[aq (Ne.symm Zt)];exact XD
  walk_at "rd"
  intro p3 n3
  have e3:pe≠p3:=au Ui n3
  refine ⟨pe,p3,_,_,rfl,rfl,by rw[aq e3];exact Ui,ae,by rw[aY];show E.length+2<=_;lia,λp4 n4=>?_⟩
  have Zv:H p3=none:=((s3.trans s4).bL n1).none n3 (jr.bL Ff |>.ne n3)
  have Zw:=(jr.bL (o:= .lst (cT (L.eraseIdx r))) Ff).bL (o:= .lst [V.str (S [L[r]]),V.str (S [ak L[r]])]) (hb.ne Zv)
  have Zx:=((s3.trans s4).bL (o:= .lst (cT (L.eraseIdx r))) n1).bL (o:= .lst [V.str (S [L[r]]),V.str (S [ak L[r]])]) Zv
  have XE:H p4=none:=Zx.none n4 (Zw.ne n4)
  have Zy:p1≠p4:=λz=>by rw[<-z]at n4;by_cases z3:p1=p3<;>simp[upd,z3]at n4
  have h13:p1≠p3:=λz=>by rw[<-z,ae]at n3;cases n3
  refine LB _ _ ⟨p4,L.eraseIdx r,E++[L[r],ak L[r]],_,_,rfl,yw.turn TV MX,by rw[aq Zy,aq h13,ae],?_,Zy,XE,Zw.bL (hb.ne XE),Zx.bL XE⟩
  rw[ae, <-Kx]
  rfl
 ·rintro σ H2 ⟨pe,L,E,kv,lv,rfl,yw,gp,gP,Zt,VN,i3,s3⟩
  have zM:=yw.el
  have Jm:=hb.ne VN
  walk_at "rd"
  refine ⟨λm σ H'=>∃F E':Z,σ=[some (.ref b),some (.int t_),some (.int top),some (.ref p1),some (.ref pe),kv,lv,some (.str (S F))]/\m=E'.length/\(F++E').Perm E/\H' pe=some (.lst (cT E'))/\bM H' b/\aG b H H',⟨_,[],E,rfl,rfl,Qcn _,gP,i3,s3⟩,?_⟩
  rintro m σ H3 ⟨F,E',rfl,rfl,jC,LC,jr,s4⟩
  have hlen:=jC.length_eq
  rw[U3]at hlen
  have vT:(t_:Int)+n<=9:=by lia
  have aal:E.length<=100:=by rw[zM];lia
  walk_at "rd"
  refine ⟨pe,_,rfl,.inl (bf.of LC),_,_,rfl,rfl,_,rfl,cf (λe=>?_) (λe=>?_)⟩
  ·have e':(0:Int)<((cT E':):Nat):=of_decide_eq_true e
   rw[aY]at e'
   refine ⟨_,rfl,_,rfl,.inl ⟨rfl,_,bf.of LC⟩,?_⟩
   walk_at "rd"
   refine ⟨pe,_,rfl,.inl (bf.of LC),b,_,rfl,jr,by rw[aY];lia,by rw[aY];lia,λr H4 MX pT s5=>?_⟩
   rw[aY]at MX
   have JI:r<E'.length:=by lia
   refine ⟨pe,_,_,r,_,rfl,rfl,s5 _ _ LC Jm,(),(),by rw[aY,seqIndex_of () (),YQ],GF JI,?_⟩
   rw[u_]
   have hp:=gR (NT JI)
   have gQ:=hp.length_eq
   rw[Qaz]at gQ
   refine ⟨F,_,rfl,rfl,by show F.length+1<=_;lia,(E'.eraseIdx r:),(),F++[E'[r]],E'.eraseIdx r,rfl,rfl,?_,ae,pT.bL Jm,(s4.trans s5).bL VN⟩
   rw[Qbd]
   exact (Qfm F hp).trans jC
  ·have e':E'=[]:=by
    cases E' with
    | nil=>rfl
    | cons c r=>exact absurd (decide_eq_true (by rw[aY];show (0:Int)<(((r:)+1:Nat):Int);lia)) e
   subst e'
   rw[Qa4]at jC
   have jK:=jC.length_eq
   refine ⟨_,rfl,q F H3 (yw.yd.perm jC.symm) ?_ ?_ jr s4⟩
   ·rw[jK,zM];lia
   ·rw[jK,zM];lia
theorem qj:bV P w K mg base gu 1 f8 d8 ["some"] (jm K):=by
 refine T.F8.fn.ok eL (λvs H Q E h=>oO h) (λ_ _ _ _ H vs Q E hr h=>?_)
 refine ⟨_,(ag (ar (i:=1) eL.nd rfl (Or.inl rfl) Gr)
   (ag (cn PassesOwn.never rfl (eB K rfl (pv 0)) (aB (i:=2) eL.nd rfl (Or.inl rfl)) (ag (ar (i:=3) eL.nd rfl (Or.inl rfl) (aA (uG rfl) rfl T.z_min boot_min (aa (aN (bC K rfl) (pv 2) ai (λ_ _=>rfl)) (aa (aN (bC K rfl) (pv 2) ai (λ_ _=>rfl)) ab))))
   (ag (wm (qN hr) (pv 1) (aN (bC K rfl) (pv 2) ai (λ_ _=>rfl)) (pv 3) rfl)
   (ah (wm (qN hr) (pv 1) (aN (bC K rfl) (pv 2) ai (λ_ _=>rfl)) (pv 3) rfl)))))
   (ah (aH (pv 1))))),?_⟩
 obtain ⟨a,qs,rfl,ha,hq,hn,nd,q⟩:=h
 have hs:=Zs1
 walk_at "wk"
 intro d RE
 have Zz:a≠d:=au ha RE
 refine ⟨_,rfl,a,rfl,⟨_,bf.of (by rw[aq Zz];exact ha)⟩,?_⟩
 refine iK (K:=K) (a:=a) (xs:=EJ qs) (λk σ H'=>∃(cv fv:Option V),σ=[some (.ref a),some (.ref d),cv,fv]/\H' d=some (.dK (hW ((qs.take k).map Q4.v)))/\aG d H H')
  ⟨none,none,rfl,ae,λb o e z=>by rw[aq z];exact e⟩ (λk σ H' _ ⟨_,_,_,_,h⟩=>bf.of (h _ _ ha Zz)) ?_ ?_
 ·rintro k x σ H1 hx ⟨cv,fv,rfl,hd,s1⟩
  obtain ⟨c,hc,rfl⟩:=OQ hx
  have hk:k<(qs:):=(NU.mp hc).1
  have tc:=hq c (Qai hc)
  have ji:c.t≠d:=λz=>by have h9:H c.t=_:=tc;rw[z,RE]at h9;cases h9
  have VO:uf H1 c:=s1 _ _ tc ji
  have lc:(hW ((qs.take k).map Q4.v):)<=2000:=by rw[zf,Qi,Qas];omega
  have e:(qs.take (k+1)).map Q4.v=(qs.take k).map Q4.v++[c.v]:=by rw[<-take_snoc hc,Qad];rfl
  have ZA:(fz ((qs.take k).map Q4.v++[c.v])).Nodup:=by
   rw[<-e]
   have:qs.map Q4.v=(qs.take (k+1)).map Q4.v++(qs.drop (k+1)).map Q4.v:=by rw[<-Qad,Qbr]
   rw[this]at nd
   unfold fz at nd ⊢
   rw[Qaw,Qb2]at nd
   exact nd.1
  refine ⟨_,rfl,c.t,_,2,_,rfl,rfl,cu.of VO,rfl,_,rfl,c.t,_,3,_,rfl,rfl,cu.of VO,rfl,_,_,rfl,?_⟩
  refine ⟨_,rfl,_,rfl,_,rfl,c.t,_,2,_,rfl,rfl,cu.of VO,rfl,d,_,rfl,wj.k (k:=Sum.inl (c.v.2.2.1:Int)) hd (by omega),?_⟩
  have tc2:∀o,uf (L2.upd H1 d o) c:=λo=>by show L2.upd H1 d o c.t=_;rw[aq ji];exact VO
  refine ⟨_,rfl,_,rfl,_,rfl,c.t,_,3,_,rfl,rfl,cu.of (tc2 _),rfl,d,_,rfl,wj.k (k:=Sum.inl (c.v.2.2.2:Int)) ae (Qbn (hZ _ _ _) (by omega)),?_⟩
  refine ⟨_,_,rfl,?_,λb o eb z=>by rw[aq z,aq z];exact s1 b o eb z⟩
  rw[ae,e, <-K9 ZA]
  rfl
 ·rintro σ H1 ⟨cv,fv,rfl,hd,s1⟩
  rw[CQ,Qbg]at hd
  exact ⟨_,rfl,q d H1 RE hd λb o eb=>s1 b o eb (au eb RE)⟩
theorem gs:bV P w K mg base gu 1 f0 d0 ["letter"] (pA K):=by
 refine T.F0.fn.ok zE (λvs H Q E h=>wC h) (λ_ _ _ _ H vs Q E hr h=>?_)
 refine ⟨_,(ag (cK (lI (fV K rfl Qa5 Qe0 Qez lM (pv 0))) (ah (aH (fV K rfl Qa5 PySem.F.slot_str_upper PySem.F.type_str_upper FX (pv 0)))) b9)
   (ah (aH (fV K rfl Qa5 Qe8 Qe6 qS (pv 0))))),?_⟩
 obtain ⟨c,rfl,hc,q⟩:=h
 refine ⟨_,rfl,rfl,c,rfl,rfl,hc,_,rfl,cf (λe=>?_) (λe=>?_)⟩
 ·refine ⟨_,rfl,rfl,c,rfl,rfl,hc,?_⟩
  have z:ak c=PyProof.Rows.up1 c:=if_pos e
  rw[<-z]
  exact q
 ·refine ⟨_,rfl,rfl,c,rfl,rfl,hc,?_⟩
  have z:ak c=PyProof.Rows.lo1 c:=if_neg e
  rw[<-z]
  exact q
theorem xB:bV P w K mg base gu 2 Qz MT ["word"] (mV K):=by
 walk_at"S"
 refine T.Vo.fn.ok jh (λvs H Q E h=>ua h) (λ_ _ _ _ H vs Q E hr h=>?_)
 refine ⟨_,(ag (ar (i:=1) jh.nd rfl (Or.inl rfl) (cP ab))
   (ag (cn PassesOwn.never rfl (oe (pv 0)) (aB (i:=2) jh.nd rfl (Or.inl rfl)) (ah (cK (PW.pt (lJ (Ke K rfl (pv 1)) (kB (aK jO (aN (bz K rfl) (pv 1) (mq iZ ai) (λ_ _=>rfl)) (ao c_ (hr.mono ∅) rfl T.F0.mg T.F0.fn.kp T.F0.bd .nil aD (aa (pv 2) ab)) (aX _))))) (ah (cj (fV K rfl Qar Qdo Qdm NP (pv 1)))) (ah (cj (bE K rfl Qar Qbm Qbl cG (pv 1) (aa (pv 2) ab)))))))
   (ah (aH (bE K rfl Qa5 Qdn Qdl (jP K rfl) (nZ [] ⋯) (aa (pv 1) ab)))))),?_⟩
 obtain ⟨l,rfl,hl,hz,q⟩:=h
 have hs:=Zs1
 walk_at "rd"
 intro p1 n1
 refine ⟨_,rfl,l,rfl,?_⟩
 refine v8 (xs:=cT l) (λi σ H'=>∃lv,σ=[some (.str (S l)),some (.ref p1),lv]/\H' p1=some (.lst (cT (red (l.take i))))/\aG p1 H H') ⟨none,rfl,ae,aG.of (aj.upd n1)⟩ ?_ ?_
 ·rintro i x σ H1 hx ⟨lv,rfl,hp,s1⟩
  obtain ⟨c,hc,rfl⟩:=fT hx
  have hi:i<(l:):=(NU.mp hc).1
  have h8:c<128:=(hl c (Qai hc)).lt
  have Mw:(red (l.take i):)<=1000:=Qbf (mT _) (by rw[Qas];lia)
  have fin:∀st,st=di (red (l.take i)) c->∃lv,[some (V.str (S l)),some (V.ref p1),some (V.str (S [c]))]=[some (V.str (S l)),some (.ref p1),lv]/\(upd H1 p1 (.lst (cT st))) p1=some (.lst (cT (red (l.take (i+1)))))/\aG p1 H (upd H1 p1 (.lst (cT st))):=λst e=>
   ⟨_,rfl,by rw[ae,GI hc,e],λb o e z=>by rw[aq z];exact s1 b o e z⟩
  refine ⟨_,rfl,p1,_,rfl,bf.of hp,?_⟩
  rcases snoc_cases (red (l.take i)) with e | ⟨m,a,e⟩
  ·rw[e]at hp ⊢
   refine Tv rfl ?_
   refine DW ?_
   refine ⟨_,rfl,.inl ⟨rfl,_,bf.of hp⟩,_,rfl,p1,_,_,rfl,rfl,hp,by rw[aY];exact (by decide:(0:Nat)<sizeLine),?_⟩
   rw[fo]
   refine fin _ ?_
   rw[e]
   unfold di
   rw[if_neg (by simp)]
  ·rw[e]at hp Mw ⊢
   have hml:(m:)<=1000:=by simp at Mw;lia
   rw[<-fo]at hp ⊢
   refine Tw (by simp) ?_
   refine ⟨_,rfl,_,rfl,p1,_,_,_,rfl,rfl,bf.of hp,FN _ _,_,rfl,c,rfl,h8,[a],[ak c],rfl,rfl,_,rfl,cf (λz=>?_) (λz=>?_)⟩
   ·have ea:a=ak c:=by simpa using of_decide_eq_true z
    refine ⟨_,rfl,.inl ⟨rfl,_,bf.of hp⟩,p1,_,V.str (S [a]),rfl,rfl,hp,by simp,?_⟩
    rw[Qcv]
    refine fin _ ?_
    rw[e]
    unfold di
    rw[if_pos (by simp[ea]),Qcv]
   ·have ea:a≠ak c:=λw=>z (decide_eq_true (by rw[w]))
    refine ⟨_,rfl,.inl ⟨rfl,_,bf.of hp⟩,_,rfl,p1,_,_,rfl,rfl,hp,by rw[U3,aY];show (m:)+1<sizeLine;lia,?_⟩
    rw[fo,fo]
    refine fin _ ?_
    rw[e]
    unfold di
    rw[if_neg (by simpa using ea)]
 ·rintro σ H1 ⟨lv,rfl,hp,s1⟩
  rw[rA]at hp
  refine ⟨rfl,_,rfl,p1,(red l).map λc=>[c],rfl,rfl,bf.of (by rw[<-fM];exact hp),?_,?_⟩
  ·rw[En]
   have:=mT l
   lia
  ·rw[u9]
   exact q _ (λb o e=>s1 b o e (au e n1))
theorem zH:bV P w K mg base gu 3 QA Q8 ["word"] (pB K):=by
 have zI:=xB (P:=P) (w:=w) (base:=base) T
 walk_at"S"
 refine T.Vp.fn.ok eW (λvs H Q E h=>wD h) (λ_ _ _ _ H vs Q E hr h=>?_)
 refine ⟨_,(ag (ar (i:=1) eW.nd rfl (Or.inl rfl) (ao zI (hr.mono ∅) rfl T.Vo.mg T.Vo.fn.kp T.Vo.bd .nil aD (aa (pv 0) ab)))
   (ag (ar (i:=2) eW.nd rfl (Or.inl rfl) ai)
   (ag (ar (i:=3) eW.nd rfl (Or.inl rfl) (aA aU rfl T.z_len Qaq (aa (pv 1) ab)))
   (ag (dS PassesOwn.never (PW.pt (lJ (aK BN (aC d_ (pv 3) (pv 2)) ai (aX _)) (kB (aK jO (aN iM (pv 1) (pv 2) (λ_ _=>rfl)) (ao c_ (hr.mono ∅) rfl T.F0.mg T.F0.fn.kp T.F0.bd .nil aD (aa (aN iM (pv 1) (aC d_ (pv 3) ai) (λ_ _=>rfl)) ab)) (aX _))))) (ag (lK (i:=2) eW.nd rfl (Or.inl rfl) ai vQ)
   (ah (lK (i:=3) eW.nd rfl (Or.inl rfl) ai Nr))))
   (ah (aH (bZ kX (pv 1) (bS (pv 2)) (bS (pv 3))))))))),?_⟩
 obtain ⟨l,rfl,hl,hz,q⟩:=h
 have hs:=Zs1
 refine ⟨_,rfl,l,rfl,hl,hz,λH1 s1=>?_⟩
 have Jv:=mT l
 have dy:=GH hl
 generalize red l=r at Jv dy q ⊢
 have ZC:(r:)<=sizeLine:=by lia
 walk_at "rd"
 refine ⟨λm σ H'=>∃(a e:Nat),σ=[some (.str (S l)),some (.str (S r)),some (.int a),some (.int e)]/\m=e - a/\a<=e/\e<=(r:)/\core (Fv r a e)=core r/\H'=H1,⟨_,0,(r:),rfl,rfl,Qao _,YS _,by rw[KD],rfl⟩,?_⟩
 rintro m σ H2 ⟨a,e,rfl,rfl,h1,h2,hc,rfl⟩
 have fin:core (Fv r a e)=Fv r a e->Q (.str (S (cut r (some (a:Int)) (some (e:Int))))) H2:=λz=>by
  have e1:cut r (some (a:Int)) (some (e:Int))=Fv r a e:=by
   unfold cut Fv
   rw[HT.hX,HT.hX]
   have e1:min a (r:)=a:=by lia
   have e2:min e (r:)=e:=by lia
   rw[e1,e2]
  rw[e1, <-z,hc]
  exact q H2 s1
 walk_at "rd"
 walk_at"e"
 ·have z1:(2:Int)<=(e:Int) - (a:Int):=of_decide_eq_true z
  have ha:a<(r:):=by lia
  have he:e - 1<(r:):=by lia
  have g0:tL r (a:Int)=some r[a]:=bY (NT ha)
  have g1:tL r ((e:Int) - 1)=some r[e - 1]:=by
   have:(e:Int) - 1=((e - 1:Nat):Int):=by lia
   rw[this];exact bY (NT he)
  have h8:r[e - 1]<128:=(dy _ (Qa1 he)).lt
  have hw:=Ou (l:=r) (s:=a) (e:=e) () h2
  refine ⟨_,rfl,_,rfl,r,_,_,rfl,rfl,ZC,g0,?_⟩
  walk_at "rd"
  refine ⟨r,_,_,rfl,rfl,ZC,g1,?_⟩
  walk_at "rd"
  refine cf (λy=>?_) (λy=>?_)
  ·have ey:r[a]=ak r[e - 1]:=by simpa using of_decide_eq_true y
   walk_at "rd"
   refine ⟨(e - 1) - (a+1),(),a+1,e - 1,?_,rfl,(),(),?_,rfl⟩
   ·have e1:(a:Int)+1=((a+1:Nat):Int):=by lia
    have e2:(e:Int) - 1=((e - 1:Nat):Int):=by lia
    rw[<-e1, <-e2]
    rfl
   ·rw[<-hc,hw,qt ey]
  ·have ey:r[a]≠ak r[e - 1]:=λw=>y (decide_eq_true (by rw[w]))
   walk_at "rd"
   exact fin (by rw[hw,gJ ey])
 ·have z1: ¬(2:Int)<=(e:Int) - (a:Int):=λw=>z (decide_eq_true w)
  walk_at "rd"
  exact fin (gT (by rw[KC h2];lia))
theorem Dv:bV P w K mg base gu 4 QB Q9 ["word"] (Ce K):=by
 have By:=zH (P:=P) (w:=w) (base:=base) T
 refine T.JF.fn.ok kS (λvs H Q E h=>GK h) (λ_ _ _ _ H vs Q E hr h=>?_)
 refine ⟨_,(ag (ar (i:=1) kS.nd rfl (Or.inl rfl) (ao By (hr.mono ∅) rfl T.Vp.mg T.Vp.fn.kp T.Vp.bd .nil aD (aa (pv 0) ab)))
   (ag (ar (i:=2) kS.nd rfl (Or.inl rfl) (pv 1))
   (ag (cn PassesOwn.never rfl (uF rfl T.z_range (aa ai (aa (aA aU rfl T.z_len Qaq (aa (pv 1) ab)) ab))) (aB (i:=3) kS.nd rfl (Or.inl rfl)) (ag (ar (i:=4) kS.nd rfl (Or.inl rfl) (aC fj (bZ kX (pv 1) (bS (pv 3)) dE) (bZ kX (pv 1) dE (bS (pv 3)))))
   (ah (cK (aK v_ (pv 4) (pv 2) (aX _)) (ah (ar (i:=2) kS.nd rfl (Or.inl rfl) (pv 4))) b9))))
   (ah (aH (pv 2)))))),?_⟩
 obtain ⟨l,rfl,hl,hz,q⟩:=h
 have hs:=Zs1
 refine ⟨_,rfl,l,rfl,hl,hz,λH1 s1=>?_⟩
 have hc1:(core (red l):)<=1000:=Qbf (yL _) (Qbf (mT l) hz)
 unfold aJ cU at q
 generalize core (red l)=c at hc1 q ⊢
 have hcz:(c:)<=sizeLine:=by lia
 walk_at "rd"
 refine ⟨_,_,rfl,⟨∅,∅,(),()⟩,?_⟩
 refine fH (λi σ H'=>H'=H1/\∃sv bv,σ=[some (.str (S l)),some (.str (S c)),some (.str (S (cC c (jz c i)))),sv,bv]) ⟨rfl,none,none,rfl⟩ ?_ ?_
 ·rintro i σ H2 hi ⟨rfl,sv,bv,rfl⟩
  have e1:(1:Int)+(i:Int)=((i+1:Nat):Int):=by lia
  rw[e1]
  have hlen:(cut c (some ((i+1:Nat):Int)) none:)+(cut c none (some ((i+1:Nat):Int)):)<=sizeLine:=by rw[dP,gh,Qa0,Qas];lia
  have Pq:cut c (some ((i+1:Nat):Int)) none++cut c none (some ((i+1:Nat):Int))=dA c (i+1):=by rw[dP,gh];rfl
  walk_at "rd"
  rw[Pq]
  walk_at"e"
  ·have z':dA c (i+1)<cC c (jz c i):=of_decide_eq_true z
   have hle:cC c (jz c (i+1))=dA c (i+1):=by rw[va,i6];unfold dz;rw[if_pos z']
   refine ⟨_,rfl,?_⟩
   rw[hle]
   exact ⟨rfl,_,_,rfl⟩
  ·have z': ¬dA c (i+1)<cC c (jz c i):=λy=>z (decide_eq_true y)
   have hle:cC c (jz c (i+1))=cC c (jz c i):=by rw[va,i6];unfold dz;rw[if_neg z']
   rw[hle]
   exact ⟨rfl,_,_,rfl⟩
 ·rintro σ H2 ⟨rfl,sv,bv,rfl⟩
  have e:(((c:):Int) - 1).toNat=(c:) - 1:=by lia
  rw[e]
  exact ⟨_,rfl,q _ s1⟩
theorem tF:bV P w K mg base gu 2 Qy Q7 ["word","place"] (jY K):=by
 walk_at"S"
 refine T.Vn.fn.ok sZ (λvs H Q E h=>p9 h) (λ_ _ _ _ H vs Q E hr h=>?_)
 refine ⟨_,(ah (aH (bW (aa (ao c_ (hr.mono ∅) rfl T.F0.mg T.F0.fn.kp T.F0.bd .nil aD (aa (aN iM (pv 0) (aC d_ (pv 1) ai) (λ_ _=>rfl)) ab)) (aa (aN iM (pv 0) (pv 1) (λ_ _=>rfl)) ab))))),?_⟩
 obtain ⟨w,i,rfl,hl,hz,hi,q⟩:=h
 have hs:=Zs1
 have dk:w≠[]:=λz=>by rw[z]at hi;simp at hi
 refine ⟨_,rfl,_,rfl,_,_,rfl,rfl,w,_,_,rfl,rfl,(),mY () (),_,rfl,(hl _ (i9 dk _)).lt,?_⟩
 refine ⟨_,rfl,_,rfl,w,_,_,rfl,rfl,(),mY () (),by show 2<=sizeLine;decide,λt nt=>?_⟩
 exact q t _ nt ae (aj.upd nt)
theorem Bz:bV P w K mg base gu 2 QV Rw ["_law_yard_here","_law_drawing_here"] (sx K):=by
 have kA:=o6 (P:=P) (w:=w) (base:=base) T
 walk_at"n"
 refine T.VC.fn.ok eT (λvs H Q E h=>zo h) (λ_ _ _ _ H vs Q E hr h=>?_)
 refine ⟨_,(ag (qJ (pv 1) (dF (n:=2) K rfl rfl (aZ (aB (i:=2) eT.nd rfl (Or.inl rfl)) (aZ (aB (i:=3) eT.nd rfl (Or.inl rfl)) dD))))
   (ag (ar (i:=4) eT.nd rfl (Or.inl rfl) (ao kA (hr.mono ∅) rfl T.JH.mg T.JH.fn.kp T.JH.bd .nil aD (aa (pv 0) ab)))
   (ag (ar (i:=5) eT.nd rfl (Or.inl rfl) (cP ab))
   (ag (cn PassesOwn.never rfl (oe (pv 0)) (aB (i:=6) eT.nd rfl (Or.inr rfl)) (ah (cK (aK (An K rfl) (pv 6) (pv 4) (by with_unfolding_all rfl)) (ah (cj (bE K rfl Qar Qd1 Qd0 kD (pv 5) (aa (bT ["_law_strand","_law_end"] [none,some 6] (qq K rfl (aN (bC K rfl) (pv 3) (bE K rfl Qar PySem.F.slot_list_index PySem.F.type_list_index (uW K rfl) (pv 4) (aa (pv 6) ab)) (λ_ _=>rfl))) ⟨⟨rfl,rfl,by first | exact .inl rfl | exact .inr rfl⟩,trivial⟩ (λ_ _ _ _=>(aB (i:=0) (by decide+kernel:List.Nodup (["_law_strand","_law_end"]:List Str)) rfl (Or.inl rfl))) (λ_ _ _ _=>eO) (λ_ _ _ _=>(bW (aa (pv 1) (aa (pv 0) ab))))) ab)))) (ag (ar (i:=7) eT.nd rfl (Or.inl rfl) (aN (bC K rfl) (pv 3) (bE K rfl Qar PySem.F.slot_list_index PySem.F.type_list_index (uW K rfl) (pv 4) (aa (ao b4 (hr.mono ∅) rfl T.kQ.mg T.kQ.fn.kp T.kQ.bd .nil aD (aa (pv 6) ab)) ab)) (λ_ _=>rfl)))
   (ah (cj (bE K rfl Qar Qd1 Qd0 kD (pv 5) (aa (bT ["_law_strand","_law_end"] [none,some 6] (Ko K rfl rfl T.z_reversed (aa (pv 7) ab)) ⟨⟨rfl,rfl,by first | exact .inl rfl | exact .inr rfl⟩,trivial⟩ (λ_ _ _ _=>(aB (i:=0) (by decide+kernel:List.Nodup (["_law_strand","_law_end"]:List Str)) rfl (Or.inl rfl))) (λ_ _ _ _=>eO) (λ_ _ _ _=>(bW (aa (pv 1) (aa (pv 0) ab))))) ab))))))))
   (ah (aH (pv 5))))))),?_⟩
 obtain ⟨y,dr,ws,os,rfl,hy,hz,nI,hd,q⟩:=h
 have hs:=Zs1
 have VP:=eF hy
 have xP:=nI.1
 obtain ⟨⟨wt,ot,d1,d2,d3⟩,dO⟩:=id hd
 refine ⟨_,rfl,dr,_,rfl,cu.of d1,rfl,_,_,rfl,_,_,rfl,rfl,?_⟩
 refine ⟨_,rfl,y,rfl,(),λp0 l0 H0 n0 ZD ZE XF s0=>?_⟩
 rw[lR hy.lt]at ZE
 have el:=m9 ZE XF
 subst el
 refine ⟨by show 0<=sizeLine;decide,λp1 n1=>?_⟩
 have n1H:H p1=none:=aj.free s0 n1
 have h01:p0≠p1:=au ZD n1
 have Dt:=s0.trans (aj.upd (o:=HO.lst []) n1)
 refine ⟨_,rfl,y,rfl,?_⟩
 refine v8 (xs:=cT y) (λi σ H'=>∃(ev sv:Option V) (ps:List Pu),σ=[some (.str (S y)),some (.ref dr),some (.ref wt),some (.ref ot),some (.ref p0),some (.ref p1),ev,sv]/\H' p1=some (.lst (pN ps))/\(∀p∈ps,xg H' p)/\ps.map Pu.is=(y.take i).flatMap (dZ y os)/\(ps:)<=100*i/\aj H0 H')
  ⟨none,none,[],rfl,ae,λ_ h=>absurd h Qal,rfl,Qao _,aj.upd n1⟩ ?_ ?_
 ·rintro i x σ H1 hx ⟨ev,sv,ps,rfl,gp,nH,gP,gQ,s1⟩
  obtain ⟨e,he,rfl⟩:=fT hx
  have A9:=Qai he
  have hi:i<(y:):=(NU.mp he).1
  have zM:=hy.lt e A9
  obtain ⟨o,o1,o2,o3⟩:=iR (os:=os) hy A9 ()
  have ofw:=(dO o o1).fw
  have sH:=s0.trans s1
  have IV:=s1 _ _ ZD
  have ok:=(dO o o1).same sH
  have SF:=CM hy A9
  have ZF:(y.take (i+1)).flatMap (dZ y os)=(y.take i).flatMap (dZ y os)++dZ y os e:=by
   rw[<-take_snoc he,Qaw,Qa3,Qef,Qa4]
  refine ⟨_,rfl,_,rfl,p0,_,rfl,.inl (bf.of IV),rfl,Gj _,_,rfl,cf (λz=>?_) (λz=>?_)⟩
  ·have ZG:e∈aW:=by
    have z':Fs (.str (S [e])) (cT (dJ y))=true:=z
    rw[B2]at z'
    have:=(Qa8.mp ((eV y).mem_iff.mp (of_decide_eq_true z'))).2
    rw[gK zM]at this
    exact of_decide_eq_true this
   have hc:e∉i5:=λz=>ow e z ZG
   rw[(bj e ZG).2.1]at o2 SF
   have XG:nN y os e=o.ps:=by
    unfold nN
    rw[MJ e zM.mem,decide_eq_false hc,if_neg ∅,o3]
   refine ⟨_,rfl,.inl ⟨rfl,_,bf.of gp⟩,?_⟩
   refine ⟨_,rfl,_,rfl,.inl ⟨rfl,_,bf.of IV⟩,_,rfl,p0,dJ y,e,rfl,rfl,IV,SF,ot,_,_,_,rfl,rfl,cu.of (sH _ _ d3),bY (rT o2),o.o,rfl,⟨_,cu.of ok.tp⟩,?_⟩
   refine mM (K:=K) (a:=o.o) (xs:=e_ o.ps) (λj acc H'=>aj H1 H'/\∃us:List Pu,acc=pN us/\(∀p∈us,xg H' p)/\us.map Pu.is=((o.ps.take j).map λp=>(p.c,p.i,e))/\(us:)=j) (by rw[cE];lia) (λi acc H' h=>cu.of (h.1 _ _ ok.tp)) ⟨aj.refl _,[],rfl,λ_ h=>absurd h Qal,rfl,rfl⟩ ?_ ?_
   ·rintro j x acc H2 Nx hj hx jK ⟨s2,us,rfl,ju,kz,qF⟩ nx
    obtain ⟨p,jC,rfl⟩:=wV hx
    have Uj:=(ok.pr p (Qai jC)).same s2
    refine ⟨⟨rfl,trivial⟩,cW ⟨_,rfl,_,rfl,by show 2<=sizeLine;decide,λt nt=>?_⟩⟩
    have st:=aj.upd (o:=HO.tup [V.str (S [e]),V.ref p.t]) nt
    walk_at"7"
    ·rcases Qaf.mp hu with g | g
     ·exact (ju u g).ts (aR.of st)
     ·rw[Qab.mp g];exact ⟨ae,Uj.same st⟩
    ·rw[Qad,kz, <-take_snoc jC,Qad];rfl
   ·rintro acc H2 D jK ⟨s2,us,rfl,ju,kz,qF⟩ hD
    rw[cE]at kz qF
    rw[Qbg]at kz
    have sD:=aj.upd (o:=HO.lst (pN us)) hD
    have IW:=sD _ _ (s2 _ _ gp)
    refine ⟨p1,D,_,_,rfl,rfl,IW,ae,by rw[kN,kN];lia,?_⟩
    have tU:aR (upd H2 D (.lst (pN us))) (upd (upd H2 D (.lst (pN us))) p1 (.lst (pN ps++pN us))):=aR.jx IW
    have tA:=((aR.of s2).trans (aR.of sD)).trans tU
    refine ⟨_,_,ps++us,rfl,by rw[ae,Dc],λu hu=>?_,?_,by rw[U3];lia,λa u ea=>?_⟩
    ·rcases Qaf.mp hu with g | g
     ·exact (nH u g).ts tA
     ·exact (ju u g).ts ((aR.of sD).trans tU)
    ·rw[Qad,gP,kz,ZF]
     unfold dZ
     rw[XG]
    ·rw[aq (au ea n1)];exact sD _ _ (s2 _ _ (s1 a u ea))
  ·have hc:e∈i5:=by
    have z': ¬Fs (.str (S [e])) (cT (dJ y))=true:=z
    rw[B2]at z'
    rcases zM with g | g
    ·exact absurd (decide_eq_true ((eV y).mem_iff.mpr (Qa8.mpr ⟨A9,(bj e g).1⟩))) z'
    ·exact g
   rw[(b7 e hc).2.1]at o2 SF
   have XG:nN y os e=o.ps.reverse:=by
    unfold nN
    rw[MJ e zM.mem,decide_eq_true hc,if_pos rfl,o3]
   refine ⟨_,rfl,_,rfl,.inl ⟨rfl,_,bf.of IV⟩,_,rfl,e,rfl,zM,p0,dJ y,ak e,rfl,rfl,IV,SF,ot,_,_,_,rfl,rfl,cu.of (sH _ _ d3),bY (rT o2),?_⟩
   refine ⟨_,rfl,.inl ⟨rfl,_,bf.of gp⟩,?_⟩
   refine ⟨_,rfl,o.o,_,rfl,cu.of ok.tp,?_⟩
   refine Eh (K:=K) (a:=o.o) (xs:=e_ o.ps) (λj acc H'=>aj H1 H'/\∃us:List Pu,acc=pN us/\(∀p∈us,xg H' p)/\us.map Pu.is=((o.ps.reverse.take j).map λp=>(p.c,p.i,e))/\(us:)=j) (by rw[cE];lia) (λi acc H' h=>cu.of (h.1 _ _ ok.tp)) ⟨aj.refl _,[],rfl,λ_ h=>absurd h Qal,rfl,rfl⟩ ?_ ?_
   ·rintro j x acc H2 Nx hj hx jK ⟨s2,us,rfl,ju,kz,qF⟩ nx
    rw[CO]at hx
    obtain ⟨p,jC,rfl⟩:=wV hx
    have Uj:=(ok.pr p (Qed.mp (Qai jC))).same s2
    refine ⟨⟨rfl,trivial⟩,cW ⟨_,rfl,_,rfl,by show 2<=sizeLine;decide,λt nt=>?_⟩⟩
    have st:=aj.upd (o:=HO.tup [V.str (S [e]),V.ref p.t]) nt
    walk_at"7"
    ·rcases Qaf.mp hu with g | g
     ·exact (ju u g).ts (aR.of st)
     ·rw[Qab.mp g];exact ⟨ae,Uj.same st⟩
    ·rw[Qad,kz, <-take_snoc jC,Qad];rfl
   ·rintro acc H2 D jK ⟨s2,us,rfl,ju,kz,qF⟩ hD
    rw[cE]at kz qF
    rw[<-Qbb (as:=o.ps),Qbg]at kz
    have sD:=aj.upd (o:=HO.lst (pN us)) hD
    have IW:=sD _ _ (s2 _ _ gp)
    refine ⟨p1,D,_,_,rfl,rfl,IW,ae,by rw[kN,kN];lia,?_⟩
    have tU:aR (upd H2 D (.lst (pN us))) (upd (upd H2 D (.lst (pN us))) p1 (.lst (pN ps++pN us))):=aR.jx IW
    have tA:=((aR.of s2).trans (aR.of sD)).trans tU
    refine ⟨_,_,ps++us,rfl,by rw[ae,Dc],λu hu=>?_,?_,by rw[U3];lia,λa u ea=>?_⟩
    ·rcases Qaf.mp hu with g | g
     ·exact (nH u g).ts tA
     ·exact (ju u g).ts ((aR.of sD).trans tU)
    ·rw[Qad,gP,kz,ZF]
     unfold dZ
     rw[XG]
    ·rw[aq (au ea n1)];exact sD _ _ (s2 _ _ (s1 a u ea))
 ·rintro σ H1 ⟨ev,sv,ps,rfl,gp,nH,gP,gQ,s1⟩
  rw[aY]at gQ gP
  rw[Qbg]at gP
  exact ⟨_,rfl,q p1 ps H1 n1H gp nH gP () (s0.trans s1)⟩
theorem LD:bV P w K mg base gu 3 QW Rx ["_law_yard_here","_law_drawing_here"] (Dr K):=by
 have Fg:=Bz (P:=P) (w:=w) (base:=base) T
 walk_at"n"
 refine T.VD.fn.ok eM (λvs H Q E h=>IC h) (λ_ _ _ _ H vs Q E hr h=>?_)
 refine ⟨_,(ag (ar (i:=2) eM.nd rfl (Or.inl rfl) (bB (Az (P:=P) (w:=w) rfl rfl hr rfl) rfl T.z_dict boot_dict (aa (bT ["_law_k","_law_point"] [none,none] (mL K rfl rfl T.z_enumerate (aa (ao Fg (hr.mono ∅) rfl T.VC.mg T.VC.fn.kp T.VC.bd .nil aD (aa (pv 0) (aa (pv 1) ab))) ab)) trivial (λ_ _ _ _=>(dF (n:=2) K rfl rfl (aZ (aB (i:=0) (by decide+kernel:List.Nodup (["_law_k","_law_point"]:List Str)) rfl (Or.inl rfl)) (aZ (aB (i:=1) (by decide+kernel:List.Nodup (["_law_k","_law_point"]:List Str)) rfl (Or.inl rfl)) dD)))) (λ_ _ _ _=>eO) (λ_ _ _ _=>(bW (aa (pv 1) (aa (pv 0) ab))))) ab)))
   (ag (ar (i:=3) eM.nd rfl (Or.inl rfl) (cP ab))
   (ag (cn PassesOwn.never rfl (mK K rfl rfl T.z_enumerate (aa (aN (bC K rfl) (pv 1) ai (λ_ _=>rfl)) ab)) (dF (n:=2) K rfl rfl (aZ (aB (i:=4) eM.nd rfl (Or.inl rfl)) (aZ (aB (i:=5) eM.nd rfl (Or.inl rfl)) dD))) (ah (cn PassesOwn.never rfl (mI rfl T.z_enumerate (aa (pv 5) ab)) (dF (n:=2) K rfl rfl (aZ (aB (i:=6) eM.nd rfl (Or.inl rfl)) (aZ (aB (i:=7) eM.nd rfl (Or.inl rfl)) dD))) (ag (ar (i:=8) eM.nd rfl (Or.inl rfl) (aC fI (aC d_ (pv 6) ai) (aA aU rfl T.z_len Qaq (aa (pv 5) ab))))
   (ah (cj (bE K rfl Qar Qbm Qbl cG (pv 3) (aa (aA (t9 K rfl) rfl T.z_sorted boot_sorted (aa (cP (aa (yE (P:=P) (w:=w) rfl rfl (Gz hr) (pv 2) (bW (aa (ao b4 (hr.mono ∅) rfl T.kQ.mg T.kQ.fn.kp T.kQ.bd .nil aD (aa (aN iM (pv 5) (pv 8) (λ_ _=>rfl)) ab)) (aa (bW (aa (pv 4) (aa (pv 8) ab))) ab))) (λ_ _=>rfl)) (aa (yE (P:=P) (w:=w) rfl rfl (Gz hr) (pv 2) (bW (aa (pv 7) (aa (bW (aa (pv 4) (aa (pv 6) ab))) ab))) (λ_ _=>rfl)) ab))) ab)) ab))))))))
   (ag (ar (i:=9) eM.nd rfl (Or.inl rfl) ai)
   (ag (cn PassesOwn.never rfl (mL K rfl rfl T.z_enumerate (aa (pv 3) ab)) (dF (n:=2) K rfl rfl (aZ (aB (i:=10) eM.nd rfl (Or.inl rfl)) (aZ (aB (i:=11) eM.nd rfl (Or.inr rfl)) dD))) (ah (ar (i:=9) eM.nd rfl (Or.inl rfl) (aC bp (pv 9) (aA (aQ K rfl) rfl T.z_len Qaq (aa (bT ["_law_two","_law_one"] [none,some 11] (eB K rfl (bZ (yp K rfl) (pv 3) dE (bS (pv 10)))) ⟨⟨rfl,rfl,by first | exact .inl rfl | exact .inr rfl⟩,trivial⟩ (λ_ _ _ _=>(aB (i:=0) (by decide+kernel:List.Nodup (["_law_two","_law_one"]:List Str)) rfl (Or.inl rfl))) (λ_ _ _ _=>(qP (aK N5 (x9 jI jI (aN (bz K rfl) (pv 1) ai (λ_ _=>rfl)) (aN (bz K rfl) (pv 0) ai (λ_ _=>rfl)) (aN (bz K rfl) (pv 1) ai (λ_ _=>rfl))) (x9 jI jI (aN (bz K rfl) (pv 1) ai (λ_ _=>rfl)) (aN (bz K rfl) (pv 0) ai (λ_ _=>rfl)) (aN (bz K rfl) (pv 1) ai (λ_ _=>rfl))) (aX _)))) (λ_ _ _ _=>(pv 0))) ab))))))
   (ah (aH (pv 9)))))))),?_⟩
 obtain ⟨y,dr,ws,os,rfl,hy,hz,xA,nI,hd,q⟩:=h
 have hs:=Zs1
 have Kl:=A8 hy nI
 obtain ⟨⟨wt,ot,d1,d2,d3⟩,dO⟩:=id hd
 refine Xj λN0 h0=>?_
 refine ⟨_,rfl,_,rfl,y,dr,ws,os,rfl,hy,hz,nI,hd,λp1 ps H1 n1 h1 nH gP gQ s1=>?_⟩
 refine ⟨p1,rfl,⟨_,bf.of h1⟩,?_⟩
 refine AB (K:=K) (a:=p1) (xs:=pN ps) (λj acc H'=>aj H1 H'/\∃es:List Mv,acc=es.map (λe=>V.ref e.t)/\(∀e∈es,B7 H' e)/\es.map (·.k)=((cV y os).take j).map nA/\(∀(m:Nat) (e:Mv),es[m]? =some e->e.n=((0+m:Nat):Int))/\(es:)=j) (by rw[kN];lia) (λi acc H' h=>bf.of (h.1 _ _ h1)) ⟨aj.refl _,[],rfl,λ_ h=>absurd h Qal,rfl,λm e h=>by simp at h,rfl⟩ ?_ ?_
 ·rintro j x acc H2 T2 Nx hx jK ⟨s2,es,rfl,Uk,RF,VI,zM⟩ nT nx
  obtain ⟨p,hp,rfl⟩:=O7 hx
  have Uj:=(nH p (Qai hp)).ts (aR.of s2)
  have Ul:(cV y os)[j]? =some p.is:=by rw[<-gP,Qag,hp];rfl
  have sT:=aj.upd (o:=HO.tup [V.int j,V.ref p.t]) nT
  refine ⟨T2,_,rfl,cu.of ae,rfl,_,_,rfl,_,_,rfl,rfl,trivial,cW ?_⟩
  refine ⟨_,rfl,_,rfl,by show 2<=sizeLine;decide,λt nt=>?_⟩
  have st:=sT.trans (aj.upd (o:=HO.tup [V.ref p.t,V.int j]) nt)
  refine nx _ _ (by simpa using jK) ⟨s2.trans st,es++[⟨t,p.t,nA p.is,j⟩],by rw[Qad];rfl,λe he=>?_,?_,λm e hm=>?_,by simp[zM]⟩
  ·rcases Qaf.mp he with g | g
   ·exact ⟨st _ _ (Uk e g).tp,(Uk e g).ky.ts (aR.of st)⟩
   ·rw[Qab.mp g];exact ⟨ae,(Uj.ts (aR.of st)).key⟩
  ·rw[Qad,RF, <-take_snoc Ul,Qad];rfl
  ·by_cases z:m<(es:)
   ·rw[Qbi z]at hm;exact VI m e hm
   ·have Hw:m=(es:):=by
     have:=(NU.mp hm).1
     rw[U3,List.length_singleton]at this
     lia
    subst Hw
    rw[Qb0 (YS _),Qfb]at hm
    cases hm
    show (j:Int)=_
    lia
 ·rintro acc H2 D jK ⟨s2,es,rfl,Uk,RF,VI,zM⟩ hD
  have XH:(ps:)=(cV y os:):=by rw[<-gP,Qi]
  rw[kN]at RF zM
  rw[XH,Qbg]at RF
  have sD:=aj.upd (o:=HO.lst (es.map λe=>V.ref e.t)) hD
  have Um:∀e∈es,B7 (upd H2 D (HO.lst (es.map λe=>V.ref e.t))) e:=λe he=>⟨sD _ _ (Uk e he).tp,(Uk e he).ky.ts (aR.of sD)⟩
  have ndk:(es.map (·.k)).Nodup:=by
   rw[RF]
   show (List.map _ _).Pairwise (· ≠ ·)
   rw[Qby]
   exact Kl.imp λ{a b} g z=>g (zp z)
  refine ⟨D,es,rfl,ae,Um,ndk,(),λdc ndc=>?_⟩
  have sC:=aj.upd (o:=Jt P w dc (Ef es)) ndc
  have TK:upd (upd H2 D (HO.lst (es.map λe=>V.ref e.t))) dc (Jt P w dc (Ef es)) dc=some (Jt P w dc (Ef es)):=ae
  have IX:∀e∈Ef es,jT (upd (upd H2 D (HO.lst (es.map λe=>V.ref e.t))) dc (Jt P w dc (Ef es))) e.1 e.2.1:=λe he=>by
   unfold Ef at he
   obtain ⟨e',u5,rfl⟩:=Qam.mp he
   exact (Um e' u5).ky.ts (aR.of sC)
  have s3:aj H (upd (upd H2 D (HO.lst (es.map λe=>V.ref e.t))) dc (Jt P w dc (Ef es))):=((s1.trans s2).trans sD).trans sC
  generalize upd (upd H2 D (HO.lst (es.map λe=>V.ref e.t))) dc (Jt P w dc (Ef es))=H3 at TK IX s3 ⊢
  have MY:∀x∈cV y os,((Ef es).find? λz=>decide (z.1=nA x)).map (·.2.2)=some (((cV y os).idxOf x:Nat):Int):=λx hx=>by
   have:=MO (cV y os) es 0 RF VI hx
   rw[Qd5]at this
   exact this
  refine h0 _ _ ⟨by show 0<=sizeLine;decide,λp5 n5=>?_⟩
  refine Tx λN1 h1=>?_
  have RG:=aj.upd (o:=HO.lst []) n5
  have XI:=xA.t_
  have MT:=s3 _ _ d1
  have LA:=s3 _ _ d2
  refine ⟨_,rfl,dr,_,0,_,rfl,rfl,cu.of (RG _ _ MT),rfl,?_⟩
  refine ⟨wt,rfl,⟨_,cu.of (RG _ _ LA)⟩,?_⟩
  refine kF (K:=K) (a:=wt) (xs:=jy ws) (λj σ H'=>∃(us:List Ch) (cv wv iv lv bv:Option V),σ=[some (.str (S y)),some (.ref dr),some (.ref dc),some (.ref p5),cv,wv,iv,lv,bv,none,none,none]/\H' p5=some (.lst (ui us))/\(∀u∈us,zB H' u/\u.t≠p5)/\us.map Ch.v=fW (cV y os) ws j/\(us:)<=12*j/\aj H3 H')
   ⟨[],none,none,none,none,none,rfl,ae,λ_ h=>absurd h Qal,rfl,Qao _,RG⟩ (λj σ H' _ ⟨_,_,_,_,_,_,_,_,_,_,_,h⟩=>cu.of (h _ _ LA)) ?_ ?_
  ·rintro j x σ H4 T hx ⟨us,cv,wv,iv,lv,bv,rfl,Fh,ju,kz,qF,s4⟩ nT
   have hj:j<(ws:):=by
    have:=(NU.mp hx).1
    rwa [bN]at this
   rw[ir hj]at hx
   cases hx
   have xQ:ws[j]? =some ws[j]:=NT hj
   obtain ⟨Fi,pR⟩:=xA.all _ (Qa1 hj)
   generalize ws[j]=w0 at xQ Fi pR ⊢
   have sT:=aj.upd (o:= .tup [.int j,.str (S w0)]) nT
   walk_at"j"
   refine ⟨_,rfl,w0,rfl,?_⟩
   refine yv (l:=w0) (λi σ H'=>∃(us:List Ch) (iv lv bv:Option V),σ=[some (.str (S y)),some (.ref dr),some (.ref dc),some (.ref p5),some (.int j),some (.str (S w0)),iv,lv,bv,none,none,none]/\H' p5=some (.lst (ui us))/\(∀u∈us,zB H' u/\u.t≠p5)/\us.map Ch.v=fW (cV y os) ws j++lU (cV y os) j w0 i/\(us:)<=12*j+i/\aj H3 H')
    ⟨us,iv,lv,bv,rfl,sT _ _ Fh,λu hu=>⟨sT _ _ (ju u hu).1,(ju u hu).2⟩,by rw[kz];show _=_++[];rw[Qa4],(),s4.trans sT⟩ ?_ ?_
   ·clear ju kz qF Fh s4 sT nT
    rintro i l σ H5 T5 hl ⟨us,iv,lv,bv,rfl,LF,ju,kz,qF,s5⟩ nT
    have hi:=(NU.mp hl).1
    have sT:=aj.upd (o:=HO.tup [V.int i,V.str (S [l])]) nT
    refine ⟨T5,_,rfl,cu.of ae,rfl,_,_,rfl,_,_,rfl,rfl,?_⟩
    show zS _ _ _ _ _
    refine yI λDx LB=>?_
    have LG:=sT _ _ LF
    have XJ:=s5.trans sT
    have Uo:∀u∈us,zB (upd H5 T5 (HO.tup [V.int i,V.str (S [l])])) u/\u.t≠p5:=λu hu=>⟨sT _ _ (ju u hu).1,(ju u hu).2⟩
    generalize upd H5 T5 (HO.tup [V.int i,V.str (S [l])])=H6 at LG XJ Uo ⊢
    have gQ:=wY hi
    have e1:w0[lT (w0:) i]? =some (w0.getD (lT (w0:) i) 0):=by rw[Qaa,NT gQ];rfl
    have e2:w0.getD i 0=l:=by rw[Qaa,hl];rfl
    have m1:=MY _ (y9 hy nI xQ e1 (Fi _ (Qai e1)) (.inr rfl))
    have m2:=MY _ (y9 hy nI xQ hl (Fi _ (Qai hl)) (.inl rfl))
    have Pp:(0:Int)<((w0:):Int):=by lia
    have hpi:=wZ hi
    refine ⟨_,rfl,_,_,rfl,rfl,_,rfl,w0,rfl,(),_,_,rfl,rfl,Pp,?_⟩
    have XM:(λi j:Int=>V.int (i%j)) ((i:Int) - 1) ((w0:):Int)=V.int ((lT (w0:) i:Nat):Int):=congrArg V.int hpi
    rw[XM]
    have tM:=hy.lt _ (Fi _ (Qai e1))
    have VQ:eI (cV y os) j w0 i=(j,i,(cV y os).idxOf (j,lT (w0:) i,ak (w0.getD (lT (w0:) i) 0)),(cV y os).idxOf (j,i,l)):=by unfold eI;rw[e2]
    generalize w0.getD (lT (w0:) i) 0=l1 at e1 m1 tM VQ
    generalize (cV y os).idxOf (j,lT (w0:) i,ak l1)=k1 at m1 VQ
    generalize (cV y os).idxOf (j,i,l)=k2 at m2 VQ
    refine ⟨_,rfl,.inl ⟨rfl,_,bf.of LG⟩,?_⟩
    refine ⟨_,rfl,_,rfl,_,rfl,w0,_,l1,rfl,rfl,(),bY e1,l1,rfl,tM,_,rfl,_,rfl,by show 2<=sizeLine;decide,λt1 nt1=>⟨by show 2<=sizeLine;decide,λt2 Pw=>?_⟩⟩
    have xK:=aj.upd (o:=HO.tup [V.int j,V.int (lT (w0:) i:Nat)]) nt1
    have vR:=aj.upd (o:=HO.tup [V.str (S [ak l1]),V.ref t1]) Pw
    have ZH:jT (upd (upd H6 t1 (HO.tup [V.int j,V.int (lT (w0:) i:Nat)])) t2 (HO.tup [V.str (S [ak l1]),V.ref t1])) (nA (j,lT (w0:) i,ak l1)) t2:=⟨t1,ae,vR _ _ ae⟩
    have VR:=xK.trans vR
    generalize upd (upd H6 t1 (HO.tup [V.int j,V.int (lT (w0:) i:Nat)])) t2 (HO.tup [V.str (S [ak l1]),V.ref t1])=H7 at VR ZH ⊢
    have XN:=XJ.trans VR
    refine ⟨dc,_,_,t2,_,rfl,XN _ _ TK,λe he=>(IX e he).ts (aR.of XN),rfl,ZH,m1,?_⟩
    refine ⟨_,rfl,_,rfl,_,rfl,_,rfl,by show 2<=sizeLine;decide,λt3 nt3=>⟨by show 2<=sizeLine;decide,λt4 nt4=>?_⟩⟩
    have Nw:=aj.upd (o:=HO.tup [V.int j,V.int i]) nt3
    have ZI:=aj.upd (o:=HO.tup [V.str (S [l]),V.ref t3]) nt4
    have ZJ:jT (upd (upd H7 t3 (HO.tup [V.int j,V.int i])) t4 (HO.tup [V.str (S [l]),V.ref t3])) (nA (j,i,l)) t4:=⟨t3,ae,ZI _ _ ae⟩
    have VS:=Nw.trans ZI
    generalize upd (upd H7 t3 (HO.tup [V.int j,V.int i])) t4 (HO.tup [V.str (S [l]),V.ref t3])=H9 at VS ZJ ⊢
    have ZK:=XN.trans VS
    refine ⟨dc,_,_,t4,_,rfl,ZK _ _ TK,λe he=>(IX e he).ts (aR.of ZK),rfl,ZJ,m2,by show 2<=sizeLine;decide,λt5 nt5=>?_⟩
    have Jo:=aj.upd (o:=HO.lst [V.int (k1:Nat),V.int (k2:Nat)]) nt5
    refine ⟨t5,[((k1:Nat):Int),((k2:Nat):Int)],rfl,bf.of ae,by show 2<64;decide,λt6 ms XO pm pw=>?_⟩
    have em:ms=Lm (eI (cV y os) j w0 i):=O8 (by rw[VQ];exact pm) pw
    subst em
    have st6:=aj.upd (o:=HO.lst ((Lm (eI (cV y os) j w0 i)).map V.int)) XO
    have IZ:upd (upd H9 t5 (HO.lst [V.int (k1:Nat),V.int (k2:Nat)])) t6 (HO.lst ((Lm (eI (cV y os) j w0 i)).map V.int)) t6=some (.lst ((Lm (eI (cV y os) j w0 i)).map V.int)):=ae
    have VT:=((VR.trans VS).trans Jo).trans st6
    have Up:=VT _ _ LG
    have ZL:t6≠p5:=λz=>by rw[z,((VR.trans VS).trans Jo) _ _ LG]at XO;cases XO
    generalize upd (upd H9 t5 (HO.lst [V.int (k1:Nat),V.int (k2:Nat)])) t6 (HO.lst ((Lm (eI (cV y os) j w0 i)).map V.int))=HA at VT Up IZ ⊢
    refine ⟨p5,_,_,rfl,rfl,Up,by rw[nE];lia,?_⟩
    refine LB _ _ ⟨us++[⟨t6,eI (cV y os) j w0 i⟩],_,_,_,rfl,by rw[ae];exact congrArg (λx=>some (HO.lst x)) (zA us ⟨t6,eI (cV y os) j w0 i⟩),λu hu=>?_,by rw[Qad,kz,pL,Qbd];rfl,by rw[U3];show (us:)+1<=_;lia,λa o ea=>by rw[aq (au ea n5)];exact VT _ _ (XJ a o ea)⟩
    rcases Qaf.mp hu with g | g
    ·obtain ⟨g1,g2⟩:=Uo u g
     exact ⟨by unfold zB;rw[aq g2];exact VT _ _ g1,g2⟩
    ·rw[Qab.mp g]
     exact ⟨by unfold zB;rw[aq ZL];exact IZ,ZL⟩
   ·rintro σ H5 ⟨us,iv,lv,bv,rfl,LF,ju,kz,qF,s5⟩
    exact ⟨us,_,_,_,_,_,rfl,LF,ju,by rw[kz,nc xQ],(),s5⟩
  ·rintro σ H4 ⟨us,cv,wv,iv,lv,bv,rfl,LF,ju,kz,qF,s4⟩
   rw[bN]at kz qF
   have XQ:us.map Ch.v=fG y ws os:=kz
   refine h1 _ _ ?_
   refine Tx λN2 h2=>?_
   refine ⟨_,rfl,p5,rfl,⟨_,bf.of LF⟩,?_⟩
   refine og (K:=K) (a:=p5) (xs:=ui us) (λk σ H'=>∃v10 v11:Option V,σ=[some (.str (S y)),some (.ref dr),some (.ref dc),some (.ref p5),cv,wv,iv,lv,bv,some (.int (uh ((fG y ws os).take k):Nat)),v10,v11]/\aj H4 H') ⟨none,none,rfl,aj.refl _⟩ (λk σ H' _ ⟨_,_,_,h⟩=>bf.of (h _ _ LF)) ?_ ?_
   ·rintro k x σ H5 T hx ⟨v10,v11,rfl,s5⟩ nT
    obtain ⟨u,hu,rfl⟩:=ID hx
    have sT:=s5.trans (aj.upd (o:= .tup [.int k,.ref u.t]) nT)
    walk_at"j"
    generalize upd H5 T (.tup [.int k,.ref u.t])=H6 at sT ⊢
    refine yI λDx LB=>?_
    have hk:k<(us:):=(NU.mp hu).1
    have huk:(fG y ws os)[k]? =some u.v:=by rw[<-XQ,Qag,hu];rfl
    refine ⟨_,rfl,_,rfl,_,rfl,_,rfl,p5,_,rfl,bf.of (sT _ _ LF),λp1 n1=>?_⟩
    have ec:tR (ui us) none (some (k:Int))=ui (us.take k):=by
     show cut (ui us) none (some (k:Int))=_
     rw[dP]
     unfold ui
     rw[Qfx]
    rw[ec]
    have s7:=sT.trans (aj.upd (o:= .lst (ui (us.take k))) n1)
    have gp:upd H6 p1 (.lst (ui (us.take k))) p1=some (.lst (ui (us.take k))):=ae
    generalize upd H6 p1 (.lst (ui (us.take k)))=H7 at s7 gp ⊢
    have hsz:(ui (us.take k):)<sizeLine:=by rw[nE,Qas];lia
    have LH:zB H7 u:=s7 _ _ (ju u (Qai hu)).1
    refine ⟨p1,rfl,⟨_,bf.of gp⟩,?_⟩
    refine kE (K:=K) (a:=p1) (xs:=ui (us.take k)) (λj acc H'=>H'=H7/\acc=ui (((us.take k).take j).filter λz=>meets u.v z.v)) hsz (λj acc H' h=>by rw[h.1];exact bf.of gp) ⟨rfl,rfl⟩ ?_ ?_
    ·rintro j x acc H8 Nx hj hx nG ⟨rfl,rfl⟩ nx
     obtain ⟨z,Ju,rfl⟩:=ID hx
     have RH:zB H8 z:=s7 _ _ (ju z (Qb4 (Qai Ju))).1
     have e:=E8 (p:=λz:Ch=>meets u.v z.v) Ju
     have cm:=Ih u.v z.v
     unfold zB Lm at LH RH
     generalize ((min u.v.2.2.1 u.v.2.2.2:Nat):Int)=lo at LH cm
     generalize ((max u.v.2.2.1 u.v.2.2.2:Nat):Int)=hi at LH cm
     generalize ((min z.v.2.2.1 z.v.2.2.2:Nat):Int)=z0 at RH cm
     generalize ((max z.v.2.2.1 z.v.2.2.2:Nat):Int)=z1 at RH cm
     refine ⟨⟨rfl,trivial⟩,?_⟩
     refine Tz λQ' hQ=>?_
     have fin:∀b,b=meets u.v z.v->Q' b H8:=λb eb=>hQ _ _ (by
      subst eb
      by_cases zm:meets u.v z.v=true
      ·exact Tw zm ⟨_,rfl,nx _ _ (by simpa using nG) ⟨rfl,by rw[e,if_pos zm, <-zA]⟩⟩
      ·exact Tv (Qdx _ |>.mp zm) (nx _ _ (Qdq nG) ⟨rfl,by rw[e,if_neg zm,Qa4]⟩))
     clear hQ nx nG e
     refine ⟨_,rfl,u.t,_,_,_,rfl,rfl,bf.of LH,rfl,_,rfl,z.t,_,_,_,rfl,rfl,bf.of RH,rfl,_,_,rfl,rfl,_,rfl,cf (λa1=>?_) (λa1=>?_)⟩
     ·refine ⟨_,rfl,u.t,_,_,_,rfl,rfl,bf.of LH,rfl,_,_,rfl,rfl,_,rfl,u.t,_,_,_,rfl,rfl,bf.of LH,rfl,_,rfl,z.t,_,_,_,rfl,rfl,bf.of RH,rfl,_,_,rfl,rfl,_,rfl,cf (λa2=>?_) (λa2=>?_)⟩
      ·exact ⟨_,rfl,u.t,_,_,_,rfl,rfl,bf.of LH,rfl,_,_,rfl,rfl,_,_,rfl,rfl,_,rfl,fin _ ((xr1 _ (decide (z0<hi)) _ (decide (z1<hi)) a1 a2).trans cm)⟩
      ·exact ⟨_,_,rfl,rfl,_,rfl,fin _ ((xr2 _ (decide (z0<hi)) _ (decide (z1<hi)) a1 a2).trans cm)⟩
     ·refine ⟨_,rfl,u.t,_,_,_,rfl,rfl,bf.of LH,rfl,_,rfl,z.t,_,_,_,rfl,rfl,bf.of RH,rfl,_,_,rfl,rfl,_,rfl,cf (λa2=>?_) (λa2=>?_)⟩
      ·exact ⟨_,rfl,u.t,_,_,_,rfl,rfl,bf.of LH,rfl,_,_,rfl,rfl,_,_,rfl,rfl,_,rfl,fin _ ((xr3 _ (decide (z0<hi)) _ (decide (z1<hi)) a1 a2).trans cm)⟩
      ·exact ⟨_,_,rfl,rfl,_,rfl,fin _ ((xr4 _ (decide (z0<hi)) _ (decide (z1<hi)) a1 a2).trans cm)⟩
    ·rintro acc H8 D nG ⟨rfl,rfl⟩ hD
     rw[nE,Qbg]
     refine ⟨D,_,rfl,.inl (bf.of ae),_,_,rfl,rfl,?_⟩
     refine LB _ _ ⟨some (.int k),some (.ref u.t),?_,s7.trans (aj.upd hD)⟩
     have e3:=EY huk
     have e4:((fG y ws os).take k).filter (meets u.v)=((us.take k).filter λz=>meets u.v z.v).map Ch.v:=by
      rw[<-XQ, <-Qfx,Qfj]
      rfl
     rw[e3,e4,Qi,nE]
     rfl
   ·rintro σ H5 ⟨v10,v11,rfl,s5⟩
    rw[nE,show (us:)=(fG y ws os:) by rw[<-XQ,Qi],Qbg]
    exact h2 _ _ ⟨_,rfl,q H5 ((s3.trans s4).trans s5)⟩
theorem vL:bV P w K mg base gu 2 QQ Rq ["_law_box_here","_law_yard_here","_law_top"] (vh K):=by
 walk_at"s"
 walk_at"n"
 refine T.JG.fn.ok dv (λvs H Q E h=>AN h) (λ_ _ _ _ H vs Q E hr h=>?_)
 refine ⟨_,(ag (ar (i:=3) dv.nd rfl (Or.inl rfl) (aC bp ai (ao bK (hr.mono ∅) rfl T.fE.mg T.fE.fn.kp T.fE.bd .nil aD (aa (pv 0) (aa (pv 2) ab)))))
   (ag (ar (i:=4) dv.nd rfl (Or.inl rfl) (ao bK (hr.mono ∅) rfl T.fE.mg T.fE.fn.kp T.fE.bd .nil aD (aa (pv 0) (aa ai ab))))
   (ag (ar (i:=5) dv.nd rfl (Or.inl rfl) (nZ [] ⋯))
   (i4 (dS PassesOwn.never (aK jI (aA aU rfl T.z_len Qaq (aa (pv 5) ab)) (pv 3) (aX _)) (ag (ar (i:=6) dv.nd rfl (Or.inl rfl) (aN iM (pv 1) (ao bK (hr.mono ∅) rfl T.fE.mg T.fE.fn.kp T.fE.bd .nil aD (aa (pv 0) (aa (aA aU rfl T.z_len Qaq (aa (pv 1) ab)) ab))) (λ_ _=>rfl)))
   (i4 (cK (PW.pt (lJ (aK lN (pv 4) ai (aX _)) (lJ (aK o9 (aA aU rfl T.z_len Qaq (aa (pv 5) ab)) ai (aX _)) (kB (aK jI (aA aU rfl T.z_len Qaq (aa (pv 5) ab)) ai (aX _)))))) (ah (ar (i:=6) dv.nd rfl (Or.inl rfl) (aN iM (pv 5) (aC fI (aA aU rfl T.z_len Qaq (aa (pv 5) ab)) ai) (λ_ _=>rfl)))) b9)
   (ah (cK (PW.pt (R0 (aK jO (pv 5) (nZ [] ⋯) (aX _)) (Nm (aK N4 (pv 6) (ao b4 (hr.mono ∅) rfl T.kQ.mg T.kQ.fn.kp T.kQ.bd .nil aD (aa (aN iM (pv 5) (mq iZ ai) (λ_ _=>rfl)) ab)) (aX _))))) (ah (ar (i:=5) dv.nd rfl (Or.inl rfl) (aC fj (pv 5) (pv 6)))) (ah (ar (i:=5) dv.nd rfl (Or.inl rfl) (aC fj (pv 5) (aN iM (pv 5) (mq iZ ai) (λ_ _=>rfl))))))))))
   (i4 (dS PassesOwn.never (PW.pt (lJ (aK o9 (aA aU rfl T.z_len Qaq (aa (pv 5) ab)) ai (aX _)) (kB (aK jO (aN iM (pv 5) ai (λ_ _=>rfl)) (ao b4 (hr.mono ∅) rfl T.kQ.mg T.kQ.fn.kp T.kQ.bd .nil aD (aa (aN iM (pv 5) (mq iZ ai) (λ_ _=>rfl)) ab)) (aX _))))) (ah (ar (i:=5) dv.nd rfl (Or.inl rfl) (bZ kX (pv 5) dE (bS (mq iZ ai))))))
   (i4 (cK (PW.pt (lJ (aK lN (pv 4) ai (aX _)) (kB (aK Md (aC lL (aA aU rfl T.z_len Qaq (aa (pv 5) ab)) ai) (pv 2) (aX _))))) (ah (ar (i:=5) dv.nd rfl (Or.inl rfl) (aC fj (pv 5) (pv 5)))) b9)
   (ah (aH (pv 5))))))))),?_⟩
 obtain ⟨b,y,top,rfl,hb,hy,MZ,JJ,FC,RI,q⟩:=h
 have hs:=Zs1
 have Uq:(y:)<=sizeLine:=by lia
 refine ⟨_,rfl,_,rfl,b,_,rfl,hb,(),(),λn H1 hn xN s1=>?_⟩
 refine ⟨_,_,rfl,rfl,_,rfl,b,5,rfl,xN,∅,∅,λfm H2 Bn i3 s2=>?_⟩
 have hnt:n+1<=top:=by lia
 have xR:=s1.trans s2
 walk_at "wk"
 refine ⟨λσ' H'=>∃(w:Z) (lv:Option V),σ'=[some (.ref b),some (.str (S y)),some (.int top),some (.int (1+(n:Int))),some (.int fm),some (.str (S w)),lv]/\Wd y w/\1<=(w:)/\(w:)<=n+1/\bM H' b/\aG b H H',?_,?_⟩
 ·refine ⟨λk σ H'=>∃(w:Z) (lv:Option V),σ=[some (.ref b),some (.str (S y)),some (.int top),some (.int (1+(n:Int))),some (.int fm),some (.str (S w)),lv]/\k=n+1 - (w:)/\Wd y w/\(w:)<=n+1/\bM H' b/\aG b H H',⟨_,[],none,rfl,rfl,⟨EB.nil,λ_ h=>absurd h Qal⟩,Qao _,i3,xR⟩,?_⟩
  rintro k σ H3 ⟨w,lv,rfl,rfl,hw,pR,jr,s3⟩
  have qk:(w:)<=sizeLine:=by lia
  refine ⟨_,rfl,w,rfl,qk,_,rfl,_,_,rfl,rfl,_,rfl,cf (λz=>?_) (λz=>?_)⟩
  ·have z1:((w:):Int)<1+(n:Int):=of_decide_eq_true z
   refine ⟨_,rfl,_,rfl,_,rfl,y,rfl,Uq,b,_,rfl,jr,(),(),λr H4 MX pT s4=>?_⟩
   have hr:r<(y:):=by lia
   refine ⟨y,_,_,rfl,rfl,Uq,bY (NT hr),?_⟩
   have uZ:y[r]∈y:=Qa1 hr
   generalize y[r]=c at uZ ⊢
   refine ⟨λσ' H'=>H'=H4/\∃e,e∈y/\σ'=[some (.ref b),some (.str (S y)),some (.int top),some (.int (1+(n:Int))),some (.int fm),some (.str (S w)),some (.str (S [e]))],?_,?_⟩
   ·refine ⟨_,rfl,_,_,rfl,rfl,_,rfl,cf (λf1=>?_) (λf1=>?_)⟩
    ·refine ⟨_,rfl,w,rfl,qk,_,_,rfl,rfl,_,rfl,cf (λf2=>?_) (λf2=>?_)⟩
     ·have g2:(1:Int)<(w:):=of_decide_eq_true f2
      have dk:w≠[]:=λg=>by rw[g]at g2;simp at g2
      refine ⟨_,rfl,w,rfl,qk,_,_,rfl,rfl,_,rfl,cf (λf3=>?_) (λf3=>?_)⟩
      ·refine ⟨_,rfl,_,rfl,w,rfl,qk,_,_,rfl,rfl,by show (0:Int)<2;decide,w,_,_,rfl,rfl,qk,mY (by show -((w:):Int)<=((w:):Int)%2;lia) (by show ((w:):Int)%2<_;lia),?_⟩
       exact ⟨rfl,_,hw.bO _ (i9 dk _),rfl⟩
      ·exact ⟨rfl,c,uZ,rfl⟩
     ·refine DW ?_
      exact ⟨rfl,c,uZ,rfl⟩
    ·refine DW ?_
     exact ⟨rfl,c,uZ,rfl⟩
   rintro σ5 H5 ⟨rfl,e,A9,rfl⟩
   have s5:=s3.trans s4
   refine ⟨_,rfl,w,[],rfl,rfl,_,rfl,cf (λf=>?_) (λf=>?_)⟩
   ·have XF:w=[]:=of_decide_eq_true f
    refine SH ?_
    refine ⟨_,rfl,_,rfl,w,[e],rfl,rfl,by show (w:)+1<=_;lia,?_⟩
    exact ⟨n+1 - (w++[e]:),by rw[U3];show n+1 - ((w:)+1)<_;lia,w++[e],_,rfl,rfl,hw.more A9 λg=>absurd XF g,by rw[U3];show (w:)+1<=_;lia,pT,s5⟩
   ·have dk:w≠[]:=λg=>f (decide_eq_true g)
    have q_:0<(w:):=YR.mpr dk
    have K7:rd w (-1)∈y:=hw.bO _ (i9 dk _)
    have tM:tL w (-1)=some (rd w (-1)):=mY () ()
    refine ⟨_,rfl,_,rfl,_,rfl,w,_,_,rfl,rfl,qk,tM,_,rfl,hy.lt _ K7,[e],_,rfl,rfl,_,rfl,cf (λf2=>?_) (λf2=>?_)⟩
    ·have XR:e≠ak (rd w (-1)):=λg=>by rw[g]at f2;simp at f2
     refine ⟨_,rfl,_,rfl,w,[e],rfl,rfl,by show (w:)+1<=_;lia,?_⟩
     exact ⟨n+1 - (w++[e]:),by rw[U3];show n+1 - ((w:)+1)<_;lia,w++[e],_,rfl,rfl,hw.more A9 λ_=>XR,by rw[U3];show (w:)+1<=_;lia,pT,s5⟩
    ·refine ⟨_,rfl,_,rfl,_,rfl,w,_,_,rfl,rfl,qk,tM,w,[rd w (-1)],rfl,rfl,by show (w:)+1<=_;lia,?_⟩
     exact ⟨n+1 - (w++[rd w (-1)]:),by rw[U3];show n+1 - ((w:)+1)<_;lia,w++[rd w (-1)],_,rfl,rfl,hw.more K7 λ_ g=>dN (hy.lt _ K7) g.symm,by rw[U3];show (w:)+1<=_;lia,pT,s5⟩
  ·have z1: ¬((w:):Int)<1+(n:Int):=λg=>z (decide_eq_true g)
   exact ⟨w,lv,rfl,hw,(),pR,jr,s3⟩
 rintro σ6 H3 ⟨w,lv,rfl,hw,RJ,pR,jr,s3⟩
 refine ⟨λσ' H'=>H'=H3/\∃w:Z,σ'=[some (.ref b),some (.str (S y)),some (.int top),some (.int (1+(n:Int))),some (.int fm),some (.str (S w)),lv]/\SW y w/\(w:)<=n+1,?_,?_⟩
 ·refine ⟨λk σ H'=>H'=H3/\∃w:Z,σ=[some (.ref b),some (.str (S y)),some (.int top),some (.int (1+(n:Int))),some (.int fm),some (.str (S w)),lv]/\k=(w:)/\Wd y w/\1<=(w:)/\(w:)<=n+1,⟨_,rfl,w,rfl,rfl,hw,RJ,pR⟩,?_⟩
  clear hw pR RJ w
  rintro k σ H4 ⟨rfl,w,rfl,rfl,hw,RJ,pR⟩
  have qk:(w:)<=sizeLine:=by lia
  have dk:w≠[]:=λg=>by rw[g]at RJ;simp at RJ
  have K7:∀k,rd w k∈y:=λk=>hw.bO _ (i9 dk k)
  refine ⟨_,rfl,w,rfl,qk,_,_,rfl,rfl,_,rfl,cf (λf=>?_) (λf=>?_)⟩
  ·have g1:(1:Int)<(w:):=of_decide_eq_true f
   have tM:tL w (-1)=some (rd w (-1)):=mY () ()
   refine ⟨_,rfl,w,_,_,rfl,rfl,qk,mY (k:=0) () (),_,rfl,_,rfl,w,_,_,rfl,rfl,qk,tM,_,rfl,hy.lt _ (K7 _),[rd w 0],_,rfl,rfl,_,rfl,cf (λf2=>?_) (λf2=>?_)⟩
   ·refine ⟨_,rfl,_,rfl,_,rfl,w,rfl,qk,?_⟩
    rw[G1]
    exact ⟨(w.take ((w:) - 1):),by rw[Qas];lia,rfl,w.take ((w:) - 1),rfl,rfl,⟨hw.Jx.take _,λc hc=>hw.bO c (Qb4 hc)⟩,by rw[Qas];lia,by rw[Qas];lia⟩
   ·have XR:rd w 0≠ak (rd w (-1)):=λg=>f2 (by simp[g])
    exact ⟨rfl,w,rfl,hw.sw dk XR,pR⟩
  ·have g1: ¬(1:Int)<(w:):=λg=>f (decide_eq_true g)
   refine DW ?_
   exact ⟨rfl,w,rfl,hw.one hy (),pR⟩
 rintro σ7 H7 ⟨rfl,w7,rfl,sw,aam⟩
 clear hw RJ pR w
 refine ⟨λσ' H'=>H'=H7/\∃w:Z,σ'=[some (.ref b),some (.str (S y)),some (.int top),some (.int (1+(n:Int))),some (.int fm),some (.str (S w)),lv]/\SW y w/\(w:)<=top,?_,?_⟩
 ·refine ⟨_,rfl,_,_,rfl,rfl,_,rfl,cf (λf=>?_) (λf=>?_)⟩
  ·refine ⟨_,rfl,w7,rfl,(),_,_,rfl,rfl,.inl ⟨(),()⟩,_,rfl,_,_,rfl,rfl,_,rfl,cf (λf2=>?_) (λf2=>?_)⟩
   ·have g2:((w7:):Int)*2<=top:=of_decide_eq_true f2
    refine ⟨_,rfl,_,rfl,w7,w7,rfl,rfl,(),?_⟩
    exact ⟨rfl,_,rfl,sw.twice,by rw[U3];lia⟩
   ·exact ⟨rfl,_,rfl,sw,()⟩
  ·refine DW ?_
   exact ⟨rfl,_,rfl,sw,()⟩
 rintro σ8 H8 ⟨rfl,w8,rfl,sw8,XS⟩
 exact ⟨_,rfl,q w8 _ sw8 XS jr s3⟩
theorem I_:bV P w K mg base gu 3 QR Rr ["_law_box_here","_law_yard_here","_law_word","_law_top"] (yQ K):=by
 walk_at"s"
 walk_at"n"
 have nJ:=vL (P:=P) (w:=w) (base:=base) T
 refine T.Vz.fn.ok ko (λvs H Q E h=>EE h) (λ_ _ _ _ H vs Q E hr h=>?_)
 refine ⟨_,(ag (ar (i:=4) ko.nd rfl (Or.inl rfl) (ao bK (hr.mono ∅) rfl T.fE.mg T.fE.fn.kp T.fE.bd .nil aD (aa (pv 0) (aa ai ab))))
   (ag (ar (i:=5) ko.nd rfl (Or.inl rfl) (ao bK (hr.mono ∅) rfl T.fE.mg T.fE.fn.kp T.fE.bd .nil aD (aa (pv 0) (aa (aA aU rfl T.z_len Qaq (aa (pv 2) ab)) ab))))
   (ag (cK (aK lN (pv 4) ai (aX _)) (ah (aH (aC fj (bZ kX (pv 2) (bS (pv 5)) dE) (bZ kX (pv 2) dE (bS (pv 5)))))) b9)
   (ag (cK (aK lN (pv 4) ai (aX _)) (ah (aH (bE K rfl Qa5 Qdn Qdl (jP K rfl) (nZ [] ⋯) (aa (bT ["_law_letter"] [none] (Ge rfl T.z_reversed (aa (pv 2) ab)) trivial (λ_ _ _ _=>(aB (i:=0) (by decide+kernel:List.Nodup (["_law_letter"]:List Str)) rfl (Or.inl rfl))) (λ_ _ _ _=>eO) (λ_ _ _ _=>(ao b4 (hr.mono ∅) rfl T.kQ.mg T.kQ.fn.kp T.kQ.bd .nil aD (aa (pv 0) ab)))) ab)))) b9)
   (ag (cK (aK lN (pv 4) ai (aX _)) (ag (ar (i:=6) ko.nd rfl (Or.inl rfl) (aN iM (pv 1) (ao bK (hr.mono ∅) rfl T.fE.mg T.fE.fn.kp T.fE.bd .nil aD (aa (pv 0) (aa (aA aU rfl T.z_len Qaq (aa (pv 1) ab)) ab))) (λ_ _=>rfl)))
   (ag (ar (i:=7) ko.nd rfl (Or.inl rfl) (aC fj (bZ kX (pv 2) dE (bS (pv 5))) (pv 6)))
   (ah (cK (aK (Kf K rfl) (pv 6) (cP (aa (ao b4 (hr.mono ∅) rfl T.kQ.mg T.kQ.fn.kp T.kQ.bd .nil aD (aa (aN iM (pv 7) ai (λ_ _=>rfl)) ab)) (aa (ao b4 (hr.mono ∅) rfl T.kQ.mg T.kQ.fn.kp T.kQ.bd .nil aD (aa (aN iM (bZ kX (pv 7) (bS (mq iZ ai)) dE) ai (λ_ _=>rfl)) ab)) ab))) (by with_unfolding_all rfl)) (ah (aH (pv 7))) b9)))) b9)
   (ah (aH (ao nJ (hr.mono ∅) rfl T.JG.mg T.JG.fn.kp T.JG.bd .nil aD (aa (pv 0) (aa (pv 1) (aa (pv 3) ab))))))))))),?_⟩
 obtain ⟨b,y,w,top,rfl,hb,hy,MZ,JJ,FC,RI,sw,qh,q⟩:=h
 have hs:=Zs1
 have Uq:(y:)<=sizeLine:=by lia
 have pR:(w:)<=sizeLine:=by lia
 have q_:0<(w:):=YR.mpr sw.ne
 have lw:∀c∈w,Lt c:=λc hc=>hy.lt c (sw.bO c hc)
 refine ⟨_,rfl,b,5,rfl,hb,∅,∅,λfm H1 Bn xN s1=>?_⟩
 refine ⟨_,rfl,_,rfl,w,rfl,pR,b,_,rfl,xN,(),(),λat' H2 Ql i3 s2=>?_⟩
 have xR:=s1.trans s2
 have aan:at'<(w:):=by lia
 refine ⟨_,rfl,_,_,rfl,rfl,_,rfl,cf (λf0=>?_) (λf0=>?_)⟩
 ·have hlen:(cut w (some (at':Int)) none:)+(cut w none (some (at':Int)):)<=sizeLine:=by rw[dP,gh,Qa0,Qas];lia
  have Pq:cut w (some (at':Int)) none++cut w none (some (at':Int))=w.drop at'++w.take at':=by rw[dP,gh]
  refine ⟨_,rfl,_,rfl,_,rfl,w,rfl,pR,_,rfl,_,rfl,_,rfl,w,rfl,pR,_,_,rfl,rfl,hlen,?_⟩
  rw[Pq]
  exact q _ _ (sw.dA ()) (by rw[U3,Qa0,Qas];lia) i3 xR
 ·refine ⟨_,rfl,_,_,rfl,rfl,_,rfl,cf (λf1=>?_) (λf1=>?_)⟩
  ·refine ⟨rfl,_,rfl,w,rfl,(),?_⟩
   rw[Cb]
   refine jN (xs:=cT w.reverse) (λi acc H'=>aj H2 H'/\acc=cT ((w.reverse.take i).map ak)) (by rw[aY,Qbb];lia) ⟨aj.refl H2,rfl⟩ ?_ ?_
   ·rintro i x acc H3 Nx hi hx hl ⟨s3,rfl⟩ nx
    obtain ⟨c,iW,rfl⟩:=fT hx
    refine ⟨trivial,cW ⟨_,rfl,c,rfl,lw c (Qed.mp (Qai iW)),nx _ _ (by simpa using hl) ⟨s3,?_⟩⟩⟩
    rw[fo, <-take_snoc iW,Qad]
    rfl
   ·rintro acc H3 D hl ⟨s3,rfl⟩ hD
    refine ⟨D,(iI w).map λc=>[c],rfl,rfl,bf.of ?_,?_,?_⟩
    ·rw[ae, <-fM,aY,Qba (YS _),Qdw]
     rfl
    ·rw[En]
     unfold iI
     rw[Qbb,Qi]
     lia
    ·rw[u9]
     exact q _ _ (sw.iI hy) (by rw[cO];lia) ((i3.same s3).same (aj.upd hD)) (xR.after (s3.trans (aj.upd hD)))
  ·refine ⟨_,rfl,_,_,rfl,rfl,_,rfl,cf (λf2=>?_) (λf2=>?_)⟩
   ·refine ⟨_,rfl,_,rfl,_,rfl,y,rfl,Uq,b,_,rfl,i3,(),(),λr H3 Zu jr s3=>?_⟩
    have M0:=xR.trans s3
    have hr:r<(y:):=by lia
    refine ⟨y,_,_,rfl,rfl,Uq,bY (NT hr),?_⟩
    have uZ:y[r]∈y:=Qa1 hr
    generalize y[r]=c at uZ ⊢
    have hlc:=hy.lt c uZ
    have hlen:(cut w none (some (at':Int)):)+[c].length<=sizeLine:=by rw[dP,Qas];show _+1<=_;lia
    refine ⟨_,rfl,_,rfl,_,rfl,w,rfl,pR,_,rfl,_,_,rfl,rfl,hlen,?_⟩
    rw[dP]
    have qF:(w.take at':)=at':=by rw[Qas];lia
    have Ur:=sw.Jx.take at'
    have Px:∀a∈w.take at',a∈y:=λa ha=>sw.bO a (Qb4 ha)
    generalize w.take at'=u at qF Ur Px ⊢
    have MA:(u++[c]:)=at'+1:=by rw[U3,qF];rfl
    have Us:u++[c]≠[]:=by simp
    have ZM:∀a∈u++[c],a∈y:=λa ha=>(Qaf.mp ha).elim (Px a) λg=>by rw[Qab.mp g];exact uZ
    have g0:tL (u++[c]) (0:Int)=some (rd (u++[c]) 0):=mY () ()
    have Vk:cut (u++[c]) (some (-2)) none=(u++[c]).drop (at'+1 - 2):=by rw[Ow,MA]
    have XT:((u++[c]).drop (at'+1 - 2):)=at'+1 - (at'+1 - 2):=by rw[Qa0,MA]
    have Ut:(u++[c]).drop (at'+1 - 2)≠[]:=λz=>by rw[z]at XT;simp at XT;lia
    have g2:tL ((u++[c]).drop (at'+1 - 2)) (0:Int)=some (rd ((u++[c]).drop (at'+1 - 2)) 0):=mY () ()
    have ZN:=ZM _ (i9 Us 0)
    have ZO:=ZM _ (Qcu (i9 Ut 0))
    have e0:∀a,u.head? =some a->rd (u++[c]) 0=a:=λa ha=>by
     have h1:=qv Us
     cases u with
     | nil=>cases ha
     | cons x r=>exact (Qaj (h1.symm.trans (show (x::r++[c]).head? =some a from ha)))
    have e2:∀a,u.getLast? =some a->rd ((u++[c]).drop (at'+1 - 2)) 0=a:=λa ha=>by
     have h1:=qv Ut
     have OE:u≠[]:=λz=>by rw[z]at ha;cases ha
     have gp:=YR.mpr OE
     rw[Qff, Qcr,Qbi ()]at h1
     rw[Qdy, qF]at ha
     rw[show at'+1 - 2+0=at' - 1 by lia]at h1
     exact Qaj (h1.symm.trans ha)
    generalize rd (u++[c]) 0=x0 at g0 ZN e0
    generalize rd ((u++[c]).drop (at'+1 - 2)) 0=x2 at g2 ZO e2
    refine ⟨_,rfl,_,rfl,_,_,_,rfl,rfl,(),g0,_,rfl,hy.lt _ ZN,?_⟩
    refine ⟨_,rfl,_,rfl,_,rfl,u++[c],rfl,(),?_⟩
    rw[Vk]
    refine ⟨_,_,_,rfl,rfl,by rw[XT];lia,g2,_,rfl,hy.lt _ ZO,by show 2<=sizeLine;decide,λp np=>?_⟩
    have XU:=jr.ne np
    have ZP:=M0.none np XU
    refine ⟨p,_,rfl,.inl (bf.of ae),rfl,rfl,?_⟩
    have iv:=we c (ak x0) (ak x2)
    rw[show (if true=true then !Fs (.str (S [c])) [.str (S [ak x0]),.str (S [ak x2])] else Fs (.str (S [c])) [.str (S [ak x0]),.str (S [ak x2])])=!(decide (c=ak x0)||decide (c=ak x2)) by rw[if_pos rfl,iv]]
    refine ⟨_,rfl,cf (λf3=>?_) (λf3=>?_)⟩
    ·have hn:c≠ak x0/\c≠ak x2:=by simpa using f3
     refine ⟨_,rfl,q (u++[c]) _ (SW.snoc hy Ur Px uZ (λa ha=>by rw[<-e2 a ha];exact hn.2) λa ha=>by rw[<-e0 a ha];exact hn.1) () (jr.bL XU) (M0.bL ZP)⟩
    ·exact ⟨_,rfl,_,rfl,_,rfl,b,y,top,rfl,jr.bL XU,hy,MZ,JJ,FC,RI,λl H4 hl tM pT s4=>q l H4 hl tM pT ((M0.bL ZP).trans s4)⟩
   ·exact ⟨_,rfl,_,rfl,_,rfl,b,y,top,rfl,i3,hy,MZ,JJ,FC,RI,λl H3 hl tM jr s3=>q l H3 hl tM jr (xR.trans s3)⟩
theorem vM:bV P w K mg base gu 2 f1 d1 ["word"] (u7 K):=by
 walk_at"S"
 refine T.F1.fn.ok Fb (λvs H Q E h=>AE h) (λ_ _ _ _ H vs Q E hr h=>?_)
 refine ⟨_,(ah (aH (bE K rfl Qa5 Qdn Qdl (jP K rfl) (nZ [] ⋯) (aa (bT ["letter"] [none] (Ge rfl T.z_reversed (aa (pv 0) ab)) trivial (λ_ _ _ _=>(aB (i:=0) (by decide+kernel:List.Nodup (["letter"]:List Str)) rfl (Or.inl rfl))) (λ_ _ _ _=>eO) (λ_ _ _ _=>(ao c_ (hr.mono ∅) rfl T.F0.mg T.F0.fn.kp T.F0.bd .nil aD (aa (pv 0) ab)))) ab)))),?_⟩
 obtain ⟨l,rfl,hc,hz,q⟩:=h
 have hs:(1000:Nat)<sizeLine:=by decide
 refine ⟨rfl,_,rfl,l,rfl,(),?_⟩
 rw[Cb]
 refine jN (xs:=cT l.reverse) (λi acc H'=>aj H H'/\acc=cT ((l.reverse.take i).map ak)) (by rw[aY,Qbb];lia) ⟨aj.refl H,rfl⟩ ?_ ?_
 ·rintro i x acc H1 Nx hi hx hl ⟨s1,rfl⟩ nx
  obtain ⟨c,iW,rfl⟩:=fT hx
  refine ⟨trivial,cW ⟨_,rfl,c,rfl,hc c (Qed.mp (Qai iW)),nx _ _ (by simpa using hl) ⟨s1,?_⟩⟩⟩
  rw[fo, <-take_snoc iW,Qad]
  rfl
 ·rintro acc H1 D hl ⟨s1,rfl⟩ hD
  refine ⟨D,(iI l).map λc=>[c],rfl,rfl,bf.of ?_,?_,?_⟩
  ·rw[ae, <-fM,aY,Qba (YS _),Qdw]
   rfl
  ·rw[En]
   unfold iI
   rw[Qbb,Qi]
   lia
  ·rw[u9]
   exact q _ (s1.trans (aj.upd hD))
theorem LI:bV P w K mg base gu 5 QC Q_ ["word"] (Cj K):=by
 have xC:=Dv (P:=P) (w:=w) (base:=base) T
 refine T.Vq.fn.ok qE (λvs H Q E h=>GQ h) (λ_ _ _ _ H vs Q E hr h=>?_)
 refine ⟨_,(ag (ar (i:=1) qE.nd rfl (Or.inl rfl) (ao xC (hr.mono ∅) rfl T.JF.mg T.JF.fn.kp T.JF.bd .nil aD (aa (pv 0) ab)))
   (ag (cn PassesOwn.never rfl (uF rfl T.z_range (aa ai (aa (aC bp (aA aU rfl T.z_len Qaq (aa (pv 1) ab)) ai) ab))) (aB (i:=2) qE.nd rfl (Or.inl rfl)) (ag (ar (i:=3) qE.nd rfl (Or.inl rfl) (aC f_ (aA aU rfl T.z_len Qaq (aa (pv 1) ab)) (pv 2)))
   (ah (cK (aK jO (aC wa (bZ kX (pv 1) dE (bS (pv 2))) (pv 3)) (pv 1) (aX _)) (ah (aH (bW (aa (bZ kX (pv 1) dE (bS (pv 2))) (aa (pv 3) ab))))) b9))))
   (ah (aH (bW (aa (nZ [] ⋯) (aa ai ab))))))),?_⟩
 obtain ⟨l,rfl,hl,hz,q⟩:=h
 have hs:=Zs1
 walk_at "wk"
 intro H1 s1
 have hw:(aJ l:)<=1000:=Qbf (Eu l) hz
 generalize aJ l=c at hw q ⊢
 have hcz:(c:)<=sizeLine:=by lia
 walk_at "wk"
 refine ⟨_,_,rfl,⟨∅,∅,(),()⟩,?_⟩
 refine fH (λi σ H'=>H'=H1/\(∀j,1<=j->j<=i-> ¬iO c j)/\∃sv tv,σ=[some (.str (S l)),some (.str (S c)),sv,tv]) ⟨rfl,λj h1 h2=>by lia,none,none,rfl⟩ ?_ ?_
 ·rintro i σ H2 hi ⟨rfl,VU,sv,tv,rfl⟩
  have e1:(1:Int)+(i:Int)=((i+1:Nat):Int):=by lia
  rw[e1]
  have e2:((c:):Int) / ((i+1:Nat):Int)=(((c:) / (i+1):Nat):Int):=(Qe4 _ _).symm
  have hd:=Nat.div_le_self (c:) (i+1)
  have hmul:(c.take (i+1):)*((c:) / (i+1))<=sizeLine:=by
   have h1:(c.take (i+1):)<=i+1:=by rw[Qas];lia
   have h2:=Nat.mul_div_le (c:) (i+1)
   have h3:=Nat.mul_le_mul_right ((c:) / (i+1)) h1
   lia
  walk_at "wk"
  refine ⟨⟨by rw[e2];exact Qf1 _,by rw[e2];exact Int.ofNat_le.mpr (Qbf hd (by lia:(c:)<=1000000))⟩,by rw[e2,dP,YQ];exact hmul,?_⟩
  walk_at "wk"
  walk_at"e"
  ·have z1:iO c (i+1):=by
    have:=of_decide_eq_true z
    rw[e2,dP,YQ]at this
    exact this
   walk_at "wk"
   intro p np
   refine q p (i+1) _ (aj.free s1 np) ?_ (.inr ⟨(),(),z1,λj j1 j2=>VU j j1 ()⟩) (s1.trans (aj.upd np))
   rw[ae]
   unfold MC
   rw[<-dP, <-e2]
  ·have z1: ¬iO c (i+1):=λy=>z (decide_eq_true (by
    rw[e2,dP,YQ]
    exact y))
   refine ⟨rfl,λj j1 j2=>?_,_,_,rfl⟩
   by_cases y:j=i+1
   ·rw[y];exact z1
   ·exact VU j j1 ()
 ·rintro σ H2 ⟨rfl,VU,sv,tv,rfl⟩
  have hc:c=[]:=by
   by_cases z:c=[]
   ·exact z
   ·have hl:0<(c:):=YR.mpr z
    exact absurd (Ex c z) (VU _ hl ())
  subst hc
  walk_at "wk"
  intro p np
  exact q p 0 _ (aj.free s1 np) (by rw[ae];rfl) (.inl ⟨rfl,rfl⟩) (s1.trans (aj.upd np))
theorem tG:bV P w K mg base gu 1 f3 d3 ["yard","start","end"] (jW K):=by
 refine T.F3.fn.ok sY (λvs H Q E h=>p8 h) (λ_ _ _ _ H vs Q E hr h=>?_)
 refine ⟨_,(ah (aH (aC fI (aC d_ (bE K rfl Qa5 PySem.F.slot_str_find PySem.F.type_str_find yo (pv 0) (aa (pv 2) ab)) (bE K rfl Qa5 PySem.F.slot_str_find PySem.F.type_str_find yo (pv 0) (aa (pv 1) ab))) (aA aU rfl T.z_len Qaq (aa (pv 0) ab))))),?_⟩
 obtain ⟨y,a,b,rfl,ha,hb,hz,q⟩:=h
 have hs:(1000:Nat)<sizeLine:=by decide
 have hp:(0:Int)<((y:):Int):=by have:=List.length_pos_of_mem ha;lia
 refine ⟨_,rfl,rfl,_,rfl,y,b,rfl,rfl,?_⟩
 rw[if_pos hb]
 refine ⟨_,rfl,rfl,_,rfl,y,a,rfl,rfl,?_⟩
 rw[if_pos ha]
 exact ⟨_,_,rfl,rfl,_,rfl,y,rfl,(),_,_,rfl,rfl,hp,q⟩
theorem ql:bV P w K mg base gu 3 QD Ra ["yard","word","place"] (jn K):=by
 have uv:=tF (P:=P) (w:=w) (base:=base) T
 have uw:=tG (P:=P) (w:=w) (base:=base) T
 refine T.Vr.fn.ok jq (λvs H Q E h=>oR h) (λ_ _ _ _ H vs Q E hr h=>?_)
 refine ⟨_,(ag (ar (i:=3) jq.nd rfl (Or.inl rfl) (ao uv (hr.mono ∅) rfl T.Vn.mg T.Vn.fn.kp T.Vn.bd .nil aD (aa (pv 1) (aa (pv 2) ab))))
   (ah (aH (ao uw (hr.mono ∅) rfl T.F3.mg T.F3.fn.kp T.F3.bd .nil aD (aa (pv 0) (aa (aN (bC K rfl) (pv 3) ai (λ_ _=>rfl)) (aa (aN (bC K rfl) (pv 3) ai (λ_ _=>rfl)) ab))))))),?_⟩
 obtain ⟨y,w,i,rfl,hy,hz,hw,pR,hi,q⟩:=h
 refine ⟨_,rfl,_,rfl,w,i,rfl,λc hc=>hy.lt c (hw.bO c hc),pR,hi,λp H1 np hp s1=>?_⟩
 refine ⟨_,rfl,_,rfl,p,_,0,_,rfl,rfl,cu.of hp,rfl,_,rfl,p,_,1,_,rfl,rfl,cu.of hp,rfl,y,_,_,rfl,hy.cl _ (hw.rd _),hw.rd _,(),?_⟩
 have rg:=fP (hy.cl _ (hw.rd ((i:Int) - 1))) (hw.rd i) (Ne.symm (hw.red i))
 obtain ⟨n,hn⟩:∃n:Nat,cst y w i=n:=⟨(cst y w i).toNat,by have:=rg.1;unfold cst;lia⟩
 have:=rg.2.1
 have e:yR y (ak (rd w ((i:Int) - 1))) (rd w i)=n:=hn
 have key:=q n H1 hn () s1
 rw[<-e]at key
 exact key
theorem Ja:bV P w K mg base gu 6 lE zD ["self","yard","word","longest"] (zg K bg):=by
 have Py:=LI (P:=P) (w:=w) (base:=base) T
 have xC:=Dv (P:=P) (w:=w) (base:=base) T
 have tH:=vM (P:=P) (w:=w) (base:=base) T
 have tI:=ql (P:=P) (w:=w) (base:=base) T
 refine T.T_.ok tf (λvs H Q E h=>ES h) (λ_ _ _ _ H vs Q E hr h=>?_)
 refine ⟨_,(ag (jJ (pv 0) (aA aU rfl T.z_len Qaq (aa (pv 2) ab)) rfl)
   (ag (jJ (pv 0) (aA aU rfl T.z_len Qaq (aa (aN (bC K rfl) (ao Py (hr.mono ∅) rfl T.Vq.mg T.Vq.fn.kp T.Vq.bd .nil aD (aa (pv 2) ab)) ai (λ_ _=>rfl)) ab)) rfl)
   (ag (jJ (pv 0) (kC v_ (ao xC (hr.mono ∅) rfl T.JF.mg T.JF.fn.kp T.JF.bd .nil aD (aa (pv 2) ab)) (ao xC (hr.mono ∅) rfl T.JF.mg T.JF.fn.kp T.JF.bd .nil aD (aa (ao tH (hr.mono ∅) rfl T.F1.mg T.F1.fn.kp T.F1.bd .nil aD (aa (pv 2) ab)) ab)) (aX _)) rfl)
   (ag (ar (i:=4) tf.nd rfl (Or.inl rfl) (bE K rfl Qa5 Qdn Qdl (jP K rfl) (nZ [] ⋯) (aa (bT ["place","yard","word"] [none,some 1,some 2] (eU rfl T.z_range (aa (aA aU rfl T.z_len Qaq (aa (pv 2) ab)) ab)) ⟨⟨rfl,rfl,by first | exact .inl rfl | exact .inr rfl⟩,⟨⟨rfl,rfl,by first | exact .inl rfl | exact .inr rfl⟩,trivial⟩⟩ (λ_ _ _ _=>(aB (i:=0) (by decide+kernel:List.Nodup (["place","yard","word"]:List Str)) rfl (Or.inl rfl))) (λ_ _ _ _=>eO) (λ_ _ _ _=>(bB Ed rfl T.z_str boot_str (aa (ao tI (hr.mono ∅) rfl T.Vr.mg T.Vr.fn.kp T.Vr.bd .nil aD (aa (pv 1) (aa (pv 2) (aa (pv 0) ab)))) ab)))) ab)))
   (ag (ar (i:=5) tf.nd rfl (Or.inl rfl) (aC bp ai (aC f_ (pv 3) (aA (DK rfl) rfl T.z_max boot_max (aa (aA aU rfl T.z_len Qaq (aa (pv 2) ab)) (aa ai ab))))))
   (ag (jJ (pv 0) (aC wa (pv 4) (pv 5)) rfl)
   (ah (jJ (pv 0) (aC wa (Kq (pv 4) (bS (mq iZ ai))) (pv 5)) rfl)))))))),?_⟩
 obtain ⟨x,dx,y,w',lg,rfl,hx,hy,hz,hw,Ad,VV,q⟩:=h
 have hs:=Zs1
 have dy:∀c∈w',Lt c:=λc hc=>hy.lt c (hw.bO c hc)
 have h8:∀c∈w',c<128:=λc hc=>(dy c hc).lt
 have ht:=hw.iI hy
 have htl:∀c∈iI w',Lt c:=λc hc=>hy.lt c (ht.bO c hc)
 have h1:1<=(w':):=YR.mpr hw.ne
 have rl:=nk (lg:=lg) h1
 obtain ⟨rt,VW⟩:=Cq hw.ne
 refine ⟨_,rfl,w',rfl,(),_,rfl,x,bg,dx,_,rfl,hx,T.ik,T.n_Way_size,by show 0<1000;decide,?_⟩
 refine ⟨_,rfl,w',rfl,dy,(),λp1 s1 H1 n1 gp Jv Ud=>?_⟩
 obtain ⟨er,el⟩:=ED hy hw Jv VW
 subst er
 have et:((aJ w').take s1:)=s1:=by
  rw[Qas,el]
  rcases VW with ⟨z,_⟩ | ⟨_,h2,_⟩
  ·exact absurd z hw.ne
  ·lia
 have aao:s1<=(w':):=by
  rcases VW with ⟨z,_⟩ | ⟨_,h2,_⟩
  ·exact absurd z hw.ne
  ·exact h2
 have Xh:=Ud _ _ (ae (H:=H) (a:=x))
 refine ⟨p1,_,0,_,rfl,rfl,cu.of gp,rfl,_,rfl,by rw[et];lia,_,rfl,x,bg,dx,_,rfl,Xh,T.ik,T.n_Way_root_size,Qbn (dR _ _ _) (by show 0+1<1000;decide),?_⟩
 rw[et]
 refine ⟨_,rfl,w',rfl,dy,(),λH2 s2=>⟨_,rfl,w',rfl,h8,(),λH3 s3=>⟨iI w',rfl,htl,by rw[cO];lia,λH4 s4=>?_⟩⟩⟩
 have ZQ:=s2.trans (s3.trans s4)
 have hx4:=ZQ _ _ (ae (a:=x))
 refine ⟨_,_,rfl,rfl,_,rfl,x,bg,dx,_,rfl,hx4,T.ik,T.n_Way_leads,Qbn (dR _ _ _) (Qbn (Qc1 (dR _ _ _)) (by show 0+1+1<1000;decide)),?_⟩
 have eld:decide (aJ w'<aJ (iI w'))=leads w':=by
  unfold leads
  rw[hw.aJ hy,ht.aJ hy]
 refine ⟨rfl,_,rfl,w',rfl,(),_,rfl,(),(),?_⟩
 rw[YQ]
 refine qZ (λi acc H'=>aj _ H'/\acc=cT ((stx y w').take i)) () ⟨aj.refl _,rfl⟩ ?_ ?_
 ·rintro i acc H5 Nx hi hl ⟨s5,rfl⟩ nx
  refine ⟨⟨rfl,rfl,trivial⟩,cW ⟨_,rfl,_,rfl,_,rfl,y,w',i,by rw[Qcz];rfl,hy,hz,hw,(),hi,λn H6 hn h8' s6=>⟨n,rfl,(),nx _ _ (by simpa using hl) ⟨s5.trans s6,?_⟩⟩⟩⟩
  have eg:(stx y w')[i]? =some (48+n):=by
   unfold stx
   rw[Qag,Qcx hi]
   show some (zO (cst y w' i))=_
   rw[hn]
   unfold zO
   congr 1
  rw[OY n (),fo,take_snoc eg]
 ·rintro acc H5 D hl ⟨s5,rfl⟩ hD
  have Uu:(stx y w').take (w':)=stx y w':=Qba (by rw[dU];exact YS _)
  rw[Uu]at hl ⊢
  refine ⟨D,(stx y w').map λc=>[c],rfl,rfl,bf.of (by rw[ae, <-fM]),by rw[En,dU];lia,?_⟩
  rw[u9]
  have ZR:=s5.trans (aj.upd (o:= .lst (cT (stx y w'))) hD)
  have XW:=ZR _ _ (ae (a:=x))
  have XX:(if (1:Int)>((w':):Int) then (1:Int) else ((w':):Int))=(max (w':) 1:Nat):=by split<;>lia
  have Pz:(3:Int)+(lg:Int) / (if (1:Int)>((w':):Int) then (1:Int) else ((w':):Int))=(j9 lg (w':):Nat):=by
   rw[XX]
   unfold j9
   rw[Qbk,Qe4]
   rfl
  have rb:j9 lg (w':)<=1003:=by unfold j9;have:=Nat.div_le_self lg (max (w':) 1);lia
  refine ⟨_,rfl,_,rfl,w',rfl,(),_,_,rfl,_,_,rfl,rfl,⟨by rw[XX];lia,by rw[XX];lia⟩,_,_,rfl,rfl,?_⟩
  have l3:∀(a b c:V),(fg "leads" a (fg "root_size" b (fg "size" c [])):)<=3:=λa b c=>Qbf (dR _ _ _) (Qc1 (Qbf (dR _ _ _) (Qc1 (dR _ _ _))))
  refine ⟨_,rfl,_,rfl,stx y w',_,rfl,rfl,⟨by rw[Pz];lia,by rw[Pz];lia⟩,by rw[Pz,YQ,dU];lia,_,rfl,x,bg,dx,_,rfl,XW,T.ik,T.n_Way_onward,Qbn (l3 _ _ _) ∅,?_⟩
  refine ⟨_,rfl,1,rfl,_,rfl,rfl,stx y w',rfl,by rw[dU];lia,_,rfl,(stx y w').reverse,_,rfl,rfl,⟨by rw[Pz];lia,by rw[Pz];lia⟩,by rw[Pz,YQ,Qbb,dU];lia,_,rfl,x,bg,dx,_,rfl,ae,T.ik,T.n_Way_backward,Qbn (dR _ _ _) (Qbn (Qc1 (l3 _ _ _)) ∅),?_⟩
  refine q s1 _ VW ?_ λb o eb zb=>?_
  ·rw[ae]
   unfold oP
   rw[<-eld,Pz,YQ]
  ·rw[aq zb,aq zb]
   refine ZR _ _ ?_
   rw[aq zb]
   refine ZQ _ _ ?_
   rw[aq zb]
   refine Ud _ _ ?_
   rw[aq zb]
   exact eb
theorem Dw:bV P w K mg base gu 8 QK Rk ["yard","words"] (C9 K):=by
 have tH:=vM (P:=P) (w:=w) (base:=base) T
 have xD:=zG (P:=P) (w:=w) (base:=base) T
 have xE:=ur (P:=P) (w:=w) (base:=base) T
 have Dy:=Ja (P:=P) (w:=w) (base:=base) T
 refine T.Pk.fn.ok xw (λvs H Q E h=>HY h) (λ_ _ _ _ H vs Q E hr h=>?_)
 refine ⟨_,(ag (ar (i:=2) xw.nd rfl (Or.inr rfl) (Ks K rfl rfl rfl T.z_max (aa (bT ["word"] [none] (qq K rfl (pv 1)) trivial (λ_ _ _ _=>(aB (i:=0) (by decide+kernel:List.Nodup (["word"]:List Str)) rfl (Or.inl rfl))) (λ_ _ _ _=>eO) (λ_ _ _ _=>(aA aU rfl T.z_len Qaq (aa (pv 0) ab)))) ab)))
   (ag (ar (i:=3) xw.nd rfl (Or.inr rfl) (bT ["word","yard","longest"] [none,some 0,some 2] (qq K rfl (pv 1)) ⟨⟨rfl,rfl,by first | exact .inl rfl | exact .inr rfl⟩,⟨⟨rfl,rfl,by first | exact .inl rfl | exact .inr rfl⟩,trivial⟩⟩ (λ_ _ _ _=>(aB (i:=0) (by decide+kernel:List.Nodup (["word","yard","longest"]:List Str)) rfl (Or.inl rfl))) (λ_ _ _ _=>eO) (λ_ _ _ _=>(bW (aa (qp T.MV Dy (hr.mono ∅) rfl T.MU T.MW .nil aD (aa (pv 1) (aa (pv 0) (aa (pv 2) ab)))) (aa (qp T.MV Dy (hr.mono ∅) rfl T.MU T.MW .nil aD (aa (pv 1) (aa (ao tH (hr.mono ∅) rfl T.F1.mg T.F1.fn.kp T.F1.bd .nil aD (aa (pv 0) ab)) (aa (pv 2) ab)))) ab))))))
   (ah (aH (bW (aa (bB (bA K rfl) rfl T.z_tuple boot_tuple (aa (pv 1) ab)) (aa (bB (bA K rfl) rfl T.z_tuple boot_tuple (aa (bT ["band","words","ways"] [none,some 1,some 3] (oe (ao xD (hr.mono ∅) rfl T.F2.mg T.F2.fn.kp T.F2.bd .nil aD (aa (pv 0) ab))) ⟨⟨rfl,rfl,by first | exact .inl rfl | exact .inr rfl⟩,⟨⟨rfl,rfl,by first | exact .inl rfl | exact .inr rfl⟩,trivial⟩⟩ (λ_ _ _ _=>(aB (i:=0) (by decide+kernel:List.Nodup (["band","words","ways"]:List Str)) rfl (Or.inl rfl))) (λ_ _ _ _=>eO) (λ_ _ _ _=>(ao xE (hr.mono ∅) rfl T.Vv.mg T.Vv.fn.kp T.Vv.bd .nil aD (aa (pv 1) (aa (pv 2) (aa (pv 0) ab)))))) ab)) ab))))))),?_⟩
 obtain ⟨y,wt,ws,rfl,hy,hz,qh,Xz,xA,q⟩:=h
 have hs:=Zs1
 have RK:∀c∈y,c<128:=Mx hy.lt
 have VP:=eF hy
 obtain ⟨lg,elg,aap,VV⟩:=Bh λw hw=>(xA w hw).2
 refine ⟨_,rfl,wt,rfl,⟨_,cu.of qh⟩,?_⟩
 refine mM (K:=K) (a:=wt) (xs:=jy ws) (λi acc H'=>H'=H/\acc=(Lf (ws.take i)).map V.int) (by rw[bN];omega) (λi acc H' h=>by rw[h.1];exact cu.of qh) ⟨rfl,rfl⟩ ?_ ?_
 ·rintro i x acc H1 Nx hi hx hl ⟨rfl,rfl⟩ nx
  rw[bN]at hi
  rw[ir hi]at hx
  cases hx
  have PB:=xA ws[i] (Qa1 hi)
  refine ⟨trivial,cW ⟨_,rfl,ws[i],rfl,by omega,nx _ _ (by simpa using hl) ⟨rfl,?_⟩⟩⟩
  rw[<-take_snoc (NT hi)]
  unfold Lf
  rw[Qad,Qad]
  rfl
 ·rintro acc H1 D hl ⟨rfl,rfl⟩ hD
  rw[bN,Qbg]
  refine ⟨D,Lf ws,rfl,bf.of ae,?_⟩
  rw[elg]
  have sD:=aj.upd (o:= .lst ((Lf ws).map V.int)) hD
  refine ⟨_,rfl,wt,rfl,⟨_,cu.of (sD _ _ qh)⟩,?_⟩
  refine mM (K:=K) (a:=wt) (xs:=jy ws) (λi acc H'=>aj H1 H'/\∃nR:List Wp,acc=JD nR/\(nR:)=i/\∀(c:Nat) (w:Z) (p:Wp),ws[c]? =some w->nR[c]? =some p->w6 H' bg y lg w p) (by rw[bN];omega) (λi acc H' h=>cu.of (h.1 _ _ qh)) ⟨sD,[],rfl,rfl,λc w p _ h=>by simp at h⟩ ?_ ?_
  ·rintro i x acc H2 Nx hi hx jK ⟨s2,nR,rfl,Ad,Pp⟩ nx
   rw[bN]at hi
   rw[ir hi]at hx
   cases hx
   have PB:=xA ws[i] (Qa1 hi)
   have ZS:ws[i]? =some ws[i]:=NT hi
   have Uv:=VV ws[i] (Qa1 hi)
   generalize ws[i]=w' at PB ZS Uv ⊢
   have h8:∀c∈w',c<128:=λc hc=>(hy.lt c (PB.1.bO c hc)).lt
   refine ⟨⟨rfl,rfl,trivial⟩,cW ?_⟩
   refine ⟨_,rfl,_,rfl,_,rfl,λx1 ZT nx1 XY ne1=>⟨x1,ZT,y,w',lg,rfl,ae,hy,hz,PB.1,Uv,by omega,λr H3 hr XZ sm3=>⟨rfl,?_⟩⟩⟩
   have s23:=vE nx1 XY sm3
   refine ⟨_,rfl,_,rfl,w',rfl,h8,by omega,λH4 PC=>⟨_,rfl,λx2 ZU nx2 X0 ne2=>⟨x2,ZU,y,iI w',lg,rfl,ae,hy,hz,PB.1.iI hy,by rw[cO];exact Uv,by omega,λr2 H5 Qp XW sm5=>⟨rfl,?_⟩⟩⟩⟩
   have s45:=vE nx2 X0 sm5
   refine ⟨by show 2<=sizeLine;decide,λt nt=>?_⟩
   have ZV:=aj.upd (o:= .tup [.ref x1,.ref x2]) nt
   have RG:=PC.trans (s45.trans ZV)
   have all:=s23.trans RG
   refine nx _ _ (by simpa using jK) ⟨s2.trans all,nR++[⟨t,x1,x2,r,r2⟩],HW nR ⟨t,x1,x2,r,r2⟩,by rw[U3,Ad];rfl,Lh Ad (λc w p a b=>(Pp c w p a b).same all) ZS ⟨ae,⟨⟨ZT,RG _ _ XZ⟩,PB.1,Uv,by omega,hr⟩,⟨⟨ZU,ZV _ _ XW⟩,PB.1.iI hy,by rw[cO];exact Uv,by omega,Qp⟩⟩⟩
  ·rintro acc H2 D2 jK ⟨s2,nR,rfl,Ad,Pp⟩ VX
   rw[bN]at Ad
   have ZW:=aj.upd (o:= .lst (JD nR)) VX
   have xR:=s2.trans ZW
   refine ⟨_,rfl,wt,_,rfl,.inr ⟨cu.of (xR _ _ qh),?_⟩⟩
   refine ⟨_,rfl,y,rfl,RK,by omega,λl' H3 xW MS s3=>?_⟩
   have el:=m9 xW MS
   subst el
   refine ⟨_,rfl,?_⟩
   have M0:=xR.trans s3
   have hv3:=s3 _ _ (ae (H:=H2) (a:=D2) (o:=HO.lst (JD nR)))
   refine jN (xs:=cT (dJ y)) (λi acc H'=>aj H3 H'/\∃os:List Od,acc=gn os/\(∀o∈os,p_ H' o)/\(os:)=i/\(∀(j:Nat) (o:Od) (b:Nat),os[j]? =some o->(dJ y)[j]? =some b->(o.ps.map Pr.pair).Perm (cB b ws (ws:)))/\∀o∈os,EU y ws (2*lg) (o.ps.map Pr.pair)) (by rw[aY];omega) ⟨aj.refl _,[],rfl,λ_ h=>absurd h Qal,rfl,λj o b h=>by simp at h,λ_ h=>absurd h Qal⟩ ?_ ?_
   ·rintro i x acc H4 Nx hi hx nG ⟨s4,os,rfl,xM,xP,X1,X2⟩ nx
    obtain ⟨b,hb,rfl⟩:=fT hx
    have hbs:=zj hy (Qai hb)
    refine ⟨⟨rfl,rfl,trivial⟩,cW ?_⟩
    refine ⟨_,rfl,_,rfl,_,rfl,y,lg,wt,D2,ws,nR,b,rfl,hy,hz,s4 _ _ (M0 _ _ qh),Xz,xA,hbs,s4 _ _ hv3,Ad,λc w p a1 a2=>(Pp c w p a1 a2).same (ZW.trans (s3.trans s4)),λt ps H5 nt ht nH jC RD s5=>?_⟩
    have Zp:(ps:)<=100:=by
     have h1:=jC.length_eq
     have h2:=ig b (λw hw=>(xA w hw).2) (ws:) (YS _)
     rw[Qi]at h1
     omega
    refine nx _ _ (by simpa using nG) ⟨s4.trans s5,os++[⟨t,ps⟩],m_ os ⟨t,ps⟩,λo ho=>?_,by rw[U3,xP];rfl,λj o b' ho GY=>?_,λo ho=>?_⟩
    ·rcases Qaf.mp ho with g | g
     ·exact (xM o g).same s5
     ·rw[Qab.mp g]
      exact ⟨ht,nH,Zp⟩
    ·by_cases z:j<(os:)
     ·rw[Qbi z]at ho
      exact X1 j o b' ho GY
     ·rw[Qb0 (by omega)]at ho
      have:j=i:=by
       have:=(NU.mp ho).1
       simp at this
       omega
      subst this
      rw[xP,Qfb]at ho
      cases ho
      rw[hb]at GY
      cases GY
      exact jC
    ·rcases Qaf.mp ho with g | g
     ·exact X2 o g
     ·rw[Qab.mp g]
      exact RD
   ·rintro acc H4 D3 nG ⟨s4,os,rfl,xM,xP,X1,X2⟩ M1
    rw[aY]at xP
    refine ⟨D3,_,rfl,.inl ⟨bf.of ae,λt nt=>?_⟩⟩
    refine ⟨by show 2<=sizeLine;decide,λdr PD=>?_⟩
    have sA:=(aj.upd (o:= .lst (gn os)) M1).trans ((aj.upd (o:= .tup (gn os)) nt).trans (aj.upd (o:= .tup [.ref wt,.ref t]) PD))
    have Uw:t≠dr:=λz=>by rw[<-z,ae]at PD;cases PD
    have ZX:=M0.trans s4
    exact q dr os _ ⟨⟨wt,t,ae,sA _ _ (ZX _ _ qh),by rw[aq Uw,ae]⟩,λo ho=>(xM o ho).same sA⟩ ⟨2*lg,λw hw v hv=>by have:=VV w hw;have:=VV v hv;omega,⟨xP,X1⟩,X2⟩ (ZX.trans sA)
theorem Jb:bV P w K mg base gu 2 QZ RA ["_law_box_here","_law_yard_here","_law_word"] (zC K):=by
 walk_at"s"
 walk_at"n"
 refine T.VG.fn.ok hU (λvs H Q E h=>E_ h) (λ_ _ _ _ H vs Q E hr h=>?_)
 refine ⟨_,(ag (ar (i:=3) hU.nd rfl (Or.inl rfl) (ao bK (hr.mono ∅) rfl T.fE.mg T.fE.fn.kp T.fE.bd .nil aD (aa (pv 0) (aa (aA aU rfl T.z_len Qaq (aa (pv 2) ab)) ab))))
   (ag (ar (i:=2) hU.nd rfl (Or.inl rfl) (aC fj (bZ kX (pv 2) (bS (pv 3)) dE) (bZ kX (pv 2) dE (bS (pv 3)))))
   (ag (cn PassesOwn.never rfl (eU rfl T.z_range (aa (ao bK (hr.mono ∅) rfl T.fE.mg T.fE.fn.kp T.fE.bd .nil aD (aa (pv 0) (aa ai ab))) ab)) (aB (i:=4) hU.nd rfl (Or.inl rfl)) (ag (ar (i:=5) hU.nd rfl (Or.inl rfl) (aN iM (pv 1) (ao bK (hr.mono ∅) rfl T.fE.mg T.fE.fn.kp T.fE.bd .nil aD (aa (pv 0) (aa (aA aU rfl T.z_len Qaq (aa (pv 1) ab)) ab))) (λ_ _=>rfl)))
   (ag (ar (i:=3) hU.nd rfl (Or.inl rfl) (ao bK (hr.mono ∅) rfl T.fE.mg T.fE.fn.kp T.fE.bd .nil aD (aa (pv 0) (aa (aC bp (aA aU rfl T.z_len Qaq (aa (pv 2) ab)) ai) ab))))
   (ah (ar (i:=2) hU.nd rfl (Or.inl rfl) (aC fj (aC fj (aC fj (bZ kX (pv 2) dE (bS (pv 3))) (pv 5)) (ao b4 (hr.mono ∅) rfl T.kQ.mg T.kQ.fn.kp T.kQ.bd .nil aD (aa (pv 5) ab))) (bZ kX (pv 2) (bS (pv 3)) dE)))))))
   (ah (aH (pv 2)))))),?_⟩
 obtain ⟨b,y,w',rfl,hb,hy,JJ,RK,wne,Ux,wl,q⟩:=h
 have hs:=Zs1
 have q_:0<(w':):=YR.mpr wne
 refine ⟨_,rfl,_,rfl,w',rfl,(),b,_,rfl,hb,(),(),λat' H1 Ql xN s1=>?_⟩
 have hlen:(cut w' (some (at':Int)) none:)+(cut w' none (some (at':Int)):)<=sizeLine:=by rw[dP,gh,Qa0,Qas];lia
 refine ⟨_,rfl,_,rfl,_,rfl,w',rfl,(),_,rfl,_,rfl,_,rfl,w',rfl,(),_,_,rfl,rfl,hlen,?_⟩
 rw[dP,gh]
 have lt:∀{x:Z},(∀c∈x,c∈w')->AllLt x:=λhx c hc=>hy.lt c (Ux c (hx c hc))
 have n0:aJ (w'.drop at'++w'.take at')=aJ w':=by rw[oq (lt λc hc=>Qcu hc) (lt λc hc=>Qb4 hc),Qbr]
 have i0:∀c∈w'.drop at'++w'.take at',c∈y:=λc hc=>Ux c ((Qaf.mp hc).elim Qcu Qb4)
 have l0:(w'.drop at'++w'.take at':)<=6:=by rw[U3,Qa0,Qas];lia
 generalize w'.drop at'++w'.take at'=w0 at n0 i0 l0 ⊢
 refine ⟨_,rfl,b,3,rfl,xN,∅,∅,λr H2 hr i3 s2=>?_⟩
 refine ⟨_,rfl,(),(),?_⟩
 rw[YQ]
 refine fH (λi σ H'=>∃(u:Z) (v3 v4 v5:Option V),σ=[some (.ref b),some (.str (S y)),some (.str (S u)),v3,v4,v5]/\(∀c∈u,c∈y)/\(u:)<=6+2*i/\aJ u=aJ w'/\bM H' b/\aG b H H') ⟨w0,_,none,none,rfl,i0,l0,n0,i3,s1.trans s2⟩ ?_ ?_
 ·rintro i σ H3 hi ⟨u,v3,v4,v5,rfl,iu,ul,nu,jr,s3⟩
  refine ⟨_,rfl,_,rfl,_,rfl,y,rfl,(),b,_,rfl,jr,(),(),λk H4 hk pT s4=>?_⟩
  have Mh:k<(y:):=by lia
  refine ⟨y,_,_,rfl,rfl,(),bY (NT Mh),?_⟩
  have uZ:y[k]∈y:=Qa1 Mh
  generalize y[k]=c at uZ ⊢
  have lc:=hy.lt c uZ
  refine ⟨_,rfl,_,rfl,u,rfl,(),_,_,rfl,rfl,b,_,rfl,pT,(),(),λm H5 hm RL s5=>?_⟩
  have Hw:m<=(u:):=by lia
  have tM:(cut u none (some (m:Int)):)+[c].length<=sizeLine:=by rw[dP,Qas];show _+1<=_;lia
  have jK:(cut u none (some (m:Int))++[c]:)+[ak c].length<=sizeLine:=by rw[dP,U3,Qas];show _+1+1<=_;lia
  have Uy:(cut u none (some (m:Int))++[c]++[ak c]:)+(cut u (some (m:Int)) none:)<=sizeLine:=by rw[dP,gh,U3,U3,Qas,Qa0];show _+1+1+_<=_;lia
  refine ⟨_,rfl,_,rfl,_,rfl,u,rfl,(),_,rfl,_,_,rfl,rfl,tM,_,rfl,c,rfl,lc,_,_,rfl,rfl,jK,_,rfl,_,rfl,_,rfl,u,rfl,(),_,_,rfl,rfl,Uy,?_⟩
  rw[dP,gh]
  refine ⟨_,_,_,_,rfl,λd hd=>?_,?_,(IE hy uZ).trans nu,RL,s3.trans (s4.trans s5)⟩
  ·rcases Qaf.mp hd with g | g
   ·rcases Qaf.mp g with g | g
    ·rcases Qaf.mp g with g | g
     ·exact iu d (Qb4 g)
     ·rw[Qab.mp g];exact uZ
    ·rw[Qab.mp g];exact hy.cl c uZ
   ·exact iu d (Qcu g)
  ·rw[U3,U3,U3,Qas,Qa0]
   show min m (u:)+1+1+((u:) - m)<=_
   lia
 ·rintro σ H3 ⟨u,v3,v4,v5,rfl,iu,ul,nu,jr,s3⟩
  exact ⟨_,rfl,q u H3 iu () nu jr s3⟩
theorem uy:bV P w K mg base gu 2 f4 d4 ["yard","drawing","end"] (lA K):=by
 have xD:=zG (P:=P) (w:=w) (base:=base) T
 refine T.F4.fn.ok lF (λvs H Q E h=>rV h) (λ_ _ _ _ H vs Q E hr h=>?_)
 refine ⟨_,(ag (ar (i:=3) lF.nd rfl (Or.inl rfl) (bB (fU K rfl) rfl T.z_list boot_list (aa (aN (bC K rfl) (aN (bC K rfl) (pv 1) ai (λ_ _=>rfl)) (bE K rfl Qa5 Qe9 Qe7 n_ (ao xD (hr.mono ∅) rfl T.F2.mg T.F2.fn.kp T.F2.bd .nil aD (aa (pv 0) ab)) (aa (fV K rfl Qa5 Qe8 Qe6 qS (pv 2)) ab)) (λ_ _=>rfl)) ab)))
   (ag (cK (lI (fV K rfl Qa5 PySem.F.slot_str_isupper PySem.F.type_str_isupper Ak (pv 2))) (ah (cj (fV K rfl Qar PySem.F.slot_list_reverse PySem.F.type_list_reverse Ac (pv 3)))) b9)
   (ah (aH (pv 3))))),?_⟩
 obtain ⟨y,dr,ws,os,e,rfl,hy,hz,he,ho,hd,q⟩:=h
 have hs:=Zs1
 have RK:∀c∈y,c<128:=Mx hy.lt
 have ZY:=RK e he
 obtain ⟨⟨wt,ot,d1,d2,d3⟩,dO⟩:=hd
 obtain ⟨o,o1,o2,o3⟩:=iR hy he ho
 refine ⟨_,rfl,dr,_,1,_,rfl,rfl,cu.of d1,rfl,?_⟩
 refine ⟨_,rfl,y,rfl,RK,by omega,λl' H1 xW MS s1=>?_⟩
 have el:=m9 xW MS
 subst el
 refine ⟨rfl,_,rfl,rfl,e,rfl,rfl,ZY,?_⟩
 refine ⟨dJ y,_,rfl,rfl,CM hy he,?_⟩
 refine ⟨ot,_,_,_,rfl,rfl,cu.of (s1 _ _ d3),bY (rT o2),?_⟩
 refine ⟨o.o,_,rfl,.inr (cu.of (s1 _ _ (dO o o1).tp)),λp1 n1=>?_⟩
 refine ⟨_,rfl,rfl,e,rfl,rfl,ZY,_,rfl,cf (λz=>?_) (λz=>?_)⟩
 ·refine ⟨_,rfl,.inl ⟨rfl,_,bf.of ae⟩,p1,_,rfl,rfl,ae,?_⟩
  refine ⟨_,rfl,q p1 _ (aj.free s1 n1) ?_ ?_⟩
  ·rw[ae,CO]
   unfold nN
   rw[if_pos z,o3]
  ·exact λa u ea=>by rw[aq (au ea (aj.free s1 n1)),aq (au ea (aj.free s1 n1))];exact s1 a u ea
 ·refine ⟨_,rfl,q p1 _ (aj.free s1 n1) ?_ (s1.trans (aj.upd n1))⟩
  rw[ae]
  unfold nN
  rw[if_neg z,o3]
theorem Fj:bV P w K mg base gu 3 f5 d5 ["yard","drawing"] (vx K):=by
 have xF:=uy (P:=P) (w:=w) (base:=base) T
 refine T.F5.fn.ok kR (λvs H Q E h=>A6 h) (λ_ _ _ _ H vs Q E hr h=>?_)
 refine ⟨_,(ag (ar (i:=2) kR.nd rfl (Or.inl rfl) (cP ab))
   (ag (cn PassesOwn.never rfl (oe (pv 0)) (aB (i:=3) kR.nd rfl (Or.inl rfl)) (ah (cn PassesOwn.never rfl (eB K rfl (ao xF (hr.mono ∅) rfl T.F4.mg T.F4.fn.kp T.F4.bd .nil aD (aa (pv 0) (aa (pv 1) (aa (pv 3) ab))))) (aB (i:=4) kR.nd rfl (Or.inl rfl)) (ah (cj (bE K rfl Qar Qbm Qbl cG (pv 2) (aa (bW (aa (aN (bC K rfl) (pv 4) ai (λ_ _=>rfl)) (aa (aN (bC K rfl) (pv 4) ai (λ_ _=>rfl)) (aa (pv 3) ab)))) ab)))))))
   (ah (aH (pv 2))))),?_⟩
 obtain ⟨y,dr,ws,os,rfl,hy,hz,ho,hd,q⟩:=h
 have hs:=Zs1
 walk_at "wk"
 intro p1 n1
 refine ⟨_,rfl,y,rfl,?_⟩
 refine v8 (xs:=cT y) (λi σ H'=>∃(ps:List Pt) (ev sv:Option V),σ=[some (.str (S y)),some (.ref dr),some (.ref p1),ev,sv]/\H' p1=some (.lst (JA ps))/\(∀p∈ps,ue H' p/\p.t≠p1)/\ps.map Pt.is=(y.take i).flatMap (dZ y os)/\(ps:)<=100*i/\aG p1 H H') ⟨[],none,none,rfl,ae,λ_ h=>absurd h Qal,rfl,Qao _,aG.of (aj.upd n1)⟩ ?_ ?_
 ·rintro i x σ H1 hx ⟨ps,ev,sv,rfl,hp,nH,gP,gQ,s1⟩
  obtain ⟨e,he,rfl⟩:=fT hx
  have A9:=Qai he
  have hi:i<(y:):=(NU.mp he).1
  have Dt:aj H H1:=λa u ea=>s1 a u ea (au ea n1)
  refine ⟨_,rfl,_,rfl,_,rfl,y,dr,ws,os,e,rfl,hy,hz,A9,ho,hd.same Dt,λp2 H2 n2 mN s2=>?_⟩
  have MA:=K6 (H:=H) hy A9 ho hd.od
  refine ⟨p2,rfl,⟨_,bf.of mN⟩,?_⟩
  have h12:p2≠p1:=λz=>by rw[z,hp]at n2;cases n2
  refine iK (K:=K) (a:=p2) (xs:=e_ (nN y os e)) (λj σ H'=>∃(us:List Pt) (sv:Option V),σ=[some (.str (S y)),some (.ref dr),some (.ref p1),some (.str (S [e])),sv]/\H' p1=some (.lst (JA us))/\H' p2=some (.lst (e_ (nN y os e)))/\(∀p∈us,ue H' p/\p.t≠p1)/\us.map Pt.is=ps.map Pt.is++((nN y os e).take j).map (λp=>(p.c,p.i,e))/\(us:)<=100*i+j/\aG p1 H1 H')
   ⟨ps,sv,rfl,s2 _ _ hp,mN,λp yS=>⟨(nH p yS).1.same s2,(nH p yS).2⟩,by simp,by omega,aG.of s2⟩ (λj σ H' _ ⟨_,_,_,_,h,_⟩=>bf.of h) ?_ ?_
  ·rintro j x σ H3 XZ ⟨us,sv3,rfl,uq,Uz,UA,kz,qF,s3⟩
   obtain ⟨p,Ul,rfl⟩:=wV XZ
   obtain ⟨o,oo,po⟩:=K5 hy A9 ho (Qai Ul)
   have hj:j<(nN y os e:):=(NU.mp Ul).1
   have M0:aj H H3:=λa u ea=>s3 a u (Dt a u ea) (au ea n1)
   have pk:=(hd.od o oo).pr p po
   have tp:=M0 _ _ pk.tp
   refine ⟨_,rfl,.inl ⟨rfl,_,bf.of uq⟩,?_⟩
   refine ⟨_,rfl,p.t,_,0,_,rfl,rfl,cu.of tp,rfl,_,rfl,p.t,_,1,_,rfl,rfl,cu.of tp,rfl,?_⟩
   walk_at "wk"
   intro t nt
   have FC:t≠p1:=λz=>by rw[z,uq]at nt;cases nt
   refine ⟨p1,_,_,rfl,rfl,(aj.upd nt) _ _ uq,by rw[CP];omega,?_⟩
   refine ⟨us++[⟨t,p.c,p.i,e⟩],_,rfl,by rw[ae];exact congrArg (λx=>some (HO.lst x)) (Hq us ⟨t,p.c,p.i,e⟩),by rw[aq h12];exact (aj.upd nt) _ _ Uz,λr hr=>?_,?_,by rw[U3];show (us:)+1<=_;omega,λa u ea z=>by rw[aq z];exact (aj.upd nt) _ _ (s3 a u ea z)⟩
   ·rcases Qaf.mp hr with z | z
    ·exact ⟨((UA r z).1.same (aj.upd nt)).upd (UA r z).2,(UA r z).2⟩
    ·have e2:=Qab.mp z
     subst e2
     exact ⟨ue.upd ⟨ae,pk.cz,pk.iz,(hy.lt e A9).lt⟩ FC,FC⟩
   ·rw[Qad,kz, <-take_snoc Ul,Qad,Qbd]
    rfl
  ·rintro σ H3 ⟨us,sv3,rfl,uq,Uz,UA,kz,qF,s3⟩
   rw[cE]at qF kz
   refine ⟨us,_,_,rfl,uq,UA,?_,by omega,λa u ea z=>s3 a u (s1 a u ea z) z⟩
   rw[kz,gP, <-take_snoc he,Qaw,Qbg,Qa3,Qef,Qa4]
   rfl
 ·rintro σ H1 ⟨ps,ev,sv,rfl,hp,nH,gP,gQ,s1⟩
  rw[aY]at gQ gP
  rw[Qbg]at gP
  exact ⟨_,rfl,q p1 ps H1 n1 hp nH gP (by omega) (λa u ea=>s1 a u ea (au ea n1))⟩
theorem o7:bV P w K mg base gu 2 f6 d6 ["word","cord","place"] (iS K):=by
 walk_at"S"
 refine T.F6.fn.ok iV (λvs H Q E h=>ng h) (λ_ _ _ _ H vs Q E hr h=>?_)
 refine ⟨_,(ag (ar (i:=3) iV.nd rfl (Or.inl rfl) (aC fI (aC d_ (pv 2) ai) (aA aU rfl T.z_len Qaq (aa (pv 0) ab))))
   (ah (aH (bW (aa (bW (aa (pv 1) (aa (pv 3) (aa (ao c_ (hr.mono ∅) rfl T.F0.mg T.F0.fn.kp T.F0.bd .nil aD (aa (aN iM (pv 0) (pv 3) (λ_ _=>rfl)) ab)) ab)))) (aa (bW (aa (pv 1) (aa (pv 2) (aa (aN iM (pv 0) (pv 2) (λ_ _=>rfl)) ab)))) ab)))))),?_⟩
 obtain ⟨w,c,i,rfl,X3,hi,hz,q⟩:=h
 have hs:=Zs1
 have hp:(0:Int)<((w:):Int):=by omega
 have hpr:=wZ hi
 have gQ:=wY hi
 have e1:w.getD (lT (w:) i) 0=w[lT (w:) i]:=by rw[Qaa,NT gQ];rfl
 have e2:w.getD i 0=w[i]:=by rw[Qaa,NT hi];rfl
 rw[e1,e2]at q
 refine ⟨_,rfl,_,_,rfl,rfl,_,rfl,w,rfl,by omega,_,_,rfl,rfl,hp,?_⟩
 show uD 3 (V.int (((i:Int) - 1)%((w:):Int))) _ _ _
 rw[hpr]
 refine ⟨_,rfl,_,rfl,_,rfl,_,rfl,w,_,_,rfl,rfl,by omega,bY (NT gQ),_,rfl,X3 _ (Qa1 gQ),by show 3<=sizeLine;decide,λt1 n1=>?_⟩
 refine ⟨_,rfl,_,rfl,_,rfl,_,rfl,w,_,_,rfl,rfl,by omega,bY (NT hi),by show 3<=sizeLine;decide,λt2 n2=>?_⟩
 refine ⟨by show 2<=sizeLine;decide,λt nt=>?_⟩
 have X4:=(aj.upd (o:= .tup [.ref t1,.ref t2]) nt)
 refine q t t1 t2 _ ae (X4 _ _ ((aj.upd n2) _ _ ae)) (X4 _ _ ae) ((aj.upd n1).trans ((aj.upd n2).trans X4))
theorem BA:bV P w K mg base gu 4 f7 d7 ["yard","drawing"] (rX K):=by
 have Jc:=Fj (P:=P) (w:=w) (base:=base) T
 have qm:=o7 (P:=P) (w:=w) (base:=base) T
 refine T.F7.fn.ok cY (λvs H Q E h=>za h) (λ_ _ _ _ H vs Q E hr h=>?_)
 refine ⟨_,(ag (ar (i:=2) cY.nd rfl (Or.inl rfl) Gs)
   (ag (cn PassesOwn.never rfl (mL K rfl rfl T.z_enumerate (aa (ao Jc (hr.mono ∅) rfl T.F5.mg T.F5.fn.kp T.F5.bd .nil aD (aa (pv 0) (aa (pv 1) ab))) ab)) (dF (n:=2) K rfl rfl (aZ (aB (i:=3) cY.nd rfl (Or.inl rfl)) (aZ (aB (i:=4) cY.nd rfl (Or.inl rfl)) dD))) (ah (wm (qN hr) (pv 2) (pv 4) (pv 3) rfl)))
   (ag (ar (i:=5) cY.nd rfl (Or.inl rfl) (cP ab))
   (ag (cn PassesOwn.never rfl (mK K rfl rfl T.z_enumerate (aa (aN (bC K rfl) (pv 1) ai (λ_ _=>rfl)) ab)) (dF (n:=2) K rfl rfl (aZ (aB (i:=6) cY.nd rfl (Or.inl rfl)) (aZ (aB (i:=7) cY.nd rfl (Or.inl rfl)) dD))) (ah (cn PassesOwn.never rfl (eU rfl T.z_range (aa (aA aU rfl T.z_len Qaq (aa (pv 7) ab)) ab)) (aB (i:=8) cY.nd rfl (Or.inl rfl)) (ag (ar (i:=9) cY.nd rfl (Or.inl rfl) (ao qm (hr.mono ∅) rfl T.F6.mg T.F6.fn.kp T.F6.bd .nil aD (aa (pv 7) (aa (pv 6) (aa (pv 8) ab)))))
   (ah (cj (bE K rfl Qar Qbm Qbl cG (pv 5) (aa (bW (aa (pv 6) (aa (pv 8) (aa (qr (qN hr) (pv 2) (aN (bC K rfl) (pv 9) ai (λ_ _=>rfl)) (λ_ _=>rfl)) (aa (qr (qN hr) (pv 2) (aN (bC K rfl) (pv 9) ai (λ_ _=>rfl)) (λ_ _=>rfl)) ab))))) ab))))))))
   (ah (aH (pv 5))))))),?_⟩
 obtain ⟨y,dr,ws,os,rfl,hy,hz,xA,nI,hd,q⟩:=h
 have hs:=Zs1
 have Kl:=A8 hy nI
 have VP:=eF hy
 have xP:=nI.1
 have XI:=xA.t_
 obtain ⟨⟨wt,ot,d1,d2,d3⟩,dO⟩:=id hd
 walk_at "wk"
 intro d nd
 refine ⟨_,rfl,_,rfl,y,dr,ws,os,rfl,hy,hz,by omega,hd.same (aj.upd nd),λp1 ps H1 n1 gp nH gP Xo s1=>?_⟩
 have ZZ:=s1 _ _ (ae (H:=H) (a:=d) (o:=HO.dT []))
 have Dt:aj H H1:=(aj.upd nd).trans s1
 have gQ:(ps:)=(cV y os:):=by rw[<-gP,Qi]
 refine ⟨p1,rfl,⟨_,bf.of gp⟩,?_⟩
 have h1d:p1≠d:=λz=>by rw[z,ae]at n1;cases n1
 refine og (K:=K) (a:=p1) (xs:=JA ps) (λi σ H'=>∃(aL:List (List Key×V)) (nv pv:Option V),σ=[some (.str (S y)),some (.ref dr),some (.ref d),nv,pv,none,none,none,none,none]/\H' d=some (.dT aL)/\Nums (cV y os) aL i/\(aL:)<=i/\aG d H1 H')
  ⟨[],none,none,rfl,ZZ,λp hp=>absurd hp (by simp),Qao _,aG.refl _ _⟩ (λi σ H' _ ⟨_,_,_,_,_,_,_,h⟩=>bf.of (h _ _ gp h1d)) ?_ ?_
 ·rintro i x σ H2 T hx ⟨aL,nv,pv,rfl,hd2,LJ,hkl,s2⟩ nT
  obtain ⟨p,hp,rfl⟩:∃p,ps[i]? =some p/\x=V.ref p.t:=by
   unfold JA at hx
   rw[Qag]at hx
   cases e:ps[i]? with
   | none=>rw[e]at hx;cases hx
   | some p=>rw[e]at hx;cases hx;exact ⟨p,rfl,rfl⟩
  have hi:i<(ps:):=(NU.mp hp).1
  have pk:=(nH p (Qai hp)).1.tp
  have hpd:p.t≠d:=λz=>by rw[z,ZZ]at pk;cases pk
  have hTd:d≠T:=au hd2 nT
  walk_at"j"
  refine ⟨_,rfl,_,rfl,_,rfl,d,_,rfl,wj.t (k:=wX p.is) (by rw[aq hTd];exact hd2) ((aj.upd nT) _ _ (s2 _ _ pk hpd)) (by omega),?_⟩
  exact ⟨_,_,_,rfl,ae,LJ.put Kl (TX gP hp),Qbf (hZ _ _ _) (by omega),λa o ea z=>by rw[aq z];exact (aj.upd nT) _ _ (s2 a o ea z)⟩
 ·rintro σ H2 ⟨aL,nv,pv,rfl,hd2,LJ,hkl,s2⟩
  rw[CP,gQ]at LJ
  have M3:∀p∈cV y os,eE aL (wX p)=some (.int ((cV y os).idxOf p:Nat)):=λp hp=>LJ p (by rw[Qbg];exact hp)
  have xR:aj H H2:=λa o ea=>s2 a o (Dt a o ea) (au ea nd)
  walk_at "wk"
  intro p2 n2
  have X5:=aj.upd (o:= .lst []) n2
  have X6:H p2=none:=aj.free xR n2
  refine ⟨_,rfl,dr,_,0,_,rfl,rfl,cu.of (X5 _ _ (xR _ _ d1)),rfl,?_⟩
  refine ⟨wt,rfl,⟨_,cu.of (X5 _ _ (xR _ _ d2))⟩,?_⟩
  refine kF (K:=K) (a:=wt) (xs:=jy ws) (λj σ H'=>∃(qs:List Q4) (cv wv iv av:Option V),σ=[some (.str (S y)),some (.ref dr),some (.ref d),nv,pv,some (.ref p2),cv,wv,iv,av]/\H' p2=some (.lst (EJ qs))/\(∀x∈qs,uf H' x)/\qs.map Q4.v=fW (cV y os) ws j/\(qs:)<=12*j/\aj H2 H')
   ⟨[],none,none,none,none,rfl,ae,λ_ h=>absurd h Qal,rfl,Qao _,X5⟩ (λj σ H' _ ⟨_,_,_,_,_,_,_,_,_,_,h⟩=>cu.of (h _ _ (xR _ _ d2))) ?_ ?_
  ·rintro j x σ H3 T hx ⟨qs,cv,wv,iv,av,rfl,uq,UB,M4,X7,s3⟩ nT
   have hj:j<(ws:):=by
    have:=(NU.mp hx).1
    rwa [bN]at this
   rw[ir hj]at hx
   cases hx
   have xQ:ws[j]? =some ws[j]:=NT hj
   obtain ⟨Fi,pR⟩:=xA.all _ (Qa1 hj)
   generalize ws[j]=w at xQ Fi pR ⊢
   have X3:∀l∈w,l<128:=λl hl=>(hy.lt l (Fi l hl)).lt
   have sT:=aj.upd (o:= .tup [.int j,.str (S w)]) nT
   walk_at"j"
   refine ⟨_,rfl,w,rfl,by omega,_,rfl,by omega,by omega,?_⟩
   rw[YQ]
   refine fH (λi σ H'=>∃(us:List Q4) (iv av:Option V),σ=[some (.str (S y)),some (.ref dr),some (.ref d),nv,pv,some (.ref p2),some (.int j),some (.str (S w)),iv,av]/\H' p2=some (.lst (EJ us))/\(∀x∈us,uf H' x)/\us.map Q4.v=fW (cV y os) ws j++lU (cV y os) j w i/\(us:)<=12*j+i/\aj H2 H')
    ⟨qs,iv,av,rfl,sT _ _ uq,λx hx=>(UB x hx).ts (aR.of sT),by rw[M4];show _=_++[];rw[Qa4],by omega,s3.trans sT⟩ ?_ ?_
   ·rintro i σ H4 hi ⟨us,iv4,av4,rfl,Fh,ju,kz,qF,s4⟩
    show zS _ _ _ _ _
    refine yI λDx LB=>?_
    have e1:w[lT (w:) i]? =some (w.getD (lT (w:) i) 0):=by rw[Qaa,NT (wY hi)];rfl
    have e2:w[i]? =some (w.getD i 0):=by rw[Qaa,NT hi];rfl
    have m1:=M3 _ (y9 hy nI xQ e1 (Fi _ (Qai e1)) (.inr rfl))
    have m2:=M3 _ (y9 hy nI xQ e2 (Fi _ (Qai e2)) (.inl rfl))
    refine ⟨_,rfl,_,rfl,_,rfl,w,j,i,by rw[Qcz];rfl,X3,hi,by omega,λt t1 t2 H5 ht FC RI s5=>?_⟩
    have LF:=s5 _ _ Fh
    have Z0:=s5 _ _ (s4 _ _ hd2)
    refine ⟨_,rfl,.inl ⟨rfl,_,bf.of LF⟩,_,rfl,_,rfl,?_⟩
    refine ⟨_,rfl,_,rfl,t,_,0,_,rfl,rfl,cu.of ht,rfl,d,_,rfl,by rw[<-m1];exact q9.t Z0 FC,?_⟩
    refine ⟨_,rfl,_,rfl,t,_,1,_,rfl,rfl,cu.of ht,rfl,d,_,rfl,by rw[<-m2];exact q9.t Z0 RI,?_⟩
    rw[Qcz]
    refine ⟨by show 4<=sizeLine;decide,λtq ntq=>?_⟩
    have s6:=s5.trans (aj.upd (o:= .tup [.int j,.int i,.int ((cV y os).idxOf (j,lT (w:) i,ak (w.getD (lT (w:) i) 0)):Nat),.int ((cV y os).idxOf (j,i,w.getD i 0):Nat)]) ntq)
    have X8:=s6 _ _ Fh
    refine ⟨p2,_,_,rfl,rfl,X8,by rw[CQ];omega,?_⟩
    refine LB _ _ ⟨us++[⟨tq,eI (cV y os) j w i⟩],_,_,rfl,by rw[ae];exact congrArg (λx=>some (HO.lst x)) (Hv us ⟨tq,eI (cV y os) j w i⟩),λx hx=>?_,by rw[Qad,kz,pL,Qbd];rfl,by rw[U3];show (us:)+1<=_;omega,λa o ea=>by rw[aq (au ea n2)];exact s6 _ _ (s4 a o ea)⟩
    rcases Qaf.mp hx with g | g
    ·exact (ju x g).ts ((aR.of s6).trans (aR.jx X8))
    ·have e3:=Qab.mp g
     subst e3
     exact (aR.jx X8) _ _ ae
   ·rintro σ H4 ⟨us,iv4,av4,rfl,Fh,ju,kz,qF,s4⟩
    exact ⟨us,_,_,_,_,rfl,Fh,ju,by rw[kz,nc xQ],by omega,s4⟩
  ·rintro σ H3 ⟨qs,cv,wv,iv,av,rfl,uq,UB,M4,X7,s3⟩
   rw[bN]at M4
   exact ⟨_,rfl,q p2 qs H3 X6 uq UB M4 (xR.trans s3)⟩
theorem uA:bV P w K mg base gu 2 Q0 RB ["_law_box_here","_law_drawing_here"] (lD K):=by
 walk_at"s"
 refine T.VH.fn.ok eJ (λvs H Q E h=>sM h) (λ_ _ _ _ H vs Q E hr h=>?_)
 refine ⟨_,(ag (ar (i:=2) eJ.nd rfl (Or.inl rfl) (bB (fU K rfl) rfl T.z_list boot_list (aa (aN (bC K rfl) (pv 1) ai (λ_ _=>rfl)) ab)))
   (ag (ar (i:=3) eJ.nd rfl (Or.inl rfl) (ao bK (hr.mono ∅) rfl T.fE.mg T.fE.fn.kp T.fE.bd .nil aD (aa (pv 0) (aa (aA (aQ K rfl) rfl T.z_len Qaq (aa (pv 2) ab)) ab))))
   (ag (ar (i:=4) eJ.nd rfl (Or.inl rfl) (bB (fU K rfl) rfl T.z_list boot_list (aa (aN (bz K rfl) (pv 2) (pv 3) (λ_ _=>rfl)) ab)))
   (i4 (cK (aK o9 (aA (aQ K rfl) rfl T.z_len Qaq (aa (pv 4) ab)) ai (aX _)) (ag (ar (i:=5) eJ.nd rfl (Or.inl rfl) (ao bK (hr.mono ∅) rfl T.fE.mg T.fE.fn.kp T.fE.bd .nil aD (aa (pv 0) (aa (aC d_ (aA (aQ K rfl) rfl T.z_len Qaq (aa (pv 4) ab)) ai) ab))))
   (ah (qJ (bW (aa (aN (bz K rfl) (pv 4) (aC bp (pv 5) ai) (λ_ _=>rfl)) (aa (aN (bz K rfl) (pv 4) (pv 5) (λ_ _=>rfl)) ab))) (dF (n:=2) K rfl rfl (aZ (qI (pv 4) (pv 5) set_list) (aZ (qI (pv 4) (aC bp (pv 5) ai) set_list) dD)))))) b9)
   (ag (qJ (bB (bA K rfl) rfl T.z_tuple boot_tuple (aa (pv 4) ab)) (qI (pv 2) (pv 3) set_list))
   (ah (aH (bW (aa (aN (bC K rfl) (pv 1) ai (λ_ _=>rfl)) (aa (bB (bA K rfl) rfl T.z_tuple boot_tuple (aa (pv 2) ab)) ab)))))))))),?_⟩
 obtain ⟨b,dr,y,ws,os,rfl,hb,hy,JJ,RK,cy,Fu,nI,q⟩:=h
 obtain ⟨⟨wt,ot,h1,h2,h3⟩,xM⟩:=id Fu
 have hs:=Zs1
 have xP:2*(os:)=(y:):=by rw[nI.1];exact eF hy
 refine ⟨_,rfl,dr,_,1,_,rfl,rfl,cu.of h1,rfl,ot,_,rfl,.inr (cu.of h3),λl nl=>?_⟩
 have lb:l≠b:=hb.ne nl
 have xN:=hb.bL (o:= .lst (gn os)) lb
 have s1:=(aG.refl b H).bL (o:= .lst (gn os)) nl
 have tM:upd H l (.lst (gn os)) l=some (.lst (gn os)):=ae
 generalize upd H l (.lst (gn os))=H1 at xN s1 tM ⊢
 refine ⟨_,rfl,_,rfl,l,_,rfl,.inl (bf.of tM),b,_,rfl,xN,by rw[gI];lia,by rw[gI];lia,λat' H2 Ql i3 s2=>?_⟩
 rw[gI]at Ql
 have ha:at'<(os:):=by lia
 have ho:os[at']? =some os[at']:=NT ha
 have UC:=xM _ (Qa1 ha)
 generalize eo:os[at']=o at ho UC
 have JK:=s1.trans s2
 have jK:=s2 _ _ tM lb
 have RM:∀{c u},H c=some (.tup u)->c≠b:=λ{c u} e z=>by
  obtain ⟨x1,x2,e2⟩:=hb
  rw[z,e2]at e
  cases e
 refine ⟨_,rfl,_,rfl,l,_,_,_,rfl,rfl,bf.of jK,bY (rT ho),o.o,_,rfl,.inr (cu.of (JK _ _ UC.tp (RM UC.tp))),λm nm=>?_⟩
 have mb:m≠b:=i3.ne nm
 have ml:m≠l:=λz=>by rw[z,jK]at nm;cases nm
 have X9:=JK.none nm mb
 have jr:=i3.bL (o:= .lst (e_ o.ps)) mb
 have s3:=JK.bL (o:= .lst (e_ o.ps)) X9
 have UD:upd H2 m (.lst (e_ o.ps)) m=some (.lst (e_ o.ps)):=ae
 have Uy:upd H2 m (.lst (e_ o.ps)) l=some (.lst (gn os)):=by rw[aq (Ne.symm ml)];exact jK
 generalize upd H2 m (.lst (e_ o.ps))=H3 at jr s3 UD Uy ⊢
 have hz:=UC.fw
 refine ⟨λσ H'=>∃(ps:List Pr) (kv:Option V),σ=[some (.ref b),some (.ref dr),some (.ref l),some (.int at'),some (.ref m),kv]/\ps.Perm o.ps/\H' m=some (.lst (e_ ps))/\H' l=some (.lst (gn os))/\bM H' b/\aG b H H',?_,?_⟩
 ·refine ⟨_,rfl,m,_,rfl,.inl (bf.of UD),_,_,rfl,rfl,_,rfl,cf (λf=>?_) (λf=>?_)⟩
  ·rw[cE]at f
   have f:=of_decide_eq_true f
   refine ⟨_,rfl,_,rfl,m,_,rfl,.inl (bf.of UD),_,_,rfl,rfl,b,_,rfl,jr,by rw[cE];lia,by rw[cE];lia,λk H4 hk pT s4=>?_⟩
   rw[cE]at hk
   have B9:k+1<(o.ps:):=by lia
   have Qr:k<(o.ps:):=by lia
   have RN:=s4 _ _ UD mb
   have LK:=s4 _ _ Uy lb
   have g0:(e_ o.ps)[k]? =some (V.ref (o.ps[k]'Qr).t):=by unfold e_;rw[Qag,NT Qr];rfl
   have g1:(e_ o.ps)[k+1]? =some (V.ref (o.ps[k+1]'B9).t):=by unfold e_;rw[Qag,NT B9];rfl
   have en:(k:Int)+1=((k+1:Nat):Int):=by lia
   refine ⟨_,rfl,_,rfl,_,_,rfl,rfl,m,_,_,_,rfl,rfl,bf.of RN,by rw[en];exact bY g1,_,rfl,_,rfl,m,_,_,_,rfl,rfl,bf.of RN,bY g0,by show 2<=sizeLine;decide,λt nt=>?_⟩
   have tb:t≠b:=pT.ne nt
   have tm:t≠m:=λz=>by rw[z,RN]at nt;cases nt
   have tl:t≠l:=λz=>by rw[z,LK]at nt;cases nt
   have UE:=(s3.trans s4).none nt tb
   refine ⟨t,_,rfl,cu.of ae,rfl,_,_,rfl,_,rfl,_,rfl,m,e_ o.ps,_,k,rfl,rfl,by rw[aq (Ne.symm tm)];exact RN,by rw[cE];exact xo Qr,?_⟩
   rw[Ds]
   refine ⟨_,_,rfl,_,rfl,_,rfl,_,_,rfl,rfl,m,_,_,k+1,rfl,rfl,ae,by rw[en,cE,Qgc];exact xo B9,?_⟩
   rw[Ds]
   refine ⟨rfl,_,_,rfl,swap_perm o.ps k B9,ae,?_,?_,?_⟩
   ·rw[aq (Ne.symm ml),aq (Ne.symm ml),aq (Ne.symm tl)];exact LK
   ·exact ((pT.bL tb).bL mb).bL mb
   ·exact (((s3.trans s4).bL UE).bL X9).bL X9
  ·exact ⟨o.ps,none,rfl,Qcn _,UD,Uy,jr,s3⟩
 ·rintro σ H4 ⟨ps,kv,rfl,pp,RN,LK,pT,s4⟩
  have ml4:m≠l:=ml
  refine ⟨_,rfl,m,_,rfl,.inl ⟨bf.of RN,λu nu=>?_⟩⟩
  have ub:u≠b:=pT.ne nu
  have ul:u≠l:=λz=>by rw[z,LK]at nu;cases nu
  have VY:=s4.none nu ub
  have s5:=s4.bL (o:= .tup (e_ ps)) VY
  have RL:=pT.bL (o:= .tup (e_ ps)) ub
  have Z1:upd H4 u (.tup (e_ ps)) u=some (.tup (e_ ps)):=ae
  have VZ:upd H4 u (.tup (e_ ps)) l=some (.lst (gn os)):=by rw[aq (Ne.symm ul)];exact LK
  generalize upd H4 u (.tup (e_ ps))=H5 at s5 RL Z1 VZ ⊢
  refine ⟨_,rfl,_,rfl,l,gn os,_,at',rfl,rfl,VZ,by rw[gI];exact xo ha,?_⟩
  have X_:(gn os).set at' (V.ref u)=gn (os.set at' ⟨u,ps⟩):=Lz os at' ⟨u,ps⟩
  rw[X_]
  have s6:=s5.bL (o:= .lst (gn (os.set at' ⟨u,ps⟩))) nl
  have PH:=RL.bL (o:= .lst (gn (os.set at' ⟨u,ps⟩))) lb
  have Z2:upd H5 l (.lst (gn (os.set at' ⟨u,ps⟩))) l=some (.lst (gn (os.set at' ⟨u,ps⟩))):=ae
  have V0:upd H5 l (.lst (gn (os.set at' ⟨u,ps⟩))) u=some (.tup (e_ ps)):=by rw[aq ul];exact Z1
  generalize upd H5 l (.lst (gn (os.set at' ⟨u,ps⟩)))=H6 at s6 PH Z2 V0 ⊢
  refine ⟨_,rfl,dr,_,0,_,rfl,rfl,cu.of (s6 _ _ h1 (RM h1)),rfl,_,rfl,l,_,rfl,.inl ⟨bf.of Z2,λov PJ=>?_⟩⟩
  have ob:ov≠b:=PH.ne PJ
  have ou:ov≠u:=λz=>by rw[z,V0]at PJ;cases PJ
  have Ya:=s6.none PJ ob
  refine ⟨by show 2<=sizeLine;decide,λd nd=>?_⟩
  have db:d≠b:=λz=>by rw[z]at nd;exact (PH.bL (o:= .tup (gn (os.set at' ⟨u,ps⟩))) ob).ne nd rfl
  have Z3:d≠ov:=λz=>by rw[z,ae]at nd;cases nd
  have Yb:H6 d=none:=by rw[<-nd,aq Z3]
  have du:d≠u:=λz=>by rw[z,V0]at Yb;cases Yb
  have RE:=s6.none Yb db
  have s8:=(s6.bL (o:= .tup (gn (os.set at' ⟨u,ps⟩))) Ya).bL (o:= .tup [.ref wt,.ref ov]) RE
  refine q d (os.set at' ⟨u,ps⟩) _ ⟨⟨wt,ov,ae,s8 _ _ h2 (RM h2),by rw[aq (Ne.symm Z3)];exact ae⟩,λo' xJ=>?_⟩ (nI.put ha (by rw[eo];exact pp.map _)) ((PH.bL ob).bL db) s8
  rcases List.mem_or_eq_of_mem_set xJ with g | g
  ·have k:=xM _ g
   exact ⟨s8 _ _ k.tp (RM k.tp),λr hr=>⟨s8 _ _ (k.pr r hr).tp (RM (k.pr r hr).tp),(k.pr r hr).cz,(k.pr r hr).iz⟩,k.fw⟩
  ·rw[g]
   refine ⟨by rw[aq (Ne.symm du),aq (Ne.symm ou)];exact V0,λr hr=>?_,by rw[pp.length_eq];exact hz⟩
   have k:=UC.pr r (pp.mem_iff.mp hr)
   exact ⟨s8 _ _ k.tp (RM k.tp),k.cz,k.iz⟩
theorem xG:bV P w K mg base gu 1 f9 d9 ["rising","point"] (ni K):=by
 refine T.F9.fn.ok dX (λvs H Q E h=>ug h) (λ_ _ _ _ H vs Q E hr h=>?_)
 refine ⟨_,(ag (ar (i:=2) dX.nd rfl (Or.inl rfl) ai)
   (ag (ar (i:=3) dX.nd rfl (Or.inl rfl) (aC d_ (aA (aQ K rfl) rfl T.z_len Qaq (aa (pv 0) ab)) ai))
   (ag (dS PassesOwn.never (aK jI (pv 2) (pv 3) (aX _)) (ag (ar (i:=4) dX.nd rfl (Or.inl rfl) (aC f_ (aC bp (pv 2) (pv 3)) ai))
   (ah (cK (aK jI (aN (bz K rfl) (pv 0) (pv 4) (λ_ _=>rfl)) (pv 1) (aX _)) (ah (ar (i:=2) dX.nd rfl (Or.inl rfl) (aC bp (pv 4) ai))) (ah (ar (i:=3) dX.nd rfl (Or.inl rfl) (pv 4)))))))
   (ah (aH (pv 2)))))),?_⟩
 obtain ⟨a,l,p,rfl,ha,up,hp,hn,q⟩:=h
 have hs:=Zs1
 have hi:=Qan hp
 have Yc:l[l.idxOf p]=p:=Qcb hi
 have key:=Qc5.mp up
 refine ⟨_,rfl,a,_,rfl,.inl (bf.of ha),?_⟩
 rw[nh]
 walk_at "wk"
 refine ⟨λm σ H'=>∃(lo hi:Nat) (mv:Option V),σ=[some (.ref a),some (.int p),some (.int lo),some (.int hi),mv]/\m=hi - lo/\lo<=l.idxOf p/\l.idxOf p<=hi/\hi<(l:)/\H'=H,⟨_,0,(l:) - 1,none,?_,rfl,Qao _,by omega,by omega,rfl⟩,?_⟩
 ·have:(((l:):Int) - 1)=(((l:) - 1:Nat):Int):=by omega
  rw[<-this];rfl
 rintro m σ H2 ⟨lo,jw,mv,rfl,rfl,h1,h2,h3,rfl⟩
 walk_at "wk"
 walk_at"e"
 ·have z1:(lo:Int)<jw:=of_decide_eq_true z
  have em:(((lo:Int)+jw) / 2)=(((lo+jw) / 2:Nat):Int):=by omega
  have hm:(lo+jw) / 2<(l:):=by omega
  walk_at "rd"
  refine ⟨a,_,((lo:Int)+jw) / 2,_,rfl,rfl,bf.of ha,by rw[em];exact bY (HI (NT hm)),?_⟩
  walk_at "rd"
  refine cf (λy=>?_) (λy=>?_)
  ·have y1:((l[(lo+jw) / 2]:Nat):Int)<p:=of_decide_eq_true y
   have lt:(lo+jw) / 2<l.idxOf p:=by
    refine Classical.byContradiction λw=>?_
    by_cases e:(lo+jw) / 2=l.idxOf p
    ·have:l[(lo+jw) / 2]=p:=by simp only[e];exact Yc
     omega
    ·have:=key (l.idxOf p) ((lo+jw) / 2) hi hm (by omega)
     rw[Yc]at this
     omega
   walk_at "rd"
   have e1:((lo:Int)+jw) / 2+1=(((lo+jw) / 2+1:Nat):Int):=by omega
   refine ⟨jw - ((lo+jw) / 2+1),by omega,(lo+jw) / 2+1,jw,_,by rw[<-e1];rfl,rfl,by omega,h2,h3,rfl⟩
  ·have y1: ¬((l[(lo+jw) / 2]:Nat):Int)<p:=λw=>y (decide_eq_true w)
   have le:l.idxOf p<=(lo+jw) / 2:=by
    refine Classical.byContradiction λw=>?_
    have:=key ((lo+jw) / 2) (l.idxOf p) hm hi (by omega)
    rw[Yc]at this
    omega
   walk_at "rd"
   refine ⟨(lo+jw) / 2 - lo,by omega,lo,(lo+jw) / 2,_,by rw[<-em];rfl,rfl,h1,le,by omega,rfl⟩
 ·have z1: ¬(lo:Int)<jw:=λw=>z (decide_eq_true w)
  have e:lo=l.idxOf p:=by omega
  walk_at "rd"
  rw[e]
  exact q
theorem nK:bV P w K mg base gu 2 Qw Q5 ["some"] (ie K):=by
 have tJ:=qj (P:=P) (w:=w) (base:=base) T
 have zJ:=xG (P:=P) (w:=w) (base:=base) T
 refine T.Vl.fn.ok bU (λvs H Q E h=>lV h) (λ_ _ _ _ H vs Q E hr h=>?_)
 refine ⟨_,(ag (ar (i:=1) bU.nd rfl (Or.inl rfl) (ao tJ (hr.mono ∅) rfl T.F8.mg T.F8.fn.kp T.F8.bd .nil aD (aa (pv 0) ab)))
   (ag (ar (i:=2) bU.nd rfl (Or.inl rfl) (cP ab))
   (ag (ar (i:=3) bU.nd rfl (Or.inl rfl) ai)
   (ag (cn PassesOwn.never rfl (eB K rfl (aA (tZ rfl) rfl T.z_sorted boot_sorted (aa (pv 1) ab))) (aB (i:=4) bU.nd rfl (Or.inl rfl)) (ah (cK (aK lN (qr (qN hr) (pv 1) (pv 4) (λ_ _=>rfl)) (pv 4) (aX _)) (ah (cj (bE K rfl Qar Qbm Qbl cG (pv 2) (aa (pv 4) ab)))) (ag (ar (i:=5) bU.nd rfl (Or.inl rfl) (ao zJ (hr.mono ∅) rfl T.F9.mg T.F9.fn.kp T.F9.bd .nil aD (aa (pv 2) (aa (qr (qN hr) (pv 1) (pv 4) (λ_ _=>rfl)) ab))))
   (ag (cj (bE K rfl Qar Qdo Qdm mz (pv 2) (aa (pv 5) ab)))
   (ah (lK (i:=3) bU.nd rfl (Or.inl rfl) (aC d_ (aA (aQ K rfl) rfl T.z_len Qaq (aa (pv 2) ab)) (pv 5)) vQ)))))))
   (ah (aH (pv 3))))))),?_⟩
 obtain ⟨a,qs,rfl,ha,hq,hn,nd,q⟩:=h
 have hs:=Zs1
 refine ⟨_,rfl,a,qs,rfl,ha,hq,by omega,nd,λd H1 ZA hd s1=>?_⟩
 have hcs:(qs.map Q4.v:)<=24:=by rw[Qi];exact hn
 generalize qs.map Q4.v=cs at nd hd q hcs
 have kl:=zf cs
 have cl':(fz cs:)=2*(cs:):=by
  have:=congrArg List.length (iT cs)
  rw[Qi,Qi]at this
  omega
 walk_at "wk"
 intro b nb
 have Z4:d≠b:=au hd nb
 have hd2:L2.upd H1 b (.lst []) d=some (.dK (hW cs)):=by rw[aq Z4];exact hd
 have sb:=aj.upd (o:= .lst []) nb
 refine ⟨_,rfl,d,_,(fz cs).map λn:Nat=>(n:Int),rfl,hd2,by rw[iT,Qbq];rfl,by rw[Qi];omega,λp2 ms n2 jC Pm=>?_⟩
 obtain ⟨P,eP,pP,uP⟩:=Bb nd jC Pm
 rw[eP]
 have ch:=OV nd pP uP
 have lP:P.length<=2000:=by rw[pP.length_eq];omega
 have Z5:p2≠b:=λz=>by rw[z,ae]at n2;cases n2
 have s2:=sb.trans (aj.upd (o:= .lst (ins P)) n2)
 refine ⟨p2,rfl,⟨_,bf.of ae⟩,?_⟩
 refine iK (K:=K) (a:=p2) (xs:=ins P) (λk σ H'=>∃(m:Nat) (pv nv:Option V),σ=[some (.ref a),some (.ref d),some (.ref b),some (.int m),pv,nv]/\H' b=some (.lst (ins (qz (cX cs) (P.take k) (P.drop k))))/\m+JC (cX cs) (P.take k) (P.drop k)=JC (cX cs) [] P/\aG b (L2.upd (L2.upd H1 b (.lst [])) p2 (.lst (ins P))) H')
  ⟨0,none,none,rfl,by rw[aq (Ne.symm Z5),ae];rfl,by rw[Qd5];rfl,aG.refl _ _⟩ (λk σ H' _ ⟨_,_,_,_,_,_,h⟩=>bf.of (h _ _ ae Z5)) ?_ ?_
 ·rintro k x σ H3 hx ⟨m,pv,nv,rfl,hb,hm,s3⟩
  obtain ⟨p,hp,rfl⟩:∃p,P[k]? =some p/\x=V.int (p:Nat):=by
   unfold ins at hx
   rw[Qag]at hx
   cases e:P[k]? with
   | none=>rw[e]at hx;cases hx
   | some p=>rw[e]at hx;cases hx;exact ⟨p,rfl,rfl⟩
  have hk:k<P.length:=(NU.mp hp).1
  have hpc:p∈fz cs:=pP.mem_iff.mp (Qai hp)
  have Z6:=OX nd hpc
  have Z7:H3 d=some (.dK (hW cs)):=s3 _ _ (s2 _ _ hd) Z4
  have Z8:P=P.take k++p::P.drop (k+1):=by
   have:=Qbr k P
   rw[Qbj hk,(NU.mp hp).2]at this
   exact this.symm
  have Ye:P.drop k=p::P.drop (k+1):=by rw[Qbj hk,(NU.mp hp).2]
  have Uu:P.take (k+1)=P.take k++[p]:=(take_snoc hp).symm
  have bl:(qz (cX cs) (P.take k) (P.drop k):)<=2000:=Qbf K_ (by rw[Qas];omega)
  have yR:=HL (st:=cX cs) hp
  refine ⟨_,rfl,_,rfl,d,_,rfl,by rw[<-Z6];exact q9.k (k:=Sum.inl (p:Int)) Z7,?_⟩
  walk_at "rd"
  walk_at"e"
  ·have z1:cX cs p=p:=by have:=of_decide_eq_true z;omega
   refine ⟨_,rfl,.inl ⟨rfl,_,bf.of hb⟩,_,rfl,b,_,_,rfl,rfl,hb,by rw[nh];omega,?_⟩
   refine ⟨m,_,_,rfl,?_,?_,s3.trans (aG.upd _ _ _)⟩
   ·rw[ae,HH,Uu,HD ch Z8 z1, <-Ye]
   ·have e0:EL (cX cs) (P.take k) (P.drop (k+1)) p=0:=by unfold EL;rw[if_pos z1]
    omega
  ·have z1:cX cs p≠p:=λw=>z (decide_eq_true (by rw[w]))
   obtain ⟨en,em⟩:=OS ch Z8 z1
   rw[<-Ye]at en em
   have up:=OW (st:=cX cs) uP (Qbr k P).symm (P.drop k)
   have Ag:=Qan em
   refine ⟨_,rfl,_,rfl,_,rfl,d,_,rfl,by rw[<-Z6];exact q9.k (k:=Sum.inl (p:Int)) Z7,b,_,cX cs p,rfl,hb,up,em,by omega,?_⟩
   refine ⟨_,rfl,.inl ⟨rfl,_,bf.of hb⟩,_,rfl,b,_,_,_,_,rfl,rfl,hb,by omega,by omega,?_,HI (NT Ag),?_⟩
   ·rw[nh]
    exact T1 Ag
   have ee:(ins (qz (cX cs) (P.take k) (P.drop k))).eraseIdx ((qz (cX cs) (P.take k) (P.drop k)).idxOf (cX cs p))=ins (qz (cX cs) (P.take (k+1)) (P.drop (k+1))):=by
    rw[Uu,en, <-HK em]
    exact vz _ _
   rw[ee]
   refine ⟨_,rfl,_,rfl,b,_,rfl,.inl (bf.of ae),?_⟩
   walk_at "rd"
   have bh:=behind up em
   have lb:(qz (cX cs) (P.take (k+1)) (P.drop (k+1)):)=((qz (cX cs) (P.take k) (P.drop k)).erase (cX cs p):):=by rw[Uu,en]
   have le:((qz (cX cs) (P.take k) (P.drop k)).erase (cX cs p):)+1=(qz (cX cs) (P.take k) (P.drop k):):=by rw[List.length_erase_of_mem em];omega
   have ec:EL (cX cs) (P.take k) (P.drop (k+1)) p=(((qz (cX cs) (P.take k) (P.drop k)).filter λx=>decide (cX cs p<x)):):=by unfold EL;rw[if_neg z1,Ye]
   have ei:(m:Int)+(((ins (qz (cX cs) (P.take (k+1)) (P.drop (k+1))):):Nat) - ((qz (cX cs) (P.take k) (P.drop k)).idxOf (cX cs p):Nat))=((m+EL (cX cs) (P.take k) (P.drop (k+1)) p:Nat):Int):=by rw[nh];omega
   exact ⟨m+EL (cX cs) (P.take k) (P.drop (k+1)) p,some (.int p),some (.int ((qz (cX cs) (P.take k) (P.drop k)).idxOf (cX cs p):Nat)),by rw[<-ei];rfl,ae,by omega,s3.trans (aG.upd _ _ _)⟩
 ·rintro σ H3 ⟨m,pv,nv,rfl,hb,hm,s3⟩
  rw[nh,List.drop_length,Qbg]at hm
  have wd:m=JC (cX cs) [] P:=hm
  refine ⟨_,rfl,?_⟩
  rw[wd,TZ ch]
  exact q H3 λc o e=>s3 c o (s2 c o (s1 c o e)) (au e (aj.free s1 nb))
theorem zK:bV P w K mg base gu 2 QX Ry ["_law_yard_here","_law_words_here"] (pQ K):=by
 have kA:=o6 (P:=P) (w:=w) (base:=base) T
 walk_at"n"
 refine T.VE.fn.ok eY (λvs H Q E h=>xn h) (λ_ _ _ _ H vs Q E hr h=>?_)
 refine ⟨_,(ag (ar (i:=2) eY.nd rfl (Or.inl rfl) (cP ab))
   (ag (cn PassesOwn.never rfl (eB K rfl (ao kA (hr.mono ∅) rfl T.JH.mg T.JH.fn.kp T.JH.bd .nil aD (aa (pv 0) ab))) (aB (i:=3) eY.nd rfl (Or.inr rfl)) (ag (ar (i:=4) eY.nd rfl (Or.inl rfl) (cP ab))
   (ag (cn PassesOwn.never rfl (mK K rfl rfl T.z_enumerate (aa (pv 1) ab)) (dF (n:=2) K rfl rfl (aZ (aB (i:=5) eY.nd rfl (Or.inr rfl)) (aZ (aB (i:=6) eY.nd rfl (Or.inl rfl)) dD))) (ah (cj (bE K rfl Qar Qd1 Qd0 kD (pv 4) (aa (bT ["_law_i","_law_letter","_law_c","_law_band"] [none,none,some 5,some 3] (mI rfl T.z_enumerate (aa (pv 6) ab)) ⟨⟨rfl,rfl,by first | exact .inl rfl | exact .inr rfl⟩,⟨⟨rfl,rfl,by first | exact .inl rfl | exact .inr rfl⟩,trivial⟩⟩ (λ_ _ _ _=>(dF (n:=2) K rfl rfl (aZ (aB (i:=0) (by decide+kernel:List.Nodup (["_law_i","_law_letter","_law_c","_law_band"]:List Str)) rfl (Or.inl rfl)) (aZ (aB (i:=1) (by decide+kernel:List.Nodup (["_law_i","_law_letter","_law_c","_law_band"]:List Str)) rfl (Or.inl rfl)) dD)))) (λ_ _ _ _=>(qP (aK (An K rfl) (pv 1) (bW (aa (pv 3) (aa (ao b4 (hr.mono ∅) rfl T.kQ.mg T.kQ.fn.kp T.kQ.bd .nil aD (aa (pv 3) ab)) ab))) (by with_unfolding_all rfl)))) (λ_ _ _ _=>(bW (aa (pv 2) (aa (pv 0) ab))))) ab)))))
   (ah (cj (bE K rfl Qar Qbm Qbl cG (pv 2) (aa (pv 4) ab)))))))
   (ah (aH (pv 2))))),?_⟩
 obtain ⟨y,wt,ws,rfl,hy,hz,qh,hw,q⟩:=h
 have hs:=Zs1
 have XI:=hw.t_
 refine ⟨by show 0<=sizeLine;decide,λp1 n1=>?_⟩
 refine ⟨_,rfl,y,rfl,(),λp2 l2 H1 n2 mN jK La s1=>?_⟩
 rw[lR hy.lt]at jK
 have el:=m9 jK La
 subst el
 walk_at"z"
 have Dt:aj H H1:=(aj.upd n1).trans s1
 have gp:H1 p1=some (.lst []):=s1 _ _ ae
 have VP:=eF hy
 refine ⟨p2,rfl,⟨_,bf.of mN⟩,?_⟩
 refine iK (K:=K) (a:=p2) (xs:=cT (dJ y)) (λi σ H'=>∃(os:List Od) (bv sv cv wv:Option V),σ=[some (.str (S y)),some (.ref wt),some (.ref p1),bv,sv,cv,wv]/\H' p1=some (.lst (gn os))/\(∀o∈os,xm H' o/\o.o≠p1)/\os.map uj=((dJ y).take i).map (λb=>cB b ws (ws:))/\aG p1 H1 H')
  ⟨[],none,none,none,none,rfl,gp,λ_ h=>absurd h Qal,rfl,aG.refl _ _⟩ (λi σ H' _ ⟨_,_,_,_,_,_,_,_,_,h⟩=>bf.of (h _ _ mN (Ne.symm Du))) ?_ ?_
 ·rintro i x σ H2 hx ⟨os,bv,sv,cv,wv,rfl,gp,xM,nI,s2⟩
  obtain ⟨band,tK,rfl⟩:=fT hx
  have hi:i<(dJ y:):=(NU.mp tK).1
  have PK:Lt band:=hy.lt band (Qa8.mp ((eV y).mem_iff.mp (Qai tK))).1
  have xP:(os:)=i:=by
   have:=congrArg List.length nI
   rw[Qi,Qi,Qas]at this
   lia
  refine ⟨by show 0<=sizeLine;decide,λp3 n3=>?_⟩
  have BB:=s2 _ _ (Dt _ _ qh) (au qh n1)
  refine ⟨_,rfl,wt,rfl,⟨_,cu.of ((aj.upd n3) _ _ BB)⟩,?_⟩
  refine kF (K:=K) (a:=wt) (xs:=jy ws) (λj σ H'=>∃(ps:List Pr) (cv wv:Option V),σ=[some (.str (S y)),some (.ref wt),some (.ref p1),some (.str (S [band])),some (.ref p3),cv,wv]/\H' p3=some (.lst (e_ ps))/\(∀p∈ps,jB H' p)/\ps.map Pr.pair=cB band ws j/\(ps:)<=12*j/\aj H2 H')
   ⟨[],cv,wv,rfl,ae,λ_ h=>absurd h Qal,rfl,Qao _,aj.upd n3⟩ (λj σ H' _ ⟨_,_,_,_,_,_,_,_,h⟩=>cu.of (h _ _ BB)) ?_ ?_
  ·rintro j x σ H3 T zc ⟨ps,Yf,Yg,rfl,uq,nH,gP,gQ,s3⟩ nT
   have hj:j<(ws:):=by
    have:=(NU.mp zc).1
    rwa [bN]at this
   rw[ir hj]at zc
   cases zc
   have xQ:ws[j]? =some ws[j]:=NT hj
   obtain ⟨Fi,pR⟩:=hw.all _ (Qa1 hj)
   generalize ws[j]=w at xQ Fi pR ⊢
   walk_at"j"
   have UG:=aj.upd (o:= .tup [.int j,.str (S w)]) nT
   have Jd:=UG _ _ uq
   refine ⟨_,rfl,.inl ⟨rfl,_,bf.of Jd⟩,_,rfl,w,rfl,?_⟩
   refine uV (l:=w) (λm acc H'=>aj (upd H3 T (.tup [.int j,.str (S w)])) H'/\∃vs:List Pr,acc=e_ vs/\(∀p∈vs,jB H' p)/\vs.map Pr.pair=h_ band j w m/\(vs:)<=m) () ⟨aj.refl _,[],rfl,λ_ h=>absurd h Qal,rfl,YS _⟩ ?_ ?_
   ·rintro m l acc H4 T2 Nx hm nG ⟨s4,vs,rfl,LL,LM,Yh⟩ Ug nx
    have Zo:m<(w:):=(NU.mp hm).1
    have es:=lS (band:=band) (c:=j) hm
    rw[show y8 band l=(decide (l=band)||decide (l=ak band)) from rfl]at es
    refine ⟨T2,_,rfl,cu.of ae,rfl,_,_,rfl,_,_,rfl,rfl,?_⟩
    refine ⟨⟨rfl,rfl,trivial⟩,?_⟩
    have Yi:=aj.upd (o:= .tup [.int m,.str (S [l])]) Ug
    refine ⟨_,rfl,_,rfl,_,rfl,band,rfl,PK,by show 2<=sizeLine;decide,λt nt=>?_⟩
    refine ⟨t,_,rfl,.inr (cu.of ae),rfl,rfl,_,rfl,?_⟩
    have Je:=Yi.trans (aj.upd (o:= .tup [.str (S [band]),.str (S [ak band])]) nt)
    generalize upd (upd H4 T2 (.tup [.int m,.str (S [l])])) t (.tup [.str (S [band]),.str (S [ak band])])=H5 at Je ⊢
    show if Fs (.str (S [l])) [.str (S [band]),.str (S [ak band])]=true then _ else _
    rw[we]
    walk_at"e"
    ·rw[if_pos z]at es
     refine ⟨_,rfl,_,rfl,by show 2<=sizeLine;decide,λt2 Pw=>?_⟩
     refine nx _ _ (by simpa using nG) ⟨(s4.trans Je).trans (aj.upd Pw),vs++[⟨t2,j,m⟩],rS vs ⟨t2,j,m⟩,λp hp=>?_,by rw[Qad,LM,es];rfl,by rw[U3];show (vs:)+1<=_;lia⟩
     rcases Qaf.mp hp with g | g
     ·exact (LL p g).same (Je.trans (aj.upd Pw))
     ·have e2:=Qab.mp g
      subst e2
      exact ⟨ae,by show j<1000;lia,by show m<1000;lia⟩
    ·rw[if_neg z,Qa4]at es
     exact nx _ _ (Qdq nG) ⟨s4.trans Je,vs,rfl,λp hp=>(LL p hp).same Je,by rw[es];exact LM,()⟩
   ·rintro acc H4 D nG ⟨s4,vs,rfl,LL,LM,Yh⟩ hD
    have Fh:=s4 _ _ Jd
    refine ⟨p3,D,_,_,rfl,rfl,(aj.upd hD) _ _ Fh,ae,by rw[cE,cE];lia,?_⟩
    rw[CN]
    have PC:aj H3 (upd H4 D (.lst (e_ vs))):=(UG.trans s4).trans (aj.upd hD)
    have Jf:=(aj.upd (o:= .lst (e_ vs)) hD) _ _ Fh
    have Yj:H2 p3=none:=n3
    refine ⟨ps++vs,_,_,rfl,ae,λp hp=>?_,by rw[Qad,gP,LM,j8 xQ],by rw[U3];lia,λa o ea=>by rw[aq (au ea Yj)];exact PC _ _ (s3 a o ea)⟩
    rcases Qaf.mp hp with g | g
    ·exact ((nH p g).same PC).ts (aR.jx Jf)
    ·exact ((LL p g).same (aj.upd hD)).ts (aR.jx Jf)
  ·rintro σ H3 ⟨ps,Yf,Yg,rfl,uq,nH,gP,gQ,s3⟩
   rw[bN]at gP gQ
   have xH:=s3 _ _ gp
   have Z9:p3≠p1:=λz=>by rw[z,gp]at n3;cases n3
   refine ⟨_,rfl,.inl ⟨rfl,_,bf.of xH⟩,_,rfl,p1,_,_,rfl,rfl,xH,by rw[gI];lia,?_⟩
   refine ⟨os++[⟨p3,ps⟩],_,_,_,_,rfl,by rw[ae];exact congrArg (λx=>some (HO.lst x)) (m_ os ⟨p3,ps⟩),λo ho=>?_,?_,λa o ea z=>by rw[aq z];exact s3 _ _ (s2 a o ea z)⟩
   ·rcases Qaf.mp ho with g | g
    ·exact ⟨((xM o g).1.same s3).jx xH (xM o g).2,(xM o g).2⟩
    ·rw[Qab.mp g]
     exact ⟨xm.jx (o:=⟨p3,ps⟩) ⟨uq,nH⟩ xH Z9,Z9⟩
   ·rw[Qad,nI, <-take_snoc tK,Qad]
    exact congrArg (λz=>_++[z]) gP
 ·rintro σ H2 ⟨os,bv,sv,cv,wv,rfl,gp,xM,nI,s2⟩
  rw[aY,Qbg]at nI
  exact ⟨_,rfl,q p1 os H2 n1 gp (λo ho=>(xM o ho).1) nI λa o ea=>s2 _ _ (Dt a o ea) (au ea n1)⟩
theorem Jg:bV P w K mg base gu 9 QL Rl ["yard","words"] (zk K):=by
 have o8:=nK (P:=P) (w:=w) (base:=base) T
 have Fl:=BA (P:=P) (w:=w) (base:=base) T
 have BC:=Dw (P:=P) (w:=w) (base:=base) T
 refine T.Vw.fn.ok IM (λvs H Q E h=>EX h) (λ_ _ _ _ H vs Q E hr h=>?_)
 refine ⟨_,(ah (aH (ao o8 (hr.mono ∅) rfl T.Vl.mg T.Vl.fn.kp T.Vl.bd .nil aD (aa (ao Fl (hr.mono ∅) rfl T.F7.mg T.F7.fn.kp T.F7.bd .nil aD (aa (pv 0) (aa (ao BC (hr.mono ∅) rfl T.Pk.mg T.Pk.fn.kp T.Pk.bd .nil aD (aa (pv 0) (aa (pv 1) ab))) ab))) ab)))),?_⟩
 obtain ⟨y,wt,ws,rfl,hy,hz,hk,qh,q⟩:=h
 refine ⟨_,rfl,_,rfl,_,rfl,y,wt,ws,rfl,hy,hz,qh,hk.t_,hk.sw,λdr os H1 Fu ht s1=>?_⟩
 obtain ⟨nd,e⟩:=EV hy (λw hw=>(hk.sw w hw).1) ht
 obtain ⟨M,_,ok,_⟩:=id ht
 refine ⟨y,dr,ws,os,rfl,hy,hz,hk.ok,ok,Fu,λp qs H2 np hp UB M4 s2=>?_⟩
 have hl:=EW (os:=os) hk
 have X7:(qs:)<=24:=by rw[<-M4,Qi]at hl;omega
 refine ⟨p,qs,rfl,hp,UB,X7,by rw[M4];exact nd,λH3 s3=>?_⟩
 rw[M4]
 exact q _ H3 (s1.trans (s2.trans s3)) e
theorem Fn:bV P w K mg base gu 2 QS Rt ["_law_box_here","_law_things"] (vw K):=by
 walk_at"s"
 refine T.VA.fn.ok o5 (λvs H Q E h=>A4 h) (λ_ _ _ _ H vs Q E hr h=>?_)
 refine ⟨_,(ag (ar (i:=2) o5.nd rfl (Or.inl rfl) (bB (wc K rfl rfl) rfl T.z_list boot_list (aa (pv 1) ab)))
   (ag (ar (i:=3) o5.nd rfl (Or.inl rfl) (cP ab))
   (ag (dS PassesOwn.never (aK o9 (aA (aQ K rfl) rfl T.z_len Qaq (aa (pv 2) ab)) ai (aX _)) (ah (cj (bE K rfl Qar Qbm Qbl cG (pv 3) (aa (bE K rfl Qar Qdo Qdm mz (pv 2) (aa (ao bK (hr.mono ∅) rfl T.fE.mg T.fE.fn.kp T.fE.bd .nil aD (aa (pv 0) (aa (aA (aQ K rfl) rfl T.z_len Qaq (aa (pv 2) ab)) ab))) ab)) ab)))))
   (ah (aH (pv 3)))))),?_⟩
 obtain ⟨b,x,ys,rfl,hb,hx,hz,q⟩:=h
 have hs:=Zs1
 rcases hx with ⟨p,rfl,hp⟩ | ⟨l,rfl,rfl⟩
 ·refine ⟨_,rfl,.inr ⟨p,_,rfl,hp,λp1 n1=>?_⟩⟩
  walk_at "wk"
  intro p2 n2
  have s1:aj H (upd (upd H p1 (.lst ys)) p2 (.lst [])):=(aj.upd n1).trans (aj.upd n2)
  have Ff:p1≠b:=hb.ne n1
  have IQ:H p2=none:=aj.free (aj.upd n1) n2
  have IU:p2≠b:=hb.ne IQ
  walk_at"z"
  refine ⟨λm σ H'=>∃F E':List V,σ=[some (.ref b),some (.ref p),some (.ref p1),some (.ref p2)]/\m=E'.length/\(F++E').Perm ys/\H' p1=some (.lst E')/\H' p2=some (.lst F)/\bM H' b/\aG b H H',⟨_,[],ys,rfl,rfl,Qcn _,by rw[aq Du,ae],ae,hb.same s1,aG.of s1⟩,?_⟩
  rintro m σ H3 ⟨F,E',rfl,rfl,jC,gp,mN,jr,s4⟩
  have hlen:=jC.length_eq
  rw[U3]at hlen
  walk_at "wk"
  refine ⟨p1,_,rfl,.inl (bf.of gp),_,_,rfl,rfl,_,rfl,cf (λe=>?_) (λe=>?_)⟩
  ·have e':(0:Int)<(E'.length:Nat):=of_decide_eq_true e
   refine ⟨_,rfl,.inl ⟨rfl,_,bf.of mN⟩,_,rfl,.inl ⟨rfl,_,bf.of gp⟩,?_⟩
   walk_at "wk"
   refine ⟨p1,_,rfl,.inl (bf.of gp),b,_,rfl,jr,by omega,by omega,λr H4 MX pT s5=>?_⟩
   have JI:r<E'.length:=by omega
   walk_at"6"
   have gP:=gR (NT JI)
   have gQ:=gP.length_eq
   rw[Qaz]at gQ
   refine ⟨p2,_,_,rfl,rfl,by rw[aq (Ne.symm Du)];exact s5 _ _ mN IU,by omega,?_⟩
   walk_at"M"
   rw[Qbd]
   exact (Qfm F gP).trans jC
  ·have e':E'=[]:=by
    cases E' with
    | nil=>rfl
    | cons c r=>exact absurd (decide_eq_true (by show (0:Int)<(((r:)+1:Nat):Int);omega)) e
   subst e'
   rw[Qa4]at jC
   exact ⟨_,rfl,q p2 F H3 IQ IU mN jC jr s4⟩
 ·rw[aY]at hz
  refine ⟨_,rfl,.inl ⟨l,rfl,by omega,λp1 n1=>?_⟩⟩
  rw[<-aY l]at hz
  generalize cT l=ys at*
  walk_at "wk"
  intro p2 n2
  have s1:aj H (upd (upd H p1 (.lst ys)) p2 (.lst [])):=(aj.upd n1).trans (aj.upd n2)
  have Ff:p1≠b:=hb.ne n1
  have IQ:H p2=none:=aj.free (aj.upd n1) n2
  have IU:p2≠b:=hb.ne IQ
  walk_at"z"
  refine ⟨λm σ H'=>∃F E':List V,σ=[some (.ref b),some (.str (S l)),some (.ref p1),some (.ref p2)]/\m=E'.length/\(F++E').Perm ys/\H' p1=some (.lst E')/\H' p2=some (.lst F)/\bM H' b/\aG b H H',⟨_,[],ys,rfl,rfl,Qcn _,by rw[aq Du,ae],ae,hb.same s1,aG.of s1⟩,?_⟩
  rintro m σ H3 ⟨F,E',rfl,rfl,jC,gp,mN,jr,s4⟩
  have hlen:=jC.length_eq
  rw[U3]at hlen
  walk_at "wk"
  refine ⟨p1,_,rfl,.inl (bf.of gp),_,_,rfl,rfl,_,rfl,cf (λe=>?_) (λe=>?_)⟩
  ·have e':(0:Int)<(E'.length:Nat):=of_decide_eq_true e
   refine ⟨_,rfl,.inl ⟨rfl,_,bf.of mN⟩,_,rfl,.inl ⟨rfl,_,bf.of gp⟩,?_⟩
   walk_at "wk"
   refine ⟨p1,_,rfl,.inl (bf.of gp),b,_,rfl,jr,by omega,by omega,λr H4 MX pT s5=>?_⟩
   have JI:r<E'.length:=by omega
   walk_at"6"
   have gP:=gR (NT JI)
   have gQ:=gP.length_eq
   rw[Qaz]at gQ
   refine ⟨p2,_,_,rfl,rfl,by rw[aq (Ne.symm Du)];exact s5 _ _ mN IU,by omega,?_⟩
   walk_at"M"
   rw[Qbd]
   exact (Qfm F gP).trans jC
  ·have e':E'=[]:=by
    cases E' with
    | nil=>rfl
    | cons c r=>exact absurd (decide_eq_true (by show (0:Int)<(((r:)+1:Nat):Int);omega)) e
   subst e'
   rw[Qa4]at jC
   exact ⟨_,rfl,q p2 F H3 IQ IU mN jC jr s4⟩
theorem zL:bV P w K mg base gu 3 QU Rv ["_law_box_here","_law_yard_here","_law_words_here"] (pM K):=by
 have kA:=o6 (P:=P) (w:=w) (base:=base) T
 walk_at"n"
 have Jh:=Fn (P:=P) (w:=w) (base:=base) T
 refine T.VB.fn.ok eX (λvs H Q E h=>xf h) (λ_ _ _ _ H vs Q E hr h=>?_)
 refine ⟨_,(ag (ar (i:=3) eX.nd rfl (Or.inl rfl) (cP ab))
   (ag (cn PassesOwn.never rfl (eB K rfl (ao kA (hr.mono ∅) rfl T.JH.mg T.JH.fn.kp T.JH.bd .nil aD (aa (pv 1) ab))) (aB (i:=4) eX.nd rfl (Or.inr rfl)) (ag (ar (i:=5) eX.nd rfl (Or.inl rfl) (cP ab))
   (ag (cn PassesOwn.never rfl (mL K rfl rfl T.z_enumerate (aa (pv 2) ab)) (dF (n:=2) K rfl rfl (aZ (aB (i:=6) eX.nd rfl (Or.inr rfl)) (aZ (aB (i:=7) eX.nd rfl (Or.inl rfl)) dD))) (ah (cj (bE K rfl Qar Qd1 Qd0 kD (pv 5) (aa (bT ["_law_i","_law_letter","_law_c","_law_band"] [none,none,some 6,some 4] (mI rfl T.z_enumerate (aa (pv 7) ab)) ⟨⟨rfl,rfl,by first | exact .inl rfl | exact .inr rfl⟩,⟨⟨rfl,rfl,by first | exact .inl rfl | exact .inr rfl⟩,trivial⟩⟩ (λ_ _ _ _=>(dF (n:=2) K rfl rfl (aZ (aB (i:=0) (by decide+kernel:List.Nodup (["_law_i","_law_letter","_law_c","_law_band"]:List Str)) rfl (Or.inl rfl)) (aZ (aB (i:=1) (by decide+kernel:List.Nodup (["_law_i","_law_letter","_law_c","_law_band"]:List Str)) rfl (Or.inl rfl)) dD)))) (λ_ _ _ _=>(qP (aK (An K rfl) (pv 1) (bW (aa (pv 3) (aa (ao b4 (hr.mono ∅) rfl T.kQ.mg T.kQ.fn.kp T.kQ.bd .nil aD (aa (pv 3) ab)) ab))) (by with_unfolding_all rfl)))) (λ_ _ _ _=>(bW (aa (pv 2) (aa (pv 0) ab))))) ab)))))
   (ah (cj (bE K rfl Qar Qbm Qbl cG (pv 3) (aa (bB (bA K rfl) rfl T.z_tuple boot_tuple (aa (ao Jh (hr.mono ∅) rfl T.VA.mg T.VA.fn.kp T.VA.bd .nil aD (aa (pv 0) (aa (pv 5) ab))) ab)) ab)))))))
   (ah (aH (bW (aa (bB (bA K rfl) rfl T.z_tuple boot_tuple (aa (pv 2) ab)) (aa (bB (bA K rfl) rfl T.z_tuple boot_tuple (aa (pv 3) ab)) ab))))))),?_⟩
 obtain ⟨b,y,wt,ws,rfl,hb,hy,hz,Z_,qh,hw,q⟩:=h
 have hs:=Zs1
 have XI:=hw.t_
 walk_at "wk"
 intro p1 n1
 have Ff:p1≠b:=hb.ne n1
 have h1w:p1≠wt:=Ne.symm (au qh n1)
 refine ⟨_,rfl,y,rfl,by omega,λp2 l2 H1 n2 mN jK La s1=>?_⟩
 rw[lR hy.lt]at jK
 have el:=m9 jK La
 subst el
 have X6:H p2=none:=aj.free (aj.upd n1) n2
 have IU:p2≠b:=hb.ne X6
 walk_at"z"
 have Dt:aj H H1:=(aj.upd n1).trans s1
 have gp:H1 p1=some (.lst []):=s1 _ _ ae
 have VP:=eF hy
 refine ⟨p2,rfl,⟨_,bf.of mN⟩,?_⟩
 refine iK (K:=K) (a:=p2) (xs:=cT (dJ y)) (λi σ H'=>∃(os:List Od) (bv sv cv wv:Option V),σ=[some (.ref b),some (.str (S y)),some (.ref wt),some (.ref p1),bv,sv,cv,wv]/\H' p1=some (.lst (gn os))/\H' p2=some (.lst (cT (dJ y)))/\(os:)=i/\(∀o∈os,p_ H' o)/\(∀(j:Nat) (o:Od) (c:Nat),os[j]? =some o->(dJ y)[j]? =some c->(o.ps.map Pr.pair).Perm (cB c ws (ws:)))/\bM H' b/\aG b H H')
  ⟨[],none,none,none,none,rfl,gp,mN,rfl,λ_ h=>absurd h Qal,λj o c h=>by simp at h,hb.same Dt,aG.of Dt⟩ (λi σ H' _ ⟨_,_,_,_,_,_,_,h,_⟩=>bf.of h) ?_ ?_
 ·rintro i x σ H2 hx ⟨os,bv,sv,cv,wv,rfl,gp,mN,xP,xM,nI,i3,s2⟩
  obtain ⟨band,tK,rfl⟩:=fT hx
  have hi:i<(dJ y:):=(NU.mp tK).1
  have PK:Lt band:=hy.lt band (Qa8.mp ((eV y).mem_iff.mp (Qai tK))).1
  walk_at "wk"
  intro p3 n3
  have BB:=s2 _ _ qh Z_
  refine ⟨_,rfl,wt,rfl,⟨_,bf.of ((aj.upd n3) _ _ BB)⟩,?_⟩
  refine og (K:=K) (a:=wt) (xs:=jy ws) (λj σ H'=>∃(ps:List Pr) (cv wv:Option V),σ=[some (.ref b),some (.str (S y)),some (.ref wt),some (.ref p1),some (.str (S [band])),some (.ref p3),cv,wv]/\H' p3=some (.lst (e_ ps))/\(∀p∈ps,jB H' p)/\ps.map Pr.pair=cB band ws j/\(ps:)<=12*j/\aj H2 H')
   ⟨[],cv,wv,rfl,ae,λ_ h=>absurd h Qal,rfl,Qao _,aj.upd n3⟩ (λj σ H' _ ⟨_,_,_,_,_,_,_,_,h⟩=>bf.of (h _ _ BB)) ?_ ?_
  ·rintro j x σ H3 T zc ⟨ps,Yf,Yg,rfl,uq,nH,gP,gQ,s3⟩ nT
   have hj:j<(ws:):=by
    have:=(NU.mp zc).1
    rwa [bN]at this
   rw[ir hj]at zc
   cases zc
   have xQ:ws[j]? =some ws[j]:=NT hj
   obtain ⟨Fi,pR⟩:=hw.all _ (Qa1 hj)
   generalize ws[j]=w at xQ Fi pR ⊢
   walk_at"j"
   have UG:=aj.upd (o:= .tup [.int j,.str (S w)]) nT
   have Jd:=UG _ _ uq
   refine ⟨_,rfl,.inl ⟨rfl,_,bf.of Jd⟩,_,rfl,w,rfl,?_⟩
   refine uV (l:=w) (λm acc H'=>aj (upd H3 T (.tup [.int j,.str (S w)])) H'/\∃vs:List Pr,acc=e_ vs/\(∀p∈vs,jB H' p)/\vs.map Pr.pair=h_ band j w m/\(vs:)<=m) (by omega) ⟨aj.refl _,[],rfl,λ_ h=>absurd h Qal,rfl,YS _⟩ ?_ ?_
   ·rintro m l acc H4 T2 Nx hm nG ⟨s4,vs,rfl,LL,LM,Yh⟩ Ug nx
    have Zo:m<(w:):=(NU.mp hm).1
    have es:=lS (band:=band) (c:=j) hm
    rw[show y8 band l=(decide (l=band)||decide (l=ak band)) from rfl]at es
    refine ⟨T2,_,rfl,cu.of ae,rfl,_,_,rfl,_,_,rfl,rfl,?_⟩
    refine ⟨⟨rfl,rfl,trivial⟩,?_⟩
    have Yi:=aj.upd (o:= .tup [.int m,.str (S [l])]) Ug
    refine ⟨_,rfl,_,rfl,_,rfl,band,rfl,PK,by show 2<=sizeLine;decide,λt nt=>?_⟩
    refine ⟨t,_,rfl,.inr (cu.of ae),rfl,rfl,_,rfl,?_⟩
    have Je:=Yi.trans (aj.upd (o:= .tup [.str (S [band]),.str (S [ak band])]) nt)
    generalize upd (upd H4 T2 (.tup [.int m,.str (S [l])])) t (.tup [.str (S [band]),.str (S [ak band])])=H5 at Je ⊢
    show if Fs (.str (S [l])) [.str (S [band]),.str (S [ak band])]=true then _ else _
    rw[we]
    walk_at"e"
    ·rw[if_pos z]at es
     refine ⟨_,rfl,_,rfl,by show 2<=sizeLine;decide,λt2 Pw=>?_⟩
     refine nx _ _ (by simpa using nG) ⟨(s4.trans Je).trans (aj.upd Pw),vs++[⟨t2,j,m⟩],rS vs ⟨t2,j,m⟩,λp hp=>?_,by rw[Qad,LM,es];rfl,by rw[U3];show (vs:)+1<=_;omega⟩
     rcases Qaf.mp hp with g | g
     ·exact (LL p g).same (Je.trans (aj.upd Pw))
     ·have e2:=Qab.mp g
      subst e2
      exact ⟨ae,by show j<1000;omega,by show m<1000;omega⟩
    ·rw[if_neg z,Qa4]at es
     exact nx _ _ (Qdq nG) ⟨s4.trans Je,vs,rfl,λp hp=>(LL p hp).same Je,by rw[es];exact LM,by omega⟩
   ·rintro acc H4 D nG ⟨s4,vs,rfl,LL,LM,Yh⟩ hD
    have Fh:=s4 _ _ Jd
    refine ⟨p3,D,_,_,rfl,rfl,(aj.upd hD) _ _ Fh,ae,by rw[cE,cE];omega,?_⟩
    rw[CN]
    have PC:aj H3 (upd H4 D (.lst (e_ vs))):=(UG.trans s4).trans (aj.upd hD)
    have Jf:=(aj.upd (o:= .lst (e_ vs)) hD) _ _ Fh
    have Yj:H2 p3=none:=n3
    refine ⟨ps++vs,_,_,rfl,ae,λp hp=>?_,by rw[Qad,gP,LM,j8 xQ],by rw[U3];omega,λa o ea=>by rw[aq (au ea Yj)];exact PC _ _ (s3 a o ea)⟩
    rcases Qaf.mp hp with g | g
    ·exact ((nH p g).same PC).ts (aR.jx Jf)
    ·exact ((LL p g).same (aj.upd hD)).ts (aR.jx Jf)
  ·rintro σ H3 ⟨ps,Yf,Yg,rfl,uq,nH,gP,gQ,s3⟩
   rw[bN]at gP gQ
   have jr:=i3.same s3
   have b3:p3≠b:=i3.ne n3
   have xH:=s3 _ _ gp
   refine ⟨_,rfl,.inl ⟨rfl,_,bf.of xH⟩,?_⟩
   refine ⟨_,rfl,_,rfl,b,.ref p3,e_ ps,rfl,jr,.inl ⟨p3,rfl,.inl (bf.of uq)⟩,by rw[cE];omega,λqa ys H4 nq qb hq q8 pT s4=>?_⟩
   obtain ⟨M5,e1,e2⟩:=A5 (f:=λp:Pr=>V.ref p.t) q8 ps rfl
   have e3:ys=e_ M5:=e1
   subst e3
   have Yk:=aR.box jr s4
   refine ⟨qa,_,rfl,.inl ⟨bf.of hq,λt nt=>?_⟩⟩
   have Yl:aG b H2 (upd H4 t (.tup (e_ M5))):=((aG.of s3).trans s4).after (aj.upd nt)
   have PL:=Yl _ _ gp Ff
   have Ym:aR H4 (upd H4 t (.tup (e_ M5))):=aR.bL nt
   refine ⟨p1,_,_,rfl,rfl,PL,by rw[gI];omega,?_⟩
   have tsA:=(Yk.trans Ym).trans (aR.jx (o:= .lst (gn os++[.ref t])) PL)
   have S9:∀p∈M5,p∈ps:=λp hp=>e2.mem_iff.mp hp
   have hlen:=e2.length_eq
   refine ⟨os++[⟨t,M5⟩],_,_,_,_,rfl,by rw[ae];exact congrArg (λx=>some (HO.lst x)) (m_ os ⟨t,M5⟩),by rw[aq (Ne.symm Du)];exact Yl _ _ mN IU,by simp[xP],λo ho=>?_,λj o c hj hc=>?_,?_,?_⟩
   ·rcases Qaf.mp ho with g | g
    ·exact ((xM o g).same s3).ts tsA
    ·have eo:=Qab.mp g
     subst eo
     refine ⟨?_,λp hp=>(nH p (S9 p hp)).ts tsA,by show M5.length<=100;omega⟩
     exact (aR.jx (o:= .lst (gn os++[.ref t])) PL) _ _ ae
   ·by_cases dy:j<(os:)
    ·rw[Qbi dy]at hj
     exact nI j o c hj hc
    ·have hj2:j=(os:):=by
      have:=(NU.mp hj).1
      rw[U3]at this
      have:j<(os:)+1:=this
      omega
     subst hj2
     rw[Qb0 (YS _),Qfb]at hj
     have eo:(⟨t,M5⟩:Od)=o:=by simpa using hj
     rw[xP,tK]at hc
     have ec:band=c:=Qaj hc
     subst eo
     subst ec
     exact (e2.map Pr.pair).trans (by rw[gP])
   ·exact ((pT.same (aj.upd nt)).bL Ff)
   ·exact (s2.trans Yl).bL n1
 ·rintro σ H2 ⟨os,bv,sv,cv,wv,rfl,gp,mN,xP,xM,nI,i3,s2⟩
  rw[aY]at xP
  have BB:=s2 _ _ qh Z_
  refine ⟨_,rfl,wt,_,rfl,.inl ⟨bf.of BB,λtw ntw=>?_⟩⟩
  have sW:=aj.upd (o:=HO.tup (jy ws)) ntw
  have htw:upd H2 tw (HO.tup (jy ws)) tw=some (HO.tup (jy ws)):=ae
  have jr:=i3.same sW
  have s3:=s2.after sW
  have xH:=sW _ _ gp
  have UH:∀o∈os,p_ (upd H2 tw (HO.tup (jy ws))) o:=λo ho=>(xM o ho).same sW
  generalize upd H2 tw (HO.tup (jy ws))=H3 at htw jr s3 xH UH ⊢
  refine ⟨_,rfl,p1,_,rfl,.inl ⟨bf.of xH,λt nt=>?_⟩⟩
  refine ⟨by show 2<=sizeLine;decide,λdr PD=>?_⟩
  have sA:aj H3 (upd (upd H3 t (.tup (gn os))) dr (.tup [.ref tw,.ref t])):=(aj.upd nt).trans (aj.upd PD)
  have Uw:t≠dr:=λz=>by rw[<-z,ae]at PD;cases PD
  refine q dr os _ ⟨⟨tw,t,ae,sA _ _ htw,by rw[aq Uw,ae]⟩,λo ho=>(UH o ho).same sA⟩ ⟨xP,nI⟩ (jr.same sA) (s3.after sA)
theorem LN:bV P w K mg base gu 1 QM Rm ["_law_script","_law_k"] (Ca K):=by
 refine T.Vx.fn.ok nF (λvs H Q E h=>GD h) (λ_ _ _ _ H vs Q E hr h=>?_)
 refine ⟨_,(ag (ar (i:=2) nF.nd rfl (Or.inl rfl) (aC bp (aC lL ai (pv 1)) ai))
   (ag (cK (aK jI (pv 1) (aA (aQ K rfl) rfl T.z_len Qaq (aa (pv 0) ab)) (aX _)) (ah (ar (i:=2) nF.nd rfl (Or.inl rfl) (aN (bz K rfl) (pv 0) (pv 1) (λ_ _=>rfl)))) (ah (cK (aK o9 (aA (aQ K rfl) rfl T.z_len Qaq (aa (pv 0) ab)) ai (aX _)) (ah (ar (i:=2) nF.nd rfl (Or.inl rfl) (aC bp (pv 2) (aC lL (aC fI (aN (bz K rfl) (pv 0) (aC fI (pv 1) (aA (aQ K rfl) rfl T.z_len Qaq (aa (pv 0) ab))) (λ_ _=>rfl)) ai) ai)))) b9)))
   (ag (ar (i:=3) nF.nd rfl (Or.inl rfl) (aC fI (aC FH (aC bp (aC bp (aC fI (pv 2) ai) (aC lL ai (pv 1))) ai) ai) ai))
   (ah (aH (cP (aa (aN (bz K rfl) (cP (aa ai (aa (pv 2) ab))) (bB DL rfl T.z_int boot_int (aa (kC BN (pv 2) (aC FH ai ai) (aX _)) ab)) (λ_ _=>rfl)) (aa (aC bp (aC fI (pv 3) ai) ai) ab)))))))),?_⟩
 obtain ⟨a,ns,k,rfl,hS,hk,q⟩:=h
 have hp:(0:Int)<2147483629:=by decide
 walk_at "rd"
 refine ⟨a,_,rfl,.inl hS,?_⟩
 walk_at "rd"
 refine cf (λe=>?_) (λe=>?_)
 ·have e':(k:Int)<((ns.map V.int:):Nat):=of_decide_eq_true e
  rw[Qi]at e'
  obtain ⟨z,hz⟩:=Cc (ns:=ns) (i:=k) ()
  walk_at "rd"
  refine ⟨a,_,k,_,rfl,rfl,hS,bY hz,?_⟩
  walk_at "rd"
  refine λp1 n1=>?_
  walk_at "rd"
  refine .inr ⟨_,rfl,?_⟩
  obtain ⟨y,hy⟩:=AF _ z
  refine ⟨p1,_,_,_,rfl,rfl,bf.of ae,hy,?_⟩
  walk_at "rd"
  walk_at"y"
 ·walk_at "rd"
  refine ⟨a,_,rfl,.inl hS,?_⟩
  walk_at "rd"
  refine cf (λe2=>?_) (λe2=>?_)
  ·have e':(0:Int)<((ns.map V.int:):Nat):=of_decide_eq_true e2
   have hl:(0:Int)<((ns:):Int):=by rw[Qi]at e';exact e'
   have m1:0<=(k:Int)%((ns:):Int):=Qcf _ ()
   have m2:(k:Int)%((ns:):Int)<((ns:):Int):=Qcc _ hl
   obtain ⟨z,hz⟩:=Cc (ns:=ns) (i:=((k:Int)%((ns:):Int)).toNat) ()
   have Ju:tL (ns.map V.int) ((k:Int)%((ns.map V.int:):Nat))=some (V.int z):=by
    have:=bY hz
    rw[Int.toNat_of_nonneg m1]at this
    rw[Qi]
    exact this
   walk_at "rd"
   refine ⟨a,_,rfl,.inl hS,?_⟩
   walk_at "rd"
   refine ⟨a,_,_,_,rfl,rfl,hS,Ju,?_⟩
   walk_at "rd"
   refine λp1 n1=>?_
   walk_at "rd"
   refine .inr ⟨_,rfl,?_⟩
   obtain ⟨y,hy⟩:=AF _ _
   refine ⟨p1,_,_,_,rfl,rfl,bf.of ae,hy,?_⟩
   walk_at "rd"
   walk_at"y"
  ·walk_at "rd"
   refine λp1 n1=>?_
   walk_at "rd"
   refine .inr ⟨_,rfl,?_⟩
   obtain ⟨y,hy⟩:=AF _ _
   refine ⟨p1,_,_,_,rfl,rfl,bf.of ae,hy,?_⟩
   walk_at "rd"
   walk_at"y"
theorem Fo:bV P w K mg base gu 4 QY Rz ["_law_box_here","_law_yard_here","_law_many","_law_top"] (vI K):=by
 have nJ:=vL (P:=P) (w:=w) (base:=base) T
 walk_at"s"
 have LO:=I_ (P:=P) (w:=w) (base:=base) T
 refine T.VF.fn.ok kT (λvs H Q E h=>Bq h) (λ_ _ _ _ H vs Q E hr h=>?_)
 refine ⟨_,(ag (ar (i:=4) kT.nd rfl (Or.inl rfl) (cP (aa (ao nJ (hr.mono ∅) rfl T.JG.mg T.JG.fn.kp T.JG.bd .nil aD (aa (pv 0) (aa (pv 1) (aa (pv 3) ab)))) ab)))
   (ag (cn PassesOwn.never rfl (eU rfl T.z_range (aa (ao bK (hr.mono ∅) rfl T.fE.mg T.fE.fn.kp T.fE.bd .nil aD (aa (pv 0) (aa (pv 2) ab))) ab)) (aB (i:=5) kT.nd rfl (Or.inl rfl)) (ag (ar (i:=6) kT.nd rfl (Or.inl rfl) (aN (bz K rfl) (pv 4) (ao bK (hr.mono ∅) rfl T.fE.mg T.fE.fn.kp T.fE.bd .nil aD (aa (pv 0) (aa (aA (aQ K rfl) rfl T.z_len Qaq (aa (pv 4) ab)) ab))) (λ_ _=>rfl)))
   (ah (cK (aK lN (ao bK (hr.mono ∅) rfl T.fE.mg T.fE.fn.kp T.fE.bd .nil aD (aa (pv 0) (aa ai ab))) ai (aX _)) (ah (cj (bE K rfl Qar Qbm Qbl cG (pv 4) (aa (ao nJ (hr.mono ∅) rfl T.JG.mg T.JG.fn.kp T.JG.bd .nil aD (aa (pv 0) (aa (pv 1) (aa (pv 3) ab)))) ab)))) (ah (cj (bE K rfl Qar Qbm Qbl cG (pv 4) (aa (ao LO (hr.mono ∅) rfl T.Vz.mg T.Vz.fn.kp T.Vz.bd .nil aD (aa (pv 0) (aa (pv 1) (aa (pv 6) (aa (pv 3) ab))))) ab))))))))
   (ah (aH (bB (bA K rfl) rfl T.z_tuple boot_tuple (aa (pv 4) ab)))))),?_⟩
 obtain ⟨b,y,many,top,rfl,hb,hy,MZ,JJ,Kj,wd,FC,RI,hmt,q⟩:=h
 have hs:=Zs1
 refine ⟨_,rfl,_,rfl,_,rfl,b,y,top,rfl,hb,hy,MZ,JJ,FC,(),λw1 H1 sw1 wl1 xN s1=>?_⟩
 refine ⟨by show 1<=sizeLine;decide,λt nt=>?_⟩
 have tb:t≠b:=xN.ne nt
 have UE:=s1.none nt tb
 have UI:upd H1 t (.lst [.str (S w1)]) t=some (.lst (jy [w1])):=ae
 have i3:=xN.bL (o:= .lst [.str (S w1)]) tb
 have s2:=s1.bL (o:= .lst [.str (S w1)]) UE
 generalize upd H1 t (.lst [.str (S w1)])=H2 at UI i3 s2 ⊢
 refine ⟨_,rfl,_,rfl,b,many,rfl,i3,(),(),λr H3 hr jr s3=>?_⟩
 refine ⟨_,rfl,(),(),?_⟩
 rw[YQ]
 have UJ:r<many:=by lia
 refine fH (λi σ H'=>∃(ws:List Z) (kv ov:Option V),σ=[some (.ref b),some (.str (S y)),some (.int many),some (.int top),some (.ref t),kv,ov]/\H' t=some (.lst (jy ws))/\(ws:)=i+1/\(∀w∈ws,SW y w/\(w:)<=top)/\bM H' b/\aG b H H')
  ⟨[w1],none,none,rfl,s3 _ _ UI tb,rfl,λw hw=>by rw[Qab.mp hw];exact ⟨sw1,wl1⟩,jr,s2.trans s3⟩ ?_ ?_
 ·rintro i σ H4 hi ⟨ws,kv,ov,rfl,UK,LK,M6,pT,s4⟩
  refine ⟨_,rfl,_,rfl,_,rfl,t,_,rfl,.inl (bf.of UK),b,_,rfl,pT,by rw[bN];lia,by rw[bN];lia,λr5 H5 JI RL s5=>?_⟩
  rw[bN]at JI
  have UL:r5<(ws:):=by lia
  refine ⟨t,_,_,_,rfl,rfl,bf.of (s5 _ _ UK tb),bY (ir UL),?_⟩
  obtain ⟨so,lo⟩:=M6 _ (Qa1 UL)
  generalize ws[r5]=one at so lo ⊢
  refine ⟨_,rfl,b,3,rfl,RL,∅,∅,λr6 H6 hr6 PH s6=>?_⟩
  have IZ:=s6 _ _ (s5 _ _ UK tb) tb
  have s06:=s4.trans (s5.trans s6)
  refine ⟨_,_,rfl,rfl,_,rfl,cf (λf=>?_) (λf=>?_)⟩
  ·refine ⟨_,rfl,.inl ⟨rfl,_,bf.of IZ⟩,_,rfl,_,rfl,_,rfl,b,y,top,rfl,PH,hy,MZ,JJ,FC,(),λw7 H7 Yn Yo Yp s7=>?_⟩
   refine ⟨t,jy ws,_,rfl,rfl,s7 _ _ IZ tb,by rw[bN];lia,?_⟩
   refine ⟨ws++[w7],_,_,rfl,by rw[ae,rB],by rw[U3,LK];rfl,λw hw=>?_,Yp.bL tb,(s06.trans s7).bL UE⟩
   rcases Qaf.mp hw with g | g
   ·exact M6 w g
   ·rw[Qab.mp g];exact ⟨Yn,Yo⟩
  ·refine ⟨_,rfl,.inl ⟨rfl,_,bf.of IZ⟩,_,rfl,_,rfl,_,rfl,_,rfl,b,y,one,top,rfl,PH,hy,MZ,JJ,FC,(),so,lo,λw7 H7 Yn Yo Yp s7=>?_⟩
   refine ⟨t,jy ws,_,rfl,rfl,s7 _ _ IZ tb,by rw[bN];lia,?_⟩
   refine ⟨ws++[w7],_,_,rfl,by rw[ae,rB],by rw[U3,LK];rfl,λw hw=>?_,Yp.bL tb,(s06.trans s7).bL UE⟩
   rcases Qaf.mp hw with g | g
   ·exact M6 w g
   ·rw[Qab.mp g];exact ⟨Yn,Yo⟩
 ·rintro σ H4 ⟨ws,kv,ov,rfl,UK,LK,M6,pT,s4⟩
  refine ⟨_,rfl,t,_,rfl,.inl ⟨bf.of UK,λu nu=>?_⟩⟩
  have ub:u≠b:=pT.ne nu
  have VY:=s4.none nu ub
  have gQ:(places ws:)<=(ws:)*top:=Cr (λw hw=>(M6 w hw).2) (ws:) (YS _)
  have hmul:(ws:)*top<=many*top:=Nat.mul_le_mul_right _ ()
  exact q u ws _ VY ub ae ⟨λw hw=>⟨(M6 w hw).1,by have:=(M6 w hw).2;lia⟩,(),()⟩ (λw hw=>(M6 w hw).2) (pT.bL ub) (s4.bL VY)
theorem PM:bV P w K mg base gu 10 Q3 RC ["_law_script"] (nW K):=by
 have PN:=LN (P:=P) (w:=w) (base:=base) T
 have LP:=IT (P:=P) (w:=w) (base:=base) T
 have Ji:=Fo (P:=P) (w:=w) (base:=base) T
 have LQ:=Jg (P:=P) (w:=w) (base:=base) T
 have BD:=zL (P:=P) (w:=w) (base:=base) T
 have LR:=Jb (P:=P) (w:=w) (base:=base) T
 have BE:=zK (P:=P) (w:=w) (base:=base) T
 have xI:=uA (P:=P) (w:=w) (base:=base) T
 have BC:=Dw (P:=P) (w:=w) (base:=base) T
 have PQ:=LD (P:=P) (w:=w) (base:=base) T
 refine T.F43.fn.ok ku (λvs H Q E h=>Kw h) (λ_ _ _ _ H vs Q E hr h=>?_)
 refine ⟨_,(ag (cn PassesOwn.never rfl (eU rfl T.z_range (aa (aC bp ai (aA (aQ K rfl) rfl T.z_len Qaq (aa (bZ (yp K rfl) (pv 0) (bS ai) (bS ai)) ab))) ab)) (aB (i:=1) ku.nd rfl (Or.inl rfl)) (ag (ar (i:=2) ku.nd rfl (Or.inr rfl) (ao PN (hr.mono ∅) rfl T.Vx.mg T.Vx.fn.kp T.Vx.bd .nil aD (aa (pv 0) (aa (pv 1) ab))))
   (ag (ar (i:=3) ku.nd rfl (Or.inr rfl) (ao LP (hr.mono ∅) rfl T.Vy.mg T.Vy.fn.kp T.Vy.bd .nil aD (aa (pv 2) (aa ai (aa ai ab)))))
   (ag (ar (i:=4) ku.nd rfl (Or.inr rfl) (ao Ji (hr.mono ∅) rfl T.VF.mg T.VF.fn.kp T.VF.bd .nil aD (aa (pv 2) (aa (pv 3) (aa ai (aa ai ab))))))
   (ag (ar (i:=5) ku.nd rfl (Or.inr rfl) (ao LQ (hr.mono ∅) rfl T.Vw.mg T.Vw.fn.kp T.Vw.bd .nil aD (aa (pv 3) (aa (pv 4) ab))))
   (ag (Gf (i:=6) ["_law_turn","_law_box_here","_law_yard_here","_law_words_here"] [none,some 2,some 3,some 4] ku.nd rfl (Or.inl rfl) (eU rfl T.z_range (aa ai ab)) ⟨⟨rfl,rfl,by first | exact .inl rfl | exact .inr rfl⟩,⟨⟨rfl,rfl,by first | exact .inl rfl | exact .inr rfl⟩,⟨⟨rfl,rfl,by first | exact .inl rfl | exact .inr rfl⟩,trivial⟩⟩⟩ (λ_ _ _ _=>(aB (i:=0) (by decide+kernel:List.Nodup (["_law_turn","_law_box_here","_law_yard_here","_law_words_here"]:List Str)) rfl (Or.inl rfl))) (λ_ _ _ _=>eO) (λ_ _ _ _=>(ao BD (hr.mono ∅) rfl T.VB.mg T.VB.fn.kp T.VB.bd .nil aD (aa (pv 1) (aa (pv 2) (aa (bT ["_law_word","_law_box_here","_law_yard_here"] [none,some 1,some 2] (qq K rfl (pv 3)) ⟨⟨rfl,rfl,by first | exact .inl rfl | exact .inr rfl⟩,⟨⟨rfl,rfl,by first | exact .inl rfl | exact .inr rfl⟩,trivial⟩⟩ (λ_ _ _ _=>(aB (i:=0) (by decide+kernel:List.Nodup (["_law_word","_law_box_here","_law_yard_here"]:List Str)) rfl (Or.inl rfl))) (λ_ _ _ _=>eO) (λ_ _ _ _=>(ao LR (hr.mono ∅) rfl T.VG.mg T.VG.fn.kp T.VG.bd .nil aD (aa (pv 1) (aa (pv 2) (aa (pv 0) ab)))))) ab))))))
   (ag (cj (bE K rfl Qar Qbm Qbl cG (pv 6) (aa (bW (aa (pv 4) (aa (bB (bA K rfl) rfl T.z_tuple boot_tuple (aa (bT ["_law_order_here"] [none] (eB K rfl (ao BE (hr.mono ∅) rfl T.VE.mg T.VE.fn.kp T.VE.bd .nil aD (aa (pv 3) (aa (pv 4) ab)))) trivial (λ_ _ _ _=>(aB (i:=0) (by decide+kernel:List.Nodup (["_law_order_here"]:List Str)) rfl (Or.inl rfl))) (λ_ _ _ _=>eO) (λ_ _ _ _=>(bB (bA K rfl) rfl T.z_tuple boot_tuple (aa (pv 0) ab)))) ab)) ab))) ab)))
   (ag (ar (i:=6) ku.nd rfl (Or.inl rfl) (aC FT (pv 6) (bT ["_law_turn","_law_box_here","_law_yard_here","_law_words_here"] [none,some 2,some 3,some 4] (eU rfl T.z_range (aa ai ab)) ⟨⟨rfl,rfl,by first | exact .inl rfl | exact .inr rfl⟩,⟨⟨rfl,rfl,by first | exact .inl rfl | exact .inr rfl⟩,⟨⟨rfl,rfl,by first | exact .inl rfl | exact .inr rfl⟩,trivial⟩⟩⟩ (λ_ _ _ _=>(aB (i:=0) (by decide+kernel:List.Nodup (["_law_turn","_law_box_here","_law_yard_here","_law_words_here"]:List Str)) rfl (Or.inl rfl))) (λ_ _ _ _=>eO) (λ_ _ _ _=>(ao xI (hr.mono ∅) rfl T.VH.mg T.VH.fn.kp T.VH.bd .nil aD (aa (pv 1) (aa (ao BC (hr.mono ∅) rfl T.Pk.mg T.Pk.fn.kp T.Pk.bd .nil aD (aa (pv 2) (aa (pv 3) ab))) ab)))))))
   (ah (cK (Nn (lI (aA (D5 K rfl rfl) rfl T.z_all boot_all (aa (bT ["_law_drawing_here","_law_yard_here","_law_fewest"] [none,some 3,some 5] (eB K rfl (pv 6)) ⟨⟨rfl,rfl,by first | exact .inl rfl | exact .inr rfl⟩,⟨⟨rfl,rfl,by first | exact .inl rfl | exact .inr rfl⟩,trivial⟩⟩ (λ_ _ _ _=>(aB (i:=0) (by decide+kernel:List.Nodup (["_law_drawing_here","_law_yard_here","_law_fewest"]:List Str)) rfl (Or.inl rfl))) (λ_ _ _ _=>eO) (λ_ _ _ _=>(kC BN (ao PQ (hr.mono ∅) rfl T.VD.mg T.VD.fn.kp T.VD.bd .nil aD (aa (pv 1) (aa (pv 0) ab))) (pv 2) (aX _)))) ab)))) (ah (aH L8)) b9))))))))))
   (ah (aH L8))),?_⟩
 obtain ⟨a,ns,rfl,hS,hl,q⟩:=h
 have hs:=Zs1
 refine ⟨_,rfl,_,rfl,_,rfl,a,_,rfl,hS,λp1 n1=>?_⟩
 have Xq:(tR (ns.map V.int) (some 2) (some 5):)<=3:=by unfold tR;rw[Qas];exact Qbf (Nat.min_le_left _ _) (by have e1:∀n d:Nat,HT.jk n d (some ((2:Nat):Int))=min 2 n:=λn d=>HT.hX _ _ _;have e2:∀n d:Nat,HT.jk n d (some ((5:Nat):Int))=min 5 n:=λn d=>HT.hX _ _ _;show HT.jk _ _ (some ((5:Nat):Int)) - HT.jk _ _ (some ((2:Nat):Int))<=3;rw[e1,e2];lia)
 refine ⟨p1,_,rfl,.inl (bf.of ae),_,_,rfl,rfl,?_⟩
 have s1:=aj.upd (o:= .lst (tR (ns.map V.int) (some 2) (some 5))) n1
 generalize (tR (ns.map V.int) (some 2) (some 5):)=m at Xq ⊢
 generalize upd H p1 (.lst (tR (ns.map V.int) (some 2) (some 5)))=H1 at s1 ⊢
 refine ⟨_,rfl,(),(),?_⟩
 rw[show ((2:Int)+(m:Int)).toNat=2+m by lia]
 refine fH (λi σ H'=>∃v1 v2 v3 v4 v5 v6:Option V,σ=[some (.ref a),v1,v2,v3,v4,v5,v6]/\aj H H') ⟨none,none,none,none,none,none,rfl,s1⟩ ?_ ?_
 ·rintro i σ H2 hi ⟨v1,v2,v3,v4,v5,v6,rfl,s2⟩
  refine ⟨_,rfl,_,rfl,a,ns,i,by rw[Qcz];rfl,s2.seq hS,(),λb H3 nb bx s3=>?_⟩
  refine ⟨_,rfl,b,1,4,rfl,bx,∅,∅,∅,λy H4 hy MZ JJ bx4 s4=>?_⟩
  refine ⟨_,rfl,_,rfl,b,y,3,5,rfl,bx4,hy,(),(),∅,∅,∅,∅,∅,λt ws H5 nt tb ht RO VZ bx5 s5=>?_⟩
  refine ⟨_,rfl,_,rfl,y,t,ws,rfl,hy,(),RO,ht,λn H6 s6 hn=>?_⟩
  have V1:∀w∈ws,w≠[]/\(∀c∈w,c∈y)/\(w:)<=5:=λw hw=>⟨(RO.sw w hw).1.ne,(RO.sw w hw).1.bO,VZ w hw⟩
  have t_:=RO.t_
  -- Sd each drawing is
  have ⟨G,eG⟩:∃G:Hp->V->Prop,G=λH' v=>∃d us os,v=V.ref d/\j7 H' d us os/\wW y us/\gA y us os/\us.map aJ=ws.map aJ:=⟨_,rfl⟩
  have RP:∀{H' Yq v},G H' v->aR H' Yq->G Yq v:=λ{H' Yq v} g s=>by
   rw[eG]at g ⊢
   obtain ⟨d,us,os,e,h1,h2⟩:=g
   exact ⟨d,us,os,e,h1.ts s,h2⟩
  have bx6:=bx5.same s6
  have IZ:=s6 _ _ ht
  refine ⟨_,rfl,∅,∅,?_⟩
  refine qZ (λm acc H'=>(∀v∈acc,G H' v)/\bM H' b/\aG b H6 H') ∅ ⟨λv hv=>absurd hv Qal,bx6,aG.refl b H6⟩ ?_ ?_
  ·rintro m acc H7 Nx hm nG ⟨ha,UM,s7⟩ nx
   refine ⟨⟨rfl,rfl,rfl,trivial⟩,cW ?_⟩
   have ht7:=s7 _ _ IZ tb
   refine ⟨_,rfl,_,rfl,_,rfl,t,rfl,⟨_,cu.of ht7⟩,?_⟩
   refine mM (K:=K) (a:=t) (xs:=jy ws) (λk ac H'=>∃us:List Z,ac=jy us/\(∀u∈us,(∀c∈u,c∈y)/\(u:)<=10)/\us.map aJ=(ws.take k).map aJ/\bM H' b/\aG b H7 H') (by rw[bN];lia) (λk ac H' hh=>by obtain ⟨_,_,_,_,_,g⟩:=hh;exact cu.of (g _ _ ht7 tb)) ⟨[],rfl,λ_ h=>absurd h Qal,rfl,UM,aG.refl b H7⟩ ?_ ?_
   ·rintro k x ac H8 Nx8 hk hx AK ⟨us,rfl,ju,UN,M7,s8⟩ nx8
    rw[bN]at hk
    have ex:x=V.str (S ws[k]):=by
     have:=ir hk
     rw[this]at hx
     exact (Qaj hx).symm
    subst ex
    have wk0:=V1 _ (Qa1 hk)
    refine ⟨⟨rfl,rfl,trivial⟩,cW ?_⟩
    refine ⟨_,rfl,_,rfl,_,rfl,b,y,ws[k],rfl,M7,hy,(),(),wk0.1,wk0.2.1,(),λu H9 iu lu ru V2 s9=>?_⟩
    refine nx8 _ _ (by rw[U3];show _+1<=k+1;lia) ⟨us++[u],rB us u,λv hv=>?_,?_,V2,s8.trans s9⟩
    ·rcases Qaf.mp hv with g | g
     ·exact ju v g
     ·rw[Qab.mp g];exact ⟨iu,lu⟩
    ·rw[Qad,UN,List.take_succ,NT hk,Qad]
     show _++[aJ u]=_++[aJ ws[k]]
     rw[ru]
   rintro ac H8 D8 AK ⟨us,rfl,ju,UN,M7,s8⟩ PR
   rw[bN,Qbg]at UN
   have Db:D8≠b:=M7.ne PR
   have n7:=s8.none PR Db
   have s78:=s7.trans s8
   have n6:=s78.none PR Db
   have lu:(us:)=(ws:):=by have:=congrArg List.length UN;rwa [Qi,Qi]at this
   have wok:wW y us:=⟨by rw[lu];exact t_,λu hu=>⟨(ju u hu).1,Qbf (ju u hu).2 ∅⟩⟩
   refine ⟨b,y,D8,us,rfl,M7.bL Db,hy,(),Db,ae,wok,λd os H9 Fu nI V2 s9=>?_⟩
   have ts:=aR.box UM ((s8.bL (o:= .lst (jy us)) n7).trans s9)
   refine nx _ _ (by rw[U3];show _+1<=m+1;lia) ⟨λv hv=>?_,V2,(s78.bL (o:= .lst (jy us)) n6).trans s9⟩
   rcases Qaf.mp hv with g | g
   ·exact RP (ha v g) ts
   ·rw[Qab.mp g,eG]
    exact ⟨d,us,os,rfl,Fu,wok,nI,UN⟩
  rintro acc H7 D nG ⟨ha,UM,s7⟩ hD
  have Db:D≠b:=UM.ne hD
  have nD6:=s7.none hD Db
  have M7:=UM.bL (o:= .lst acc) Db
  have s8:=s7.bL (o:= .lst acc) nD6
  have PR:upd H7 D (.lst acc) D=some (.lst acc):=ae
  have ha8:∀v∈acc,G (upd H7 D (.lst acc)) v:=λv hv=>RP (ha v hv) (aR.bL hD)
  generalize upd H7 D (.lst acc)=H8 at M7 s8 PR ha8 ⊢
  have ht8:=s8 _ _ IZ tb
  have V3:wW y ws:=⟨t_,λw hw=>⟨(V1 w hw).2.1,Qbf (V1 w hw).2.2 ∅⟩⟩
  refine ⟨_,rfl,.inl ⟨rfl,_,bf.of PR⟩,?_⟩
  refine ⟨_,rfl,_,rfl,_,rfl,y,t,ws,rfl,hy,(),ht8,V3,λq0 LS H9 nq hq xP yj s9=>?_⟩
  refine ⟨q0,rfl,⟨_,bf.of hq⟩,?_⟩
  have V2:=M7.same s9
  have ok0:=sN yj
  have aaq:LS.length<=4:=by have:=ok0.1;have:=eF hy;lia
  refine kE (K:=K) (a:=q0) (xs:=gn LS) (λk ac H'=>∃rs:List Od,ac=gn rs/\(∀o∈rs,p_ H' o)/\rs.map uj=(LS.take k).map uj/\aj H9 H') (by rw[gI];lia) (λk ac H' h=>by obtain ⟨_,_,_,_,g⟩:=h;exact bf.of (g _ _ hq)) ⟨[],rfl,λ_ h=>absurd h Qal,rfl,aj.refl _⟩ ?_ ?_
  ·rintro k x ac UO aar hk hx AK ⟨rs,rfl,Yr,UJ,V4⟩ Ys
   rw[gI]at hk
   have ek:LS[k]? =some LS[k]:=NT hk
   have ex:x=V.ref (LS[k]).o:=by
    have:=rT ek
    rw[this]at hx
    exact (Qaj hx).symm
   subst ex
   have Yt:=(xP _ (Qa1 hk)).same V4
   have fw:(LS[k]).ps.length<=100:=by
    have e:uj LS[k]∈E9 y ws:=by rw[<-yj];exact List.mem_map_of_mem (Qa1 hk)
    obtain ⟨b',_,e2⟩:=Qam.mp e
    have e3:=congrArg List.length e2
    unfold uj at e3
    rw[Qi]at e3
    have:=ig b' (λw hw=>Qbf (V1 w hw).2.2 ∅) (ws:) (YS _)
    lia
   generalize LS[k]=o at ek Yt fw
   refine ⟨trivial,cW ?_⟩
   refine ⟨_,rfl,_,_,rfl,.inl ⟨bf.of Yt.ls,λu nu=>?_⟩⟩
   refine Ys _ _ (by rw[U3];show _+1<=k+1;lia) ⟨rs++[⟨u,o.ps⟩],m_ rs ⟨u,o.ps⟩,λr hr=>?_,?_,V4.trans (aj.upd nu)⟩
   ·rcases Qaf.mp hr with g | g
    ·exact (Yr r g).same (aj.upd nu)
    ·rw[Qab.mp g]
     exact ⟨ae,λp hp=>(Yt.pr p hp).same (aj.upd nu),fw⟩
   ·rw[Qad,UJ, <-take_snoc ek,Qad];rfl
  rintro ac UO D2 AK ⟨rs,rfl,Yr,UJ,V4⟩ VX
  rw[gI,Qbg]at UJ
  refine ⟨_,_,rfl,.inl ⟨bf.of ae,λov PJ=>?_⟩⟩
  refine ⟨by show 2<=sizeLine;decide,λd nd=>?_⟩
  have sA:=s9.trans (V4.trans ((aj.upd (o:= .lst (gn rs)) VX).trans ((aj.upd (o:= .tup (gn rs)) PJ).trans (aj.upd (o:= .tup [.ref t,.ref ov]) nd))))
  have sB:=(aj.upd (o:= .lst (gn rs)) VX).trans ((aj.upd (o:= .tup (gn rs)) PJ).trans (aj.upd (o:= .tup [.ref t,.ref ov]) nd))
  have Uw:ov≠d:=λz=>by rw[<-z,ae]at nd;cases nd
  have M1:=sA _ _ PR
  have aas:(acc:)<=3:=nG
  refine ⟨D,acc,_,rfl,rfl,M1,(),?_⟩
  have ts:=(aR.of sA).trans (aR.jx (o:= .lst (acc++[V.ref d])) M1)
  have Gd:G (upd (upd (upd (upd UO D2 (.lst (gn rs))) ov (.tup (gn rs))) d (.tup [.ref t,.ref ov])) D (.lst (acc++[V.ref d]))) (V.ref d):=by
   rw[eG]
   have tsD:=aR.jx (o:= .lst (acc++[V.ref d])) M1
   exact ⟨d,ws,rs,rfl,j7.ts ⟨⟨t,ov,ae,sA _ _ ht8,by rw[aq Uw,ae]⟩,λo ho=>(Yr o ho).same sB⟩ tsD,V3,sN (UJ.trans yj),rfl⟩
  have PU:∀v∈acc++[V.ref d],G (upd (upd (upd (upd UO D2 (.lst (gn rs))) ov (.tup (gn rs))) d (.tup [.ref t,.ref ov])) D (.lst (acc++[V.ref d]))) v:=λv hv=>by
   rcases Qaf.mp hv with g | g
   ·exact RP (ha8 v g) ts
   ·rw[Qab.mp g];exact Gd
  have PV:=(M7.same sA).bL (o:= .lst (acc++[V.ref d])) Db
  have Yu:=(s8.trans (aG.of sA)).bL (o:= .lst (acc++[V.ref d])) nD6
  have PX:upd (upd (upd (upd UO D2 (.lst (gn rs))) ov (.tup (gn rs))) d (.tup [.ref t,.ref ov])) D (.lst (acc++[V.ref d])) D=some (.lst (acc++[V.ref d])):=ae
  have Yv:(acc++[V.ref d]:)<=4:=by rw[U3];show _+1<=4;lia
  generalize upd (upd (upd (upd UO D2 (.lst (gn rs))) ov (.tup (gn rs))) d (.tup [.ref t,.ref ov])) D (.lst (acc++[V.ref d]))=H11 at PU PV Yu PX ⊢
  generalize acc++[V.ref d]=LU at PU PX Yv ⊢
  have Yw:=Yu _ _ IZ tb
  refine ⟨_,rfl,_,rfl,∅,∅,?_⟩
  refine qZ (λm ac H'=>(∀v∈ac,G H' v)/\bM H' b/\aG b H11 H') ∅ ⟨λv hv=>absurd hv Qal,PV,aG.refl b H11⟩ ?_ ?_
  ·rintro m ac V5 Nx hm AK ⟨ha,PY,JK⟩ nx
   refine ⟨⟨rfl,rfl,rfl,trivial⟩,cW ?_⟩
   have Yx:=JK _ _ Yw tb
   refine ⟨_,rfl,_,rfl,_,rfl,y,t,ws,rfl,hy,(),Yx,t_,RO.sw,λd os H13 Fu htm PZ=>?_⟩
   obtain ⟨_,_,Yy,_⟩:=htm
   refine ⟨b,d,y,ws,os,rfl,PY.same PZ,hy,(),(),V3,Fu,Yy,λq' Mf H14 NC Yz YA P0=>?_⟩
   have ts:=(aR.of PZ).trans (aR.box (PY.same PZ) P0)
   refine nx _ _ (by rw[U3];show _+1<=m+1;lia) ⟨λv hv=>?_,YA,(JK.trans (aG.of PZ)).trans P0⟩
   rcases Qaf.mp hv with g | g
   ·exact RP (ha v g) ts
   ·rw[Qab.mp g,eG]
    exact ⟨q',ws,Mf,rfl,NC,V3,Yz,rfl⟩
  rintro ac V5 D3 AK ⟨ha,PY,JK⟩ M1
  have YB:=JK _ _ PX Db
  have aat:(ac:)<=2:=AK
  refine ⟨D,D3,LU,ac,rfl,rfl,aj.upd M1 _ _ YB,ae,(),λL nL=>?_⟩
  have sC:=(aj.upd (o:= .lst ac) M1).trans (aj.upd (o:= .lst (LU++ac)) nL)
  have P4:∀v∈LU++ac,G (upd (upd V5 D3 (.lst ac)) L (.lst (LU++ac))) v:=λv hv=>by
   rcases Qaf.mp hv with g | g
   ·exact RP (PU v g) ((aR.box PV JK).trans (aR.of sC))
   ·exact RP (ha v g) (aR.of sC)
  have LV:upd (upd V5 D3 (.lst ac)) L (.lst (LU++ac)) L=some (.lst (LU++ac)):=ae
  have YC:(LU++ac:)<=6:=by rw[U3];lia
  have PZ:=Yu.trans (JK.trans (aG.of sC))
  generalize upd (upd V5 D3 (.lst ac)) L (.lst (LU++ac))=H13 at P4 LV PZ ⊢
  generalize LU++ac=als at P4 LV YC
  refine ⟨_,rfl,L,rfl,⟨_,bf.of LV⟩,?_⟩
  refine kE (K:=K) (a:=L) (xs:=als) (λi acc H'=>aj H13 H'/\acc=(List.replicate i true).map V.bl) () (λi acc H' h=>bf.of (h.1 _ _ LV)) ⟨aj.refl _,rfl⟩ ?_ ?_
  ·rintro i x acc H14 Nx hi hx nG ⟨P0,rfl⟩ nx
   have gx:=P4 x (Qai hx)
   rw[eG]at gx
   obtain ⟨d,us,os,rfl,Fu,hwu,nI,hr⟩:=gx
   refine ⟨⟨rfl,rfl,trivial⟩,cW ?_⟩
   refine ⟨_,rfl,_,rfl,y,d,us,os,rfl,hy,(),hwu,nI,Fu.same P0,λH15 s15=>?_⟩
   have ge:=E7 hy (λu hu=>(hwu.all u hu).1) nI (λw hw=>(RO.sw w hw).1) hr
   have de:decide ((n:Int)<=((uh (fG y us os):Nat):Int))=true:=decide_eq_true ()
   refine ⟨_,rfl,_,_,rfl,rfl,?_⟩
   show Nx (_++[V.bl (decide ((n:Int)<=((uh (fG y us os):Nat):Int)))]) _
   rw[de]
   exact nx _ _ (by simpa using nG) ⟨P0.trans s15,GG _⟩
  ·rintro acc H14 D4 nG ⟨P0,rfl⟩ hD4
   refine ⟨D4,_,rfl,bf.of ae,?_⟩
   rw[Kz]
   refine ⟨_,rfl,?_⟩
   exact ⟨_,_,_,_,_,_,rfl,s2.trans (aG.same nb s3 ((s4.trans (s5.trans (aG.of s6))).trans (PZ.trans (aG.of (P0.trans (aj.upd hD4))))))⟩
 ·rintro σ H2 ⟨v1,v2,v3,v4,v5,v6,rfl,s2⟩
  exact q H2
end
theorem cF{M:List Value->Prop}(h:M []):∀us:List Value,(us:)=0->M us
 | [],_=>h
theorem aP{M:List Value->Prop}{n:Nat}(h:∀(a:Value) (us:List Value),(us:)=n->M (a::us)):∀us:List Value,(us:)=n+1->M us
 | a::us,e=>h a us (Nat.succ.inj e)
def Dn(K:Fr)(x:Str)(st:Stmt)(f:Addr)(fd:FuncData):Prop:=PySem.W.nsIn K mainGlobals x=some (some (.ref f))/\J3 K x x st f fd
theorem dn{K:Fr}{x:Str}{st:Stmt}{f:Addr}{oc:Value}{od an:Option Addr}{Jp:Array (Option Value)}{kV doc pm da ct:Value}(a:PySem.W.nsIn K mainGlobals x=some (some (.ref f)))(l:K.lookup f=some ⟨oc,od,.func (PySem.W.fnOf x x (gF st) (fR st) (ay st) .none kV doc pm an da ct),Jp⟩)(c:PySem.W.codeIn K da x=true)(k:PySem.W.keepIn K (.ref f)=true):Dn K x st f (PySem.W.fnOf x x (gF st) (fR st) (ay st) .none kV doc pm an da ct):=⟨a,Ae l c k⟩
theorem il{K:Fr}{h:Heap}{mg:Str->Option Value}{x:Str}{st:Stmt}{f:Addr}{fd:FuncData}{ps:List Str}(X:K.In h)(G:h.Ns mainGlobals mg)(a:Dn K x st f fd)(b:∀(kV doc pm:Value) (an:Option Addr) (da ct:Value) (us:List Value),(us:)=(ps:)->bindArgs (PySem.W.fnOf x x (gF st) (fR st) (ay st) .none kV doc pm an da ct) ⟨us,[]⟩=pure (ps.zip us)):bD K mg x st ps f fd:=⟨a.2,Qfu X G a.1,a.2.binds b⟩
theorem all_mk{l:PySem.W.OpenLaw}{w:World}{K:Fr}{h:Heap}{mg:Str->Option Value}{fa f0 f1 f2 f3 f4 f5 f6 f7 f8 f9 Qw Qx Qy Qz QA QB QC QD IG IH QE QF QG QH QI QJ QK QL QM QN QO QP QQ QR QS QT QU QV QW QX QY QZ Q0 Q3 aO bg lE iH:Addr}(X:K.In h)(G:h.Ns mainGlobals mg)(Vd:mg "law"=some (.ref fa))
  {d0 d1 d2 d3 d4 d5 d6 d7 d8 d9 Q5 Q6 Q7 MT Q8 Q9 Q_ Ra Rb Rc Rf Rg Rh LA Ri Rj Rk Rl Rm Rn Ro Rp Rq Rr Rt Ru Rv Rw Rx Ry Rz RA RB RC:FuncData}
  {P5 P6 LW LX:Option Addr} {P7 LY:Array (Option Value)} {P8 P9 P_ Qa Jj Qb LZ L0 L1 L3 Dz L4:Value}
  (a0:Dn K "contrary" lY f0 d0)
  (a1:Dn K "turned" sO f1 d1)
  (a2:Dn K "bands" xp f2 d2)
  (a3:Dn K "steps_round" iC f3 d3)
  (a4:Dn K "strands_at" jc f4 d4)
  (a5:Dn K "points" sP f5 d5)
  (a6:Dn K "corner_points" gB f6 d6)
  (a7:Dn K "corners" oW f7 d7)
  (a8:Dn K "chord_starts" g7 f8 d8)
  (a9:Dn K "number_in" ki f9 d9)
  (a10:Dn K "count_meetings" fQ Qw Q5)
  (a11:Dn K "strands_in" jd Qx Q6)
  (a12:Dn K "corner_ends" iD Qy Q7)
  (a13:Dn K "shortened" kj Qz MT)
  (a14:Dn K "shortest" lZ QA Q8)
  (a15:Dn K "ring" Br QB Q9)
  (a16:Dn K "root" Bs QC Q_)
  (a17:Dn K "corner_steps" g8 QD Ra)
  (a18:Dn K "steps_ahead" iE IG Rb)
  (a19:Dn K "steps_back" je IH Rc)
  (a20:Dn K "parting" oX QE Rf)
  (a21:Dn K "side_of" oY QF Rg)
  (a22:Dn K "comes_ahead" iF QG Rh)
  (a23:Dn K "number_among" g9 QH LA)
  (a24:Dn K "seen_strand" iG QI Ri)
  (a25:Dn K "taut_order" jf QJ Rj)
  (a26:Dn K "taut" Bt QK Rk)
  (a27:Dn K "least" xq QL Rl)
  (a28:Dn K "_law_box" Bu QM Rm)
  (a29:Dn K "_law_take" xr QN Rn)
  (a30:Dn K "_law_other" sQ QO Ro)
  (a31:Dn K "_law_yard" xt QP Rp)
  (a32:Dn K "_law_short" sR QQ Rq)
  (a33:Dn K "_law_near" xu QR Rr)
  (a34:Dn K "_law_order" sS QS Rt)
  (a35:Dn K "_law_bands" sU QT Ru)
  (a36:Dn K "_law_drawing" l_ QU Rv)
  (a37:Dn K "_law_points" oZ QV Rw)
  (a38:Dn K "_law_met" Bv QW Rx)
  (a39:Dn K "_law_strands" md QX Ry)
  (a40:Dn K "_law_words" sV QY Rz)
  (a41:Dn K "_law_bent" xv QZ RA)
  (a42:Dn K "_law_exchanged" jg Q0 RB)
  (a43:Dn K "law" IF Q3 RC)
  (q_Seen:PySem.W.nsIn K mainGlobals "Seen"=some (some (.ref aO)))
  (pg_Seen:PySem.W.plainGet K aO Str.empty=true)
  (hd_Seen:PySem.W.hasDictIn K aO=true)
  (po_Seen:PySem.W.plainOver K aO=true)
  (sa_Seen:PySem.W.findIn K (.ref aO) "__setattr__"=some (some (.builtin "object.__setattr__")))
  (n_Seen_strand:PySem.W.findIn K (.ref aO) "strand"=some none)
  (n_Seen_way:PySem.W.findIn K (.ref aO) "way"=some none)
  (n_Seen_place:PySem.W.findIn K (.ref aO) "place"=some none)
  (q_Way:PySem.W.nsIn K mainGlobals "Way"=some (some (.ref bg)))
  (pg_Way:PySem.W.plainGet K bg Str.empty=true)
  (hd_Way:PySem.W.hasDictIn K bg=true)
  (po_Way:PySem.W.plainOver K bg=true)
  (sa_Way:PySem.W.findIn K (.ref bg) "__setattr__"=some (some (.builtin "object.__setattr__")))
  (n_Way_size:PySem.W.findIn K (.ref bg) "size"=some none)
  (n_Way_root_size:PySem.W.findIn K (.ref bg) "root_size"=some none)
  (n_Way_leads:PySem.W.findIn K (.ref bg) "leads"=some none)
  (n_Way_onward:PySem.W.findIn K (.ref bg) "onward"=some none)
  (n_Way_backward:PySem.W.findIn K (.ref bg) "backward"=some none)
  (mk_Way:PySem.W.makesIn K bg=true)
  (qi_Way:PySem.W.findIn K (.ref bg) "__init__"=some (some (.ref lE)))
  (fi_Way:PySem.W.isFn K (.ref lE)=true)
  (kc_Way:PySem.W.keepIn K (.ref bg)=true)
  (li_Way:K.lookup lE=some ⟨P8,P5,.func (PySem.W.fnOf "__init__" "Way.__init__" (gF kP) (fR kP) (ay kP) .none P9 P_ Qa P6 Jj Qb),P7⟩)
  (ci_Way:PySem.W.codeIn K Jj "Way.__init__"=true)
  (ki_Way:PySem.W.keepIn K (.ref lE)=true)
  (mk_Seen:PySem.W.makesIn K aO=true)
  (qi_Seen:PySem.W.findIn K (.ref aO) "__init__"=some (some (.ref iH)))
  (fi_Seen:PySem.W.isFn K (.ref iH)=true)
  (kc_Seen:PySem.W.keepIn K (.ref aO)=true)
  (li_Seen:K.lookup iH=some ⟨LZ,LW,.func (PySem.W.fnOf "__init__" "Seen.__init__" (gF iU) (fR iU) (ay iU) .none L0 L1 L3 LX Dz L4),LY⟩)
  (ci_Seen:PySem.W.codeIn K Dz "Seen.__init__"=true)
  (ki_Seen:PySem.W.keepIn K (.ref iH)=true)
  (z_all:PySem.W.nsIn K mainGlobals "all"=some none)
  (z_dict:PySem.W.nsIn K mainGlobals "dict"=some none)
  (z_enumerate:PySem.W.nsIn K mainGlobals "enumerate"=some none)
  (z_int:PySem.W.nsIn K mainGlobals "int"=some none)
  (z_len:PySem.W.nsIn K mainGlobals "len"=some none)
  (z_list:PySem.W.nsIn K mainGlobals "list"=some none)
  (z_max:PySem.W.nsIn K mainGlobals "max"=some none)
  (z_min:PySem.W.nsIn K mainGlobals "min"=some none)
  (z_range:PySem.W.nsIn K mainGlobals "range"=some none)
  (z_reversed:PySem.W.nsIn K mainGlobals "reversed"=some none)
  (z_sorted:PySem.W.nsIn K mainGlobals "sorted"=some none)
  (z_str:PySem.W.nsIn K mainGlobals "str"=some none)
  (z_tuple:PySem.W.nsIn K mainGlobals "tuple"=some none):
  ∃fd:FuncData,(∀(s:Shared) (v:Value),BindsTo s fd ⟨[v],[]⟩ [("_law_script",v)])/\∀base:Heap,K.In base->base.Ns mainGlobals mg->bV l.prog w K mg base gu 10 fa fd ["_law_script"] (nW K):=by
 have e:=Vd.symm.trans (Qfu X G a43.1)
 cases e
 obtain ⟨_,_,_,_,_,_,_,_,_,rfl,_⟩:=a43.2.ex
 have Jk:=Ae (st:=kP) li_Way ci_Way ki_Way
 have Qc:=Jk.binds (ps:=["self","yard","word","longest"]) λ_ _ _ _ _ _=>aP λ_=>aP λ_=>aP λ_=>aP λ_=>cF rfl
 have DA:=Ae (st:=iU) li_Seen ci_Seen ki_Seen
 have L5:=DA.binds (ps:=["self","strand","way","place"]) λ_ _ _ _ _ _=>aP λ_=>aP λ_=>aP λ_=>aP λ_=>cF rfl
 have T:Txt K mg _ _ _ _ _ _ _ _ _ _ _ _ _ _ _ _ _ _ _ _ _ _ _ _ _ _ _ _ _ _ _ _ _ _ _ _ _ _ _ _ _ _ _ _ _ _ _ _ _ _ _ _ _ _ _ _ _ _ _ _ _ _ _ _ _ _ _ _ _ _ _ _ _ _ _ _ _ _ _ _ _ _ _ _ _ _ _ _ _ _ _ _ _ _:=⟨il X G a0 λ_ _ _ _ _ _=>aP λ_=>cF rfl,il X G a1 λ_ _ _ _ _ _=>aP λ_=>cF rfl,il X G a2 λ_ _ _ _ _ _=>aP λ_=>cF rfl,il X G a3 λ_ _ _ _ _ _=>aP λ_=>aP λ_=>aP λ_=>cF rfl,il X G a4 λ_ _ _ _ _ _=>aP λ_=>aP λ_=>aP λ_=>cF rfl,il X G a5 λ_ _ _ _ _ _=>aP λ_=>aP λ_=>cF rfl,il X G a6 λ_ _ _ _ _ _=>aP λ_=>aP λ_=>aP λ_=>cF rfl,il X G a7 λ_ _ _ _ _ _=>aP λ_=>aP λ_=>cF rfl,il X G a8 λ_ _ _ _ _ _=>aP λ_=>cF rfl,il X G a9 λ_ _ _ _ _ _=>aP λ_=>aP λ_=>cF rfl,il X G a10 λ_ _ _ _ _ _=>aP λ_=>cF rfl,il X G a11 λ_ _ _ _ _ _=>aP λ_=>aP λ_=>cF rfl,il X G a12 λ_ _ _ _ _ _=>aP λ_=>aP λ_=>cF rfl,il X G a13 λ_ _ _ _ _ _=>aP λ_=>cF rfl,il X G a14 λ_ _ _ _ _ _=>aP λ_=>cF rfl,il X G a15 λ_ _ _ _ _ _=>aP λ_=>cF rfl,il X G a16 λ_ _ _ _ _ _=>aP λ_=>cF rfl,il X G a17 λ_ _ _ _ _ _=>aP λ_=>aP λ_=>aP λ_=>cF rfl,il X G a18 λ_ _ _ _ _ _=>aP λ_=>aP λ_=>aP λ_=>cF rfl,il X G a19 λ_ _ _ _ _ _=>aP λ_=>aP λ_=>aP λ_=>cF rfl,il X G a20 λ_ _ _ _ _ _=>aP λ_=>aP λ_=>aP λ_=>aP λ_=>cF rfl,il X G a21 λ_ _ _ _ _ _=>aP λ_=>cF rfl,il X G a22 λ_ _ _ _ _ _=>aP λ_=>aP λ_=>cF rfl,il X G a23 λ_ _ _ _ _ _=>aP λ_=>aP λ_=>cF rfl,il X G a24 λ_ _ _ _ _ _=>aP λ_=>aP λ_=>aP λ_=>cF rfl,il X G a25 λ_ _ _ _ _ _=>aP λ_=>aP λ_=>aP λ_=>cF rfl,il X G a26 λ_ _ _ _ _ _=>aP λ_=>aP λ_=>cF rfl,il X G a27 λ_ _ _ _ _ _=>aP λ_=>aP λ_=>cF rfl,il X G a28 λ_ _ _ _ _ _=>aP λ_=>aP λ_=>cF rfl,il X G a29 λ_ _ _ _ _ _=>aP λ_=>aP λ_=>cF rfl,il X G a30 λ_ _ _ _ _ _=>aP λ_=>cF rfl,il X G a31 λ_ _ _ _ _ _=>aP λ_=>aP λ_=>aP λ_=>cF rfl,il X G a32 λ_ _ _ _ _ _=>aP λ_=>aP λ_=>aP λ_=>cF rfl,il X G a33 λ_ _ _ _ _ _=>aP λ_=>aP λ_=>aP λ_=>aP λ_=>cF rfl,il X G a34 λ_ _ _ _ _ _=>aP λ_=>aP λ_=>cF rfl,il X G a35 λ_ _ _ _ _ _=>aP λ_=>cF rfl,il X G a36 λ_ _ _ _ _ _=>aP λ_=>aP λ_=>aP λ_=>cF rfl,il X G a37 λ_ _ _ _ _ _=>aP λ_=>aP λ_=>cF rfl,il X G a38 λ_ _ _ _ _ _=>aP λ_=>aP λ_=>cF rfl,il X G a39 λ_ _ _ _ _ _=>aP λ_=>aP λ_=>cF rfl,il X G a40 λ_ _ _ _ _ _=>aP λ_=>aP λ_=>aP λ_=>aP λ_=>cF rfl,il X G a41 λ_ _ _ _ _ _=>aP λ_=>aP λ_=>aP λ_=>cF rfl,il X G a42 λ_ _ _ _ _ _=>aP λ_=>aP λ_=>cF rfl,il X G a43 λ_ _ _ _ _ _=>aP λ_=>cF rfl,Qfu X G q_Seen,⟨pg_Seen,hd_Seen,po_Seen,sa_Seen⟩,n_Seen_strand,n_Seen_way,n_Seen_place,Qfu X G q_Way,⟨pg_Way,hd_Way,po_Way,sa_Way⟩,n_Way_size,n_Way_root_size,n_Way_leads,n_Way_onward,n_Way_backward,⟨mk_Way,qi_Way,fi_Way,kc_Way⟩,Jk,Qc,⟨mk_Seen,qi_Seen,fi_Seen,kc_Seen⟩,DA,L5,Qbz X G z_all,Qbz X G z_dict,Qbz X G z_enumerate,Qbz X G z_int,Qbz X G z_len,Qbz X G z_list,Qbz X G z_max,Qbz X G z_min,Qbz X G z_range,Qbz X G z_reversed,Qbz X G z_sorted,Qbz X G z_str,Qbz X G z_tuple⟩
 exact ⟨_,λs v=> .of_eq rfl,λbase _ _=>PM T⟩
theorem walk{l:PySem.W.OpenLaw}{q:Program}{loose:List Str}{XP:(Str->Option Value)->Heap->Prop}{YP:World->Heap->Prop}{d:DefRec}{K:Params->Fr}(hn:l.most=some 63)(SE:d.params.defaults=[])
  (hY:∀(w:World) (h:Heap),YP w h->(K w.params).In h)
  (F:∀(w:World) (mg:Str->Option Value) (fa:Addr) (h:Heap),(K w.params).In h->h.Ns mainGlobals mg->mg d.name=some (.ref fa)->
   ∃fd:FuncData,(∀(s:Shared) (u:Value),BindsTo s fd ⟨[u],[]⟩ [("_law_script",u)])/\∀base:Heap,(K w.params).In base->base.Ns mainGlobals mg->bV l.prog w (K w.params) mg base gu 10 fa fd ["_law_script"] (nW (K w.params))):
  PySem.W.WalkO q loose XP YP l.row.toRowW d [] (λf vs=>PySem.call f vs):=
 L2.BS (n:=63) (k:=10) (x:="_law_script") (CX:=λ_=>gu) (sp:=λw=>nW (K w.params)) hn ∅ SE ⟨rfl,∅,∅,rfl⟩ hY F (λ_ _ a ns hl _ hS=>⟨a,ns,rfl,hS,hl,λ_=>rfl⟩) λ_ _ _ _ _ z=>z
end My
structure PySem.W.Fast:Prop where (tw10059684655353402587 tw10161354062873618675 tw10293948272956925699 tw10298397474254626117 tw10326365382375328490 tw10492159489642708990 tw10495298153490733901 tw10496481405682374573 tw10569660316910597885 tw10600032643321066295 tw10659515535122133785 tw10854487419174425853 tw10857189278760087097 tw11012009302905009918 tw11045996455354369480 tw11053788081601462411 tw1112480577914021635 tw1113300022920632902 tw11178378233692897246 tw11368075213364121474 tw11514569431068685560 tw11668589488344989905 tw11676565291682227135 tw11823524245656208981 tw1204425175898745316 tw12162595234282644594 tw12480245388164550038 tw12570374981758003838 tw1257829844033815586 tw12601124999197354133 tw12707006114314292253 tw12805538854153238525 tw12848212380662048988 tw12859913802829075957 tw12927210684416214239 tw1316173609310606206 tw13396351559111362264 tw13463922190207006066 tw13466306582150834191 tw13529801738893950475 tw13545273836998777261 tw13552296034467918036 tw13622242151493574845 tw13955551268619065447 tw13965993589847260461 tw13967312370764278189 tw14042855395868129377 tw14272242806874776045 tw14284996944945394476 tw14336506730226541287 tw1446549451913948087 tw14604884558062198400 tw14613463896797217367 tw14633345449737359810 tw14651017763278887522 tw14775142938614169381 tw14923736202879021188 tw14924805705294877662 tw14999667174911221225 tw15003464468667044316 tw1508594856600507575 tw15109167442184775435 tw1550803448373967262 tw15624167668143569965 tw15637678381097261809 tw15650002930485371128 tw15655718695964286750 tw15659694468819574260 tw15787223881473318424 tw15900012273171309202 tw16089731448215619497 tw16286932417612864746 tw16294836841082594602 tw16407098201532982138 tw16461520997532750652 tw16506423896392163133 tw16788598502132536862 tw16804800386979636334 tw16837430082137384442 tw17071506679195587520 tw17079866133250063325 tw17161573483039753772 tw17164219912264214789 tw172936585255680231 tw17376602344360400567 tw17476382771219631006 tw17489026160497627489 tw17490142112659732036 tw17497309348959748475 tw17497370595041891822 tw17501916284419453772 tw17637036672573820757 tw17781028075560343165 tw17898928832000388268 tw17925156119455900464 tw17942553544449022418 tw18173342711434620940 tw1832105246378743333 tw18346396833652127196 tw184848644584676364 tw1863383362755931906 tw1880957200406638595 tw1949730247882120462 tw2186046877152526847 tw2235168245677042293 tw225929500927706752 tw2334226369510299783 tw2355882427745928222 tw2397438433930477048 tw2399736933027100857 tw2411540704748426017 tw2422785378923267841 tw2446770362131480970 tw2531125536632159211 tw2603555782158745660 tw2649739667456613668 tw2855836196579470610 tw3025272319043151209 tw3108739949209843688 tw3346073994632363609 tw3384584640095367585 tw3516224743948326731 tw3518076699370887443 tw3544165371008314484 tw357457009702366772 tw3620979037115653967 tw3644972836635118956 tw3680235796224620780 tw384021480771449241 tw3856190239277099831 tw3963462911055713359 tw4037294393536784484 tw4081557764127868773 tw4157380075814175075 tw4166571198009074131 tw4200890712213915626 tw4213507905000750510 tw4321806166311719314 tw4359512865662915095 tw4586100883163688052 tw4615136886974168909 tw4816668690892467084 tw4954736489643526590 tw4957527300467665426 tw5027476904760230165 tw5048513611845803291 tw531449276417984709 tw5407000816788740859 tw5615070923781773336 tw5731174114141101964 tw5731885759033970958 tw5732303729315978988 tw5803417959900812279 tw5982163719429693173 tw5985156790036944745 tw6268562248991804891 tw6274801264891797715 tw6357477787778883573 tw6587931576883019458 tw6640518098918089843 tw6645429271193341803 tw6655000750211794331 tw6720978516563992212 tw6828957530208872461 tw6997456817629692174 tw7080236653947990055 tw716220312176511398 tw7204888014295247684 tw7207724810928404141 tw7239807757184937824 tw7270544947273141234 tw7403915960574106233 tw7534710078350551797 tw7574023723166562048 tw7614419645524691393 tw7715976574429501735 tw7818380566440079743 tw788389824672883894 tw7987858709191541622 tw8083671920986434557 tw8123740425381114028 tw817217805062988426 tw8187963161064178969 tw8197258373274004209 tw8392370390153676001 tw8429882449991943269 tw8871780111020578950 tw8900730365044539999 tw892813662346239213 tw8964920002862986889 tw9004513430392290070 tw9162062164988665585 tw9167986632119259004 tw9414262223461400342 tw9444617227332109689 tw950669578484440170 tw9613211846732792888 tw9616400459920995246 tw986403408178988246 tw9960818827214183925:True)
open PySem PySem.W PyProof.Rows
set_option maxRecDepth 100000 in
set_option maxHeartbeats 0 in
theorem PySem.Challenge.cw_mustmeet_k35_whole_any_drawing_has_no_fe_holds : PySem.Challenge.rw_mustmeet_k35_whole_any_drawing_has_no_fe.Holds := by
 w_on;o_law;k_head;(case hw=>w_witness2)
 k_fill
 refine My.walk (l:=PySem.Challenge.rw_mustmeet_k35_whole_any_drawing_has_no_fe) rfl rfl (fun w h Y=>PySem.W.kIn_of Y) ?F
 case F=>
  intro w mg fa h KX G hmg
  refine' My.all_mk KX G hmg (My.dn ?a0 ?l0 ?c0 ?k0) (My.dn ?a1 ?l1 ?c1 ?k1) (My.dn ?a2 ?l2 ?c2 ?k2) (My.dn ?a3 ?l3 ?c3 ?k3) (My.dn ?a4 ?l4 ?c4 ?k4) (My.dn ?a5 ?l5 ?c5 ?k5) (My.dn ?a6 ?l6 ?c6 ?k6) (My.dn ?a7 ?l7 ?c7 ?k7) (My.dn ?a8 ?l8 ?c8 ?k8) (My.dn ?a9 ?l9 ?c9 ?k9) (My.dn ?a10 ?l10 ?c10 ?k10) (My.dn ?a11 ?l11 ?c11 ?k11) (My.dn ?a12 ?l12 ?c12 ?k12) (My.dn ?a13 ?l13 ?c13 ?k13) (My.dn ?a14 ?l14 ?c14 ?k14) (My.dn ?a15 ?l15 ?c15 ?k15) (My.dn ?a16 ?l16 ?c16 ?k16) (My.dn ?a17 ?l17 ?c17 ?k17) (My.dn ?a18 ?l18 ?c18 ?k18) (My.dn ?a19 ?l19 ?c19 ?k19) (My.dn ?a20 ?l20 ?c20 ?k20) (My.dn ?a21 ?l21 ?c21 ?k21) (My.dn ?a22 ?l22 ?c22 ?k22) (My.dn ?a23 ?l23 ?c23 ?k23) (My.dn ?a24 ?l24 ?c24 ?k24) (My.dn ?a25 ?l25 ?c25 ?k25) (My.dn ?a26 ?l26 ?c26 ?k26) (My.dn ?a27 ?l27 ?c27 ?k27) (My.dn ?a28 ?l28 ?c28 ?k28) (My.dn ?a29 ?l29 ?c29 ?k29) (My.dn ?a30 ?l30 ?c30 ?k30) (My.dn ?a31 ?l31 ?c31 ?k31) (My.dn ?a32 ?l32 ?c32 ?k32) (My.dn ?a33 ?l33 ?c33 ?k33) (My.dn ?a34 ?l34 ?c34 ?k34) (My.dn ?a35 ?l35 ?c35 ?k35) (My.dn ?a36 ?l36 ?c36 ?k36) (My.dn ?a37 ?l37 ?c37 ?k37) (My.dn ?a38 ?l38 ?c38 ?k38) (My.dn ?a39 ?l39 ?c39 ?k39) (My.dn ?a40 ?l40 ?c40 ?k40) (My.dn ?a41 ?l41 ?c41 ?k41) (My.dn ?a42 ?l42 ?c42 ?k42) (My.dn ?a43 ?l43 ?c43 ?k43) ?q_Seen ?pg_Seen ?hd_Seen ?po_Seen ?sa_Seen ?n_Seen_strand ?n_Seen_way ?n_Seen_place ?q_Way ?pg_Way ?hd_Way ?po_Way ?sa_Way ?n_Way_size ?n_Way_root_size ?n_Way_leads ?n_Way_onward ?n_Way_backward ?mk_Way ?qi_Way ?fi_Way ?kc_Way ?li_Way ?ci_Way ?ki_Way ?mk_Seen ?qi_Seen ?fi_Seen ?kc_Seen ?li_Seen ?ci_Seen ?ki_Seen ?z_all ?z_dict ?z_enumerate ?z_int ?z_len ?z_list ?z_max ?z_min ?z_range ?z_reversed ?z_sorted ?z_str ?z_tuple
  case a0|l0|c0|k0|a1|l1|c1|k1|a2|l2|c2|k2|a3|l3|c3|k3|a4|l4|c4|k4|a5|l5|c5|k5|a6|l6|c6|k6|a7|l7|c7|k7|a8|l8|c8|k8|a9|l9|c9|k9|a10|l10|c10|k10|a11|l11|c11|k11|a12|l12|c12|k12|a13|l13|c13|k13|a14|l14|c14|k14|a15|l15|c15|k15|a16|l16|c16|k16|a17|l17|c17|k17|a18|l18|c18|k18|a19|l19|c19|k19|a20|l20|c20|k20|a21|l21|c21|k21|a22|l22|c22|k22|a23|l23|c23|k23|a24|l24|c24|k24|a25|l25|c25|k25|a26|l26|c26|k26|a27|l27|c27|k27|a28|l28|c28|k28|a29|l29|c29|k29|a30|l30|c30|k30|a31|l31|c31|k31|a32|l32|c32|k32|a33|l33|c33|k33|a34|l34|c34|k34|a35|l35|c35|k35|a36|l36|c36|k36|a37|l37|c37|k37|a38|l38|c38|k38|a39|l39|c39|k39|a40|l40|c40|k40|a41|l41|c41|k41|a42|l42|c42|k42|a43|l43|c43|k43|q_Seen|pg_Seen|hd_Seen|po_Seen|sa_Seen|n_Seen_strand|n_Seen_way|n_Seen_place|q_Way|pg_Way|hd_Way|po_Way|sa_Way|n_Way_size|n_Way_root_size|n_Way_leads|n_Way_onward|n_Way_backward|mk_Way|qi_Way|fi_Way|kc_Way|li_Way|ci_Way|ki_Way|mk_Seen|qi_Seen|fi_Seen|kc_Seen|li_Seen|ci_Seen|ki_Seen|z_all|z_dict|z_enumerate|z_int|z_len|z_list|z_max|z_min|z_range|z_reversed|z_sorted|z_str|z_tuple=>k_is
